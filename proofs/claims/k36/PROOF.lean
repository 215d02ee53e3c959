import PyProof.Rows.All
import Wide.All
import OpenK.AllK
import Wide.FinOn
import Lean
import PyProof.EqAt
import PyProof.EqKinds
import PyProof.TupleCall
import KE.KIntText
import Wide.Seal
import PyProof.Rows.SortStr
import KE.KDictList
import PyProof.StrBlockH
import KE.KSortedL
import KE.KSorted
import PyProof.Rows.SortWalk
import PySem.Challenge.RW_underfloor_k36_maps
set_option Elab.async false
set_option linter.all false
set_option maxRecDepth 100000
namespace L2
open PySem PySem.Spec PyProof.Rows
noncomputable abbrev Key:=Sum Int Str
noncomputable def g7:Key→Value→Bool
 |.inl k,v=>Value.isInt k v
 |.inr x,v=>Value.isStrOf x v
noncomputable def vg(w:World):Key→Int
 |.inl k=>hashInt k
 |.inr x=>hashStr w x
theorem fe:∀ {k:Key} {v:Value},g7 k v=true→(∃i t,k=Sum.inl i∧v=Value.int i t)∨(∃x t,k=Sum.inr x∧v=Value.str x t)
 | .inl i,v,h=>by
   obtain⟨t,e⟩:=Value.isInt_shape (k:=i) (v:=v) h
   exact .inl ⟨i,t,rfl,e⟩
 | .inr x,v,h=>by
   obtain⟨t,e⟩:=Value.isStrOf_shape (x:=x) (v:=v) h
   exact .inr ⟨x,t,rfl,e⟩
theorem vS(i:Int)(t:Tok):g7 (.inl i) (.int i t)=true:=by simp[g7,Value.isInt]
theorem zt(x:Str)(t:Tok):g7 (.inr x) (.str x t)=true:=by simp[g7,Value.isStrOf]
theorem uV(a b:Int):decide ((Sum.inl a:Key)=Sum.inl b)=(a==b):=by
 by_cases e:a=b
 ·subst e;simp
 · have h:¬(Sum.inl a:Key)=Sum.inl b:=fun q=>e (Sum.inl.inj q)
   rw[decide_eq_false h]
   exact(beq_eq_false_iff_ne.mpr e).symm
theorem x4(a b:Str):decide ((Sum.inr a:Key)=Sum.inr b)=decide (a=b):=by
 by_cases e:a=b
 ·subst e;simp
 · have h:¬(Sum.inr a:Key)=Sum.inr b:=fun q=>e (Sum.inr.inj q)
   rw[decide_eq_false h,decide_eq_false e]
theorem xy(a:Int)(b:Str):decide ((Sum.inl a:Key)=Sum.inr b)=false:=decide_eq_false (fun q=>nomatch q)
theorem Bg(a:Str)(b:Int):decide ((Sum.inr a:Key)=Sum.inl b)=false:=decide_eq_false (fun q=>nomatch q)
noncomputable def bR(prog:Program)(w:World):PySem.KeyKind prog w Key where
 is:=g7
 hash:=vg w
 inj:=fun v a b ha hb=>by
   rcases fe ha with⟨i,t,rfl,rfl⟩|⟨x,t,rfl,rfl⟩
   · rcases fe hb with⟨j,u,rfl,e⟩|⟨y,u,rfl,e⟩
     ·injection e with e1 _;rw[e1]
     ·exact nomatch e
   · rcases fe hb with⟨j,u,rfl,e⟩|⟨y,u,rfl,e⟩
     ·exact nomatch e
     ·injection e with e1 _;rw[e1]
 byValue:=fun k v h=>by
   rcases fe h with⟨i,t,rfl,rfl⟩|⟨x,t,rfl,rfl⟩<;>rfl
 pyHash:=fun hv h=>by
   rcases fe hv with⟨i,t,rfl,rfl⟩|⟨x,t,rfl,rfl⟩
   ·exact wpAny_pyHash_int h
   ·exact wpAny_pyHash_str h
 eqBool:=fun hu hv h=>by
   rcases fe hu with⟨i,t,rfl,rfl⟩|⟨x,t,rfl,rfl⟩
   · rcases fe hv with⟨j,u,rfl,rfl⟩|⟨y,u,rfl,rfl⟩
     ·rw[uV]at h;exact wpAny_eqBool_int h
     ·rw[xy]at h;exact SeqAt.EqAt.int_str i t y u _ _ _ _ h
   · rcases fe hv with⟨j,u,rfl,rfl⟩|⟨y,u,rfl,rfl⟩
     ·rw[Bg]at h;exact SeqAt.EqAt.str_int x t j u _ _ _ _ h
     ·rw[x4]at h;exact wpAny_eqBool_str h
 «strs»:=fun k x t v h=>by
   rcases fe h with⟨i,u,rfl,e⟩|⟨y,u,rfl,e⟩
   ·exact nomatch e
   · injection e with e1 _
     subst e1
     cases v<;>rfl
theorem yW(prog:Program)(w:World)(i:Int)(t:Tok):(bR prog w).is (.inl i) (.int i t)=true:=vS i t
theorem vy(prog:Program)(w:World)(x:Str)(t:Tok):(bR prog w).is (.inr x) (.str x t)=true:=zt x t
end L2
namespace L2
open PySem PySem.Spec PyProof.Rows
inductive V where
 |aF|bl (b:Bool)|int (i:Int)|str (x:Str)|kb (b:Array UInt8)|oU (b:UInt64)|ref (a:Addr)|ty (n:String)
 deriving DecidableEq
noncomputable def RelV:V→Value→Prop
 |.aF,u=>u=Value.none
 |.bl b,u=>u=Value.bool b
 |.int i,u=>∃t,u=Value.int i t
 |.str x,u=>∃t,u=Value.str x t
 |.kb b,u=>∃t,u=Value.bytes b t
 |.oU b,u=>∃t,u=Value.float b t
 |.ref a,u=>u=Value.ref a
 |.ty n,u=>u=Value.type n
noncomputable abbrev Vals:List V→List Value→Prop:=Paired RelV
theorem Vals.length{xs:List V}{us:List Value}(r:Vals xs us):xs.length=us.length:=Paired.length r
theorem Vals.get:∀ {xs:List V} {us:List Value} {i:Nat} {x:V},Vals xs us→xs[i]? =some x→∃u,us[i]? =some u∧RelV x u
 |_,_,_,_,.nil,e=>by simp at e
 |_,_,0,_,.cons r _,e=>by simp at e;subst e;exact⟨_,rfl,r⟩
 | _,_,i+1,x,.cons _ t,e=>by
   obtain⟨u,h1,h2⟩:=Vals.get (i:=i) (x:=x) t (by simpa using e)
   exact⟨u,by simpa using h1,h2⟩
theorem Vals.set{x:V}{u:Value}(r:RelV x u):∀ {xs:List V} {us:List Value} (i:Nat),Vals xs us→Vals (xs.set i x) (us.set i u)
 |_,_,_,.nil=>.nil
 |_,_,0,.cons _ t=>.cons r t
 |_,_,i+1,.cons q t=>.cons q (Vals.set r i t)
theorem Vals.append:∀ {xs ys:List V} {us ws:List Value},Vals xs us→Vals ys ws→Vals (xs++ys) (us++ws)
 |_,_,_,_,.nil,s=>s
 |_,_,_,_,.cons r t,s=>.cons r (Vals.append t s)
theorem Vals.take:∀ {xs:List V} {us:List Value} (n:Nat),Vals xs us→Vals (xs.take n) (us.take n)
 |_,_,0,_=>.nil
 |_,_,_+1,.nil=>.nil
 |_,_,n+1,.cons r t=>.cons r (Vals.take n t)
theorem Vals.drop:∀ {xs:List V} {us:List Value} (n:Nat),Vals xs us→Vals (xs.drop n) (us.drop n)
 |_,_,0,r=>r
 |_,_,_+1,.nil=>.nil
 |_,_,n+1,.cons _ t=>Vals.drop n t
theorem Vals.none_of:∀ {xs:List V} {us:List Value} {i:Nat},Vals xs us→xs[i]? =none→us[i]? =none:=fun {xs us i} r e=>by
 have h1:=r.length
 have h2:xs.length≤i:=List.getElem?_eq_none_iff.mp e
 exact List.getElem?_eq_none_iff.mpr (by omega)
noncomputable def cT:Option V→Option Value→Prop
 |some v,some u=>RelV v u
 |none,none=>True
 |_,_=>False
noncomputable def KV{κ:Type}:List (κ×V)→List (κ×Value)→Prop:=Paired fun(p:κ×V) (q:κ×Value)=>p.1=q.1∧RelV p.2 q.2
noncomputable def kV:Key→V
 |.inl i=>.int i
 |.inr x=>.str x
inductive HO where
 |lst (xs:List V)
 |tup (xs:List V)
 |dK (kvs:List (Key×V))|dT (kvs:List (List Key×V))
 |set (S:Int→Bool) (n:Nat)
 |ins (C dx:Addr) (fs:List (Str×V))
 |own (x:Addr)
 |xd (fs:List (Str×V))
 |met (f x:Addr)
 |mw (lo hi:Int)
 |frz (o:Obj) (u:HO)
 |gr (ps:Array Value)
 |ext (φ:Heap→Prop)
noncomputable abbrev Hp:=Addr→Option HO
noncomputable def upd(H:Hp)(a:Addr)(o:HO):Hp:=fun b=>if b=a then some o else H b
theorem bF{H:Hp}{a:Addr}{o:HO}:upd H a o a=some o:=by unfold upd;rw[if_pos rfl]
theorem az{H:Hp}{a b:Addr}{o:HO}(h:b≠a):upd H a o b=H b:=by unfold upd;rw[if_neg h]
theorem uG{H:Hp}{a:Addr}{o u:HO}:upd (upd H a o) a u=upd H a u:=by
 funext b;unfold upd;split<;>rfl
theorem Bd{H:Hp}{a b:Addr}{o u:HO}(h:H a=some o)(h':H b=some u)(d:o≠u):a≠b:=by
 intro e;subst e;rw[h]at h';exact d (Option.some.inj h')
theorem eY{H:Hp}{a b:Addr}{o:HO}(h:H a=some o)(h':H b=none):a≠b:=by
 intro e;subst e;rw[h]at h';cases h'
section
variable(P:Program)(w:World)
noncomputable def bT(H:Hp)(h:Heap)(a:Addr):HO→Prop
 |.lst xs=>xs.length≤sizeLine∧∃(its:List Value) (n:Nat),Vals xs its∧h.get? a=some {cls:=.type "list",data:=.seq its.toArray n}
 |.tup xs=>xs.length≤sizeLine∧∃its:List Value,Vals xs its∧IsTup h a its.toArray
 |.dK kvs=>kvs.length≤sizeLine∧(a==sysModules)=false∧∃vs,KV kvs vs∧h.DictOf (bR P w) a vs
 |.dT kvs=>kvs.length≤sizeLine∧(a==sysModules)=false∧∃xs:List (List Key×Addr×Value),
     Paired (fun(p:List Key×V) (q:List Key×Addr×Value)=>p.1=q.1∧H q.2.1=some (.tup (p.1.map kV))∧RelV p.2 q.2.2) kvs xs∧
     ∃o es ep,h.get? a=some o∧o.ExactDict∧o.data=.dict es ep∧es.toList=xs.map (entryOfKey (tupleKind (bR P w)))∧(xs.map (·.1)).Nodup
 |.set S n=>h.SetOf (intKind P w) a S n
 |.ins C dx fs=>H dx=some (.own a)∧fs.length≤1000∧dx≠a∧h.get? a=some (PySem.W.instObj C dx)∧
     ∃mA,h.Ns1 dx mA∧(∀f,cT (fs.lookup f) (mA f))∧PySem.Within mA (fs.map (·.1))
 |.own _=>∃o,h.get? a=some o
 |.xd fs=>∃mA,h.Ns1 a mA∧∀f,cT (fs.lookup f) (mA f)
 |.mw lo hi=>∃t u v,h.get? a=some {cls:=.type "range",data:=.fields #[.int lo t,.int hi u,.int 1 v]}
 |.frz o u=>h.get? a=some o∧bT H h a u
 |.gr ps=>h.get? a=some {cls:=.none,data:=.fields ps}
 |.met f x=>h.get? a=some (PySem.W.methodObj (.ref f) (.ref x))
 |.ext φ=>φ h∧(∃o,h.get? a=some o)∧∀h1 h2:Heap,φ h1→(∀o,h1.get? a=some o→h2.get? a=some o)→φ h2
noncomputable def ba(H:Hp)(h:Heap):Prop:=∀a o,H a=some o→bT P w H h a o
end
section
variable{P:Program}{w:World}{H H':Hp}{h h':Heap}{a:Addr}{o:HO}
theorem bT.lt(x:bT P w H h a o):a<h.objs.size:=by
 cases o with
 |lst xs=>obtain⟨_,_,_,_,e⟩:=x;exact Heap.lt_size e
 |tup xs=>obtain⟨_,_,_,p⟩:=x;exact p.lt
 |dK kvs=>obtain⟨_,_,_,_,o,_,_,e,_⟩:=x;exact Heap.lt_size e
 |dT kvs=>obtain⟨_,_,_,_,o,_,_,e,_⟩:=x;exact Heap.lt_size e
 |set S n=>obtain⟨o,_,_,_,e,_⟩:=x;exact Heap.lt_size e
 |ins C dx fs=>obtain⟨_,_,_,e,_⟩:=x;exact Heap.lt_size e
 |own y=>obtain⟨_,e⟩:=x;exact Heap.lt_size e
 |xd fs=>obtain⟨_,⟨_,_,_,e,_⟩,_⟩:=x;exact Heap.lt_size e
 |mw lo hi=>obtain⟨_,_,_,e⟩:=x;exact Heap.lt_size e
 |frz ob u=>obtain⟨e,_⟩:=x;exact Heap.lt_size e
 |gr ps=>exact Heap.lt_size (show h.get? a=some _ from x)
 |met f y=>exact Heap.lt_size (show h.get? a=some _ from x)
 |ext φ=>obtain⟨_,⟨_,e⟩,_⟩:=x;exact Heap.lt_size e
theorem Paired.ou{α β:Type}{F G:α→β→Prop}:∀ {l₁:List α} {l₂:List β},Paired F l₁ l₂→(∀a b,F a b→G a b)→Paired G l₁ l₂
 |_,_,.nil,_=>.nil
 |_,_,.cons r t,f=>.cons (f _ _ r) (Paired.ou t f)
theorem bT.iC(x:bT P w H h a o)(k:∀b u,(b=a∨H b=some (.own a))→h.get? b=some u→h'.get? b=some u)
   (ho:∀b,H b=some (.own a)→H' b=some (.own a)) (ht:∀b xs,H b=some (.tup xs)→H' b=some (.tup xs)):bT P w H' h' a o:=by
 induction o with
 |lst xs=>obtain⟨z,its,n,r,e⟩:=x;exact⟨z,its,n,r,k _ _ (.inl rfl) e⟩
 |tup xs=>obtain⟨z,its,r,ob,e,c⟩:=x;exact⟨z,its,r,ob,k _ _ (.inl rfl) e,c⟩
 |dK kvs=>obtain⟨z,y,vs,r,ob,es,ep,e,c⟩:=x;exact⟨z,y,vs,r,ob,es,ep,k _ _ (.inl rfl) e,c⟩
 | dT kvs=>
   obtain⟨z,y,xs,r,ob,es,ep,e,c⟩:=x
   exact⟨z,y,xs,Paired.ou r fun p q z=>⟨z.1,ht _ _ z.2.1,z.2.2⟩,ob,es,ep,k _ _ (.inl rfl) e,c⟩
 |set S n=>obtain⟨ob,es,ep,t,e,c⟩:=x;exact⟨ob,es,ep,t,k _ _ (.inl rfl) e,c⟩
 | ins C dx fs=>
   obtain⟨d,z,ne,e,mA,⟨od,es,ep,e2,c⟩,r⟩:=x
   exact⟨ho _ d,z,ne,k _ _ (.inl rfl) e,mA,⟨od,es,ep,k _ _ (.inr d) e2,c⟩,r⟩
 |own y=>obtain⟨ob,e⟩:=x;exact⟨ob,k _ _ (.inl rfl) e⟩
 |xd fs=>obtain⟨mA,⟨od,es,ep,e,c⟩,r⟩:=x;exact⟨mA,⟨od,es,ep,k _ _ (.inl rfl) e,c⟩,r⟩
 |mw lo hi=>obtain⟨t,u,v,e⟩:=x;exact⟨t,u,v,k _ _ (.inl rfl) e⟩
 |frz ob u ih=>obtain⟨e,q⟩:=x;exact⟨k _ _ (.inl rfl) e,ih q⟩
 | gr ps=>
   have e:h.get? a=some {cls:=.none,data:=.fields ps}:=x
   show h'.get? a=some {cls:=.none,data:=.fields ps}
   exact k a _ (.inl rfl) e
 | met f y=>
   have e:h.get? a=some (PySem.W.methodObj (.ref f) (.ref y)):=x
   show h'.get? a=some (PySem.W.methodObj (.ref f) (.ref y))
   exact k a _ (.inl rfl) e
 |ext φ=>obtain⟨p,⟨o,e⟩,st⟩:=x;exact⟨st _ _ p fun o q=>k _ _ (.inl rfl) q,⟨o,k _ _ (.inl rfl) e⟩,st⟩
theorem ba.lt(x:ba P w H h)(e:H a=some o):a<h.objs.size:=(x a o e).lt
theorem ba.fresh(x:ba P w H h)(e:h.objs.size≤a):H a=none:=by
 cases q:H a with
 |none=>rfl
 |some u=>exact absurd (Nat.lt_of_lt_of_le (x.lt q) e) (Nat.lt_irrefl _)
theorem ba.kept(x:ba P w H h)(k:∀b u,h.get? b=some u→h'.get? b=some u):ba P w H h':=fun a o e=>
 (x a o e).iC (fun b u _ q=>k b u q) (fun _ q=>q) fun _ _ q=>q
theorem ba.laid(x:ba P w H h)(k:∀b u,h.get? b=some u→h'.get? b=some u)(hp:h.objs.size≤a)(new:bT P w (upd H a o) h' a o):ba P w (upd H a o) h':=fun b u e=>by
 have hn:=x.fresh hp
 by_cases hb:b=a
 ·subst hb;rw[bF]at e;cases e;exact new
 · rw[az hb]at e
   exact(x b u e).iC (fun c v _ q=>k c v q) (fun c q=>by rw[az (eY q hn)];exact q) fun c xs q=>by rw[az (eY q hn)];exact q
end
noncomputable def Rd(H:Hp)(a:Addr)(u:HO):Prop:=H a=some u∨∃o,H a=some (.frz o u)
theorem Rd.of{H:Hp}{a:Addr}{u:HO}(h:H a=some u):Rd H a u:=.inl h
theorem Rd.ok{P:Program}{w:World}{H:Hp}{h:Heap}{a:Addr}{u:HO}(r:Rd H a u)(x:ba P w H h):bT P w H h a u:=by
 rcases r with r|⟨o,r⟩
 ·exact x a u r
 · obtain⟨_,q⟩:=x a _ r
   exact q
noncomputable def jY:Option HO→Prop
 |some (.lst _)=>True
 |some (.dK _)=>True
 |some (.dT _)=>True
 |some (.set _ _)=>True
 |some (.ins _ _ _)=>True
 |some (.ext _)=>True
 |_=>False
section
variable{P:Program}{w:World}{H:Hp}{h h':Heap}{x e:Addr}{o':HO}
theorem ba.write(ok:ba P w H h)(mu:jY (H x))(he:e=x∨H e=some (.own x))(k:∀b u,b≠e→h.get? b=some u→h'.get? b=some u)(heo:∃u,h'.get? e=some u)
   (new:bT P w (upd H x o') h' x o'):ba P w (upd H x o') h':=fun b u q=>by
 have nown:∀c y,H c=some (.own y)→c≠x:=fun c y r z=>by subst z;rw[r]at mu;exact mu
 have ntup:∀c xs,H c=some (.tup xs)→c≠x:=fun c xs r z=>by subst z;rw[r]at mu;exact mu
 by_cases hb:b=x
 ·subst hb;rw[bF]at q;cases q;exact new
 · rw[az hb]at q
   by_cases hbe:b=e
   · have q':H b=some (.own x):=by
       rcases he with z|z
       ·exact absurd (hbe.trans z) hb
       ·rw[hbe];exact z
     rw[q]at q';cases q'
     obtain⟨v,hv⟩:=heo
     exact⟨v,by rw[hbe];exact hv⟩
   · refine(ok b u q).iC (fun c v hc r=>k c v ?_ r) (fun c r=>by rw[az (nown c b r)];exact r) fun c xs r=>by rw[az (ntup c xs r)];exact r
     rcases hc with rfl|hc
     ·exact hbe
     · rintro rfl
       rcases he with z|z
       ·exact nown c b hc z
       ·rw[hc]at z;cases z;exact hb rfl
end
structure Un(fs ex:List Addr)(H H':Hp)(h h':Heap):Prop where
 keep:∀b o,h.get? b=some o→H b=none→b∉fs→b∉ex→h'.get? b=some o
 slot:∀b o,h.get? b=some o→H b=none→b∈fs→b∉ex→∃sl,h'.get? b=some {o with slots:=sl}
 free:∀b o,h.get? b=some o→H b=none→b∉ex→H' b=none
 there:∀b o,h.get? b=some o→b∉ex→∃o',h'.get? b=some o'
 dI:∀b xs,H b=some (.tup xs)→H' b=some (.tup xs)
 dE:∀b o u,H b=some (.frz o u)→H' b=some (.frz o u)
 dQ:∀b ps,H b=some (.gr ps)→∃more,H' b=some (.gr (ps++more))
section
variable{fs fs' ex ex':List Addr}{H H1 H2:Hp}{h h1 h2 h':Heap}{a x e:Addr}{o:HO}
theorem Un.any(u:Un fs ex H H1 h h1){b:Addr}{ob:Obj}(q:h.get? b=some ob)(n:H b=none)(hx:b∉ex):∃sl,h1.get? b=some {ob with slots:=sl}:=by
 by_cases hb:b∈fs
 ·exact u.slot b ob q n hb hx
 ·exact⟨ob.slots,u.keep b ob q n hb hx⟩
theorem Un.trans(a:Un fs ex H H1 h h1)(b:Un fs ex H1 H2 h1 h2):Un fs ex H H2 h h2 where
 keep:=fun c ob q n hc hx=>b.keep c ob (a.keep c ob q n hc hx) (a.free c ob q n hx) hc hx
 slot:=fun c ob q n hc hx=>by
   obtain⟨sl,e1⟩:=a.slot c ob q n hc hx
   obtain⟨sl',e2⟩:=b.slot c _ e1 (a.free c ob q n hx) hc hx
   exact⟨sl',e2⟩
 free:=fun c ob q n hx=>by
   obtain⟨o',e1⟩:=a.there c ob q hx
   exact b.free c o' e1 (a.free c ob q n hx) hx
 there:=fun c ob q hx=>by
   obtain⟨o',e1⟩:=a.there c ob q hx
   exact b.there c o' e1 hx
 dI:=fun c xs q=>b.dI c xs (a.dI c xs q)
 dE:=fun c ob xs q=>b.dE c ob xs (a.dE c ob xs q)
 dQ:=fun c ps q=>by
   obtain⟨m1,e1⟩:=a.dQ c ps q
   obtain⟨m2,e2⟩:=b.dQ c _ e1
   exact⟨m1++m2,by rw[e2,Array.append_assoc]⟩
theorem Un.kept(k:∀b u,h.get? b=some u→h'.get? b=some u):Un fs ex H H h h':=
 ⟨fun b ob q _ _ _=>k b ob q,fun b ob q _ _ _=>⟨ob.slots,k b ob q⟩,fun _ _ _ n _=>n,fun b ob q _=>⟨ob,k b ob q⟩,fun _ _ q=>q,fun _ _ _ q=>q,fun _ ps q=>⟨#[],by rw[q];simp⟩⟩
theorem Un.refl:Un fs ex H H h h:=Un.kept fun _ _ q=>q
theorem Un.laid(k:∀b u,h.get? b=some u→h'.get? b=some u)(hp:h.objs.size≤a)(hn:H a=none):Un fs ex H (upd H a o) h h' where
 keep:=fun b u q _ _ _=>k b u q
 slot:=fun b u q _ _ _=>⟨u.slots,k b u q⟩
 free:=fun b u q n _=>by rw[az (Nat.ne_of_lt (Nat.lt_of_lt_of_le (Heap.lt_size q) hp))];exact n
 there:=fun b u q _=>⟨u,k b u q⟩
 dI:=fun b xs q=>by rw[az (eY q hn)];exact q
 dE:=fun b u xs q=>by rw[az (eY q hn)];exact q
 dQ:=fun b ps q=>⟨#[],by rw[az (eY q hn),q];simp⟩
theorem Un.write(mu:jY (H x))(he:e=x∨H e=some (.own x))(k:∀b u,b≠e→h.get? b=some u→h'.get? b=some u)(heo:∃u,h'.get? e=some u):Un fs ex H (upd H x o) h h':=by
 have hx:∀b,H b=none→b≠x:=fun b n z=>by subst z;rw[n]at mu;exact mu
 have hb:∀b,H b=none→b≠e:=fun b n z=>by
   subst z
   rcases he with r|r
   ·exact hx b n r
   ·rw[n]at r;cases r
 have hm:∀b u,H b=some u→¬jY (some u)→b≠x:=fun b u q nm z=>by subst z;rw[q]at mu;exact nm mu
 refine⟨fun b u q n _ _=>k b u (hb b n) q,fun b u q n _ _=>⟨u.slots,k b u (hb b n) q⟩,fun b u q n _=>by rw[az (hx b n)];exact n,fun b u q _=>?_,
   fun b xs q=>by rw[az (hm b _ q fun z=>z)];exact q,fun b u xs q=>by rw[az (hm b _ q fun z=>z)];exact q,fun b ps q=>⟨#[],by rw[az (hm b _ q fun z=>z),q];simp⟩⟩
 by_cases hbe:b=e
 ·subst hbe;exact heo
 ·exact⟨u,k b u hbe q⟩
theorem Un.mono(u:Un fs ex H H1 h h1)(hs:∀b∈fs,b∈fs')(hx:∀b∈ex,b∈ex'):Un fs' ex' H H1 h h1:=
 ⟨fun b ob q n hb he=>u.keep b ob q n (fun z=>hb (hs b z)) fun z=>he (hx b z),fun _ _ q n _ he=>u.any q n fun z=>he (hx _ z),fun b ob q n he=>u.free b ob q n fun z=>he (hx b z),fun b ob q he=>u.there b ob q fun z=>he (hx b z),u.dI,u.dE,u.dQ⟩
end
noncomputable def aU(h:Heap)(H:Hp):List Addr:=(List.range h.objs.size).filter fun a=>(H a).isSome
noncomputable def gb(h:Heap)(H:Hp):Heap:=PySem.W.hideAll h (aU h H)
theorem vb(h:Heap)(H:Hp):(gb h H).objs.size=h.objs.size:=PySem.W.hideAll_size _ _
theorem vo{h:Heap}{H:Hp}{b:Addr}{o:Obj}(e:h.get? b=some o)(n:H b=none):(gb h H).get? b=some o:=
 PySem.W.hideAll_get _ e fun hm=>by
   have q:(H b).isSome=true:=(List.mem_filter.mp hm).2
   rw[n]at q;simp at q
theorem xg{h:Heap}{H:Hp}{b:Addr}{o:Obj}(e:(gb h H).get? b=some o):h.get? b=some o∧H b=none:=by
 have e':h.get? b=some o:=PySem.W.of_hideAll (aU h H) e
 refine⟨e',?_⟩
 cases q:H b with
 |none=>rfl
 | some x=>
   have hm:b∈aU h H:=List.mem_filter.mpr ⟨List.mem_range.mpr (Heap.lt_size e'),by simp[q]⟩
   have z:(gb h H).get? b=none:=PySem.W.hideAll_none (aU h H) hm
   rw[z]at e;cases e
noncomputable def Bf(g h:Heap)(L:Addr):List (Addr×Obj):=(List.range h.objs.size).filterMap fun a=>if a=L∨(g.get? a).isSome=true then none else(h.get? a).map fun o=>(a,o)
noncomputable def rest(g h:Heap)(L d:Addr):List (Addr×Obj):=(Bf g h L).filter fun p=>decide (p.1≠d)
end L2
namespace L2
open PySem PySem.Spec PyProof.Rows
structure Mod(K:PySem.W.Frag)(mg:Str→Option Value)(base:Heap):Prop where
 nc:K.In base
 glob:base.Ns mainGlobals mg
 blt:∃mb,base.Ns builtinsNs mb∧∀x:Str,x≠"__name__"→mb x=bootBuiltins x
 nolimit:base.NoLimit
structure Cx where
 prog:Program
 w:World
 K:PySem.W.Frag
 mg:Str→Option Value
 base:Heap
 A:Around
 N:List Str
 bX:Shared
 fH:Hp
 env:Env
 outer:List Env
 stack:List Env
 ex:List Addr
 fn:Str→Bool
 calm:Bool
 pn:List (Addr×Obj)
 xe:Value→Shared→Prop
noncomputable def cv(l:List Env):List Addr:=l.filterMap (·.frame)
noncomputable abbrev Cx.fs(X:Cx):List Addr:=cv X.outer
noncomputable def aZ(sc:Scope)(x:Str):Prop:=sc.names.lookup x=some .local∨sc.names.lookup x=some .cell∨sc.names.lookup x=some .free
noncomputable def Loc(sc:Scope)(x:Str):Prop:=sc.names.lookup x=some .local∨sc.names.lookup x=some .cell
noncomputable def Look(env:Env)(h:Heap)(m:Str→Option Value)(x:Str)(u:Value):Prop:=
 (env.kindOf x=some .local∧m x=some u)∨((env.kindOf x=some .cell∨env.kindOf x=some .free)∧∃c,env.cells.lookup x=some c∧h.IsCell c (some u))
structure Cx.Ok(X:Cx):Prop where
 mod:Mod X.K X.mg X.base
 kind:X.env.scope.kind=.function
 glob:X.env.globals=mainGlobals
 blt:X.env.builtins=builtinsNs
 above:X.bX.heap.objs.size≤X.env.locals
 inj:∀x y c,X.env.cells.lookup x=some c→X.env.cells.lookup y=some c→x=y
 has:∀x,(X.env.kindOf x=some .cell∨X.env.kindOf x=some .free)→∃c,X.env.cells.lookup x=some c
 kE:∀x c,X.fn x=true→X.env.cells.lookup x=some c→X.bX.heap.objs.size≤c
 hd:X.calm=true→X.A.handled=none
 frames:X.A.frames=some X.stack
 lS:X.stack=X.outer∨(X.stack=X.env::X.outer∧X.env.frame=some X.env.locals)
 qi:∀b∈X.ex,b≠X.env.locals∧∀x c,X.env.cells.lookup x=some c→c≠b
 bs:∀b o,X.base.get? b=some o→X.bX.heap.get? b=some o∧X.fH b=none
 fW:X.base.objs.size≤X.bX.heap.objs.size
 kl:∀b o,X.base.get? b=some o→b∉X.ex
 lU:∀b∈X.ex,b∉X.fs
 d9:X.bX.heap.FunFrames X.base X.outer
 hJ:∀b∈X.fs,X.fH b=none
structure Inv(X:Cx)(pins:List (Addr×Obj))(σ:List (Option V))(H:Hp)(s:Shared):Prop where
 ok:X.Ok
 os:s.os=X.bX.os
 bare:AllBare s.gens
 base:Un X.fs X.ex X.fH H X.bX.heap s.heap
 loc:∃m,s.heap.Ns X.env.locals m∧∀(i:Nat) (x:Str) (v:V),X.N[i]? =some x→σ[i]? =some (some v)→aZ X.env.scope x→∃u,RelV v u∧Look X.env s.heap m x u
 cell:∀x c,X.env.cells.lookup x=some c→∃v,s.heap.IsCell c v
 free:H X.env.locals=none
 fJ:∀x c,X.env.cells.lookup x=some c→H c=none
 pin:∀p∈X.pn++pins,s.heap.get? p.1=some p.2∧H p.1=none∧p.1≠X.env.locals∧p.1∉X.fs∧∀v,p.2.data≠.cell v
 ao:ba X.prog X.w H s.heap
 len:σ.length=X.N.length
section
variable{X:Cx}{pins:List (Addr×Obj)}{σ:List (Option V)}{H H':Hp}{s:Shared}{h':Heap}
theorem Cx.Ok.zi(ok:X.Ok){b:Addr}{o:Obj}(e:X.base.get? b=some o):b∉X.fs:=fun hb=>by
 have:=(ok.d9.mem hb).1
 rw[e]at this;cases this
theorem Inv.bs(I:Inv X pins σ H s):∀b o,X.base.get? b=some o→s.heap.get? b=some o∧H b=none:=fun b o e=>
 ⟨I.base.keep b o (I.ok.bs b o e).1 (I.ok.bs b o e).2 (I.ok.zi e) (I.ok.kl b o e),I.base.free b o (I.ok.bs b o e).1 (I.ok.bs b o e).2 (I.ok.kl b o e)⟩
theorem Inv.bk(I:Inv X pins σ H s):∀b o,X.base.get? b=some o→s.heap.get? b=some o:=fun b o e=>(I.bs b o e).1
theorem Inv.mod(I:Inv X pins σ H s):Mod X.K X.mg X.base:=I.ok.mod
theorem Inv.cK(I:Inv X pins σ H s):X.K.In s.heap:=I.ok.mod.nc.keeps I.bk
theorem Inv.nolimit(I:Inv X pins σ H s):s.heap.NoLimit:=I.ok.mod.nolimit.keeps I.bk
theorem Inv.lt(I:Inv X pins σ H s):X.env.locals<s.heap.objs.size:=let⟨_,hn,_⟩:=I.loc;hn.lt
theorem Inv.sz(I:Inv X pins σ H s):X.bX.heap.objs.size≤s.heap.objs.size:=Nat.le_trans I.ok.above (Nat.le_of_lt I.lt)
theorem Inv.zy(I:Inv X pins σ H s){a:Addr}(h:s.heap.objs.size≤a):a∉X.fs:=fun hb=>by
 obtain⟨_,o,ho,_⟩:=I.ok.d9.mem hb
 exact absurd (Nat.lt_of_lt_of_le (Heap.lt_size ho) (Nat.le_trans I.sz h)) (Nat.lt_irrefl _)
theorem Inv.fm(I:Inv X pins σ H s):∀x c,X.env.cells.lookup x=some c→c≠X.env.locals:=fun x c e z=>by
 obtain⟨v,o,ho,hd⟩:=I.cell x c e
 obtain⟨m,⟨o',es,ep,ho',hd',_⟩,_⟩:=I.loc
 rw[z,ho']at ho;cases ho;rw[hd']at hd;cases hd
theorem Inv.d9(I:Inv X pins σ H s):s.heap.FunFrames X.base X.outer:=by
 have all:∀(l:List Env),(∀b∈cv l,b∈X.fs)→X.bX.heap.FunFrames X.base l→s.heap.FunFrames X.base l:=by
   intro l
   induction l with
   |nil=>intro _ _;trivial
   | cons env r ih=>
     intro hs hl
     obtain⟨hk,⟨L,o,hf,hn,ho,hd⟩,hr⟩:=hl
     have hL:L∈X.fs:=hs L (by unfold cv;rw[List.filterMap_cons,hf];exact List.mem_cons_self)
     obtain⟨sl,e⟩:=I.base.slot L o ho (I.ok.hJ L hL) hL fun z=>I.ok.lU L z hL
     exact⟨hk,⟨L,_,hf,hn,e,hd⟩,ih (fun b hb=>hs b (by unfold cv;rw[List.filterMap_cons,hf];exact List.mem_cons_of_mem _ hb)) hr⟩
 exact all X.outer (fun _ hb=>hb) I.ok.d9
theorem Inv.stack(I:Inv X pins σ H s):s.heap.FunFrames X.base X.stack:=by
 rcases I.ok.lS with e|⟨e,hf⟩
 ·rw[e];exact I.d9
 · rw[e]
   obtain⟨m,hn,_⟩:=I.loc
   refine .cons (by rw[I.ok.kind];decide) hf hn ?_ I.d9
   exact Heap.get?_none_of_le (Nat.le_trans I.ok.fW I.ok.above)
theorem Inv.lM(I:Inv X pins σ H s):∀b∈cv X.stack,b∈X.env.locals::X.fs:=fun b hb=>by
 rcases I.ok.lS with e|⟨e,hf⟩
 ·rw[e]at hb;exact List.mem_cons_of_mem _ hb
 · rw[e]at hb
   unfold cv at hb
   rw[List.filterMap_cons,hf]at hb
   exact hb
theorem Inv.sV(I:Inv X pins σ H s):∀b∈cv X.stack,H b=none:=fun b hb=>by
 rcases List.mem_cons.mp (I.lM b hb)with e|hb
 ·rw[e];exact I.free
 · obtain⟨_,o,ho,_⟩:=I.ok.d9.mem hb
   exact I.base.free b o ho (I.ok.hJ b hb) fun z=>I.ok.lU b z hb
theorem Inv.step{g':Array GenState}{t':Nat}{d':Drawn}{ch:List Addr}(I:Inv X pins σ H s)
   (hch:∀b∈ch,(b∈X.ex∨X.bX.heap.objs.size≤b)∧b≠X.env.locals∧(∀x c,X.env.cells.lookup x=some c→c≠b)∧∀p∈X.pn++pins,p.1≠b)
   (keep:∀b o,b≠X.env.locals→b∉X.fs→b∉ch→s.heap.get? b=some o→H b=none→h'.get? b=some o)
   (slot:∀b o,b≠X.env.locals→b∈X.fs→b∉ch→s.heap.get? b=some o→H b=none→∃sl,h'.get? b=some {o with slots:=sl}) (free:∀b o,b∉ch→s.heap.get? b=some o→H b=none→H' b=none)
   (there:∀b o,b∉ch→s.heap.get? b=some o→∃o',h'.get? b=some o')
   (dI:∀b xs,H b=some (.tup xs)→H' b=some (.tup xs)) (dE:∀b o u,H b=some (.frz o u)→H' b=some (.frz o u)) (dQ:∀b ps,H b=some (.gr ps)→∃more,H' b=some (.gr (ps++more)))
   (ns:∀m,s.heap.Ns X.env.locals m→h'.Ns X.env.locals m) (ao:ba X.prog X.w H' h') (hg:AllBare g'):
   Inv X pins σ H' {s with heap:=h',gens:=g',drawn:=d',toks:=t'}:=by
 have neL:∀b o,X.bX.heap.get? b=some o→b≠X.env.locals:=fun b o e=>Nat.ne_of_lt (Nat.lt_of_lt_of_le (Heap.lt_size e) I.ok.above)
 have neC:∀b o,X.bX.heap.get? b=some o→b∉X.ex→b∉ch:=fun b o e hx hb=>by
   rcases(hch b hb).1 with z|z
   ·exact hx z
   ·exact absurd (Nat.lt_of_lt_of_le (Heap.lt_size e) z) (Nat.lt_irrefl _)
 have cellK:∀x c,X.env.cells.lookup x=some c→∀v,s.heap.IsCell c v→h'.IsCell c v:=fun x c e v ⟨o,ho,hd⟩=>by
   have nch:c∉ch:=fun z=>(hch c z).2.2.1 x c e rfl
   by_cases hc:c∈X.fs
   · obtain⟨sl,q⟩:=slot c o (I.fm x c e) hc nch ho (I.fJ x c e)
     exact⟨_,q,hd⟩
   ·exact⟨o,keep c o (I.fm x c e) hc nch ho (I.fJ x c e),hd⟩
 refine⟨I.ok,I.os,hg,⟨fun b o e n hb hx=>?_,fun b o e n hb hx=>?_,fun b o e n hx=>?_,fun b o e hx=>?_,fun b xs e=>dI b xs (I.base.dI b xs e),fun b o xs e=>dE b o xs (I.base.dE b o xs e),fun b ps e=>?_⟩,?_,fun x c e=>?_,?_,fun x c e=>?_,fun p hp=>?_,ao,I.len⟩
 ·exact keep b o (neL b o e) hb (neC b o e hx) (I.base.keep b o e n hb hx) (I.base.free b o e n hx)
 · obtain⟨sl,e1⟩:=I.base.slot b o e n hb hx
   obtain⟨sl',e2⟩:=slot b _ (neL b o e) hb (neC b o e hx) e1 (I.base.free b o e n hx)
   exact⟨sl',e2⟩
 · obtain⟨o',e1⟩:=I.base.there b o e hx
   exact free b o' (neC b o e hx) e1 (I.base.free b o e n hx)
 · obtain⟨o',e1⟩:=I.base.there b o e hx
   exact there b o' (neC b o e hx) e1
 · obtain⟨m1,e1⟩:=I.base.dQ b ps e
   obtain⟨m2,e2⟩:=dQ b _ e1
   exact⟨m1++m2,by rw[e2,Array.append_assoc]⟩
 · obtain⟨m,hn,hl⟩:=I.loc
   refine⟨m,ns m hn,fun i x v e1 e2 e3=>?_⟩
   obtain⟨u,r,l⟩:=hl i x v e1 e2 e3
   refine⟨u,r,?_⟩
   rcases l with l|⟨k,c,e,z⟩
   ·exact .inl l
   ·exact .inr ⟨k,c,e,cellK x c e _ z⟩
 · obtain⟨v,z⟩:=I.cell x c e
   exact⟨v,cellK x c e v z⟩
 · obtain⟨m,⟨o,_,_,ho,_⟩,_⟩:=I.loc
   exact free _ o (fun z=>(hch _ z).2.1 rfl) ho I.free
 · obtain⟨v,o,ho,hd⟩:=I.cell x c e
   exact free c o (fun z=>(hch c z).2.2.1 x c e rfl) ho (I.fJ x c e)
 · obtain⟨e,n,ne,nf,d⟩:=I.pin p hp
   have nch:p.1∉ch:=fun z=>(hch p.1 z).2.2.2 p hp rfl
   exact⟨keep p.1 p.2 ne nf nch e n,free p.1 p.2 nch e n,ne,nf,d⟩
theorem Inv.un{t':Nat}(I:Inv X pins σ H s)(u:Un X.fs [] H H' s.heap h')(ao:ba X.prog X.w H' h'):Inv X pins σ H' {s with heap:=h',toks:=t'}:=by
 obtain⟨m,⟨o,es,ep,ho,r⟩,_⟩:=id I.loc
 obtain⟨sl,hL⟩:=u.any ho I.free (by simp)
 exact I.step (g':=s.gens) (d':=s.drawn) (ch:=[]) (fun _ z=>nomatch z) (fun b o _ hb _ e n=>u.keep b o e n hb (by simp)) (fun b o _ hb _ e n=>u.slot b o e n hb (by simp)) (fun b o _ e n=>u.free b o e n (by simp)) (fun b o _ e=>u.there b o e (by simp)) u.dI u.dE u.dQ (fun m' hm=>by
   obtain⟨o',es',ep',ho',r'⟩:=hm
   rw[ho]at ho';cases ho'
   exact⟨_,es',ep',hL,r'⟩) ao I.bare
theorem Inv.call{g':Array GenState}{t':Nat}{d':Drawn}{ch:List Addr}(I:Inv X pins σ H s)(u:Un (cv X.stack) ch H H' s.heap h')(ao:ba X.prog X.w H' h')(hg:AllBare g')
   (hch:∀b∈ch,(b∈X.ex∨X.bX.heap.objs.size≤b)∧b≠X.env.locals∧(∀x c,X.env.cells.lookup x=some c→c≠b)∧∀p∈X.pn++pins,p.1≠b):
   Inv X pins σ H' {s with heap:=h',gens:=g',drawn:=d',toks:=t'}:=by
 obtain⟨m,⟨o,es,ep,ho,r⟩,_⟩:=id I.loc
 obtain⟨sl,hL⟩:=u.any ho I.free fun z=>(hch _ z).2.1 rfl
 exact I.step (ch:=ch) hch (fun b o hL hb hc e n=>u.keep b o e n (fun z=>(List.mem_cons.mp (I.lM b z)).elim hL hb) hc) (fun b o _ _ hc e n=>u.any e n hc) (fun b o hc e n=>u.free b o e n hc) (fun b o hc e=>u.there b o e hc) u.dI u.dE u.dQ (fun m' hm=>by
   obtain⟨o',es',ep',ho',r'⟩:=hm
   rw[ho]at ho';cases ho'
   exact⟨_,es',ep',hL,r'⟩) ao hg
theorem Inv.turned{t':Nat}{it:Addr}(I:Inv X pins σ H s)(k:∀b o,b≠it→s.heap.get? b=some o→h'.get? b=some o)(hn:H it=none)(hL:it≠X.env.locals)
   (h1:it∈X.ex∨X.bX.heap.objs.size≤it) (h2:∀x c,X.env.cells.lookup x=some c→c≠it) (h3:∀p∈X.pn++pins,p.1≠it):Inv X pins σ H {s with heap:=h',toks:=t'}:=by
 have nit:∀b u,H b=some u→b≠it:=fun b u e z=>by rw[z,hn]at e;cases e
 refine I.step (g':=s.gens) (d':=s.drawn) (ch:=[it]) (fun b hb=>?_) (fun b o _ _ hc e _=>k b o (fun z=>hc (by simp[z])) e) (fun b o _ _ hc e _=>⟨o.slots,k b o (fun z=>hc (by simp[z])) e⟩) (fun _ _ _ _ n=>n)
   (fun b o hc e=>⟨o,k b o (fun z=>hc (by simp[z])) e⟩) (fun _ _ e=>e) (fun _ _ _ e=>e) (fun b ps e=>⟨#[],by rw[e];simp⟩) (fun m hm=>?_) (fun b u e=>?_) I.bare
 · have e:b=it:=by simpa using hb
   subst e
   exact⟨h1,hL,h2,h3⟩
 · obtain⟨o,es,ep,ho,r⟩:=hm
   exact⟨o,es,ep,k _ o (Ne.symm hL) ho,r⟩
 · refine(I.ao b u e).iC (fun c v hc q=>k c v ?_ q) (fun _ q=>q) fun _ _ q=>q
   rcases hc with z|z
   ·rw[z];exact nit b u e
   ·exact nit c _ z
theorem Inv.tok(I:Inv X pins σ H s)(t:Nat):Inv X pins σ H {s with toks:=t}:=I.un (h':=s.heap) (t':=t) Un.refl I.ao
theorem Inv.kept{t':Nat}(I:Inv X pins σ H s)(k:∀b u,s.heap.get? b=some u→h'.get? b=some u):Inv X pins σ H {s with heap:=h',toks:=t'}:=I.un (Un.kept k) (I.ao.kept k)
theorem Inv.laid{a:Addr}{o:HO}{t':Nat}(I:Inv X pins σ H s)(k:∀b u,s.heap.get? b=some u→h'.get? b=some u)(hp:s.heap.objs.size≤a)(new:bT X.prog X.w (upd H a o) h' a o):
   Inv X pins σ (upd H a o) {s with heap:=h',toks:=t'}:=I.un (Un.laid k hp (I.ao.fresh hp)) (I.ao.laid k hp new)
theorem Inv.write{x e:Addr}{o:HO}{t':Nat}(I:Inv X pins σ H s)(mu:jY (H x))(he:e=x∨H e=some (.own x))(k:∀b u,b≠e→s.heap.get? b=some u→h'.get? b=some u)(heo:∃u,h'.get? e=some u)
   (new:bT X.prog X.w (upd H x o) h' x o):Inv X pins σ (upd H x o) {s with heap:=h',toks:=t'}:=I.un (Un.write mu he k heo) (I.ao.write mu he k heo new)
theorem Inv.tL{pins':List (Addr×Obj)}(I:Inv X pins σ H s)(h:∀p∈pins',s.heap.get? p.1=some p.2∧H p.1=none∧p.1≠X.env.locals∧p.1∉X.fs∧∀v,p.2.data≠.cell v):Inv X pins' σ H s:=
 ⟨I.ok,I.os,I.bare,I.base,I.loc,I.cell,I.free,I.fJ,fun p hp=>(List.mem_append.mp hp).elim (fun z=>I.pin p (List.mem_append_left _ z)) (h p),I.ao,I.len⟩
theorem qu{N:List Str}(hN:N.Nodup){i j:Nat}{x:Str}(a:N[i]? =some x)(b:N[j]? =some x):i=j:=by
 obtain⟨h1,e1⟩:=List.getElem?_eq_some_iff.mp a
 obtain⟨h2,e2⟩:=List.getElem?_eq_some_iff.mp b
 exact(List.getElem_inj hN).mp (e1.trans e2.symm)
theorem qf{M:Model}{A:Around}{E:Value→Shared→Prop}{i:Nat}{x:Str}{v:V}{u:Value}{Q:Unit→Shared→Prop}(I:Inv X pins σ H s)(hN:X.N.Nodup)(hi:X.N[i]? =some x)(hx:Loc X.env.scope x)(r:RelV v u)
   (h:∀s',Inv X pins (σ.set i (some v)) H s'→(∃a,Heap.SameBut a s.heap s'.heap∧(a=X.env.locals∨X.env.cells.lookup x=some a))→Q () s') (hf:X.fn x=true∨X.env.scope.names.lookup x=some .local:=by first|exact .inl rfl|exact .inr rfl|assumption):wpAny M A (storeName X.env x u) Q E s:=by
 obtain⟨m,hn,hl⟩:=id I.loc
 have hcls:(X.env.scope.kind==.class||(X.env.scope.kind==.module&&X.env.locals != X.env.globals))=false:=by rw[I.ok.kind];rfl
 have hiσ:i<σ.length:=by rw[I.len];exact(List.getElem?_eq_some_iff.mp hi).1
 have fm:=I.fm
 have tracked:∀ {a:Addr} {h':Heap},(∃o,s.heap.get? a=some o∧H a=none)→Heap.SameBut a s.heap h'→ba X.prog X.w H h':=fun {a h'} ha hs b ob e=>by
   obtain⟨_,_,hfree⟩:=ha
   refine(I.ao b ob e).iC (fun c w' hc q=>(hs.2 c ?_).trans q) (fun _ q=>q) fun _ _ q=>q
   rintro rfl
   rcases hc with rfl|hc
   ·rw[hfree]at e;cases e
   ·rw[hfree]at hc;cases hc
 rcases hx with hk|hk
 · refine wpAny_storeName_local hk hn (fun h' hn' hs=>?_) hcls
   obtain⟨oL,_,_,hoL,_⟩:=id hn
   refine h _ ⟨I.ok,I.os,I.bare,⟨fun b o e n hb hx=>?_,fun b o e n hb hx=>?_,I.base.free,fun b o e hx=>?_,I.base.dI,I.base.dE,I.base.dQ⟩,⟨_,hn',fun j y v' e1 e2 e3=>?_⟩,fun y c e=>?_,I.free,I.fJ,fun p hp=>?_,tracked ⟨oL,hoL,I.free⟩ hs,by simpa using I.len⟩ ⟨_,hs,.inl rfl⟩
   ·exact(hs.2 b (Nat.ne_of_lt (Nat.lt_of_lt_of_le (Heap.lt_size e) I.ok.above))).trans (I.base.keep b o e n hb hx)
   · obtain⟨sl,e1⟩:=I.base.slot b o e n hb hx
     exact⟨sl,(hs.2 b (Nat.ne_of_lt (Nat.lt_of_lt_of_le (Heap.lt_size e) I.ok.above))).trans e1⟩
   · obtain⟨o',e1⟩:=I.base.there b o e hx
     exact⟨o',(hs.2 b (Nat.ne_of_lt (Nat.lt_of_lt_of_le (Heap.lt_size e) I.ok.above))).trans e1⟩
   · by_cases hj:j=i
     · subst hj
       rw[hi]at e1;cases e1
       rw[List.getElem?_set_self hiσ]at e2
       cases e2
       exact⟨u,r,.inl ⟨hk,by simp⟩⟩
     · rw[List.getElem?_set_ne (Ne.symm hj)]at e2
       obtain⟨u',r',q⟩:=hl j y v' e1 e2 e3
       refine⟨u',r',?_⟩
       rcases q with⟨k,e⟩|⟨k,c,e,z⟩
       · refine .inl ⟨k,?_⟩
         have:y≠x:=fun e=>hj (qu hN e1 (e▸hi))
         simp[this,e]
       ·exact .inr ⟨k,c,e,z.sameBut hs (fm y c e)⟩
   · obtain⟨w',z⟩:=I.cell y c e
     exact⟨w',z.sameBut hs (fm y c e)⟩
   · obtain⟨e,n,ne,nf,d⟩:=I.pin p hp
     exact⟨(hs.2 p.1 ne).trans e,n,ne,nf,d⟩
 · have hfn:X.fn x=true:=by
     rcases hf with z|z
     ·exact z
     ·rw[z]at hk;cases hk
   obtain⟨c,hc⟩:=I.ok.has x (.inl hk)
   obtain⟨w',z⟩:=I.cell x c hc
   refine wpAny_storeName_cell I.ok.kind hk hc z (fun h' hc' hs=>?_)
   obtain⟨oc,hoc,hocd⟩:=id z
   refine h {s with heap:=h'} ⟨I.ok,I.os,I.bare,⟨fun b o e n hb hx=>?_,fun b o e n hb hx=>?_,I.base.free,fun b o e hx=>?_,I.base.dI,I.base.dE,I.base.dQ⟩,⟨m,hn.sameBut hs (Ne.symm (fm x c hc)),fun j y v' e1 e2 e3=>?_⟩,fun y c' e=>?_,I.free,I.fJ,fun p hp=>?_,tracked ⟨oc,hoc,I.fJ x c hc⟩ hs,by simpa using I.len⟩ ⟨c,hs,.inr hc⟩
   ·exact(hs.2 b (Nat.ne_of_lt (Nat.lt_of_lt_of_le (Heap.lt_size e) (I.ok.kE x c hfn hc)))).trans (I.base.keep b o e n hb hx)
   · obtain⟨sl,e1⟩:=I.base.slot b o e n hb hx
     exact⟨sl,(hs.2 b (Nat.ne_of_lt (Nat.lt_of_lt_of_le (Heap.lt_size e) (I.ok.kE x c hfn hc)))).trans e1⟩
   · obtain⟨o',e1⟩:=I.base.there b o e hx
     exact⟨o',(hs.2 b (Nat.ne_of_lt (Nat.lt_of_lt_of_le (Heap.lt_size e) (I.ok.kE x c hfn hc)))).trans e1⟩
   · by_cases hj:j=i
     · subst hj
       rw[hi]at e1;cases e1
       rw[List.getElem?_set_self hiσ]at e2
       cases e2
       exact⟨u,r,.inr ⟨.inl hk,c,hc,hc'⟩⟩
     · rw[List.getElem?_set_ne (Ne.symm hj)]at e2
       obtain⟨u',r',q⟩:=hl j y v' e1 e2 e3
       refine⟨u',r',?_⟩
       rcases q with q|⟨k,c',e,z'⟩
       ·exact .inl q
       · refine .inr ⟨k,c',e,z'.sameBut hs ?_⟩
         rintro rfl
         exact hj (qu hN e1 (I.ok.inj _ _ _ e hc▸hi))
   · by_cases hcc:c'=c
     ·subst hcc;exact⟨_,hc'⟩
     · obtain⟨w2,z2⟩:=I.cell y c' e
       exact⟨w2,z2.sameBut hs hcc⟩
   · obtain⟨e,n,ne,nf,d⟩:=I.pin p hp
     refine⟨(hs.2 p.1 ?_).trans e,n,ne,nf,d⟩
     intro q
     rw[q,hoc]at e
     have q':oc=p.2:=Option.some.inj e
     exact d w' (by rw[←q'];exact hocd)
theorem rL{M:Model}{A:Around}{E:Value→Shared→Prop}{i:Nat}{x:Str}{v:V}{u:Value}{Q:Unit→Shared→Prop}(I:Inv X pins σ H s)(hN:X.N.Nodup)(hi:X.N[i]? =some x)(hx:Loc X.env.scope x)(r:RelV v u)
   (h:∀s',Inv X pins (σ.set i (some v)) H s'→Q () s') (hf:X.fn x=true∨X.env.scope.names.lookup x=some .local:=by first|exact .inl rfl|exact .inr rfl|assumption):wpAny M A (storeName X.env x u) Q E s:=
 qf I hN hi hx r (fun s' I' _=>h s' I') hf
theorem Inv.tJ{s':Shared}{ch:List Addr}(I:Inv X pins σ H s)(ho:s'.os=s.os)(u:Un (cv X.stack) ch H H' s.heap s'.heap)(ao:ba X.prog X.w H' s'.heap)(hg:AllBare s'.gens)
   (hch:∀b∈ch,(b∈X.ex∨X.bX.heap.objs.size≤b)∧b≠X.env.locals∧(∀x c,X.env.cells.lookup x=some c→c≠b)∧∀p∈X.pn++pins,p.1≠b):Inv X pins σ H' s':=by
 obtain⟨h',g',d',t',o'⟩:=s'
 have e:o'=s.os:=ho
 subst e
 exact I.call (g':=g') (t':=t') (d':=d') u ao hg hch
end
noncomputable abbrev XK:=Value→Option Addr→Hp→Prop
noncomputable abbrev St:=List (Option V)
noncomputable abbrev VK:=V→Hp→Prop
noncomputable abbrev TE:=St→Hp→VK→Prop
noncomputable abbrev TT:=St→Hp→(Bool→Hp→Prop)→Prop
noncomputable abbrev TA:=St→Hp→(List V→Hp→Prop)→Prop
structure Ends where
 nx:St→Hp→Prop
 rt:VK
 bk:St→Hp→Prop:=fun _ _=>False
 ct:St→Hp→Prop:=fun _ _=>False
noncomputable abbrev TS:=Ends→St→Hp→Prop
noncomputable def EP(X:Cx)(pins:List (Addr×Obj))(σ:St)(Q:VK)(u:Value)(s':Shared):Prop:=∃v H',Inv X pins σ H' s'∧RelV v u∧Q v H'
noncomputable def TP(X:Cx)(pins:List (Addr×Obj))(σ:St)(Q:Bool→Hp→Prop)(b:Bool)(s':Shared):Prop:=∃H',Inv X pins σ H' s'∧Q b H'
noncomputable def AP(X:Cx)(pins:List (Addr×Obj))(σ:St)(Q:List V→Hp→Prop)(us:List Value)(s':Shared):Prop:=∃vs H',Inv X pins σ H' s'∧Vals vs us∧Q vs H'
noncomputable def SP(X:Cx)(pins:List (Addr×Obj))(D:Ends)(f:Flow)(s':Shared):Prop:=
 match f with
 |.next=>∃σ' H',Inv X pins σ' H' s'∧D.nx σ' H'
 |.brk=>∃σ' H',Inv X pins σ' H' s'∧D.bk σ' H'
 |.cont=>∃σ' H',Inv X pins σ' H' s'∧D.ct σ' H'
 |.ret u=>∃v σ' H',Inv X pins σ' H' s'∧RelV v u∧D.rt v H'
noncomputable def PE(X:Cx)(e:Expr)(t:TE):Prop:=
 ∀(pins:List (Addr×Obj)) (s:Shared) (σ:St) (H:Hp) (Q:VK),Inv X pins σ H s→t σ H Q→wpAny (model X.prog X.w) X.A (eval e X.env) (EP X pins σ Q) X.xe s
noncomputable def PT(X:Cx)(e:Expr)(t:TT):Prop:=
 ∀(pins:List (Addr×Obj)) (s:Shared) (σ:St) (H:Hp) (Q:Bool→Hp→Prop),Inv X pins σ H s→t σ H Q→wpAny (model X.prog X.w) X.A (isTrue e X.env (eval e X.env)) (TP X pins σ Q) X.xe s
noncomputable def PW(X:Cx)(e:Expr)(t:TT):Prop:=
 ∀(whole:Sem Value) (pins:List (Addr×Obj)) (s:Shared) (σ:St) (H:Hp) (Q:Bool→Hp→Prop),Inv X pins σ H s→t σ H Q→wpAny (model X.prog X.w) X.A (isTrue e X.env whole) (TP X pins σ Q) X.xe s
theorem PW.pt{X:Cx}{e:Expr}{t:TT}(h:PW X e t):PT X e t:=h _
noncomputable def PA(X:Cx)(es:List Expr)(t:TA):Prop:=
 ∀(pos:Pos) (pins:List (Addr×Obj)) (s:Shared) (σ:St) (H:Hp) (Q:List V→Hp→Prop),Inv X pins σ H s→t σ H Q→wpAny (model X.prog X.w) X.A (spliced (backTo pos (starEach es X.env))) (AP X pins σ Q) X.xe s
noncomputable def PS(X:Cx)(st:Stmt)(t:TS):Prop:=
 ∀(pins:List (Addr×Obj)) (s:Shared) (σ:St) (H:Hp) (D:Ends),Inv X pins σ H s→t D σ H→wpAny (model X.prog X.w) X.A (exec st X.env) (SP X pins D) X.xe s
noncomputable def bK(X:Cx)(st:List Stmt)(t:TS):Prop:=
 ∀(pins:List (Addr×Obj)) (s:Shared) (σ:St) (H:Hp) (D:Ends),Inv X pins σ H s→t D σ H→wpAny (model X.prog X.w) X.A (execs st X.env) (SP X pins D) X.xe s
theorem aE{α:Type}{t:Sem α}{Q Q':α→Shared→Prop}{M:Model}{A:Around}{E:Value→Shared→Prop}{s:Shared}(h:wpAny M A t Q E s)(hQ:∀a s,Q a s→Q' a s):wpAny M A t Q' E s:=wpAny_mono h hQ fun _ _ x=>x
end L2
namespace L2
open PySem PySem.Spec PyProof.Rows
section
variable{X:Cx}
theorem bin{a b:Expr}{ta tb:TE}(ha:PE X a ta)(hb:PE X b tb){pins:List (Addr×Obj)}{s:Shared}{σ:St}{H:Hp}{R:V→V→Hp→Prop}(I:Inv X pins σ H s)(h:ta σ H fun x H1=>tb σ H1 fun y H2=>R x y H2)
   {α:Type} {Q:α→Shared→Prop} {f:Value→Value→Sem α}
   (hf:∀v u s2 x y H2,Inv X pins σ H2 s2→RelV x v→RelV y u→R x y H2→wpAny (model X.prog X.w) X.A (f v u) Q X.xe s2):
   wpAny (model X.prog X.w) X.A (eval a X.env) (fun v s₁=>wpAny (model X.prog X.w) X.A (eval b X.env) (fun u s₂=>wpAny (model X.prog X.w) X.A (f v u) Q X.xe s₂) X.xe s₁) X.xe s:=by
 refine aE (ha pins s σ H _ I h) fun v s1 ⟨x,H1,I1,r1,q1⟩=>?_
 refine aE (hb pins s1 σ H1 _ I1 q1) fun u s2 ⟨y,H2,I2,r2,q2⟩=>?_
 exact hf v u s2 x y H2 I2 r1 r2 q2
noncomputable def nW(i:Nat):TE:=fun σ H Q=>∃v,σ[i]? =some (some v)∧Q v H
noncomputable def tC(v:V):TE:=fun _ H Q=>Q v H
theorem u6{i:Nat}{x:Str}{pos:Pos}(hN:X.N[i]? =some x)(hv:aZ X.env.scope x)(hd:(x==("__debug__":Str))=false:=by decide)(hcd:(x==("__classdict__":Str))=false:=by decide):PE X (.Name x pos) (nW i):=by
 intro pins s σ H Q I h
 obtain⟨v,e,h⟩:=h
 obtain⟨m,hn,hl⟩:=I.loc
 obtain⟨u,r,l⟩:=hl i x v hN e hv
 have fin:EP X pins σ Q u s:=⟨v,H,I,r,h⟩
 rcases l with⟨hk,hm⟩|⟨hk,c,hc,hcell⟩
 ·exact wpAny_Name (wpAny_loadName_local I.ok.kind hk hn hm fin) hd
 · rcases hk with hk|hk
   ·exact wpAny_Name (wpAny_loadName_cell I.ok.kind hk hc hcell fin) hd
   ·exact wpAny_Name (wpAny_loadName_free I.ok.kind hk hc hcell fin hcd) hd
theorem A3{i j pos}:PE X (.Constant (.int i) j pos) (tC (.int i)):=fun _ _ _ H _ I h=>wpAny_Constant_int ⟨.int i,H,I.tok _,⟨_,rfl⟩,h⟩
theorem yE{b j pos}:PE X (.Constant (.bool b) j pos) (tC (.bl b)):=fun _ _ _ H _ I h=>Constant_bool ⟨.bl b,H,I,rfl,h⟩
noncomputable def Gl(X:Cx)(x:Str):Prop:=X.env.kindOf x=some .globalImplicit
theorem tG{E:Value→Shared→Prop}{pins:List (Addr×Obj)}{s:Shared}{σ:St}{H:Hp}{x:Str}{u:Value}{pos:Pos}{Q:Value→Shared→Prop}(I:Inv X pins σ H s)(hg:Gl X x)(hm:X.mg x=some u)(h:Q u s)
   (hd:(x==("__debug__":Str))=false:=by decide):wpAny (model X.prog X.w) X.A (eval (.Name x pos) X.env) Q E s:=
 Calls.Name_function_global I.ok.kind hg (Calls.loadGlobal_global (by rw[I.ok.glob];exact I.mod.glob.keeps I.bk) hm h) hd
theorem fS{E:Value→Shared→Prop}{pins:List (Addr×Obj)}{s:Shared}{σ:St}{H:Hp}{x:Str}{u:Value}{pos:Pos}{Q:Value→Shared→Prop}(I:Inv X pins σ H s)(hg:Gl X x)(hm:X.mg x=none)(hv:bootBuiltins x=some u)(h:Q u s)
   (hn:x≠"__name__":=by decide) (hd:(x==("__debug__":Str))=false:=by decide):wpAny (model X.prog X.w) X.A (eval (.Name x pos) X.env) Q E s:=by
 obtain⟨mb,h1,h2⟩:=I.mod.blt
 exact Calls.Name_function_global I.ok.kind hg (Calls.loadGlobal_builtin (by rw[I.ok.glob];exact I.mod.glob.keeps I.bk) hm (by rw[I.ok.blt];exact h1.keeps I.bk) ((h2 x hn).trans hv) h) hd
theorem uT{x:Str}{v:V}{u:Value}{pos:Pos}(hg:Gl X x)(hm:X.mg x=some u)(r:RelV v u)(hd:(x==("__debug__":Str))=false:=by decide):PE X (.Name x pos) (tC v):=
 fun _ _ _ H _ I h=>tG I hg hm ⟨v,H,I,r,h⟩ hd
theorem yw{x:Str}{v:V}{u:Value}{pos:Pos}(hg:Gl X x)(hm:X.mg x=none)(hv:bootBuiltins x=some u)(r:RelV v u)(hn:x≠"__name__":=by decide)(hd:(x==("__debug__":Str))=false:=by decide):PE X (.Name x pos) (tC v):=
 fun _ _ _ H _ I h=>fS I hg hm hv ⟨v,H,I,r,h⟩ hn hd
variable{a b:Expr}{ta tb:TE}{pos:Pos}
variable{tA tB':TT}{rest:List Expr}
noncomputable def dU(t u:TT):TT:=fun σ H Q=>t σ H fun c H1=>if c=true then u σ H1 Q else Q false H1
noncomputable def dS(t u:TT):TT:=fun σ H Q=>t σ H fun c H1=>if c=true then Q true H1 else u σ H1 Q
noncomputable def dY(t:TT):TT:=fun σ H Q=>t σ H fun c H1=>Q (!c) H1
theorem zc(ha:PT X a tA):PW X (.BoolOp .And [a] pos) tA:=by
 intro wh pins s σ H Q I h
 refine isTrue_and (aE (ha pins s σ H Q I h) fun c s1 e=>?_)
 cases c with
 |true=>exact isTrue_and_nil e
 |false=>exact e
theorem zf(ha:PT X a tA):PW X (.BoolOp .Or [a] pos) tA:=by
 intro wh pins s σ H Q I h
 refine isTrue_or (aE (ha pins s σ H Q I h) fun c s1 e=>?_)
 cases c with
 |false=>exact isTrue_or_nil e
 |true=>exact e
theorem ux(ha:PT X a tA)(hb:PW X (.BoolOp .And (b::rest) pos) tB'):PW X (.BoolOp .And (a::b::rest) pos) (dU tA tB'):=by
 intro wh pins s σ H Q I h
 refine isTrue_and (aE (ha pins s σ H _ I h) fun c s1 ⟨H1,I1,q1⟩=>?_)
 cases c with
 |true=>exact hb wh pins s1 σ H1 Q I1 q1
 |false=>exact⟨H1,I1,q1⟩
theorem AH(ha:PT X a tA)(hb:PW X (.BoolOp .Or (b::rest) pos) tB'):PW X (.BoolOp .Or (a::b::rest) pos) (dS tA tB'):=by
 intro wh pins s σ H Q I h
 refine isTrue_or (aE (ha pins s σ H _ I h) fun c s1 ⟨H1,I1,q1⟩=>?_)
 cases c with
 |true=>exact⟨H1,I1,q1⟩
 |false=>exact hb wh pins s1 σ H1 Q I1 q1
theorem xK(ha:PT X a tA):PT X (.UnaryOp .Not a pos) (dY tA):=by
 intro pins s σ H Q I h
 exact isTrue_not (ha pins s σ H (fun c H1=>Q (!c) H1) I h)
noncomputable def AK(ta tb:TE):TE:=fun σ H Q=>ta σ H fun x H1=>∃c,x=.bl c∧if c=true then tb σ H1 Q else Q (.bl false) H1
noncomputable def xx(ta:TE):TE:=fun σ H Q=>ta σ H fun x H1=>∃c,x=.bl c∧Q (.bl (!c)) H1
theorem B5{op}{t:TE}(h:PE X a t):PE X (.BoolOp op [a] pos) t:=fun pins s σ H Q I hw=>BoolOp_one (h pins s σ H Q I hw)
theorem uM(ha:PE X a ta)(hb:PE X (.BoolOp .And (b::rest) pos) tb):PE X (.BoolOp .And (a::b::rest) pos) (AK ta tb):=by
 intro pins s σ H Q I h
 refine BoolOp_and (aE (ha pins s σ H _ I h) fun v s1 ⟨x,H1,I1,r1,q1⟩=>?_)
 obtain⟨c,rfl,q1⟩:=q1
 cases r1
 refine wpAny_truthy_bool ?_
 cases c with
 |true=>exact hb pins s1 σ H1 Q I1 q1
 |false=>exact⟨.bl false,H1,I1,rfl,q1⟩
theorem B9(ha:PE X a ta):PE X (.UnaryOp .Not a pos) (xx ta):=by
 intro pins s σ H Q I h
 refine UnaryOp_ (aE (ha pins s σ H _ I h) fun v s1 ⟨x,H1,I1,r1,q1⟩=>?_)
 obtain⟨c,rfl,q1⟩:=q1
 cases r1
 exact not_of (wpAny_truthy_bool ⟨.bl (!c),H1,I1,rfl,q1⟩)
end
end L2
namespace L2
open PySem PySem.Spec PyProof.Rows
noncomputable def aM(K:PySem.W.Frag)(H:Hp)(a:Addr)(xs:List V):Prop:=
 Rd H a (.lst xs)∨
   ∃(o:Obj) (its:Array Value) (n:Nat),K.lookup a=some o∧o.cls=.type "list"∧o.dict=none∧o.data=.seq its n∧its.size≤sizeLine∧Vals xs its.toList
noncomputable def aW(K:PySem.W.Frag)(H:Hp)(a:Addr)(xs:List V):Prop:=
 Rd H a (.tup xs)∨
   ∃(o:Obj) (its:Array Value) (n:Nat),K.lookup a=some o∧o.cls=.type "tuple"∧o.data=.seq its n∧its.size≤sizeLine∧Vals xs its.toList
noncomputable def Ak:Value→Option V
 |.none=>some .aF
 |.bool b=>some (.bl b)
 |.int i _=>some (.int i)
 |.str x _=>some (.str x)
 |.bytes b _=>some (.kb b)
 |.float b _=>some (.oU b)
 |.ref a=>some (.ref a)
 |.type n=>some (.ty n)
 |_=>none
theorem RelV.abs{x:V}{u:Value}(r:RelV x u):Ak u=some x:=by
 cases x with
 |aF=>cases r;rfl
 |bl _=>cases r;rfl
 |int _=>obtain⟨t,rfl⟩:=r;rfl
 |str _=>obtain⟨t,rfl⟩:=r;rfl
 |kb _=>obtain⟨t,rfl⟩:=r;rfl
 |oU _=>obtain⟨t,rfl⟩:=r;rfl
 |ref _=>cases r;rfl
 |ty _=>cases r;rfl
theorem RelV.inj{x y:V}{u:Value}(r:RelV x u)(q:RelV y u):x=y:=Option.some.inj (r.abs.symm.trans q.abs)
theorem Vals.inj:∀ {xs ys:List V} {us:List Value},Vals xs us→Vals ys us→xs=ys
 |_,_,_,.nil,.nil=>rfl
 |_,_,_,.cons r t,.cons r' t'=>by rw[r.inj r',Vals.inj t t']
section
variable{X:Cx}{pins:List (Addr×Obj)}{σ:St}{H:Hp}{s:Shared}{a:Addr}{xs ys:List V}
theorem aM.of{K:PySem.W.Frag}(h:H a=some (.lst xs)):aM K H a xs:=.inl (.inl h)
theorem aW.of{K:PySem.W.Frag}(h:H a=some (.tup xs)):aW K H a xs:=.inl (.inl h)
theorem Inv.list(I:Inv X pins σ H s)(h:aM X.K H a xs):∃its:List Value,Vals xs its∧PlainL s.heap a its.toArray∧xs.length≤sizeLine:=by
 rcases h with h|⟨o,its,n,hk,hc,hd,hs,hz,r⟩
 · obtain⟨z,its,n,r,e⟩:=h.ok I.ao
   exact⟨its,r,⟨_,n,e,rfl,rfl,rfl⟩,z⟩
 · refine⟨its.toList,r,⟨o,n,I.cK a o hk,hc,hd,by simpa using hs⟩,?_⟩
   have e:=r.length
   simp only[Array.length_toList]at e
   omega
theorem Inv.tuple(I:Inv X pins σ H s)(h:aW X.K H a xs):∃its:List Value,Vals xs its∧IsTup s.heap a its.toArray∧xs.length≤sizeLine:=by
 rcases h with h|⟨o,its,n,hk,hc,hs,hz,r⟩
 · obtain⟨z,its,r,p⟩:=h.ok I.ao
   exact⟨its,r,p,z⟩
 · refine⟨its.toList,r,⟨o,I.cK a o hk,hc,n,by simpa using hs⟩,?_⟩
   have e:=r.length
   simp only[Array.length_toList]at e
   omega
theorem Inv.qV(I:Inv X pins σ H s)(h:aM X.K H a xs)(h':aM X.K H a ys):xs=ys:=by
 obtain⟨its,r,⟨o,n,e,_,_,d⟩,_⟩:=I.list h
 obtain⟨its',r',⟨o',n',e',_,_,d'⟩,_⟩:=I.list h'
 rw[e]at e';cases e'
 rw[d]at d'
 injection d' with d1 _
 have:its=its':=by simpa using congrArg Array.toList d1
 subst this
 exact r.inj r'
theorem Inv.sO(I:Inv X pins σ H s)(h:aW X.K H a xs)(h':aW X.K H a ys):xs=ys:=by
 obtain⟨its,r,⟨o,e,_,n,d⟩,_⟩:=I.tuple h
 obtain⟨its',r',⟨o',e',_,n',d'⟩,_⟩:=I.tuple h'
 rw[e]at e';cases e'
 rw[d]at d'
 injection d' with d1 _
 have:its=its':=by simpa using congrArg Array.toList d1
 subst this
 exact r.inj r'
end
noncomputable abbrev Cx.d6(X:Cx)(E:Value→Shared→Prop):Cx:={X with xe:=E}
noncomputable abbrev Cx.er(X:Cx):Cx:=X.d6 fun _ _=>False
theorem Cx.Ok.d6{X:Cx}(ok:X.Ok)(E:Value→Shared→Prop):(X.d6 E).Ok:=
 ⟨ok.mod,ok.kind,ok.glob,ok.blt,ok.above,ok.inj,ok.has,ok.kE,ok.hd,ok.frames,ok.lS,ok.qi,ok.bs,ok.fW,ok.kl,ok.lU,ok.d9,ok.hJ⟩
theorem Cx.Ok.ff{X:Cx}{E:Value→Shared→Prop}(ok:(X.d6 E).Ok):X.Ok:=
 ⟨ok.mod,ok.kind,ok.glob,ok.blt,ok.above,ok.inj,ok.has,ok.kE,ok.hd,ok.frames,ok.lS,ok.qi,ok.bs,ok.fW,ok.kl,ok.lU,ok.d9,ok.hJ⟩
section
variable{X:Cx}{pins:List (Addr×Obj)}{σ:St}{H:Hp}{s:Shared}{E:Value→Shared→Prop}
theorem Inv.d6(I:Inv X pins σ H s)(E:Value→Shared→Prop):Inv (X.d6 E) pins σ H s:=⟨I.ok.d6 E,I.os,I.bare,I.base,I.loc,I.cell,I.free,I.fJ,I.pin,I.ao,I.len⟩
theorem Inv.ff(I:Inv (X.d6 E) pins σ H s):Inv X pins σ H s:=⟨I.ok.ff,I.os,I.bare,I.base,I.loc,I.cell,I.free,I.fJ,I.pin,I.ao,I.len⟩
theorem SP.ff{D:Ends}{f:Flow}{s':Shared}(h:SP (X.d6 E) pins D f s'):SP X pins D f s':=by
 cases f with
 |next=>obtain⟨σ',H',I,q⟩:=h;exact⟨σ',H',I.ff,q⟩
 |brk=>obtain⟨σ',H',I,q⟩:=h;exact⟨σ',H',I.ff,q⟩
 |cont=>obtain⟨σ',H',I,q⟩:=h;exact⟨σ',H',I.ff,q⟩
 |ret u=>obtain⟨v,σ',H',I,r,q⟩:=h;exact⟨v,σ',H',I.ff,r,q⟩
theorem PE.er{e:Expr}{t:TE}(h:PE X.er e t):PE X e t:=fun pins s σ H Q I hw=>
 wpAny_mono (h pins s σ H Q (I.d6 _) hw) (fun _ _ ⟨v,H',I',r,q⟩=>⟨v,H',I'.ff,r,q⟩) fun _ _ z=>False.elim z
theorem PT.er{e:Expr}{t:TT}(h:PT X.er e t):PT X e t:=fun pins s σ H Q I hw=>
 wpAny_mono (h pins s σ H Q (I.d6 _) hw) (fun _ _ ⟨H',I',q⟩=>⟨H',I'.ff,q⟩) fun _ _ z=>False.elim z
theorem bK.er{st:List Stmt}{t:TS}(h:bK X.er st t):bK X st t:=fun pins s σ H D I hw=>
 wpAny_mono (h pins s σ H D (I.d6 _) hw) (fun _ _ q=>q.ff) fun _ _ z=>False.elim z
end
section
variable{X:Cx}{st:Stmt}{rest:List Stmt}{t u:TS}{e:Expr}{te:TE}{pos:Pos}
noncomputable def Cy:TS:=fun D σ H=>D.nx σ H
noncomputable def pE(t u:TS):TS:=fun D σ H=>t {D with nx:=u D} σ H
theorem w5:bK X [] Cy:=fun _ _ σ H _ I h=>wpAny_execs_nil ⟨σ,H,I,h⟩
theorem xU(h1:PS X st t)(h2:bK X rest u):bK X (st::rest) (pE t u):=by
 intro pins s σ H D I h
 refine wpAny_execs_cons (aE (h1 pins s σ H {D with nx:=u D} I h) fun f s1 q=>?_)
 cases f with
 | next=>
   obtain⟨σ',H',I',q⟩:=q
   exact h2 pins s1 σ' H' D I' q
 |ret v=>exact q
 |brk=>exact q
 |cont=>exact q
theorem yu(h1:PS X st t):bK X [st] t:=by
 intro pins s σ H D I h
 refine wpAny_execs_cons (aE (h1 pins s σ H D I h) fun f s1 q=>?_)
 cases f with
 |next=>exact wpAny_execs_nil q
 |ret v=>exact q
 |brk=>exact q
 |cont=>exact q
theorem Inv.quiet{pins:List (Addr×Obj)}{σ:St}{H:Hp}{s:Shared}(I:Inv X pins σ H s):interactive X.env=false:=by simp[interactive,I.ok.kind]
noncomputable def yZ(te:TE):TS:=fun D σ H=>te σ H fun _ H1=>D.nx σ H1
theorem i5(he:PE X e te)(hs:swapsWith e none pos.line X.env=pure false:=by rfl):PS X (.Expr e pos) (yZ te):=by
 intro pins s σ H D I h
 exact wpAny_Expr_any (aE (he pins s σ H _ I h) fun v s1 ⟨x,H1,I1,r1,q1⟩=>⟨σ,H1,I1,q1⟩) I.quiet hs
noncomputable def y8(te:TE):TS:=fun D σ H=>te σ H D.rt
theorem n4(he:PE X e te):PS X (.Return (some e) pos) (y8 te):=by
 intro pins s σ H D I h
 exact wpAny_Return_some (aE (he pins s σ H _ I h) fun v s1 ⟨x,H1,I1,r1,q1⟩=>⟨x,σ,H1,I1,r1,q1⟩)
noncomputable def CS(c:TT)(t u:TS):TS:=fun D σ H=>c σ H fun b H1=>if b=true then t D σ H1 else u D σ H1
theorem B1{c:Expr}{a b:List Stmt}{tc:TT}(hc:PT X c tc)(ha:bK X a t)(hb:bK X b u):PS X (.If c a b pos) (CS tc t u):=by
 intro pins s σ H D I h
 refine wpAny_If (aE (hc pins s σ H _ I h) fun d s1 ⟨H1,I1,q1⟩=>?_)
 cases d with
 |true=>exact ha pins s1 σ H1 D I1 q1
 |false=>exact hb pins s1 σ H1 D I1 q1
end
noncomputable abbrev TG:=V→St→Hp→(St→Hp→Prop)→Prop
noncomputable abbrev eZ:=List V→St→Hp→(St→Hp→Prop)→Prop
noncomputable def PG(X:Cx)(target:Expr)(t:TG):Prop:=
 ∀(pins:List (Addr×Obj)) (s:Shared) (σ:St) (H:Hp) (v:V) (u:Value) (Q:St→Hp→Prop),Inv X pins σ H s→RelV v u→t v σ H Q→
   wpAny (model X.prog X.w) X.A (assign target X.env u) (fun _ s'=>∃σ' H',Inv X pins σ' H' s'∧Q σ' H') X.xe s
noncomputable def cJ(X:Cx)(ts:List Expr)(t:eZ):Prop:=
 ∀(pins:List (Addr×Obj)) (s:Shared) (σ:St) (H:Hp) (vs:List V) (us:List Value) (Q:St→Hp→Prop),Inv X pins σ H s→Vals vs us→t vs σ H Q→
   wpAny (model X.prog X.w) X.A (assignInOrder ((assignEach ts X.env).map (·.2)) us) (fun _ s'=>∃σ' H',Inv X pins σ' H' s'∧Q σ' H') X.xe s
noncomputable abbrev oG:=V→V→V→Hp→(Hp→Prop)→Prop
noncomputable def pO(X:Cx)(t:oG):Prop:=
 ∀(pins:List (Addr×Obj)) (s:Shared) (σ:St) (H:Hp) (o i v:V) (ov iv u:Value) (Q:Hp→Prop),Inv X pins σ H s→RelV o ov→RelV i iv→RelV v u→t o i v H Q→
   wpAny (model X.prog X.w) X.A (setItem ov iv u) (fun _ s'=>∃H',Inv X pins σ H' s'∧Q H') X.xe s
section
variable{X:Cx}{pos:Pos}
noncomputable def ar(i:Nat):TG:=fun v σ H Q=>Q (σ.set i (some v)) H
theorem yc{i:Nat}{x:Str}(hN:X.N.Nodup)(hi:X.N[i]? =some x)(hx:Loc X.env.scope x)(hf:X.fn x=true∨X.env.scope.names.lookup x=some .local:=by first|exact .inl rfl|exact .inr rfl|assumption):PG X (.Name x pos) (ar i):=by
 intro pins s σ H v u Q I r h
 exact wpAny_assign_Name (rL I hN hi hx r (fun s' I'=>⟨_,H,I',h⟩) hf)
noncomputable def v7:eZ:=fun vs σ H Q=>vs=[]∧Q σ H
noncomputable def uc(t:TG)(u:eZ):eZ:=fun vs σ H Q=>∃v r,vs=v::r∧t v σ H fun σ' H'=>u r σ' H' Q
theorem AO:cJ X [] v7:=by
 intro pins s σ H vs us Q I r h
 obtain⟨e,h⟩:=h
 subst e
 cases r
 exact assignInOrder_nil ⟨σ,H,I,h⟩
theorem AL{e:Expr}{es:List Expr}{t:TG}{u:eZ}(h1:PG X e t)(h2:cJ X es u)
   (hs:(assignEach (e::es) X.env).map (·.2)=assign e X.env::(assignEach es X.env).map (·.2):=by rfl):cJ X (e::es) (uc t u):=by
 intro pins s σ H vs us Q I r h
 obtain⟨v,vr,e1,h⟩:=h
 subst e1
 cases r with
 | cons r rr=>
   rw[hs]
   refine assignInOrder_cons (aE (h1 pins s σ H _ _ _ I r h) fun _ s1 ⟨σ1,H1,I1,q1⟩=>?_)
   exact h2 pins s1 σ1 H1 _ _ Q I1 rr q1
noncomputable def gu(K:PySem.W.Frag)(n:Nat)(t:eZ):TG:=fun v σ H Q=>∃a xs,v=.ref a∧aW K H a xs∧xs.length=n∧t xs σ H Q
theorem zh{es:List Expr}{k:Nat}{t:eZ}{n:Nat}(hc:X.calm=true)(h:cJ X es t)
   (hn:(assignEach es X.env).length=n:=by rfl) (hst:(assignEach es X.env).findIdx? (·.1)=none:=by rfl):PG X (.Tuple es k pos) (gu X.K n t):=by
 intro pins s σ H v u Q I r hw
 obtain⟨a,xs,e1,hq,hl,hw⟩:=hw
 subst e1
 cases r
 obtain⟨its,rv,ht,hz⟩:=I.tuple hq
 refine assign_Tuple_tuple (I.ok.hd hc) ht (by simp[hn, ←hl,rv.length]) hst fun h' hx=>?_
 have I1:Inv X pins σ H {s with heap:=h'}:=I.kept (t':=s.toks) fun b o e=>hx b o (Nat.ne_of_lt (Heap.lt_size e)) e
 exact h pins _ σ H xs _ Q I1 (by simpa using rv) hw
noncomputable def Ay(to ti:TE)(t:oG):TG:=fun v σ H Q=>to σ H fun o H1=>ti σ H1 fun i H2=>t o i v H2 fun H3=>Q σ H3
theorem zH{o i:Expr}{to ti:TE}{t:oG}(ho:PE X o to)(hi:PE X i ti)(hs:pO X t)
   (ha:∀v,assign (.Subscript o i pos) X.env v=(do
     let ov ←holding [v] (eval o X.env)
     let iv ←holding [v,ov] (eval i X.env)
     standAt pos
     holding [v,ov,iv] (setItem ov iv v)
     release [v,ov,iv] []):=by intro _;rfl):PG X (.Subscript o i pos) (Ay to ti t):=by
 intro pins s σ H v u Q I r h
 rw[ha]
 refine wpAny_bind (wpAny_holding (aE (ho pins s σ H _ I h) fun ov s1 ⟨x,H1,I1,r1,q1⟩=>?_))
 refine wpAny_bind (wpAny_holding (aE (hi pins s1 σ H1 _ I1 q1) fun iv s2 ⟨y,H2,I2,r2,q2⟩=>?_))
 refine wpAny_bind (wpAny_standAt (wpAny_bind (wpAny_holding (aE (hs pins s2 σ H2 x y v ov iv u _ I2 r1 r2 r q2) fun _ s3 ⟨H3,I3,q3⟩=>?_))))
 exact wpAny_release ⟨σ,H3,I3,q3⟩
noncomputable def kD(te:TE)(g:TG):TS:=fun D σ H=>te σ H fun x H1=>g x σ H1 D.nx
theorem sI{tg e:Expr}{te:TE}{g:TG}(he:PE X e te)(hg:PG X tg g)(hs:swapsWithSole [tg] e pos.line X.env=pure false:=by rfl)(hw:swappedStores [tg] e X.env=pure none:=by rfl)
   (h1:(assignEach [tg] X.env).map (·.2)=[assign tg X.env]:=by rfl):PS X (.Assign [tg] e pos) (kD te g):=by
 intro pins s σ H D I h
 refine wpAny_Assign_stores (aE (he pins s σ H _ I h) fun v s1 ⟨x,H1,I1,r1,q1⟩=>?_) hs hw
 rw[h1]
 exact aE (hg pins s1 σ H1 x v _ I1 r1 q1) fun _ s2 q=>q
theorem mK{i:Nat}{x:Str}{e:Expr}{te:TE}{pos':Pos}(hN:X.N.Nodup)(hi:X.N[i]? =some x)(hx:Loc X.env.scope x)(he:PE X e te)(hs:swapsWith e (some (.Name x pos')) pos.line X.env=pure false:=by rfl)(hf:X.fn x=true∨X.env.scope.names.lookup x=some .local:=by first|exact .inl rfl|exact .inr rfl|assumption):
   PS X (.Assign [.Name x pos'] e pos) (kD te (ar i)):=by
 intro pins s σ H D I h
 refine wpAny_Assign_Name (aE (he pins s σ H _ I h) fun v s1 ⟨y,H1,I1,r1,q1⟩=>?_) hs
 exact rL I1 hN hi hx r1 (fun s2 I2=>⟨_,H1,I2,q1⟩) hf
end
section
variable{X:Cx}{pos:Pos}
end
structure It where
 go:Nat→Hp→Prop
 jZ:Nat→Hp→V→Hp→Prop
 stop:Nat→Hp→Prop
noncomputable def cB(X:Cx)(pins:List (Addr×Obj))(H:Hp)(b:Addr):Prop:=
 H b=none∧b≠X.env.locals∧b∉X.fs∧(b∈X.ex∨X.bX.heap.objs.size≤b)∧(∀x c,X.env.cells.lookup x=some c→c≠b)∧∀p∈X.pn++pins,p.1≠b
theorem Inv.jn{X:Cx}{pins:List (Addr×Obj)}{σ:St}{H H':Hp}{s:Shared}{b:Addr}(I:Inv X pins σ H s)(hb:s.heap.objs.size≤b)(hn:H' b=none):cB X pins H' b:=by
 refine⟨hn,Nat.ne_of_gt (Nat.lt_of_lt_of_le I.lt hb),I.zy hb,.inr (Nat.le_trans I.sz hb),fun x c e z=>?_,fun p hp z=>?_⟩
 · obtain⟨v,q⟩:=I.cell x c e
   exact absurd (Nat.lt_of_lt_of_le q.lt (by rw[z];exact hb)) (Nat.lt_irrefl _)
 ·exact absurd (Nat.lt_of_lt_of_le (Heap.lt_size (I.pin p hp).1) (by rw[z];exact hb)) (Nat.lt_irrefl _)
structure Turn(P:Program)(w:World)(K:PySem.W.Frag)(tg:Expr)(J:It)(fp:List Addr)(it:Addr)(tn:Nat→Heap→Prop):Prop where
 mem:it∈fp
 obj:∀i h,tn i h→∀b∈fp,∃o,h.get? b=some o∧∀v,o.data≠.cell v
 keep:∀i h h',tn i h→(∀b∈fp,∀o,h.get? b=some o→h'.get? b=some o)→tn i h'
 item:∀(X:Cx),X.prog=P→X.w=w→X.K=K→X.calm=true→∀(i:Nat) (pins:List (Addr×Obj)) (s:Shared) (σ:St) (H:Hp) (E:Value→Shared→Prop),Inv X pins σ H s→(∀b∈fp,cB X pins H b)→tn i s.heap→J.go i H→
   wpAny (model P w) X.A (pyNext (.ref it)) (fun r s1=>∃u,r=some u∧
     wpAny (model P w) X.A (letOwnedTupleGo tg (.ref it) u) (fun _ s2=>∃x H',Inv X pins σ H' s2∧RelV x u∧J.jZ i H x H'∧tn (i+1) s2.heap∧∀b∈fp,H' b=none) E s1) E s
 done:∀(X:Cx),X.prog=P→X.w=w→X.K=K→X.calm=true→∀(i:Nat) (pins:List (Addr×Obj)) (s:Shared) (σ:St) (H:Hp) (E:Value→Shared→Prop),Inv X pins σ H s→(∀b∈fp,cB X pins H b)→tn i s.heap→J.stop i H→
   wpAny (model P w) X.A (pyNext (.ref it)) (fun r s1=>r=none∧Inv X pins σ H s1) E s
 self:∀(A:Around) (i:Nat) (s:Shared) (Q:Value→Shared→Prop) (E:Value→Shared→Prop),tn i s.heap→Q (.ref it) s→wpAny (model P w) A (pyIter (.ref it)) Q E s
noncomputable abbrev TI:=St→Hp→(It→Hp→Prop)→Prop
noncomputable def lT(X:Cx)(pins:List (Addr×Obj))(σ:St)(tg:Expr)(R:It→Hp→Prop)(itv:Value)(s2:Shared):Prop:=
 ∃(it:Addr) (fp:List Addr) (tn:Nat→Heap→Prop) (J:It) (H':Hp),itv=.ref it∧Inv X pins σ H' s2∧Turn X.prog X.w X.K tg J fp it tn∧tn 0 s2.heap∧(∀b∈fp,cB X pins H' b)∧R J H'
noncomputable def PI(X:Cx)(tg iter:Expr)(wi:TI):Prop:=
 ∀(pins:List (Addr×Obj)) (s:Shared) (σ:St) (H:Hp) (R:It→Hp→Prop),Inv X pins σ H s→wi σ H R→
   wpAny (model X.prog X.w) X.A (eval iter X.env) (fun v s1=>wpAny (model X.prog X.w) X.A (pyIter v) (lT X pins σ tg R) X.xe s1) X.xe s
theorem gY{M:Model}{A:Around}{E:Value→Shared→Prop}{s:Shared}{tg:Expr}{it:Addr}{u:Value}{o:Obj}{n:String}{vs:Array Value}{Q:Unit→Shared→Prop}(ho:s.heap.get? it=some o)(hc:o.cls=.type n)(hd:o.data=.fields vs)
   (hn:["enumerate","zip","dict_itemiterator","dict_reverseitemiterator","odict_iterator","itertools.zip_longest","itertools.pairwise"].contains n=false) (hQ:Q () s):wpAny M A (letOwnedTupleGo tg (.ref it) u) Q E s:=by
 unfold letOwnedTupleGo
 cases tg<;>first
   |exact wpAny_pure hQ
   |(cases u<;>first
       |exact wpAny_pure hQ
       | (refine wpAny_bind (wpAny_load ho ?_)
          rw[hc,hd]
          show wpAny M A (if(["enumerate","zip","dict_itemiterator","dict_reverseitemiterator","odict_iterator","itertools.zip_longest","itertools.pairwise"].contains n&&vs[0]? ==some (rawInt _))=true then _ else _) Q E s
          rw[if_neg (by intro h;rw[hn,Bool.false_and]at h;cases h)]
          exact wpAny_pure hQ))
noncomputable def ku(K:PySem.W.Frag)(a:Addr):It:=
 ⟨fun i H=>∃xs x,aM K H a xs∧xs[i]? =some x,fun i H x H'=>H'=H∧∀xs,aM K H a xs→xs[i]? =some x,fun i H=>∃xs,aM K H a xs∧xs.length≤i⟩
noncomputable def jU(K:PySem.W.Frag)(a:Addr):It:=
 ⟨fun i H=>∃xs x,aW K H a xs∧xs[i]? =some x,fun i H x H'=>H'=H∧∀xs,aW K H a xs→xs[i]? =some x,fun i H=>∃xs,aW K H a xs∧xs.length≤i⟩
noncomputable def bj(lo:Int)(n:Nat):It:=⟨fun i _=>i<n,fun i H x H'=>H'=H∧x=.int (lo+i),fun i _=>n≤i⟩
theorem yD{P:Program}{w:World}{K:PySem.W.Frag}{tg:Expr}(a it:Addr):Turn P w K tg (ku K a) [it] it (fun i h=>h.IsListIter it a i) where
 mem:=by simp
 obj:=fun i h st b hb=>by
   have e:b=it:=by simpa using hb
   subst e
   obtain⟨o,e,c,d⟩:=st
   exact⟨o,e,fun v z=>by rw[d]at z;cases z⟩
 keep:=fun i h h' st k=>st.at fun o e=>k it (by simp) o e
 item:=by
   intro X hP hw hK hc i pins s σ H E I hf st hg
   subst hP hw hK
   obtain⟨xs,x,hq,hx⟩:=hg
   obtain⟨its,rv,p,hz⟩:=I.list hq
   obtain⟨u,hu,ru⟩:=rv.get hx
   obtain⟨f0,f1,f2,f3,f4,f5⟩:=hf it (by simp)
   refine wpAny_pyNext_list_item st p.isList (x:=u) (by simpa using hu) fun h' st' sb=>?_
   have I1:Inv X pins σ H {s with heap:=h'}:=I.turned (t':=s.toks) (fun b o hb e=>(sb.2 b hb).trans e) f0 f1 f3 f4 f5
   obtain⟨o,e,c,d⟩:=id st'
   exact⟨u,rfl,gY (s:={s with heap:=h'}) e c d (by decide) ⟨x,H,I1,ru,⟨rfl,fun ys hy=>by rw[I.qV hy hq];exact hx⟩,st',fun b hb=>(hf b hb).1⟩⟩
 done:=by
   intro X hP hw hK hc i pins s σ H E I hf st hg
   subst hP hw hK
   obtain⟨xs,hq,hx⟩:=hg
   obtain⟨its,rv,p,hz⟩:=I.list hq
   obtain⟨f0,f1,f2,f3,f4,f5⟩:=hf it (by simp)
   have hl:=rv.length
   exact wpAny_pyNext_list_end (I.ok.hd hc) st p.isList (by simp;omega) fun h' eb=>⟨rfl,I.turned (t':=s.toks) (fun b o hb e=>eb b o hb e) f0 f1 f3 f4 f5⟩
 self:=fun _ _ _ _ _ st h=>wpAny_pyIter_listiter st h
theorem uo{P:Program}{w:World}{K:PySem.W.Frag}{tg:Expr}(a it:Addr):Turn P w K tg (jU K a) [it] it (fun i h=>h.IsTupleIter it a i) where
 mem:=by simp
 obj:=fun i h st b hb=>by
   have e:b=it:=by simpa using hb
   subst e
   obtain⟨o,e,c,d⟩:=st
   exact⟨o,e,fun v z=>by rw[d]at z;cases z⟩
 keep:=fun i h h' st k=>st.at fun o e=>k it (by simp) o e
 item:=by
   intro X hP hw hK hc i pins s σ H E I hf st hg
   subst hP hw hK
   obtain⟨xs,x,hq,hx⟩:=hg
   obtain⟨its,rv,p,hz⟩:=I.tuple hq
   obtain⟨u,hu,ru⟩:=rv.get hx
   obtain⟨f0,f1,f2,f3,f4,f5⟩:=hf it (by simp)
   refine wpAny_pyNext_tuple_item st (show s.heap.IsTuple a its.toArray from p) (x:=u) (by simpa using hu) fun h' st' sb=>?_
   have I1:Inv X pins σ H {s with heap:=h'}:=I.turned (t':=s.toks) (fun b o hb e=>(sb.2 b hb).trans e) f0 f1 f3 f4 f5
   obtain⟨o,e,c,d⟩:=id st'
   exact⟨u,rfl,gY (s:={s with heap:=h'}) e c d (by decide) ⟨x,H,I1,ru,⟨rfl,fun ys hy=>by rw[I.sO hy hq];exact hx⟩,st',fun b hb=>(hf b hb).1⟩⟩
 done:=by
   intro X hP hw hK hc i pins s σ H E I hf st hg
   subst hP hw hK
   obtain⟨xs,hq,hx⟩:=hg
   obtain⟨its,rv,p,hz⟩:=I.tuple hq
   obtain⟨f0,f1,f2,f3,f4,f5⟩:=hf it (by simp)
   have hl:=rv.length
   exact wpAny_pyNext_tuple_end (I.ok.hd hc) st (show s.heap.IsTuple a its.toArray from p) (by simp;omega) fun h' eb=>⟨rfl,I.turned (t':=s.toks) (fun b o hb e=>eb b o hb e) f0 f1 f3 f4 f5⟩
 self:=fun _ _ _ _ _ st h=>wpAny_pyIter_tupleiter st h
theorem uD{P:Program}{w:World}{K:PySem.W.Frag}{tg:Expr}(it:Addr)(lo:Int)(n:Nat):Turn P w K tg (bj lo n) [it] it (fun i h=>IsRangeIter h it (lo+(i:Nat)*1) ((n:Int) - (i:Nat)) 1) where
 mem:=by simp
 obj:=fun i h st b hb=>by
   have e:b=it:=by simpa using hb
   subst e
   exact⟨_,st,fun v z=>by
     have z':Data.fields _=Data.cell v:=z
     cases z'⟩
 keep:=fun i h h' st k=>k it (by simp) _ st
 item:=by
   intro X hP hw hK hc i pins s σ H E I hf st hg
   subst hP hw hK
   obtain⟨f0,f1,f2,f3,f4,f5⟩:=hf it (by simp)
   have W:=Walks.range (prog:=X.prog) (w:=X.w) (I.ok.hd hc) it lo 1 n
   refine W.item i s _ _ hg st fun v h' tk hv st' kk=>?_
   obtain⟨t,rfl⟩:=hv
   have I1:Inv X pins σ H {s with heap:=h',toks:=tk}:=I.turned (fun b o hb e=>kk b o (by simpa using hb) e) f0 f1 f3 f4 f5
   refine⟨_,rfl,gY (s:={s with heap:=h',toks:=tk}) (n:="range_iterator") st' rfl rfl (by decide) ⟨.int (lo+i),H,I1,⟨t,?_⟩,⟨rfl,rfl⟩,st',fun b hb=>(hf b hb).1⟩⟩
   rw[Int.mul_one]
 done:=by
   intro X hP hw hK hc i pins s σ H E I hf st hg
   subst hP hw hK
   obtain⟨f0,f1,f2,f3,f4,f5⟩:=hf it (by simp)
   exact wpAny_pyNext_range_end (I.ok.hd hc) st (by have:n≤i:=hg;omega) fun h' eb=>⟨rfl,I.turned (t':=s.toks) (fun b o hb e=>eb b o hb e) f0 f1 f3 f4 f5⟩
 self:=fun _ _ _ _ _ st h=>wpAny_pyIter_rangeiter st h
end L2
namespace L2
open PySem PySem.Spec PyProof.Rows
section
variable{X:Cx}{tg:Expr}
theorem qG{pins:List (Addr×Obj)}{σ:St}{H:Hp}{s:Shared}{R:It→Hp→Prop}{E:Value→Shared→Prop}{lo hi:Int}{t u v:Tok}{tk:Nat}(I:Inv X pins σ H s)(h1: -(2 ^ 62)≤lo)(h2:lo<2 ^ 62)(h3: -(2 ^ 62)≤hi)(h4:hi<2 ^ 62)
   (q:R (bj lo (hi - lo).toNat) H):wpAny (model X.prog X.w) X.A (pyIter (.ref s.heap.objs.size)) (lT X pins σ tg R) E {s with heap:=s.heap.push {cls:=.type "range",data:=.fields #[.int lo t,.int hi u,.int 1 v]},toks:=tk}:=by
 refine wpAny_pyIter_range (IsRange.new ..) (small_one h1 h2 h3 h4) ?_
 have I1:Inv X pins σ H {s with heap:=s.heap.push {cls:=.type "range",data:=.fields #[.int lo t,.int hi u,.int 1 v]},toks:=tk}:=I.kept fun b o e=>Heap.get?_push_of_some _ e
 refine⟨(s.heap.push {cls:=.type "range",data:=.fields #[.int lo t,.int hi u,.int 1 v]}).objs.size,[(s.heap.push {cls:=.type "range",data:=.fields #[.int lo t,.int hi u,.int 1 v]}).objs.size],_,_,H,rfl,
   I1.kept (t':=tk) fun b o e=>Heap.get?_push_of_some _ e,uD _ lo (hi - lo).toNat,?_,fun b hb=>?_,q⟩
 · have e1:lo+((0:Nat):Int)*1=lo:=by simp
   have e2:(((hi - lo).toNat:Nat):Int) - ((0:Nat):Int)=Builtin.Range.rangeSize lo hi 1:=by rw[rangeSize_one];split<;>omega
   show IsRangeIter _ _ (lo+((0:Nat):Int)*1) ((((hi - lo).toNat:Nat):Int) - ((0:Nat):Int)) 1
   rw[e1,e2]
   exact Heap.get?_push_size _ rfl
 · have e:b=(s.heap.push {cls:=.type "range",data:=.fields #[.int lo t,.int hi u,.int 1 v]}).objs.size:=by simpa using hb
   subst e
   exact I1.jn (Nat.le_refl _) (I1.ao.fresh (Nat.le_refl _))
noncomputable def dB(ta:TA):TI:=fun σ H R=>ta σ H fun vs H1=>∃j:Int,vs=[.int j]∧ -(2 ^ 62)≤j∧j<2 ^ 62∧R (bj 0 j.toNat) H1
noncomputable def ix(ta:TA):TI:=fun σ H R=>ta σ H fun vs H1=>∃i j:Int,vs=[.int i,.int j]∧(-(2 ^ 62)≤i∧i<2 ^ 62∧ -(2 ^ 62)≤j∧j<2 ^ 62)∧R (bj i (j - i).toNat) H1
theorem y0{a:Expr}{ta:TA}{p pos:Pos}(hg:Gl X "range")(hm:X.mg "range"=none)(ha:PA X [a] ta)(hs:starEach [a] X.env=[(false,eval a X.env)]:=by rfl):PI X tg (.Call (.Name "range" p) [a] [] pos) (dB ta):=by
 intro pins s σ H R I h
 refine Call_ (fS I hg hm boot_range (PyProof.Rows.callWith_type1 (aE (ha pos pins s σ H _ I h) fun us s1 ⟨vs,H1,I1,r1,q1⟩=>?_) hs rfl))
 obtain⟨j,e,q1,q2,q⟩:=q1
 subst e
 cases r1 with
 | cons r rr=>
   cases rr
   obtain⟨t,rfl⟩:=r
   exact call_range_1 (qG I1 (by omega) (by omega) q1 q2 (by simpa using q))
theorem xC{a b:Expr}{ta:TA}{p pos:Pos}(hg:Gl X "range")(hm:X.mg "range"=none)(ha:PA X [a,b] ta)(hs:starEach [a,b] X.env=[(false,eval a X.env),(false,eval b X.env)]:=by rfl)(hs2:starEach [b] X.env=[(false,eval b X.env)]:=by rfl):
   PI X tg (.Call (.Name "range" p) [a,b] [] pos) (ix ta):=by
 intro pins s σ H R I h
 refine Call_ (fS I hg hm boot_range (PyProof.Rows.callWith_type1 (aE (ha pos pins s σ H _ I h) fun us s1 ⟨vs,H1,I1,r1,q1⟩=>?_) (by rw[hs,hs2]) (by rw[hs2];rfl)))
 obtain⟨i,j,e,⟨q1,q2,q3,q4⟩,q⟩:=q1
 subst e
 cases r1 with
 | cons r rr=>
   cases rr with
   | cons r' rr=>
     cases rr
     obtain⟨t,rfl⟩:=r
     obtain⟨t',rfl⟩:=r'
     exact call_range_2 (qG I1 q1 q2 q3 q4 q)
noncomputable def BG(wi:TI)(g:TG)(tb:TS):TS:=fun D σ H=>wi σ H fun J H1=>∃W:Nat→Nat→St→Hp→Prop,(∃m,W 0 m σ H1)∧∀i m σ H,W i m σ H→
 (J.stop i H∧D.nx σ H)∨(J.go i H∧∃N:St→Hp→Prop,(∀σ' H',N σ' H'→∃m',m'<m∧W (i+1) m' σ' H')∧∀x H',J.jZ i H x H'→g x σ H' fun σ2 H2=>tb {D with nx:=N,ct:=N,bk:=D.nx} σ2 H2)
noncomputable def i7(fp:List Addr)(h:Heap):List (Addr×Obj):=fp.filterMap fun b=>(h.get? b).map fun o=>(b,o)
theorem lL{fp:List Addr}{h:Heap}{b:Addr}{o:Obj}(hb:b∈fp)(e:h.get? b=some o):(b,o)∈i7 fp h:=List.mem_filterMap.mpr ⟨b,hb,by rw[e];rfl⟩
theorem yH{fp:List Addr}{h:Heap}{p:Addr×Obj}(hp:p∈i7 fp h):p.1∈fp∧h.get? p.1=some p.2:=by
 obtain⟨b,hb,e⟩:=List.mem_filterMap.mp hp
 cases q:h.get? b with
 |none=>rw[q]at e;cases e
 | some o=>
   rw[q]at e
   have e':(b,o)=p:=Option.some.inj e
   subst e'
   exact⟨hb,q⟩
theorem Inv.pinned{pins:List (Addr×Obj)}{σ:St}{H:Hp}{s:Shared}{fp:List Addr}(I:Inv X pins σ H s)(hf:∀b∈fp,cB X pins H b)(ho:∀b∈fp,∃o,s.heap.get? b=some o∧∀v,o.data≠.cell v):Inv X (pins++i7 fp s.heap) σ H s:=
 I.tL fun p hp=>(List.mem_append.mp hp).elim (fun z=>I.pin p (List.mem_append_right _ z)) fun z=>by
   obtain⟨hb,e⟩:=yH z
   obtain⟨f0,f1,f2,_⟩:=hf p.1 hb
   obtain⟨o,e',d⟩:=ho p.1 hb
   rw[e]at e';cases e'
   exact⟨e,f0,f1,f2,d⟩
theorem Inv.lz{pins pl:List (Addr×Obj)}{σ:St}{H:Hp}{s:Shared}(I:Inv X (pins++pl) σ H s):Inv X pins σ H s:=I.tL fun p hp=>I.pin p (List.mem_append_right _ (List.mem_append_left _ hp))
theorem xo{iter:Expr}{body:List Stmt}{wi:TI}{g:TG}{tb:TS}{pos:Pos}(hp:PassesOwn (model X.prog X.w) X.A X.env X.xe)(hc:X.calm=true)(hi:PI X tg iter wi)(hg:PG X tg g)(hb:bK X body tb)
   (hs:∀x,foldedSetIterable iter X.env x=pure x:=by intro _;rfl):PS X (.For tg iter body [] pos) (BG wi g tb):=by
 intro pins s σ H D I h
 refine wpAny_For (aE (hi pins s σ H _ I h) fun v s1 h1=>aE h1 fun itv s2 h2=>?_) hs
 obtain⟨it,fp,tn,J,H2,e,I2,T,st2,f2,W,⟨m0,w0⟩,turn⟩:=h2
 subst e
 have stat:∀ {H':Hp},(∀b∈fp,H' b=none)→∀b∈fp,cB X pins H' b:=fun hn b hb=>⟨hn b hb,(f2 b hb).2⟩
 refine codeAny_forLoop_any (fun n s'=>∃i σ' H',Inv X pins σ' H' s'∧tn i s'.heap∧(∀b∈fp,H' b=none)∧W i n σ' H') ?_ m0 ⟨0,σ,H2,I2,st2,fun b hb=>(f2 b hb).1,w0⟩
 rintro n s3 ⟨i,σ3,H3,I3,st3,fr3,w3⟩
 rcases turn i n σ3 H3 w3 with⟨stop,qn⟩|⟨go,N,hN,step⟩
 · refine wpAny_passesOwn hp (aE (T.done X rfl rfl rfl hc i pins s3 σ3 H3 X.xe I3 (stat fr3) st3 stop) fun r s4 ⟨hr,I4⟩=>?_)
   subst hr
   exact wpAny_execs_nil ⟨σ3,H3,I4,qn⟩
 · refine wpAny_passesOwn hp (aE (T.item X rfl rfl rfl hc i pins s3 σ3 H3 X.xe I3 (stat fr3) st3 go) fun r s4 ⟨u,hr,h4⟩=>?_)
   subst hr
   refine wpAny_passesOwn hp (aE h4 fun _ s5 ⟨x,H5,I5,r5,y5,st5,fr5⟩=>?_)
   have I5':=I5.pinned (stat fr5) (T.obj _ _ st5)
   refine wpAny_passesOwn hp (aE (hg _ s5 σ3 H5 x u _ I5' r5 (step x H5 y5)) fun _ s6 ⟨σ6,H6,I6,q6⟩=>?_)
   refine wpAny_passesOwn hp (aE (hb _ s6 σ6 H6 _ I6 q6) fun f s7 q7=>?_)
   have again:∀ {σ7:St} {H7:Hp},Inv X (pins++i7 fp s5.heap) σ7 H7 s7→N σ7 H7→∃m,m<n∧∃i σ' H',Inv X pins σ' H' s7∧tn i s7.heap∧(∀b∈fp,H' b=none)∧W i m σ' H':=fun {σ7 H7} I7 n7=>by
     obtain⟨m',hm,w7⟩:=hN σ7 H7 n7
     refine⟨m',hm,i+1,σ7,H7,I7.lz,T.keep _ _ _ st5 fun b hb o e=>(I7.pin (b,o) (List.mem_append_right _ (List.mem_append_right _ (lL hb e)))).1,fun b hb=>?_,w7⟩
     obtain⟨o,e,d⟩:=T.obj _ _ st5 b hb
     exact(I7.pin (b,o) (List.mem_append_right _ (List.mem_append_right _ (lL hb e)))).2.1
   cases f with
   |next=>obtain⟨σ7,H7,I7,n7⟩:=q7;exact again I7 n7
   |cont=>obtain⟨σ7,H7,I7,n7⟩:=q7;exact again I7 n7
   |brk=>obtain⟨σ7,H7,I7,q7⟩:=q7;exact⟨σ7,H7,I7.lz,q7⟩
   |ret v=>obtain⟨x7,σ7,H7,I7,r7,q7⟩:=q7;exact⟨x7,σ7,H7,I7.lz,r7,q7⟩
end
end L2
namespace L2
open PySem PySem.Spec PyProof.Rows
noncomputable abbrev R2:=V→V→Hp→VK→Prop
noncomputable def aQ(X:Cx)(f:Value→Value→Sem Value)(r:R2):Prop:=
 ∀(pins:List (Addr×Obj)) (s:Shared) (σ:St) (H:Hp) (x y:V) (v u:Value) (Q:VK),Inv X pins σ H s→RelV x v→RelV y u→r x y H Q→
   wpAny (model X.prog X.w) X.A (f v u) (EP X pins σ Q) X.xe s
noncomputable def fD(X:Cx)(f:Value→Sem Value)(r:V→Hp→VK→Prop):Prop:=
 ∀(pins:List (Addr×Obj)) (s:Shared) (σ:St) (H:Hp) (x:V) (v:Value) (Q:VK),Inv X pins σ H s→RelV x v→r x H Q→
   wpAny (model X.prog X.w) X.A (f v) (EP X pins σ Q) X.xe s
noncomputable def bp(X:Cx)(f:Value)(r:List V→Hp→VK→Prop):Prop:=
 ∀(pins:List (Addr×Obj)) (s:Shared) (σ:St) (H:Hp) (xs:List V) (us:List Value) (Q:VK),Inv X pins σ H s→Vals xs us→r xs H Q→
   wpAny (model X.prog X.w) X.A (call f us) (EP X pins σ Q) X.xe s
noncomputable def AS(X:Cx)(r:V→Hp→(Bool→Hp→Prop)→Prop):Prop:=
 ∀(pins:List (Addr×Obj)) (s:Shared) (σ:St) (H:Hp) (x:V) (v:Value) (Q:Bool→Hp→Prop),Inv X pins σ H s→RelV x v→r x H Q→
   wpAny (model X.prog X.w) X.A (truthy v) (TP X pins σ Q) X.xe s
noncomputable def iK(r:R2)(ta tb:TE):TE:=fun σ H Q=>ta σ H fun x H1=>tb σ H1 fun y H2=>r x y H2 Q
noncomputable def rI(C:Int→Int→Prop)(g:Int→Int→V):R2:=fun x y H Q=>∃i j,x=.int i∧y=.int j∧C i j∧Q (g i j) H
noncomputable def dD(g:Int→Int→V):R2:=fun x y H Q=>∃i j,x=.int i∧y=.int j∧Q (g i j) H
section
variable{X:Cx}{a b c:Expr}{ta tb tc:TE}{pos:Pos}
theorem pf(ha:PE X a ta)(hb:PE X b tb){pins:List (Addr×Obj)}{s:Shared}{σ:St}{H:Hp}{R:V→V→Hp→Prop}(I:Inv X pins σ H s)
   (h:ta σ H fun x H1=>tb σ H1 fun y H2=>R x y H2) {Q:Value→Shared→Prop} {f:Value→Value→Sem Value}
   (hf:∀v u s2 x y H2,Inv X pins σ H2 s2→RelV x v→RelV y u→R x y H2→wpAny (model X.prog X.w) X.A (f v u) Q X.xe s2):
   wpAny (model X.prog X.w) X.A (eval a X.env) (fun v s₁=>wpAny (model X.prog X.w) X.A (eval b X.env) (fun u s₂=>wpAny (model X.prog X.w) X.A (f v u) Q X.xe s₂) X.xe s₁) X.xe s:=by
 refine aE (ha pins s σ H _ I h) fun v s1 ⟨x,H1,I1,r1,q1⟩=>?_
 refine aE (hb pins s1 σ H1 _ I1 q1) fun u s2 ⟨y,H2,I2,r2,q2⟩=>?_
 exact hf v u s2 x y H2 I2 r1 r2 q2
theorem A0{op:Operator}{r:R2}(ho:aQ X (binaryOp op) r)(ha:PE X a ta)(hb:PE X b tb):PE X (.BinOp a op b pos) (iK r ta tb):=by
 intro pins s σ H Q I h
 exact wpAny_BinOp (pf ha hb I h fun v u s2 x y H2 I2 rx ry q=>ho pins s2 σ H2 x y v u Q I2 rx ry q)
theorem mr{f:Value→Value→Sem Value}{C:Int→Int→Prop}{g:Int→Int→Int}
   (rule:∀(i j:Int) (t u:Tok) (s:Shared) (Q:Value→Shared→Prop) (E:Value→Shared→Prop),C i j→Q (.int (g i j) s.toks) {s with toks:=s.toks+1}→wpAny (model X.prog X.w) X.A (f (.int i t) (.int j u)) Q E s):
   aQ X f (rI C fun i j=>.int (g i j)):=by
 intro pins s σ H x y v u Q I rx ry h
 obtain⟨i,j,rfl,rfl,hc,q⟩:=h
 obtain⟨t,rfl⟩:=rx
 obtain⟨t',rfl⟩:=ry
 exact rule i j t t' s _ _ hc ⟨.int (g i j),H,I.tok _,⟨_,rfl⟩,q⟩
theorem t7{f:Value→Value→Sem Value}{g:Int→Int→Int}
   (rule:∀(i j:Int) (t u:Tok) (s:Shared) (Q:Value→Shared→Prop) (E:Value→Shared→Prop),Q (.int (g i j) s.toks) {s with toks:=s.toks+1}→wpAny (model X.prog X.w) X.A (f (.int i t) (.int j u)) Q E s):
   aQ X f (dD fun i j=>.int (g i j)):=by
 intro pins s σ H x y v u Q I rx ry h
 obtain⟨i,j,rfl,rfl,q⟩:=h
 obtain⟨t,rfl⟩:=rx
 obtain⟨t',rfl⟩:=ry
 exact rule i j t t' s _ _ ⟨.int (g i j),H,I.tok _,⟨_,rfl⟩,q⟩
theorem mC{f:Value→Value→Sem Value}{g:Int→Int→Bool}
   (rule:∀(i j:Int) (t u:Tok) (s:Shared) (Q:Value→Shared→Prop) (E:Value→Shared→Prop),Q (.bool (g i j)) s→wpAny (model X.prog X.w) X.A (f (.int i t) (.int j u)) Q E s):
   aQ X f (dD fun i j=>.bl (g i j)):=by
 intro pins s σ H x y v u Q I rx ry h
 obtain⟨i,j,rfl,rfl,q⟩:=h
 obtain⟨t,rfl⟩:=rx
 obtain⟨t',rfl⟩:=ry
 exact rule i j t t' s _ _ ⟨.bl (g i j),H,I,rfl,q⟩
noncomputable def se(i j:Int):Prop:=(-(2 ^ 64)<i∧i<2 ^ 64)∨(-(2 ^ 64)<j∧j<2 ^ 64)
theorem se.ok{i j:Int}(h:se i j):IntMulOk i j:=by
 rcases h with⟨h1,h2⟩|⟨h1,h2⟩
 ·exact .of_left (intBits_le_64 h1 h2)
 ·exact .of_right (intBits_le_64 h1 h2)
theorem bh:aQ X (binaryOp .Add) (dD fun i j=>.int (i+j)):=t7 fun _ _ _ _ _ _ _ q=>add_int q
theorem fI:aQ X (binaryOp .Sub) (dD fun i j=>.int (i - j)):=t7 fun _ _ _ _ _ _ _ q=>sub_int q
theorem cx:aQ X (binaryOp .Mod) (rI (fun _ j=>0<j) fun i j=>.int (i % j)):=mr fun i j _ _ _ _ _ hc q=>by
 have h1:(0:Int)<j:=hc
 exact mod_int' (by omega) (by rw[Int.fmod_eq_emod_of_nonneg i (by omega)];exact q)
end
section
variable{X:Cx}{a b c:Expr}{ta tb tc:TE}{pos:Pos}
theorem ly:aQ X (compareOp .Lt) (dD fun i j=>.bl (decide (i<j))):=mC fun _ _ _ _ _ _ _ q=>lt_int q
theorem Ar:aQ X (compareOp .LtE) (dD fun i j=>.bl (decide (i≤j))):=mC fun _ _ _ _ _ _ _ q=>le_int q
theorem yl:aQ X (compareOp .Gt) (dD fun i j=>.bl (decide (j<i))):=mC fun _ _ _ _ _ _ _ q=>gt_int q
theorem Bh:aQ X (compareOp .GtE) (dD fun i j=>.bl (decide (j≤i))):=mC fun _ _ _ _ _ _ _ q=>ge_int q
theorem aQ.or{f:Value→Value→Sem Value}{r r':R2}(h:aQ X f r)(h':aQ X f r'):aQ X f (fun x y H Q=>r x y H Q∨r' x y H Q):=by
 intro pins s σ H x y v u Q I rx ry q
 rcases q with q|q
 ·exact h pins s σ H x y v u Q I rx ry q
 ·exact h' pins s σ H x y v u Q I rx ry q
theorem pT(b:Expr){op:CmpOp}(h:op≠.In:=by decide)(h2:op≠.NotIn:=by decide):behindInMarks op b=false:=by
 have e1:(op==CmpOp.In)=false:=by cases op<;>first|rfl|exact absurd rfl h
 have e2:(op==CmpOp.NotIn)=false:=by cases op<;>first|rfl|exact absurd rfl h2
 cases b<;>simp[behindInMarks,e1,e2]
theorem wy{op:CmpOp}{r:R2}(ho:aQ X (compareOp op) r)(ha:PE X a ta)(hb:PE X b tb)(hm:behindInMarks op b=false):PE X (.Compare a [op] [b] pos) (iK r ta tb):=by
 intro pins s σ H Q I h
 exact wpAny_Compare1 (pf ha hb I h fun v u s2 x y H2 I2 rx ry q=>ho pins s2 σ H2 x y v u Q I2 rx ry q) hm
noncomputable def BW(t:TE):TT:=fun σ H Q=>t σ H fun x H'=>∃k,x=.bl k∧Q k H'
theorem qd{op:CmpOp}{r:R2}(ho:aQ X (compareOp op) r)(ha:PE X a ta)(hb:PE X b tb)(hm:behindInMarks op b=false):PT X (.Compare a [op] [b] pos) (BW (iK r ta tb)):=by
 intro pins s σ H Q I h
 refine wpAny_isTrue_Compare1 (aE (ha pins s σ H _ I h) fun v s1 ⟨x,H1,I1,r1,q1⟩=>aE (hb pins s1 σ H1 _ I1 q1) fun u s2 ⟨y,H2,I2,r2,q2⟩=>
   aE (ho pins s2 σ H2 x y v u _ I2 r1 r2 q2) fun c s3 ⟨z,H3,I3,r3,k,e,q3⟩=>?_) hm
 subst e
 cases r3
 exact wpAny_truthy_bool ⟨H3,I3,q3⟩
noncomputable def nF(K:PySem.W.Frag)(x:V)(H:Hp)(k:Bool):Prop:=
 match x with
 |.aF=>k=false
 |.bl b=>k=b
 |.int i=>k=(i != 0)
 |.str y=>y.length≤sizeLine∧k=((y.length:Int) != 0)
 |.kb y=>y.size≤sizeLine∧k=((y.size:Int) != 0)
 |.ref p=>(∃xs,aM K H p xs∧k= !xs.isEmpty)∨(∃xs,aW K H p xs∧k= !xs.isEmpty)∨∃kvs,H p=some (.dK kvs)∧k= !kvs.isEmpty
 |_=>False
theorem AE{κ:Type}{kvs:List (κ×V)}{vs:List (κ×Value)}(r:KV kvs vs):(!vs.isEmpty)= !kvs.isEmpty:=by
 cases r<;>rfl
theorem rT{xs:List V}{its:List Value}(r:Vals xs its):(!its.toArray.isEmpty)= !xs.isEmpty:=by
 cases r<;>simp
theorem iB:(sizeLine:Nat)<2 ^ 63:=by rw[sizeLine_eq];decide
theorem vi:AS X (fun x H Q=>∃k,nF X.K x H k∧Q k H):=by
 intro pins s σ H x v Q I rx h
 obtain⟨k,e,q⟩:=h
 have hl:=iB
 have hs:sizeLine=16777216:=sizeLine_eq
 cases x with
 | aF=>
   cases rx
   have e':k=false:=e
   subst e'
   exact truthy_none ⟨H,I,q⟩
 | bl b=>
   cases rx
   have e':k=b:=e
   subst e'
   exact wpAny_truthy_bool ⟨H,I,q⟩
 | int i=>
   obtain⟨t,rfl⟩:=rx
   have e':k=(i != 0):=e
   subst e'
   exact PySem.P.truthy_int ⟨H,I,q⟩
 | str y=>
   obtain⟨t,rfl⟩:=rx
   obtain⟨hy,e'⟩:y.length≤sizeLine∧k=((y.length:Int) != 0):=e
   subst e'
   exact PySem.P.truthy_str (by omega) ⟨H,I.tok _,q⟩
 | kb y=>
   obtain⟨t,rfl⟩:=rx
   obtain⟨hy,e'⟩:y.size≤sizeLine∧k=((y.size:Int) != 0):=e
   subst e'
   exact PySem.W.truthy_bytes (by omega) ⟨H,I.tok _,q⟩
 | ref p=>
   cases rx
   have e':(∃xs,aM X.K H p xs∧k= !xs.isEmpty)∨(∃xs,aW X.K H p xs∧k= !xs.isEmpty)∨∃kvs,H p=some (.dK kvs)∧k= !kvs.isEmpty:=e
   rcases e' with⟨xs,hx,e'⟩|⟨xs,hx,e'⟩|⟨kvs,hx,e'⟩
   · subst e'
     obtain⟨its,r,pl,hz⟩:=I.list hx
     have hlen:=r.length
     exact wpAny_truthy_list pl.isList (by simp only[List.size_toArray];omega) ⟨H,I.tok _,by rw[rT r];exact q⟩
   · subst e'
     obtain⟨its,r,pl,hz⟩:=I.tuple hx
     have hlen:=r.length
     exact truthy_tuple pl (by simp only[List.size_toArray];omega) ⟨H,I.tok _,by rw[rT r];exact q⟩
   · subst e'
     obtain⟨hz,hS,vs,r,m⟩:kvs.length≤sizeLine∧(p==sysModules)=false∧∃vs,KV kvs vs∧s.heap.DictOf (bR X.prog X.w) p vs:=I.ao p _ hx
     have hlen:kvs.length=vs.length:=Paired.length r
     exact wpAny_truthy_dict hS m (by omega) ⟨H,I.tok _,by rw[AE r];exact q⟩
 |_=>exact(show False from e).elim
theorem uH(ha:PE X a ta)(he:∀whole,isTrue a X.env whole=(do let v ←whole;standAt a.pos;holding [v] (truthy v))):
   PT X a (fun σ H Q=>ta σ H fun x H'=>∃k,nF X.K x H' k∧Q k H'):=by
 intro pins s σ H Q I h
 exact isTrue_plain (aE (ha pins s σ H _ I h) fun v s1 ⟨x,H1,I1,r1,q1⟩=>vi pins s1 σ H1 x v Q I1 r1 q1) (he _)
theorem AA:aQ X (binaryOp .Add) (fun x y H Q=>∃i j,x=.str i∧y=.str j∧i.length+j.length≤sizeLine∧Q (.str (i++j)) H):=by
 intro pins s σ H x y v u Q I rx ry h
 obtain⟨i,j,rfl,rfl,hz,q⟩:=h
 obtain⟨t,rfl⟩:=rx
 obtain⟨t',rfl⟩:=ry
 exact add_str (fun t' tk=>⟨.str (i++j),H,I.tok _,⟨_,rfl⟩,q⟩) hz
theorem vals1{x:V}{us:List Value}(r:Vals [x] us):∃u,us=[u]∧RelV x u:=by
 cases r with
 |cons r1 r2=>cases r2;exact⟨_,rfl,r1⟩
theorem vals2{x y:V}{us:List Value}(r:Vals [x,y] us):∃u w',us=[u,w']∧RelV x u∧RelV y w':=by
 cases r with
 | cons r1 r2=>
   cases r2 with
   |cons r3 r4=>cases r4;exact⟨_,_,rfl,r1,r3⟩
theorem sf:bp X (.type "int") (fun xs H Q=>(∃i,xs=[.int i]∧Q (.int i) H)∨∃k,xs=[.bl k]∧Q (.int (if k then 1 else 0)) H):=by
 intro pins s σ H xs us Q I r h
 rcases h with⟨i,rfl,q⟩|⟨k,rfl,q⟩
 · obtain⟨u,rfl,t,rfl⟩:=vals1 r
   exact call_int_int ⟨.int i,H,I,⟨_,rfl⟩,q⟩
 · obtain⟨u,rfl,r1⟩:=vals1 r
   cases r1
   exact call_int_bool ⟨.int (if k then 1 else 0),H,I.tok _,⟨_,rfl⟩,q⟩
end
end L2
namespace L2
open PySem PySem.Spec PyProof.Rows
section
variable{prog:Program}{w:World}{A:Around}{E:Value→Shared→Prop}{s:Shared}{K:PySem.W.Frag}{x dx C f:Addr}{mA:Str→Option Value}{name:Str}{v:Value}
end
theorem cT.some_of{v:V}{o:Option Value}(r:cT (some v) o):∃u,o=some u∧RelV v u:=by
 cases o with
 |none=>exact(show False from r).elim
 |some u=>exact⟨u,rfl,r⟩
theorem cT.none_of{o:Option Value}(r:cT none o):o=none:=by
 cases o with
 |none=>rfl
 |some u=>exact(show False from r).elim
section
variable{P:Program}{w:World}{H H':Hp}{h h':Heap}{a C dx:Addr}{fs fs':List (Str×V)}
end
structure sQ(K:PySem.W.Frag)(C:Addr):Prop where
 pg:PySem.W.plainGet K C Str.empty=true
 hd:PySem.W.hasDictIn K C=true
 po:PySem.W.plainOver K C=true
 sa:PySem.W.findIn K (.ref C) "__setattr__"=some (some (.builtin "object.__setattr__"))
theorem sQ.get{K:PySem.W.Frag}{C:Addr}(c:sQ K C)(f:Str):PySem.W.plainGet K C f=true:=c.pg
section
variable{X:Cx}{pins:List (Addr×Obj)}{σ:St}{H:Hp}{s:Shared}{a C dx:Addr}{fs:List (Str×V)}{f:Str}{v:V}{A:Around}{E:Value→Shared→Prop}
end
section
variable{X:Cx}{o e value:Expr}{f:Str}{pos pos' tpos:Pos}{ta tv:TE}
end
section
variable{X:Cx}{pins:List (Addr×Obj)}{σ:St}{H:Hp}{s:Shared}{A:Around}{E:Value→Shared→Prop}{Q:Value→Shared→Prop}{c:Value}{b:Bool}
end
end L2
namespace L2
open PySem PySem.Spec PyProof.Rows
structure bt(k:Nat)(A:Around):Prop where
 hd:A.handled=none
 dp:A.depth+3*k+5<recursionLimit
 un:A.units+16*k+200<cLine
theorem bt.mono{j k:Nat}{A:Around}(r:bt k A)(h:j≤k):bt j A:=⟨r.hd,by have:=r.dp;omega,by have:=r.un;omega⟩
theorem bt.deeper{k:Nat}{A:Around}(r:bt (k+1) A)(env:Env):bt k (A.deeper env):=
 ⟨r.hd,by have:=r.dp;show A.depth+1+3*k+5<_;omega,by have:=r.un;show A.units+3+16*k+200<_;omega⟩
theorem bt.in1{k:Nat}{A:Around}(r:bt (k+1) A):bt k A.in1:=
 ⟨r.hd,by have:=r.dp;show A.depth+3*k+5<_;omega,by have:=r.un;show A.units+1+16*k+200<_;omega⟩
theorem bt.depth{k:Nat}{A:Around}(r:bt k A):A.depth<recursionLimit:=by have:=r.dp;omega
theorem bt.units{k:Nat}{A:Around}(r:bt k A):A.units+64<cLine:=by have:=r.un;omega
noncomputable def CZ:TA:=fun _ H Q=>Q [] H
noncomputable def sN(ta:TE)(tr:TA):TA:=fun σ H Q=>ta σ H fun x H1=>tr σ H1 fun xs H2=>Q (x::xs) H2
section
variable{X:Cx}{e:Expr}{es:List Expr}{te:TE}{t:TA}{pos:Pos}
theorem fZ:PA X [] CZ:=fun _ _ _ _ H Q I h=>Calls.spliced_nil ⟨[],H,I,.nil,h⟩
theorem fL(ha:PE X e te)(hr:PA X es t)(hs:starEach (e::es) X.env=(false,eval e X.env)::starEach es X.env:=by rfl):PA X (e::es) (sN te t):=by
 intro pos pins s σ H Q I h
 rw[hs]
 show wpAny _ _ (spliced ((false,eval e X.env)::backTo pos (starEach es X.env))) _ _ s
 refine Calls.spliced_cons (aE (ha pins s σ H _ I h) fun u s1 ⟨x,H1,I1,r1,q1⟩=>?_)
 exact aE (hr pos pins s1 σ H1 _ I1 q1) fun us s2 ⟨xs,H2,I2,r2,q2⟩=>⟨x::xs,H2,I2,.cons r1 r2,q2⟩
noncomputable def wo(t:TA):TE:=fun σ H Q=>t σ H fun xs H1=>xs.length≤sizeLine∧∀p,H1 p=none→Q (.ref p) (upd H1 p (.tup xs))
noncomputable def BK(t:TA):TE:=fun σ H Q=>t σ H fun xs H1=>xs.length≤sizeLine∧∀p,H1 p=none→Q (.ref p) (upd H1 p (.lst xs))
theorem xS{x1}(h:PA X es t):PE X (.Tuple es x1 pos) (wo t):=by
 intro pins s σ H Q I hq
 refine wpAny_Tuple_spliced (aE (h pos pins s σ H _ I hq) fun us s1 ⟨xs,H1,I1,r,z,q⟩=>⟨by rw[←r.length];exact z,?_⟩)
 have hf:H1 s1.heap.objs.size=none:=I1.ao.fresh (Nat.le_refl _)
 refine⟨.ref s1.heap.objs.size,upd H1 s1.heap.objs.size (.tup xs),I1.laid (t':=s1.toks) (fun b u e=>Heap.get?_push_of_some _ e) (Nat.le_refl _) ?_,rfl,q _ hf⟩
 exact⟨z,us,r,⟨_,Heap.get?_push_size _ rfl,rfl,_,rfl⟩⟩
theorem lX(h:PA X es t):PE X (.List es pos) (BK t):=by
 intro pins s σ H Q I hq
 refine wpAny_List_spliced (aE (h pos pins s σ H _ I hq) fun us s1 ⟨xs,H1,I1,r,z,q⟩=>⟨by rw[←r.length];exact z,?_⟩)
 have hf:H1 s1.heap.objs.size=none:=I1.ao.fresh (Nat.le_refl _)
 refine⟨.ref s1.heap.objs.size,upd H1 s1.heap.objs.size (.lst xs),I1.laid (t':=s1.toks) (fun b u e=>Heap.get?_push_of_some _ e) (Nat.le_refl _) ?_,rfl,q _ hf⟩
 exact⟨z,us,0,r,Heap.get?_push_size _ rfl⟩
end
noncomputable abbrev Sp:=List V→Hp→VK→XK→Prop
noncomputable abbrev dR:=List Env→Hp→Shared→XK→Value→Shared→Prop
structure gX(P:Program)(w:World)(K:PySem.W.Frag)(mg:Str→Option Value)(base:Heap)(A:Around)(outer:List Env)(s:Shared)(H:Hp):Prop where
 frames:A.frames=some outer
 mod:Mod K mg base
 bs:∀b o,base.get? b=some o→s.heap.get? b=some o∧H b=none
 fW:base.objs.size≤s.heap.objs.size
 d9:s.heap.FunFrames base outer
 hJ:∀b∈cv outer,H b=none
 ao:ba P w H s.heap
 bare:AllBare s.gens
noncomputable def CE(outer:List Env)(P:Program)(w:World)(H:Hp)(s:Shared)(Q:VK)(u:Value)(s':Shared):Prop:=
 ∃v H',s'.os=s.os∧AllBare s'.gens∧Un (cv outer) [] H H' s.heap s'.heap∧ba P w H' s'.heap∧RelV v u∧Q v H'
noncomputable def CR(CX:dR)(outer:List Env)(P:Program)(w:World)(H:Hp)(s:Shared)(Q:VK)(E:XK)(r:Result)(s':Shared):Prop:=
 match r with
 |.ok (.ret u)=>CE outer P w H s Q u s'
 |.ok _=>False
 |.error e=>CX outer H s E e s'
structure cy(P:Program)(w:World)(K:PySem.W.Frag)(mg:Str→Option Value)(base:Heap)(CX:dR)(k:Nat)(f:Addr)(fd:FuncData)(ps:List Str)(sp:Sp):Prop where
 len:∀vs H Q E,sp vs H Q E→vs.length=ps.length
 run:∀(A:Around) (outer:List Env) (s:Shared) (H:Hp) (args:Args) (us:List Value) (vs:List V) (Q:VK) (E:XK),bt k A→gX P w K mg base A outer s H→BindsTo s fd args (ps.zip us)→Vals vs us→sp vs H Q E→
   codeAny (model P w) A (.call (.ref f) args) (CR CX outer P w H s Q E) s
theorem cy.mono{P:Program}{w:World}{K:PySem.W.Frag}{mg:Str→Option Value}{base:Heap}{CX:dR}{j k:Nat}{f:Addr}{fd:FuncData}{ps:List Str}{sp:Sp}(F:cy P w K mg base CX j f fd ps sp)(h:j≤k):
   cy P w K mg base CX k f fd ps sp:=⟨F.len,fun A outer s H args us vs Q E hr=>F.run A outer s H args us vs Q E (hr.mono h)⟩
theorem cy.imp{P:Program}{w:World}{K:PySem.W.Frag}{mg:Str→Option Value}{base:Heap}{CX:dR}{k:Nat}{f:Addr}{fd:FuncData}{ps:List Str}{sp sp':Sp}(F:cy P w K mg base CX k f fd ps sp)
   (h:∀vs H Q E,sp' vs H Q E→sp vs H Q E):cy P w K mg base CX k f fd ps sp':=
 ⟨fun vs H Q E q=>F.len vs H Q E (h _ _ _ _ q),fun A outer s H args us vs Q E hr he hb hv hs=>F.run A outer s H args us vs Q E hr he hb hv (h _ _ _ _ hs)⟩
theorem gX.in1{P:Program}{w:World}{K:PySem.W.Frag}{mg:Str→Option Value}{base:Heap}{A:Around}{outer:List Env}{s:Shared}{H:Hp}(e:gX P w K mg base A outer s H):
   gX P w K mg base A.in1 outer s H:=⟨e.frames,e.mod,e.bs,e.fW,e.d9,e.hJ,e.ao,e.bare⟩
section
variable{X:Cx}{pins:List (Addr×Obj)}{σ:St}{H:Hp}{s s':Shared}
theorem Inv.wu(I:Inv X pins σ H s):gX X.prog X.w X.K X.mg X.base X.A X.stack s H:=
 ⟨I.ok.frames,I.ok.mod,I.bs,Nat.le_trans I.ok.fW I.sz,I.stack,I.sV,I.ao,I.bare⟩
theorem Inv.after{Q:VK}{u:Value}(I:Inv X pins σ H s)(h:CE X.stack X.prog X.w H s Q u s'):EP X pins σ Q u s':=by
 obtain⟨v,H',os,bare,un,ao,r,q⟩:=h
 obtain⟨hh,g,d,t,os'⟩:=s'
 obtain rfl:os'=s.os:=os
 exact⟨v,H',I.call (h':=hh) (g':=g) (d':=d) (t':=t) (ch:=[]) un ao bare (fun b z=>absurd z (by simp)),r,q⟩
end
noncomputable def oB(sp:Sp)(dvs:List V)(E:XK)(t:TA):TE:=fun σ H Q=>t σ H fun vs H1=>sp (vs++dvs) H1 Q E
noncomputable def Binds(K:PySem.W.Frag)(fd:FuncData)(ps:List Str)(ds:List Value):Prop:=
 ∀(s:Shared) (us:List Value),K.In s.heap→(us++ds).length=ps.length→BindsTo s fd ⟨us,[]⟩ (ps.zip (us++ds))
theorem Binds.all{K:PySem.W.Frag}{fd:FuncData}{ps:List Str}(h:∀us:List Value,us.length=ps.length→bindArgs fd ⟨us,[]⟩=pure (ps.zip us)):Binds K fd ps []:=fun s us _ hl=>by
 rw[List.append_nil]at hl ⊢
 exact .of_eq (h us hl)
noncomputable def Passes(CX:dR)(X:Cx)(E:XK):Prop:=∀(pins:List (Addr×Obj)) (σ:St) (H:Hp) (s:Shared) (e:Value) (s':Shared),Inv X pins σ H s→CX X.stack H s E e s'→X.xe e s'
section
variable{X:Cx}{CX:dR}{k:Nat}{f C:Addr}{fd:FuncData}{ps:List Str}{sp:Sp}{dvs:List V}{ds:List Value}{E:XK}{x m:Str}{p pos apos:Pos}{e o:Expr}{es:List Expr}{ta:TE}{t:TA}
theorem BL{pins:List (Addr×Obj)}{σ:St}{H:Hp}{s:Shared}{Q:VK}{us:List Value}{vs:List V}(F:cy X.prog X.w X.K X.mg X.base CX k f fd ps sp)(hr:bt k X.A)(hb:Binds X.K fd ps ds)(hd:Vals dvs ds)(hx:Passes CX X E)
   (I:Inv X pins σ H s) (r:Vals vs us) (h:sp (vs++dvs) H Q E):wpAny (model X.prog X.w) X.A (call (.ref f) us) (EP X pins σ Q) X.xe s:=by
 have r2:Vals (vs++dvs) (us++ds):=r.append hd
 have hl:(us++ds).length=ps.length:=by rw[←r2.length];exact F.len _ _ _ _ h
 refine wpAny_call (codeAny_mono (F.run X.A X.stack s H ⟨us,[]⟩ (us++ds) (vs++dvs) Q E hr I.wu (hb s us I.cK hl) r2 h) fun r s' hq=>?_)
 cases r with
 |error e=>exact hx pins σ H s e s' I hq
 | ok fl=>
   cases fl with
   |ret u=>exact I.after hq
   |next=>exact False.elim hq
   |brk=>exact False.elim hq
   |cont=>exact False.elim hq
theorem tS(F:cy X.prog X.w X.K X.mg X.base CX k f fd ps sp)(hr:bt k X.A)(hg:Gl X x)(hm:X.mg x=some (.ref f))(hk:PySem.W.keepIn X.K (.ref f)=true)(hb:Binds X.K fd ps ds)(hd:Vals dvs ds)(hx:Passes CX X E)
   (ha:PA X (e::es) t) (hdb:(x==("__debug__":Str))=false:=by decide) (he:starEach (e::es) X.env=(false,eval e X.env)::starEach es X.env:=by rfl) (hpl:(backTo pos (starEach es X.env)).any (·.1)=false:=by rfl):
   PE X (.Call (.Name x p) (e::es) [] pos) (oB sp dvs E t):=by
 intro pins s σ H Q I h
 refine wpAny_Call_Name_kw (tG I hg hm ?_ hdb)
 refine PySem.W.callWith_K (h₀:=X.base) I.ok.mod.nc hk (aE (ha pos pins s σ H _ I h) fun us s1 ⟨vs,H1,I1,r,q⟩=>⟨I1.cK,?_⟩) he hpl
 exact BL F hr hb hd hx I1 r q
end
section
variable{X:Cx}{CX:dR}{k:Nat}{f C:Addr}{fd:FuncData}{ps ks:List Str}{sp:Sp}{E:XK}{x m:Str}{p pos apos kpos:Pos}{e o:Expr}{es:List Expr}{kws:List Keyword}{te ta:TE}{t tk:TA}{nm:Option Str}
variable{g:List Value→List Value→List Value}{gV:List V→List V→List V}
end
structure bE(N P:List Str)(sc:Scope):Prop where
 kind:sc.kind=.function
 co:sc.isCoroutine=false
 gen:sc.isGenerator=false
 nd:N.Nodup
 pre:N.take P.length=P
 par:∀x∈P,sc.names.lookup x=some .local∨sc.names.lookup x=some .cell
 vv:∀y∈sc.names,y.2≠.free
theorem qe{kindOf:Str→Option NameKind}{x:Str}:∀ {binds:List (Str×Value)} {m:Str→Option Value},(∀v,(x,v)∉binds)→bindL kindOf binds m x=m x
 |[],_,_=>rfl
 | (n,v)::r,m,h=>by
   unfold bindL
   rw[qe fun w hw=>h w (List.mem_cons_of_mem _ hw)]
   split
   · have:x≠n:=by rintro rfl;exact h v List.mem_cons_self
     simp[this]
   ·rfl
theorem qv{kindOf:Str→Option NameKind}{x:Str}:∀ {binds:List (Str×Value)} {m:Str→Option Value},(∀v,(x,v)∉binds)→bindC kindOf binds m x=m x
 |[],_,_=>rfl
 | (n,v)::r,m,h=>by
   unfold bindC
   rw[qv fun w hw=>h w (List.mem_cons_of_mem _ hw)]
   split
   ·rfl
   · have:x≠n:=by rintro rfl;exact h v List.mem_cons_self
     simp[this]
theorem qj{kindOf:Str→Option NameKind}{x:Str}{v:Value}:∀ {P:List Str} {vs:List Value} {i:Nat} {m:Str→Option Value},P.Nodup→P[i]? =some x→vs[i]? =some v→kindOf x=some .local→
   bindL kindOf (P.zip vs) m x=some v
 |[],_,_,_,_,h,_,_=>by simp at h
 |_::_,[],_,_,_,_,h,_=>by simp at h
 | p::P,w::vs,0,m,nd,h1,h2,hk=>by
   simp at h1 h2;subst h1;subst h2
   show bindL kindOf ((p,w)::P.zip vs) m p=_
   unfold bindL
   rw[qe fun v hv=>(List.nodup_cons.mp nd).1 (List.of_mem_zip hv).1,if_pos hk]
   simp
 | p::P,w::vs,i+1,m,nd,h1,h2,hk=>by
   show bindL kindOf ((p,w)::P.zip vs) m x=_
   unfold bindL
   exact qj (i:=i) (List.nodup_cons.mp nd).2 (by simpa using h1) (by simpa using h2) hk
theorem pW{kindOf:Str→Option NameKind}{x:Str}{v:Value}:∀ {P:List Str} {vs:List Value} {i:Nat} {m:Str→Option Value},P.Nodup→P[i]? =some x→vs[i]? =some v→kindOf x≠some .local→
   bindC kindOf (P.zip vs) m x=some v
 |[],_,_,_,_,h,_,_=>by simp at h
 |_::_,[],_,_,_,_,h,_=>by simp at h
 | p::P,w::vs,0,m,nd,h1,h2,hk=>by
   simp at h1 h2;subst h1;subst h2
   show bindC kindOf ((p,w)::P.zip vs) m p=_
   unfold bindC
   rw[qv fun v hv=>(List.nodup_cons.mp nd).1 (List.of_mem_zip hv).1,if_neg hk]
   simp
 | p::P,w::vs,i+1,m,nd,h1,h2,hk=>by
   show bindC kindOf ((p,w)::P.zip vs) m x=_
   unfold bindC
   exact pW (i:=i) (List.nodup_cons.mp nd).2 (by simpa using h1) (by simpa using h2) hk
noncomputable def start(N:List Str)(vs:List V):St:=vs.map some++List.replicate (N.length - vs.length) none
noncomputable def fK(CX:dR)(P:Program)(w:World)(K:PySem.W.Frag)(mg:Str→Option Value)(base:Heap)(N:List Str)(qual:Str)(scope:Scope)(f:Addr)(cd:Value)(A:Around)(outer:List Env)(s:Shared)(H:Hp)(E:XK):Cx where
 prog:=P
 w:=w
 K:=K
 mg:=mg
 base:=base
 A:=A.deeper (envOfC qual scope s.heap.objs.size f cd)
 N:=N
 bX:=s
 fH:=H
 env:=envOfC qual scope s.heap.objs.size f cd
 outer:=outer
 stack:=envOfC qual scope s.heap.objs.size f cd::outer
 ex:=[]
 calm:=true
 fn:=fun _=>true
 pn:=[]
 xe:=fun e s'=>wpAny (model P w) (A.deeper (envOfC qual scope s.heap.objs.size f cd)) (leaving (envOfC qual scope s.heap.objs.size f cd) e) (fun _ s''=>CX outer H s E e s'') (fun e' s''=>CX outer H s E e' s'') s'
theorem tF{sc:Scope}{n:Nat}{x:Str}(h:sc.names.lookup x=some .cell):∃c,(cellsFrom n sc.names []).lookup x=some c:=by
 have q:=PySem.W.cellsFrom_some sc.names n [] (.inl h)
 exact Option.isSome_iff_exists.mp q
theorem Aw{CX:dR}{P:Program}{w:World}{K:PySem.W.Frag}{mg:Str→Option Value}{base:Heap}{N ps:List Str}{qual:Str}{scope:Scope}{f:Addr}{cd:Value}{A:Around}{outer:List Env}{s s1:Shared}{H:Hp}{E:XK}{us:List Value}{vs:List V}
   (S:bE N ps scope) (hd:A.handled=none) (e0:gX P w K mg base A outer s H) (hl:vs.length=ps.length) (r:Vals vs us)
   (x:InCallC s s.heap.objs.size (bindL (envOfC qual scope s.heap.objs.size f cd).kindOf (ps.zip us) fun _=>none) (cellsFrom (s.heap.objs.size+1) scope.names []) (bindC (envOfC qual scope s.heap.objs.size f cd).kindOf (ps.zip us) fun _=>none) s1):
   Inv (fK CX P w K mg base N qual scope f cd A outer s H E) [] (start N vs) H s1:=by
 have hpl:ps.length≤N.length:=by have:=congrArg List.length S.pre;rw[List.length_take]at this;omega
 obtain⟨h1,tk,rfl,hk⟩:=x.done
 have noA:∀b:Addr,b∉(fK CX P w K mg base N qual scope f cd A outer s H E).ex:=fun b z=>absurd (show b∈([]:List Addr)from z) (by simp)
 refine⟨⟨e0.mod,S.kind,rfl,rfl,Nat.le_refl _,fun y z c h1 h2=>?_,fun y hy=>?_,fun y c _ h=>?_,fun _=>hd,Around.frames_deeper e0.frames,.inr ⟨rfl,rfl⟩,fun b z=>absurd z (noA b),e0.bs,e0.fW,fun b _ _=>noA b,fun b z=>absurd z (noA b),e0.d9,e0.hJ⟩,
   rfl,e0.bare,Un.kept hk,⟨_,x.toInCall.ns,fun i y v h1 h2 h3=>?_⟩,fun y c h=>⟨_,x.cell y c h⟩,e0.ao.fresh (Nat.le_refl _),fun y c h=>?_,fun p hp=>absurd (show p∈([]:List (Addr×Obj))from hp) (by simp),e0.ao.kept hk,?_⟩
 ·exact name_of_addr x.apart (PySem.mem_of_lookup h1) (PySem.mem_of_lookup h2)
 · have hy:scope.names.lookup y=some .cell∨scope.names.lookup y=some .free:=hy
   rcases hy with hy|hy
   ·exact tF hy
   ·exact absurd rfl (S.vv _ (PySem.mem_of_lookup hy))
 ·exact Nat.le_of_lt (x.above y c (PySem.mem_of_lookup h))
 · have hi:i<vs.length:=by
     unfold start at h2
     by_cases hi:i<vs.length
     ·exact hi
     · rw[List.getElem?_append_right (by simpa using hi)]at h2
       rw[List.getElem?_replicate]at h2
       split at h2<;>cases h2
   have ha:vs[i]? =some v:=by
     unfold start at h2
     rw[List.getElem?_append_left (by simpa using hi),List.getElem?_map]at h2
     cases e:vs[i]? with
     |none=>rw[e]at h2;cases h2
     |some a=>rw[e]at h2;cases h2;rfl
   obtain⟨u,hu,rv⟩:=r.get ha
   have hp:ps[i]? =some y:=by
     rw[←S.pre,List.getElem?_take_of_lt (by omega)];exact h1
   have ndP:ps.Nodup:=by rw[←S.pre];exact S.nd.sublist (List.take_sublist _ _)
   refine⟨u,rv,?_⟩
   rcases S.par y (List.mem_of_getElem? hp)with k|k
   ·exact .inl ⟨k,qj ndP hp hu k⟩
   · obtain⟨c,e⟩:=tF (n:=s.heap.objs.size+1) k
     refine .inr ⟨.inl k,c,e,?_⟩
     have q:=x.cell y c e
     rw[pW ndP hp hu (by show scope.names.lookup y≠_;rw[k];decide)]at q
     exact q
 ·exact e0.ao.fresh (Nat.le_of_lt (x.above y c (PySem.mem_of_lookup h)))
 · unfold start
   show _=N.length
   rw[List.length_append,List.length_map,List.length_replicate]
   omega
theorem Ca{CX:dR}{P:Program}{w:World}{K:PySem.W.Frag}{mg:Str→Option Value}{base:Heap}{k:Nat}{f:Addr}{name qual:Str}{params:Arguments}{body:List Stmt}{scope:Scope}{dV kV doc pm cdv ct oc:Value}{an od:Option Addr}
   {osl:Array (Option Value)} {N ps:List Str} {sp:Sp} (lk:K.lookup f=some ⟨oc,od,.func (PySem.W.fnOf name qual params body scope dV kV doc pm an cdv ct),osl⟩) (hcd:PySem.W.codeIn K cdv qual=true) (S:bE N ps scope)
   (len:∀vs H Q E,sp vs H Q E→vs.length=ps.length)
   (hbody:∀(A:Around) (outer:List Env) (s:Shared) (H:Hp) (vs:List V) (Q:VK) (E:XK),bt k (A.deeper (envOfC qual scope s.heap.objs.size f cdv))→sp vs H Q E→
     ∃t,bK (fK CX P w K mg base N qual scope f cdv A outer s H E) body t∧t {nx:=fun _ H'=>Q .aF H',rt:=Q} (start N vs) H):
   cy P w K mg base CX (k+1) f (PySem.W.fnOf name qual params body scope dV kV doc pm an cdv ct) ps sp:=by
 refine⟨len,fun A outer s H args us vs Q E hr e0 hb r hsp=>?_⟩
 have hl:=len _ _ _ _ hsp
 have KX:K.In s.heap:=e0.mod.nc.keeps fun b o e=>(e0.bs b o e).1
 have lim:s.heap.NoLimit:=e0.mod.nolimit.keeps fun b o e=>(e0.bs b o e).1
 have hkind:∀y∈ps.zip us,scope.names.lookup y.1=some .local∨(scope.names.lookup y.1=some .cell∧((cellsFrom (s.heap.objs.size+1) scope.names []).lookup y.1).isSome=true):=fun⟨n,v⟩ hy=>by
   rcases S.par n (List.of_mem_zip hy).1 with q|q
   ·exact .inl q
   ·exact .inr ⟨q,PySem.W.cellsFrom_some _ _ _ (.inl q)⟩
 refine codeAny_call_function hr.depth (KX _ _ lk) rfl S.co S.gen rfl (PySem.W.codeRec_of KX hcd) (hb _ _ _ _ ?_)
 refine wpAny_newFunctionEnv_cells S.kind hkind fun env he s1 x=>?_
 subst he
 refine⟨lim.keeps x.toInCall.keep,codeAny_func ?_⟩
 obtain⟨t,ht,hq⟩:=hbody A outer s H vs Q E (hr.deeper _) hsp
 have I:Inv (fK CX P w K mg base N qual scope f cdv A outer s H E) [] (start N vs) H s1:=Aw S hr.hd e0 hl r x
 refine wpAny_mono (ht [] s1 (start N vs) H _ I hq) (fun fl s' hs=>?_) fun e s' hs=>hs
 have fin:∀ {σ':St} {H':Hp} {v:V} {u:Value},Inv (fK CX P w K mg base N qual scope f cdv A outer s H E) [] σ' H' s'→RelV v u→Q v H'→CE outer P w H s Q u s':=
   fun {σ' H' v u} J rv q=>⟨v,H',J.os,J.bare,J.base,J.ao,rv,q⟩
 cases fl with
 | ret u=>
   obtain⟨v,σ',H',J,rv,q⟩:=hs
   exact fin J rv q
 | next=>
   obtain⟨σ',H',J,q⟩:=hs
   exact fin (v:=V.aF) (u:=Value.none) J rfl q
 | brk=>
   obtain⟨_,_,_,q⟩:=hs
   exact False.elim q
 | cont=>
   obtain⟨_,_,_,q⟩:=hs
   exact False.elim q
end L2
namespace L2
open PySem PySem.Spec PyProof.Rows
section
variable{X:Cx}{x:Str}{p pos:Pos}{e:Expr}{es:List Expr}{t:TA}{id T:String}{r:List V→Hp→VK→Prop}
noncomputable def pw(r:List V→Hp→VK→Prop)(t:TA):TE:=fun σ H Q=>t σ H fun vs H1=>r vs H1 Q
theorem ke(hc:bp X (.builtin id) r)(hg:Gl X x)(hm:X.mg x=none)(hv:bootBuiltins x=some (.builtin id))(ha:PA X (e::es) t)(hn:x≠"__name__":=by decide)(hdb:(x==("__debug__":Str))=false:=by decide)
   (he:starEach (e::es) X.env=(false,eval e X.env)::starEach es X.env:=by rfl) (hpl:(backTo pos (starEach es X.env)).any (·.1)=false:=by rfl):PE X (.Call (.Name x p) (e::es) [] pos) (pw r t):=by
 intro pins s σ H Q I h
 refine wpAny_Call_Name_kw (fS I hg hm hv ?_ hn hdb)
 exact PyProof.Rows.callWith_builtin1 (aE (ha pos pins s σ H _ I h) fun us s1 ⟨vs,H1,I1,r1,q1⟩=>hc pins s1 σ H1 vs us Q I1 r1 q1) he hpl
theorem oz(hc:bp X (.type T) r)(hg:Gl X x)(hm:X.mg x=none)(hv:bootBuiltins x=some (.type T))(ha:PA X (e::es) t)(hn:x≠"__name__":=by decide)(hdb:(x==("__debug__":Str))=false:=by decide)
   (he:starEach (e::es) X.env=(false,eval e X.env)::starEach es X.env:=by rfl) (hpl:(backTo pos (starEach es X.env)).any (·.1)=false:=by rfl):PE X (.Call (.Name x p) (e::es) [] pos) (pw r t):=by
 intro pins s σ H Q I h
 refine wpAny_Call_Name_kw (fS I hg hm hv ?_ hn hdb)
 exact PyProof.Rows.callWith_type1 (aE (ha pos pins s σ H _ I h) fun us s1 ⟨vs,H1,I1,r1,q1⟩=>hc pins s1 σ H1 vs us Q I1 r1 q1) he hpl
end
end L2
namespace HT
open PySem PyProof.Rows
section
open PySem.SeqAt
open PySem.AutoSeq1 (wpAny_loadPart')
open PySem.MeetsSeq PySem.MeetsSeq2 PySem.MeetsSeq3
end
section
variable{prog:Program}{w:World}{A:Around}{E:Value→Shared→Prop}{s:Shared}
theorem CB{t b:Addr}{vs ws:List Value}{Q:Value→Shared→Prop}(ht:IsTup s.heap t vs.toArray)(hb:IsTup s.heap b ws.toArray)(hv:vs≠[])
   (h1:ws=[]→Q (.ref t) s) (h2:ws≠[]→Q (.ref s.heap.objs.size) {s with heap:=s.heap.push {cls:=.type "tuple",data:=.seq (vs++ws).toArray} })
   (hsz:vs.length+ws.length≤sizeLine):wpAny (model prog w) A (binaryOp .Add (.ref t) (.ref b)) Q E s:=by
 obtain⟨⟨cls,dd,data,sl⟩,ho,hc,n,hd⟩:=id ht
 obtain⟨⟨cls2,dd2,data2,sl2⟩,ho2,hc2,n2,hd2⟩:=id hb
 simp only at hc hd hc2 hd2
 subst hc hd hc2 hd2
 have e:vs.toArray++ws.toArray=(vs++ws).toArray:=by simp
 by_cases hw:ws=[]
 · exact concat_meets ⟨_,ho,rfl⟩ ⟨_,ho2,rfl⟩ noFill_tuple_add seq_tuple_add PySem.F.slot_tuple_add PySem.F.entry_tuple_add (PySem.F.args_tuple_add_2 _ _)
     (tuple_addW1 t b vs.toArray ws.toArray n n2 dd dd2 sl sl2 (by simpa using hv) (by simp[hw])) ⟨ho,ho2,h1 hw⟩
 · refine concat_meets ⟨_,ho,rfl⟩ ⟨_,ho2,rfl⟩ noFill_tuple_add seq_tuple_add PySem.F.slot_tuple_add PySem.F.entry_tuple_add (PySem.F.args_tuple_add_2 _ _)
     (tuple_addW2 t b vs.toArray ws.toArray n n2 dd dd2 sl sl2 (by simpa using hv) (by simpa using hw) (by rw[List.size_toArray,List.size_toArray];exact hsz)) ⟨ho,ho2,?_⟩
   rw[e]
   exact h2 hw
noncomputable def aH(n d:Nat):Option Int→Nat
 |none=>d
 |some v=>if v<0 then(v+(n:Int)).toNat else min v.toNat n
theorem AX(n d:Nat)(hd:d≤n)(o:Option Int):aH n d o≤n:=by
 cases o with
 |none=>exact hd
 | some v=>
   show(if v<0 then(v+(n:Int)).toNat else min v.toNat n)≤n
   by_cases hv:v<0
   ·rw[if_pos hv];omega
   ·rw[if_neg hv];exact Nat.min_le_right _ _
theorem qA(v:Int)(n d:Nat):(if v<0 then max (v+(n:Int)) 0 else min v (n:Int))=((aH n d (some v):Nat):Int):=by
 show(if v<0 then max (v+(n:Int)) 0 else min v (n:Int))=(((if v<0 then(v+(n:Int)).toNat else min v.toNat n):Nat):Int)
 by_cases hv:v<0
 ·simp only[if_pos hv];omega
 ·simp only[if_neg hv];omega
theorem Ah(lo hi:Option Int)(n:Nat):Builtin.Slice.sliceAdjust lo hi 1 (n:Int)=(((aH n 0 lo:Nat):Int),((aH n n hi:Nat):Int)):=by
 have h1:¬((1:Int)<0):=by omega
 unfold Builtin.Slice.sliceAdjust
 simp only[h1,if_false]
 refine Prod.ext ?_ ?_
 · cases lo with
   |none=>rfl
   |some v=>exact qA v n 0
 · cases hi with
   |none=>rfl
   |some v=>exact qA v n n
theorem wt(i j:Nat):Builtin.Slice.slicePlaces (i:Int) (j:Int) 1=j - i:=by
 unfold Builtin.Slice.slicePlaces
 have h1:(1:Int)>0:=by omega
 simp only[h1,if_true,Int.ediv_one]
 split<;>omega
theorem pL{v:Value}{o:Option Int}{Q:Option Int→Shared→Prop}(p:IsPart v o)(h:Q o s):wpAny (model prog w) A (Builtin.Slice.slicePartIndex v) Q E s:=by
 cases p with
 |none=>exact slicePart_none h
 |int i t=>exact slicePart_int h
theorem A4{sl:Addr}{vl vu:Value}{lo hi:Option Int}{n:Nat}{Q:Int×Int×Nat→Shared→Prop}(hs:s.heap.IsSliceOf sl vl vu .none)(pl:IsPart vl lo)(pu:IsPart vu hi)
   (h:Q (((aH n 0 lo:Nat):Int),1,aH n n hi - aH n 0 lo) s):wpAny (model prog w) A (Builtin.Slice.sliceApplied (.ref sl) (pure (n:Int))) Q E s:=by
 obtain⟨os,hos,hcs,hds⟩:=id hs
 unfold Builtin.Slice.sliceApplied Builtin.Slice.sliceFields
 refine wpAny_bind (wpAny_bind (wpAny_field hos hds (x:=vl) rfl (wpAny_bind (wpAny_field hos hds (x:=vu) rfl (wpAny_bind (wpAny_field hos hds (x:=.none) rfl (wpAny_pure ?_)))))))
 refine wpAny_bind (slicePart_none ?_)
 show wpAny _ _ (if((1:Int)==0)=true then _ else _) _ _ s
 rw[if_neg (by decide)]
 refine wpAny_bind (pL pl (wpAny_bind (pL pu (wpAny_bind (wpAny_pure ?_)))))
 show wpAny _ _ (match Builtin.Slice.sliceAdjust lo hi 1 (n:Int)with|(lo,hi)=>pure (lo,(1:Int),Builtin.Slice.slicePlaces lo hi 1)) _ _ s
 rw[Ah lo hi n]
 show wpAny _ _ (pure (((aH n 0 lo:Nat):Int),(1:Int),Builtin.Slice.slicePlaces ((aH n 0 lo:Nat):Int) ((aH n n hi:Nat):Int) 1)) _ _ s
 rw[wt]
 exact wpAny_pure h
theorem C5(xs:Array Value)(i k:Nat):((List.range k).filterMap fun(m:Nat)=>xs[((i:Int)+(m:Int)*1).toNat]?).toArray=((xs.toList.drop i).take k).toArray:=by
 have e:(fun(m:Nat)=>xs[((i:Int)+(m:Int)*1).toNat]?)=fun m=>xs[i+m]? :=by
   funext m
   have:((i:Int)+(m:Int)*1).toNat=i+m:=by omega
   rw[this]
 rw[e]
 have:=pick_run xs i k
 rw[List.filterMap_map]at this
 have e2:((fun x=>xs[x]?)∘fun x=>i+x)=fun m=>xs[i+m]? :=rfl
 rw[e2]at this
 rw[this]
theorem uW{t sl:Addr}{items:Array Value}{vl vu:Value}{lo hi:Option Int}{Q:Value→Shared→Prop}(ht:IsTup s.heap t items)(hs:s.heap.IsSliceOf sl vl vu .none)(pl:IsPart vl lo)(pu:IsPart vu hi)
   (hw:¬(aH items.size 0 lo=0∧aH items.size items.size hi=items.size))
   (h:Q (.ref s.heap.objs.size) {s with heap:=s.heap.push {cls:=.type "tuple",data:=.seq ((items.toList.drop (aH items.size 0 lo)).take (aH items.size items.size hi - aH items.size 0 lo)).toArray} })
   (hsz:items.size≤sizeLine):wpAny (model prog w) A (getItem (.ref t) (.ref sl)) Q E s:=by
 have htake:sizeOk (.seq ((items.toList.drop (aH items.size 0 lo)).take (aH items.size items.size hi - aH items.size 0 lo)).toArray):=by
   show((items.toList.drop (aH items.size 0 lo)).take (aH items.size items.size hi - aH items.size 0 lo)).toArray.size≤sizeLine
   rw[List.size_toArray,List.length_take,List.length_drop,Array.length_toList]
   omega
 have hj:aH items.size items.size hi≤items.size:=AX _ _ (Nat.le_refl _) hi
 obtain⟨os,hos,hcs,hds⟩:=id hs
 have hTs:s.TypeIs (.ref sl) "slice":=⟨os,hos,hcs⟩
 unfold getItem
 try with_reducible refine wpAny_holding ?_
 first|refine wpAny_bind (wpAny_pure ?_)|skip
 refine wpAny_bind (wpAny_sequenceKey ht.typeIs (by decide) ?_)
 refine wpAny_bind (wpAny_callSpecial?_slot (name:=Str.ofString "__getitem__") ht.typeIs PyProof.Rows.slot_tuple_getitem
   (wpAny_call_entry PyProof.Rows.slot_tuple_getitem ht.typeIs entry_tuple_getitem ?_ (args_tuple_getitem _ _)))
 show wpAny _ _ (Builtin.Tuple.tupleItemsOf (.ref t) >>= _) _ _ s
 refine wpAny_bind (tupleItemsOf_ ht ?_)
 refine wpAny_bind (wpAny_typeOf hTs ?_)
 rw[if_pos (by decide)]
 refine wpAny_bind (A4 hs pl pu ?_)
 have hno:¬((((aH items.size 0 lo:Nat):Int)==0&&(1:Int)==1&&(aH items.size items.size hi - aH items.size 0 lo)==items.size)=true):=by
   intro q
   rw[Bool.and_eq_true,Bool.and_eq_true]at q
   have q1:((aH items.size 0 lo:Nat):Int)=0:=eq_of_beq q.1.1
   have q2:aH items.size items.size hi - aH items.size 0 lo=items.size:=eq_of_beq q.2
   exact hw ⟨by omega,by omega⟩
 show wpAny _ _ (if(((aH items.size 0 lo:Nat):Int)==0&&(1:Int)==1&&(aH items.size items.size hi - aH items.size 0 lo)==items.size)=true then _ else _) _ _ s
 rw[if_neg hno,C5]
 first
   |exact wpAny_bind (m:=Builtin.Tuple.tupleExact _) (wpAny_newObj_type (wpAny_pure ⟨_,rfl,wpAny_pure h⟩) htake)
   |exact wpAny_bind (m:=Builtin.Tuple.tupleExact _) (wpAny_newObj_type (wpAny_bind (wpAny_pure (wpAny_pure ⟨_,rfl,wpAny_pure h⟩))) htake)
   |exact wpAny_bind (wpAny_bind (m:=Builtin.Tuple.tupleExact _) (wpAny_newObj_type (wpAny_pure (wpAny_pure ⟨_,rfl,wpAny_pure h⟩)) htake))
   |exact wpAny_bind (wpAny_bind (m:=Builtin.Tuple.tupleExact _) (wpAny_newObj_type (wpAny_pure ⟨_,rfl,wpAny_pure h⟩) htake))
end
end HT
namespace L2
open PySem PySem.Spec PyProof.Rows
noncomputable abbrev TO:=St→Hp→(Option Int→Hp→Prop)→Prop
noncomputable def PO(X:Cx)(e:Option Expr)(t:TO):Prop:=
 ∀(pins:List (Addr×Obj)) (s:Shared) (σ:St) (H:Hp) (Q:Option Int→Hp→Prop),Inv X pins σ H s→t σ H Q→
   wpAny (model X.prog X.w) X.A (evalPart e X.env) (fun u s'=>∃o H',Inv X pins σ H' s'∧IsPart u o∧Q o H') X.xe s
noncomputable def uQ:TO:=fun _ H Q=>Q none H
noncomputable def Cb(t:TE):TO:=fun σ H Q=>t σ H fun x H1=>∃i,x=.int i∧Q (some i) H1
section
variable{X:Cx}{e:Expr}{te:TE}{lo hi:Option Expr}{tl th:TO}{pos p2:Pos}
theorem zL:PO X none uQ:=by
 intro pins s σ H Q I h
 rw[evalPart_none]
 exact wpAny_pure ⟨none,H,I,.none,h⟩
theorem Cp(h:PE X e te):PO X (some e) (Cb te):=by
 intro pins s σ H Q I hw
 rw[evalPart_some]
 refine aE (h pins s σ H _ I hw) fun u s1 ⟨x,H1,I1,r1,q1⟩=>?_
 obtain⟨i,rfl,q⟩:=q1
 obtain⟨t,rfl⟩:=r1
 exact⟨some i,H1,I1,.int i t,q⟩
noncomputable def fN(X:Cx)(r:V→Option Int→Option Int→Hp→VK→Prop):Prop:=
 ∀(pins:List (Addr×Obj)) (s:Shared) (σ:St) (H:Hp) (x:V) (v vl vu:Value) (lo hi:Option Int) (sl:Addr) (Q:VK),Inv X pins σ H s→RelV x v→s.heap.IsSliceOf sl vl vu .none→IsPart vl lo→IsPart vu hi→r x lo hi H Q→
   ∃T id,typeLookup (.type T) "__getitem__"=pure (some (.builtin id))∧s.TypeIs v T∧wpAny (model X.prog X.w) X.A (getItem v (.ref sl)) (EP X pins σ Q) X.xe s
theorem fN.or{r r':V→Option Int→Option Int→Hp→VK→Prop}(h:fN X r)(h':fN X r'):fN X (fun x lo hi H Q=>r x lo hi H Q∨r' x lo hi H Q):=by
 intro pins s σ H x v vl vu lo hi sl Q I rx hs pl pu q
 rcases q with q|q
 ·exact h pins s σ H x v vl vu lo hi sl Q I rx hs pl pu q
 ·exact h' pins s σ H x v vl vu lo hi sl Q I rx hs pl pu q
noncomputable def B4(r:V→Option Int→Option Int→Hp→VK→Prop)(te:TE)(tl th:TO):TE:=fun σ H Q=>te σ H fun x H1=>tl σ H1 fun l H2=>th σ H2 fun u H3=>r x l u H3 Q
theorem tK{r:V→Option Int→Option Int→Hp→VK→Prop}(hr:fN X r)(he:PE X e te)(hl:PO X lo tl)(hu:PO X hi th):PE X (.Subscript e (.Slice lo hi none p2) pos) (B4 r te tl th):=by
 intro pins s σ H Q I h
 refine Subscript_ (aE (he pins s σ H _ I h) fun v s1 ⟨x,H1,I1,r1,q1⟩=>?_)
 refine wpAny_Slice (aE (hl pins s1 σ H1 _ I1 q1) fun vl s2 ⟨l,H2,I2,pl,q2⟩=>aE (hu pins s2 σ H2 _ I2 q2) fun vu s3 ⟨u,H3,I3,pu,q3⟩=>?_)
 rw[evalPart_none]
 refine wpAny_pure ?_
 have I4:Inv X pins σ H3 {s3 with heap:=s3.heap.push {cls:=.type "slice",data:=.fields #[vl,vu,.none]} }:=I3.kept (t':=s3.toks) fun b ob q=>Heap.get?_push_of_some _ q
 obtain⟨T,id,hT,ht,hg⟩:=hr pins {s3 with heap:=s3.heap.push {cls:=.type "slice",data:=.fields #[vl,vu,.none]} } σ H3 x v vl vu l u s3.heap.objs.size Q I4 r1 (Heap.IsSliceOf.new ..) pl pu q3
 show wpAny (model X.prog X.w) X.A (subscriptTail e (.Slice lo hi none p2) v (.ref s3.heap.objs.size)) (EP X pins σ Q) X.xe {s3 with heap:=s3.heap.push {cls:=.type "slice",data:=.fields #[vl,vu,.none]} }
 exact tail_any (ops:=[.ref s3.heap.objs.size,v]) ht hT hg (by with_unfolding_all rfl)
noncomputable def gk(xs:List V)(lo hi:Option Int):List V:=(xs.drop (HT.aH xs.length 0 lo)).take (HT.aH xs.length xs.length hi - HT.aH xs.length 0 lo)
theorem qq(xs:List V)(lo hi:Option Int):(gk xs lo hi).length≤xs.length:=by
 unfold gk
 rw[List.length_take,List.length_drop]
 omega
noncomputable def yr(K:PySem.W.Frag):V→Option Int→Option Int→Hp→VK→Prop:=fun x lo hi H Q=>∃a xs,x=.ref a∧aW K H a xs∧
 ¬(HT.aH xs.length 0 lo=0∧HT.aH xs.length xs.length hi=xs.length)∧∀p,H p=none→Q (.ref p) (upd H p (.tup (gk xs lo hi)))
theorem rO:fN X (yr X.K):=by
 intro pins s σ H x v vl vu lo hi sl Q I rx hs pl pu h
 obtain⟨a,xs,rfl,hx,hw,q⟩:=h
 cases rx
 obtain⟨its,r,ht,hz⟩:=I.tuple hx
 have hlen:its.toArray.size=xs.length:=by rw[List.size_toArray];exact r.length.symm
 refine⟨"tuple",_,PyProof.Rows.slot_tuple_getitem.lookup,ht.typeIs,?_⟩
 refine HT.uW ht hs pl pu (by rw[hlen];exact hw) ?_ (by rw[hlen];exact hz)
 rw[hlen]
 refine⟨.ref s.heap.objs.size,_,I.laid (t':=s.toks) (o:=.tup (gk xs lo hi)) (fun b ob q=>Heap.get?_push_of_some _ q) (Nat.le_refl _) ?_,rfl,q _ (I.ao.fresh (Nat.le_refl _))⟩
 exact⟨Nat.le_trans (qq xs lo hi) hz,_,(r.drop (HT.aH xs.length 0 lo)).take (HT.aH xs.length xs.length hi - HT.aH xs.length 0 lo),IsTup.new _ _⟩
noncomputable def qh(K:PySem.W.Frag):R2:=fun x y H Q=>∃a b xs ys,x=.ref a∧y=.ref b∧aW K H a xs∧aW K H b ys∧xs≠[]∧xs.length+ys.length≤sizeLine∧
 (ys=[]→Q (.ref a) H)∧(ys≠[]→∀p,H p=none→Q (.ref p) (upd H p (.tup (xs++ys))))
theorem Vals.nR{xs:List V}{us:List Value}(r:Vals xs us):us=[]↔xs=[]:=by
 cases r with
 |nil=>simp
 |cons _ _=>simp
theorem CD:aQ X (binaryOp .Add) (qh X.K):=by
 intro pins s σ H x y v u Q I rx ry h
 obtain⟨a,b,xs,ys,rfl,rfl,ha,hb,hx,hz,q1,q2⟩:=h
 cases rx
 cases ry
 obtain⟨its,r1,p1,_⟩:=I.tuple ha
 obtain⟨its2,r2,p2,_⟩:=I.tuple hb
 refine HT.CB p1 p2 (fun z=>hx (r1.nR.mp z)) (fun z=>⟨.ref a,H,I,rfl,q1 (r2.nR.mp z)⟩) (fun z=>?_) (by rw[←r1.length, ←r2.length];exact hz)
 refine⟨.ref s.heap.objs.size,_,I.laid (t':=s.toks) (o:=.tup (xs++ys)) (fun b ob q=>Heap.get?_push_of_some _ q) (Nat.le_refl _) ?_,rfl,q2 (fun w=>z (r2.nR.mpr w)) _ (I.ao.fresh (Nat.le_refl _))⟩
 exact⟨by rw[List.length_append];exact hz,_,r1.append r2,IsTup.new _ _⟩
end
end L2
namespace L2
open PySem PySem.Spec PyProof.Rows
noncomputable def bJ(n:Nat)(i:Int):Option Nat:=if 0≤i then(if i<n then some i.toNat else none)else if -(n:Int)≤i then some (i+n).toNat else none
noncomputable def bI{α:Type}(xs:List α)(i:Int):Option α:=(bJ xs.length i).bind fun j=>xs[j]?
theorem nZ{n:Nat}{i:Int}{j:Nat}(h:bJ n i=some j):seqIndex? i n=some j∧j<n∧ -(n:Int)≤i∧i<n:=by
 unfold bJ at h
 by_cases h0:0≤i
 · rw[if_pos h0]at h
   by_cases h1:i<n
   · rw[if_pos h1]at h
     have e:i.toNat=j:=Option.some.inj h
     exact⟨by rw[seqIndex_of h0 h1,e],by omega,by omega,h1⟩
   ·rw[if_neg h1]at h;cases h
 · rw[if_neg h0]at h
   by_cases h1: -(n:Int)≤i
   · rw[if_pos h1]at h
     have e:(i+n).toNat=j:=Option.some.inj h
     exact⟨by rw[seqIndex_neg (by omega) h1,e],by omega,h1,by omega⟩
   ·rw[if_neg h1]at h;cases h
theorem ph{α:Type}{xs:List α}{i:Int}{v:α}(h:bI xs i=some v):∃j,seqIndex? i xs.length=some j∧xs[j]? =some v∧j<xs.length∧ -(xs.length:Int)≤i∧i<xs.length:=by
 unfold bI at h
 cases e:bJ xs.length i with
 |none=>rw[e]at h;cases h
 | some j=>
   rw[e]at h
   obtain⟨h1,h2,h3,h4⟩:=nZ e
   exact⟨j,h1,h,h2,h3,h4⟩
noncomputable def fu(b:Expr):Prop:=∀o i,subscripted b false o i=operate [o,i] (getItem o i)
noncomputable def eK(X:Cx)(r:R2):Prop:=
 ∀(value slice:Expr) (pins:List (Addr×Obj)) (s:Shared) (σ:St) (H:Hp) (x y:V) (v u:Value) (Q:VK),Inv X pins σ H s→RelV x v→RelV y u→r x y H Q→
   subscripted slice false v u=operate [v,u] (getItem v u)→wpAny (model X.prog X.w) X.A (subscriptTail value slice v u) (EP X pins σ Q) X.xe s
noncomputable def ja(X:Cx)(id:String)(r:V→List V→Hp→VK→Prop):Prop:=
 ∀(pins:List (Addr×Obj)) (s:Shared) (σ:St) (H:Hp) (x:V) (xs:List V) (v:Value) (us:List Value) (Q:VK),Inv X pins σ H s→RelV x v→Vals xs us→r x xs H Q→
   wpAny (model X.prog X.w) X.A (call (.builtin id) (v::us)) (EP X pins σ Q) X.xe s
section
variable{X:Cx}{a b:Expr}{ta tb:TE}{pos:Pos}
theorem eK.or{r r':R2}(h:eK X r)(h':eK X r'):eK X (fun x y H Q=>r x y H Q∨r' x y H Q):=by
 intro value slice pins s σ H x y v u Q I rx ry q hs
 rcases q with q|q
 ·exact h value slice pins s σ H x y v u Q I rx ry q hs
 ·exact h' value slice pins s σ H x y v u Q I rx ry q hs
theorem ja.or{id:String}{r r':V→List V→Hp→VK→Prop}(h:ja X id r)(h':ja X id r'):ja X id (fun x xs H Q=>r x xs H Q∨r' x xs H Q):=by
 intro pins s σ H x xs v us Q I rx rs q
 rcases q with q|q
 ·exact h pins s σ H x xs v us Q I rx rs q
 ·exact h' pins s σ H x xs v us Q I rx rs q
theorem me{r:R2}(hr:eK X r)(ha:PE X a ta)(hb:PE X b tb)(hs:fu b):PE X (.Subscript a b pos) (iK r ta tb):=by
 intro pins s σ H Q I h
 exact Subscript_ (pf ha hb I h fun v u s2 x y H2 I2 rx ry q=>hr a b pins s2 σ H2 x y v u Q I2 rx ry q (hs _ _))
noncomputable def qc(K:PySem.W.Frag):R2:=fun x y H Q=>∃p xs i v,x=.ref p∧y=.int i∧aM K H p xs∧bI xs i=some v∧Q v H
noncomputable def qa(K:PySem.W.Frag):R2:=fun x y H Q=>∃p xs i v,x=.ref p∧y=.int i∧aW K H p xs∧bI xs i=some v∧Q v H
noncomputable def pU:R2:=fun x y H Q=>∃z i c,x=.str z∧y=.int i∧z.length≤sizeLine∧bI z.cps.toList i=some c∧Q (.str ⟨#[c]⟩) H
theorem uv:eK X (qc X.K):=by
 intro value slice pins s σ H x y v u Q I rx ry h hs
 obtain⟨p,xs,i,z,rfl,rfl,hq,he,q⟩:=h
 cases rx
 obtain⟨t,rfl⟩:=ry
 obtain⟨its,r,pl,hz⟩:=I.list hq
 obtain⟨j,h1,h2,h3,h4,h5⟩:=ph he
 obtain⟨w,ew,rw'⟩:=r.get h2
 have hl:=r.length
 have hn:=iB
 have fin:EP X pins σ Q w s:=⟨z,H,I,rw',q⟩
 by_cases h0:0≤i
 · have hj:i.toNat=j:=by
     rw[seqIndex_of h0 h5]at h1
     exact Option.some.inj h1
   exact item_listR pl.isList h0 (by omega) (by rw[hj];simpa using ew) fin hs
 · have hj:(i+(its.toArray.size:Int)).toNat=j:=by
     rw[seqIndex_neg (by omega) h4]at h1
     rw[List.size_toArray, ←hl]
     exact Option.some.inj h1
   exact subscriptTail_builtinR (x:=w) pl.isList.typeIs slot_list_getitem.lookup
     (wpAny_getItem_list_neg (Q:=fun r s'=>r=w∧EP X pins σ Q r s') pl.isList (by omega) (by rw[List.size_toArray]<;>omega) (by omega) (by rw[hj];simpa using ew) ⟨rfl,fin⟩) hs
theorem vd:eK X (qa X.K):=by
 intro value slice pins s σ H x y v u Q I rx ry h hs
 obtain⟨p,xs,i,z,rfl,rfl,hq,he,q⟩:=h
 cases rx
 obtain⟨t,rfl⟩:=ry
 obtain⟨its,r,pl,hz⟩:=I.tuple hq
 obtain⟨j,h1,h2,h3,h4,h5⟩:=ph he
 obtain⟨w,ew,rw'⟩:=r.get h2
 have hl:=r.length
 have hn:=iB
 have fin:EP X pins σ Q w s:=⟨z,H,I,rw',q⟩
 exact subscriptTail_builtinR (x:=w) pl.typeIs slot_tuple_getitem.lookup
   (getItem_tuple (j:=j) (Q:=fun r s'=>r=w∧EP X pins σ Q r s') pl (by omega) (by omega) (by rw[List.size_toArray, ←hl];exact h1) (by simpa using ew) ⟨rfl,fin⟩) hs
theorem By:eK X pU:=by
 intro value slice pins s σ H x y v u Q I rx ry h hs
 obtain⟨z,i,c,rfl,rfl,hz,he,q⟩:=h
 obtain⟨t,rfl⟩:=rx
 obtain⟨t',rfl⟩:=ry
 obtain⟨j,h1,h2,h3,h4,h5⟩:=ph he
 have hl:z.cps.toList.length=z.length:=by simp[Str.length]
 rw[hl]at h1 h4 h5
 have hn:=iB
 exact tail_any (typeIs_str s z t) slot_str_getitem.lookup (getItem_str (c:=c) (by
   have e1:decide (i< -(2 ^ 63:Int))=false:=decide_eq_false (by omega)
   have e2:decide (i≥2 ^ 63)=false:=decide_eq_false (by omega)
   rw[e1,e2,Bool.or_false]) (by rw[h1];simpa using h2) ⟨.str ⟨#[c]⟩,H,I.tok _,⟨_,rfl⟩,q⟩) hs
noncomputable def nO(K:PySem.W.Frag):R2:=fun x y H Q=>qc K x y H Q∨qa K x y H Q∨pU x y H Q
theorem mN:eK X (nO X.K):=uv.or (vd.or By)
theorem uX(its:List Value)(n j:Nat)(u:Value):Obj.mapSeq (·.setIfInBounds j u) {cls:=.type "list",data:=.seq its.toArray n}={cls:=.type "list",data:=.seq (its.set j u).toArray n}:=by
 simp[Obj.mapSeq]
theorem Inv.lst{pins:List (Addr×Obj)}{σ:St}{H:Hp}{s:Shared}{p:Addr}{xs:List V}(I:Inv X pins σ H s)(h:H p=some (.lst xs)):
   ∃(its:List Value) (n:Nat),Vals xs its∧s.heap.get? p=some {cls:=.type "list",data:=.seq its.toArray n}∧xs.length≤sizeLine:=by
 obtain⟨z,its,n,r,e⟩:=I.ao p _ h
 exact⟨its,n,r,e,z⟩
theorem Inv.zq{pins:List (Addr×Obj)}{σ:St}{H:Hp}{s:Shared}{p:Addr}{xs ys:List V}{its its':List Value}{n n':Nat}{f:Obj→Obj}(I:Inv X pins σ H s)(h:H p=some (.lst xs))
   (ho:s.heap.get? p=some {cls:=.type "list",data:=.seq its.toArray n}) (hf:f {cls:=.type "list",data:=.seq its.toArray n}={cls:=.type "list",data:=.seq its'.toArray n'}) (r:Vals ys its') (hz:ys.length≤sizeLine) (t:Nat):
   Inv X pins σ (upd H p (.lst ys)) {s with heap:=s.heap.update p f,toks:=t}:=by
 have e:(s.heap.update p f).get? p=some {cls:=.type "list",data:=.seq its'.toArray n'}:=by
   rw[Heap.get?_update_self f ho (by rw[hf]<;>rfl),hf]
 refine I.write (x:=p) (e:=p) (by rw[h];trivial) (.inl rfl) (fun b u hb q=>(Heap.get?_update_other _ _ (Ne.symm hb)).trans q) ⟨_,e⟩ ?_
 exact⟨hz,its',n',r,e⟩
noncomputable def Au:V→V→V→Hp→(Hp→Prop)→Prop:=fun o i v H Q=>∃p xs k j,o=.ref p∧i=.int k∧H p=some (.lst xs)∧bJ xs.length k=some j∧Q (upd H p (.lst (xs.set j v)))
theorem set_list:pO X Au:=by
 intro pins s σ H o i v ov iv u Q I ro ri rv h
 obtain⟨p,xs,k,j,rfl,rfl,hp,hj,q⟩:=h
 cases ro
 obtain⟨t,rfl⟩:=ri
 obtain⟨its,n,r,ho,hz⟩:=I.lst hp
 obtain⟨h1,h2,h3,h4⟩:=nZ hj
 have hl:=r.length
 have hn:=iB
 have I':Inv X pins σ (upd H p (.lst (xs.set j v))) {s with heap:=s.heap.update p (Obj.mapSeq (·.setIfInBounds j u))}:=
   I.zq hp ho (uX its n j u) (r.set rv j) (by rw[List.length_set];exact hz) s.toks
 by_cases h0:0≤k
 · have hk:k.toNat=j:=by
     rw[seqIndex_of h0 h4]at h1
     exact Option.some.inj h1
   exact PySem.W.ki_setAt ho h0 (by omega) (by rw[List.size_toArray, ←hl];exact h4) (by rw[hk];exact⟨_,I',q⟩)
 · have hk:(k+(its.toArray.size:Int)).toNat=j:=by
     rw[seqIndex_neg (by omega) h3]at h1
     rw[List.size_toArray, ←hl]
     exact Option.some.inj h1
   exact PySem.W.ki_setBack ho (by omega) (by rw[List.size_toArray, ←hl];exact h3) (by omega) (by rw[hk];exact⟨_,I',q⟩)
theorem wW(lo hi:Option Int)(n:Nat):(sliceBounds lo hi none n).1=((HT.aH n 0 lo:Nat):Int)∧(sliceBounds lo hi none n).2.1=((HT.aH n n hi:Nat):Int)∧(sliceBounds lo hi none n).2.2=1:=by
 refine⟨?_,?_,rfl⟩
 · cases lo with
   |none=>simp[sliceBounds,HT.aH]
   | some i=>
     simp only[sliceBounds,HT.aH,Option.getD_none,show(1:Int)>0 by decide,if_true]
     by_cases h:i<0
     ·simp only[h,if_true]<;>omega
     ·simp only[h,if_false]<;>omega
 · cases hi with
   |none=>simp[sliceBounds,HT.aH]
   | some i=>
     simp only[sliceBounds,HT.aH,Option.getD_none,show(1:Int)>0 by decide,if_true]
     by_cases h:i<0
     ·simp only[h,if_true]<;>omega
     ·simp only[h,if_false]<;>omega
theorem ze(its:List Value)(lo hi:Option Int):slicePick its.toArray lo hi none=((its.drop (HT.aH its.length 0 lo)).take (HT.aH its.length its.length hi - HT.aH its.length 0 lo)).toArray:=by
 obtain⟨h1,h2,h3⟩:=wW lo hi its.toArray.size
 unfold slicePick
 rw[h1,h2,h3]
 simp only[sliceRange_one,pick_run,List.size_toArray]<;>rfl
noncomputable def wq(K:PySem.W.Frag):V→Option Int→Option Int→Hp→VK→Prop:=fun x lo hi H Q=>∃a xs,x=.ref a∧aM K H a xs∧∀p,H p=none→Q (.ref p) (upd H p (.lst (gk xs lo hi)))
theorem qX:fN X (wq X.K):=by
 intro pins s σ H x v vl vu lo hi sl Q I rx hs pl pu h
 obtain⟨a,xs,rfl,hx,q⟩:=h
 cases rx
 obtain⟨its,r,ht,hz⟩:=I.list hx
 have hlen:=r.length
 refine⟨"list",_,slot_list_getitem.lookup,ht.isList.typeIs,?_⟩
 refine wpAny_getItem_list_slice ht.isList hs pl pu .none (by simp) ?_ (by rw[List.size_toArray]<;>omega)
 rw[ze, ←hlen]
 refine⟨.ref s.heap.objs.size,_,I.laid (t':=s.toks) (o:=.lst (gk xs lo hi)) (fun b ob q=>Heap.get?_push_of_some _ q) (Nat.le_refl _) ?_,rfl,q _ (I.ao.fresh (Nat.le_refl _))⟩
 exact⟨Nat.le_trans (qq xs lo hi) hz,_,0,(r.drop (HT.aH xs.length 0 lo)).take (HT.aH xs.length xs.length hi - HT.aH xs.length 0 lo),Heap.get?_push_size _ rfl⟩
noncomputable def fg:V→Bool
 |.aF=>true
 |.bl _=>true
 |.int _=>true
 |.str _=>true
 |_=>false
noncomputable def eN:V→V→Bool
 |.aF,.aF=>true
 |.bl a,.bl b=>a==b
 |.bl a,.int b=>(if a then 1 else 0)==b
 |.int a,.bl b=>a==(if b then 1 else 0)
 |.int a,.int b=>a==b
 |.str a,.str b=>a==b
 |_,_=>false
theorem wj{A:Around}{s:Shared}{y x:V}{u v:Value}(ry:RelV y u)(rx:RelV x v)(fy:fg y=true)(fx:fg x=true):SeqAt.EqAt A s u v (eN y x):=by
 cases y with
 | aF=>
   cases ry
   cases x with
   |aF=>cases rx;exact SeqAt.EqAt.same _
   |bl b=>cases rx;exact SeqAt.EqAt.none_bool b
   |int b=>obtain⟨t,rfl⟩:=rx;exact SeqAt.EqAt.none_int b t
   |str b=>obtain⟨t,rfl⟩:=rx;exact SeqAt.EqAt.none_str b t
   |_=>exact absurd (show false=true from fx) Bool.false_ne_true
 | bl a=>
   cases ry
   cases x with
   |aF=>cases rx;exact SeqAt.EqAt.bool_none a
   |bl b=>cases rx;exact SeqAt.EqAt.bool_bool a b
   |int b=>obtain⟨t,rfl⟩:=rx;exact SeqAt.EqAt.bool_int a b t
   |str b=>obtain⟨t,rfl⟩:=rx;exact SeqAt.EqAt.bool_str a b t
   |_=>exact absurd (show false=true from fx) Bool.false_ne_true
 | int a=>
   obtain⟨t',rfl⟩:=ry
   cases x with
   |aF=>cases rx;exact SeqAt.EqAt.int_none a t'
   |bl b=>cases rx;exact SeqAt.EqAt.int_bool a t' b
   |int b=>obtain⟨t,rfl⟩:=rx;exact SeqAt.EqAt.int_int a t' b t
   |str b=>obtain⟨t,rfl⟩:=rx;exact SeqAt.EqAt.int_str a t' b t
   |_=>exact absurd (show false=true from fx) Bool.false_ne_true
 | str a=>
   obtain⟨t',rfl⟩:=ry
   cases x with
   |aF=>cases rx;exact SeqAt.EqAt.str_none a t'
   |bl b=>cases rx;exact SeqAt.EqAt.str_bool a t' b
   |int b=>obtain⟨t,rfl⟩:=rx;exact SeqAt.EqAt.str_int a t' b t
   |str b=>obtain⟨t,rfl⟩:=rx;exact SeqAt.EqAt.str_str a t' b t
   |_=>exact absurd (show false=true from fx) Bool.false_ne_true
 |_=>exact absurd (show false=true from fy) Bool.false_ne_true
noncomputable def gd(x:V)(u:Value):Bool:=match u with
 |.none=>eN .aF x
 |.bool b=>eN (.bl b) x
 |.int i _=>eN (.int i) x
 |.str z _=>eN (.str z) x
 |_=>false
theorem rW{x y:V}{u:Value}(r:RelV y u)(f:fg y=true):gd x u=eN y x:=by
 cases y with
 |aF=>cases r;rfl
 |bl b=>cases r;rfl
 |int i=>obtain⟨t,rfl⟩:=r;rfl
 |str z=>obtain⟨t,rfl⟩:=r;rfl
 |_=>exact absurd (show false=true from f) Bool.false_ne_true
theorem o6{x:V}:∀ {xs:List V} {us:List Value},Vals xs us→xs.all fg=true→us.any (gd x)=xs.any fun y=>eN y x
 |_,_,.nil,_=>rfl
 | y::xs,u::us,.cons r t,f=>by
   rw[List.all_cons,Bool.and_eq_true]at f
   rw[List.any_cons,List.any_cons,rW r f.1,o6 t f.2]
theorem oO{A:Around}{s:Shared}{x:V}{v:Value}(rx:RelV x v)(fx:fg x=true):∀ {xs:List V} {us:List Value},Vals xs us→xs.all fg=true→∀u∈us,SeqAt.EqAt A s u v (gd x u)
 |_,_,.nil,_=>fun u hu=>by cases hu
 | y::xs,u::us,.cons r t,f=>fun u' hu=>by
   rw[List.all_cons,Bool.and_eq_true]at f
   rcases List.mem_cons.mp hu with rfl|hu
   ·rw[rW r f.1];exact wj r rx f.1 fx
   ·exact oO rx fx t f.2 u' hu
noncomputable def mE(x:V)(xs:List V):Bool:=xs.any fun y=>eN y x
noncomputable def yG(K:PySem.W.Frag)(neg:Bool):R2:=fun x y H Q=>∃p xs,y=.ref p∧(aM K H p xs∨aW K H p xs)∧fg x=true∧xs.all fg=true∧Q (.bl (if neg then !mE x xs else mE x xs)) H
theorem wD:aQ X (compareOp .NotIn) (yG X.K true):=by
 intro pins s σ H x y v u Q I rx ry h
 obtain⟨p,xs,rfl,hq,fx,fs,q⟩:=h
 cases ry
 rcases hq with hq|hq
 · obtain⟨its,r,pl,hz⟩:=I.list hq
   refine SeqAt.notIn_listAt (gd x) pl.isList (fun w hw=>oO rx fx r fs w (by simpa using hw)) ⟨.bl _,H,I,rfl,?_⟩
   rw[show its.toArray.any (gd x)=its.any (gd x) by simp,o6 r fs]
   exact q
 · obtain⟨its,r,pl,hz⟩:=I.tuple hq
   refine SeqAt.notIn_tupleAt (gd x) pl (fun w hw=>oO rx fx r fs w (by simpa using hw)) ⟨.bl _,H,I,rfl,?_⟩
   rw[show its.toArray.any (gd x)=its.any (gd x) by simp,o6 r fs]
   exact q
theorem nN:bp X (.builtin "len") (fun xs H Q=>∃p ys,xs=[.ref p]∧(aM X.K H p ys∨aW X.K H p ys)∧Q (.int ys.length) H):=by
 intro pins s σ H xs us Q I r h
 obtain⟨p,ys,rfl,hq,q⟩:=h
 obtain⟨u,rfl,rx⟩:=vals1 r
 cases rx
 have hn:=iB
 rcases hq with hq|hq
 · obtain⟨its,r',pl,hz⟩:=I.list hq
   have hlen:=r'.length
   exact Calls.call_len_list pl.isList (by simp only[List.size_toArray]<;>omega) ⟨.int ys.length,H,I.tok _,⟨s.toks+1,by rw[List.size_toArray,hlen]⟩,q⟩
 · obtain⟨its,r',pl,hz⟩:=I.tuple hq
   have hlen:=r'.length
   exact len_tuple pl (by simp only[List.size_toArray]<;>omega) ⟨.int ys.length,H,I.tok _,⟨s.toks+1,by rw[List.size_toArray,hlen]⟩,q⟩
theorem Ad:bp X (.builtin "len") (fun xs H Q=>∃z,xs=[.str z]∧z.length≤sizeLine∧Q (.int z.length) H):=by
 intro pins s σ H xs us Q I r h
 obtain⟨z,rfl,hz,q⟩:=h
 obtain⟨u,rfl,t,rfl⟩:=vals1 r
 have hn:=iB
 exact len_str (by omega) ⟨.int z.length,H,I.tok _,⟨_,rfl⟩,q⟩
theorem bp.or{f:Value}{r r':List V→Hp→VK→Prop}(h:bp X f r)(h':bp X f r'):bp X f (fun xs H Q=>r xs H Q∨r' xs H Q):=by
 intro pins s σ H xs us Q I rs q
 rcases q with q|q
 ·exact h pins s σ H xs us Q I rs q
 ·exact h' pins s σ H xs us Q I rs q
theorem oa:bp X (.type "list") (fun xs H Q=>∃p ys,xs=[.ref p]∧(aM X.K H p ys∨aW X.K H p ys)∧∀l,H l=none→Q (.ref l) (upd H l (.lst ys))):=by
 intro pins s σ H xs us Q I r h
 obtain⟨p,ys,rfl,hq,q⟩:=h
 obtain⟨u,rfl,rx⟩:=vals1 r
 cases rx
 have fin:∀(its:List Value),Vals ys its→ys.length≤sizeLine→∀(h':Heap) (c':Nat),(∀b o',s.heap.get? b=some o'→h'.get? b=some o')→
     h'.get? s.heap.objs.size=some {cls:=.type "list",dict:=none,data:=.seq its.toArray c',slots:= #[]}→EP X pins σ Q (.ref s.heap.objs.size) {s with heap:=h'}:=fun its r' hz h' c' kp e=>
   ⟨.ref s.heap.objs.size,_,I.laid (t':=s.toks) kp (Nat.le_refl _) (show bT X.prog X.w _ h' _ (.lst ys)from⟨hz,its,c',r',e⟩),rfl,q _ (I.ao.fresh (Nat.le_refl _))⟩
 rcases hq with hq|hq
 · obtain⟨its,r',pl,hz⟩:=I.list hq
   have hlen:=r'.length
   obtain⟨o,ho,hc,n,hd⟩:=pl.isList
   exact call_list_seq p (.inl rfl) ho hc hd (fun h' c' kp e=>fin its r' hz h' c' kp e) (by simp only[List.size_toArray]<;>omega)
 · obtain⟨its,r',pl,hz⟩:=I.tuple hq
   have hlen:=r'.length
   obtain⟨o,ho,hc,n,hd⟩:=pl
   exact call_list_seq p (.inr rfl) ho hc hd (fun h' c' kp e=>fin its r' hz h' c' kp e) (by simp only[List.size_toArray]<;>omega)
theorem si:bp X (.type "tuple") (fun xs H Q=>∃p ys,xs=[.ref p]∧((aM X.K H p ys∧∀l,H l=none→Q (.ref l) (upd H l (.tup ys)))∨(aW X.K H p ys∧Q (.ref p) H))):=by
 intro pins s σ H xs us Q I r h
 obtain⟨p,ys,rfl,h⟩:=h
 obtain⟨u,rfl,rx⟩:=vals1 r
 cases rx
 rcases h with⟨hq,q⟩|⟨hq,q⟩
 · obtain⟨its,r',pl,hz⟩:=I.list hq
   have hlen:=r'.length
   refine call_tuple_list pl.isList (fun h' kp=>?_) (by simp only[List.size_toArray]<;>omega)
   have I1:Inv X pins σ H {s with heap:=h'}:=I.kept (t':=s.toks) kp
   have I2:Inv X pins σ (upd H h'.objs.size (.tup ys)) {s with heap:=h'.push {cls:=.type "tuple",data:=.seq its.toArray} }:=
     I1.laid (t':=s.toks) (fun b o e=>Heap.get?_push_of_some _ e) (Nat.le_refl _) (show bT X.prog X.w _ _ _ (.tup ys)from⟨hz,its,r',IsTup.new _ _⟩)
   exact⟨.ref h'.objs.size,_,I2,rfl,q _ (I1.ao.fresh (Nat.le_refl _))⟩
 · obtain⟨its,r',pl,hz⟩:=I.tuple hq
   exact call_tuple_same pl ⟨.ref p,H,I,rfl,q⟩
noncomputable def nU(K:PySem.W.Frag)(T:String)(x:V)(H:Hp):Prop:=match x with
 |.str _=>T="str"
 |.int _=>T="int"
 |.ref p=>(T="list"∧∃xs,aM K H p xs)∨(T="tuple"∧∃o,K.lookup p=some o∧o.cls=.type "tuple"∧o.dict=none)∨
     (T="dict"∧((∃kvs,H p=some (.dK kvs))∨∃kvs,H p=some (.dT kvs)))∨(T="set"∧∃S n,H p=some (.set S n))
 |_=>False
theorem sU{pins:List (Addr×Obj)}{σ:St}{H:Hp}{s:Shared}{T:String}{x:V}{v:Value}(I:Inv X pins σ H s)(r:RelV x v)(ty:nU X.K T x H):
   s.TypeIs v T∧∀a,v=.ref a→∃ob,s.heap.get? a=some ob∧ob.dict=none:=by
 cases x with
 | str z=>
   obtain⟨t,rfl⟩:=r
   cases (show T="str" from ty)
   exact⟨typeIs_str s z t,fun _ e=>nomatch e⟩
 | int i=>
   obtain⟨t,rfl⟩:=r
   cases (show T="int" from ty)
   exact⟨typeIs_int s i t,fun _ e=>nomatch e⟩
 | ref p=>
   cases r
   rcases ty with⟨rfl,xs,hq⟩|⟨rfl,o,hk,hc,hd⟩|⟨rfl,hk⟩|⟨rfl,S,n,hk⟩
   · obtain⟨its,_,pl,_⟩:=I.list hq
     refine⟨pl.isList.typeIs,fun a e=>?_⟩
     cases e
     obtain⟨o,n,e,c,hd,_⟩:=pl
     exact⟨o,e,hd⟩
   · refine⟨⟨o,I.cK p o hk,hc⟩,fun a e=>?_⟩
     cases e
     exact⟨o,I.cK _ o hk,hd⟩
   · have z:∃o,s.heap.get? p=some o∧o.ExactDict:=by
       rcases hk with⟨kvs,hk⟩|⟨kvs,hk⟩
       · obtain⟨_,_,_,_,o,_,_,e,ex,_⟩:=I.ao p _ hk
         exact⟨o,e,ex⟩
       · obtain⟨_,_,_,_,o,_,_,e,ex,_⟩:=I.ao p _ hk
         exact⟨o,e,ex⟩
     obtain⟨o,e,ex⟩:=z
     refine⟨⟨o,e,ex.1⟩,fun a e2=>?_⟩
     cases e2
     exact⟨o,e,ex.2.1⟩
   · obtain⟨o,_,_,_,e,ex,_⟩:=I.ao p _ hk
     refine⟨⟨o,e,ex.1⟩,fun a e2=>?_⟩
     cases e2
     exact⟨o,e,ex.2.1⟩
 |_=>exact False.elim ty
noncomputable def zM(K:PySem.W.Frag)(T:String)(r:V→List V→Hp→VK→Prop)(to:TE):TE:=fun σ H Q=>to σ H fun x H1=>nU K T x H1∧r x [] H1 Q
noncomputable def yV(K:PySem.W.Frag)(T:String)(r:V→List V→Hp→VK→Prop)(to:TE)(t:TA):TE:=fun σ H Q=>to σ H fun x H1=>nU K T x H1∧t σ H1 fun xs H2=>r x xs H2 Q
variable{o e:Expr}{es:List Expr}{to:TE}{t:TA}{name:Str}{apos cpos:Pos}{T id:String}{r:V→List V→Hp→VK→Prop}
theorem yg(pa:PlainAttrs T)(slot:Slot T name id)(hty:typeOf (.builtin id)=pure (.type "method_descriptor"))(hm:ja X id r)(ho:PE X o to)
   (hbase:attributeBase o name X.env (eval o X.env)=eval o X.env:=by rfl) (hline:(apos.endLine==cpos.line)=true:=by rfl):PE X (.Call (.Attribute o name apos) [] [] cpos) (zM X.K T r to):=by
 intro pins s σ H Q I h
 refine wpAny_Call_method0_late hbase hline (aE (ho pins s σ H _ I h) fun v s1 ⟨x,H1,I1,r1,ty,q1⟩=>?_)
 obtain⟨h1,h2⟩:=sU I1 r1 ty
 exact⟨T,id,pa,slot,hty,h1,h2,Calls.callWith_builtin rfl (PySem.evalArgs_none (hm pins s1 σ H1 x [] v [] Q I1 r1 .nil q1))⟩
theorem i3(pa:PlainAttrs T)(slot:Slot T name id)(hty:typeOf (.builtin id)=pure (.type "method_descriptor"))(hm:ja X id r)(ho:PE X o to)(ha:PA X (e::es) t)
   (hbase:attributeBase o name X.env (eval o X.env)=eval o X.env:=by rfl)
   (hfew:((backTo cpos (starEach (e::es) X.env)).all (fun x=> !x.1)&&(backToKw cpos (keywordEach [] X.env)).all (fun x=>x.1.isSome)
     &&decide ((e::es).length+([]:List Keyword).length+(if([]:List Keyword).isEmpty then 0 else 1)<30))=true:=by rfl)
   (hline:(apos.endLine==cpos.line)=true:=by rfl) (hs:starEach (e::es) X.env=(false,eval e X.env)::starEach es X.env:=by rfl) (hplain:(backTo cpos (starEach es X.env)).any (·.1)=false:=by rfl):
   PE X (.Call (.Attribute o name apos) (e::es) [] cpos) (yV X.K T r to t):=by
 intro pins s σ H Q I h
 refine wpAny_Call_method_late hbase hfew hline rfl (aE (ho pins s σ H _ I h) fun v s1 ⟨x,H1,I1,r1,ty,q1⟩=>?_)
 obtain⟨h1,h2⟩:=sU I1 r1 ty
 refine⟨T,id,pa,slot,hty,h1,h2,?_⟩
 have hA:=ha cpos pins s1 σ H1 _ I1 q1
 rw[hs]at hA ⊢
 refine Calls.callWith_builtin (by show(false||(backTo cpos (starEach es X.env)).any (·.1))=false;rw[hplain]<;>rfl) (Calls.evalArgs_plain ?_)
 exact aE hA fun us s2 ⟨vs,H2,I2,r2,q2⟩=>hm pins s2 σ H2 x vs v us Q I2 r1 r2 q2
end
end L2
namespace L2
open PySem PySem.Spec PyProof.Rows
noncomputable def jX(X:Cx)(id:String)(r:V→List V→Hp→VK→Prop):Prop:=
 ∀(pins:List (Addr×Obj)) (s:Shared) (σ:St) (H:Hp) (x:V) (xs:List V) (v:Value) (us:List Value) (Q:VK),Inv X pins σ H s→RelV x v→Vals xs us→r x xs H Q→
   wpAny (model X.prog X.w) X.A (call (.builtin id) (v::us)) (EP X pins σ Q) X.xe s
theorem Vals.one:∀ {x:V} {us:List Value},Vals [x] us→∃u,us=[u]∧RelV x u
 |_,_,.cons r .nil=>⟨_,rfl,r⟩
theorem Vals.two:∀ {x y:V} {us:List Value},Vals [x,y] us→∃u v,us=[u,v]∧RelV x u∧RelV y v
 |_,_,_,.cons r (.cons q .nil)=>⟨_,_,rfl,r,q⟩
theorem Vals.zero:∀ {us:List Value},Vals [] us→us=[]
 |_,.nil=>rfl
theorem Vals.dropLast{xs:List V}{us:List Value}(h:Vals xs us):Vals xs.dropLast us.dropLast:=by
 induction h with
 |nil=>exact .nil
 | cons r t ih=>
   cases t with
   |nil=>exact .nil
   |cons q t'=>exact .cons r ih
theorem Vals.eraseIdx:∀ {xs:List V} {us:List Value} (i:Nat),Vals xs us→Vals (xs.eraseIdx i) (us.eraseIdx i)
 |_,_,_,.nil=>.nil
 |_,_,0,.cons _ t=>t
 |_,_,i+1,.cons r t=>.cons r (Vals.eraseIdx i t)
theorem Vals.reverse{xs:List V}{us:List Value}(h:Vals xs us):Vals xs.reverse us.reverse:=by
 induction h with
 |nil=>exact .nil
 |cons r t ih=>rw[List.reverse_cons,List.reverse_cons];exact Vals.append ih (.cons r .nil)
theorem Vals.rep{xs:List V}{us:List Value}(h:Vals xs us):∀k:Nat,Vals (List.replicate k xs).flatten (List.replicate k us).flatten
 |0=>.nil
 | k+1=>by
   rw[List.replicate_succ,List.replicate_succ,List.flatten_cons,List.flatten_cons]
   exact Vals.append h (Vals.rep h k)
theorem vP{α:Type}(l:List α):l.eraseIdx (l.length - 1)=l.dropLast:=by
 induction l with
 |nil=>rfl
 | cons a r ih=>
   cases r with
   |nil=>rfl
   | cons b r=>
     have e:(a::b::r).length - 1=((b::r).length - 1)+1:=by
       have h1:(a::b::r).length=r.length+2:=rfl
       have h2:(b::r).length=r.length+1:=rfl
       omega
     rw[e,List.eraseIdx_cons_succ,ih]
     all_goals rfl
theorem ub{α:Type}:∀(l:List α) (i:Nat),(l.eraseIdx i).length≤l.length
 |[],_=>Nat.le_refl _
 |_::_,0=>Nat.le_succ _
 |_::r,i+1=>Nat.succ_le_succ (ub r i)
section
variable{X:Cx}{pins:List (Addr×Obj)}{σ:St}{H:Hp}{s:Shared}{l b:Addr}{xs ys zs:List V}
theorem Inv.j0{its its':List Value}{n:Nat}{f:Array Value→Array Value}{t':Nat}(I:Inv X pins σ H s)(hH:H l=some (.lst xs))
   (e:s.heap.get? l=some {cls:=.type "list",data:=.seq its.toArray n}) (hf:f its.toArray=its'.toArray) (hv:Vals ys its') (hz:ys.length≤sizeLine):
   Inv X pins σ (upd H l (.lst ys)) {s with heap:=s.heap.update l (Obj.mapSeq f),toks:=t'}:=by
 have q:=PySem.IsL.update e f
 rw[hf]at q
 refine I.write (x:=l) (e:=l) (by rw[hH];exact trivial) (.inl rfl) (fun b' u hb hu=>(Heap.get?_update_other s.heap (Obj.mapSeq f) (Ne.symm hb)).trans hu) ⟨_,q⟩ ?_
 exact⟨hz,its',_,hv,q⟩
theorem Inv.ue{its:List Value}{t':Nat}(I:Inv X pins σ H s)(hv:Vals ys its)(hz:ys.length≤sizeLine):
   Inv X pins σ (upd H s.heap.objs.size (.lst ys)) {s with heap:=s.heap.push {cls:=.type "list",data:=.seq its.toArray},toks:=t'}:=
 I.laid (fun _ _ q=>Heap.get?_push_of_some _ q) (Nat.le_refl _) ⟨hz,its,0,hv,Heap.get?_push_size _ rfl⟩
theorem Inv.fresh(I:Inv X pins σ H s):H s.heap.objs.size=none:=I.ao.fresh (Nat.le_refl _)
theorem Inv.jO(I:Inv X pins σ H s)(hH:H l=some (.lst xs)):xs.length≤sizeLine∧∃(its:List Value) (n:Nat),Vals xs its∧xs.length=its.length∧s.heap.get? l=some {cls:=.type "list",data:=.seq its.toArray n}:=by
 obtain⟨z,its,n,r,e⟩:=I.ao l _ hH
 exact⟨z,its,n,r,r.length,e⟩
theorem uy{n:Nat}(h:n≤sizeLine):Builtin.List.listTooLong n=false:=by
 unfold Builtin.List.listTooLong
 exact decide_eq_false (by omega)
end
section
variable{X:Cx}
noncomputable def Bl:V→List V→Hp→VK→Prop:=fun x vs H Q=>∃l xs y,x=.ref l∧vs=[y]∧H l=some (.lst xs)∧xs.length<sizeLine∧Q .aF (upd H l (.lst (xs++[y])))
theorem kx:jX X "list.append" Bl:=by
 intro pins s σ H x vs v us Q I rx rv h
 obtain⟨l,xs,y,rfl,rfl,hH,hz,q⟩:=h
 cases rx
 obtain⟨u,rfl,ru⟩:=rv.one
 obtain⟨z,its,n,r,hl,e⟩:=I.jO hH
 refine call_meets F.slot_list_append ⟨_,e,rfl⟩ F.entry_list_append (F.args_list_append_2 _ _) (PySem.list_append l its.toArray n u (by rw[List.size_toArray];omega)) ⟨e,?_⟩
 refine⟨.aF,_,I.j0 (its':=its++[u]) hH e (by simp) (r.append (.cons ru .nil)) ?_,rfl,q⟩
 rw[List.length_append,List.length_singleton]
 omega
noncomputable def uk:V→List V→Hp→VK→Prop:=fun x vs H Q=>∃l b xs zs,x=.ref l∧vs=[.ref b]∧H l=some (.lst xs)∧H b=some (.lst zs)∧xs.length+zs.length≤sizeLine∧Q .aF (upd H l (.lst (xs++zs)))
theorem u0:jX X "list.extend" uk:=by
 intro pins s σ H x vs v us Q I rx rv h
 obtain⟨l,b,xs,zs,rfl,rfl,hH,hB,hz,q⟩:=h
 cases rx
 obtain⟨u,rfl,ru⟩:=rv.one
 cases ru
 obtain⟨z,its,n,r,hl,e⟩:=I.jO hH
 obtain⟨z2,its2,n2,r2,hl2,e2⟩:=I.jO hB
 have hsz:its.toArray.size+its2.toArray.size≤sizeLine:=by rw[List.size_toArray,List.size_toArray];omega
 have hlong:¬(!its.toArray.isEmpty&&Builtin.List.listTooLong (its.toArray.size+its2.toArray.size))=true:=by
   rw[uy hsz,Bool.and_false]
   exact Bool.false_ne_true
 refine call_meets F.slot_list_extend ⟨_,e,rfl⟩ F.entry_list_extend (F.args_list_extend_2 _ _)
   (AutoSeq1.list_extend_list_list_0 l its.toArray n b its2.toArray n2 hlong (by rw[List.size_toArray];omega) (by omega)) ⟨e,e2,?_⟩
 refine⟨.aF,_,I.j0 (its':=its++its2) hH e (by simp) (r.append r2) ?_,rfl,q⟩
 rw[List.length_append]
 omega
noncomputable def yJ:V→List V→Hp→VK→Prop:=fun x vs H Q=>∃l xs y,x=.ref l∧vs=[]∧H l=some (.lst xs)∧xs[xs.length - 1]? =some y∧Q y (upd H l (.lst xs.dropLast))
theorem DA:jX X "list.pop" yJ:=by
 intro pins s σ H x vs v us Q I rx rv h
 obtain⟨l,xs,y,rfl,rfl,hH,hy,q⟩:=h
 cases rx
 have hus:=rv.zero
 subst hus
 obtain⟨z,its,n,r,hl,e⟩:=I.jO hH
 obtain⟨u,hu,ru⟩:=r.get hy
 have hy':its.toArray[its.toArray.size - 1]? =some u:=by
   show its.toArray[its.length - 1]? =some u
   rw[←Array.getElem?_toList, ←hl]
   exact hu
 refine call_meets F.slot_list_pop ⟨_,e,rfl⟩ F.entry_list_pop (F.args_list_pop_1 _) (MeetsSeq.list_pop_last l its.toArray n u hy' (by rw[List.size_toArray];omega)) ⟨e,?_⟩
 refine⟨y,_,I.j0 (its':=its.dropLast) hH e ?_ r.dropLast ?_,ru,q⟩
 · show its.toArray.eraseIdxIfInBounds (its.toArray.size - 1)=its.dropLast.toArray
   rw[List.size_toArray,List.eraseIdxIfInBounds_toArray,vP]
 · rw[List.length_dropLast]
   omega
noncomputable def BE:V→List V→Hp→VK→Prop:=fun x vs H Q=>∃l xs i k y,x=.ref l∧vs=[.int i]∧H l=some (.lst xs)∧ -(2 ^ 63)≤i∧i<2 ^ 63∧seqIndex? i xs.length=some k∧xs[k]? =some y∧Q y (upd H l (.lst (xs.eraseIdx k)))
theorem Bm:jX X "list.pop" BE:=by
 intro pins s σ H x vs v us Q I rx rv h
 obtain⟨l,xs,i,k,y,rfl,rfl,hH,h1,h2,hk,hy,q⟩:=h
 cases rx
 obtain⟨u,rfl,ru⟩:=rv.one
 obtain⟨t,rfl⟩:=ru
 obtain⟨z,its,n,r,hl,e⟩:=I.jO hH
 obtain⟨w,hw,rw'⟩:=r.get hy
 refine call_meets F.slot_list_pop ⟨_,e,rfl⟩ F.entry_list_pop (F.args_list_pop_2 _ _)
   (MeetsSeq.list_pop_at l its.toArray n i t k w (fitsIndex_both h1 h2) (by rw[List.size_toArray, ←hl];exact hk) (by rw[←Array.getElem?_toList];exact hw) (by rw[List.size_toArray];omega)) ⟨e,?_⟩
 refine⟨y,_,I.j0 (its':=its.eraseIdx k) hH e ?_ (r.eraseIdx k) ?_,rw',q⟩
 · show its.toArray.eraseIdxIfInBounds k=(its.eraseIdx k).toArray
   rw[List.eraseIdxIfInBounds_toArray]
 · have:=ub xs k
   omega
noncomputable def AV:V→List V→Hp→VK→Prop:=fun x vs H Q=>∃l xs,x=.ref l∧vs=[]∧H l=some (.lst xs)∧Q .aF (upd H l (.lst []))
theorem Al:jX X "list.clear" AV:=by
 intro pins s σ H x vs v us Q I rx rv h
 obtain⟨l,xs,rfl,rfl,hH,q⟩:=h
 cases rx
 have hus:=rv.zero
 subst hus
 obtain⟨z,its,n,r,hl,e⟩:=I.jO hH
 refine call_meets F.slot_list_clear ⟨_,e,rfl⟩ F.entry_list_clear (F.args_list_clear_1 _) (AutoSeq1.list_clear_list_0 l its.toArray n (by rw[List.size_toArray];omega)) ⟨e,?_⟩
 exact⟨.aF,_,I.j0 (its':=[]) (ys:=[]) hH e rfl .nil (Nat.zero_le _),rfl,q⟩
theorem len_rep{α:Type}(xs:List α)(k:Nat):(List.replicate k xs).flatten.length=k*xs.length:=by
 induction k with
 |zero=>simp
 |succ k ih=>rw[List.replicate_succ,List.flatten_cons,List.length_append,ih,Nat.succ_mul,Nat.add_comm]
end
section
variable{prog:Program}{w:World}{A:Around}{E:Value→Shared→Prop}{s:Shared}
end
section
variable{X:Cx}
end
end L2
namespace L2
open PySem PySem.Spec PyProof.Rows
section
variable{κ:Type} [DecidableEq κ]
noncomputable def bO(kvs:List (κ×V))(k:κ):Option V:=(kvs.find? fun kv=>decide (kv.1=k)).map (·.2)
noncomputable def putK(kvs:List (κ×V))(k:κ)(v:V):List (κ×V):=
 if(kvs.any fun kv=>decide (kv.1=k))=true then kvs.map (fun kv=>if kv.1=k then(kv.1,v)else kv)else kvs++[(k,v)]
noncomputable def tI(kvs:List (κ×V))(k:κ):List (κ×V):=kvs.filter fun kv=>decide (kv.1≠k)
theorem nX{p:κ×V}{r:List (κ×V)}{k:κ}(e:p.1=k):bO (p::r) k=some p.2:=by simp[bO,List.find?_cons,e]
theorem nu{p:κ×V}{r:List (κ×V)}{k:κ}(e:¬p.1=k):bO (p::r) k=bO r k:=by simp[bO,List.find?_cons,e]
theorem lq(k:κ):∀kvs:List (κ×V),(kvs.any fun kv=>decide (kv.1=k))=(bO kvs k).isSome
 |[]=>rfl
 | p::r=>by
   rw[List.any_cons]
   by_cases e:p.1=k
   ·simp only[nX e,decide_eq_true e,Bool.true_or,Option.isSome_some]
   ·rw[nu e,decide_eq_false e,Bool.false_or];exact lq k r
theorem o7(kvs:List (κ×V))(k:κ)(v:V):(putK kvs k v).length≤kvs.length+1:=by
 unfold putK
 split
 ·rw[List.length_map];omega
 ·rw[List.length_append,List.length_cons,List.length_nil];omega
theorem cT.zg{o:Option V}{u:Option Value}(r:cT o u):o.isSome=u.isSome:=by
 cases o with
 | none=>cases u with
   |none=>rfl
   |some _=>exact(show False from r).elim
 | some _=>cases u with
   |none=>exact(show False from r).elim
   |some _=>rfl
theorem cT.getD{o:Option V}{u:Option Value}{d:V}{d':Value}(r:cT o u)(rd:RelV d d'):RelV (o.getD d) (u.getD d'):=by
 cases o with
 | none=>cases u with
   |none=>exact rd
   |some _=>exact(show False from r).elim
 | some _=>cases u with
   |none=>exact(show False from r).elim
   |some _=>exact r
theorem KV.val{kvs:List (κ×V)}{vs:List (κ×Value)}(r:KV kvs vs)(k:κ):cT (bO kvs k) (valueAt vs k):=by
 unfold KV at r
 induction r with
 |nil=>exact True.intro
 | @cons p q ps qs h t ih=>
   obtain⟨h1,h2⟩:=h
   by_cases e:p.1=k
   · have e':q.1=k:=h1.symm.trans e
     have b:valueAt (q::qs) k=some q.2:=by simp[valueAt,List.find?_cons,e']
     rw[nX e,b];exact h2
   · have e':¬q.1=k:=fun z=>e (h1.trans z)
     have b:valueAt (q::qs) k=valueAt qs k:=by simp[valueAt,List.find?_cons,e']
     rw[nu e,b];exact ih
theorem KV.any{kvs:List (κ×V)}{vs:List (κ×Value)}(r:KV kvs vs)(k:κ):(kvs.any fun kv=>decide (kv.1=k))=vs.any fun kv=>decide (kv.1=k):=by
 unfold KV at r
 induction r with
 |nil=>rfl
 |cons h t ih=>rw[List.any_cons,List.any_cons,ih,h.1]
theorem KV.pe{kvs:List (κ×V)}{vs:List (κ×Value)}(r:KV kvs vs)(k:κ){y:V}{u:Value}(ry:RelV y u):
   KV (kvs.map fun kv=>if kv.1=k then(kv.1,y)else kv) (vs.map fun kv=>if kv.1=k then(kv.1,u)else kv):=by
 unfold KV at r ⊢
 induction r with
 |nil=>exact .nil
 | @cons p q ps qs h t ih=>
   rw[List.map_cons,List.map_cons]
   refine .cons ?_ ih
   obtain⟨h1,h2⟩:=h
   by_cases e:p.1=k
   ·rw[if_pos e,if_pos (h1.symm.trans e)];exact⟨h1,ry⟩
   ·rw[if_neg e,if_neg (fun z=>e (h1.trans z))];exact⟨h1,h2⟩
theorem KV.put{kvs:List (κ×V)}{vs:List (κ×Value)}(r:KV kvs vs)(k:κ){y:V}{u:Value}(ry:RelV y u):KV (putK kvs k y) (stored vs k u):=by
 unfold putK stored
 rw[r.any k]
 by_cases e:(vs.any fun kv=>decide (kv.1=k))=true
 ·rw[if_pos e,if_pos e];exact r.pe k ry
 ·rw[if_neg e,if_neg e];exact Paired.snoc r ⟨rfl,ry⟩
theorem KV.drop{kvs:List (κ×V)}{vs:List (κ×Value)}(r:KV kvs vs)(k:κ):KV (tI kvs k) (without vs k):=by
 unfold KV at r ⊢
 unfold tI without
 induction r with
 |nil=>exact .nil
 | @cons p q ps qs h t ih=>
   obtain⟨h1,h2⟩:=h
   rw[List.filter_cons,List.filter_cons]
   by_cases e:p.1=k
   · have a:¬decide (p.1≠k)=true:=by simp[e]
     have b:¬decide (q.1≠k)=true:=by simp[h1.symm.trans e]
     rw[if_neg a,if_neg b];exact ih
   · have e':¬q.1=k:=fun z=>e (h1.trans z)
     have a:decide (p.1≠k)=true:=by simp[e]
     have b:decide (q.1≠k)=true:=by simp[e']
     rw[if_pos a,if_pos b];exact .cons ⟨h1,h2⟩ ih
theorem KV.length{kvs:List (κ×V)}{vs:List (κ×Value)}(r:KV kvs vs):kvs.length=vs.length:=Paired.length r
end
theorem jd{P:Program}{w:World}{k:Key}{u:Value}(r:RelV (kV k) u):(bR P w).is k u=true:=by
 cases k with
 |inl i=>obtain⟨t,e⟩:=(show ∃t,u=Value.int i t from r);subst e;exact yW P w i t
 |inr x=>obtain⟨t,e⟩:=(show ∃t,u=Value.str x t from r);subst e;exact vy P w x t
theorem tY{P:Program}{w:World}:∀ {ks:List Key} {us:List Value},Vals (ks.map kV) us→ItemsAre (bR P w) ks us
 |[],_,r=>by rw[List.map_nil]at r;cases r;exact .nil
 | k::ks,_,r=>by
   rw[List.map_cons]at r
   cases r with
   |cons h t=>exact .cons (jd h) (tY t)
noncomputable abbrev KT(H:Hp):List (List Key×V)→List (List Key×Addr×Value)→Prop:=Paired fun p q=>p.1=q.1∧H q.2.1=some (.tup (p.1.map kV))∧RelV p.2 q.2.2
theorem KT.val{H:Hp}{kvs:List (List Key×V)}{xs:List (List Key×Addr×Value)}(r:KT H kvs xs)(k:List Key):cT (bO kvs k) ((atKey xs k).map (·.2)):=by
 induction r with
 |nil=>exact True.intro
 | @cons p q ps qs h t ih=>
   obtain⟨h1,_,h2⟩:=h
   by_cases e:p.1=k
   · have e':q.1=k:=h1.symm.trans e
     have b:atKey (q::qs) k=some q.2:=by simp[atKey,List.find?_cons,e']
     rw[nX e,b];exact h2
   · have e':¬q.1=k:=fun z=>e (h1.trans z)
     have b:atKey (q::qs) k=atKey qs k:=by simp[atKey,List.find?_cons,e']
     rw[nu e,b];exact ih
theorem KT.pe{H:Hp}{kvs:List (List Key×V)}{xs:List (List Key×Addr×Value)}(r:KT H kvs xs)(k:List Key){y:V}{u:Value}(ry:RelV y u):
   KT H (kvs.map fun kv=>if kv.1=k then(kv.1,y)else kv) (xs.map (putAt k u)):=by
 induction r with
 |nil=>exact .nil
 | @cons p q ps qs h t ih=>
   rw[List.map_cons,List.map_cons]
   refine .cons ?_ ih
   obtain⟨h1,h2,h3⟩:=h
   unfold putAt
   by_cases e:p.1=k
   ·rw[if_pos e,if_pos (h1.symm.trans e)];exact⟨h1,h2,ry⟩
   ·rw[if_neg e,if_neg (fun z=>e (h1.trans z))];exact⟨h1,h2,h3⟩
theorem KT.put{H:Hp}{kvs:List (List Key×V)}{xs:List (List Key×Addr×Value)}(r:KT H kvs xs)(k:List Key){b:Addr}{y:V}{u:Value}(hb:H b=some (.tup (k.map kV)))(ry:RelV y u):
   KT H (putK kvs k y) (storedH xs k b u):=by
 have e:(kvs.any fun kv=>decide (kv.1=k))=(atKey xs k).isSome:=by
   rw[lq,(r.val k).zg,Option.isSome_map]
 unfold putK storedH
 rw[e]
 by_cases q:(atKey xs k).isSome=true
 ·rw[if_pos q,if_pos q];exact r.pe k ry
 ·rw[if_neg q,if_neg q];exact Paired.snoc r ⟨rfl,hb,ry⟩
theorem KT.keeps{H H':Hp}{kvs:List (List Key×V)}{xs:List (List Key×Addr×Value)}(r:KT H kvs xs)(ht:∀b ys,H b=some (.tup ys)→H' b=some (.tup ys)):KT H' kvs xs:=
 Paired.ou r fun _ _ z=>⟨z.1,ht _ _ z.2.1,z.2.2⟩
section
variable{P:Program}{w:World}{H:Hp}{h:Heap}{a:Addr}
theorem tX{u:HO}(ok:ba P w H h)(e:Rd H a u):bT P w H h a u:=e.ok ok
theorem mi{kvs:List (Key×V)}(ok:ba P w H h)(e:Rd H a (.dK kvs)):kvs.length≤sizeLine∧(a==sysModules)=false∧∃vs,KV kvs vs∧h.DictOf (bR P w) a vs:=
 show bT P w H h a (.dK kvs)from tX ok e
theorem A5{kvs:List (Key×V)}(ok:ba P w H h)(e:H a=some (.dK kvs)):kvs.length≤sizeLine∧(a==sysModules)=false∧∃vs,KV kvs vs∧h.DictOf (bR P w) a vs:=mi ok (.inl e)
theorem tm{ks:List Key}(ok:ba P w H h)(e:H a=some (.tup (ks.map kV))):(tupleKind (bR P w)).is h ks a:=by
 obtain⟨_,its,r,o,h1,h2,n,h3⟩:=(show bT P w H h a (.tup (ks.map kV))from ok a _ e)
 exact⟨o,its.toArray,n,h1,h2,h3,by simpa using tY r⟩
theorem A6{kvs:List (List Key×V)}(ok:ba P w H h)(e:Rd H a (.dT kvs)):kvs.length≤sizeLine∧(a==sysModules)=false∧
   ∃xs,KT H kvs xs∧h.DictOfH (tupleKind (bR P w)) a xs:=by
 obtain⟨z,y,xs,r,o,es,ep,h1,h2,h3,h4,h5⟩:=(show bT P w H h a (.dT kvs)from tX ok e)
 refine⟨z,y,xs,r,o,es,ep,h1,h2,h3,h4,fun x hx=>?_,h5⟩
 have all:∀ {l:List (List Key×V)} {m:List (List Key×Addr×Value)},KT H l m→∀x∈m,(tupleKind (bR P w)).is h x.1 x.2.1:=by
   intro l m q
   induction q with
   |nil=>intro x hx;exact nomatch hx
   | @cons p q ps qs hq t ih=>
     intro x hx
     rcases List.mem_cons.mp hx with e|hx
     · subst e
       exact tm ok (by rw[←hq.1];exact hq.2.1)
     ·exact ih x hx
 exact all r x hx
theorem yI{kvs:List (List Key×V)}(ok:ba P w H h)(e:H a=some (.dT kvs)):kvs.length≤sizeLine∧(a==sysModules)=false∧
   ∃xs,KT H kvs xs∧h.DictOfH (tupleKind (bR P w)) a xs:=A6 ok (.inl e)
end
noncomputable def lW(H:Hp)(a:Addr)(y:V)(r:Option V):Prop:=
 (∃kvs k,Rd H a (.dK kvs)∧y=kV k∧r=bO kvs k)∨∃kvs k b,Rd H a (.dT kvs)∧y=.ref b∧H b=some (.tup (k.map kV))∧r=bO kvs k
noncomputable def gM(H:Hp)(a:Addr)(y v:V)(H':Hp):Prop:=
 (∃kvs k,H a=some (.dK kvs)∧y=kV k∧kvs.length<sizeLine∧H'=upd H a (.dK (putK kvs k v)))∨
 ∃kvs k b,H a=some (.dT kvs)∧y=.ref b∧H b=some (.tup (k.map kV))∧kvs.length<sizeLine∧H'=upd H a (.dT (putK kvs k v))
theorem lW.k{H:Hp}{a:Addr}{kvs:List (Key×V)}{k:Key}(e:H a=some (.dK kvs)):lW H a (kV k) (bO kvs k):=.inl ⟨kvs,k,.inl e,rfl,rfl⟩
theorem lW.t{H:Hp}{a b:Addr}{kvs:List (List Key×V)}{k:List Key}(e:H a=some (.dT kvs))(eb:H b=some (.tup (k.map kV))):lW H a (.ref b) (bO kvs k):=.inr ⟨kvs,k,b,.inl e,rfl,eb,rfl⟩
theorem gM.k{H:Hp}{a:Addr}{kvs:List (Key×V)}{k:Key}{v:V}(e:H a=some (.dK kvs))(hl:kvs.length<sizeLine):gM H a (kV k) v (upd H a (.dK (putK kvs k v))):=.inl ⟨kvs,k,e,rfl,hl,rfl⟩
theorem gM.t{H:Hp}{a b:Addr}{kvs:List (List Key×V)}{k:List Key}{v:V}(e:H a=some (.dT kvs))(eb:H b=some (.tup (k.map kV)))(hl:kvs.length<sizeLine):
   gM H a (.ref b) v (upd H a (.dT (putK kvs k v))):=.inr ⟨kvs,k,b,e,rfl,eb,hl,rfl⟩
section
variable{X:Cx}{pins:List (Addr×Obj)}{σ:St}{H:Hp}{s:Shared}{a:Addr}{y v:V}{u r:Value}{o:Option V}{A:Around}{E:Value→Shared→Prop}
theorem Inv.big(I:Inv X pins σ H s):sysModules<s.heap.objs.size:=by
 have h:mainGlobals<s.heap.objs.size:=(I.mod.glob.keeps I.bk).lt
 exact Nat.lt_trans (by decide) h
theorem tf{h':Heap}{t':Nat}{ob:HO}(I:Inv X pins σ H s)(mu:jY (H a))(hs:Heap.SameBut a s.heap h')(he:∃q,h'.get? a=some q)(new:bT X.prog X.w (upd H a ob) h' a ob):
   Inv X pins σ (upd H a ob) {s with heap:=h',toks:=t'}:=
 I.write (x:=a) (e:=a) mu (.inl rfl) (fun b q hb z=>(hs.2 b hb).trans z) he new
theorem qw{P:Program}{w:World}{H':Hp}{h':Heap}{kvs:List (Key×V)}{vs:List (Key×Value)}(z:kvs.length≤sizeLine)(hd:(a==sysModules)=false)(rel:KV kvs vs)(dd:h'.DictOf (bR P w) a vs):
   bT P w H' h' a (.dK kvs):=⟨z,hd,vs,rel,dd⟩
theorem Cq{H':Hp}{Q:Unit→Shared→Prop}(hu:A.units+1<cLine)(I:Inv X pins σ H s)(g:gM H a y v H')(ry:RelV y u)(rv:RelV v r)(h:∀s',Inv X pins σ H' s'→Q () s'):
   wpAny (model X.prog X.w) A (setItem (.ref a) u r) Q E s:=by
 rcases g with⟨kvs,k,e,ey,l,eH⟩|⟨kvs,k,b,e,ey,eb,l,eH⟩
 · subst ey eH
   obtain⟨z,hd,vs,rel,dd⟩:=A5 I.ao e
   have hz:vs.length≤sizeLine:=by rw[←rel.length];exact z
   have hl:(putK kvs k v).length≤sizeLine:=by have:=o7 kvs k v;omega
   refine wpAny_setItem_pairs (hsz:=hz) (jd ry) dd fun h' dd' hs=>h _ ?_
   have he:∃q,h'.get? a=some q:=let⟨q,_,_,hq,_⟩:=dd';⟨q,hq⟩
   exact tf I (by rw[e];exact True.intro) hs he (qw hl hd (rel.put k rv) dd')
 · subst ey eH
   cases (show u=Value.ref b from ry)
   obtain⟨z,hd,xs,rel,dd⟩:=yI I.ao e
   have hz:xs.length≤sizeLine:=by rw[←Paired.length rel];exact z
   have hl:(putK kvs k v).length≤sizeLine:=by have:=o7 kvs k v;omega
   refine wpAny_setItem_heap (hsz:=hz) (tupleKind_room_in1 hu) (tm I.ao eb) dd fun h' dd' hs=>h _ ?_
   obtain⟨q,es,ep,hq,h2,h3,h4,_,h5⟩:=dd'
   refine tf I (by rw[e];exact True.intro) hs ⟨q,hq⟩ ⟨hl,hd,_,(rel.put k eb rv).keeps fun c ys ec=>?_,q,es,ep,hq,h2,h3,h4,h5⟩
   rw[az (Bd ec e (fun z=>nomatch z))]
   exact ec
end
section
variable{X:Cx}{pins:List (Addr×Obj)}{σ:St}{H:Hp}{s:Shared}{a:Addr}{kvs:List (Key×V)}{k:Key}{u:Value}{A:Around}{E:Value→Shared→Prop}
theorem B3{Q:Value→Shared→Prop}(I:Inv X pins σ H s)(e:Rd H a (.dK kvs))(h:∀t s',Inv X pins σ H s'→Q (.int kvs.length t) s'):wpAny (model X.prog X.w) A (call (.builtin "len") [.ref a]) Q E s:=by
 obtain⟨z,hd,vs,rel,dd⟩:=mi I.ao e
 refine call_len_dict hd dd (by rw[←rel.length];rw[sizeLine_eq]at z;omega) ?_
 rw[←rel.length]
 exact h _ _ (I.tok _)
end
noncomputable def CW(td ty tv:TE):TS:=fun D σ H=>tv σ H fun v H1=>td σ H1 fun x H2=>ty σ H2 fun y H3=>∃a H4,x=.ref a∧gM H3 a y v H4∧D.nx σ H4
section
variable{X:Cx}{o i e value:Expr}{pos pos' tpos:Pos}{td ty tv:TE}
theorem qJ(hu:X.A.units+1<cLine)(ho:PE X o td)(hi:PE X i ty)(hv:PE X value tv)(hs:swapsWith value (some (.Subscript o i pos')) pos.line X.env=pure false):
   PS X (.Assign [.Subscript o i pos'] value pos) (CW td ty tv):=by
 intro pins s σ H D I h
 refine wpAny_Assign_Subscript (aE (hv pins s σ H _ I h) fun r s1 ⟨v,H1,I1,rv,q1⟩=>aE (ho pins s1 σ H1 _ I1 q1) fun u s2 ⟨x,H2,I2,rx,q2⟩=>aE (hi pins s2 σ H2 _ I2 q2) fun iv s3 ⟨y,H3,I3,ry,a,H4,ex,g,q3⟩=>?_) hs
 subst ex
 obtain rfl:u=Value.ref a:=rx
 exact Cq hu I3 g ry rv fun s4 I4=>⟨σ,H4,I4,q3⟩
end
theorem yj{P:Program}{w:World}{H:Hp}(h:Heap)(hb:sysModules<h.objs.size):bT P w H (h.push {cls:=.type "dict",data:=.dict #[]}) h.objs.size (.dK []):=
 ⟨Nat.zero_le _,beq_eq_false_iff_ne.mpr (Ne.symm (Nat.ne_of_lt hb)),[],.nil,Heap.DictOf.new h⟩
noncomputable def Bx:TE:=fun _ H Q=>∀p,H p=none→Q (.ref p) (upd H p (.dK []))
section
variable{X:Cx}{pos:Pos}
theorem rR:PE X (.Dict [] [] pos) Bx:=fun pins s σ H Q I h=>
 wpAny_Dict_empty ⟨.ref s.heap.objs.size,_,I.laid (a:=s.heap.objs.size) (o:=.dK []) (t':=s.toks) (fun _ _ q=>Heap.get?_push_of_some _ q) (Nat.le_refl _) (yj s.heap I.big),rfl,h _ (I.ao.fresh (Nat.le_refl _))⟩
end
noncomputable def nG:List (TE×TE)→St→Hp→(List (V×V)→Hp→Prop)→Prop
 |[],_,H,Q=>Q [] H
 |(tk,tv)::r,σ,H,Q=>tk σ H fun x H1=>tv σ H1 fun y H2=>nG r σ H2 fun ps H3=>Q ((x,y)::ps) H3
noncomputable abbrev VV:List (V×V)→List (Value×Value)→Prop:=Paired fun p q=>RelV p.1 q.1∧RelV p.2 q.2
noncomputable def Ab(X:Cx)(pos:Pos)(keys:List (Option Expr))(values:List Expr)(trs:List (TE×TE)):Prop:=
 ∀(pins:List (Addr×Obj)) (s:Shared) (σ:St) (H:Hp) (Q:List (V×V)→Hp→Prop),Inv X pins σ H s→nG trs σ H Q→
   wpAny (model X.prog X.w) X.A (evalPairs (pairTrees keys values X.env pos)) (fun vs s'=>∃ps H',Inv X pins σ H' s'∧VV ps vs∧Q ps H') X.xe s
noncomputable def fM(kvs more:List (Key×V)):List (Key×V):=more.foldl (fun acc kv=>putK acc kv.1 kv.2) kvs
theorem KV.merge:∀ {more:List (Key×V)} {rs:List (Key×Value)} {kvs:List (Key×V)} {vs:List (Key×Value)},KV more rs→KV kvs vs→KV (fM kvs more) (merged vs rs):=by
 intro more rs kvs vs r
 unfold KV at r
 induction r generalizing kvs vs with
 |nil=>intro q;exact q
 | @cons p q ps qs h t ih=>
   intro r0
   have e:KV (putK kvs p.1 p.2) (stored vs q.1 q.2):=by
     have:=r0.put p.1 h.2
     rw[←h.1];exact this
   exact ih e
theorem tT:∀(more kvs:List (Key×V)),(fM kvs more).length≤kvs.length+more.length
 |[],kvs=>by show kvs.length≤kvs.length+0;omega
 | p::r,kvs=>by
   have h1:=tT r (putK kvs p.1 p.2)
   have h2:=o7 kvs p.1 p.2
   show(fM (putK kvs p.1 p.2) r).length≤_
   rw[List.length_cons];omega
section
variable{X:Cx}{pins:List (Addr×Obj)}{σ:St}{H:Hp}{s:Shared}{a:Addr}{y d:V}{u r:Value}{o:Option V}{A:Around}{E:Value→Shared→Prop}
end
section
variable{X:Cx}{o e f:Expr}{apos cpos:Pos}{td ty tx:TE}
end
section
variable{X:Cx}{pins:List (Addr×Obj)}{σ:St}{H:Hp}{s:Shared}{a:Addr}{kvs:List (Key×V)}{A:Around}{E:Value→Shared→Prop}
end
section
variable{X:Cx}{pins:List (Addr×Obj)}{σ:St}{H:Hp}{s:Shared}{a:Addr}{y:V}{u:Value}{A:Around}{E:Value→Shared→Prop}
end
end L2
namespace tw
open PySem PySem.W PySem.Calls PyProof.Rows
theorem BB{P:Params}{h:Heap}:∀(ns:List Int) (vs:List Value),WellAll P h vs (ns.map WData.int)→IntsAre vs ns:=by
 intro ns
 induction ns with
 | nil=>
   intro vs w
   rw[List.map_nil]at w
   cases w
   exact .nil
 | cons n ns ih=>
   intro vs w
   rw[List.map_cons]at w
   cases w with
   | cons a b=>
     cases a
     exact .cons _ _ (ih _ b)
theorem y3{l:OpenLaw}{n:Nat}(hn:l.most=some n){P:Params}{h:Heap}{args:List WData}{vals:List Value}
   (hpre:l.row.toRowW.claim.pre args=true) (hwl:WellAll P h vals args):
   ∃a vs ns,vals=[Value.ref a]∧args=[WData.list (ns.map WData.int)]∧h.get? a=some {cls:=.type "list",data:=.seq vs.toArray}∧IntsAre vs ns∧ns.length≤n:=by
 have hsh:WShape.hasAll [] args [.list .int]=true:=(pre_splitW hpre).1
 have hc:l.pre.holds [] {args:=args}=true:=(pre_splitW hpre).2
 obtain⟨d,r,rfl,h1,h2⟩:=hasAllW_cons hsh
 obtain rfl:=hasAllW_nil h2
 obtain⟨xs,rfl,h3⟩:=hasW_list h1
 obtain⟨ns,rfl⟩:=items_int h3
 have hlen:ns.length≤n:=by
   unfold OpenLaw.pre at hc
   have h4:(WTm.not (.lt (.lit (.int (n:Int))) (.len (.arg 0)))).holds [] {args:=[.list (ns.map .int)]}=true:=by
     have h4:=(holds_andW hc).1
     rw[hn]at h4
     exact h4
   have h5:=condW_of h4 (w_not (w_lt w_lit (w_len_list (w_arg rfl))))
   rw[List.length_map]at h5
   refine Nat.le_of_not_lt fun q=>?_
   have q':(n:Int)<((ns.length:Nat):Int):=by omega
   first
     |(rw[decide_eq_true q']at h5;exact absurd h5 (by decide))
     |(simp at h5;omega)
 cases hwl with
 | cons w1 w2=>
   cases w2
   cases w1 with
   |list ho hall=>exact⟨_,_,ns,rfl,rfl,ho,BB ns _ hall,hlen⟩
theorem Br(l:OpenLaw)(args:List WData):l.row.toRowW.claim.post args (.bool true) args=true:=
 postW_of (r:=l.row.toRowW) (X:=(true==true))
   (show WShape.has [] (.bool true) .bool=true by first|rfl|decide|simp[WShape.has,WShape.arms,WShape.armsAll])
   (show(WTm.eq .res (.lit (.bool true))).value [] {args:=args,res:=some (.bool true),after:=args}=some (.bool (true==true))from w_eq_bool (w_res rfl) w_lit) rfl
theorem yR{l:OpenLaw}{n:Nat}{q:Program}{loose:List Str}{XP:(Str→Option Value)→Heap→Prop}{YP:World→Heap→Prop}{d:DefRec}
   (hn:l.most=some n) (hdf:d.params.defaults=[])
   (call:∀(w:World) (bX s₁:Shared) (mg mb:Str→Option Value) (fa:Addr) (o:Obj) (pm cd doc:Value) (a:Addr) (vs:List Value) (ns:List Int),
     Ground q loose [] XP w bX mg mb s₁.heap→YP w s₁.heap→
     s₁.heap.get? fa=some o→o.data=.func (docDef d.name d.params d.body d.scope pm cd doc)→s₁.heap.CodeRec cd d.name→mg d.name=some (.ref fa)→
     s₁.heap.get? a=some {cls:=.type "list",data:=.seq vs.toArray}→IntsAre vs ns→ns.length≤n→s₁.gens= #[]→
     codeAny (model l.prog w) callerA (.call (.ref fa) ⟨[.ref a],[]⟩) (fun r s'=>r=.ok (.ret (.bool true))∧OldK s₁.heap s'.heap∧s'.os=s₁.os∧AllBare s'.gens) s₁):
   WalkO q loose XP YP l.row.toRowW d [] (fun f vs=>PySem.call f vs):=by
 intro w bX s₁ mg mb G Y fa o pm cd doc dV kV ho hd hcd hD hmg hg args vals as hpre hlay hrd hwl hlo
 obtain rfl:dV=.none:=Dflts.none hD hdf
 obtain rfl:kV=.none:=Dflts.noKw hD
 obtain⟨a,vs,ns,rfl,rfl,hobj,hints,hlen⟩:=y3 hn hpre hwl
 refine enter_call (codeAny_mono (call w bX s₁ mg mb fa o pm cd doc a vs ns G Y ho (fd_plain hd) hcd hmg hobj hints hlen hg) fun r s' hq=>?_)
 obtain⟨rfl,h2,h3,h4⟩:=hq
 exact⟨.inl ⟨.bool true,.bool true,[],rfl,fun _=>rfl,.bool true,Br l _,fun _=>⟨List.Pairwise.nil,fun _ hm=>(nomatch hm)⟩⟩,h2,h3,h4⟩
section
variable{prog:Program}{w:World}{A:Around}{E:Value→Shared→Prop}{s:Shared}{K:Frag}
end
end tw
namespace L2
open PySem PySem.Spec PyProof.Rows
theorem sE:∀ {vs:List Value} {ns:List Int},IntsAre vs ns→Vals (ns.map V.int) vs
 |_,_,.nil=>.nil
 |_,_,.cons n t h=>.cons ⟨t,rfl⟩ (sE h)
noncomputable def nr(H:Hp):Prop:=∀b,H b=none∨∃o xs,H b=some (.frz o (.lst xs))
theorem yU{P:Program}{w:World}{K:PySem.W.Frag}{mg mb:Str→Option Value}{CX:dR}{k:Nat}{fa a:Addr}{fd:FuncData}{x:Str}{sp:Sp}{s₁:Shared}{vs:List Value}{ns:List Int}
   (KX:K.In s₁.heap) (hns:s₁.heap.Ns mainGlobals mg) (hb:s₁.heap.Ns builtinsNs mb) (hbb:∀x:Str,x≠"__name__"→mb x=bootBuiltins x) (hlim:s₁.heap.NoLimit) (hg:s₁.gens= #[])
   (ha:s₁.heap.get? a=some {cls:=.type "list",data:=.seq vs.toArray}) (hi:IntsAre vs ns) (hl:ns.length≤sizeLine) (hr:bt k callerA)
   (F:∀base:Heap,K.In base→base.Ns mainGlobals mg→cy P w K mg base CX k fa fd [x] sp) (hbind:∀(s:Shared) (u:Value),BindsTo s fd ⟨[u],[]⟩ [(x,u)])
   (hsp:∀H:Hp,nr H→aM K H a (ns.map V.int)→sp [.ref a] H (fun v _=>v=.bl true) fun _ _ _=>False)
   (hCX:∀H e s',CX [] H s₁ (fun _ _ _=>False) e s'→False):
   codeAny (model P w) callerA (.call (.ref fa) ⟨[.ref a],[]⟩) (fun r s'=>r=.ok (.ret (.bool true))∧OldK s₁.heap s'.heap∧s'.os=s₁.os∧AllBare s'.gens) s₁:=by
 have rv:=sE hi
 have lenV:=hi.length
 have core:∀H:Hp,nr H→aM K H a (ns.map V.int)→ba P w H s₁.heap→(∀b,H b≠none→b=a)→(H a≠none→K.lookup a=none)→
     codeAny (model P w) callerA (.call (.ref fa) ⟨[.ref a],[]⟩) (fun r s'=>r=.ok (.ret (.bool true))∧OldK s₁.heap s'.heap∧s'.os=s₁.os∧AllBare s'.gens) s₁:=by
   intro H hO hS ao hA hK
   have base_of:∀ {b:Addr} {o:Obj},s₁.heap.get? b=some o→H b=none→(gb s₁.heap H).get? b=some o:=fun e n=>vo e n
   have noA:∀ {b:Addr} {o:Obj} {es:Array DictEntry} {ep:Nat},s₁.heap.get? b=some o→o.data=.dict es ep→H b=none:=fun {b o es ep} e d=>by
     cases q:H b with
     |none=>rfl
     | some u=>
       have e':b=a:=hA b (by rw[q];simp)
       subst e'
       rw[ha]at e;cases e
       have d':Data.seq vs.toArray _=Data.dict es ep:=d
       cases d'
   have nsK:∀ {b:Addr} {m:Str→Option Value},s₁.heap.Ns b m→(gb s₁.heap H).Ns b m:=fun {b m} ⟨o,es,ep,e,d,r⟩=>⟨o,es,ep,base_of e (noA e d),d,r⟩
   have hKb:K.In (gb s₁.heap H):=fun b o e=>base_of (KX b o e) (by
     cases q:H b with
     |none=>rfl
     | some u=>
       have e':b=a:=hA b (by rw[q];simp)
       subst e'
       rw[hK (by rw[q];simp)]at e;cases e)
   have hM:Mod K mg (gb s₁.heap H):=⟨hKb,nsK hns,⟨mb,nsK hb,hbb⟩,let⟨mc,h1,h2⟩:=hlim;⟨mc,nsK h1,h2⟩⟩
   have e0:gX P w K mg (gb s₁.heap H) callerA [] s₁ H:=⟨rfl,hM,fun b o e=>xg e,Nat.le_of_eq (vb _ _),trivial,fun b hb=>absurd (show b∈([]:List Addr)from hb) (by simp),ao,.of_eq hg⟩
   refine codeAny_mono ((F _ hKb (nsK hns)).run callerA [] s₁ H ⟨[.ref a],[]⟩ [.ref a] [.ref a] _ _ hr e0 (hbind s₁ (.ref a)) (.cons rfl .nil) (hsp H hO hS)) fun r s' h=>?_
   cases r with
   |error e=>exact(hCX H e s' h).elim
   | ok fl=>
     cases fl with
     |next=>exact False.elim h
     |brk=>exact False.elim h
     |cont=>exact False.elim h
     | ret u=>
       obtain⟨v,H',os,bare,un,hok',r',q⟩:=h
       have q':v=.bl true:=q
       subst q'
       obtain rfl:u=Value.bool true:=r'
       refine⟨rfl,OldK.of_keep fun b o e=>?_,os,bare⟩
       cases q:H b with
       |none=>exact un.keep b o e q (by intro z;exact absurd (show b∈([]:List Addr)from z) (by simp)) (by simp)
       | some u=>
         rcases hO b with z|⟨ob,xs,z⟩
         ·rw[q]at z;cases z
         · have z2:=un.dE b ob _ z
           obtain⟨e1,_⟩:=ao b _ z
           obtain⟨e2,_⟩:=hok' b _ z2
           rw[e]at e1;cases e1
           exact e2
 cases hk:K.lookup a with
 | some o=>
   have e:=KX a o hk
   rw[ha]at e
   cases e
   refine core (fun _=>none) (fun _=>.inl rfl) (.inr ⟨_,vs.toArray,_,hk,rfl,rfl,rfl,by rw[List.size_toArray,lenV];exact hl,by simpa using rv⟩) (fun b u z=>by have z':(none:Option HO)=some u:=z;cases z') (fun b z=>absurd rfl z) fun z=>absurd rfl z
 | none=>
   refine core (fun b=>if b=a then some (.frz {cls:=.type "list",data:=.seq vs.toArray} (.lst (ns.map V.int)))else none) (fun b=>?_) (.inl (.inr ⟨{cls:=.type "list",data:=.seq vs.toArray},if_pos rfl⟩)) (fun b u z=>?_) (fun b z=>?_) fun _=>hk
   · by_cases hb:b=a
     ·exact .inr ⟨_,_,if_pos hb⟩
     ·exact .inl (if_neg hb)
   · by_cases hb:b=a
     · have z':=(if_pos hb).symm.trans z
       cases z'
       subst hb
       exact⟨ha,by rw[List.length_map];exact hl,vs,_,rv,ha⟩
     · have z':=(if_neg hb).symm.trans z
       cases z'
   · by_cases hb:b=a
     ·exact hb
     ·exact absurd (if_neg hb) z
end L2
namespace L2
open PySem PySem.Spec PyProof.Rows
noncomputable abbrev Di{K:PySem.W.Frag}{h:Heap}(_:K.In h):PySem.W.Frag:=K
theorem zz{l:PySem.W.OpenLaw}{n k:Nat}{q:Program}{loose:List Str}{XP:(Str→Option Value)→Heap→Prop}{YP:World→Heap→Prop}{d:DefRec}{K:Params→PySem.W.Frag}{CX:World→dR}{sp:World→Sp}{x:Str}
   (hn:l.most=some n) (hn2:n≤sizeLine) (hdf:d.params.defaults=[]) (hr:bt k callerA)
   (hY:∀(w:World) (h:Heap),YP w h→(K w.params).In h)
   (F:∀(w:World) (mg:Str→Option Value) (fa:Addr) (h:Heap),(K w.params).In h→h.Ns mainGlobals mg→mg d.name=some (.ref fa)→
     ∃fd:FuncData,(∀(s:Shared) (u:Value),BindsTo s fd ⟨[u],[]⟩ [(x,u)])∧
       ∀base:Heap,(K w.params).In base→base.Ns mainGlobals mg→cy l.prog w (K w.params) mg base (CX w) k fa fd [x] (sp w))
   (hsp:∀(w:World) (H:Hp) (a:Addr) (ns:List Int),ns.length≤n→nr H→aM (K w.params) H a (ns.map V.int)→sp w [.ref a] H (fun v _=>v=.bl true) fun _ _ _=>False)
   (hCX:∀(w:World) (H:Hp) (s:Shared) (e:Value) (s':Shared),CX w [] H s (fun _ _ _=>False) e s'→False):
   PySem.W.WalkO q loose XP YP l.row.toRowW d [] (fun f vs=>PySem.call f vs):=by
 refine tw.yR hn hdf fun w bX s₁ mg mb fa o pm cd doc a vs ns G Y ho hd hcd hmg hobj hints hlen hg=>?_
 have KX:=hY w _ Y
 obtain⟨fd,hb,hF⟩:=F w mg fa _ KX G.T.g hmg
 exact yU KX G.T.g G.T.b G.T.builtins G.T.nolimit hg hobj hints (Nat.le_trans hlen hn2) hr hF hb (fun H hO hS=>hsp w H a ns hlen hO hS) fun H e s'=>hCX w H s₁ e s'
end L2
namespace L2
open PySem PySem.Spec PyProof.Rows
noncomputable def bG(s:Stmt):Arguments:=match s with
 |.FunctionDef _ a _ _ _ _ _ _ _ _=>a
 |_=>{posonlyargs:=[],args:=[],vararg:=none,kwonlyargs:=[],kw_defaults:=[],kwarg:=none,defaults:=[]}
noncomputable def bw(s:Stmt):List Stmt:=match s with
 |.FunctionDef _ _ b _ _ _ _ _ _ _=>b
 |_=>[]
noncomputable def aC(s:Stmt):Scope:=match s with
 |.FunctionDef _ _ _ _ _ _ sc _ _ _=>sc
 |_=>{kind:=.function,names:=[],isGenerator:=false,isCoroutine:=false}
noncomputable abbrev de:dR:=fun _ _ _ _ _ _=>False
noncomputable abbrev E0:XK:=fun _ _ _=>False
theorem pM{X:Cx}:Passes de X E0:=fun _ _ _ _ _ _ _ h=>h.elim
structure bx(K:PySem.W.Frag)(x qual:Str)(st:Stmt)(f:Addr)(fd:FuncData):Prop where
 ex:∃(oc:Value) (od:Option Addr) (kV doc pm:Value) (an:Option Addr) (cdv ct:Value) (osl:Array (Option Value)),
   fd=PySem.W.fnOf x qual (bG st) (bw st) (aC st) .none kV doc pm an cdv ct∧K.lookup f=some ⟨oc,od,.func fd,osl⟩∧PySem.W.codeIn K cdv qual=true
 kp:PySem.W.keepIn K (.ref f)=true
section
variable{P:Program}{w:World}{K:PySem.W.Frag}{mg:Str→Option Value}{base:Heap}
theorem bx.ok{x qual:Str}{st:Stmt}{f:Addr}{fd:FuncData}{N ps:List Str}{k:Nat}{sp:Sp}(F:bx K x qual st f fd)(S:bE N ps (aC st))(len:∀vs H Q E,sp vs H Q E→vs.length=ps.length)
   (hbody:∀(cdv:Value) (A:Around) (outer:List Env) (s:Shared) (H:Hp) (vs:List V) (Q:VK) (E:XK),bt k (A.deeper (envOfC qual (aC st) s.heap.objs.size f cdv))→sp vs H Q E→
     ∃t,bK (fK de P w K mg base N qual (aC st) f cdv A outer s H E).er (bw st) t∧t {nx:=fun _ H'=>Q .aF H',rt:=Q} (start N vs) H):cy P w K mg base de (k+1) f fd ps sp:=by
 obtain⟨oc,od,kV,doc,pm,an,cdv,ct,osl,rfl,lk,hcd⟩:=F.ex
 refine Ca lk hcd S len fun A outer s H vs Q E hr hsp=>?_
 obtain⟨t,h,q⟩:=hbody cdv A outer s H vs Q E hr hsp
 exact⟨t,h.er,q⟩
theorem bx.binds{x qual:Str}{st:Stmt}{f:Addr}{fd:FuncData}{ps:List Str}(F:bx K x qual st f fd)
   (h:∀(kV doc pm:Value) (an:Option Addr) (cdv ct:Value) (us:List Value),us.length=ps.length→bindArgs (PySem.W.fnOf x qual (bG st) (bw st) (aC st) .none kV doc pm an cdv ct) ⟨us,[]⟩=pure (ps.zip us)):Binds K fd ps []:=by
 obtain⟨oc,od,kV,doc,pm,an,cdv,ct,osl,rfl,lk,hcd⟩:=F.ex
 exact .all (h kV doc pm an cdv ct)
theorem cb{x qual:Str}{st:Stmt}{f:Addr}{oc:Value}{od an:Option Addr}{osl:Array (Option Value)}{kV doc pm cdv ct:Value}(l:K.lookup f=some ⟨oc,od,.func (PySem.W.fnOf x qual (bG st) (bw st) (aC st) .none kV doc pm an cdv ct),osl⟩)
   (c:PySem.W.codeIn K cdv qual=true) (k:PySem.W.keepIn K (.ref f)=true):bx K x qual st f (PySem.W.fnOf x qual (bG st) (bw st) (aC st) .none kV doc pm an cdv ct):=⟨⟨oc,od,kV,doc,pm,an,cdv,ct,osl,rfl,l,c⟩,k⟩
end
section
variable{X:Cx}
theorem pv(i:Nat){x:Str}{pos:Pos}(hN:X.N[i]? =some x:=by rfl)(hv:aZ X.env.scope x:=by first|exact Or.inl rfl|exact Or.inr (Or.inl rfl)|exact Or.inr (Or.inr rfl))(hd:(x==("__debug__":Str))=false:=by decide)
   (hcd:(x==("__classdict__":Str))=false:=by decide):PE X (.Name x pos) (nW i):=u6 hN hv hd hcd
end
noncomputable def af(H H':Hp):Prop:=∀b o,H b=some o→H' b=some o
theorem af.refl(H:Hp):af H H:=fun _ _ h=>h
theorem af.trans{H H1 H2:Hp}(a:af H H1)(b:af H1 H2):af H H2:=fun c o h=>b c o (a c o h)
theorem af.free{H H':Hp}(e:af H H'){l:Addr}(h:H' l=Option.none):H l=Option.none:=by
 cases q:H l with
 |none=>rfl
 | some o=>
   rw[e l o q]at h
   cases h
theorem af.seq{K:PySem.W.Frag}{H H':Hp}{a:Addr}{xs:List V}(e:af H H')(h:aM K H a xs):aM K H' a xs:=by
 rcases h with(h|⟨o,h⟩)|h
 ·exact .inl (.inl (e _ _ h))
 ·exact .inl (.inr ⟨o,e _ _ h⟩)
 ·exact .inr h
end L2
namespace PL
open PySem PySem.Spec PySem.W
section
variable{prog:Program}{w:World}{A:Around}{E:Value→Shared→Prop}{h:Heap}{g:Array GenState}{d:Drawn}{t:Nat}{os:OsState}{a C:Addr}{o:Obj}{K:PySem.W.Frag}
end
end PL
namespace PL
open PySem
noncomputable abbrev Ky:=Sum Int Str
inductive D where
 |aF|bl (b:Bool)|int (i:Int)|str (x:Str)
 |tup (xs:List D)|lst (xs:List D)|aD (ks:List Ky) (vs:List D)|cI (c:Str) (ns:List Str) (vs:List D)
 deriving Inhabited
inductive R(α:Type) where
 |ok (a:α)|exc (x:D)|bad
namespace R
noncomputable def bind{α β:Type}:R α→(α→R β)→R β
 |.ok a,f=>f a
 |.exc x,_=>.exc x
 |.bad,_=>.bad
@[simp] theorem aL{α β:Type}(a:α)(f:α→R β):(R.ok a).bind f=f a:=rfl
@[simp] theorem D4{α β:Type}(x:D)(f:α→R β):(R.exc x).bind f=.exc x:=rfl
@[simp] theorem D2{α β:Type}(f:α→R β):(R.bad:R α).bind f=.bad:=rfl
end R
inductive T where
 |d (x:D)|l (ts:List T)|m (ks:List Ky) (ts:List T)
 deriving Inhabited
noncomputable def T.own:T→Bool
 |.d _=>false
 |_=>true
inductive Sp where
 |tr (t:T)|al (i:Nat) (p:List Nat)
 deriving Inhabited
inductive Slot where
 |un|sh (d:D)|ol (xs:List D)|od (ks:List Ky) (vs:List D)|on (x:Sp)
 deriving Inhabited
noncomputable abbrev En:=List Slot
noncomputable abbrev Ex:=En→R D
noncomputable abbrev aJ:=En→R Bool
noncomputable abbrev cU:Nat:=16777216
mutual
@[simp] noncomputable def bq:D→D→Bool
 |.aF,.aF=>true
 |.bl a,.bl b=>a==b
 |.bl a,.int b=>(if a then 1 else 0)==b
 |.int a,.bl b=>a==(if b then 1 else 0)
 |.int a,.int b=>a==b
 |.str a,.str b=>decide (a=b)
 |.tup a,.tup b=>hV a b
 |.lst a,.lst b=>hV a b
 |_,_=>false
@[simp] noncomputable def hV:List D→List D→Bool
 |[],[]=>true
 |a::as,b::bs=>bq a b&&hV as bs
 |_,_=>false
end
@[simp] noncomputable def flat:D→Bool
 |.aF=>true
 |.bl _=>true
 |.int _=>true
 |.str _=>true
 |_=>false
mutual
noncomputable def lay:D→Bool
 |.aF=>true
 |.bl _=>true
 |.int _=>true
 |.str x=>x.cps.all (· <0x110000)
 |.tup xs=>cY xs
 |.lst xs=>cY xs
 |_=>false
noncomputable def cY:List D→Bool
 |[]=>true
 |x::xs=>lay x&&cY xs
end
mutual
noncomputable def dep:D→Nat
 |.tup xs=>ig xs+1
 |.lst xs=>ig xs+1
 |_=>0
noncomputable def ig:List D→Nat
 |[]=>0
 |x::xs=>max (dep x) (ig xs)
end
@[simp] noncomputable def qo:D→D→Bool
 |.aD _ _,.str _=>true
 |_,_=>false
@[simp] noncomputable def oN:D→D→Bool
 |.tup _,.tup []=>true
 |_,_=>false
noncomputable def dN(a b:D):Bool:=(flat a&&flat b)||oN a b||(lay a&&lay b&&decide (min (dep a) (dep b)≤60))
noncomputable def cP(a b:D):Bool:=dN a b||qo a b
theorem md{a b:D}(ha:flat a=true)(hb:flat b=true):dN a b=true:=by unfold dN;rw[ha,hb];rfl
theorem iy{a b:D}(ha:flat a=true)(hb:flat b=true):cP a b=true:=by unfold cP;rw[md ha hb];rfl
@[simp] theorem Dg(a b:Bool):dN (.bl a) (.bl b)=true:=md rfl rfl
@[simp] theorem DC(a b:Int):dN (.int a) (.int b)=true:=md rfl rfl
@[simp] theorem DN(a b:Str):dN (.str a) (.str b)=true:=md rfl rfl
@[simp] theorem Dr(a:List Ky)(c:List D)(b:Str):cP (.aD a c) (.str b)=true:=by unfold cP;simp
@[simp] theorem DI:cP .aF .aF=true:=iy rfl rfl
@[simp] theorem Dh(a b:Bool):cP (.bl a) (.bl b)=true:=iy rfl rfl
@[simp] theorem zW(a b:Int):cP (.int a) (.int b)=true:=iy rfl rfl
@[simp] theorem DH(a b:Str):cP (.str a) (.str b)=true:=iy rfl rfl
@[simp] theorem DP(b:Str):cP .aF (.str b)=true:=iy rfl rfl
@[simp] theorem DY(a:Int)(b:Str):cP (.int a) (.str b)=true:=iy rfl rfl
@[simp] theorem D5(a:Bool)(b:Str):cP (.bl a) (.str b)=true:=iy rfl rfl
@[simp] theorem Dp(a:List D):cP (.tup a) (.tup [])=true:=by unfold cP dN;simp
@[simp] noncomputable def truth:D→R Bool
 |.aF=>.ok false
 |.bl b=>.ok b
 |.int i=>.ok (i != 0)
 |.str x=>if x.length≤cU then .ok (x.length != 0)else .bad
 |.tup xs=>.ok (!xs.isEmpty)
 |.lst xs=>.ok (!xs.isEmpty)
 |.aD _ _=>.bad
 |.cI _ _ _=>.bad
noncomputable def bJ(n:Nat)(i:Int):Option Nat:=if 0≤i then(if i<n then some i.toNat else none)else if -(n:Int)≤i then some (i+n).toNat else none
noncomputable def bI{α:Type}(xs:List α)(i:Int):Option α:=(bJ xs.length i).bind fun j=>xs[j]?
noncomputable def aH(n d:Nat):Option Int→Nat
 |none=>d
 |some v=>if v<0 then(v+(n:Int)).toNat else min v.toNat n
noncomputable def cut{α:Type}(xs:List α)(lo hi:Option Int):List α:=(xs.drop (aH xs.length 0 lo)).take (aH xs.length xs.length hi - aH xs.length 0 lo)
noncomputable def inR(j:Int):Bool:=decide (-4611686018427387904≤j)&&decide (j<4611686018427387904)
noncomputable def v3(j:Int):Bool:=decide (0<j)&&decide (j<340282366920938463463374607431768211456)
noncomputable def uL(j:Int):Bool:=decide (0≤j)&&decide (j≤1000)
noncomputable def small(i:Int):Bool:=decide (-18446744073709551616<i)&&decide (i<18446744073709551616)
@[simp] noncomputable def aK:D→D→R D
 |.int i,.int j=>.ok (.int (i+j))
 |.str x,.str y=>if x.length+y.length≤cU then .ok (.str (x++y))else .bad
 |.lst x,.lst y=>if x.length+y.length≤cU then .ok (.lst (x++y))else .bad
 |.tup x,.tup y=>if x.isEmpty=false∧x.length+y.length≤cU then .ok (.tup (x++y))else .bad
 |_,_=>.bad
@[simp] noncomputable def cA:D→D→R D
 |.int i,.int j=>.ok (.int (i - j))
 |_,_=>.bad
@[simp] noncomputable def DO:D→D→R D
 |.int i,.int j=>if(small i||small j)=true then .ok (.int (i*j))else .bad
 |_,_=>.bad
@[simp] noncomputable def ng:D→D→R D
 |.lst x,.int j=>if 0≤j∧j<1000∧x.length≤1000 then .ok (.lst (List.replicate j.toNat x).flatten)else .bad
 |_,_=>.bad
@[simp] noncomputable def oDiv:D→D→R D
 |.int i,.int j=>if v3 j=true then .ok (.int (i / j))else .bad
 |_,_=>.bad
@[simp] noncomputable def oMod:D→D→R D
 |.int i,.int j=>if 0<j then .ok (.int (i % j))else .bad
 |_,_=>.bad
@[simp] noncomputable def Dx:D→D→R D
 |.int i,.int j=>if(uL j&&small i)=true then .ok (.int (i ^ j.toNat))else .bad
 |_,_=>.bad
@[simp] noncomputable def Dz:D→R D
 |.int i=>.ok (.int (-i))
 |_=>.bad
@[simp] noncomputable def oEq(x y:D):R D:=if cP x y=true then .ok (.bl (bq x y))else .bad
@[simp] noncomputable def eJ(x y:D):R D:=if dN x y=true then .ok (.bl (!bq x y))else .bad
@[simp] noncomputable def oLt:D→D→R D
 |.int i,.int j=>.ok (.bl (decide (i<j)))
 |_,_=>.bad
@[simp] noncomputable def oLe:D→D→R D
 |.int i,.int j=>.ok (.bl (decide (i≤j)))
 |_,_=>.bad
@[simp] noncomputable def g8:D→D→R D
 |.int i,.int j=>.ok (.bl (decide (j<i)))
 |_,_=>.bad
@[simp] noncomputable def iF:D→D→R D
 |.int i,.int j=>.ok (.bl (decide (j≤i)))
 |_,_=>.bad
@[simp] noncomputable def pP:D→Bool
 |.aF=>true
 |_=>false
@[simp] noncomputable def DJ(b:Bool):D→Bool
 |.bl c=>b==c
 |_=>false
@[simp] noncomputable def D0(d:D):R D:=.ok (.bl (pP d))
@[simp] noncomputable def DQ(d:D):R D:=.ok (.bl (!pP d))
@[simp] noncomputable def DB(b:Bool):D→R D
 |.bl c=>.ok (.bl (c==b))
 |_=>.bad
@[simp] noncomputable def Dy(b:Bool):D→R D
 |.bl c=>.ok (.bl (!(c==b)))
 |_=>.bad
noncomputable def keyOf:D→Option Ky
 |.int i=>some (.inl i)
 |.str x=>some (.inr x)
 |_=>none
noncomputable def cE(k:Ky):List Ky→List D→Option D
 |a::ks,v::vs=>if a=k then some v else cE k ks vs
 |_,_=>none
@[simp] noncomputable def kB:D→D→R D
 |.str _,.str _=>.bad
 |x,.lst ys=>if flat x=true∧ys.all flat=true then .ok (.bl (ys.any fun y=>bq y x))else .bad
 |x,.tup ys=>if flat x=true∧ys.all flat=true then .ok (.bl (ys.any fun y=>bq y x))else .bad
 | x,.aD ks vs=>match keyOf x with
   |some k=>.ok (.bl (cE k ks vs).isSome)
   |none=>.bad
 |_,_=>.bad
@[simp] noncomputable def jt:D→R D
 |.bl b=>.ok (.bl (!b))
 |_=>.bad
@[simp] noncomputable def kC(x y:D):R D:=(kB x y).bind jt
@[simp] noncomputable def gG:D→D→R D
 | .lst xs,.int i=>match bI xs i with
   |some v=>.ok v
   |none=>.bad
 | .tup xs,.int i=>match bI xs i with
   |some v=>.ok v
   |none=>.bad
 | .str x,.int i=>if x.length≤cU then match bI x.cps.toList i with
   |some c=>.ok (.str ⟨#[c]⟩)
   |none=>.bad else .bad
 |_,_=>.bad
@[simp] noncomputable def mq:D→D→R D
 | .aD ks vs,k=>match keyOf k with
   | some q=>match cE q ks vs with
     |some v=>.ok v
     |none=>.bad
   |none=>.bad
 |_,_=>.bad
@[simp] noncomputable def aV:D→D→R D
 |.lst xs,k=>gG (.lst xs) k
 |.tup xs,k=>gG (.tup xs) k
 |.str x,k=>gG (.str x) k
 |.aD ks vs,k=>mq (.aD ks vs) k
 |_,_=>.bad
@[simp] noncomputable def iD(lo hi:Option Int):D→R D
 |.lst xs=>.ok (.lst (cut xs lo hi))
 |.tup xs=>if aH xs.length 0 lo=0∧aH xs.length xs.length hi=xs.length then .bad else .ok (.tup (cut xs lo hi))
 |_=>.bad
@[simp] noncomputable def cg:D→R D
 |.lst xs=>.ok (.int xs.length)
 |.tup xs=>.ok (.int xs.length)
 |.str x=>if x.length≤cU then .ok (.int x.length)else .bad
 |_=>.bad
inductive Ty where
 |int|bool|str|tuple|list|dict
@[simp] noncomputable def gC:Ty→D→R D
 |.int,.int _=>.ok (.bl true)
 |.int,.bl _=>.ok (.bl true)
 |.bool,.bl _=>.ok (.bl true)
 |.str,.str _=>.ok (.bl true)
 |.tuple,.tup _=>.ok (.bl true)
 |.list,.lst _=>.ok (.bl true)
 |.dict,.aD _ _=>.ok (.bl true)
 |_,.cI _ _ _=>.bad
 |_,_=>.ok (.bl false)
@[simp] noncomputable def fE:D→R D
 |.lst xs=>.ok (.lst xs)
 |.tup xs=>.ok (.lst xs)
 |_=>.bad
@[simp] noncomputable def mQ:D→R D
 |.lst xs=>.ok (.tup xs)
 |.tup xs=>.ok (.tup xs)
 |_=>.bad
noncomputable def allB:List D→R D
 |[]=>.ok (.bl true)
 | .bl b::r=>(allB r).bind fun z=>match z with
   |.bl k=>.ok (.bl (b&&k))
   |_=>.bad
 |_=>.bad
@[simp] noncomputable def DZ:D→R D
 |.lst xs=>allB xs
 |_=>.bad
@[simp] noncomputable def ic:D→R D
 |.int i=>.ok (.int i)
 |.bl b=>.ok (.int (if b then 1 else 0))
 |_=>.bad
@[simp] noncomputable def Dv:D→R D
 |.int i=>if 0≤i∧i<10 ^ 100 then .ok (.str (Str.ofString (toString i)))else .bad
 |_=>.bad
@[simp] noncomputable def D3:D→D→R D
 |.int i,.int j=>.ok (.int (if j<i then j else i))
 |_,_=>.bad
noncomputable def findS(x:List Nat):Nat→List Nat→Option Nat
 |k,[]=>if x=[]then some k else none
 |k,c::r=>if(c::r).take x.length=x then some k else findS x (k+1) r
@[simp] noncomputable def C9:D→D→R D
 | .str y,.str x=>.ok (.int (match findS x.cps.toList 0 y.cps.toList with
   |some k=>(k:Int)
   |none=> -1))
 |_,_=>.bad
noncomputable def oJ(x:D):Nat→List D→R D
 |_,[]=>.bad
 |k,y::r=>if bq y x=true then .ok (.int k)else oJ x (k+1) r
@[simp] noncomputable def Dl:D→D→R D
 |.tup ys,x=>if flat x=true∧ys.all flat=true then oJ x 0 ys else .bad
 |.lst ys,x=>if flat x=true∧ys.all flat=true then oJ x 0 ys else .bad
 |_,_=>.bad
noncomputable def strsOf:List D→Option (List Str)
 |[]=>some []
 |.str x::r=>(strsOf r).map (x:: ·)
 |_=>none
@[simp] noncomputable def Du:D→D→R D
 | .str x,.lst ys=>match strsOf ys with
   |some zs=>if(Str.join x zs).length≤cU then .ok (.str (Str.join x zs))else .bad
   |none=>.bad
 |_,_=>.bad
@[simp] noncomputable def aa(i:Nat):Ex:=fun ρ=>match ρ[i]? with
 |some (.sh d)=>.ok d
 |_=>.bad
@[simp] noncomputable def eC(d:D):Ex:=fun _=>.ok d
@[simp] noncomputable def e1(g:D→R D)(a:Ex):Ex:=fun ρ=>(a ρ).bind g
@[simp] noncomputable def e2(g:D→D→R D)(a b:Ex):Ex:=fun ρ=>(a ρ).bind fun x=>(b ρ).bind fun y=>g x y
@[simp] noncomputable def jP(a b:Ex):Ex:=fun ρ=>(a ρ).bind fun x=>match x with
 |.bl true=>b ρ
 |.bl false=>.ok (.bl false)
 |_=>.bad
@[simp] noncomputable def Dm(a b:Ex):Ex:=fun ρ=>(a ρ).bind fun x=>match x with
 |.bl true=>.ok (.bl true)
 |.bl false=>b ρ
 |_=>.bad
@[simp] noncomputable def DX(c:aJ)(a b:Ex):Ex:=fun ρ=>(c ρ).bind fun t=>if t=true then a ρ else b ρ
@[simp] noncomputable def eList:List Ex→En→R (List D)
 |[],_=>.ok []
 |e::es,ρ=>(e ρ).bind fun x=>(eList es ρ).bind fun xs=>.ok (x::xs)
@[simp] noncomputable def gf(es:List Ex):Ex:=fun ρ=>(eList es ρ).bind fun xs=>.ok (.tup xs)
@[simp] noncomputable def bD(es:List Ex):Ex:=fun ρ=>(eList es ρ).bind fun xs=>.ok (.lst xs)
@[simp] noncomputable def aB(f:List D→R D)(es:List Ex):Ex:=fun ρ=>(eList es ρ).bind f
@[simp] noncomputable def o5(ks:List Ky)(es:List Ex):Ex:=fun ρ=>(eList es ρ).bind fun xs=>.ok (.aD ks xs)
@[simp] noncomputable def gS:Option Ex→En→R (Option Int)
 |none,_=>.ok none
 | some e,ρ=>(e ρ).bind fun x=>match x with
   |.int i=>.ok (some i)
   |_=>.bad
@[simp] noncomputable def cC(a:Ex)(lo hi:Option Ex):Ex:=fun ρ=>(a ρ).bind fun x=>(gS lo ρ).bind fun l=>(gS hi ρ).bind fun u=>iD l u x
@[simp] noncomputable def tV(a:Ex):aJ:=fun ρ=>(a ρ).bind truth
@[simp] noncomputable def dU(a b:aJ):aJ:=fun ρ=>(a ρ).bind fun t=>if t=true then b ρ else .ok false
@[simp] noncomputable def dS(a b:aJ):aJ:=fun ρ=>(a ρ).bind fun t=>if t=true then .ok true else b ρ
@[simp] noncomputable def dY(a:aJ):aJ:=fun ρ=>(a ρ).bind fun t=>.ok (!t)
@[simp] noncomputable def DG(i:Nat):Ex:=fun ρ=>match ρ[i]? with
 |some (.ol xs)=>.ok (.int xs.length)
 |some (.od ks _)=>.ok (.int ks.length)
 |_=>.bad
@[simp] noncomputable def DT(i:Nat)(e:Ex):Ex:=fun ρ=>(e ρ).bind fun x=>match ρ[i]? with
 |some (.ol xs)=>aV (.lst xs) x
 |some (.od ks vs)=>mq (.aD ks vs) x
 |_=>.bad
@[simp] noncomputable def cO(i:Nat):Ex:=fun ρ=>match ρ[i]? with
 |some (.ol xs)=>.ok (.int xs.length)
 |_=>.bad
@[simp] noncomputable def gR(i:Nat)(e:Ex):Ex:=fun ρ=>(e ρ).bind fun x=>match ρ[i]? with
 |some (.ol xs)=>gG (.lst xs) x
 |_=>.bad
noncomputable abbrev bj:=En→R (List D)
@[simp] noncomputable def items:D→R (List D)
 |.lst xs=>.ok xs
 |.tup xs=>.ok xs
 |.str x=>.ok (x.cps.toList.map fun c=>.str ⟨#[c]⟩)
 |_=>.bad
@[simp] noncomputable def ip(a:Ex):bj:=fun ρ=>(a ρ).bind items
noncomputable def bB(i j:Int):List D:=(List.range (j - i).toNat).map fun(k:Nat)=>.int (i+(k:Int))
@[simp] noncomputable def dB(a:Ex):bj:=fun ρ=>(a ρ).bind fun x=>match x with
 |.int j=>if inR j=true then .ok (bB 0 j)else .bad
 |_=>.bad
@[simp] noncomputable def ix(a b:Ex):bj:=fun ρ=>(a ρ).bind fun x=>(b ρ).bind fun y=>match x,y with
 |.int i,.int j=>if(inR i&&inR j)=true then .ok (bB i j)else .bad
 |_,_=>.bad
@[simp] noncomputable def qm:List D→List D→List D
 |x::xs,y::ys=>.tup [x,y]::qm xs ys
 |_,_=>[]
@[simp] noncomputable def DW(a b:Ex):bj:=fun ρ=>(a ρ).bind fun x=>(b ρ).bind fun y=>(items x).bind fun xs=>(items y).bind fun ys=>.ok (qm xs ys)
@[simp] noncomputable def qH:Nat→List D→List D
 |_,[]=>[]
 |k,x::xs=>.tup [.int k,x]::qH (k+1) xs
@[simp] noncomputable def D9(a:Ex):bj:=fun ρ=>(a ρ).bind fun x=>(items x).bind fun xs=>.ok (qH 0 xs)
noncomputable abbrev bo:=D→En→R En
@[simp] noncomputable def ar(i:Nat):bo:=fun d ρ=>.ok (ρ.set i (.sh d))
@[simp] noncomputable def ck:List Nat→List D→En→R En
 |[],[],ρ=>.ok ρ
 |i::is,d::ds,ρ=>ck is ds (ρ.set i (.sh d))
 |_,_,_=>.bad
@[simp] noncomputable def gu(is:List Nat):bo:=fun d ρ=>match d with
 |.tup ds=>ck is ds ρ
 |_=>.bad
@[simp] noncomputable def pq:Option Slot→Slot
 |some (.sh d)=>.sh d
 |_=>.un
@[simp] noncomputable def frees(ρ:En)(fv:List Nat):En:=fv.map fun i=>pq ρ[i]?
noncomputable def cM(tg:bo)(cs:List aJ)(el:Ex)(ρ:En):List D→R (List D)
 |[]=>.ok []
 | d::ds=>(tg d ρ).bind fun ρ1=>(hU cs ρ1).bind fun t=>
   if t=true then(el ρ1).bind fun y=>(cM tg cs el ρ ds).bind fun ys=>.ok (y::ys)else cM tg cs el ρ ds
where hU:List aJ→En→R Bool
 |[],_=>.ok true
 |c::cs,ρ=>(c ρ).bind fun t=>if t=true then hU cs ρ else .ok false
@[simp] noncomputable def cD(it:bj)(n:Nat)(fv:List Nat)(tg:bo)(cs:List aJ)(el:Ex):Ex:=fun ρ=>(it ρ).bind fun ds=>
 if ds.length≤cU then(cM tg cs el (List.replicate n .un++frees ρ fv) ds).bind fun ys=>.ok (.lst ys)else .bad
inductive Fl where
 |next (ρ:En)|ret (d:D)|brk (ρ:En)|cont (ρ:En)|cX (d:D)
noncomputable abbrev Sm:=En→R Fl
@[simp] noncomputable def cH:Sm:=fun ρ=>.ok (.next ρ)
@[simp] noncomputable def sG(a b:Sm):Sm:=fun ρ=>(a ρ).bind fun f=>match f with
 |.next ρ'=>b ρ'
 |f=>.ok f
@[simp] noncomputable def aw:List Sm→Sm
 |[]=>cH
 |a::r=>sG a (aw r)
@[simp] noncomputable def cF(c:aJ)(a b:Sm):Sm:=fun ρ=>(c ρ).bind fun t=>if t=true then a ρ else b ρ
@[simp] noncomputable def aR(g:bo)(e:Ex):Sm:=fun ρ=>(e ρ).bind fun d=>(g d ρ).bind fun ρ'=>.ok (.next ρ')
@[simp] noncomputable def bC(e:Ex):Sm:=fun ρ=>(e ρ).bind fun d=>.ok (.ret d)
@[simp] noncomputable def DD:Sm:=fun _=>.ok (.ret .aF)
@[simp] noncomputable def Dn(e:Ex):Sm:=fun ρ=>(e ρ).bind fun _=>.ok (.next ρ)
@[simp] noncomputable def Dw:Sm:=fun _=>.bad
@[simp] noncomputable def dw(i:Nat)(e:Ex):Sm:=fun ρ=>(e ρ).bind fun d=>match d with
 |.lst xs=>.ok (.next (ρ.set i (.ol xs)))
 |_=>.bad
@[simp] noncomputable def oM(i:Nat)(e:Ex):Sm:=fun ρ=>(e ρ).bind fun d=>match d with
 |.aD ks vs=>.ok (.next (ρ.set i (.od ks vs)))
 |_=>.bad
@[simp] noncomputable def gg(i:Nat):Sm:=fun ρ=>match ρ[i]? with
 |some (.ol xs)=>.ok (.next (ρ.set i (.sh (.lst xs))))
 |some (.od ks vs)=>.ok (.next (ρ.set i (.sh (.aD ks vs))))
 |_=>.bad
@[simp] noncomputable def gT(i:Nat)(e:Ex):Sm:=fun ρ=>(e ρ).bind fun d=>match ρ[i]? with
 |some (.ol xs)=>if xs.length<cU then .ok (.next (ρ.set i (.ol (xs++[d]))))else .bad
 |_=>.bad
@[simp] noncomputable def ft(i:Nat)(k e:Ex):Sm:=fun ρ=>(e ρ).bind fun d=>(k ρ).bind fun q=>match ρ[i]?,q with
 | some (.ol xs),.int j=>match bJ xs.length j with
   |some m=>.ok (.next (ρ.set i (.ol (xs.set m d))))
   |none=>.bad
 |_,_=>.bad
noncomputable def putK(k:Ky)(d:D):List Ky→List D→List Ky×List D
 |a::ks,v::vs=>if a=k then(a::ks,d::vs)else((a::(putK k d ks vs).1),(v::(putK k d ks vs).2))
 |_,_=>([k],[d])
@[simp] noncomputable def DV(i:Nat)(k e:Ex):Sm:=fun ρ=>(e ρ).bind fun d=>(k ρ).bind fun q=>match ρ[i]?,keyOf q with
 |some (.od ks vs),some y=>if ks.length<1000 then .ok (.next (ρ.set i (.od (putK y d ks vs).1 (putK y d ks vs).2)))else .bad
 |_,_=>.bad
noncomputable def forL(tg:bo)(body:Sm):List D→En→R Fl
 |[],ρ=>.ok (.next ρ)
 | d::ds,ρ=>(tg d ρ).bind fun ρ1=>(body ρ1).bind fun f=>match f with
   |.next ρ2=>forL tg body ds ρ2
   |.cont ρ2=>forL tg body ds ρ2
   |.brk ρ2=>.ok (.next ρ2)
   |.ret d=>.ok (.ret d)
   |.cX d=>.ok (.cX d)
@[simp] noncomputable def bu(it:bj)(tg:bo)(body:Sm):Sm:=fun ρ=>(it ρ).bind fun ds=>forL tg body ds ρ
@[simp] noncomputable def fn(n:Nat)(body:Sm):List D→R D:=fun ds=>(body (ds.map .sh++List.replicate (n - ds.length) .un)).bind fun f=>match f with
 |.ret d=>.ok d
 |.next _=>.ok .aF
 |_=>.bad
@[simp] noncomputable def mR(i:Nat):Sm:=fun ρ=>match ρ[i]? with
 |some (.ol xs)=>.ok (.cX (.lst xs))
 |_=>.bad
@[simp] noncomputable def dX(n:Nat)(body:Sm):List D→R D:=fun ds=>(body (ds.map .sh++List.replicate (n - ds.length) .un)).bind fun f=>match f with
 |.cX (.lst xs)=>.ok (.lst xs)
 |_=>.bad
end PL
namespace PL
open PySem PySem.Spec
open L2 (V Hp HO Cx PE PT PW PA PS bK St VK TE TT TA TS TI Inv RelV Vals Rd aM aW upd af Key XK Ends)
structure Md where
 K:PySem.W.Frag
 P:Program
 w:World
noncomputable abbrev av(X:Cx):Md:=⟨X.K,X.prog,X.w⟩
noncomputable def eI(M:Md)(H:Hp)(F:Addr→Prop)(a:Addr)(xs:List V):Prop:=
 (¬F a∧Rd H a (.lst xs))∨∃(o:Obj) (its:Array Value) (n:Nat),M.K.lookup a=some o∧o.cls=.type "list"∧o.dict=none∧o.data=.seq its n∧its.size≤sizeLine∧Vals xs its.toList
noncomputable def eM(M:Md)(H:Hp)(F:Addr→Prop)(a:Addr)(xs:List V):Prop:=
 (¬F a∧Rd H a (.tup xs))∨∃(o:Obj) (its:Array Value) (n:Nat),M.K.lookup a=some o∧o.cls=.type "tuple"∧o.data=.seq its n∧its.size≤sizeLine∧Vals xs its.toList
noncomputable def fj(M:Md)(H:Hp)(F:Addr→Prop)(a:Addr)(kvs:List (Key×V)):Prop:=
 (¬F a∧∃ob,H a=some (.frz ob (.dK kvs)))∨∃(o:Obj) (es:Array DictEntry) (ep:Nat) (vs:List (Key×Value)),M.K.lookup a=some o∧o.ExactDict∧o.data=.dict es ep∧KeysOf (L2.bR M.P M.w) es∧Pairs (L2.bR M.P M.w) es.toList vs∧
   (vs.map (·.1)).Nodup∧L2.KV kvs vs∧kvs.length≤sizeLine∧(a==sysModules)=false
theorem eI.sq{M:Md}{H:Hp}{F:Addr→Prop}{a:Addr}{xs:List V}(h:eI M H F a xs):aM M.K H a xs:=h.elim (fun h=>.inl h.2) .inr
theorem eM.sq{M:Md}{H:Hp}{F:Addr→Prop}{a:Addr}{xs:List V}(h:eM M H F a xs):aW M.K H a xs:=h.elim (fun h=>.inl h.2) .inr
noncomputable def wN(a C:Addr):HO:=.ext fun h=>∃o,h.get? a=some o∧o.cls=.ref C∧∃vs,o.data=.fields vs
mutual
noncomputable def Rep(M:Md)(H:Hp)(F:Addr→Prop):D→V→Prop
 |.aF,v=>v=.aF
 |.bl b,v=>v=.bl b
 |.int i,v=>v=.int i
 |.str x,v=>v=.str x
 |.tup ds,v=>∃a xs,v=.ref a∧eM M H F a xs∧ab M H F ds xs
 |.lst ds,v=>∃a xs,v=.ref a∧eI M H F a xs∧ab M H F ds xs
 |.aD ks ds,v=>∃a xs,v=.ref a∧fj M H F a (ks.zip xs)∧ks.length=xs.length∧ab M H F ds xs
 |.cI c ns ds,v=>∃(a:Addr) (_u:Unit),v=.ref a∧¬F a∧((ns=[]∧∃C,H a=some (wN a C)∧PySem.W.nsIn M.K mainGlobals c=some (some (.ref C)))∨(ns≠[]∧∃o xs,H a=some (.frz o (.tup xs))∧o.dict=none∧ab M H F ds xs))
noncomputable def ab(M:Md)(H:Hp)(F:Addr→Prop):List D→List V→Prop
 |[],xs=>xs=[]
 |d::ds,xs=>∃x r,xs=x::r∧Rep M H F d x∧ab M H F ds r
end
noncomputable def Mv(F:Addr→Prop)(H:Hp)(F':Addr→Prop)(H':Hp):Prop:=∀a o,¬F a→H a=some o→¬F' a∧H' a=some o
theorem Mv.same{F:Addr→Prop}{H H':Hp}(h:af H H'):Mv F H F H':=fun a o n e=>⟨n,h a o e⟩
theorem Mv.trans{F F1 F2:Addr→Prop}{H H1 H2:Hp}(a:Mv F H F1 H1)(b:Mv F1 H1 F2 H2):Mv F H F2 H2:=fun c o n e=>b c o (a c o n e).1 (a c o n e).2
section
variable{M:Md}{H H':Hp}{F F':Addr→Prop}{a:Addr}{xs:List V}
theorem qy(m:Mv F H F' H'){u:HO}(n:¬F a)(h:Rd H a u):¬F' a∧Rd H' a u:=by
 rcases h with h|⟨o,h⟩
 ·exact⟨(m _ _ n h).1,.inl (m _ _ n h).2⟩
 ·exact⟨(m _ _ n h).1,.inr ⟨o,(m _ _ n h).2⟩⟩
theorem eI.mv(m:Mv F H F' H')(h:eI M H F a xs):eI M H' F' a xs:=by
 rcases h with⟨n,h⟩|h
 ·exact .inl (qy m n h)
 ·exact .inr h
theorem eM.mv(m:Mv F H F' H')(h:eM M H F a xs):eM M H' F' a xs:=by
 rcases h with⟨n,h⟩|h
 ·exact .inl (qy m n h)
 ·exact .inr h
theorem fj.mv{kvs:List (Key×V)}(m:Mv F H F' H')(h:fj M H F a kvs):fj M H' F' a kvs:=by
 rcases h with⟨n,ob,h⟩|h
 ·exact .inl ⟨(m _ _ n h).1,ob,(m _ _ n h).2⟩
 ·exact .inr h
mutual
theorem Rep.mv(m:Mv F H F' H'):∀ {d:D} {v:V},Rep M H F d v→Rep M H' F' d v
 |.aF,_,h=>by simp only[Rep]at h ⊢;exact h
 |.bl _,_,h=>by simp only[Rep]at h ⊢;exact h
 |.int _,_,h=>by simp only[Rep]at h ⊢;exact h
 |.str _,_,h=>by simp only[Rep]at h ⊢;exact h
 | .tup ds,_,h=>by
   simp only[Rep]at h ⊢
   obtain⟨a,xs,e,t,r⟩:=h
   exact⟨a,xs,e,t.mv m,ab.mv m r⟩
 | .lst ds,_,h=>by
   simp only[Rep]at h ⊢
   obtain⟨a,xs,e,t,r⟩:=h
   exact⟨a,xs,e,t.mv m,ab.mv m r⟩
 | .aD ks ds,_,h=>by
   simp only[Rep]at h ⊢
   obtain⟨a,xs,e,t,l,r⟩:=h
   exact⟨a,xs,e,t.mv m,l,ab.mv m r⟩
 | .cI _ _ _,_,h=>by
   simp only[Rep]at h ⊢
   obtain⟨a,_,e,n,h⟩:=h
   rcases h with⟨z,C,q,k⟩|⟨z,o,xs,q,hd,r⟩
   ·exact⟨a,(),e,(m _ _ n q).1,.inl ⟨z,C,(m _ _ n q).2,k⟩⟩
   ·exact⟨a,(),e,(m _ _ n q).1,.inr ⟨z,o,xs,(m _ _ n q).2,hd,ab.mv m r⟩⟩
theorem ab.mv(m:Mv F H F' H'):∀ {ds:List D} {xs:List V},ab M H F ds xs→ab M H' F' ds xs
 |[],_,h=>by simp only[ab]at h ⊢;exact h
 | d::ds,_,h=>by
   simp only[ab]at h ⊢
   obtain⟨x,r,e,h1,h2⟩:=h
   exact⟨x,r,e,Rep.mv m h1,ab.mv m h2⟩
end
theorem ab.length:∀ {ds:List D} {xs:List V},ab M H F ds xs→ds.length=xs.length
 |[],_,h=>by simp only[ab]at h;subst h;rfl
 | d::ds,_,h=>by
   simp only[ab]at h
   obtain⟨x,r,rfl,_,h2⟩:=h
   simp[ab.length h2]
theorem ab.get:∀ {ds:List D} {xs:List V} {i:Nat} {d:D},ab M H F ds xs→ds[i]? =some d→∃x,xs[i]? =some x∧Rep M H F d x
 |[],_,_,_,_,e=>by simp at e
 | d::ds,_,0,_,h,e=>by
   simp only[ab]at h
   obtain⟨x,r,rfl,h1,_⟩:=h
   simp at e;subst e
   exact⟨x,rfl,h1⟩
 | d::ds,_,i+1,_,h,e=>by
   simp only[ab]at h
   obtain⟨x,r,rfl,_,h2⟩:=h
   obtain⟨y,e1,h3⟩:=ab.get h2 (by simpa using e)
   exact⟨y,by simpa using e1,h3⟩
theorem ab.append:∀ {ds es:List D} {xs ys:List V},ab M H F ds xs→ab M H F es ys→ab M H F (ds++es) (xs++ys)
 |[],_,_,_,h,g=>by simp only[ab]at h;subst h;exact g
 | d::ds,_,_,_,h,g=>by
   simp only[ab]at h
   obtain⟨x,r,rfl,h1,h2⟩:=h
   simp only[List.cons_append,ab]
   exact⟨x,_,rfl,h1,ab.append h2 g⟩
theorem ab.take:∀ {ds:List D} {xs:List V} (n:Nat),ab M H F ds xs→ab M H F (ds.take n) (xs.take n)
 |_,_,0,_=>by simp[ab]
 |[],_,n+1,h=>by simp only[ab]at h;subst h;simp[ab]
 | d::ds,_,n+1,h=>by
   simp only[ab]at h
   obtain⟨x,r,rfl,h1,h2⟩:=h
   simp only[List.take_succ_cons,ab]
   exact⟨x,_,rfl,h1,ab.take n h2⟩
theorem ab.drop:∀ {ds:List D} {xs:List V} (n:Nat),ab M H F ds xs→ab M H F (ds.drop n) (xs.drop n)
 |_,_,0,h=>h
 |[],_,n+1,h=>by simp only[ab]at h;subst h;simp[ab]
 | d::ds,_,n+1,h=>by
   simp only[ab]at h
   obtain⟨x,r,rfl,h1,h2⟩:=h
   exact ab.drop n h2
theorem ab.nil:ab M H F [] []:=by simp[ab]
theorem ab.cons{d:D}{x:V}{ds:List D}(h:Rep M H F d x)(t:ab M H F ds xs):ab M H F (d::ds) (x::xs):=by
 simp only[ab];exact⟨_,_,rfl,h,t⟩
theorem ab.set:∀ {ds:List D} {xs:List V} {d:D} {x:V} (i:Nat),Rep M H F d x→ab M H F ds xs→ab M H F (ds.set i d) (xs.set i x)
 |[],_,_,_,_,_,h=>by simp only[ab]at h;subst h;exact ab.nil
 | d::ds,_,_,_,0,g,h=>by
   simp only[ab]at h
   obtain⟨y,r,rfl,_,h2⟩:=h
   exact ab.cons g h2
 | d::ds,_,_,_,i+1,g,h=>by
   simp only[ab]at h
   obtain⟨y,r,rfl,h1,h2⟩:=h
   exact ab.cons h1 (ab.set i g h2)
end
noncomputable def aX(ρ:En)(i:Nat):Prop:=(∃ds,ρ[i]? =some (.ol ds))∨∃ks ds,ρ[i]? =some (.od ks ds)
mutual
noncomputable def ah(M:Md)(H:Hp)(F:Addr→Prop):T→V→List Addr→Prop
 |.d x,v,as=>as=[]∧Rep M H F x v
 |.l ts,v,as=>∃a xs bs,v=.ref a∧as=a::bs∧F a∧H a=some (.lst xs)∧ak M H F ts xs bs
 |.m ks ts,v,as=>∃a xs bs,v=.ref a∧as=a::bs∧F a∧H a=some (.dK (ks.zip xs))∧ks.length=xs.length∧ak M H F ts xs bs
noncomputable def ak(M:Md)(H:Hp)(F:Addr→Prop):List T→List V→List Addr→Prop
 |[],xs,as=>xs=[]∧as=[]
 |t::ts,xs,as=>∃x r bs cs,xs=x::r∧as=bs++cs∧ah M H F t x bs∧ak M H F ts r cs
end
mutual
theorem ah.mv{M:Md}{H H':Hp}{F F':Addr→Prop}(m:Mv F H F' H'):∀ {t:T} {v:V} {as:List Addr},(∀b∈as,∀u,F b→H b=some u→F' b∧H' b=some u)→ah M H F t v as→ah M H' F' t v as
 | .d x,v,as,_,h=>by
   simp only[ah]at h ⊢
   exact⟨h.1,h.2.mv m⟩
 | .l ts,v,as,k,h=>by
   simp only[ah]at h ⊢
   obtain⟨a,xs,bs,e1,rfl,f,e2,r⟩:=h
   obtain⟨f',e'⟩:=k a List.mem_cons_self _ f e2
   exact⟨a,xs,bs,e1,rfl,f',e',ak.mv m (fun b hb=>k b (List.mem_cons_of_mem _ hb)) r⟩
 | .m ks ts,v,as,k,h=>by
   simp only[ah]at h ⊢
   obtain⟨a,xs,bs,e1,rfl,f,e2,l,r⟩:=h
   obtain⟨f',e'⟩:=k a List.mem_cons_self _ f e2
   exact⟨a,xs,bs,e1,rfl,f',e',l,ak.mv m (fun b hb=>k b (List.mem_cons_of_mem _ hb)) r⟩
theorem ak.mv{M:Md}{H H':Hp}{F F':Addr→Prop}(m:Mv F H F' H'):∀ {ts:List T} {xs:List V} {as:List Addr},(∀b∈as,∀u,F b→H b=some u→F' b∧H' b=some u)→ak M H F ts xs as→ak M H' F' ts xs as
 |[],xs,as,_,h=>by simp only[ak]at h ⊢;exact h
 | t::ts,xs,as,k,h=>by
   simp only[ak]at h ⊢
   obtain⟨x,r,bs,cs,e1,rfl,h1,h2⟩:=h
   exact⟨x,r,bs,cs,e1,rfl,ah.mv m (fun b hb=>k b (List.mem_append_left _ hb)) h1,ak.mv m (fun b hb=>k b (List.mem_append_right _ hb)) h2⟩
end
mutual
theorem ah.det{M:Md}{H H':Hp}{F F':Addr→Prop}:∀ {t:T} {v:V} {as as':List Addr},ah M H F t v as→ah M H' F' t v as'→(∀b∈as,∀u,F b→H b=some u→H' b=some u)→as=as'
 | .d x,v,as,as',h,h',_=>by
   simp only[ah]at h h'
   rw[h.1,h'.1]
 | .l ts,v,as,as',h,h',k=>by
   simp only[ah]at h h'
   obtain⟨a,xs,bs,rfl,rfl,f,e2,r⟩:=h
   obtain⟨a',xs',bs',e1,rfl,f',e2',r'⟩:=h'
   cases e1
   have e3:=k a List.mem_cons_self _ f e2
   rw[e2']at e3
   cases e3
   rw[ak.det r r' fun b hb=>k b (List.mem_cons_of_mem _ hb)]
 | .m ks ts,v,as,as',h,h',k=>by
   simp only[ah]at h h'
   obtain⟨a,xs,bs,rfl,rfl,f,e2,l,r⟩:=h
   obtain⟨a',xs',bs',e1,rfl,f',e2',l',r'⟩:=h'
   cases e1
   have e3:=k a List.mem_cons_self _ f e2
   rw[e2']at e3
   have e4:ks.zip xs'=ks.zip xs:=by injection e3 with e3;injection e3
   have e5:xs'=xs:=by
     have h1:=congrArg (List.map Prod.snd) e4
     rw[List.map_snd_zip (by omega),List.map_snd_zip (by omega)]at h1
     exact h1
   subst e5
   rw[ak.det r r' fun b hb=>k b (List.mem_cons_of_mem _ hb)]
theorem ak.det{M:Md}{H H':Hp}{F F':Addr→Prop}:∀ {ts:List T} {xs:List V} {as as':List Addr},ak M H F ts xs as→ak M H' F' ts xs as'→(∀b∈as,∀u,F b→H b=some u→H' b=some u)→as=as'
 | [],xs,as,as',h,h',_=>by
   simp only[ak]at h h'
   rw[h.2,h'.2]
 | t::ts,xs,as,as',h,h',k=>by
   simp only[ak]at h h'
   obtain⟨x,r,bs,cs,rfl,rfl,h1,h2⟩:=h
   obtain⟨x',r',bs',cs',e1,rfl,h1',h2'⟩:=h'
   cases e1
   rw[ah.det h1 h1' fun b hb=>k b (List.mem_append_left _ hb),ak.det h2 h2' fun b hb=>k b (List.mem_append_right _ hb)]
end
mutual
theorem ah.fs{M:Md}{H:Hp}{F:Addr→Prop}:∀ {t:T} {v:V} {as:List Addr},ah M H F t v as→∀b∈as,F b∧∃u,H b=some u
 | .d x,v,as,h,b,hb=>by
   simp only[ah]at h
   rw[h.1]at hb;cases hb
 | .l ts,v,as,h,b,hb=>by
   simp only[ah]at h
   obtain⟨a,xs,bs,rfl,rfl,f,e2,r⟩:=h
   rcases List.mem_cons.mp hb with rfl|hb
   ·exact⟨f,_,e2⟩
   ·exact ak.fs r b hb
 | .m ks ts,v,as,h,b,hb=>by
   simp only[ah]at h
   obtain⟨a,xs,bs,rfl,rfl,f,e2,l,r⟩:=h
   rcases List.mem_cons.mp hb with rfl|hb
   ·exact⟨f,_,e2⟩
   ·exact ak.fs r b hb
theorem ak.fs{M:Md}{H:Hp}{F:Addr→Prop}:∀ {ts:List T} {xs:List V} {as:List Addr},ak M H F ts xs as→∀b∈as,F b∧∃u,H b=some u
 | [],xs,as,h,b,hb=>by
   simp only[ak]at h
   rw[h.2]at hb;cases hb
 | t::ts,xs,as,h,b,hb=>by
   simp only[ak]at h
   obtain⟨x,r,bs,cs,rfl,rfl,h1,h2⟩:=h
   rcases List.mem_append.mp hb with hb|hb
   ·exact ah.fs h1 b hb
   ·exact ak.fs h2 b hb
end
noncomputable def aA(H:Hp):T→V→List Nat→T→V→Prop
 |t,v,[],t',w=>t=t'∧v=w
 |.l ts,v,k::p,t',w=>∃a xs t1 x1,v=.ref a∧H a=some (.lst xs)∧ts[k]? =some t1∧xs[k]? =some x1∧aA H t1 x1 p t' w
 |.m ks ts,v,k::p,t',w=>∃a xs t1 x1,v=.ref a∧H a=some (.dK (ks.zip xs))∧ks.length=xs.length∧ts[k]? =some t1∧xs[k]? =some x1∧aA H t1 x1 p t' w
 |.d _,_,_::_,_,_=>False
theorem ak.get{M:Md}{H:Hp}{F:Addr→Prop}:∀ {ts:List T} {xs:List V} {as:List Addr} {k:Nat} {t:T} {x:V},ak M H F ts xs as→ts[k]? =some t→xs[k]? =some x→∃bs,ah M H F t x bs∧∀b∈bs,b∈as
 |[],_,_,_,_,_,_,e,_=>by simp at e
 | t::ts,xs,as,0,_,_,h,e,e'=>by
   simp only[ak]at h
   obtain⟨x,r,bs,cs,rfl,rfl,h1,h2⟩:=h
   cases e;cases e'
   exact⟨bs,h1,fun b hb=>List.mem_append_left _ hb⟩
 | t::ts,xs,as,k+1,_,_,h,e,e'=>by
   simp only[ak]at h
   obtain⟨x,r,bs,cs,rfl,rfl,h1,h2⟩:=h
   obtain⟨ds,h3,h4⟩:=ak.get h2 (by simpa using e) (by simpa using e')
   exact⟨ds,h3,fun b hb=>List.mem_append_right _ (h4 b hb)⟩
theorem aA.mv{M:Md}{H H':Hp}{F:Addr→Prop}:∀ {p:List Nat} {t:T} {v:V} {t':T} {w:V} {as:List Addr},ah M H F t v as→(∀b∈as,∀u,F b→H b=some u→H' b=some u)→aA H t v p t' w→aA H' t v p t' w
 | [],t,v,t',w,as,_,_,h=>by
   cases t<;>exact h
 | k::p,.l ts,v,t',w,as,r,hk,h=>by
   simp only[aA]at h ⊢
   simp only[ah]at r
   obtain⟨a,xs,t1,x1,rfl,e,e1,e2,h⟩:=h
   obtain⟨a',xs',bs,ea,rfl,f,e',rs⟩:=r
   cases ea
   have e9:xs=xs':=by rw[e']at e;injection e with e;injection e with e;exact e.symm
   subst e9
   obtain⟨ds,r1,sub⟩:=rs.get e1 e2
   exact⟨a,xs,t1,x1,rfl,hk a List.mem_cons_self _ f e',e1,e2,aA.mv r1 (fun b hb=>hk b (List.mem_cons_of_mem _ (sub b hb))) h⟩
 | k::p,.m ks ts,v,t',w,as,r,hk,h=>by
   simp only[aA]at h ⊢
   simp only[ah]at r
   obtain⟨a,xs,t1,x1,rfl,e,l,e1,e2,h⟩:=h
   obtain⟨a',xs',bs,ea,rfl,f,e',l',rs⟩:=r
   cases ea
   rw[e']at e
   have e5:xs'=xs:=by
     have e4:ks.zip xs'=ks.zip xs:=by injection e with e;injection e
     have h1:=congrArg (List.map Prod.snd) e4
     rw[List.map_snd_zip (by omega),List.map_snd_zip (by omega)]at h1
     exact h1
   subst e5
   obtain⟨ds,r1,sub⟩:=rs.get e1 e2
   exact⟨a,xs',t1,x1,rfl,hk a List.mem_cons_self _ f e',l,e1,e2,aA.mv r1 (fun b hb=>hk b (List.mem_cons_of_mem _ (sub b hb))) h⟩
 |k::p,.d _,v,t',w,as,_,_,h=>h.elim
noncomputable def dh(M:Md)(H:Hp)(F:Addr→Prop)(σ:St)(ρ:En)(i:Nat)(b:Addr):Prop:=∃t v as,ρ[i]? =some (.on (.tr t))∧σ[i]? =some (some v)∧ah M H F t v as∧b∈as
noncomputable def BC(M:Md)(H:Hp)(F:Addr→Prop)(σ:St)(ρ:En)(i:Nat):Sp→Prop
 |.tr t=>∃v as,σ[i]? =some (some v)∧ah M H F t v as∧as.Nodup
 |.al k p=>∀t,ρ[k]? =some (.on (.tr t))→∃v w t',σ[k]? =some (some v)∧σ[i]? =some (some w)∧aA H t v p t' w∧t'.own=true
noncomputable def d5(M:Md)(H:Hp)(F:Addr→Prop)(σ:St)(ρ:En):Prop:=∀i x,ρ[i]? =some (.on x)→
 BC M H F σ ρ i x∧(∀b,dh M H F σ ρ i b→∀j,aX ρ j→σ[j]? ≠some (some (.ref b)))∧∀t,x=.tr t→∀j t',ρ[j]? =some (.on (.tr t'))→j=i
theorem d5.no{M:Md}{H:Hp}{F:Addr→Prop}{σ:St}{ρ:En}(h:∀(i:Nat) x,ρ[i]? ≠some (.on x)):d5 M H F σ ρ:=fun i x e=>absurd e (h i x)
theorem d5.back{M:Md}{H H':Hp}{F F':Addr→Prop}{σ σ':St}{ρ ρ':En}{i:Nat}{b:Addr}(r:d5 M H F σ ρ)(hr:∀x,ρ'[i]? =some (.on x)→ρ[i]? =some (.on x))(hs:σ'[i]? =σ[i]?)
   (hk:∀a u,dh M H F σ ρ i a→F a→H a=some u→H' a=some u) (h:dh M H' F' σ' ρ' i b):dh M H F σ ρ i b:=by
 obtain⟨t,v,as,e,ev,tr,hb⟩:=h
 have e0:=hr _ e
 obtain⟨⟨v',as',ev',tr',nd⟩,_,_⟩:=r i _ e0
 rw[hs,ev']at ev
 cases ev
 have:=ah.det tr' tr fun c hc u f hu=>hk c u ⟨t,v,as',e0,ev',tr',hc⟩ f hu
 subst this
 exact⟨t,v,as',e0,ev',tr',hb⟩
theorem d5.mv{M:Md}{H H':Hp}{F F':Addr→Prop}{σ σ':St}{ρ ρ':En}(r:d5 M H F σ ρ)(m:Mv F H F' H')(hρ:∀(j:Nat) x,ρ'[j]? =some (.on x)→ρ[j]? =some (.on x)∧σ'[j]? =σ[j]?)
   (hk:∀(j:Nat) x b u,ρ'[j]? =some (.on x)→dh M H F σ ρ j b→F b→H b=some u→F' b∧H' b=some u)
   (ho:∀(j:Nat) x b,ρ'[j]? =some (.on x)→dh M H F σ ρ j b→∀k:Nat,aX ρ' k→σ'[k]? ≠some (some (.ref b))):d5 M H' F' σ' ρ':=fun i x e=>by
 obtain⟨e0,es⟩:=hρ i x e
 obtain⟨h1,h2,h3⟩:=r i x e0
 refine⟨?_,fun b hb k ok=>?_,fun t ht j t' ej=>h3 t ht j t' (hρ j _ ej).1⟩
 · cases x with
   | tr t=>
     obtain⟨v,as,ev,tr,nd⟩:=h1
     exact⟨v,as,by rw[es];exact ev,tr.mv m fun b hb u f hu=>hk i _ b u e ⟨t,v,as,e0,ev,tr,hb⟩ f hu,nd⟩
   | al k p=>
     intro t et
     obtain⟨ek,ek2⟩:=hρ k _ et
     obtain⟨v,w,t',e1,e2,at',ow⟩:=h1 t ek
     obtain⟨⟨v',as,e1',tr,_⟩,_,_⟩:=r k _ ek
     rw[e1]at e1'
     cases e1'
     exact⟨v,w,t',by rw[ek2];exact e1,by rw[es];exact e2,at'.mv tr fun b hb u f hu=>(hk k _ b u et ⟨t,v,as,ek,e1,tr,hb⟩ f hu).2,ow⟩
 ·refine ho i x b e (r.back (fun y ey=>(hρ i y ey).1) es (fun c u hc f hu=>(hk i x c u e hc f hu).2) hb) k ok
theorem d5.f{M:Md}{H:Hp}{F:Addr→Prop}{σ:St}{ρ:En}{i:Nat}{b:Addr}(h:dh M H F σ ρ i b):F b∧∃u,H b=some u:=by
 obtain⟨t,v,as,e,ev,tr,hb⟩:=h
 exact tr.fs b hb
structure aO(M:Md)(H:Hp)(F:Addr→Prop)(σ:St)(ρ:En):Prop where
 len:ρ.length=σ.length
 aU:∀a,F a→∃o,H a=some o
 sh:∀(i:Nat) d,ρ[i]? =some (.sh d)→∃v,σ[i]? =some (some v)∧Rep M H F d v
 ol:∀(i:Nat) ds,ρ[i]? =some (.ol ds)→∃a xs,σ[i]? =some (some (.ref a))∧F a∧H a=some (.lst xs)∧ab M H F ds xs
 od:∀(i:Nat) ks ds,ρ[i]? =some (.od ks ds)→∃a xs,σ[i]? =some (some (.ref a))∧F a∧H a=some (.dK (ks.zip xs))∧ks.length=xs.length∧ab M H F ds xs
 bM:∀(i j:Nat) a,aX ρ i→aX ρ j→σ[i]? =some (some (.ref a))→σ[j]? =some (some (.ref a))→i=j
 on:d5 M H F σ ρ
section
variable{M:Md}{H H':Hp}{F F':Addr→Prop}{σ:St}{ρ:En}
theorem aO.same(r:aO M H F σ ρ)(h:af H H'):aO M H' F σ ρ where
 len:=r.len
 aU a f:=let⟨o,e⟩:=r.aU a f;⟨o,h _ _ e⟩
 sh i d e:=let⟨v,e1,q⟩:=r.sh i d e;⟨v,e1,q.mv (.same h)⟩
 ol i ds e:=let⟨a,xs,e1,f,e2,q⟩:=r.ol i ds e;⟨a,xs,e1,f,h _ _ e2,q.mv (.same h)⟩
 od i ks ds e:=let⟨a,xs,e1,f,e2,l,q⟩:=r.od i ks ds e;⟨a,xs,e1,f,h _ _ e2,l,q.mv (.same h)⟩
 bM:=r.bM
 on:=r.on.mv (.same h) (fun j xss e=>⟨e,rfl⟩) (fun j xss b u e hb f hu=>⟨f,h _ _ hu⟩) fun j xss b e hb k ok=>(r.on j xss e).2.1 b hb k ok
theorem get_set{α:Type}{l:List α}{i j:Nat}{x y:α}(h:(l.set i x)[j]? =some y):(i=j∧x=y∧i<l.length)∨(i≠j∧l[j]? =some y):=by
 by_cases e:i=j
 · subst e
   rw[List.getElem?_set_self']at h
   cases q:l[i]? with
   |none=>rw[q]at h;cases h
   | some z=>
     rw[q]at h
     obtain⟨hl,_⟩:=List.getElem?_eq_some_iff.mp q
     simp at h
     exact .inl ⟨rfl,h,hl⟩
 · rw[List.getElem?_set_ne e]at h
   exact .inr ⟨e,h⟩
theorem aO.lY{i:Nat}{d:D}{v:V}(r:aO M H F σ ρ)(h:Rep M H F d v):aO M H F (σ.set i (some v)) (ρ.set i (.sh d)) where
 len:=by simp[r.len]
 aU:=r.aU
 sh j e q:=by
   rcases get_set q with⟨rfl,hx,hl⟩|⟨hne,q⟩
   · cases hx
     exact⟨v,by rw[List.getElem?_set_self (by rw[←r.len];exact hl)],h⟩
   · obtain⟨w,e1,g⟩:=r.sh j e q
     exact⟨w,by rw[List.getElem?_set_ne hne];exact e1,g⟩
 ol j e q:=by
   rcases get_set q with⟨rfl,x,hl⟩|⟨hne,q⟩
   ·cases x
   · obtain⟨a,xs,e1,g⟩:=r.ol j e q
     exact⟨a,xs,by rw[List.getElem?_set_ne hne];exact e1,g⟩
 od j k e q:=by
   rcases get_set q with⟨rfl,x,hl⟩|⟨hne,q⟩
   ·cases x
   · obtain⟨a,xs,e1,g⟩:=r.od j k e q
     exact⟨a,xs,by rw[List.getElem?_set_ne hne];exact e1,g⟩
 bM j k a oj ok ej ek:=by
   have nj:i≠j:=by
     rintro rfl
     rcases oj with⟨ds,q⟩|⟨ks,ds,q⟩
     · rcases get_set q with⟨_,x,_⟩|⟨hne,_⟩
       ·cases x
       ·exact hne rfl
     · rcases get_set q with⟨_,x,_⟩|⟨hne,_⟩
       ·cases x
       ·exact hne rfl
   have nk:i≠k:=by
     rintro rfl
     rcases ok with⟨ds,q⟩|⟨ks,ds,q⟩
     · rcases get_set q with⟨_,x,_⟩|⟨hne,_⟩
       ·cases x
       ·exact hne rfl
     · rcases get_set q with⟨_,x,_⟩|⟨hne,_⟩
       ·cases x
       ·exact hne rfl
   rw[List.getElem?_set_ne nj]at ej
   rw[List.getElem?_set_ne nk]at ek
   refine r.bM j k a ?_ ?_ ej ek
   ·unfold aX at oj;simp only[List.getElem?_set_ne nj]at oj;exact oj
   ·unfold aX at ok;simp only[List.getElem?_set_ne nk]at ok;exact ok
 on := r.on.mv (fun _ _ n e=>⟨n,e⟩) (fun j xss e=>by
     rcases get_set e with⟨_,x,_⟩|⟨hne,e⟩
     ·cases x
     ·exact⟨e,List.getElem?_set_ne hne⟩) (fun j xss b u e hb f hu=>⟨f,hu⟩) fun j xss b e hb k ok=>by
   have e0:ρ[j]? =some (.on xss):=by
     rcases get_set e with⟨_,x,_⟩|⟨hne,e⟩
     ·cases x
     ·exact e
   have nk:i≠k:=by
     rintro rfl
     rcases ok with⟨ds,q⟩|⟨ks,ds,q⟩
     · rcases get_set q with⟨_,x,_⟩|⟨hne,_⟩
       ·cases x
       ·exact hne rfl
     · rcases get_set q with⟨_,x,_⟩|⟨hne,_⟩
       ·cases x
       ·exact hne rfl
   rw[List.getElem?_set_ne nk]
   refine(r.on j xss e0).2.1 b hb k ?_
   unfold aX at ok;simp only[List.getElem?_set_ne nk]at ok;exact ok
end
open L2 (aQ fD bp R2 EP)
theorem ai{α β:Type}{x:R α}{f:α→R β}{b:β}:x.bind f=.ok b↔∃a,x=.ok a∧f a=.ok b:=by
 cases x with
 |ok a=>simp
 |exc y=>simp
 |bad=>simp
noncomputable def tP(M:Md)(f:Ex):TE:=fun σ H Q=>∃ρ F d,aO M H F σ ρ∧f ρ=.ok d∧∀v H',af H H'→Rep M H' F d v→Q v H'
noncomputable def qE(M:Md)(c:aJ):TT:=fun σ H Q=>∃ρ F b,aO M H F σ ρ∧c ρ=.ok b∧∀H',af H H'→Q b H'
noncomputable def my(M:Md)(f:En→R (List D)):TA:=fun σ H Q=>∃ρ F ds,aO M H F σ ρ∧f ρ=.ok ds∧∀vs H',af H H'→ab M H' F ds vs→Q vs H'
noncomputable abbrev JE(X:Cx)(e:Expr)(f:Ex):Prop:=PE X e (tP (av X) f)
noncomputable abbrev JT(X:Cx)(e:Expr)(c:aJ):Prop:=PT X e (qE (av X) c)
noncomputable abbrev JA(X:Cx)(es:List Expr)(f:En→R (List D)):Prop:=PA X es (my (av X) f)
theorem bc{X:Cx}{e:Expr}{t t':TE}(h:PE X e t')(hi:∀σ H Q,t σ H Q→t' σ H Q):PE X e t:=fun pins s σ H Q I q=>h pins s σ H Q I (hi σ H Q q)
theorem lx{X:Cx}{e:Expr}{t t':TT}(h:PT X e t')(hi:∀σ H Q,t σ H Q→t' σ H Q):PT X e t:=fun pins s σ H Q I q=>h pins s σ H Q I (hi σ H Q q)
theorem mI{X:Cx}{e:List Expr}{t t':TA}(h:PA X e t')(hi:∀σ H Q,t σ H Q→t' σ H Q):PA X e t:=fun pos pins s σ H Q I q=>h pos pins s σ H Q I (hi σ H Q q)
theorem tE{X:Cx}{e:Expr}{t t':TT}(h:PW X e t')(hi:∀σ H Q,t σ H Q→t' σ H Q):PW X e t:=fun wh pins s σ H Q I q=>h wh pins s σ H Q I (hi σ H Q q)
theorem af.bL{H:Hp}{p:Addr}(h:H p=none)(o:HO):af H (upd H p o):=fun b u q=>by rw[L2.az (L2.eY q h)];exact q
section
variable{X:Cx}{M:Md}{H H':Hp}{F:Addr→Prop}{σ:St}{ρ:En}{pos:Pos}
theorem Ag{i:Nat}{d:D}(h:aa i ρ=.ok d):ρ[i]? =some (.sh d):=by
 unfold aa at h
 split at h
 ·rename_i e;cases h;exact e
 ·cases h
theorem CH(i:Nat){x:Str}(hN:X.N[i]? =some x:=by rfl)(hv:L2.aZ X.env.scope x:=by first|exact Or.inl rfl|exact Or.inr (Or.inl rfl)|exact Or.inr (Or.inr rfl))(hd:(x==("__debug__":Str))=false:=by decide)
   (hcd:(x==("__classdict__":Str))=false:=by decide):JE X (.Name x pos) (aa i):=
 bc (L2.pv i hN hv hd hcd) fun σ H Q ⟨ρ,F,d,r,e,q⟩=>by
   obtain⟨v,e1,rv⟩:=r.sh i d (Ag e)
   exact⟨v,e1,q v H (af.refl H) rv⟩
theorem AJ{i:Int}{j:Nat}:JE X (.Constant (.int i) j pos) (eC (.int i)):=
 bc L2.A3 fun σ H Q ⟨ρ,F,d,r,e,q⟩=>by cases e;exact q _ H (af.refl H) (by simp[Rep])
theorem wF{b:Bool}{j:Nat}:JE X (.Constant (.bool b) j pos) (eC (.bl b)):=
 bc L2.yE fun σ H Q ⟨ρ,F,d,r,e,q⟩=>by cases e;exact q _ H (af.refl H) (by simp[Rep])
theorem Bb{x:Str}{d:D}{v:V}{u:Value}(hg:L2.Gl X x)(hm:X.mg x=some u)(r:RelV v u)(hr:∀H F,Rep (av X) H F d v)(hd:(x==("__debug__":Str))=false:=by decide):JE X (.Name x pos) (eC d):=
 bc (L2.uT hg hm r hd) fun σ H Q ⟨ρ,F,d',r,e,q⟩=>by cases e;exact q _ H (af.refl H) (hr H F)
noncomputable def bY(M:Md)(g:D→D→R D)(r:R2):Prop:=∀(F:Addr→Prop) (H:Hp) (x y:V) (a b d:D) (Q:VK),(∀p,F p→∃o,H p=some o)→Rep M H F a x→Rep M H F b y→g a b=.ok d→
 (∀v H',af H H'→Rep M H' F d v→Q v H')→r x y H Q
noncomputable def eR(M:Md)(g:List D→R D)(r:List V→Hp→VK→Prop):Prop:=∀(F:Addr→Prop) (H:Hp) (xs:List V) (as:List D) (d:D) (Q:VK),(∀p,F p→∃o,H p=some o)→ab M H F as xs→g as=.ok d→
 (∀v H',af H H'→Rep M H' F d v→Q v H')→r xs H Q
theorem lO{g:D→D→R D}{r:R2}(hg:bY M g r){fa fb:Ex}{Q:VK}(h:tP M (e2 g fa fb) σ H Q):L2.iK r (tP M fa) (tP M fb) σ H Q:=by
 obtain⟨ρ,F,d,hr,e,q⟩:=h
 obtain⟨a,ea,e⟩:=ai.mp e
 obtain⟨b,eb,e⟩:=ai.mp e
 refine⟨ρ,F,a,hr,ea,fun x H1 s1 rx=>⟨ρ,F,b,hr.same s1,eb,fun y H2 s2 ry=>?_⟩⟩
 exact hg F H2 x y a b d Q ((hr.same s1).same s2).aU (rx.mv (.same s2)) ry e fun v H3 s3 rv=>q v H3 (s1.trans (s2.trans s3)) rv
theorem BA{op:Operator}{g:D→D→R D}{r:R2}{a b:Expr}{fa fb:Ex}(ho:aQ X (binaryOp op) r)(hg:bY (av X) g r)(ha:JE X a fa)(hb:JE X b fb):JE X (.BinOp a op b pos) (e2 g fa fb):=
 bc (L2.A0 ho ha hb) fun σ H Q h=>lO hg h
theorem Bq{op:CmpOp}{g:D→D→R D}{r:R2}{a b:Expr}{fa fb:Ex}(ho:aQ X (compareOp op) r)(hg:bY (av X) g r)(ha:JE X a fa)(hb:JE X b fb)(hm:behindInMarks op b=false):JE X (.Compare a [op] [b] pos) (e2 g fa fb):=
 bc (L2.wy ho ha hb hm) fun σ H Q h=>lO hg h
theorem aT{i:Int}{v:V}(h:Rep M H F (.int i) v):v=.int i:=by simpa only[Rep] using h
theorem fA{i:Bool}{v:V}(h:Rep M H F (.bl i) v):v=.bl i:=by simpa only[Rep] using h
theorem eT{i:Str}{v:V}(h:Rep M H F (.str i) v):v=.str i:=by simpa only[Rep] using h
theorem nS{v:V}(h:Rep M H F .aF v):v=.aF:=by simpa only[Rep] using h
theorem bW{i:Int}:Rep M H F (.int i) (.int i):=by simp only[Rep]
theorem dW{i:Bool}:Rep M H F (.bl i) (.bl i):=by simp only[Rep]
theorem jQ{i:Str}:Rep M H F (.str i) (.str i):=by simp only[Rep]
theorem pK:Rep M H F .aF .aF:=by simp only[Rep]
theorem fz:bY M cA (L2.dD fun i j=>.int (i - j)):=by
 intro F H x y a b d Q tr ra rb e q
 unfold cA at e
 split at e
 · cases e
   exact⟨_,_,aT ra,aT rb,q _ _ (af.refl _) bW⟩
 ·cases e
theorem mY:bY M oLt (L2.dD fun i j=>.bl (decide (i<j))):=by
 intro F H x y a b d Q tr ra rb e q
 unfold oLt at e
 split at e
 · cases e
   exact⟨_,_,aT ra,aT rb,q _ _ (af.refl _) dW⟩
 ·cases e
theorem CP:bY M oLe (L2.dD fun i j=>.bl (decide (i≤j))):=by
 intro F H x y a b d Q tr ra rb e q
 unfold oLe at e
 split at e
 · cases e
   exact⟨_,_,aT ra,aT rb,q _ _ (af.refl _) dW⟩
 ·cases e
theorem CT:bY M g8 (L2.dD fun i j=>.bl (decide (j<i))):=by
 intro F H x y a b d Q tr ra rb e q
 unfold g8 at e
 split at e
 · cases e
   exact⟨_,_,aT ra,aT rb,q _ _ (af.refl _) dW⟩
 ·cases e
theorem wR:bY M iF (L2.dD fun i j=>.bl (decide (j≤i))):=by
 intro F H x y a b d Q tr ra rb e q
 unfold iF at e
 split at e
 · cases e
   exact⟨_,_,aT ra,aT rb,q _ _ (af.refl _) dW⟩
 ·cases e
theorem cz:bY M oMod (L2.rI (fun _ j=>0<j) fun i j=>.int (i % j)):=by
 intro F H x y a b d Q tr ra rb e q
 unfold oMod at e
 split at e
 · split at e
   · cases e
     exact⟨_,_,aT ra,aT rb,by assumption,q _ _ (af.refl _) bW⟩
   ·cases e
 ·cases e
end
section
variable{X:Cx}{M:Md}{H H':Hp}{F:Addr→Prop}{σ:L2.St}{ρ:En}{pos:Pos}{pins:List (Addr×Obj)}{s:Shared}
theorem jy{a:Addr}{xs:List V}(I:Inv X pins σ H s)(h:eI (av X) H F a xs):∃(its:List Value) (n:Nat) (sl:Array (Option Value)),Vals xs its∧s.heap.get? a=some {cls:=.type "list",data:=.seq its.toArray n,slots:=sl}∧xs.length≤sizeLine:=by
 rcases h with⟨_,h⟩|⟨o,its,n,hk,h1,h2,h3,hz,r⟩
 · obtain⟨z,its,n,r,e⟩:=h.ok I.ao
   exact⟨its,n, #[],r,e,z⟩
 · obtain⟨c,dd,dt,sl⟩:=o
   simp only at h1 h2 h3
   subst h1 h2 h3
   refine⟨its.toList,n,sl,r,by simpa using I.cK a _ hk,?_⟩
   have e:=r.length
   simp only[Array.length_toList]at e
   omega
theorem yz(l:Addr)(items:Array Value)(n:Nat)(sl:Array (Option Value))(b:Addr)(items2:Array Value)(n2:Nat)(sl2:Array (Option Value))(hc0:items.size+items2.size≤sizeLine):
   Meets (Builtin.«list.__add__» ⟨[.ref l,.ref b],[]⟩) (fun _ R s=>s.heap.get? l=some {cls:=.type "list",dict:=none,data:=.seq items n,slots:=sl}∧s.heap.get? b=some {cls:=.type "list",dict:=none,data:=.seq items2 n2,slots:=sl2}∧R (.ok (.ret (Value.ref s.heap.objs.size))) {s with heap:=s.heap.push {cls:=Value.type "list",data:=Data.seq (items++items2)},toks:=s.toks}):=
 .of_wp fun prog w A R s h=>by obtain⟨hp,g,d,tk,os⟩:=s;obtain⟨hl,hb,h⟩:=h;have f1:=AutoSeq1.idx_int;have f2:=AutoSeq1.sub_tuple_tuple;have f3:=AutoSeq1.sub_list_list;have f4:=AutoSeq1.sub_tuple_list;have f5:=AutoSeq1.sub_list_tuple;wp_walk using AutoSeq1.wpAny_loadPart' hl,AutoSeq1.wpAny_loadPart' hb;exact⟨_,rfl,h⟩
theorem kM{a:Addr}{xs:List V}(I:Inv X pins σ H s)(h:eM (av X) H F a xs):∃its:List Value,Vals xs its∧PyProof.Rows.IsTup s.heap a its.toArray∧xs.length≤sizeLine:=I.tuple h.sq
noncomputable def pJ(M:Md):R2:=fun x y H Q=>∃F l b xs zs,x=.ref l∧y=.ref b∧eI M H F l xs∧eI M H F b zs∧xs.length+zs.length≤sizeLine∧∀p,H p=none→Q (.ref p) (upd H p (.lst (xs++zs)))
theorem C7:aQ X (binaryOp .Add) (pJ (av X)):=by
 intro pins s σ H x y v u Q I rx ry h
 obtain⟨F,l,b,xs,zs,rfl,rfl,hH,hB,hz,q⟩:=h
 cases rx
 cases ry
 obtain⟨its,n,sl,r,e,z⟩:=jy I hH
 obtain⟨its2,n2,sl2,r2,e2,z2⟩:=jy I hB
 have h1:=r.length
 have h2:=r2.length
 refine concat_meets ⟨_,e,rfl⟩ ⟨_,e2,rfl⟩ noFill_list_add seq_list_add PySem.F.slot_list_add PySem.F.entry_list_add (PySem.F.args_list_add_2 _ _) (yz l its.toArray n sl b its2.toArray n2 sl2 (by rw[List.size_toArray,List.size_toArray];omega)) ⟨e,e2,?_⟩
 have ea:its.toArray++its2.toArray=(its++its2).toArray:=by simp
 rw[ea]
 exact⟨.ref _,_,I.ue (t':=s.toks) (r.append r2) (by rw[List.length_append];omega),rfl,q _ I.fresh⟩
noncomputable def rQ(M:Md):R2:=fun x y H Q=>(L2.dD fun i j=>.int (i+j)) x y H Q∨(∃i j,x=.str i∧y=.str j∧i.length+j.length≤sizeLine∧Q (.str (i++j)) H)∨pJ M x y H Q∨L2.qh M.K x y H Q
theorem bh:aQ X (binaryOp .Add) (rQ (av X)):=L2.aQ.or L2.bh (L2.aQ.or L2.AA (L2.aQ.or C7 L2.CD))
theorem oY{p:Addr}(tr:∀p,F p→∃o,H p=some o)(h:H p=none):¬F p:=fun f=>by obtain⟨o,e⟩:=tr p f;rw[h]at e;cases e
theorem gq{p:Addr}{ds:List D}{xs:List V}(tr:∀p,F p→∃o,H p=some o)(h:H p=none)(r:ab M H F ds xs):Rep M (upd H p (.lst xs)) F (.lst ds) (.ref p):=by
 simp only[Rep]
 exact⟨p,xs,rfl,.inl ⟨oY tr h,.inl L2.bF⟩,r.mv (.same (af.bL h _))⟩
theorem ll{p:Addr}{ds:List D}{xs:List V}(tr:∀p,F p→∃o,H p=some o)(h:H p=none)(r:ab M H F ds xs):Rep M (upd H p (.tup xs)) F (.tup ds) (.ref p):=by
 simp only[Rep]
 exact⟨p,xs,rfl,.inl ⟨oY tr h,.inl L2.bF⟩,r.mv (.same (af.bL h _))⟩
theorem br:bY M aK (rQ M):=by
 intro F H x y a b d Q tr ra rb e q
 unfold aK at e
 split at e
 · cases e
   exact .inl ⟨_,_,aT ra,aT rb,q _ _ (af.refl _) bW⟩
 · split at e
   · cases e
     exact .inr (.inl ⟨_,_,eT ra,eT rb,by assumption,q _ _ (af.refl _) jQ⟩)
   ·cases e
 · split at e
   · rename_i hz
     cases e
     simp only[Rep]at ra rb
     obtain⟨l,xs,rfl,h1,r1⟩:=ra
     obtain⟨m,zs,rfl,h2,r2⟩:=rb
     refine .inr (.inr (.inl ⟨F,l,m,xs,zs,rfl,rfl,h1,h2,by rw[←r1.length, ←r2.length];exact hz,fun p hp=>q _ _ (af.bL hp _) (gq tr hp (r1.append r2))⟩))
   ·cases e
 · split at e
   · rename_i hz
     cases e
     simp only[Rep]at ra rb
     obtain⟨l,xs,rfl,h1,r1⟩:=ra
     obtain⟨m,zs,rfl,h2,r2⟩:=rb
     have l1:=r1.length
     have l2:=r2.length
     refine .inr (.inr (.inr ⟨l,m,xs,zs,rfl,rfl,h1.sq,h2.sq,?_,by rw[←l1, ←l2];exact hz.2,fun e0=>?_,fun _ p hp=>q _ _ (af.bL hp _) (ll tr hp (r1.append r2))⟩))
     · intro e0
       subst e0
       have:=hz.1
       rename_i as bs
       cases as with
       |nil=>cases this
       |cons _ _=>simp at l1
     · subst e0
       rename_i as bs
       cases bs with
       |cons _ _=>simp at l2
       | nil=>
         refine q _ _ (af.refl _) ?_
         rw[List.append_nil]
         simp only[Rep]
         exact⟨l,xs,rfl,h1,r1⟩
   ·cases e
 ·cases e
theorem xI{op:BoolOp}{a:Expr}{fa:Ex}(h:JE X a fa):JE X (.BoolOp op [a] pos) fa:=L2.B5 h
theorem z4{a b:Expr}{rest:List Expr}{fa fb:Ex}(ha:JE X a fa)(hb:JE X (.BoolOp .And (b::rest) pos) fb):JE X (.BoolOp .And (a::b::rest) pos) (jP fa fb):=
 bc (L2.uM ha hb) fun σ H Q ⟨ρ,F,d,hr,e,q⟩=>by
   obtain⟨a,ea,e⟩:=ai.mp e
   refine⟨ρ,F,a,hr,ea,fun x H1 s1 rx=>?_⟩
   split at e
   ·exact⟨true,fA rx,by rw[if_pos rfl];exact⟨ρ,F,d,hr.same s1,e,fun v H2 s2 rv=>q v H2 (s1.trans s2) rv⟩⟩
   · cases e
     exact⟨false,fA rx,by rw[if_neg (by decide)];exact q _ _ s1 dW⟩
   ·cases e
theorem zA{a:D}{x:V}{t:Bool}(r:Rep M H F a x)(e:truth a=.ok t):L2.nF M.K x H t:=by
 cases a with
 |aF=>cases e;cases nS r;rfl
 |bl b=>cases e;cases fA r;rfl
 |int i=>cases e;cases aT r;rfl
 | str z=>
   unfold truth at e
   dsimp only at e
   split at e
   · rename_i hz
     cases e;cases eT r
     refine⟨hz,?_⟩
     rw[Bool.eq_iff_iff]
     simp
   ·cases e
 | tup ds=>
   cases e
   simp only[Rep]at r
   obtain⟨p,xs,rfl,h,rs⟩:=r
   refine .inr (.inl ⟨xs,h.sq,?_⟩)
   have:=rs.length
   cases ds<;>cases xs<;>simp at this ⊢
 | lst ds=>
   cases e
   simp only[Rep]at r
   obtain⟨p,xs,rfl,h,rs⟩:=r
   refine .inl ⟨xs,h.sq,?_⟩
   have:=rs.length
   cases ds<;>cases xs<;>simp at this ⊢
 |aD ks ds=>cases e
 |cI _ _ _=>cases e
theorem CO{a:Expr}{fa:Ex}(ha:JE X a fa)(he:∀whole,isTrue a X.env whole=(do let v ←whole;standAt a.pos;holding [v] (truthy v)):=by intro _;rfl):JT X a (tV fa):=
 lx (L2.uH ha he) fun σ H Q ⟨ρ,F,b,hr,e,q⟩=>by
   obtain⟨a,ea,e⟩:=ai.mp e
   exact⟨ρ,F,a,hr,ea,fun x H1 s1 rx=>⟨b,zA rx e,q H1 s1⟩⟩
noncomputable def gi(g:D→D→R D):Prop:=∀a b d,g a b=.ok d→∃k,d=.bl k
theorem wL{op:CmpOp}{g:D→D→R D}{r:R2}{a b:Expr}{fa fb:Ex}(ho:aQ X (compareOp op) r)(hg:bY (av X) g r)(hB:gi g)(ha:JE X a fa)(hb:JE X b fb)(hm:behindInMarks op b=false):JT X (.Compare a [op] [b] pos) (tV (e2 g fa fb)):=
 lx (L2.qd ho ha hb hm) fun σ H Q ⟨ρ,F,t,hr,e,q⟩=>by
   obtain⟨d,ed,e⟩:=ai.mp e
   refine lO hg ⟨ρ,F,d,hr,ed,fun v H1 s1 rv=>?_⟩
   obtain⟨a,ea,ed⟩:=ai.mp ed
   obtain⟨b,eb,ed⟩:=ai.mp ed
   obtain⟨k,rfl⟩:=hB _ _ _ ed
   cases e
   exact⟨_,fA rv,q H1 s1⟩
theorem vI{a:Expr}{c:aJ}(ha:JT X a c):JT X (.UnaryOp .Not a pos) (dY c):=
 lx (L2.xK ha) fun σ H Q ⟨ρ,F,t,hr,e,q⟩=>by
   obtain⟨b,eb,e⟩:=ai.mp e
   cases e
   exact⟨ρ,F,b,hr,eb,fun H1 s1=>q H1 s1⟩
noncomputable abbrev JW(X:Cx)(e:Expr)(c:aJ):Prop:=PW X e (qE (av X) c)
theorem zG{a:Expr}{c:aJ}(ha:JT X a c):JW X (.BoolOp .And [a] pos) c:=L2.zc ha
theorem Bk{a:Expr}{c:aJ}(ha:JT X a c):JW X (.BoolOp .Or [a] pos) c:=L2.zf ha
theorem Ce{a b:Expr}{rest:List Expr}{c c':aJ}(ha:JT X a c)(hb:JW X (.BoolOp .And (b::rest) pos) c'):JW X (.BoolOp .And (a::b::rest) pos) (dU c c'):=
 tE (L2.ux ha hb) fun σ H Q ⟨ρ,F,t,hr,e,q⟩=>by
   obtain⟨b,eb,e⟩:=ai.mp e
   refine⟨ρ,F,b,hr,eb,fun H1 s1=>?_⟩
   split at e
   ·rename_i h;rw[if_pos h];exact⟨ρ,F,t,hr.same s1,e,fun H2 s2=>q H2 (s1.trans s2)⟩
   ·rename_i h;rw[if_neg h];cases e;exact q H1 s1
theorem xh{a b:Expr}{rest:List Expr}{c c':aJ}(ha:JT X a c)(hb:JW X (.BoolOp .Or (b::rest) pos) c'):JW X (.BoolOp .Or (a::b::rest) pos) (dS c c'):=
 tE (L2.AH ha hb) fun σ H Q ⟨ρ,F,t,hr,e,q⟩=>by
   obtain⟨b,eb,e⟩:=ai.mp e
   refine⟨ρ,F,b,hr,eb,fun H1 s1=>?_⟩
   split at e
   ·rename_i h;rw[if_pos h];cases e;exact q H1 s1
   ·rename_i h;rw[if_neg h];exact⟨ρ,F,t,hr.same s1,e,fun H2 s2=>q H2 (s1.trans s2)⟩
theorem wI{e:Expr}{c:aJ}(h:JW X e c):JT X e c:=L2.PW.pt h
theorem zJ{a:Expr}{fa:Ex}(ha:JE X a fa):JE X (.UnaryOp .Not a pos) (e1 jt fa):=
 bc (L2.B9 ha) fun σ H Q ⟨ρ,F,d,hr,e,q⟩=>by
   obtain⟨a,ea,e⟩:=ai.mp e
   refine⟨ρ,F,a,hr,ea,fun x H1 s1 rx=>?_⟩
   unfold jt at e
   split at e
   ·cases e;exact⟨_,fA rx,q _ _ s1 dW⟩
   ·cases e
theorem dM:JA X [] (eList []):=mI L2.fZ fun σ H Q ⟨ρ,F,ds,hr,e,q⟩=>by cases e;exact q [] H (af.refl H) ab.nil
theorem cL{e:Expr}{es:List Expr}{f:Ex}{fs:List Ex}(ha:JE X e f)(hr:JA X es (eList fs))(hs:starEach (e::es) X.env=(false,eval e X.env)::starEach es X.env:=by rfl):JA X (e::es) (eList (f::fs)):=
 mI (L2.fL ha hr hs) fun σ H Q ⟨ρ,F,ds,hr,e,q⟩=>by
   obtain⟨a,ea,e⟩:=ai.mp e
   obtain⟨as,eas,e⟩:=ai.mp e
   cases e
   exact⟨ρ,F,a,hr,ea,fun x H1 s1 rx=>⟨ρ,F,as,hr.same s1,eas,fun xs H2 s2 rs=>q _ H2 (s1.trans s2) (ab.cons (rx.mv (.same s2)) rs)⟩⟩
theorem iI:∀ {fs:List Ex} {ρ:En} {ds:List D},eList fs ρ=.ok ds→ds.length=fs.length
 |[],_,_,h=>by cases h;rfl
 | f::fs,_,_,h=>by
   obtain⟨a,_,h⟩:=ai.mp h
   obtain⟨as,h2,h⟩:=ai.mp h
   cases h
   simp[iI h2]
theorem z5{es:List Expr}{fs:List Ex}{k:Nat}(h:JA X es (eList fs))(hl:fs.length≤1000:=by decide):JE X (.Tuple es k pos) (gf fs):=
 bc (L2.xS h) fun σ H Q ⟨ρ,F,d,hr,e,q⟩=>by
   obtain⟨as,ea,e⟩:=ai.mp e
   cases e
   refine⟨ρ,F,as,hr,ea,fun xs H1 s1 rs=>⟨?_,fun p hp=>q _ _ (s1.trans (af.bL hp _)) (ll (hr.same s1).aU hp rs)⟩⟩
   rw[←rs.length,iI ea]
   exact Nat.le_trans hl (by decide)
theorem xr{es:List Expr}{fs:List Ex}(h:JA X es (eList fs))(hl:fs.length≤1000:=by decide):JE X (.List es pos) (bD fs):=
 bc (L2.lX h) fun σ H Q ⟨ρ,F,d,hr,e,q⟩=>by
   obtain⟨as,ea,e⟩:=ai.mp e
   cases e
   refine⟨ρ,F,as,hr,ea,fun xs H1 s1 rs=>⟨?_,fun p hp=>q _ _ (s1.trans (af.bL hp _)) (gq (hr.same s1).aU hp rs)⟩⟩
   rw[←rs.length,iI ea]
   exact Nat.le_trans hl (by decide)
theorem nv{pins:List (Addr×Obj)}{s:Shared}{p:Addr}{kvs:List (Key×V)}(I:Inv X pins σ H s)(e:H p=some (.dK kvs)):∃ob,Inv X pins σ (upd H p (.frz ob (.dK kvs))) s:=by
 obtain⟨z,y,vs,r,ob,es,ep,eo,c⟩:=I.ao p _ e
 exact⟨ob,I.write (h':=s.heap) (t':=s.toks) (by rw[e];trivial) (.inl rfl) (fun _ _ _ q=>q) ⟨ob,eo⟩ ⟨eo,z,y,vs,r,ob,es,ep,eo,c⟩⟩
theorem Ai{e:Expr}{t t':TE}(h:PE X e t')(hi:∀σ H Q,t σ H Q→t' σ H fun v H'=>∃p kvs,v=.ref p∧H' p=some (.dK kvs)∧∀ob,Q v (upd H' p (.frz ob (.dK kvs)))):PE X e t:=by
 intro pins s σ H Q I q
 refine L2.aE (h pins s σ H _ I (hi σ H Q q)) fun u s1 ⟨x,H1,I1,rx,p,kvs,ex,e1,q1⟩=>?_
 obtain⟨ob,I2⟩:=nv I1 e1
 exact⟨x,_,I2,rx,q1 ob⟩
end
section
variable{X:Cx}{M:Md}{H H':Hp}{F:Addr→Prop}{σ:L2.St}{ρ:En}{pos:Pos}{pins:List (Addr×Obj)}{s:Shared}
theorem lA{α β:Type}{xs:List α}{ys:List β}{i:Int}{x:α}(hl:xs.length=ys.length)(h:bI xs i=some x):∃j y,bJ ys.length i=some j∧xs[j]? =some x∧ys[j]? =some y∧bI ys i=some y:=by
 unfold bI at h ⊢
 rw[hl]at h
 cases e:bJ ys.length i with
 |none=>rw[e]at h;cases h
 | some j=>
   rw[e]at h
   have hx:xs[j]? =some x:=h
   obtain⟨hj,_⟩:=List.getElem?_eq_some_iff.mp hx
   have hy:j<ys.length:=by omega
   exact⟨j,ys[j],rfl,hx,List.getElem?_eq_getElem hy,by simp[hy]⟩
theorem nE:bY M gG (L2.nO M.K):=by
 intro F H x y a b d Q tr ra rb e q
 unfold gG at e
 split at e
 · split at e
   · rename_i xs i _ v hv
     cases e
     simp only[Rep]at ra
     obtain⟨p,ys,rfl,h,rs⟩:=ra
     obtain⟨j,y,_,h1,h2,h3⟩:=lA rs.length hv
     obtain⟨z,hz,rz⟩:=rs.get h1
     rw[h2]at hz
     cases hz
     exact .inl ⟨p,ys,_,y,rfl,aT rb,h.sq,h3,q _ _ (af.refl _) rz⟩
   ·cases e
 · split at e
   · rename_i xs i _ v hv
     cases e
     simp only[Rep]at ra
     obtain⟨p,ys,rfl,h,rs⟩:=ra
     obtain⟨j,y,_,h1,h2,h3⟩:=lA rs.length hv
     obtain⟨z,hz,rz⟩:=rs.get h1
     rw[h2]at hz
     cases hz
     exact .inr (.inl ⟨p,ys,_,y,rfl,aT rb,h.sq,h3,q _ _ (af.refl _) rz⟩)
   ·cases e
 · split at e
   · split at e
     · rename_i hz _ c hc
       cases e
       exact .inr (.inr ⟨_,_,c,eT ra,aT rb,hz,hc,q _ _ (af.refl _) jQ⟩)
     ·cases e
   ·cases e
 ·cases e
theorem oT(n d:Nat)(o:Option Int):HT.aH n d o=aH n d o:=by cases o<;>rfl
theorem m6(xs:List V)(lo hi:Option Int):L2.gk xs lo hi=cut xs lo hi:=by unfold L2.gk cut;simp only[oT]
theorem ab.cut{ds:List D}{xs:List V}(lo hi:Option Int)(r:ab M H F ds xs):ab M H F (cut ds lo hi) (PL.cut xs lo hi):=by
 unfold PL.cut
 rw[r.length]
 exact(r.drop _).take _
noncomputable def Bv(M:Md)(f:En→R (Option Int)):L2.TO:=fun σ H Q=>∃ρ F o,aO M H F σ ρ∧f ρ=.ok o∧∀H',af H H'→Q o H'
noncomputable abbrev JO(X:Cx)(e:Option Expr)(f:Option Ex):Prop:=L2.PO X e (Bv (av X) (gS f))
theorem zO:JO X none none:=fun pins s σ H Q I ⟨ρ,F,o,hr,e,q⟩=>by
 cases e
 exact L2.zL pins s σ H Q I (q H (af.refl H))
theorem BV{e:Expr}{f:Ex}(h:JE X e f):JO X (some e) (some f):=fun pins s σ H Q I ⟨ρ,F,o,hr,e,q⟩=>by
 obtain⟨a,ea,e⟩:=ai.mp e
 refine L2.Cp h pins s σ H Q I ⟨ρ,F,a,hr,ea,fun x H1 s1 rx=>?_⟩
 split at e
 ·cases e;exact⟨_,aT rx,q H1 s1⟩
 ·cases e
theorem AM{a:Expr}{lo hi:Option Expr}{fa:Ex}{fl fh:Option Ex}{p2:Pos}(ha:JE X a fa)(hl:JO X lo fl)(hh:JO X hi fh):JE X (.Subscript a (.Slice lo hi none p2) pos) (cC fa fl fh):=
 bc (L2.tK (L2.fN.or L2.qX L2.rO) ha hl hh) fun σ H Q ⟨ρ,F,d,hr,e,q⟩=>by
   obtain⟨a,ea,e⟩:=ai.mp e
   obtain⟨l,el,e⟩:=ai.mp e
   obtain⟨h,eh,e⟩:=ai.mp e
   refine⟨ρ,F,a,hr,ea,fun x H1 s1 rx=>⟨ρ,F,l,hr.same s1,el,fun H2 s2=>⟨ρ,F,h,(hr.same s1).same s2,eh,fun H3 s3=>?_⟩⟩⟩
   have rx':=rx.mv (.same (s2.trans s3))
   have tr:=(((hr.same s1).same s2).same s3).aU
   have s123:=s1.trans (s2.trans s3)
   unfold iD at e
   split at e
   · cases e
     simp only[Rep]at rx'
     obtain⟨p,xs,rfl,h1,rs⟩:=rx'
     refine .inl ⟨p,xs,rfl,h1.sq,fun b hb=>?_⟩
     rw[m6]
     exact q _ _ (s123.trans (af.bL hb _)) (gq tr hb (rs.cut _ _))
   · split at e
     ·cases e
     · rename_i hw
       cases e
       simp only[Rep]at rx'
       obtain⟨p,xs,rfl,h1,rs⟩:=rx'
       refine .inr ⟨p,xs,rfl,h1.sq,?_,fun b hb=>?_⟩
       ·rw[oT,oT, ←rs.length];exact hw
       · rw[m6]
         exact q _ _ (s123.trans (af.bL hb _)) (ll tr hb (rs.cut _ _))
   ·cases e
theorem rF{g:List D→R D}{r:List V→Hp→VK→Prop}(hg:eR M g r){fs:List Ex}{Q:VK}(h:tP M (aB g fs) σ H Q):L2.pw r (my M (eList fs)) σ H Q:=by
 obtain⟨ρ,F,d,hr,e,q⟩:=h
 obtain⟨as,ea,e⟩:=ai.mp e
 exact⟨ρ,F,as,hr,ea,fun xs H1 s1 rs=>hg F H1 xs as d Q (hr.same s1).aU rs e fun v H2 s2 rv=>q v H2 (s1.trans s2) rv⟩
@[simp] noncomputable def g1(g:D→R D):List D→R D
 |[a]=>g a
 |_=>.bad
@[simp] noncomputable def g2(g:D→D→R D):List D→R D
 |[a,b]=>g a b
 |_=>.bad
theorem qK(g:D→R D)(f:Ex):e1 g f=aB (g1 g) [f]:=by
 funext ρ
 show(f ρ).bind g=((f ρ).bind fun x=>R.bind (R.ok []) fun xs=>R.ok (x::xs)).bind (g1 g)
 cases f ρ<;>rfl
theorem ab.one{d:D}{xs:List V}(r:ab M H F [d] xs):∃x,xs=[x]∧Rep M H F d x:=by
 simp only[ab]at r
 obtain⟨x,t,rfl,h,rfl⟩:=r
 exact⟨x,rfl,h⟩
theorem ab.two{d e:D}{xs:List V}(r:ab M H F [d,e] xs):∃x y,xs=[x,y]∧Rep M H F d x∧Rep M H F e y:=by
 simp only[ab]at r
 obtain⟨x,t,rfl,h,y,u,rfl,h2,rfl⟩:=r
 exact⟨x,y,rfl,h,h2⟩
theorem BS{g:D→R D}{r:List V→Hp→VK→Prop}{x:Str}{id:String}{a:Expr}{fa:Ex}{p:Pos}(hc:bp X (.builtin id) r)(hg:eR (av X) (g1 g) r)(hgl:L2.Gl X x)(hm:X.mg x=none)(hv:bootBuiltins x=some (.builtin id))(ha:JE X a fa)
   (hs:starEach [a] X.env=(false,eval a X.env)::starEach [] X.env:=by rfl) (hn:x≠"__name__":=by decide) (hdb:(x==("__debug__":Str))=false:=by decide):JE X (.Call (.Name x p) [a] [] pos) (e1 g fa):=by
 rw[qK]
 exact bc (L2.ke hc hgl hm hv (cL ha dM hs) hn hdb hs) fun σ H Q h=>rF hg h
theorem vc{g:D→R D}{r:List V→Hp→VK→Prop}{x:Str}{T:String}{a:Expr}{fa:Ex}{p:Pos}(hc:bp X (.type T) r)(hg:eR (av X) (g1 g) r)(hgl:L2.Gl X x)(hm:X.mg x=none)(hv:bootBuiltins x=some (.type T))(ha:JE X a fa)
   (hs:starEach [a] X.env=(false,eval a X.env)::starEach [] X.env:=by rfl) (hn:x≠"__name__":=by decide) (hdb:(x==("__debug__":Str))=false:=by decide):JE X (.Call (.Name x p) [a] [] pos) (e1 g fa):=by
 rw[qK]
 exact bc (L2.oz hc hgl hm hv (cL ha dM hs) hn hdb hs) fun σ H Q h=>rF hg h
noncomputable def oK(M:Md):List V→Hp→VK→Prop:=fun xs H Q=>(∃p ys,xs=[.ref p]∧(aM M.K H p ys∨aW M.K H p ys)∧Q (.int ys.length) H)∨(∃z,xs=[.str z]∧z.length≤sizeLine∧Q (.int z.length) H)
theorem eE:bp X (.builtin "len") (oK (av X)):=L2.bp.or L2.nN L2.Ad
theorem eB:eR M (g1 cg) (oK M):=by
 intro F H xs as d Q tr rs e q
 unfold g1 at e
 split at e
 · obtain⟨x,rfl,r⟩:=rs.one
   unfold cg at e
   split at e
   · cases e
     simp only[Rep]at r
     obtain⟨p,ys,rfl,h,rs⟩:=r
     exact .inl ⟨p,ys,rfl,.inl h.sq,q _ _ (af.refl _) (by rw[←rs.length];exact bW)⟩
   · cases e
     simp only[Rep]at r
     obtain⟨p,ys,rfl,h,rs⟩:=r
     exact .inl ⟨p,ys,rfl,.inr h.sq,q _ _ (af.refl _) (by rw[←rs.length];exact bW)⟩
   · split at e
     · cases e
       exact .inr ⟨_,by rw[eT r],by assumption,q _ _ (af.refl _) bW⟩
     ·cases e
   ·cases e
 ·cases e
theorem ua:eR M (g1 ic) (fun xs H Q=>(∃i,xs=[.int i]∧Q (.int i) H)∨∃k,xs=[.bl k]∧Q (.int (if k then 1 else 0)) H):=by
 intro F H xs as d Q tr rs e q
 unfold g1 at e
 split at e
 · obtain⟨x,rfl,r⟩:=rs.one
   unfold ic at e
   split at e
   ·cases e;exact .inl ⟨_,by rw[aT r],q _ _ (af.refl _) bW⟩
   ·cases e;exact .inr ⟨_,by rw[fA r],q _ _ (af.refl _) bW⟩
   ·cases e
 ·cases e
theorem rg:eR M (g1 fE) (fun xs H Q=>∃p ys,xs=[.ref p]∧(aM M.K H p ys∨aW M.K H p ys)∧∀l,H l=none→Q (.ref l) (upd H l (.lst ys))):=by
 intro F H xs as d Q tr rs e q
 unfold g1 at e
 split at e
 · obtain⟨x,rfl,r⟩:=rs.one
   unfold fE at e
   split at e
   · cases e
     simp only[Rep]at r
     obtain⟨p,ys,rfl,h,rs⟩:=r
     exact⟨p,ys,rfl,.inl h.sq,fun l hl=>q _ _ (af.bL hl _) (gq tr hl rs)⟩
   · cases e
     simp only[Rep]at r
     obtain⟨p,ys,rfl,h,rs⟩:=r
     exact⟨p,ys,rfl,.inr h.sq,fun l hl=>q _ _ (af.bL hl _) (gq tr hl rs)⟩
   ·cases e
 ·cases e
theorem sk:eR M (g1 mQ) (fun xs H Q=>∃p ys,xs=[.ref p]∧((aM M.K H p ys∧∀l,H l=none→Q (.ref l) (upd H l (.tup ys)))∨(aW M.K H p ys∧Q (.ref p) H))):=by
 intro F H xs as d Q tr rs e q
 unfold g1 at e
 split at e
 · obtain⟨x,rfl,r⟩:=rs.one
   unfold mQ at e
   split at e
   · cases e
     simp only[Rep]at r
     obtain⟨p,ys,rfl,h,rs⟩:=r
     exact⟨p,ys,rfl,.inl ⟨h.sq,fun l hl=>q _ _ (af.bL hl _) (ll tr hl rs)⟩⟩
   · cases e
     have r':=r
     simp only[Rep]at r
     obtain⟨p,ys,rfl,h,rs⟩:=r
     exact⟨p,ys,rfl,.inr ⟨h.sq,q _ _ (af.refl _) r'⟩⟩
   ·cases e
 ·cases e
end
section
variable{X:Cx}{M:Md}{H H':Hp}{F:Addr→Prop}{σ:L2.St}{ρ:En}{pos:Pos}{pins:List (Addr×Obj)}{s:Shared}
mutual
noncomputable def pyd:D→PyData
 |.aF=>.none
 |.bl b=>.bool b
 |.int i=>.int i
 |.str x=>.str x
 |.tup xs=>.tuple (dF xs)
 |.lst xs=>.list (dF xs)
 |.aD _ _=>.dict []
 |.cI _ _ _=>.dict []
noncomputable def dF:List D→List PyData
 |[]=>[]
 |x::xs=>pyd x::dF xs
end
mutual
theorem n3:∀(a b:D),lay a=true→lay b=true→PyData.eqv (pyd a) (pyd b)=bq a b
 |.aF,b,_,hb=>by cases b<;>first|rfl|(simp[lay]at hb)
 |.bl _,b,_,hb=>by cases b<;>first|rfl|(simp[lay]at hb)
 |.int _,b,_,hb=>by cases b<;>first|rfl|(simp[lay]at hb)
 | .str x,b,_,hb=>by
   cases b with
   |str y=>show(x==y)=decide (x=y);rw[Bool.eq_iff_iff,beq_iff_eq,decide_eq_true_eq]
   |_=>first|rfl|(simp[lay]at hb)
 | .tup xs,b,ha,hb=>by
   cases b with
   |tup ys=>simp only[lay]at ha hb;exact m9 xs ys ha hb
   |_=>first|rfl|(simp[lay]at hb)
 | .lst xs,b,ha,hb=>by
   cases b with
   |lst ys=>simp only[lay]at ha hb;exact m9 xs ys ha hb
   |_=>first|rfl|(simp[lay]at hb)
 |.aD _ _,_,ha,_=>by simp[lay]at ha
 |.cI _ _ _,_,ha,_=>by simp[lay]at ha
theorem m9:∀(a b:List D),cY a=true→cY b=true→PyData.eqvAll (dF a) (dF b)=hV a b
 |[],[],_,_=>rfl
 |[],_::_,_,_=>rfl
 |_::_,[],_,_=>rfl
 | x::xs,y::ys,ha,hb=>by
   simp only[cY,Bool.and_eq_true]at ha hb
   show(PyData.eqv (pyd x) (pyd y)&&PyData.eqvAll (dF xs) (dF ys))=(bq x y&&hV xs ys)
   rw[n3 x y ha.1 hb.1,m9 xs ys ha.2 hb.2]
end
mutual
theorem lj:∀a:D,lay a=true→(pyd a).canLay0=true
 |.aF,_=>rfl
 |.bl _,_=>rfl
 |.int _,_=>rfl
 |.str x,h=>by simp only[lay]at h;exact h
 |.tup xs,h=>by simp only[lay]at h;exact nJ xs h
 |.lst xs,h=>by simp only[lay]at h;exact nJ xs h
 |.aD _ _,h=>by simp[lay]at h
 |.cI _ _ _,h=>by simp[lay]at h
theorem nJ:∀a:List D,cY a=true→PyData.canLayAll0 (dF a)=true
 |[],_=>rfl
 | x::xs,h=>by
   simp only[cY,Bool.and_eq_true]at h
   show((pyd x).canLay0&&PyData.canLayAll0 (dF xs))=true
   rw[lj x h.1,nJ xs h.2];rfl
end
mutual
theorem kL:∀a:D,lay a=true→(pyd a).depth=dep a
 |.aF,_=>rfl
 |.bl _,_=>rfl
 |.int _,_=>rfl
 |.str _,_=>rfl
 |.tup xs,h=>by simp only[lay]at h;show PyData.depthAll (dF xs)+1=_;rw[oA xs h];simp only[dep]
 |.lst xs,h=>by simp only[lay]at h;show PyData.depthAll (dF xs)+1=_;rw[oA xs h];simp only[dep]
 |.aD _ _,h=>by simp[lay]at h
 |.cI _ _ _,h=>by simp[lay]at h
theorem oA:∀a:List D,cY a=true→PyData.depthAll (dF a)=ig a
 |[],_=>rfl
 | x::xs,h=>by
   simp only[cY,Bool.and_eq_true]at h
   show max (pyd x).depth (PyData.depthAll (dF xs))=_
   rw[kL x h.1,oA xs h.2];simp only[ig]
end
mutual
theorem kO(I:Inv X pins σ H s):∀ {a:D} {x:V} {u:Value},lay a=true→Rep (av X) H F a x→RelV x u→∃as,Reads s.heap u (pyd a) as
 |.aF,_,_,_,r,rx=>by cases nS r;cases rx;exact⟨_,.none⟩
 |.bl b,_,_,_,r,rx=>by cases fA r;cases rx;exact⟨_,.bool b⟩
 |.int i,_,_,_,r,rx=>by cases aT r;obtain⟨t,rfl⟩:=rx;exact⟨_,.int i t⟩
 |.str z,_,_,_,r,rx=>by cases eT r;obtain⟨t,rfl⟩:=rx;exact⟨_,.str z t⟩
 | .tup ds,_,_,h,r,rx=>by
   simp only[lay]at h
   simp only[Rep]at r
   obtain⟨p,xs,rfl,t,rs⟩:=r
   cases rx
   obtain⟨its,rv,⟨o,e,c,n,d⟩,_⟩:=kM I t
   obtain⟨as,ra⟩:=pB I h rs rv
   exact⟨_,.tuple e c d (by simpa using ra)⟩
 | .lst ds,_,_,h,r,rx=>by
   simp only[lay]at h
   simp only[Rep]at r
   obtain⟨p,xs,rfl,t,rs⟩:=r
   cases rx
   obtain⟨its,n,sl,rv,e,_⟩:=jy I t
   obtain⟨as,ra⟩:=pB I h rs rv
   exact⟨_,.list e rfl rfl (by simpa using ra)⟩
 |.aD _ _,_,_,h,_,_=>by simp[lay]at h
 |.cI _ _ _,_,_,h,_,_=>by simp[lay]at h
theorem pB(I:Inv X pins σ H s):∀ {as:List D} {xs:List V} {us:List Value},cY as=true→ab (av X) H F as xs→Vals xs us→∃bs,ReadsAll s.heap us (dF as) bs
 |[],_,_,_,r,rv=>by simp only[ab]at r;subst r;cases rv;exact⟨_,.nil⟩
 | a::as,_,_,h,r,rv=>by
   simp only[cY,Bool.and_eq_true]at h
   simp only[ab]at r
   obtain⟨x,t,rfl,r1,r2⟩:=r
   cases rv with
   | cons q w=>
     obtain⟨bs,h1⟩:=kO I h.1 r1 q
     obtain⟨cs,h2⟩:=pB I h.2 r2 w
     exact⟨_,.cons h1 h2⟩
end
theorem xa(l:Addr)(es:Array DictEntry)(n:Nat)(dd:Option Addr)(sl:Array (Option Value))(b:Str)(u:Tok):
   Meets (Builtin.«dict.__eq__» ⟨[.ref l,.str b u],[]⟩) (fun _ R s=>s.heap.get? l=some {cls:=.type "dict",dict:=dd,data:=.dict es n,slots:=sl}∧R (.ok (.ret .notImplemented)) s):=
 .of_wp fun prog w A R s h=>by obtain⟨hp,g,d,tk,os⟩:=s;obtain⟨hl,h⟩:=h;have f1:=F.sub_str_dict;wp_walk;exact⟨_,rfl,h⟩
theorem x8(b:Str)(u:Tok)(l:Addr)(es:Array DictEntry)(n:Nat)(dd:Option Addr)(sl:Array (Option Value)):
   Meets (Builtin.«str.__eq__» ⟨[.str b u,.ref l],[]⟩) (fun _ R s=>s.heap.get? l=some {cls:=.type "dict",dict:=dd,data:=.dict es n,slots:=sl}∧R (.ok (.ret .notImplemented)) s):=
 .of_wp fun prog w A R s h=>by obtain⟨hp,g,d,tk,os⟩:=s;obtain⟨hl,h⟩:=h;wp_walk using AutoSeq1.wpAny_loadPart' hl,wpAny_load hl;exact⟨_,rfl,h⟩
theorem wJ{A:Around}{l:Addr}{o:Obj}{es:Array DictEntry}{n:Nat}(b:Str)(u:Tok)(ho:s.heap.get? l=some o)(hc:o.cls=.type "dict")(hd:o.data=.dict es n)(hu:A.units<cLine):SeqAt.RcAt A s (.ref l) (.str b u) false:=fun prog w E Q h=>by
 obtain⟨cls,dd,data,sl⟩:=o
 simp only at hc hd
 subst hc hd
 exact SeqAt.rc_eq_decline_or (k:=false) ⟨_,ho,rfl⟩ (typeIs_str s b u) (by decide) F.sub_str_dict F.slot_dict_eq F.slot_str_eq_refl
   (fun _ hq=>call_meets F.slot_dict_eq ⟨_,ho,rfl⟩ F.entry_dict_eq (F.args_dict_eq_2 _ _) (xa l es n dd sl b u) ⟨ho,hq⟩)
   (fun _ hq=>call_meets F.slot_str_eq_refl (typeIs_str s b u) F.entry_str_eq (F.args_str_eq_2 _ _) (x8 b u l es n dd sl) ⟨ho,hq⟩)
   (fun _ hq=>wpAny_of_eq (rfl:isSame (.ref l) (.str b u)=pure false) hq) (.inr hu) h
theorem j6{a:Addr}{kvs:List (Key×V)}(I:Inv X pins σ H s)(h:fj (av X) H F a kvs):kvs.length≤sizeLine∧(a==sysModules)=false∧∃vs,L2.KV kvs vs∧s.heap.DictOf (L2.bR X.prog X.w) a vs:=by
 rcases h with⟨_,ob,h⟩|⟨o,es,ep,vs,h1,h2,h3,h4,h5,h6,h7,h8,h9⟩
 ·exact L2.mi I.ao (.inr ⟨ob,h⟩)
 ·exact⟨h8,h9,vs,h7,o,es,ep,I.cK a o h1,h2,h3,h4,h5,h6⟩
noncomputable def rf(M:Md):R2:=fun x y H Q=>∃F a b,Rep M H F a x∧Rep M H F b y∧cP a b=true∧Q (.bl (bq a b)) H
noncomputable def sZ(M:Md):R2:=fun x y H Q=>∃F a b,Rep M H F a x∧Rep M H F b y∧dN a b=true∧Q (.bl (!bq a b)) H
theorem str_beq(a b:Str):(a==b)=decide (a=b):=by rw[Bool.eq_iff_iff,beq_iff_eq,decide_eq_true_eq]
theorem ve{A:Around}{a b:D}{x y:V}{u v:Value}(fa:flat a=true)(fb:flat b=true)(ra:Rep M H F a x)(rb:Rep M H F b y)(rx:RelV x u)(ry:RelV y v):SeqAt.RcAt A s u v (bq a b):=by
 cases a<;>(try cases fa)<;>cases b<;>(try cases fb)<;>simp only[Rep]at ra rb<;>subst ra<;>subst rb
 ·cases rx;cases ry;exact SeqAt.RcAt.none_none
 ·cases rx;cases ry;exact SeqAt.RcAt.none_bool _
 ·cases rx;obtain⟨t,rfl⟩:=ry;exact SeqAt.RcAt.none_int _ _
 ·cases rx;obtain⟨t,rfl⟩:=ry;exact SeqAt.RcAt.none_str _ _
 ·cases rx;cases ry;exact SeqAt.RcAt.bool_none _
 ·cases rx;cases ry;exact SeqAt.RcAt.bool_bool _ _
 ·cases rx;obtain⟨t,rfl⟩:=ry;exact SeqAt.RcAt.bool_int _ _ _
 ·cases rx;obtain⟨t,rfl⟩:=ry;exact SeqAt.RcAt.bool_str _ _ _
 ·obtain⟨t,rfl⟩:=rx;cases ry;exact SeqAt.RcAt.int_none _ _
 ·obtain⟨t,rfl⟩:=rx;cases ry;exact SeqAt.RcAt.int_bool _ _ _
 ·obtain⟨t,rfl⟩:=rx;obtain⟨t,rfl⟩:=ry;exact SeqAt.RcAt.int_int _ _ _ _
 ·obtain⟨t,rfl⟩:=rx;obtain⟨t,rfl⟩:=ry;exact SeqAt.RcAt.int_str _ _ _ _
 ·obtain⟨t,rfl⟩:=rx;cases ry;exact SeqAt.RcAt.str_none _ _
 ·obtain⟨t,rfl⟩:=rx;cases ry;exact SeqAt.RcAt.str_bool _ _ _
 ·obtain⟨t,rfl⟩:=rx;obtain⟨t,rfl⟩:=ry;exact SeqAt.RcAt.str_int _ _ _ _
 ·obtain⟨t,rfl⟩:=rx;obtain⟨t,rfl⟩:=ry;simp only[bq];rw[←str_beq];exact SeqAt.RcAt.str_str _ _ _ _
theorem vA{A:Around}{a b:D}{x y:V}{u v:Value}(fa:flat a=true)(fb:flat b=true)(ra:Rep M H F a x)(rb:Rep M H F b y)(rx:RelV x u)(ry:RelV y v):SeqAt.RcNeAt A s u v (!bq a b):=by
 cases a<;>(try cases fa)<;>cases b<;>(try cases fb)<;>simp only[Rep]at ra rb<;>subst ra<;>subst rb
 ·cases rx;cases ry;exact SeqAt.RcNeAt.none_none
 ·cases rx;cases ry;exact SeqAt.RcNeAt.none_bool _
 ·cases rx;obtain⟨t,rfl⟩:=ry;exact SeqAt.RcNeAt.none_int _ _
 ·cases rx;obtain⟨t,rfl⟩:=ry;exact SeqAt.RcNeAt.none_str _ _
 ·cases rx;cases ry;exact SeqAt.RcNeAt.bool_none _
 ·cases rx;cases ry;exact SeqAt.RcNeAt.bool_bool _ _
 ·cases rx;obtain⟨t,rfl⟩:=ry;exact SeqAt.RcNeAt.bool_int _ _ _
 ·cases rx;obtain⟨t,rfl⟩:=ry;exact SeqAt.RcNeAt.bool_str _ _ _
 ·obtain⟨t,rfl⟩:=rx;cases ry;exact SeqAt.RcNeAt.int_none _ _
 ·obtain⟨t,rfl⟩:=rx;cases ry;exact SeqAt.RcNeAt.int_bool _ _ _
 ·obtain⟨t,rfl⟩:=rx;obtain⟨t,rfl⟩:=ry;exact SeqAt.RcNeAt.int_int _ _ _ _
 ·obtain⟨t,rfl⟩:=rx;obtain⟨t,rfl⟩:=ry;exact SeqAt.RcNeAt.int_str _ _ _ _
 ·obtain⟨t,rfl⟩:=rx;cases ry;exact SeqAt.RcNeAt.str_none _ _
 ·obtain⟨t,rfl⟩:=rx;cases ry;exact SeqAt.RcNeAt.str_bool _ _ _
 ·obtain⟨t,rfl⟩:=rx;obtain⟨t,rfl⟩:=ry;exact SeqAt.RcNeAt.str_int _ _ _ _
 ·obtain⟨t,rfl⟩:=rx;obtain⟨t,rfl⟩:=ry;simp only[bq];rw[←str_beq];exact SeqAt.RcNeAt.str_str _ _ _ _
theorem u7(ds:List D):((List.range (min ds.length 0)).all (fun _=>true)&&(ds.length==0))=bq (.tup ds) (.tup []):=by
 cases ds<;>simp
theorem pQ{A:Around}{ds:List D}{x y:V}{u v:Value}(I:Inv X pins σ H s)(hu:A.units<cLine)(ra:Rep (av X) H F (.tup ds) x)(rb:Rep (av X) H F (.tup []) y)(rx:RelV x u)(ry:RelV y v):
   SeqAt.RcAt A s u v (bq (.tup ds) (.tup []))∧SeqAt.RcNeAt A s u v (!bq (.tup ds) (.tup [])):=by
 simp only[Rep]at ra rb
 obtain⟨p,xs,rfl,h,rs⟩:=ra
 obtain⟨p2,xs2,rfl,h2,rs2⟩:=rb
 cases rx
 cases ry
 simp only[ab]at rs2
 subst rs2
 obtain⟨its,rv,⟨o,e,c,n,d⟩,_⟩:=kM I h
 obtain⟨its2,rv2,⟨o2,e2,c2,n2,d2⟩,_⟩:=kM I h2
 cases rv2
 have hl:its.toArray.size=ds.length:=by rw[List.size_toArray, ←rv.length, ←rs.length]
 have z1:=SeqAt.RcAt.tuples (A:=A) (s:=s) (e:=fun _=>true) (l:=p) (b:=p2) ⟨o,e,c,n,d⟩ ⟨o2,e2,c2,n2,d2⟩ hu (fun j _ h2=>by simp at h2)
 have z2:=SeqAt.RcNeAt.tuples (A:=A) (s:=s) (e:=fun _=>true) (l:=p) (b:=p2) ⟨o,e,c,n,d⟩ ⟨o2,e2,c2,n2,d2⟩ hu (fun j _ h2=>by simp at h2)
 rw[←u7]
 rw[hl]at z1 z2
 exact⟨z1,z2⟩
theorem nh(hu:X.A.units+64<cLine):aQ X (compareOp .NotEq) (sZ (av X)):=by
 intro pins s σ H x y v u Q I rx ry h
 obtain⟨F,a,b,ra,rb,ok,q⟩:=h
 have fin:EP X pins σ Q (.bool (!bq a b)) s:=⟨.bl _,H,I,rfl,q⟩
 unfold dN at ok
 rw[Bool.or_eq_true,Bool.or_eq_true,Bool.and_eq_true]at ok
 rcases ok with(⟨fa,fb⟩|t)|l
 ·exact vA fa fb ra rb rx ry _ _ _ _ fin
 · unfold oN at t
   split at t
   ·exact(pQ I (by omega) ra rb rx ry).2 _ _ _ _ fin
   ·cases t
 · rw[Bool.and_eq_true,Bool.and_eq_true,decide_eq_true_eq]at l
   obtain⟨⟨la,lb⟩,hd⟩:=l
   obtain⟨as,h1⟩:=kO I la ra rx
   obtain⟨bs,h2⟩:=kO I lb rb ry
   refine SeqAt.compareNe_reads h1 h2 (lj a la) (lj b lb) (by rw[kL a la,kL b lb];omega) ?_
   rw[n3 a b la lb]
   exact fin
theorem gK(hu:X.A.units+64<cLine):aQ X (compareOp .Eq) (rf (av X)):=by
 intro pins s σ H x y v u Q I rx ry h
 obtain⟨F,a,b,ra,rb,ok,q⟩:=h
 have fin:EP X pins σ Q (.bool (bq a b)) s:=⟨.bl _,H,I,rfl,q⟩
 unfold cP at ok
 rw[Bool.or_eq_true]at ok
 rcases ok with ok|dc
 · unfold dN at ok
   rw[Bool.or_eq_true,Bool.or_eq_true,Bool.and_eq_true]at ok
   rcases ok with(⟨fa,fb⟩|t)|l
   ·exact ve fa fb ra rb rx ry _ _ _ _ fin
   · unfold oN at t
     split at t
     ·exact(pQ I (by omega) ra rb rx ry).1 _ _ _ _ fin
     ·cases t
   · rw[Bool.and_eq_true,Bool.and_eq_true,decide_eq_true_eq]at l
     obtain⟨⟨la,lb⟩,hd⟩:=l
     obtain⟨as,h1⟩:=kO I la ra rx
     obtain⟨bs,h2⟩:=kO I lb rb ry
     refine SeqAt.compareEq_reads h1 h2 (lj a la) (lj b lb) (by rw[kL a la,kL b lb];omega) ?_
     rw[n3 a b la lb]
     exact fin
 · unfold qo at dc
   split at dc
   · cases eT rb
     obtain⟨t,rfl⟩:=ry
     simp only[Rep]at ra
     obtain⟨p,xs,rfl,h,_⟩:=ra
     cases rx
     obtain⟨_,_,vs,_,o,es,ep,e1,e2,e3,_⟩:=j6 I h
     exact wJ _ t e1 e2.1 e3 (by omega) _ _ _ _ fin
   ·cases dc
theorem gO:bY M oEq (rf M):=by
 intro F H x y a b d Q tr ra rb e q
 unfold oEq at e
 split at e
 ·cases e;exact⟨F,a,b,ra,rb,by assumption,q _ _ (af.refl _) dW⟩
 ·cases e
theorem oP:bY M eJ (sZ M):=by
 intro F H x y a b d Q tr ra rb e q
 unfold eJ at e
 split at e
 ·cases e;exact⟨F,a,b,ra,rb,by assumption,q _ _ (af.refl _) dW⟩
 ·cases e
theorem kP:gi oEq:=fun a b d h=>by unfold oEq at h;split at h<;>cases h;exact⟨_,rfl⟩
theorem oX:gi eJ:=fun a b d h=>by unfold eJ at h;split at h<;>cases h;exact⟨_,rfl⟩
theorem oH:gi oLt:=fun a b d h=>by unfold oLt at h;split at h<;>cases h;exact⟨_,rfl⟩
theorem u3:gi oLe:=fun a b d h=>by unfold oLe at h;split at h<;>cases h;exact⟨_,rfl⟩
theorem vw:gi g8:=fun a b d h=>by unfold g8 at h;split at h<;>cases h;exact⟨_,rfl⟩
theorem yv:gi iF:=fun a b d h=>by unfold iF at h;split at h<;>cases h;exact⟨_,rfl⟩
theorem uI:bootBuiltins "isinstance"=some (.builtin "isinstance"):=by decide+kernel
theorem cV:bootBuiltins "len"=some (.builtin "len"):=by decide+kernel
theorem nA:bootBuiltins "int"=some (.type "int"):=by decide+kernel
theorem AR:bootBuiltins "bool"=some (.type "bool"):=by decide+kernel
theorem jV:bootBuiltins "list"=some (.type "list"):=by decide+kernel
theorem sP:bootBuiltins "tuple"=some (.type "tuple"):=by decide+kernel
theorem uO:bootBuiltins "dict"=some (.type "dict"):=by decide+kernel
noncomputable def j4:Ty→String
 |.int=>"int"|.bool=>"bool"|.str=>"str"|.tuple=>"tuple"|.list=>"list"|.dict=>"dict"
theorem AZ:bp X (.builtin "isinstance") (fun xs H Q=>∃F d x b ty,xs=[x,.ty (j4 ty)]∧Rep (av X) H F d x∧gC ty d=.ok (.bl b)∧(∀c ns vs,d≠.cI c ns vs)∧Q (.bl b) H):=by
 intro pins s σ H xs us Q I r h
 obtain⟨F,d,x,b,ty,rfl,rd,e,ne,q⟩:=h
 obtain⟨u,w,rfl,ru,rw'⟩:=L2.vals2 r
 cases (show w=Value.type (j4 ty)from rw')
 have fin:∀tk,EP X pins σ Q (.bool b) {s with toks:=tk}:=fun tk=>⟨.bl _,H,I.tok tk,rfl,q⟩
 cases d with
 |aF=>cases nS rd;cases ru;cases ty<;>cases e<;>exact PySem.W.kia_one PySem.W.kitx_none I.cK True.intro rfl (fun z=>nomatch z) fin
 |bl y=>cases fA rd;cases ru;cases ty<;>cases e<;>exact PySem.W.kia_one PySem.W.kitx_bool I.cK True.intro rfl (fun z=>nomatch z) fin
 |int i=>cases aT rd;obtain⟨t,rfl⟩:=ru;cases ty<;>cases e<;>exact PySem.W.kia_one PySem.W.kitx_int I.cK True.intro rfl (fun z=>nomatch z) fin
 |str z=>cases eT rd;obtain⟨t,rfl⟩:=ru;cases ty<;>cases e<;>exact PySem.W.kia_one PySem.W.kitx_str I.cK True.intro rfl (fun z=>nomatch z) fin
 | tup ds=>
   simp only[Rep]at rd
   obtain⟨p,xs,rfl,h,_⟩:=rd
   cases ru
   obtain⟨its,_,⟨o,h1,h2,_⟩,_⟩:=kM I h
   cases ty<;>cases e<;>exact PySem.W.kia_one PySem.W.kitx_tuple I.cK ⟨o,h1,h2⟩ rfl (fun z=>nomatch z) fin
 | lst ds=>
   simp only[Rep]at rd
   obtain⟨p,xs,rfl,h,_⟩:=rd
   cases ru
   obtain⟨its,n,sl,_,h1,_⟩:=jy I h
   cases ty<;>cases e<;>exact PySem.W.kia_one PySem.W.kitx_list I.cK ⟨_,h1,rfl⟩ rfl (fun z=>nomatch z) fin
 | aD ks ds=>
   simp only[Rep]at rd
   obtain⟨p,xs,rfl,h,_⟩:=rd
   cases ru
   obtain⟨_,_,vs,_,o,es,ep,e1,e2,e3,_⟩:=j6 I h
   cases ty<;>cases e<;>exact PySem.W.kia_one PySem.W.kitx_dict I.cK ⟨o,e1,e2.1⟩ rfl (fun z=>nomatch z) fin
 |cI c ns vs=>exact absurd rfl (ne _ _ _)
theorem vM{ty:Ty}{d r:D}(h:gC ty d=.ok r):∃b,r=.bl b:=by
 unfold gC at h
 split at h<;>cases h<;>exact⟨_,rfl⟩
theorem B8(ty:Ty){a:Expr}{fa:Ex}{p p2:Pos}{T:Str}(ha:JE X a fa)(hg:L2.Gl X "isinstance")(hm:X.mg "isinstance"=none)(hgT:L2.Gl X T)(hmT:X.mg T=none)(hvT:bootBuiltins T=some (.type (j4 ty)))
   (hs:starEach [a,.Name T p2] X.env=(false,eval a X.env)::starEach [.Name T p2] X.env:=by rfl) (hs2:starEach [.Name T p2] X.env=(false,eval (.Name T p2) X.env)::starEach [] X.env:=by rfl)
   (hnT:T≠"__name__":=by decide) (hdT:(T==("__debug__":Str))=false:=by decide):JE X (.Call (.Name "isinstance" p) [a,.Name T p2] [] pos) (e1 (gC ty) fa):=
 bc (L2.ke AZ hg hm uI (L2.fL ha (L2.fL (L2.yw (v:=.ty (j4 ty)) hgT hmT hvT rfl hnT hdT) L2.fZ hs2) hs) (by decide) (by decide) hs (by rw[hs2];rfl)) fun σ H Q ⟨ρ,F,d,hr,e,q⟩=>by
   obtain⟨a,ea,e⟩:=ai.mp e
   obtain⟨b,rfl⟩:=vM e
   refine⟨ρ,F,a,hr,ea,fun x H1 s1 rx=>⟨F,a,x,b,ty,rfl,rx,e,?_,q _ _ s1 dW⟩⟩
   intro c ns vs h
   subst h
   cases ty<;>cases e
end
open L2 (PG cJ TG)
structure aN(M:Md)(G:Hp)(F0:Addr→Prop)(H:Hp)(F:Addr→Prop)(σ:L2.St)(ρ:En):Prop where
 rs:aO M H F σ ρ
 sm:af G H
 sub:∀a,F0 a→F a
 dm:∀a,F0 a→∃o,G a=some o
 own:∀(i:Nat) a,aX ρ i→σ[i]? =some (some (.ref a))→G a=none
 eS:∀(i:Nat) xss b,ρ[i]? =some (.on xss)→dh M H F σ ρ i b→G b=none
noncomputable def kh(M:Md)(G:Hp)(F0:Addr→Prop)(H:Hp)(F:Addr→Prop)(D:Ends):Fl→Prop
 |.next ρ'=>∀σ' H' F',Mv F H F' H'→aN M G F0 H' F' σ' ρ'→D.nx σ' H'
 |.brk ρ'=>∀σ' H' F',Mv F H F' H'→aN M G F0 H' F' σ' ρ'→D.bk σ' H'
 |.cont ρ'=>∀σ' H' F',Mv F H F' H'→aN M G F0 H' F' σ' ρ'→D.ct σ' H'
 |.ret d=>∀v H' F',Mv F H F' H'→af G H'→(∀a,F0 a→F' a)→Rep M H' F' d v→D.rt v H'
 |.cX d=>∀p H' F' xs ds,d=.lst ds→Mv F H F' H'→af G H'→(∀a,F0 a→F' a)→H' p=none→ab M H' F' ds xs→D.rt (.ref p) (upd H' p (.lst xs))
noncomputable def eG(M:Md)(G:Hp)(F0:Addr→Prop)(f:Sm):TS:=fun D σ H=>∃ρ F fl,aN M G F0 H F σ ρ∧f ρ=.ok fl∧kh M G F0 H F D fl
noncomputable abbrev JS(X:Cx)(st:Stmt)(f:Sm):Prop:=∀F0,PS X st (eG (av X) X.fH F0 f)
noncomputable abbrev cN(X:Cx)(sts:List Stmt)(f:Sm):Prop:=∀F0,bK X sts (eG (av X) X.fH F0 f)
theorem b9{X:Cx}{e:Stmt}{t t':TS}(h:PS X e t')(hi:∀D σ H,t D σ H→t' D σ H):PS X e t:=fun pins s σ H Q I q=>h pins s σ H Q I (hi Q σ H q)
theorem qx{X:Cx}{e:List Stmt}{t t':TS}(h:bK X e t')(hi:∀D σ H,t D σ H→t' D σ H):bK X e t:=fun pins s σ H Q I q=>h pins s σ H Q I (hi Q σ H q)
theorem Mv.refl{F:Addr→Prop}{H:Hp}:Mv F H F H:=fun _ _ n e=>⟨n,e⟩
section
variable{X:Cx}{M:Md}{G H H':Hp}{F0 F F':Addr→Prop}{σ:L2.St}{ρ:En}{pos:Pos}{DE:Ends}
theorem aN.same(r:aN M G F0 H F σ ρ)(h:af H H'):aN M G F0 H' F σ ρ:=⟨r.rs.same h,r.sm.trans h,r.sub,r.dm,r.own,fun i xss b e hb=>r.eS i xss b e (r.rs.on.back (fun _ e=>e) rfl (fun a u _ _ hu=>h _ _ hu) hb)⟩
theorem kh.mv(m:Mv F H F' H'):∀ {fl:Fl},kh M G F0 H F DE fl→kh M G F0 H' F' DE fl
 |.next _,h=>fun σ' H2 F2 m2 r=>h σ' H2 F2 (m.trans m2) r
 |.brk _,h=>fun σ' H2 F2 m2 r=>h σ' H2 F2 (m.trans m2) r
 |.cont _,h=>fun σ' H2 F2 m2 r=>h σ' H2 F2 (m.trans m2) r
 |.ret _,h=>fun σ' H2 F2 m2 a b r=>h σ' H2 F2 (m.trans m2) a b r
 |.cX _,h=>fun p H2 F2 xs ds e m2 a b c r=>h p H2 F2 xs ds e (m.trans m2) a b c r
theorem t9:cN X [] (aw []):=fun F0=>qx L2.w5 fun D σ H ⟨ρ,F,fl,r,e,q⟩=>by
 cases e
 exact q σ H F Mv.refl r
theorem CV:cN X [] cH:=t9
theorem vV{f g:Sm}{t u:TS}(hf:∀D σ H,eG M G F0 f D σ H→t D σ H)(hg:∀D σ H,eG M G F0 g D σ H→u D σ H)(D:Ends)(σ:L2.St)(H:Hp)(h:eG M G F0 (sG f g) D σ H):L2.pE t u D σ H:=by
 obtain⟨ρ,F,fl,r,e,q⟩:=h
 obtain⟨f1,e1,e⟩:=ai.mp e
 refine hf _ _ _ ⟨ρ,F,f1,r,e1,?_⟩
 cases f1 with
 |next ρ1=>exact fun σ1 H1 F1 m1 r1=>hg D σ1 H1 ⟨ρ1,F1,fl,r1,e,q.mv m1⟩
 |ret d=>cases e;exact q
 |brk d=>cases e;exact q
 |cont d=>cases e;exact q
 |cX d=>cases e;exact q
theorem Ae{st:Stmt}{rest:List Stmt}{f:Sm}{fs:List Sm}(h1:JS X st f)(h2:cN X rest (aw fs)):cN X (st::rest) (aw (f::fs)):=fun F0=>
 qx (L2.xU (h1 F0) (h2 F0)) fun D σ H h=>vV (fun _ _ _ h=>h) (fun _ _ _ h=>h) D σ H h
theorem Ac{st:Stmt}{f:Sm}(h:JS X st f):cN X [st] f:=fun F0=>L2.yu (h F0)
theorem uq{c:Expr}{a b:List Stmt}{fc:aJ}{fa fb:Sm}(hc:JT X c fc)(ha:cN X a fa)(hb:cN X b fb):JS X (.If c a b pos) (cF fc fa fb):=fun F0=>
 b9 (L2.B1 hc (ha F0) (hb F0)) fun D σ H ⟨ρ,F,fl,r,e,q⟩=>by
   obtain⟨t,et,e⟩:=ai.mp e
   refine⟨ρ,F,t,r.rs,et,fun H1 s1=>?_⟩
   split at e
   ·rename_i h;rw[if_pos h];exact⟨ρ,F,fl,r.same s1,e,q.mv (.same s1)⟩
   ·rename_i h;rw[if_neg h];exact⟨ρ,F,fl,r.same s1,e,q.mv (.same s1)⟩
theorem BH{a:Expr}{fa:Ex}(ha:JE X a fa):JS X (.Return (some a) pos) (bC fa):=fun F0=>
 b9 (L2.n4 ha) fun D σ H ⟨ρ,F,fl,r,e,q⟩=>by
   obtain⟨d,ed,e⟩:=ai.mp e
   cases e
   exact⟨ρ,F,d,r.rs,ed,fun v H1 s1 rv=>q v H1 F (.same s1) (r.sm.trans s1) r.sub rv⟩
noncomputable def pz(M:Md)(G:Hp)(F0:Addr→Prop)(g:bo):TG:=fun v σ H Q=>∃ρ F d ρ',aN M G F0 H F σ ρ∧Rep M H F d v∧g d ρ=.ok ρ'∧∀σ',aN M G F0 H F σ' ρ'→Q σ' H
noncomputable def oR(M:Md)(G:Hp)(F0:Addr→Prop)(g:List D→En→R En):L2.eZ:=fun vs σ H Q=>∃ρ F ds ρ',aN M G F0 H F σ ρ∧ab M H F ds vs∧g ds ρ=.ok ρ'∧∀σ',aN M G F0 H F σ' ρ'→Q σ' H
noncomputable abbrev JG(X:Cx)(e:Expr)(g:bo):Prop:=∀F0,PG X e (pz (av X) X.fH F0 g)
noncomputable abbrev ji(X:Cx)(es:List Expr)(g:List D→En→R En):Prop:=∀F0,cJ X es (oR (av X) X.fH F0 g)
theorem qT{X:Cx}{e:Expr}{t t':TG}(h:PG X e t')(hi:∀v σ H Q,t v σ H Q→t' v σ H Q):PG X e t:=fun pins s σ H x u Q I rx q=>h pins s σ H x u Q I rx (hi x σ H Q q)
theorem qW{X:Cx}{e:List Expr}{t t':L2.eZ}(h:cJ X e t')(hi:∀v σ H Q,t v σ H Q→t' v σ H Q):cJ X e t:=fun pins s σ H x u Q I rx q=>h pins s σ H x u Q I rx (hi x σ H Q q)
theorem aX.df{ρ:En}{i j:Nat}{d:D}(h:aX (ρ.set i (.sh d)) j):i≠j∧aX ρ j:=by
 rcases h with⟨ds,q⟩|⟨ks,ds,q⟩
 · rcases get_set q with⟨_,x,_⟩|⟨hne,q⟩
   ·cases x
   ·exact⟨hne,.inl ⟨ds,q⟩⟩
 · rcases get_set q with⟨_,x,_⟩|⟨hne,q⟩
   ·cases x
   ·exact⟨hne,.inr ⟨ks,ds,q⟩⟩
theorem aN.lY{i:Nat}{d:D}{v:V}(r:aN M G F0 H F σ ρ)(h:Rep M H F d v):aN M G F0 H F (σ.set i (some v)) (ρ.set i (.sh d)) where
 rs:=r.rs.lY h
 sm:=r.sm
 sub:=r.sub
 dm:=r.dm
 own j a o e:=by
   obtain⟨ne,o⟩:=o.df
   rw[List.getElem?_set_ne ne]at e
   exact r.own j a o e
 eS j xss b e hb:=by
   rcases get_set e with⟨_,x,_⟩|⟨hne,e⟩
   ·cases x
   ·exact r.eS j xss b e (r.rs.on.back (fun y ey=>by rw[List.getElem?_set_ne hne]at ey;exact ey) (List.getElem?_set_ne hne) (fun a u _ _ hu=>hu) hb)
theorem Cz(i:Nat){x:Str}(hN:X.N.Nodup)(hi:X.N[i]? =some x:=by rfl)(hx:L2.Loc X.env.scope x:=by exact Or.inl rfl)(hf:X.fn x=true∨X.env.scope.names.lookup x=some .local:=by first|exact .inl rfl|exact .inr rfl):JG X (.Name x pos) (ar i):=fun F0=>
 qT (L2.yc hN hi hx hf) fun v σ H Q ⟨ρ,F,d,ρ',r,rv,e,q⟩=>by
   cases e
   exact q _ (r.lY rv)
theorem yt:ji X [] (ck []):=fun F0=>
 qW L2.AO fun vs σ H Q ⟨ρ,F,ds,ρ',r,rv,e,q⟩=>by
   cases ds with
   |nil=>cases e;simp only[ab]at rv;exact⟨rv,q _ r⟩
   |cons _ _=>cases e
theorem zI{is:List Nat}{i:Nat}{t:TG}{u:L2.eZ}(ht:∀v σ H Q,pz M G F0 (ar i) v σ H Q→t v σ H Q)(hu:∀v σ H Q,oR M G F0 (ck is) v σ H Q→u v σ H Q)(vs:List V)(σ:L2.St)(H:Hp)(Q:L2.St→Hp→Prop)
   (h:oR M G F0 (ck (i::is)) vs σ H Q):L2.uc t u vs σ H Q:=by
 obtain⟨ρ,F,ds,ρ',r,rv,e,q⟩:=h
 cases ds with
 |nil=>cases e
 | cons d ds=>
   simp only[ab]at rv
   obtain⟨x,xs,rfl,rx,rxs⟩:=rv
   refine⟨x,xs,rfl,ht _ _ _ _ ⟨ρ,F,d,_,r,rx,rfl,fun σ1 r1=>hu _ _ _ _ ⟨_,F,ds,ρ',r1,rxs,e,q⟩⟩⟩
theorem wH(i:Nat){is:List Nat}{e:Expr}{es:List Expr}(h1:JG X e (ar i))(h2:ji X es (ck is))(hs:(assignEach (e::es) X.env).map (·.2)=assign e X.env::(assignEach es X.env).map (·.2):=by rfl):ji X (e::es) (ck (i::is)):=fun F0=>
 qW (L2.AL (h1 F0) (h2 F0) hs) fun vs σ H Q h=>zI (fun _ _ _ _ h=>h) (fun _ _ _ _ h=>h) vs σ H Q h
theorem n5:∀ {is:List Nat} {ds:List D} {ρ ρ':En},ck is ds ρ=.ok ρ'→ds.length=is.length
 |[],[],_,_,_=>rfl
 |_::_,_::_,_,_,h=>by simp only[ck]at h;simp[n5 h]
 |[],_::_,_,_,h=>by cases h
 |_::_,[],_,_,h=>by cases h
theorem qZ{is:List Nat}{es:List Expr}{k:Nat}(hc:X.calm=true)(h:ji X es (ck is))(hn:(assignEach es X.env).length=is.length:=by rfl)(hst:(assignEach es X.env).findIdx? (·.1)=none:=by rfl):JG X (.Tuple es k pos) (gu is):=fun F0=>
 qT (L2.zh hc (h F0) hn hst) fun v σ H Q ⟨ρ,F,d,ρ',r,rv,e,q⟩=>by
   unfold gu at e
   split at e
   · rename_i ds
     simp only[Rep]at rv
     obtain⟨a,xs,rfl,h1,rs⟩:=rv
     exact⟨a,xs,rfl,h1.sq,by rw[←rs.length];exact n5 e,ρ,F,ds,ρ',r,rs,e,q⟩
   ·cases e
theorem Cc{tg e:Expr}{fa:Ex}{g:bo}(ha:JE X e fa)(hg:JG X tg g)(hs:swapsWithSole [tg] e pos.line X.env=pure false:=by rfl)(hw:swappedStores [tg] e X.env=pure none:=by rfl)(h1:(assignEach [tg] X.env).map (·.2)=[assign tg X.env]:=by rfl):JS X (.Assign [tg] e pos) (aR g fa):=fun F0=>
 b9 (L2.sI ha (hg F0) hs hw h1) fun D σ H ⟨ρ,F,fl,r,e,q⟩=>by
   obtain⟨d,ed,e⟩:=ai.mp e
   obtain⟨ρ',eg,e⟩:=ai.mp e
   cases e
   exact⟨ρ,F,d,r.rs,ed,fun v H1 s1 rv=>⟨ρ,F,d,ρ',r.same s1,rv,eg,fun σ' r'=>q σ' H1 F (.same s1) r'⟩⟩
noncomputable def Gives(M:Md)(J:L2.It)(H1:Hp)(F1:Addr→Prop)(ds:List D):Prop:=∀H F,Mv F1 H1 F H→(∀p,F p→∃o,H p=some o)→
 (∀i d,ds[i]? =some d→J.go i H∧∀x H',J.jZ i H x H'→af H H'∧Rep M H' F d x)∧J.stop ds.length H
noncomputable def xl(M:Md)(f:En→R (List D)):TI:=fun σ H Rr=>∃ρ F ds,aO M H F σ ρ∧f ρ=.ok ds∧∀J H',af H H'→Gives M J H' F ds→Rr J H'
noncomputable abbrev JI(X:Cx)(tg e:Expr)(f:bj):Prop:=L2.PI X tg e (xl (av X) f)
theorem kH{X:Cx}{tg e:Expr}{t t':TI}(h:L2.PI X tg e t')(hi:∀σ H Q,t σ H Q→t' σ H Q):L2.PI X tg e t:=fun pins s σ H Q I q=>h pins s σ H Q I (hi σ H Q q)
theorem yB{J:L2.It}{tg:bo}{body:Sm}{g:TG}{tb:TS}(hg:∀v σ H Q,pz M G F0 tg v σ H Q→g v σ H Q)(hb:∀D σ H,eG M G F0 body D σ H→tb D σ H)
   {H1:Hp} {F1:Addr→Prop} {ds:List D} (gv:Gives M J H1 F1 ds) {ρ:En} (r:aN M G F0 H1 F1 σ ρ) {fl:Fl} (e:forL tg body ds ρ=.ok fl) (q:kh M G F0 H1 F1 DE fl):
   ∃W:Nat→Nat→L2.St→Hp→Prop,(∃m,W 0 m σ H1)∧∀i m σ H,W i m σ H→
     (J.stop i H∧DE.nx σ H)∨(J.go i H∧∃N:L2.St→Hp→Prop,(∀σ' H',N σ' H'→∃m',m'<m∧W (i+1) m' σ' H')∧∀x H',J.jZ i H x H'→g x σ H' fun σ2 H2=>tb {DE with nx:=N,ct:=N,bk:=DE.nx} σ2 H2):=by
 refine⟨fun i m σ H=>m=ds.length - i∧i≤ds.length∧∃ρ F,Mv F1 H1 F H∧aN M G F0 H F σ ρ∧forL tg body (ds.drop i) ρ=.ok fl,⟨ds.length,by simp,Nat.zero_le _,ρ,F1,Mv.refl,r,e⟩,?_⟩
 rintro i m σ H ⟨rfl,hi,ρ,F,mv,r,e⟩
 obtain⟨g1,g2⟩:=gv H F mv r.rs.aU
 by_cases hlt:i<ds.length
 · refine .inr ⟨(g1 i ds[i] (by simp[hlt])).1,fun σ' H'=>i+1≤ds.length∧∃ρ F,Mv F1 H1 F H'∧aN M G F0 H' F σ' ρ∧forL tg body (ds.drop (i+1)) ρ=.ok fl,fun σ' H' p'=>⟨ds.length - (i+1),by omega,rfl,p'.1,p'.2⟩,fun x H' y=>?_⟩
   obtain⟨s1,rx⟩:=(g1 i ds[i] (by simp[hlt])).2 x H' y
   rw[List.drop_eq_getElem_cons hlt]at e
   unfold forL at e
   obtain⟨ρ1,e1,e⟩:=ai.mp e
   obtain⟨f,e2,e⟩:=ai.mp e
   refine hg _ _ _ _ ⟨ρ,F,ds[i],ρ1,r.same s1,rx,e1,fun σ2 r2=>hb _ _ _ ⟨ρ1,F,f,r2,e2,?_⟩⟩
   have mv1:Mv F1 H1 F H':=mv.trans (.same s1)
   cases f with
   |next ρ2=>exact fun σ3 H3 F3 m3 r3=>⟨hlt,ρ2,F3,mv1.trans m3,r3,e⟩
   |cont ρ2=>exact fun σ3 H3 F3 m3 r3=>⟨hlt,ρ2,F3,mv1.trans m3,r3,e⟩
   |brk ρ2=>cases e;exact fun σ3 H3 F3 m3 r3=>q σ3 H3 F3 (mv1.trans m3) r3
   |ret d=>cases e;exact fun v H3 F3 m3 a b rv=>q v H3 F3 (mv1.trans m3) a b rv
   |cX d=>cases e;exact fun p H3 F3 xs ds e m3 a b c rv=>q p H3 F3 xs ds e (mv1.trans m3) a b c rv
 · have ei:i=ds.length:=by omega
   subst ei
   rw[List.drop_length]at e
   cases e
   exact .inl ⟨g2,q σ H F mv r⟩
theorem C3{tg iter:Expr}{body:List Stmt}{it:bj}{g:bo}{f:Sm}(hp:PassesOwn (model X.prog X.w) X.A X.env X.xe)(hc:X.calm=true)(hi:JI X tg iter it)(hg:JG X tg g)(hb:cN X body f)
   (hs:∀x,foldedSetIterable iter X.env x=pure x:=by intro _;rfl):JS X (.For tg iter body [] pos) (bu it g f):=fun F0=>
 b9 (L2.xo hp hc hi (hg F0) (hb F0) hs) fun D σ H ⟨ρ,F,fl,r,e,q⟩=>by
   obtain⟨ds,ed,e⟩:=ai.mp e
   exact⟨ρ,F,ds,r.rs,ed,fun J H1 s1 gv=>yB (fun _ _ _ _ h=>h) (fun _ _ _ h=>h) gv (r.same s1) e (q.mv (.same s1))⟩
theorem y7{a:Addr}{xs:List V}{ds:List D}(h:eI M H F a xs)(rs:ab M H F ds xs):Gives M (L2.ku M.K a) H F ds:=by
 intro H' F' mv tr
 have h':=h.mv mv
 have rs':=rs.mv mv
 refine⟨fun i d hd=>?_,?_⟩
 · obtain⟨x,hx,rx⟩:=rs'.get hd
   refine⟨⟨xs,x,h'.sq,hx⟩,fun y H2 hy=>?_⟩
   obtain⟨rfl,hy⟩:=hy
   have:=hy xs h'.sq
   rw[hx]at this
   cases this
   exact⟨af.refl _,rx⟩
 ·exact⟨xs,h'.sq,by rw[rs.length];exact Nat.le_refl _⟩
theorem vY{a:Addr}{xs:List V}{ds:List D}(h:eM M H F a xs)(rs:ab M H F ds xs):Gives M (L2.jU M.K a) H F ds:=by
 intro H' F' mv tr
 have h':=h.mv mv
 have rs':=rs.mv mv
 refine⟨fun i d hd=>?_,?_⟩
 · obtain⟨x,hx,rx⟩:=rs'.get hd
   refine⟨⟨xs,x,h'.sq,hx⟩,fun y H2 hy=>?_⟩
   obtain⟨rfl,hy⟩:=hy
   have:=hy xs h'.sq
   rw[hx]at this
   cases this
   exact⟨af.refl _,rx⟩
 ·exact⟨xs,h'.sq,by rw[rs.length];exact Nat.le_refl _⟩
theorem uf{lo hi:Int}:Gives M (L2.bj lo (hi - lo).toNat) H F (bB lo hi):=by
 intro H' F' mv tr
 refine⟨fun i d hd=>?_,?_⟩
 · unfold bB at hd
   rw[List.getElem?_map]at hd
   cases e:(List.range (hi - lo).toNat)[i]? with
   |none=>rw[e]at hd;cases hd
   | some k=>
     rw[e]at hd
     obtain⟨hlt,hk⟩:=List.getElem?_eq_some_iff.mp e
     simp at hk hlt hd
     subst hk hd
     refine⟨show i<(hi - lo).toNat by omega,fun y H2 hy=>?_⟩
     obtain⟨rfl,rfl⟩:=hy
     exact⟨af.refl _,bW⟩
 · show(hi - lo).toNat≤(bB lo hi).length
   unfold bB;simp
@[simp] noncomputable def DS:D→R (List D)
 |.tup xs=>.ok xs
 |_=>.bad
theorem lg{j:Int}(h:inR j=true): -(2 ^ 62)≤j∧j<2 ^ 62:=by
 unfold inR at h
 rw[Bool.and_eq_true,decide_eq_true_eq,decide_eq_true_eq]at h
 exact⟨by omega,by omega⟩
theorem wG{tg a:Expr}{fa:Ex}{p:Pos}(hg:L2.Gl X "range")(hm:X.mg "range"=none)(ha:JE X a fa)(hs:starEach [a] X.env=(false,eval a X.env)::starEach [] X.env:=by rfl):JI X tg (.Call (.Name "range" p) [a] [] pos) (dB fa):=
 kH (L2.y0 hg hm (cL ha dM hs) hs) fun σ H Q ⟨ρ,F,ds,r,e,q⟩=>by
   obtain⟨d,ed,e⟩:=ai.mp e
   refine⟨ρ,F,[d],r,by show(fa ρ).bind _=_;rw[ed];rfl,fun vs H1 s1 rv=>?_⟩
   obtain⟨x,rfl,rx⟩:=rv.one
   split at e
   · split at e
     · rename_i j hj
       cases e
       have hj:=lg hj
       have:=q (L2.bj 0 j.toNat) H1 s1 (by have:=uf (M:=av X) (H:=H1) (F:=F) (lo:=0) (hi:=j);rwa[Int.sub_zero]at this)
       exact⟨j,by rw[aT rx],hj.1,hj.2,this⟩
     ·cases e
   ·cases e
theorem wB{tg a b:Expr}{fa fb:Ex}{p:Pos}(hg:L2.Gl X "range")(hm:X.mg "range"=none)(ha:JE X a fa)(hb:JE X b fb)(hs:starEach [a,b] X.env=(false,eval a X.env)::starEach [b] X.env:=by rfl)(hs2:starEach [b] X.env=(false,eval b X.env)::starEach [] X.env:=by rfl):
   JI X tg (.Call (.Name "range" p) [a,b] [] pos) (ix fa fb):=
 kH (L2.xC hg hm (cL ha (cL hb dM hs2) hs) (by rw[hs,hs2];rfl) hs2) fun σ H Q ⟨ρ,F,ds,r,e,q⟩=>by
   obtain⟨d,ed,e⟩:=ai.mp e
   obtain⟨d2,ed2,e⟩:=ai.mp e
   refine⟨ρ,F,[d,d2],r,by show(fa ρ).bind _=_;rw[ed];show((fb ρ).bind _).bind _=_;rw[ed2];rfl,fun vs H1 s1 rv=>?_⟩
   obtain⟨x,y,rfl,rx,ry⟩:=rv.two
   split at e
   · split at e
     · rename_i i j _ hj
       cases e
       rw[Bool.and_eq_true]at hj
       have h1:=lg hj.1
       have h2:=lg hj.2
       exact⟨i,j,by rw[aT rx,aT ry],⟨h1.1,h1.2,h2.1,h2.2⟩,q _ H1 s1 uf⟩
     ·cases e
   ·cases e
noncomputable def fU(M:Md)(m:List D→R D)(n:Nat):L2.Sp:=fun vs H Q _=>∃F ds d,(∀p,F p→∃o,H p=some o)∧ab M H F ds vs∧ds.length=n∧m ds=.ok d∧∀v H',af H H'→Rep M H' F d v→Q v H'
theorem Rep.sub(hs:∀a,F a→F' a){d:D}{v:V}(h:Rep M H F' d v):Rep M H F d v:=h.mv fun a o n e=>⟨fun f=>n (hs a f),e⟩
theorem tD{N:List Str}{n:Nat}{ds:List D}{vs:List V}(tr:∀p,F p→∃o,G p=some o)(rs:ab M G F ds vs)(hl:ds.length=n)(hn:n≤N.length):aN M G F G F (L2.start N vs) (ds.map Slot.sh++List.replicate (N.length - ds.length) .un):=by
 have hl2:=rs.length
 have no:∀i,¬aX (ds.map Slot.sh++List.replicate (N.length - ds.length) .un) i:=by
   intro i hi
   have:∀s,(ds.map Slot.sh++List.replicate (N.length - ds.length) Slot.un)[i]? =some s→(∃d,s=.sh d)∨s=.un:=by
     intro s hs
     rw[List.getElem?_append]at hs
     split at hs
     · rw[List.getElem?_map]at hs
       cases e1:ds[i]? with
       |none=>rw[e1]at hs;cases hs
       |some d'=>rw[e1]at hs;cases hs;exact .inl ⟨_,rfl⟩
     · rw[List.getElem?_replicate]at hs
       split at hs<;>cases hs
       exact .inr rfl
   rcases hi with⟨x,hx⟩|⟨k,x,hx⟩
   ·rcases this _ hx with⟨_,h⟩|h<;>cases h
   ·rcases this _ hx with⟨_,h⟩|h<;>cases h
 have aF:∀(i:Nat) xss,(ds.map Slot.sh++List.replicate (N.length - ds.length) Slot.un)[i]? ≠some (.on xss):=by
   intro i xss hs
   rw[List.getElem?_append]at hs
   split at hs
   · rw[List.getElem?_map]at hs
     cases e1:ds[i]? with
     |none=>rw[e1]at hs;cases hs
     |some d'=>rw[e1]at hs;cases hs
   · rw[List.getElem?_replicate]at hs
     split at hs<;>cases hs
 refine⟨⟨?_,tr,?_,?_,?_,?_,.no aF⟩,af.refl _,fun _ h=>h,tr,?_,fun i xss b e=>absurd e (aF i xss)⟩
 ·unfold L2.start;simp[hl2]
 · intro i d hd
   rw[List.getElem?_append]at hd
   split at hd
   · rw[List.getElem?_map]at hd
     cases e1:ds[i]? with
     |none=>rw[e1]at hd;cases hd
     | some d'=>
       rw[e1]at hd;cases hd
       obtain⟨v,ev,rv⟩:=rs.get e1
       refine⟨v,?_,rv⟩
       unfold L2.start
       rw[List.getElem?_append_left (by obtain⟨h,_⟩:=List.getElem?_eq_some_iff.mp ev;simpa using h),List.getElem?_map,ev];rfl
   · rw[List.getElem?_replicate]at hd
     split at hd<;>cases hd
 · intro i d hd
   rw[List.getElem?_append]at hd
   split at hd
   · rw[List.getElem?_map]at hd
     cases e1:ds[i]? with
     |none=>rw[e1]at hd;cases hd
     |some d'=>rw[e1]at hd;cases hd
   · rw[List.getElem?_replicate]at hd
     split at hd<;>cases hd
 · intro i k d hd
   rw[List.getElem?_append]at hd
   split at hd
   · rw[List.getElem?_map]at hd
     cases e1:ds[i]? with
     |none=>rw[e1]at hd;cases hd
     |some d'=>rw[e1]at hd;cases hd
   · rw[List.getElem?_replicate]at hd
     split at hd<;>cases hd
 · intro i j a oi
   exact absurd oi (no i)
 · intro i a oi
   exact absurd oi (no i)
theorem yx{N:List Str}{n:Nat}{body:Sm}{vs:List V}{Q:VK}{E:XK}{t:TS}(ht:∀F0 D σ H,eG M G F0 body D σ H→t D σ H)(h:fU M (fn N.length body) n vs G Q E)(hn:n≤N.length):t {nx:=fun _ H'=>Q .aF H',rt:=Q} (L2.start N vs) G:=by
 obtain⟨F,ds,d,tr,rs,hl,e,q⟩:=h
 obtain⟨f,ef,e⟩:=ai.mp e
 refine ht F _ _ _ ⟨_,F,f,tD tr rs hl hn,ef,?_⟩
 cases f with
 |next ρ'=>cases e;exact fun σ' H' F' mv r'=>q _ _ r'.sm pK
 |ret d'=>cases e;exact fun v H' F' mv sm sub rv=>q _ _ sm (rv.sub sub)
 |brk _=>cases e
 |cont _=>cases e
 |cX _=>cases e
noncomputable def kI(M:Md)(m:List D→R D)(n:Nat):L2.Sp:=fun vs H Q _=>∃F ds d,(∀p,F p→∃o,H p=some o)∧ab M H F ds vs∧ds.length=n∧m ds=.ok (.lst d)∧∀p H' xs,af H H'→H' p=none→ab M H' F d xs→Q (.ref p) (upd H' p (.lst xs))
theorem ab.sub(hs:∀a,F a→F' a){d:List D}{v:List V}(h:ab M H F' d v):ab M H F d v:=h.mv fun a o n e=>⟨fun f=>n (hs a f),e⟩
theorem zP{N:List Str}{n:Nat}{body:Sm}{vs:List V}{Q:VK}{E:XK}{t:TS}(ht:∀F0 D σ H,eG M G F0 body D σ H→t D σ H)(h:kI M (dX N.length body) n vs G Q E)(hn:n≤N.length):t {nx:=fun _ H'=>Q .aF H',rt:=Q} (L2.start N vs) G:=by
 obtain⟨F,ds,d,tr,rs,hl,e,q⟩:=h
 obtain⟨f,ef,e⟩:=ai.mp e
 refine ht F _ _ _ ⟨_,F,f,tD tr rs hl hn,ef,?_⟩
 cases f with
 | cX d'=>
   cases d' with
   |lst xs=>cases e;exact fun p H' F' ys ds e mv sm sub hp rv=>by cases e;exact q _ _ _ sm hp (rv.sub sub)
   |_=>cases e
 |_=>cases e
theorem yk(i:Nat){x:Str}{p2:Pos}(hN:X.N[i]? =some x:=by rfl)(hv:L2.aZ X.env.scope x:=by first|exact Or.inl rfl|exact Or.inr (Or.inl rfl)|exact Or.inr (Or.inr rfl))(hd:(x==("__debug__":Str))=false:=by decide)
   (hcd:(x==("__classdict__":Str))=false:=by decide):JS X (.Return (some (.Name x p2)) pos) (mR i):=fun F0=>
 b9 (L2.n4 (L2.pv i hN hv hd hcd)) fun D σ H ⟨ρ,F,fl,r,e,q⟩=>by
   unfold mR at e
   split at e
   · rename_i xs q1
     cases e
     obtain⟨a,ys,ea,fa,ha,rs⟩:=r.rs.ol i _ q1
     have hG:=r.own i a (.inl ⟨_,q1⟩) ea
     refine⟨_,ea,?_⟩
     have mv:Mv F H (fun b=>F b∧b≠a) (fun b=>if b=a then none else H b):=fun b o n e=>⟨fun h=>n h.1,by
       have hb:b≠a:=fun z=>by subst z;exact n fa
       simp only[if_neg hb];exact e⟩
     have key:=q a (fun b=>if b=a then none else H b) (fun b=>F b∧b≠a) ys xs rfl mv (fun b o e=>by
       have hb:b≠a:=fun z=>by subst z;rw[hG]at e;cases e
       simp only[if_neg hb];exact r.sm b o e) (fun b f=>⟨r.sub b f,fun z=>by subst z;obtain⟨o,e⟩:=r.dm _ f;rw[hG]at e;cases e⟩) (by simp) (rs.mv mv)
     have e2:upd (fun b=>if b=a then none else H b) a (.lst ys)=H:=by
       funext b
       unfold upd
       by_cases hb:b=a
       ·simp only[if_pos hb];rw[hb];exact ha.symm
       ·simp only[if_neg hb]
     rw[e2]at key
     exact key
   ·cases e
end
section
variable{X:Cx}{M:Md}{G H H':Hp}{F0 F F':Addr→Prop}{σ:L2.St}{ρ:En}{pos:Pos}{DE:Ends}
noncomputable def Own(M:Md)(H:Hp)(F:Addr→Prop)(s:Slot)(o:HO):Prop:=
 (∃ds xs,s=.ol ds∧o=.lst xs∧ab M H F ds xs)∨∃ks ds xs,s=.od ks ds∧o=.dK (ks.zip xs)∧ks.length=xs.length∧ab M H F ds xs
theorem Own.mv{s:Slot}{o:HO}(m:Mv F H F' H')(h:Own M H F s o):Own M H' F' s o:=by
 rcases h with⟨ds,xs,e1,e2,r⟩|⟨ks,ds,xs,e1,e2,l,r⟩
 ·exact .inl ⟨ds,xs,e1,e2,r.mv m⟩
 ·exact .inr ⟨ks,ds,xs,e1,e2,l,r.mv m⟩
theorem aO.ownAt(r:aO M H F σ ρ){i:Nat}(o:aX ρ i):∃a s u,ρ[i]? =some s∧σ[i]? =some (some (.ref a))∧F a∧H a=some u∧Own M H F s u:=by
 rcases o with⟨ds,q⟩|⟨ks,ds,q⟩
 · obtain⟨a,xs,h1,h2,h3,h4⟩:=r.ol i ds q
   exact⟨a,_,_,q,h1,h2,h3,.inl ⟨ds,xs,rfl,rfl,h4⟩⟩
 · obtain⟨a,xs,h1,h2,h3,h4,h5⟩:=r.od i ks ds q
   exact⟨a,_,_,q,h1,h2,h3,.inr ⟨ks,ds,xs,rfl,rfl,h4,h5⟩⟩
theorem jI{i j:Nat}{s:Slot}(h:aX (ρ.set i s) j):j=i∨(i≠j∧aX ρ j):=by
 rcases h with⟨ds,q⟩|⟨ks,ds,q⟩
 · rcases get_set q with⟨h,_,_⟩|⟨hne,q⟩
   ·exact .inl h.symm
   ·exact .inr ⟨hne,.inl ⟨ds,q⟩⟩
 · rcases get_set q with⟨h,_,_⟩|⟨hne,q⟩
   ·exact .inl h.symm
   ·exact .inr ⟨hne,.inr ⟨ks,ds,q⟩⟩
theorem aO.put{i:Nat}{a:Addr}{s:Slot}{o:HO}(r:aO M H F σ ρ)(mv:Mv F H F' H')(hF:∀b,F b→F' b)(ha:F' a)(ho:H' a=some o)(hk:∀b u,F b→b≠a→H b=some u→H' b=some u)(htr:∀b,F' b→F b∨b=a)
   (hn:∀j,j≠i→aX ρ j→σ[j]? ≠some (some (.ref a))) (hon:∀(j:Nat) xss b,j≠i→ρ[j]? =some (.on xss)→dh M H F σ ρ j b→b≠a) (own:Own M H' F' s o):aO M H' F' (σ.set i (some (.ref a))) (ρ.set i s) where
 len:=by simp[r.len]
 aU b f:=by
   by_cases e:b=a
   ·subst e;exact⟨o,ho⟩
   · rcases htr b f with f|f
     · obtain⟨u,hu⟩:=r.aU b f
       exact⟨u,hk b u f e hu⟩
     ·exact absurd f e
 sh j d q:=by
   rcases get_set q with⟨rfl,hx,hl⟩|⟨hne,q⟩
   ·rcases own with⟨ds,xs,rfl,_⟩|⟨ks,ds,xs,rfl,_⟩<;>cases hx
   · obtain⟨w,e1,g⟩:=r.sh j d q
     exact⟨w,by rw[List.getElem?_set_ne hne];exact e1,g.mv mv⟩
 ol j d q:=by
   rcases get_set q with⟨rfl,x,hl⟩|⟨hne,q⟩
   · rcases own with⟨ds,xs,rfl,rfl,rs⟩|⟨ks,ds,xs,rfl,_⟩
     · cases x
       exact⟨a,xs,by rw[List.getElem?_set_self (by rw[←r.len];exact hl)],ha,ho,rs⟩
     ·cases x
   · obtain⟨b,xs,e1,f,e2,g⟩:=r.ol j d q
     refine⟨b,xs,by rw[List.getElem?_set_ne hne];exact e1,hF _ f,hk _ _ f ?_ e2,g.mv mv⟩
     rintro rfl
     exact hn j (Ne.symm hne) (.inl ⟨_,q⟩) e1
 od j k d q:=by
   rcases get_set q with⟨rfl,x,hl⟩|⟨hne,q⟩
   · rcases own with⟨ds,xs,rfl,_⟩|⟨ks,ds,xs,rfl,rfl,l,rs⟩
     ·cases x
     · cases x
       exact⟨a,xs,by rw[List.getElem?_set_self (by rw[←r.len];exact hl)],ha,ho,l,rs⟩
   · obtain⟨b,xs,e1,f,e2,l,g⟩:=r.od j k d q
     refine⟨b,xs,by rw[List.getElem?_set_ne hne];exact e1,hF _ f,hk _ _ f ?_ e2,l,g.mv mv⟩
     rintro rfl
     exact hn j (Ne.symm hne) (.inr ⟨_,_,q⟩) e1
 bM j k b oj ok ej ek:=by
   have self:∀c,(σ.set i (some (.ref a)))[i]? =some (some (.ref c))→c=a:=fun c h=>by
     rw[List.getElem?_set_self']at h
     cases hq:σ[i]? with
     |none=>rw[hq]at h;cases h
     |some z=>rw[hq]at h;cases h;rfl
   rcases jI oj with hj|⟨nj,oj⟩
   · rcases jI ok with hk2|⟨nk,ok⟩
     ·rw[hj,hk2]
     · rw[hj]at ej
       rw[List.getElem?_set_ne nk]at ek
       cases self _ ej
       exact absurd ek (hn k (Ne.symm nk) ok)
   · rw[List.getElem?_set_ne nj]at ej
     rcases jI ok with hk2|⟨nk,ok⟩
     · rw[hk2]at ek
       cases self _ ek
       exact absurd ej (hn j (Ne.symm nj) oj)
     · rw[List.getElem?_set_ne nk]at ek
       exact r.bM j k b oj ok ej ek
 on:=by
   have old:∀(j:Nat) xss,(ρ.set i s)[j]? =some (.on xss)→i≠j∧ρ[j]? =some (.on xss):=fun j xss e=>by
     rcases get_set e with⟨_,x,_⟩|⟨hne,e⟩
     ·rcases own with⟨ds,xs,rfl,_⟩|⟨ks,ds,xs,rfl,_⟩<;>cases x
     ·exact⟨hne,e⟩
   refine r.on.mv mv (fun j xss e=>⟨(old j xss e).2,List.getElem?_set_ne (old j xss e).1⟩) (fun j xss b u e hb f hu=>⟨hF b f,hk b u f (hon j xss b (Ne.symm (old j xss e).1) (old j xss e).2 hb) hu⟩) fun j xss b e hb k ok=>?_
   obtain⟨hne,e0⟩:=old j xss e
   rcases jI ok with rfl|⟨nk,ok⟩
   · intro h
     rw[List.getElem?_set_self']at h
     cases hq:σ[k]? with
     |none=>rw[hq]at h;cases h
     |some z=>rw[hq]at h;cases h;exact hon j xss _ (Ne.symm hne) e0 hb rfl
   · rw[List.getElem?_set_ne nk]
     exact(r.on j xss e0).2.1 b hb k ok
theorem aN.new{i:Nat}{p:Addr}{s:Slot}{o:HO}(r:aN M G F0 H F σ ρ)(hp:H p=none)(own:Own M H F s o):
   Mv F H (fun b=>F b∨b=p) (upd H p o)∧aN M G F0 (upd H p o) (fun b=>F b∨b=p) (σ.set i (some (.ref p))) (ρ.set i s):=by
 have ne:∀b u,H b=some u→b≠p:=fun b u e z=>by subst z;rw[hp]at e;cases e
 have mv:Mv F H (fun b=>F b∨b=p) (upd H p o):=fun b u n e=>⟨fun h=>h.elim n (ne b u e),by rw[L2.az (ne b u e)];exact e⟩
 have hG:G p=none:=r.sm.free hp
 refine⟨mv,⟨r.rs.put mv (fun _ h=>.inl h) (.inr rfl) L2.bF (fun b u _ n e=>by rw[L2.az n];exact e) (fun _ h=>h) (fun j _ oj e=>?_) (fun j xss b _ e hb z=>by
     obtain⟨_,xs,hx⟩:=d5.f hb
     exact ne b _ hx z) (own.mv mv),fun b u e=>by rw[L2.az (ne b u (r.sm b u e))];exact r.sm b u e,fun b h=>.inl (r.sub b h),r.dm,fun j a oj e=>?_,fun j xss b e hb=>?_⟩⟩
 · obtain⟨a,_,u,_,e1,_,e2,_⟩:=r.rs.ownAt oj
   rw[e1]at e;cases e
   exact ne _ _ e2 rfl
 · rcases jI oj with rfl|⟨nj,oj⟩
   · rw[List.getElem?_set]at e
     split at e
     · split at e
       ·cases e;exact hG
       ·cases e
     ·rename_i h;exact absurd rfl h
   · rw[List.getElem?_set_ne nj]at e
     exact r.own j a oj e
 · rcases get_set e with⟨_,x,_⟩|⟨hne,e⟩
   ·rcases own with⟨ds,xs,rfl,_⟩|⟨ks,ds,xs,rfl,_⟩<;>cases x
   ·exact r.eS j xss b e (r.rs.on.back (fun y ey=>by rw[List.getElem?_set_ne hne]at ey;exact ey) (List.getElem?_set_ne hne) (fun a u _ _ hu=>by rw[L2.az (ne a u hu)];exact hu) hb)
theorem aN.chg{i:Nat}{a:Addr}{s:Slot}{o:HO}(r:aN M G F0 H F σ ρ)(oi:aX ρ i)(ei:σ[i]? =some (some (.ref a)))(own:Own M H F s o):
   Mv F H F (upd H a o)∧aN M G F0 (upd H a o) F σ (ρ.set i s):=by
 obtain⟨a',_,u,_,e1,fa,e2,_⟩:=r.rs.ownAt oi
 rw[ei]at e1;cases e1
 have mv:Mv F H F (upd H a o):=fun b v n e=>⟨n,by rw[L2.az (fun z=>by subst z;exact n fa)];exact e⟩
 have hG:=r.own i a oi ei
 have hs:σ.set i (some (.ref a))=σ:=by
   obtain⟨hl,h⟩:=List.getElem?_eq_some_iff.mp ei
   rw[←h];exact List.set_getElem_self hl
 have key:=r.rs.put (i:=i) mv (fun _ h=>h) fa L2.bF (fun b u _ n e=>by rw[L2.az n];exact e) (fun _ h=>.inl h) (fun j nj oj e=>nj (r.rs.bM j i a oj oi e ei)) (fun j xss b _ e hb z=>by subst z;exact(r.rs.on j xss e).2.1 _ hb i oi ei) (own.mv mv)
 rw[hs]at key
 refine⟨mv,⟨key,fun b u e=>by rw[L2.az (fun z=>by subst z;rw[hG]at e;cases e)];exact r.sm b u e,r.sub,r.dm,fun j b oj e=>?_,fun j xss b e hb=>?_⟩⟩
 · rcases jI oj with rfl|⟨nj,oj⟩
   ·rw[ei]at e;cases e;exact hG
   ·exact r.own j b oj e
 · rcases get_set e with⟨_,x,_⟩|⟨hne,e⟩
   ·rcases own with⟨ds,xs,rfl,_⟩|⟨ks,ds,xs,rfl,_⟩<;>cases x
   · refine r.eS j xss b e (r.rs.on.back (fun y ey=>by rw[List.getElem?_set_ne hne]at ey;exact ey) rfl (fun c u hc _ hu=>?_) hb)
     rw[L2.az (fun z=>by subst z;exact(r.rs.on j xss e).2.1 _ hc i oi ei)];exact hu
theorem pX{i:Nat}{a:Addr}{d:D}(r:d5 M H F σ ρ)(oi:aX ρ i)(ei:σ[i]? =some (some (.ref a)))(mv:Mv F H F' H)(hF:∀b,F b→b≠a→F' b):d5 M H F' σ (ρ.set i (.sh d)):=by
 have old:∀(j:Nat) xss,(ρ.set i (.sh d))[j]? =some (.on xss)→ρ[j]? =some (.on xss):=fun j xss e=>by
   rcases get_set e with⟨_,x,_⟩|⟨hne,e⟩
   ·cases x
   ·exact e
 refine r.mv mv (fun j xss e=>⟨old j xss e,rfl⟩) (fun j xss b u e hb f hu=>⟨hF b f fun z=>?_,hu⟩) fun j xss b e hb k ok=>(r j xss (old j xss e)).2.1 b hb k ok.df.2
 subst z
 exact(r j xss (old j xss e)).2.1 _ hb i oi ei
theorem aN.wz{i:Nat}{a:Addr}{s:Slot}{d:D}(r:aN M G F0 H F σ ρ)(oi:aX ρ i)(es:ρ[i]? =some s)(ei:σ[i]? =some (some (.ref a)))(hd:∃ds,s=.ol ds∧d=.lst ds):
   ∃F',(F'=fun b=>F b∧b≠a)∧Mv F H F' H∧aN M G F0 H F' σ (ρ.set i (.sh d)):=by
 obtain⟨a',s',u,es',e1,fa,e2,ow⟩:=r.rs.ownAt oi
 rw[ei]at e1;cases e1
 rw[es]at es';cases es'
 have hG:=r.own i a oi ei
 have mv:Mv F H (fun b=>F b∧b≠a) H:=fun b v n e=>⟨fun h=>n h.1,e⟩
 have hrep:Rep M H (fun b=>F b∧b≠a) d (.ref a):=by
   obtain⟨ds,rfl,rfl⟩:=hd
   rcases ow with⟨ds',xs,h1,rfl,rs⟩|⟨ks,ds,xs,h1,_⟩
   · cases h1
     simp only[Rep]
     exact⟨a,xs,rfl,.inl ⟨fun h=>h.2 rfl,.inl e2⟩,rs.mv mv⟩
   ·cases h1
 refine⟨fun b=>F b∧b≠a,rfl,mv,⟨⟨by simp[r.rs.len],fun b h=>r.rs.aU b h.1,?_,?_,?_,?_,?_⟩,r.sm,fun b h=>⟨r.sub b h,fun z=>by subst z;obtain⟨o,e⟩:=r.dm _ h;rw[hG]at e;cases e⟩,r.dm,?_,?_⟩⟩
 · intro j e q
   rcases get_set q with⟨rfl,hx,hl⟩|⟨hne,q⟩
   · cases hx
     exact⟨_,ei,hrep⟩
   · obtain⟨w,e1,g⟩:=r.rs.sh j e q
     exact⟨w,e1,g.mv mv⟩
 · intro j e q
   rcases get_set q with⟨rfl,x,hl⟩|⟨hne,q⟩
   ·cases x
   · obtain⟨b,xs,e1,f,e3,g⟩:=r.rs.ol j e q
     exact⟨b,xs,e1,⟨f,fun z=>by subst z;exact hne (r.rs.bM i j _ oi (.inl ⟨_,q⟩) ei e1)⟩,e3,g.mv mv⟩
 · intro j k e q
   rcases get_set q with⟨rfl,x,hl⟩|⟨hne,q⟩
   ·cases x
   · obtain⟨b,xs,e1,f,e3,l,g⟩:=r.rs.od j k e q
     exact⟨b,xs,e1,⟨f,fun z=>by subst z;exact hne (r.rs.bM i j _ oi (.inr ⟨_,_,q⟩) ei e1)⟩,e3,l,g.mv mv⟩
 · intro j k b oj ok ej ek
   exact r.rs.bM j k b oj.df.2 ok.df.2 ej ek
 ·exact pX r.rs.on oi ei mv (fun b f n=>⟨f,n⟩)
 · intro j b oj e
   exact r.own j b oj.df.2 e
 · intro j xss b e hb
   rcases get_set e with⟨_,x,_⟩|⟨hne,e⟩
   ·cases x
   ·exact r.eS j xss b e (r.rs.on.back (fun y ey=>by rw[List.getElem?_set_ne hne]at ey;exact ey) rfl (fun c u _ _ hu=>hu) hb)
theorem aN.frz{i:Nat}{a:Addr}{s:Slot}{u:HO}{d:D}(r:aN M G F0 H F σ ρ)(oi:aX ρ i)(es:ρ[i]? =some s)(ei:σ[i]? =some (some (.ref a)))(hd:∃ds,s=.ol ds∧d=.lst ds):
   ∃F',Mv F H F' H∧aN M G F0 H F' σ (ρ.set i (.sh d)):=let⟨F',_,m,h⟩:=r.wz oi es ei hd;⟨F',m,h⟩
theorem aN.z8{i:Nat}{ks:List Ky}{ds:List D}(r:aN M G F0 H F σ ρ)(es:ρ[i]? =some (.od ks ds)):∃a kvs,H a=some (.dK kvs)∧∀ob,∃F',(F'=fun b=>F b∧b≠a)∧Mv F H F' (upd H a (.frz ob (.dK kvs)))∧aN M G F0 (upd H a (.frz ob (.dK kvs))) F' σ (ρ.set i (.sh (.aD ks ds))):=by
 have oi:aX ρ i:=.inr ⟨_,_,es⟩
 obtain⟨a,xs,ei,fa,e2,hl,rs⟩:=r.rs.od i ks ds es
 refine⟨a,ks.zip xs,e2,fun ob=>?_⟩
 have hG:=r.own i a oi ei
 have ne:∀b,¬F b→b≠a:=fun b n z=>by subst z;exact n fa
 have mv:Mv F H (fun b=>F b∧b≠a) (upd H a (.frz ob (.dK (ks.zip xs)))):=fun b v n e=>⟨fun h=>n h.1,by rw[L2.az (ne b n)];exact e⟩
 refine⟨fun b=>F b∧b≠a,rfl,mv,⟨⟨by simp[r.rs.len],fun b h=>?_,?_,?_,?_,?_,?_⟩,fun b u e=>by rw[L2.az (fun z=>by subst z;rw[hG]at e;cases e)];exact r.sm b u e,fun b h=>⟨r.sub b h,fun z=>by subst z;obtain⟨o,e⟩:=r.dm _ h;rw[hG]at e;cases e⟩,r.dm,?_,?_⟩⟩
 · obtain⟨o,e⟩:=r.rs.aU b h.1
   exact⟨o,by rw[L2.az h.2];exact e⟩
 · intro j e q
   rcases get_set q with⟨rfl,hx,hl⟩|⟨hne,q⟩
   · cases hx
     refine⟨_,ei,?_⟩
     simp only[Rep]
     exact⟨a,xs,rfl,.inl ⟨fun h=>h.2 rfl,ob,L2.bF⟩,by assumption,rs.mv mv⟩
   · obtain⟨w,e1,g⟩:=r.rs.sh j e q
     exact⟨w,e1,g.mv mv⟩
 · intro j e q
   rcases get_set q with⟨rfl,x,hl⟩|⟨hne,q⟩
   ·cases x
   · obtain⟨b,ys,e1,f,e3,g⟩:=r.rs.ol j e q
     have hb:b≠a:=fun z=>by subst z;exact hne (r.rs.bM i j _ oi (.inl ⟨_,q⟩) ei e1)
     exact⟨b,ys,e1,⟨f,hb⟩,by rw[L2.az hb];exact e3,g.mv mv⟩
 · intro j k e q
   rcases get_set q with⟨rfl,x,hl⟩|⟨hne,q⟩
   ·cases x
   · obtain⟨b,ys,e1,f,e3,l,g⟩:=r.rs.od j k e q
     have hb:b≠a:=fun z=>by subst z;exact hne (r.rs.bM i j _ oi (.inr ⟨_,_,q⟩) ei e1)
     exact⟨b,ys,e1,⟨f,hb⟩,by rw[L2.az hb];exact e3,l,g.mv mv⟩
 · intro j k b oj ok ej ek
   exact r.rs.bM j k b oj.df.2 ok.df.2 ej ek
 · have old:∀(j:Nat) xss,(ρ.set i (.sh (.aD ks ds)))[j]? =some (.on xss)→ρ[j]? =some (.on xss):=fun j xss e=>by
     rcases get_set e with⟨_,x,_⟩|⟨hne,e⟩
     ·cases x
     ·exact e
   refine r.rs.on.mv mv (fun j xss e=>⟨old j xss e,rfl⟩) (fun j xss b u e hb f hu=>?_) fun j xss b e hb k ok=>(r.rs.on j xss (old j xss e)).2.1 b hb k ok.df.2
   have hba:b≠a:=fun z=>by subst z;exact(r.rs.on j xss (old j xss e)).2.1 _ hb i oi ei
   exact⟨⟨f,hba⟩,by rw[L2.az hba];exact hu⟩
 · intro j b oj e
   exact r.own j b oj.df.2 e
 · intro j xss b e hb
   rcases get_set e with⟨_,x,_⟩|⟨hne,e⟩
   ·cases x
   · refine r.eS j xss b e (r.rs.on.back (fun y ey=>by rw[List.getElem?_set_ne hne]at ey;exact ey) rfl (fun c u hc _ hu=>?_) hb)
     rw[L2.az (fun z=>by subst z;exact(r.rs.on j xss e).2.1 _ hc i oi ei)];exact hu
theorem xT(i:Nat){rest:List Stmt}{fs:List Sm}(h:cN X rest (aw fs)):cN X rest (aw (gg i::fs)):=fun F0 pins s σ H D I ⟨ρ,F,fl,r,e,q⟩=>by
 obtain⟨f1,e1,e⟩:=ai.mp e
 unfold gg at e1
 split at e1
 · rename_i xs q1
   cases e1
   have oi:aX ρ i:=.inl ⟨_,q1⟩
   obtain⟨a,_,_,_,ea,_⟩:=r.rs.ownAt oi
   obtain⟨F',mv,r'⟩:=r.frz (u:=.lst []) oi q1 ea ⟨_,rfl,rfl⟩
   exact h F0 pins s σ H D I ⟨_,F',fl,r',e,q.mv mv⟩
 · rename_i ks vs q1
   cases e1
   obtain⟨a,kvs,ha,k⟩:=r.z8 q1
   obtain⟨ob,I'⟩:=nv I ha
   obtain⟨F',_,mv,r'⟩:=k ob
   exact h F0 pins s σ _ D I' ⟨_,F',fl,r',e,q.mv mv⟩
 ·cases e1
noncomputable def kT(M:Md)(f:Ex):TE:=fun σ H Q=>∃ρ F ds,aO M H F σ ρ∧f ρ=.ok (.lst ds)∧∀p H' xs,af H H'→H' p=none→ab M H' F ds xs→Q (.ref p) (upd H' p (.lst xs))
noncomputable abbrev JF(X:Cx)(e:Expr)(f:Ex):Prop:=PE X e (kT (av X) f)
theorem xb{es:List Expr}{fs:List Ex}(h:JA X es (eList fs))(hl:fs.length≤1000:=by decide):JF X (.List es pos) (bD fs):=
 bc (L2.lX h) fun σ H Q ⟨ρ,F,d,hr,e,q⟩=>by
   obtain⟨as,ea,e⟩:=ai.mp e
   cases e
   refine⟨ρ,F,_,hr,ea,fun xs H1 s1 rs=>⟨?_,fun p hp=>q p H1 xs s1 hp rs⟩⟩
   rw[←rs.length,iI ea]
   exact Nat.le_trans hl (by decide)
theorem C0(i:Nat){x:Str}{e:Expr}{f:Ex}{p2:Pos}(hN:X.N.Nodup)(he:JF X e f)(hi:X.N[i]? =some x:=by rfl)(hx:L2.Loc X.env.scope x:=by exact Or.inl rfl)(hf:X.fn x=true∨X.env.scope.names.lookup x=some .local:=by first|exact .inl rfl|exact .inr rfl)
   (hs:swapsWith e (some (.Name x p2)) pos.line X.env=pure false:=by rfl):JS X (.Assign [.Name x p2] e pos) (dw i f):=fun F0=>
 b9 (L2.mK hN hi hx he hs hf) fun D σ H ⟨ρ,F,fl,r,e,q⟩=>by
   obtain⟨d,ed,e⟩:=ai.mp e
   split at e
   · cases e
     refine⟨ρ,F,_,r.rs,ed,fun p H1 xs s1 hp rs=>?_⟩
     obtain⟨mv,r'⟩:=(r.same s1).new (i:=i) (s:=.ol _) hp (.inl ⟨_,xs,rfl,rfl,rs⟩)
     exact q _ _ _ (Mv.trans (.same s1) mv) r'
   ·cases e
theorem uB(i:Nat){x:Str}{e:Expr}{f:Ex}{p2 apos cpos:Pos}(he:JE X e f)(hN:X.N[i]? =some x:=by rfl)(hv:L2.aZ X.env.scope x:=by first|exact Or.inl rfl|exact Or.inr (Or.inl rfl)|exact Or.inr (Or.inr rfl))(hd:(x==("__debug__":Str))=false:=by decide)
   (hcd:(x==("__classdict__":Str))=false:=by decide) (hbase:attributeBase (.Name x p2) "append" X.env (eval (.Name x p2) X.env)=eval (.Name x p2) X.env:=by rfl)
   (hfew:((backTo cpos (starEach [e] X.env)).all (fun x=> !x.1)&&(backToKw cpos (keywordEach [] X.env)).all (fun x=>x.1.isSome)
     &&decide (([e]:List Expr).length+([]:List Keyword).length+(if([]:List Keyword).isEmpty then 0 else 1)<30))=true:=by rfl)
   (hline:(apos.endLine==cpos.line)=true:=by rfl) (hs:starEach [e] X.env=(false,eval e X.env)::starEach [] X.env:=by rfl)
   (hsw:swapsWith (.Call (.Attribute (.Name x p2) "append" apos) [e] [] cpos) none pos.line X.env=pure false:=by rfl):
   JS X (.Expr (.Call (.Attribute (.Name x p2) "append" apos) [e] [] cpos) pos) (gT i f):=fun F0=>
 b9 (L2.i5 (L2.i3 PySem.F.plainAttrs_list PySem.F.slot_list_append PySem.F.type_list_append L2.kx (L2.pv i hN hv hd hcd) (cL he dM hs) hbase hfew hline hs) hsw) fun D σ H ⟨ρ,F,fl,r,e,q⟩=>by
   obtain⟨d,ed,e⟩:=ai.mp e
   split at e
   · rename_i xs q1
     split at e
     · rename_i hlt
       cases e
       have oi:aX ρ i:=.inl ⟨_,q1⟩
       obtain⟨a,ys,ea,fa,ha,rs⟩:=r.rs.ol i _ q1
       refine⟨_,ea,.inl ⟨rfl,ys,aM.of ha⟩,ρ,F,[d],r.rs,by show(f ρ).bind _=_;rw[ed];rfl,fun vs H1 s1 rv=>?_⟩
       obtain⟨y,rfl,ry⟩:=rv.one
       have r1:=r.same s1
       refine⟨a,ys,y,rfl,rfl,s1 _ _ ha,by rw[←rs.length];exact hlt,?_⟩
       obtain⟨mv,r'⟩:=r1.chg (s:=.ol (xs++[d])) oi ea (.inl ⟨_,ys++[y],rfl,rfl,(rs.mv (.same s1)).append (ab.cons ry ab.nil)⟩)
       exact q _ _ _ (Mv.trans (.same s1) mv) r'
     ·cases e
   ·cases e
theorem Ci(i:Nat){x:Str}{p p2:Pos}(hg:L2.Gl X "len")(hm:X.mg "len"=none)(hN:X.N[i]? =some x:=by rfl)(hv:L2.aZ X.env.scope x:=by first|exact Or.inl rfl|exact Or.inr (Or.inl rfl)|exact Or.inr (Or.inr rfl))(hd:(x==("__debug__":Str))=false:=by decide)
   (hcd:(x==("__classdict__":Str))=false:=by decide) (hs:starEach [.Name x p2] X.env=(false,eval (.Name x p2) X.env)::starEach [] X.env:=by rfl):JE X (.Call (.Name "len" p) [.Name x p2] [] pos) (cO i):=
 bc (L2.ke L2.nN hg hm cV (L2.fL (L2.pv i hN hv hd hcd) L2.fZ hs) (by decide) (by decide) hs) fun σ H Q ⟨ρ,F,d,hr,e,q⟩=>by
   unfold cO at e
   split at e
   · rename_i xs q1
     cases e
     obtain⟨a,ys,ea,fa,ha,rs⟩:=hr.ol i _ q1
     refine⟨_,ea,a,ys,rfl,.inl (aM.of ha),q _ _ (af.refl _) ?_⟩
     rw[←rs.length];exact bW
   ·cases e
theorem ye(i:Nat){x:Str}{b:Expr}{fb:Ex}{p2:Pos}(hb:JE X b fb)(hN:X.N[i]? =some x:=by rfl)(hv:L2.aZ X.env.scope x:=by first|exact Or.inl rfl|exact Or.inr (Or.inl rfl)|exact Or.inr (Or.inr rfl))(hd:(x==("__debug__":Str))=false:=by decide)
   (hcd:(x==("__classdict__":Str))=false:=by decide) (hs:L2.fu b:=by exact fun _ _=>rfl):JE X (.Subscript (.Name x p2) b pos) (gR i fb):=
 bc (L2.me L2.mN (L2.pv i hN hv hd hcd) hb hs) fun σ H Q ⟨ρ,F,d,hr,e,q⟩=>by
   obtain⟨y,ey,e⟩:=ai.mp e
   split at e
   · rename_i xs q1
     obtain⟨a,ys,ea,fa,ha,rs⟩:=hr.ol i _ q1
     refine⟨_,ea,ρ,F,y,hr,ey,fun z H1 s1 rz=>?_⟩
     cases y with
     | int k=>
       simp only[gG]at e
       split at e
       · rename_i v hv
         cases e
         have rs1:=rs.mv (M:=av X) (F':=F) (.same s1)
         obtain⟨j,w,_,h1,h2,h3⟩:=lA rs1.length hv
         obtain⟨z',hz,rz'⟩:=rs1.get h1
         rw[h2]at hz
         cases hz
         exact .inl ⟨a,ys,_,w,rfl,aT rz,aM.of (s1 _ _ ha),h3,q _ _ s1 rz'⟩
       ·cases e
     |_=>cases e
   ·cases e
structure Df(P:Program)(w:World)(K:PySem.W.Frag)(mg:Str→Option Value)(base:Heap)(x:Str)(k n:Nat)(m:List D→R D):Prop where
 ex:∃f fd ps,L2.cy P w K mg base L2.de k f fd ps (fU ⟨K,P,w⟩ m n)∧L2.Binds K fd ps []∧PySem.W.keepIn K (.ref f)=true∧mg x=some (.ref f)
theorem uE{m:List D→R D}{n:Nat}{fs:List Ex}{Q:VK}{E:XK}(hn:fs.length=n)(h:tP M (aB m fs) σ H Q):L2.oB (fU M m n) [] E (my M (eList fs)) σ H Q:=by
 obtain⟨ρ,F,d,hr,e,q⟩:=h
 obtain⟨ds,eds,e⟩:=ai.mp e
 refine⟨ρ,F,ds,hr,eds,fun vs H1 s1 rs=>?_⟩
 show fU M m n (vs++[]) H1 Q E
 rw[List.append_nil]
 exact⟨F,ds,d,(hr.same s1).aU,rs,by rw[iI eds];exact hn,e,fun v H2 s2 rv=>q v H2 (s1.trans s2) rv⟩
theorem vC{x:Str}{k j n:Nat}{m:List D→R D}{e:Expr}{es:List Expr}{fs:List Ex}{p:Pos}(d:Df X.prog X.w X.K X.mg X.base x k n m)(hr:L2.bt j X.A)(hg:L2.Gl X x)(ha:JA X (e::es) (eList fs))(hk:k≤j:=by decide)(hn:fs.length=n:=by rfl)
   (hdb:(x==("__debug__":Str))=false:=by decide) (he:starEach (e::es) X.env=(false,eval e X.env)::starEach es X.env:=by rfl) (hpl:(backTo pos (starEach es X.env)).any (·.1)=false:=by rfl):JE X (.Call (.Name x p) (e::es) [] pos) (aB m fs):=by
 obtain⟨f,fd,ps,h1,h2,h3,h4⟩:=d.ex
 exact bc (L2.tS h1 (hr.mono hk) hg h4 h3 h2 .nil L2.pM ha hdb he hpl) fun σ H Q h=>uE hn h
theorem sX{P:Program}{w:World}{K:PySem.W.Frag}{mg:Str→Option Value}{base:Heap}{x qual:Str}{st:Stmt}{f:Addr}{fd:FuncData}{N ps:List Str}{k n:Nat}{body:Sm}(Fu:L2.bx K x qual st f fd)(S:L2.bE N ps (L2.aC st))
   (h:∀(cdv:Value) (A:Around) (outer:List Env) (s:Shared) (H:Hp) (E:XK),L2.bt k (A.deeper (PyProof.Rows.envOfC qual (L2.aC st) s.heap.objs.size f cdv))→cN (L2.fK L2.de P w K mg base N qual (L2.aC st) f cdv A outer s H E).er (L2.bw st) body)
   (hn:ps.length=n:=by rfl):L2.cy P w K mg base L2.de (k+1) f fd ps (fU ⟨K,P,w⟩ (fn N.length body) n):=by
 refine Fu.ok S (fun vs H Q E h=>?_) (fun cdv A outer s H vs Q E hr hsp=>?_)
 · obtain⟨F,ds,d,_,rs,hl,_⟩:=h
   rw[←rs.length,hl,hn]
 · refine⟨fun D σ H'=>∃F0,eG ⟨K,P,w⟩ H F0 body D σ H',fun pins s' σ H' D I ⟨F0,q⟩=>h cdv A outer s H E hr F0 pins s' σ H' D I q,?_⟩
   refine yx (G:=H) (t:=fun D σ H'=>∃F0,eG ⟨K,P,w⟩ H F0 body D σ H') (fun F0 D σ H' h=>⟨F0,h⟩) hsp ?_
   have:=congrArg List.length S.pre
   rw[List.length_take]at this
   omega
theorem cQ{P:Program}{w:World}{K:PySem.W.Frag}{mg:Str→Option Value}{base:Heap}{x qual:Str}{st:Stmt}{f:Addr}{fd:FuncData}{N ps:List Str}{k n:Nat}{body:Sm}(Fu:L2.bx K x qual st f fd)(hm:mg x=some (.ref f))(S:L2.bE N ps (L2.aC st))(hb:L2.Binds K fd ps [])
   (h:∀(cdv:Value) (A:Around) (outer:List Env) (s:Shared) (H:Hp) (E:XK),L2.bt k (A.deeper (PyProof.Rows.envOfC qual (L2.aC st) s.heap.objs.size f cdv))→cN (L2.fK L2.de P w K mg base N qual (L2.aC st) f cdv A outer s H E).er (L2.bw st) body)
   (hn:ps.length=n:=by rfl):Df P w K mg base x (k+1) n (fn N.length body):=⟨f,fd,ps,sX Fu S h hn,hb,Fu.kp,hm⟩
end
open L2 (It Turn cB)
section
variable{X:Cx}{M:Md}{G H H':Hp}{F0 F F':Addr→Prop}{σ:L2.St}{ρ:En}{pos:Pos}{DE:Ends}
noncomputable def jf(x:Str):It:=⟨fun i _=>i<x.cps.size,fun i H v H'=>H'=H∧∃c,x.cps[i]? =some c∧v=.str ⟨#[c]⟩,fun i _=>x.cps.size≤i⟩
theorem yM{P:Program}{w:World}{K:PySem.W.Frag}{tg:Expr}(x:Str)(t:Tok)(it:Addr):Turn P w K tg (jf x) [it] it (fun i h=>h.IsStrIter it "str_ascii_iterator" x t i) where
 mem:=by simp
 obj:=fun i h st b hb=>by
   have e:b=it:=by simpa using hb
   subst e
   obtain⟨o,e,c,d⟩:=st
   exact⟨o,e,fun v z=>by rw[d]at z;cases z⟩
 keep:=fun i h h' st k=>let⟨o,e,r⟩:=st;⟨o,k it (by simp) o e,r⟩
 item:=by
   intro X hP hw hK hc i pins s σ H E I hf st hg
   subst hP hw hK
   obtain⟨f0,f1,f2,f3,f4,f5⟩:=hf it (by simp)
   have hg:i<x.cps.size:=hg
   refine wpAny_pyNext_ascii_item st (c:=x.cps[i]) (by simp[hg]) fun h' st' sb=>?_
   have I1:Inv X pins σ H {s with heap:=h',toks:=s.toks+1}:=I.turned (t':=s.toks+1) (fun b o hb e=>(sb.2 b hb).trans e) f0 f1 f3 f4 f5
   obtain⟨o,e,c,d⟩:=id st'
   exact⟨_,rfl,L2.gY (s:={s with heap:=h',toks:=s.toks+1}) e c d (by decide) ⟨.str ⟨#[x.cps[i]]⟩,H,I1,⟨_,rfl⟩,⟨rfl,_,by simp[hg],rfl⟩,st',fun b hb=>(hf b hb).1⟩⟩
 done:=by
   intro X hP hw hK hc i pins s σ H E I hf st hg
   subst hP hw hK
   have hg:x.cps.size≤i:=hg
   obtain⟨f0,f1,f2,f3,f4,f5⟩:=hf it (by simp)
   exact wpAny_pyNext_ascii_end (I.ok.hd hc) st (by simp[hg]) fun h' eb=>⟨rfl,I.turned (t':=s.toks) (fun b o hb e=>eb b o hb e) f0 f1 f3 f4 f5⟩
 self:=fun _ _ _ _ _ st h=>wpAny_pyIter_striter_ascii st h
theorem zo{P:Program}{w:World}{K:PySem.W.Frag}{tg:Expr}(x:Str)(t:Tok)(it:Addr):Turn P w K tg (jf x) [it] it (fun i h=>h.IsStrIter it "str_iterator" x t i) where
 mem:=by simp
 obj:=fun i h st b hb=>by
   have e:b=it:=by simpa using hb
   subst e
   obtain⟨o,e,c,d⟩:=st
   exact⟨o,e,fun v z=>by rw[d]at z;cases z⟩
 keep:=fun i h h' st k=>let⟨o,e,r⟩:=st;⟨o,k it (by simp) o e,r⟩
 item:=by
   intro X hP hw hK hc i pins s σ H E I hf st hg
   subst hP hw hK
   obtain⟨f0,f1,f2,f3,f4,f5⟩:=hf it (by simp)
   have hg:i<x.cps.size:=hg
   refine wpAny_pyNext_wide_item st (c:=x.cps[i]) (by simp[hg]) fun h' st' sb=>?_
   have I1:Inv X pins σ H {s with heap:=h',toks:=s.toks+1}:=I.turned (t':=s.toks+1) (fun b o hb e=>(sb.2 b hb).trans e) f0 f1 f3 f4 f5
   obtain⟨o,e,c,d⟩:=id st'
   exact⟨_,rfl,L2.gY (s:={s with heap:=h',toks:=s.toks+1}) e c d (by decide) ⟨.str ⟨#[x.cps[i]]⟩,H,I1,⟨_,rfl⟩,⟨rfl,_,by simp[hg],rfl⟩,st',fun b hb=>(hf b hb).1⟩⟩
 done:=by
   intro X hP hw hK hc i pins s σ H E I hf st hg
   subst hP hw hK
   have hg:x.cps.size≤i:=hg
   obtain⟨f0,f1,f2,f3,f4,f5⟩:=hf it (by simp)
   exact wpAny_pyNext_wide_end (I.ok.hd hc) st (by simp[hg]) fun h' eb=>⟨rfl,I.turned (t':=s.toks) (fun b o hb e=>eb b o hb e) f0 f1 f3 f4 f5⟩
 self:=fun _ _ _ _ _ st h=>wpAny_pyIter_striter_wide st h
noncomputable def zV(K:PySem.W.Frag)(tl:TE):TI:=fun σ H R=>tl σ H fun x H1=>(∃a,x=.ref a∧(∃xs,aM K H1 a xs)∧R (L2.ku K a) H1)∨(∃a,x=.ref a∧(∃xs,aW K H1 a xs)∧R (L2.jU K a) H1)∨∃z,x=.str z∧R (jf z) H1
theorem w8{tg:Expr}{pins:List (Addr×Obj)}{R:It→Hp→Prop}{s1:Shared}{x:V}{v:Value}(I1:Inv X pins σ H s1)(r1:RelV x v)
   (q1:(∃a,x=.ref a∧(∃xs,aM X.K H a xs)∧R (L2.ku X.K a) H)∨(∃a,x=.ref a∧(∃xs,aW X.K H a xs)∧R (L2.jU X.K a) H)∨∃z,x=.str z∧R (jf z) H):
   wpAny (model X.prog X.w) X.A (pyIter v) (L2.lT X pins σ tg R) X.xe s1:=by
 have fp:∀b∈[s1.heap.objs.size],cB X pins H b:=fun b hb=>by
   have e:b=s1.heap.objs.size:=by simpa using hb
   subst e
   exact I1.jn (Nat.le_refl _) (I1.ao.fresh (Nat.le_refl _))
 rcases q1 with⟨a,rfl,⟨xs,hq⟩,q⟩|⟨a,rfl,⟨xs,hq⟩,q⟩|⟨z,rfl,q⟩
 · cases r1
   obtain⟨its,rv,p,hz⟩:=I1.list hq
   refine wpAny_pyIter_list p.isList ?_
   exact⟨s1.heap.objs.size,[s1.heap.objs.size],_,_,H,rfl,I1.kept (t':=s1.toks) fun b o e=>Heap.get?_push_of_some _ e,L2.yD a _,⟨_,Heap.get?_push_size _ rfl,rfl,rfl⟩,fp,q⟩
 · cases r1
   obtain⟨its,rv,p,hz⟩:=I1.tuple hq
   refine wpAny_pyIter_tuple (show s1.heap.IsTuple a its.toArray from p) ?_
   exact⟨s1.heap.objs.size,[s1.heap.objs.size],_,_,H,rfl,I1.kept (t':=s1.toks) fun b o e=>Heap.get?_push_of_some _ e,L2.uo a _,⟨_,Heap.get?_push_size _ rfl,rfl,rfl⟩,fp,q⟩
 · obtain⟨t,rfl⟩:=r1
   cases ha:z.cps.all (· <128)
   · refine wpAny_pyIter_wide ha ?_
     exact⟨s1.heap.objs.size,[s1.heap.objs.size],_,_,H,rfl,I1.kept (t':=s1.toks) fun b o e=>Heap.get?_push_of_some _ e,zo z t _,⟨_,Heap.get?_push_size _ rfl,rfl,rfl⟩,fp,q⟩
   · refine wpAny_pyIter_ascii ha ?_
     exact⟨s1.heap.objs.size,[s1.heap.objs.size],_,_,H,rfl,I1.kept (t':=s1.toks) fun b o e=>Heap.get?_push_of_some _ e,yM z t _,⟨_,Heap.get?_push_size _ rfl,rfl,rfl⟩,fp,q⟩
theorem Am{tg l:Expr}{tl:TE}(hl:PE X l tl):L2.PI X tg l (zV X.K tl):=fun pins s σ H R I h=>
 L2.aE (hl pins s σ H _ I h) fun v s1 ⟨x,H1,I1,r1,q1⟩=>w8 I1 r1 q1
theorem Ap{x:Str}:Gives M (jf x) H F (x.cps.toList.map fun c=>.str ⟨#[c]⟩):=by
 intro H' F' mv tr
 refine⟨fun i d hd=>?_,?_⟩
 · rw[List.getElem?_map]at hd
   cases e:x.cps.toList[i]? with
   |none=>rw[e]at hd;cases hd
   | some c=>
     rw[e]at hd
     cases hd
     have e':x.cps[i]? =some c:=by simpa using e
     refine⟨show i<x.cps.size from(Array.getElem?_eq_some_iff.mp e').1,fun y H2 hy=>?_⟩
     obtain⟨rfl,c',hc',rfl⟩:=hy
     rw[e']at hc'
     cases hc'
     exact⟨af.refl _,jQ⟩
 · show x.cps.size≤_
   simp
theorem Ck{K:PySem.W.Frag}{d:D}{ds:List D}{x:V}{R:It→Hp→Prop}(e:items d=.ok ds)(rv:Rep M H F d x)(q:∀J,Gives M J H F ds→R J H):
   (∃a,x=.ref a∧(∃xs,aM M.K H a xs)∧R (L2.ku M.K a) H)∨(∃a,x=.ref a∧(∃xs,aW M.K H a xs)∧R (L2.jU M.K a) H)∨∃z,x=.str z∧R (jf z) H:=by
 unfold items at e
 split at e
 · cases e
   simp only[Rep]at rv
   obtain⟨a,xs,rfl,h,rs⟩:=rv
   exact .inl ⟨a,rfl,⟨xs,h.sq⟩,q _ (y7 h rs)⟩
 · cases e
   simp only[Rep]at rv
   obtain⟨a,xs,rfl,h,rs⟩:=rv
   exact .inr (.inl ⟨a,rfl,⟨xs,h.sq⟩,q _ (vY h rs)⟩)
 · cases e
   exact .inr (.inr ⟨_,eT rv,q _ Ap⟩)
 ·cases e
theorem z9{tg l:Expr}{fa:Ex}(ha:JE X l fa):JI X tg l (ip fa):=
 kH (Am ha) fun σ H Q ⟨ρ,F,ds,r,e,q⟩=>by
   obtain⟨d,ed,e⟩:=ai.mp e
   exact⟨ρ,F,d,r,ed,fun v H1 s1 rv=>Ck (K:=X.K) (M:=av X) e rv fun J g=>q J H1 s1 g⟩
end
structure gL(P:Program)(w:World)(K:PySem.W.Frag)(mg:Str→Option Value)(x:Str)(d:D):Prop where
 ex:∃v u,mg x=some u∧RelV v u∧∀H F,Rep ⟨K,P,w⟩ H F d v
theorem ym{X:Cx}{pos:Pos}{x:Str}{d:D}(g:gL X.prog X.w X.K X.mg x d)(hg:L2.Gl X x)(hd:(x==("__debug__":Str))=false:=by decide):JE X (.Name x pos) (eC d):=by
 obtain⟨v,u,h1,h2,h3⟩:=g.ex
 exact Bb hg h1 h2 h3 hd
noncomputable def iP:Expr→Bool
 |.Starred .. =>false
 |_=>true
theorem aY{e:Expr}{es:List Expr}{env:Env}(h:iP e=true):starEach (e::es) env=(false,eval e env)::starEach es env:=by cases e<;>first|rfl|cases h
theorem mX{pos:Pos}{env:Env}:∀ {es:List Expr},es.all iP=true→(backTo pos (starEach es env)).any (·.1)=false
 |[],_=>rfl
 | e::es,h=>by
   rw[List.all_cons,Bool.and_eq_true]at h
   rw[aY h.1]
   show(false||(backTo pos (starEach es env)).any (·.1))=false
   rw[Bool.false_or]
   exact mX h.2
theorem qg{pos:Pos}{env:Env}:∀ {es:List Expr},es.all iP=true→(backTo pos (starEach es env)).all (fun x=> !x.1)=true
 |[],_=>rfl
 | e::es,h=>by
   rw[List.all_cons,Bool.and_eq_true]at h
   rw[aY h.1]
   show(true&&(backTo pos (starEach es env)).all (fun x=> !x.1))=true
   rw[Bool.true_and]
   exact qg h.2
theorem iR{cpos:Pos}{env:Env}{e:Expr}{es:List Expr}(h:(e::es).all iP=true)(hl:(e::es).length<30):((backTo cpos (starEach (e::es) env)).all (fun x=> !x.1)&&(backToKw cpos (keywordEach [] env)).all (fun x=>x.1.isSome)
     &&decide ((e::es).length+([]:List Keyword).length+(if([]:List Keyword).isEmpty then 0 else 1)<30))=true:=by
 rw[qg h,Bool.true_and]
 show(true&&decide ((e::es).length+0+0<30))=true
 rw[Bool.true_and,decide_eq_true_eq]
 exact hl
noncomputable def sy:Expr→Bool
 |.ListComp .. =>false
 |.SetComp .. =>false
 |.DictComp .. =>false
 |_=>true
theorem dP{e:Expr}{t:Option Expr}{l:Nat}{env:Env}(h:sy e=true):swapsWith e t l env=pure false:=by cases e<;>first|rfl|cases h
theorem qM{e tg:Expr}{l:Nat}{env:Env}(h:sy e=true):swapsWithSole [tg] e l env=pure false:=dP h
noncomputable def Be:Expr→Bool
 |.Tuple .. =>false
 |_=>true
theorem sW{e tg:Expr}{env:Env}(h:Be e=true):swappedStores [tg] e env=pure none:=by
 cases tg<;>first|rfl|(cases e<;>first|rfl|cases h)
noncomputable def CK:Expr→Bool
 |.Tuple .. =>false
 |.List .. =>false
 |_=>true
theorem A2{e tg:Expr}{env:Env}(h:CK tg=true):swappedStores [tg] e env=pure none:=by
 cases tg<;>first|rfl|cases h
theorem pA{e:Expr}{es:List Expr}{env:Env}(h:iP e=true):(assignEach (e::es) env).map (·.2)=assign e env::(assignEach es env).map (·.2):=by cases e<;>first|rfl|cases h
theorem kK{env:Env}:∀ {es:List Expr},(assignEach es env).length=es.length
 |[]=>rfl
 | e::es=>by
   have:=kK (env:=env) (es:=es)
   cases e<;>(show(assignEach es env).length+1=_;rw[this];rfl)
theorem oE{env:Env}:∀ {es:List Expr},es.all iP=true→(assignEach es env).findIdx? (·.1)=none
 |[],_=>rfl
 | e::es,h=>by
   rw[List.all_cons,Bool.and_eq_true]at h
   have ih:=oE (env:=env) h.2
   have:∃t,assignEach (e::es) env=(false,t)::assignEach es env:=by
     have h1:=h.1
     cases e<;>first|exact⟨_,rfl⟩|cases h1
   obtain⟨t,e1⟩:=this
   rw[e1,List.findIdx?_cons,ih];rfl
noncomputable def wV:Expr→Bool
 |.Set .. =>false
 |_=>true
theorem lN{e:Expr}{env:Env}(h:wV e=true):∀x,foldedSetIterable e env x=pure x:=by intro x;cases e<;>first|rfl|cases h
noncomputable def plainT:Expr→Bool
 |.UnaryOp .Not _ _=>false
 |.BoolOp .. =>false
 |.IfExp .. =>false
 |.Compare .. =>false
 |_=>true
theorem CI{e:Expr}{env:Env}(h:plainT e=true):∀whole,isTrue e env whole=(do let v ←whole;standAt e.pos;holding [v] (truthy v)):=by
 intro w
 cases e with
 |UnaryOp op _ _=>cases op<;>first|rfl|cases h
 |_=>first|rfl|cases h
theorem kZ{x:Str}{p:Pos}{a:Str}{env:Env}{w:Sem Value}:attributeBase (.Name x p) a env w=w:=rfl
noncomputable def zC:Expr→Bool
 |.Slice .. =>false
 |_=>true
theorem lQ{b:Expr}(h:zC b=true):L2.fu b:=by intro o i;cases b<;>first|rfl|cases h
theorem walk{l:PySem.W.OpenLaw}{q:Program}{loose:List Str}{XP:(Str→Option Value)→Heap→Prop}{YP:World→Heap→Prop}{d:DefRec}{K:Params→PySem.W.Frag}{k:Nat}{x:Str}{m:List D→R D}(hn:l.most=some 63)(hdf:d.params.defaults=[])(hr:L2.bt k PySem.callerA)
   (hY:∀(w:World) (h:Heap),YP w h→(K w.params).In h)
   (F:∀(w:World) (mg:Str→Option Value) (fa:Addr) (h:Heap),(K w.params).In h→h.Ns mainGlobals mg→mg d.name=some (.ref fa)→
     ∃fd:FuncData,(∀(s:Shared) (u:Value),BindsTo s fd ⟨[u],[]⟩ [(x,u)])∧∀base:Heap,(K w.params).In base→base.Ns mainGlobals mg→L2.cy l.prog w (K w.params) mg base L2.de k fa fd [x] (fU ⟨K w.params,l.prog,w⟩ m 1))
   (hT:∀ns:List Int,ns.length≤63→m [.lst (ns.map .int)]=.ok (.bl true)):
   PySem.W.WalkO q loose XP YP l.row.toRowW d [] (fun f vs=>PySem.call f vs):=
 L2.zz (n:=63) (k:=k) (x:=x) (CX:=fun _=>L2.de) (sp:=fun w=>fU ⟨K w.params,l.prog,w⟩ m 1) hn (by decide) hdf hr hY F (fun w H a ns hl _ hS=>by
   refine⟨fun _=>False,[.lst (ns.map .int)],.bl true,fun p h=>h.elim,ab.cons ?_ ab.nil,rfl,hT ns hl,fun v H' _ rv=>fA rv⟩
   have rints:∀(ns:List Int) (M:Md) (H:Hp),ab M H (fun _=>False) (ns.map D.int) (ns.map V.int):=by
     intro ns M H
     induction ns with
     |nil=>exact ab.nil
     |cons n r ih=>exact ab.cons bW ih
   simp only[Rep]
   refine⟨a,ns.map V.int,rfl,?_,rints ns _ H⟩
   rcases hS with h|h
   ·exact .inl ⟨fun h=>h,h⟩
   ·exact .inr h) fun _ _ _ _ _ z=>z
open L2 (Un)
section
variable{prog:Program}{w:World}{A:Around}{R:Result→Shared→Prop}{s:Shared}
theorem vk{elt target iter:Expr}{ifs:List Expr}{scope:Scope}{pos:Pos}{it acc:Value}{env:Env}(I:Nat→Shared→Prop)
   (turn:∀n s,I n s→wpAny (model prog w) A (pyNext it) (fun r s₁=>match r with
     |none=>R (.ok .next) s₁
     |some v=>wpAny (model prog w) A (letOwnedTupleGo target it v) (fun _ s₁'=>wpAny (model prog w) A (assign target env v) (fun _ s₂=>
         wpAny (model prog w) A (forIn ifs true fun c r=>if r=true then do let ok ←isTrue c env (eval c env);pure (ForInStep.yield ok)else pure (ForInStep.yield r)) (fun ok s₃=>
           if ok=true then wpAny (model prog w) A (eval elt env) (fun x s₄=>
             wpAny (model prog w) A (call (.builtin "list.append") [acc,x]) (fun _ s₅=>∃m,m<n∧I m s₅) (notedBy (model prog w) A env fun e s'=>R (.error e) s') s₄) (notedBy (model prog w) A env fun e s'=>R (.error e) s') s₃
           else ∃m,m<n∧I m s₃) (notedBy (model prog w) A env fun e s'=>R (.error e) s') s₂) (notedBy (model prog w) A env fun e s'=>R (.error e) s') s₁') (notedBy (model prog w) A env fun e s'=>R (.error e) s') s₁) (notedBy (model prog w) A env fun e s'=>R (.error e) s') s)
   (n:Nat) (h:I n s):codeAny (model prog w) A (.compLoop (.ListComp elt [⟨target,iter,ifs,0⟩] scope pos) 0 it acc env) R s:=by
 refine codeAny_loop rfl I (fun n s hI=>?_) n h
 show wpAny _ A ((compTurn (.ListComp elt [⟨target,iter,ifs,0⟩] scope pos) 0 it acc env).onRaise (fun x=>do noteFrame x env;theTreesLotGoes x)) _ _ s
 refine wpAny_noted ?_
 rw[compTurn_list]
 refine wpAny_bind (wpAny_standAt (wpAny_bind (wpAny_mono (turn n s hI) (fun r s₁ h₁=>?_) fun _ _ h'=>h')))
 cases r with
 |none=>exact wpAny_pure h₁
 | some v=>
   refine wpAny_bind (wpAny_mono h₁ (fun _ s₁' h₁'=>?_) fun _ _ h'=>h')
   refine wpAny_bind (wpAny_mono h₁' (fun _ s₂ h₂=>wpAny_bind (wpAny_mono h₂ (fun ok s₃ h₃=>?_) fun _ _ h'=>h')) fun _ _ h'=>h')
   cases ok with
   |false=>exact wpAny_pure ⟨rfl,h₃⟩
   | true=>
     exact wpAny_bind (wpAny_bind (wpAny_mono h₃ (fun x s₄ h₄=>wpAny_bind (wpAny_mono h₄ (fun _ s₅ h₅=>wpAny_pure (wpAny_pure ⟨rfl,h₅⟩)) fun _ _ h'=>h')) fun _ _ h'=>h'))
end
noncomputable def cw(X:Cx)(scope:Scope)(cl:List (Str×Addr))(C:Addr)(N:List Str)(s:Shared)(H:Hp)(fp:List Addr):Cx where
 prog:=X.prog
 w:=X.w
 K:=X.K
 mg:=X.mg
 base:=X.base
 A:=X.A
 N:=N
 bX:=s
 fH:=H
 env:=compEnvC scope cl C X.env
 outer:=X.stack
 stack:=X.stack
 ex:=fp
 fn:=fun x=>decide ((x,NameKind.cell)∈scope.names)
 calm:=X.calm
 pn:=[]
 xe:=X.xe
noncomputable abbrev kz(X:Cx)(ifs:List Expr)(cs:List aJ):Prop:=Paired (fun e c=>JT X e c) ifs cs
theorem tQ{X:Cx}{M:Md}(hM:M=av X){pins:List (Addr×Obj)}{σ:L2.St}{ρ:En}{F:Addr→Prop}{E:Value→Shared→Prop}(hE:∀e s,X.xe e s→E e s):
   ∀ {ifs:List Expr} {cs:List aJ},kz X ifs cs→∀ {s:Shared} {H:Hp} {t:Bool} {Q:Bool→Hp→Prop},Inv X pins σ H s→aO M H F σ ρ→cM.hU cs ρ=.ok t→(∀H',af H H'→Q t H')→
     wpAny (model X.prog X.w) X.A (forIn ifs true fun c r=>if r=true then do let ok ←isTrue c X.env (eval c X.env);pure (ForInStep.yield ok)else pure (ForInStep.yield r)) (fun ok s'=>∃H',Inv X pins σ H' s'∧Q ok H') E s
 | [],_,.nil,s,H,t,Q,I,r,e,q=>by
   cases e
   exact wpAny_tests_nil ⟨H,I,q H (af.refl H)⟩
 | c::ifs,_,.cons h hs,s,H,t,Q,I,r,e,q=>by
   unfold cM.hU at e
   obtain⟨b,eb,e⟩:=ai.mp e
   rw[List.forIn_cons]
   simp only[if_true]
   refine wpAny_bind (wpAny_bind (wpAny_mono (h pins s σ H (fun b' H'=>b'=b∧af H H') I ⟨ρ,F,b,hM▸r,eb,fun H' s'=>⟨rfl,s'⟩⟩) (fun b' s1 h1=>wpAny_pure ?_) hE))
   obtain⟨H1,I1,rfl,s1'⟩:=h1
   dsimp only
   cases b' with
   | true=>
     rw[if_pos rfl]at e
     exact tQ hM hE hs I1 (r.same s1') e fun H2 s2=>q H2 (s1'.trans s2)
   | false=>
     rw[if_neg (by decide)]at e
     cases e
     have pass:∀(l:List Expr) (s:Shared),(∃H',Inv X pins σ H' s∧Q false H')→wpAny (model X.prog X.w) X.A (forIn l false fun c r=>if r=true then do let ok ←isTrue c X.env (eval c X.env);pure (ForInStep.yield ok)else pure (ForInStep.yield r)) (fun ok s'=>∃H',Inv X pins σ H' s'∧Q ok H') E s:=by
       intro l
       induction l with
       |nil=>intro s h;exact wpAny_pure h
       | cons a l ih=>
         intro s h
         rw[List.forIn_cons]
         exact wpAny_bind (wpAny_pure (ih s h))
     exact pass ifs _ ⟨H1,I1,q H1 s1'⟩
theorem o4{env:Env}:∀(names:List (Str×NameKind)) (cs:List (Str×Addr)),(∀y∈names,y.2=.free→∃c,env.cells.lookup y.1=some c)→(∀x c,cs.lookup x=some c→env.cells.lookup x=some c)→
   ∃cl,(forIn names cs fun(x:Str×NameKind) r=>(if(x.2==.free)=true then do let c ←cellOf env x.1;pure (ForInStep.yield ((x.1,c)::r))else pure (ForInStep.yield r):Sem (ForInStep (List (Str×Addr)))))=(pure cl:Sem _)∧
     (∀x c,cl.lookup x=some c→env.cells.lookup x=some c)∧(∀x,(∃c,cs.lookup x=some c)∨(x,NameKind.free)∈names→∃c,cl.lookup x=some c)
 |[],cs,_,hc=>⟨cs,rfl,hc,fun x h=>h.elim (fun h=>h) fun h=>nomatch h⟩
 | (n,k)::names,cs,hn,hc=>by
   rw[List.forIn_cons]
   by_cases hk:k=.free
   · subst hk
     obtain⟨c,ec⟩:=hn _ List.mem_cons_self rfl
     obtain⟨cl,e,h1,h2⟩:=o4 names ((n,c)::cs) (fun y hy=>hn y (List.mem_cons_of_mem _ hy)) (fun x d h=>by
       rw[List.lookup_cons]at h
       cases hx:x==n with
       |true=>rw[hx]at h;cases h;rw[beq_iff_eq.mp hx];exact ec
       |false=>rw[hx]at h;exact hc x d h)
     refine⟨cl,?_,h1,fun x h=>h2 x ?_⟩
     · have:cellOf env n=pure c:=by unfold cellOf;rw[show List.lookup n env.cells=some c from ec]
       simp only[beq_self_eq_true,if_true,this]
       exact e
     · rcases h with⟨d,h⟩|h
       · left
         rw[List.lookup_cons]
         cases x==n with
         |true=>exact⟨c,rfl⟩
         |false=>exact⟨d,h⟩
       · rcases List.mem_cons.mp h with h|h
         · cases h
           left
           rw[List.lookup_cons,beq_self_eq_true]
           exact⟨c,rfl⟩
         ·exact .inr h
   · obtain⟨cl,e,h1,h2⟩:=o4 names cs (fun y hy=>hn y (List.mem_cons_of_mem _ hy)) hc
     refine⟨cl,?_,h1,fun x h=>h2 x (h.imp (fun h=>h) fun h=>?_)⟩
     · have:(k==NameKind.free)=false:=by cases k<;>first|rfl|exact absurd rfl hk
       simp only[this,Bool.false_eq_true,if_false]
       exact e
     · rcases List.mem_cons.mp h with h|h
       ·cases h;exact absurd rfl hk
       ·exact h
theorem BP{scope:Scope}{env:Env}(hn:∀y∈scope.names,y.2=.free→∃c,env.cells.lookup y.1=some c):
   ∃cl,closureFor scope env=pure cl∧(∀x c,cl.lookup x=some c→env.cells.lookup x=some c)∧∀x,(x,NameKind.free)∈scope.names→∃c,cl.lookup x=some c:=by
 obtain⟨cl,e,h1,h2⟩:=o4 scope.names [] hn (fun x c h=>nomatch h)
 refine⟨cl,?_,h1,fun x h=>h2 x (.inr h)⟩
 unfold closureFor
 have:∀(l:List (Str×NameKind)) (cs:List (Str×Addr)),(forIn l cs fun(x:Str×NameKind) (r:List (Str×Addr))=>(match x with|(name,kind)=>do
     if(kind==.free)=true then
       let c ←cellOf env name
       pure (ForInStep.yield ((name,c)::r))
     else pure (ForInStep.yield r):Sem (ForInStep (List (Str×Addr)))))=forIn l cs fun(x:Str×NameKind) r=>(if(x.2==.free)=true then do let c ←cellOf env x.1;pure (ForInStep.yield ((x.1,c)::r))else pure (ForInStep.yield r):Sem (ForInStep (List (Str×Addr)))):=fun _ _=>rfl
 show(forIn scope.names [] _ >>= fun r=>pure r)=_
 first
   |(rw[show(forIn scope.names ([]:List (Str×Addr)) _:Sem (List (Str×Addr)))=pure cl from e];rfl)
   |(erw [e];rfl)
theorem oS{M:Model}{A:Around}{E:Value→Shared→Prop}{Q:List (Str×Addr)→Shared→Prop}:∀(names:List (Str×NameKind)) {s:Shared} {cells:List (Str×Addr)},(∀x c,cells.lookup x=some c→c<s.heap.objs.size)→(∀x y c,cells.lookup x=some c→cells.lookup y=some c→x=y)→
   (∀(h':Heap) (cells':List (Str×Addr)),(∀b o,s.heap.get? b=some o→h'.get? b=some o)→(∀x y c,cells'.lookup x=some c→cells'.lookup y=some c→x=y)→
     (∀x c,cells'.lookup x=some c→cells.lookup x=some c∨(s.heap.objs.size≤c∧h'.IsCell c none))→(∀x,(x,NameKind.cell)∈names→∃c,cells'.lookup x=some c∧s.heap.objs.size≤c)→(∀x c,cells.lookup x=some c→(x,NameKind.cell)∉names→cells'.lookup x=some c)→Q cells' {s with heap:=h'})→
   wpAny M A (forIn names cells fun(x:Str×NameKind) (r:List (Str×Addr))=>(match x with|(name,kind)=>if(kind==NameKind.cell)=true then do let a ←alloc {cls:=Value.type "cell",data:=Data.cell none};pure (ForInStep.yield ((name,a)::r))else pure (ForInStep.yield r):Sem (ForInStep (List (Str×Addr))))) Q E s
 | [],s,cells,_,inj,k=>by
   exact wpAny_pure (k s.heap cells (fun _ _ e=>e) inj (fun _ _ e=>.inl e) (fun _ h=>nomatch h) (fun _ _ e _=>e))
 | (n,kd)::names,s,cells,lt,inj,k=>by
   rw[List.forIn_cons]
   by_cases hk:kd=.cell
   · subst hk
     simp only[beq_self_eq_true,if_true]
     refine wpAny_bind (wpAny_bind (wpAny_alloc (wpAny_pure ?_)))
     dsimp only
     refine oS names (fun x c h=>?_) (fun x y c hx hy=>?_) fun h' cells' keep inj' h2 h3 h4=>?_
     · rw[Heap.size_push]
       rw[List.lookup_cons]at h
       cases hx:x==n with
       |true=>rw[hx]at h;cases h;exact Nat.lt_succ_self _
       |false=>rw[hx]at h;exact Nat.lt_succ_of_lt (lt x c h)
     · rw[List.lookup_cons]at hx hy
       cases ex:x==n with
       | true=>
         cases ey:y==n with
         |true=>rw[beq_iff_eq.mp ex,beq_iff_eq.mp ey]
         | false=>
           rw[ex]at hx;rw[ey]at hy;cases hx
           exact absurd (lt y _ hy) (Nat.lt_irrefl _)
       | false=>
         rw[ex]at hx
         cases ey:y==n with
         |true=>rw[ey]at hy;cases hy;exact absurd (lt x _ hx) (Nat.lt_irrefl _)
         |false=>rw[ey]at hy;exact inj x y c hx hy
     · have old:∀b o,s.heap.get? b=some o→h'.get? b=some o:=fun b o e=>keep b o (Heap.get?_push_of_some _ e)
       have new:h'.IsCell s.heap.objs.size none:=⟨_,keep _ _ (Heap.get?_push_size _ rfl),rfl⟩
       refine k h' cells' old inj' (fun x c h=>?_) (fun x hx=>?_) (fun x c h hx=>?_)
       · rcases h2 x c h with h|⟨h5,h6⟩
         · rw[List.lookup_cons]at h
           cases ex:x==n with
           |true=>rw[ex]at h;cases h;exact .inr ⟨Nat.le_refl _,new⟩
           |false=>rw[ex]at h;exact .inl h
         · rw[Heap.size_push]at h5
           exact .inr ⟨by omega,h6⟩
       · by_cases hm:(x,NameKind.cell)∈names
         · obtain⟨c,h5,h6⟩:=h3 x hm
           rw[Heap.size_push]at h6
           exact⟨c,h5,by omega⟩
         · have hxn:x=n:=by
             rcases List.mem_cons.mp hx with e|e
             ·exact(Prod.mk.inj e).1
             ·exact absurd e hm
           subst hxn
           exact⟨s.heap.objs.size,h4 x _ (by rw[List.lookup_cons,beq_self_eq_true]) hm,Nat.le_refl _⟩
       · refine h4 x c ?_ fun hm=>hx (List.mem_cons_of_mem _ hm)
         rw[List.lookup_cons]
         cases ex:x==n with
         |true=>exact absurd (by rw[beq_iff_eq.mp ex];exact List.mem_cons_self) hx
         |false=>exact h
   · have hk':(kd==NameKind.cell)=false:=by cases kd<;>first|rfl|exact absurd rfl hk
     simp only[hk',Bool.false_eq_true,if_false]
     refine wpAny_bind (wpAny_pure ?_)
     dsimp only
     refine oS names lt inj fun h' cells' keep inj' h2 h3 h4=>k h' cells' keep inj' h2 (fun x hx=>?_) (fun x c h hx=>h4 x c h fun hm=>hx (List.mem_cons_of_mem _ hm))
     rcases List.mem_cons.mp hx with e|e
     ·exact absurd (Prod.mk.inj e).2.symm hk
     ·exact h3 x e
theorem zj{M:Model}{A:Around}{E:Value→Shared→Prop}{Q:Env→Shared→Prop}{s:Shared}{scope:Scope}{cl:List (Str×Addr)}{env:Env}(lt:∀x c,cl.lookup x=some c→c<s.heap.objs.size)(inj:∀x y c,cl.lookup x=some c→cl.lookup y=some c→x=y)
   (k:∀(h':Heap) (cells':List (Str×Addr)),(∀b o,s.heap.get? b=some o→h'.get? b=some o)→(h'.Ns s.heap.objs.size fun _=>none)→(∀x y c,cells'.lookup x=some c→cells'.lookup y=some c→x=y)→
     (∀x c,cells'.lookup x=some c→cl.lookup x=some c∨(s.heap.objs.size+1≤c∧h'.IsCell c none))→(∀x,(x,NameKind.cell)∈scope.names→∃c,cells'.lookup x=some c∧s.heap.objs.size+1≤c)→(∀x c,cl.lookup x=some c→(x,NameKind.cell)∉scope.names→cells'.lookup x=some c)→
     Q {scope:=scope,locals:=s.heap.objs.size,globals:=env.globals,cells:=cells',qual:=env.qual,func:=none,code:=env.code,frame:=env.frame,builtins:=env.builtins} {s with heap:=h'}):
   wpAny M A (newFunctionEnv scope env.globals cl [] env.qual none Value.none (some env)) Q E s:=by
 unfold newFunctionEnv
 refine wpAny_bind (wpAny_alloc ?_)
 dsimp only
 refine wpAny_bind (wpAny_mono (oS (Q:=fun cells' s'=>Q {scope:=scope,locals:=s.heap.objs.size,globals:=env.globals,cells:=cells',qual:=env.qual,func:=none,code:=env.code,frame:=env.frame,builtins:=env.builtins} s') scope.names (fun x c h=>by rw[Heap.size_push];exact Nat.lt_succ_of_lt (lt x c h)) inj fun h' cells' keep inj' h2 h3 h4=>?_) (fun cells' s' hq=>?_) fun _ _ h=>h)
 · refine k h' cells' (fun b o e=>keep b o (Heap.get?_push_of_some _ e)) ?_ inj' (fun x c h=>?_) (fun x hx=>?_) h4
   · obtain⟨o,es,ep,h1,h2,h3,h4⟩:=Heap.Ns.new s.heap (Value.type "dict")
     exact⟨o,es,ep,keep _ _ h1,h2,h3,h4⟩
   · rcases h2 x c h with h|⟨h5,h6⟩
     ·exact .inl h
     ·rw[Heap.size_push]at h5;exact .inr ⟨h5,h6⟩
   · obtain⟨c,h5,h6⟩:=h3 x hx
     rw[Heap.size_push]at h6
     exact⟨c,h5,h6⟩
 ·exact wpAny_pure hq
set_option maxHeartbeats 1000000
section
variable{X:Cx}{M:Md}{G H H':Hp}{F0 F F':Addr→Prop}{σ:L2.St}{ρ:En}{pos:Pos}
noncomputable def gx(n:Nat)(tg:bo):Prop:=∀d ρ ρ',tg d ρ=.ok ρ'→ρ'.length=ρ.length∧∀j:Nat,n≤j→ρ'[j]? =ρ[j]?
theorem o8{n i:Nat}(h:i<n):gx n (ar i):=fun d ρ ρ' e=>by
 cases e
 exact⟨by simp,fun j hj=>List.getElem?_set_ne (by omega)⟩
theorem rH{n:Nat}:∀ {is:List Nat} {ds:List D} {ρ ρ':En},is.all (· <n)=true→ck is ds ρ=.ok ρ'→ρ'.length=ρ.length∧∀j:Nat,n≤j→ρ'[j]? =ρ[j]?
 |[],[],_,_,_,e=>by cases e;exact⟨rfl,fun _ _=>rfl⟩
 | i::is,d::ds,ρ,ρ',h,e=>by
   rw[List.all_cons,Bool.and_eq_true,decide_eq_true_eq]at h
   simp only[ck]at e
   obtain⟨h1,h2⟩:=rH h.2 e
   exact⟨by rw[h1];simp,fun j hj=>by rw[h2 j hj];exact List.getElem?_set_ne (by omega)⟩
 |[],_::_,_,_,_,e=>by cases e
 |_::_,[],_,_,_,e=>by cases e
theorem zk{n:Nat}{is:List Nat}(h:is.all (· <n)=true):gx n (gu is):=fun d ρ ρ' e=>by
 unfold gu at e
 split at e
 ·exact rH h e
 ·cases e
theorem aO.less{ρ':En}(r:aO M H F σ ρ)(hl:ρ'.length=ρ.length)(h:∀(j:Nat) s,ρ'[j]? =some s→s=.un∨((∃d,s=.sh d)∧ρ[j]? =some s)):aO M H F σ ρ' where
 len:=by rw[hl,r.len]
 aU:=r.aU
 sh i d e:=by
   rcases h i _ e with z|⟨_,z⟩
   ·cases z
   ·exact r.sh i d z
 ol i d e:=by
   rcases h i _ e with z|⟨⟨_,z⟩,_⟩<;>cases z
 od i k d e:=by
   rcases h i _ e with z|⟨⟨_,z⟩,_⟩<;>cases z
 bM i j a oi:=by
   rcases oi with⟨_,e⟩|⟨_,_,e⟩
   ·rcases h i _ e with z|⟨⟨_,z⟩,_⟩<;>cases z
   ·rcases h i _ e with z|⟨⟨_,z⟩,_⟩<;>cases z
 on:=.no fun i xss e=>by rcases h i _ e with z|⟨⟨_,z⟩,_⟩<;>cases z
theorem gJ{ρ:En}(h:∀(j:Nat) s,ρ[j]? =some s→s=.un∨∃d,s=.sh d){i:Nat}(o:aX ρ i):False:=by
 rcases o with⟨_,e⟩|⟨_,_,e⟩
 ·rcases h i _ e with z|⟨_,z⟩<;>cases z
 ·rcases h i _ e with z|⟨_,z⟩<;>cases z
noncomputable def ent(n:Nat)(ρ:En)(fv:List Nat):En:=List.replicate n .un++frees ρ fv
theorem gU{n:Nat}{fv:List Nat}{j:Nat}{s:Slot}(h:(ent n ρ fv)[j]? =some s):s=.un∨((∃d,s=.sh d)∧n≤j∧∃i,fv[j - n]? =some i∧ρ[i]? =some s):=by
 unfold ent at h
 rw[List.getElem?_append,List.length_replicate]at h
 split at h
 · rename_i hn
   rw[List.getElem?_replicate,if_pos hn]at h
   cases h
   exact .inl rfl
 · rename_i hn
   unfold frees at h
   rw[List.getElem?_map]at h
   cases e:fv[j - n]? with
   |none=>rw[e]at h;cases h
   | some i=>
     rw[e]at h
     have hs:pq ρ[i]? =s:=by simpa using h
     subst hs
     cases hρ:ρ[i]? with
     |none=>exact .inl rfl
     | some z=>
       cases z with
       |sh d=>exact .inr ⟨⟨d,rfl⟩,by omega,i,rfl,hρ⟩
       |_=>exact .inl rfl
noncomputable def stC(n:Nat)(σ:L2.St)(fv:List Nat):L2.St:=List.replicate n none++fv.map fun i=>(σ[i]?).getD none
theorem z0{n:Nat}{fv:List Nat}(r:aO M H F σ ρ):aO M H F (stC n σ fv) (ent n ρ fv) where
 len:=by unfold stC ent frees;simp
 aU:=r.aU
 sh j d e:=by
   rcases gU e with z|⟨_,hn,i,hi,z⟩
   ·cases z
   · obtain⟨v,ev,rv⟩:=r.sh i d z
     refine⟨v,?_,rv⟩
     unfold stC
     rw[List.getElem?_append_right (by simpa using hn),List.length_replicate,List.getElem?_map,hi]
     simp[ev]
 ol j d e:=by rcases gU e with z|⟨⟨_,z⟩,_⟩<;>cases z
 od j k d e:=by rcases gU e with z|⟨⟨_,z⟩,_⟩<;>cases z
 bM j k a oj:=by
   exact(gJ (fun j s e=>(gU e).imp (fun h=>h) fun h=>h.1) oj).elim
 on:=.no fun j xss e=>by rcases gU e with z|⟨⟨_,z⟩,_⟩<;>cases z
theorem og{scope:Scope}{env:Env}:∀ {names:List (Str×NameKind)} {x:Str} {k:NameKind},(names.map fun(n,k)=>if(k==NameKind.free&&env.scope.kind==.function&&env.kindOf n==some .cell)then(n,NameKind.cell)else(n,k)).lookup x=some k→
   (k=.cell∨k=.free)→(x,NameKind.free)∈names∨(x,NameKind.cell)∈names
 |[],_,_,h,_=>by simp at h
 | (n,q)::r,x,k,h,hk=>by
   have ih:=@og scope env r x k
   have h':List.lookup x ((if(q==NameKind.free&&env.scope.kind==.function&&env.kindOf n==some .cell)=true then(n,NameKind.cell)else(n,q))::r.map fun(n,k)=>if(k==NameKind.free&&env.scope.kind==.function&&env.kindOf n==some .cell)then(n,NameKind.cell)else(n,k))=some k:=h
   cases hx:x==n with
   | true=>
     have:=beq_iff_eq.mp hx
     subst this
     by_cases hcnd:(q==NameKind.free&&env.scope.kind==.function&&env.kindOf x==some .cell)=true
     · have:q=.free:=by
         rw[Bool.and_eq_true,Bool.and_eq_true]at hcnd
         have:=hcnd.1.1
         cases q<;>first|rfl|cases this
       subst this
       exact .inl List.mem_cons_self
     · rw[if_neg hcnd,List.lookup_cons,beq_self_eq_true]at h'
       cases h'
       rcases hk with rfl|rfl
       ·exact .inr List.mem_cons_self
       ·exact .inl List.mem_cons_self
   | false=>
     refine(ih ?_ hk).imp (List.mem_cons_of_mem _) (List.mem_cons_of_mem _)
     by_cases hcnd:(q==NameKind.free&&env.scope.kind==.function&&env.kindOf n==some .cell)=true
     ·rw[if_pos hcnd,List.lookup_cons,hx]at h';exact h'
     ·rw[if_neg hcnd,List.lookup_cons,hx]at h';exact h'
theorem nH{env:Env}:∀ {names:List (Str×NameKind)} {x:Str},names.lookup x=some .free→(names.map fun(n,k)=>if(k==NameKind.free&&env.scope.kind==.function&&env.kindOf n==some .cell)then(n,NameKind.cell)else(n,k)).lookup x=some .cell∨
   (names.map fun(n,k)=>if(k==NameKind.free&&env.scope.kind==.function&&env.kindOf n==some .cell)then(n,NameKind.cell)else(n,k)).lookup x=some .free
 |[],_,h=>by simp at h
 | (n,q)::r,x,h=>by
   show List.lookup x ((if(q==NameKind.free&&env.scope.kind==.function&&env.kindOf n==some .cell)=true then(n,NameKind.cell)else(n,q))::r.map fun(n,k)=>if(k==NameKind.free&&env.scope.kind==.function&&env.kindOf n==some .cell)then(n,NameKind.cell)else(n,k))=_∨
     List.lookup x ((if(q==NameKind.free&&env.scope.kind==.function&&env.kindOf n==some .cell)=true then(n,NameKind.cell)else(n,q))::r.map fun(n,k)=>if(k==NameKind.free&&env.scope.kind==.function&&env.kindOf n==some .cell)then(n,NameKind.cell)else(n,k))=_
   rw[List.lookup_cons]at h
   by_cases hcnd:(q==NameKind.free&&env.scope.kind==.function&&env.kindOf n==some .cell)=true
   · rw[if_pos hcnd,List.lookup_cons]
     cases hx:x==n with
     |true=>exact .inl rfl
     |false=>rw[hx]at h;exact nH h
   · rw[if_neg hcnd,List.lookup_cons]
     cases hx:x==n with
     |true=>rw[hx]at h;exact .inr h
     |false=>rw[hx]at h;exact nH h
structure ij(X:Cx)(scope:Scope)(tn fv:List Str)(fvi:List Nat):Prop where
 kind:scope.kind=.function
 cells:∀y∈scope.names,y.2=.cell→scope.names.lookup y.1=some .cell
 names:∀y∈scope.names,y.2=.local→scope.names.lookup y.1=some .local
 free:∀y∈scope.names,y.2=.free→X.env.scope.names.lookup y.1=some .cell
 pG:∀y∈scope.names,y.2=.free→scope.names.lookup y.1=some .free
 Ax:∀(j:Nat) i,fvi[j]? =some i→∃x,fv[j]? =some x∧X.N[i]? =some x∧(x,NameKind.free)∈scope.names
 len:fv.length=fvi.length
theorem tW (tn fv:List Str) (fvi:List Nat) {elt iter target:Expr} {ifs:List Expr} {scope:Scope} {it:bj} {tg:bo} {cs:List aJ} {el:Ex} (hxe:∀e s,¬X.xe e s) (hc:X.calm=true) (ok:ij X scope tn fv fvi) (hi:JI X target iter it) (low:gx tn.length tg)
   (ht:∀cl C s H fp,JG (cw X scope cl C (tn++fv) s H fp) target tg) (hcs:∀cl C s H fp,kz (cw X scope cl C (tn++fv) s H fp) ifs cs) (hel:∀cl C s H fp,JE (cw X scope cl C (tn++fv) s H fp) elt el)
   (hs:∀x,foldedSetIterable iter X.env x=pure x) {use:Option (Value→Sem Unit)} {Qc:Value→Shared→Prop} {pins:List (Addr×Obj)} {s:Shared} {all:List D} {p1:Pos} (I:Inv X pins σ H s) (hr:aO (av X) H F σ ρ) (e:cD it tn.length fvi tg cs el ρ=.ok (.lst all))
   (hend:∀D C s4 H' vs Hq f,(∃m,s4.heap.Ns C m)→Inv X pins σ H' s4→cB X pins H' C→af H Hq→Hq D=none→ab (av X) Hq F all vs→upd Hq D (.lst vs)=H'→compPost (model X.prog X.w) X.A X.xe use Qc (.ref D) C (.ok f) s4):
   wpAny (model X.prog X.w) X.A (comprehension (.ListComp elt [⟨target,iter,ifs,0⟩] scope pos) scope X.env p1 (newList []) false (eval iter X.env) use) Qc X.xe s:=by
 obtain⟨ds,ed,e⟩:=ai.mp e
 have hlen:ds.length≤sizeLine:=by
   by_cases h:ds.length≤cU
   ·exact h
   ·rw[if_neg h]at e;cases e
 rw[if_pos (show ds.length≤cU from hlen)]at e
 obtain⟨ys,ey,e⟩:=ai.mp e
 have ey:cM tg cs el (ent tn.length ρ fvi) ds=.ok ys:=ey
 cases e
 obtain⟨cl,hclos,hsub,hhas⟩:=BP (scope:=scope) (env:=X.env) (fun y hy hf=>I.ok.has y.1 (.inl (ok.free y hy hf)))
 refine wpAny_comprehension_free (gs:=[]) rfl hs hclos ok.kind ok.names ?_
 refine L2.aE (hi pins s σ H _ I ⟨ρ,F,ds,hr,ed,fun J H' sm gv=>(⟨sm,gv⟩:af H H'∧Gives (av X) J H' F ds)⟩) fun v s1 h1=>L2.aE h1 fun itv s2 h2=>?_
 obtain⟨ita,fp,tn',J,H2,rfl,I2,T,st2,f2,sm2,gv⟩:=h2
 have r2:=hr.same sm2
 have clt:∀x c,cl.lookup x=some c→c<s2.heap.objs.size:=fun x c h=>let⟨v,cc⟩:=I2.cell x c (hsub x c h);cc.lt
 refine wpAny_newObj_type (zj (fun x c h=>by show c<(Heap.push _ _).objs.size;rw[Heap.size_push];exact Nat.lt_succ_of_lt (clt x c h)) (fun x y c hx hy=>I2.ok.inj x y c (hsub x c hx) (hsub y c hy)) fun h₁ cells hkeep hns₁ cinj csub chas cold=>?_)
 dsimp only at hns₁ hkeep csub chas ⊢
 generalize hD:s2.heap.objs.size=D at hns₁ hkeep csub chas ⊢
 generalize hP:s2.heap.push {cls:=.type "list",dict:=none,data:=.seq ([]:List Value).toArray}=HP at hns₁ hkeep csub chas ⊢
 have hC:HP.objs.size=D+1:=by rw[←hP,Heap.size_push,hD]
 generalize hCC:HP.objs.size=C at hns₁ csub chas hC ⊢
 have lt2:∀b,b<s2.heap.objs.size→b≠C∧b≠D:=fun b hb=>by rw[hD]at hb;exact⟨by omega,by omega⟩
 have old:∀b o,s2.heap.get? b=some o→h₁.get? b=some o:=fun b o e=>hkeep b o (hP▸Heap.get?_push_of_some _ e)
 have hDC:D≠C:=by omega
 have hacc:h₁.get? D=some {cls:=.type "list",data:=.seq ([]:List Value).toArray}:=hkeep _ _ (hP▸(by rw[←hD];exact Heap.get?_push_size _ rfl))
 have nD:H2 D=none:=I2.ao.fresh (Nat.le_of_eq hD)
 have nC:H2 C=none:=I2.ao.fresh (by omega)
 have sub1:af H2 (upd H2 D (.lst [])):=af.bL nD _
 let X':Cx:=cw X scope cells C (tn++fv) s2 H2 fp
 have fm:∀x c,cells.lookup x=some c→∀b∈fp,c≠b:=fun x c hx b hb=>by
   rcases csub x c hx with h|⟨h,_⟩
   ·exact(f2 b hb).2.2.2.2.1 x c (hsub x c h)
   · obtain⟨o,ho,_⟩:=T.obj _ _ st2 b hb
     have:=Heap.lt_size ho
     rw[hD]at this
     exact Nat.ne_of_gt (Nat.lt_of_lt_of_le this (by omega))
 have okX:X'.Ok:=by
   have hmod:=I2.ok.mod
   refine⟨hmod,ok.kind,I2.ok.glob,I2.ok.blt,(show s2.heap.objs.size≤C by rw[hD];omega),cinj,fun x hx=>?_,fun x c hf hx=>?_,fun h=>I2.ok.hd h,I2.ok.frames,.inl rfl,fun b hb=>?_,fun b o hb=>I2.bs b o hb,Nat.le_trans I2.ok.fW I2.sz,fun b o hb hx=>?_,fun b hb hf=>?_,I2.stack,I2.sV⟩
   · have hx':(relabel scope X.env).names.lookup x=some .cell∨(relabel scope X.env).names.lookup x=some .free:=hx
     have hx2:(x,NameKind.free)∈scope.names∨(x,NameKind.cell)∈scope.names:=by
       rcases hx' with h|h
       ·exact og (scope:=scope) h (.inl rfl)
       ·exact og (scope:=scope) h (.inr rfl)
     by_cases hm:(x,NameKind.cell)∈scope.names
     · obtain⟨c,h5,_⟩:=chas x hm
       exact⟨c,h5⟩
     · obtain⟨c,h5⟩:=hhas x (hx2.resolve_right hm)
       exact⟨c,cold x c h5 hm⟩
   · have hf:decide ((x,NameKind.cell)∈scope.names)=true:=hf
     obtain⟨c',h5,h6⟩:=chas x (of_decide_eq_true hf)
     have hx:cells.lookup x=some c:=hx
     rw[hx]at h5
     cases h5
     show s2.heap.objs.size≤c
     rw[hD];omega
   · obtain⟨o,ho,_⟩:=T.obj _ _ st2 b hb
     exact⟨(lt2 b (Heap.lt_size ho)).1,fun x c hx=>fm x c hx b hb⟩
   · obtain⟨_,_,_,h4,_⟩:=f2 b hx
     rcases h4 with h4|h4
     ·exact I2.ok.kl b o hb h4
     ·exact absurd (Nat.lt_of_lt_of_le (Heap.lt_size hb) (Nat.le_trans I2.ok.fW h4)) (Nat.lt_irrefl _)
   · obtain⟨_,h1,h2,_⟩:=f2 b hb
     exact(List.mem_cons.mp (I2.lM b hf)).elim h1 h2
 have fpX:∀ {H':Hp},(∀b∈fp,H' b=none)→∀b∈fp,cB X' [] H' b:=fun hn b hb=>by
   obtain⟨o,ho,_⟩:=T.obj _ _ st2 b hb
   refine⟨hn b hb,(lt2 b (Heap.lt_size ho)).1,fun hf=>?_,.inl hb,fun x c hx=>fm x c hx b hb,fun p hp=>nomatch hp⟩
   obtain⟨_,h1,h2,_⟩:=f2 b hb
   exact(List.mem_cons.mp (I2.lM b hf)).elim h1 h2
 have I3:Inv X' [] (stC tn.length σ fvi) (upd H2 D (.lst [])) {s2 with heap:=h₁}:=by
   refine⟨okX,rfl,I2.bare,Un.laid old (Nat.le_of_eq hD) nD,⟨_,hns₁,fun i x v hx hv vis=>?_⟩,fun x c hx=>?_,?_,fun x c hx=>?_,fun p hp=>(nomatch hp),I2.ao.laid old (Nat.le_of_eq hD) ⟨Nat.zero_le _,[],0,.nil,hacc⟩,?_⟩
   · have hx:(tn++fv)[i]? =some x:=hx
     by_cases hn:i<tn.length
     · unfold stC at hv
       rw[List.getElem?_append_left (by simpa using hn),List.getElem?_replicate,if_pos hn]at hv
       cases hv
     · have hn':tn.length≤i:=by omega
       rw[List.getElem?_append_right hn']at hx
       unfold stC at hv
       rw[List.getElem?_append_right (by simpa using hn'),List.length_replicate,List.getElem?_map]at hv
       cases ei:fvi[i - tn.length]? with
       |none=>rw[ei]at hv;cases hv
       | some k=>
         rw[ei]at hv
         obtain⟨x',hx',hN,hf⟩:=ok.Ax _ _ ei
         rw[hx]at hx'
         cases hx'
         have hv':σ[k]? =some (some v):=by
           have hv2:(σ[k]?).getD none=some v:=by simpa using hv
           cases ek:σ[k]? with
           |none=>rw[ek]at hv2;cases hv2
           |some z=>rw[ek]at hv2;exact congrArg some hv2
         obtain⟨m,hm,hl⟩:=I2.loc
         have hcell:X.env.scope.names.lookup x=some .cell:=ok.free _ hf rfl
         obtain⟨u,ru,lk⟩:=hl k x v hN hv' (.inr (.inl hcell))
         refine⟨u,ru,.inr ⟨?_,?_⟩⟩
         ·exact nH (env:=X.env) (ok.pG _ hf rfl)
         · rcases lk with⟨h1,_⟩|⟨_,c,hcc,cc⟩
           ·rw[show X.env.kindOf x=X.env.scope.names.lookup x from rfl,hcell]at h1;cases h1
           · obtain⟨c',hc'⟩:=hhas x hf
             have:=hsub x c' hc'
             rw[hcc]at this
             cases this
             refine⟨c,cold x c hc' fun hm=>?_,cc.keeps old⟩
             have h1:=ok.cells _ hm rfl
             have h2:=ok.pG _ hf rfl
             dsimp only at h1 h2
             rw[h1]at h2;cases h2
   · rcases csub x c hx with hx|⟨_,cc⟩
     · obtain⟨v,cc⟩:=I2.cell x c (hsub x c hx)
       exact⟨v,cc.keeps old⟩
     ·exact⟨_,cc⟩
   · show upd H2 D (.lst []) C=none
     rw[L2.az (Ne.symm hDC)];exact nC
   · show upd H2 D (.lst []) c=none
     rcases csub x c hx with hx|⟨hc0,_⟩
     · have h0:=I2.fJ x c (hsub x c hx)
       obtain⟨v,cc⟩:=I2.cell x c (hsub x c hx)
       rw[L2.az (lt2 c cc.lt).2];exact h0
     ·rw[L2.az (Nat.ne_of_gt (by omega))];exact I2.ao.fresh (by omega)
   · show(stC tn.length σ fvi).length=(tn++fv).length
     unfold stC;simp[ok.len]
 have hM:av X'=av X:=rfl
 let F':Addr→Prop:=fun b=>F b∨b=D
 have ent_un:∀(j:Nat) z,(ent tn.length ρ fvi)[j]? =some z→z=.un∨∃d,z=.sh d:=fun j z h=>(gU h).imp (fun h=>h) fun h=>h.1
 have ent_on:∀(j:Nat) xss,(ent tn.length ρ fvi)[j]? ≠some (.on xss):=fun j xss e=>by rcases ent_un j _ e with z|⟨_,z⟩<;>cases z
 have mvD:∀ {H'':Hp},af H2 H''→Mv F H2 F' H'':=fun sm b o n e=>⟨fun h=>h.elim n (fun z=>by subst z;rw[nD]at e;cases e),sm b o e⟩
 have r3:aO (av X) (upd H2 D (.lst [])) F' (stC tn.length σ fvi) (ent tn.length ρ fvi):=by
   have r0:=(z0 (n:=tn.length) (fv:=fvi) r2)
   exact⟨r0.len,fun b f=>by
       by_cases hb:b=D
       ·subst hb;exact⟨_,L2.bF⟩
       · obtain⟨o,ho⟩:=r0.aU b (f.resolve_right hb)
         exact⟨o,sub1 _ _ ho⟩,fun i d e=>let⟨v,h1,h2⟩:=r0.sh i d e;⟨v,h1,h2.mv (mvD sub1)⟩,fun i d e=>(gJ ent_un (.inl ⟨_,e⟩)).elim,fun i k d e=>(gJ ent_un (.inr ⟨_,_,e⟩)).elim,fun i j a o=>(gJ ent_un o).elim,.no ent_on⟩
 let R0:Result→Shared→Prop:=compPost (model X.prog X.w) X.A X.xe use Qc (.ref D) C
 have loop:codeAny (model X.prog X.w) X.A (.compLoop (.ListComp elt [⟨target,iter,ifs,0⟩] scope pos) 0 (.ref ita) (.ref D) X'.env) R0 {s2 with heap:=h₁}:=by
   refine vk (fun n s'=>∃i σ' H' vs as,n=ds.length - i∧i≤ds.length∧Inv X' [] σ' H' s'∧tn' i s'.heap∧(∀b∈fp,H' b=none)∧af H2 H'∧H' D=some (.lst vs)∧vs.length≤i∧ab (av X) H' F' as vs∧
       aO (av X) H' F' σ' (ent tn.length ρ fvi)∧∃rest,cM tg cs el (ent tn.length ρ fvi) (ds.drop i)=.ok rest∧as++rest=all) ?_ ds.length
     ⟨0,_,_,[],[],rfl,Nat.zero_le _,I3,T.keep _ _ _ st2 fun b _ o e=>old b o e,fun b hb=>?_,sub1,L2.bF,Nat.zero_le _,ab.nil,r3,all,ey,rfl⟩
   · rintro n s' ⟨i,σ',H',vs,as,rfl,hi',I',st',fr',sm',eD,hvs,ras,rS,rest,erest,eall⟩
     obtain⟨g1,g2⟩:=gv H' F' (mvD sm') rS.aU
     by_cases hlt:i<ds.length
     · obtain ⟨go,gy⟩:=g1 i ds[i] (by simp[hlt])
       refine L2.aE (T.item X' rfl rfl rfl hc i [] s' σ' H' _ I' (fpX fr') st' go) fun r s4 ⟨u,hr',h4⟩=>?_
       subst hr'
       refine L2.aE h4 fun _ s5 ⟨x,H5,I5,r5,y5,st5,fr5⟩=>?_
       obtain⟨s5',rx⟩:=gy x H5 y5
       rw[List.drop_eq_getElem_cons hlt]at erest
       unfold cM at erest
       obtain⟨ρ1,eg,erest⟩:=ai.mp erest
       obtain⟨t,et,erest⟩:=ai.mp erest
       have rS5:=rS.same s5'
       have rG:aN (av X) H2 (fun _=>False) H5 F' σ' (ent tn.length ρ fvi):=⟨rS5,sm'.trans s5',fun _ h=>h.elim,fun _ h=>h.elim,fun j a o=>(gJ ent_un o).elim,fun j xss _ e=>absurd e (ent_on j xss)⟩
       have I5':Inv X' ([]++L2.i7 fp s5.heap) σ' H5 s5:=I5.pinned (fpX fr5) (T.obj _ _ st5)
       refine wpAny_mono (ht cells C s2 H2 fp (fun _=>False) _ s5 σ' H5 x u (fun σ6 H6=>H6=H5∧aN (av X) H2 (fun _=>False) H5 F' σ6 ρ1) I5' r5 ⟨ent tn.length ρ fvi,F',ds[i],ρ1,rG,rx,eg,fun σ6 r6=>⟨rfl,r6⟩⟩) (fun _ s6 ⟨σ6,H6,I6,h6,r6⟩=>?_) (fun e s f=>(hxe e s f).elim)
       subst h6
       refine wpAny_mono (tQ (X:=X') (M:=av X) (E:=X.xe) rfl (fun _ _ h=>h) (hcs cells C s2 H2 fp) (Q:=fun b H7=>b=t∧af H6 H7) I6 r6.rs et (fun H7 s7=>⟨rfl,s7⟩)) (fun b s7 ⟨H7,I7,hb,s7'⟩=>?_) (fun e s f=>(hxe e s f).elim)
       subst hb
       have sm7:af H2 H7:=(sm'.trans s5').trans s7'
       have D7:H7 D=some (.lst vs):=s7' _ _ (s5' _ _ eD)
       have lowr:=low _ _ _ eg
       have back:∀ {H'':Hp},aO (av X) H'' F' σ6 ρ1→aO (av X) H'' F' σ6 (ent tn.length ρ fvi):=fun r=>r.less lowr.1.symm fun j z hz=>by
         rcases gU hz with h|⟨h,hn,_⟩
         ·exact .inl h
         ·exact .inr ⟨h,by rw[lowr.2 j hn];exact hz⟩
       have again:∀ {s8:Shared} {H8:Hp},Inv X' ([]++L2.i7 fp s5.heap) σ6 H8 s8→Inv X' [] σ6 H8 s8∧tn' (i+1) s8.heap∧∀b∈fp,H8 b=none:=fun {s8 H8} I8=>by
         refine⟨I8.lz,T.keep _ _ _ st5 fun b hb o e=>(I8.pin (b,o) (List.mem_append_right _ (List.mem_append_right _ (L2.lL hb e)))).1,fun b hb=>?_⟩
         obtain⟨o,e,d⟩:=T.obj _ _ st5 b hb
         exact(I8.pin (b,o) (List.mem_append_right _ (List.mem_append_right _ (L2.lL hb e)))).2.1
       cases b with
       | false=>
         rw[if_neg (by decide)]at erest
         rw[if_neg (by decide)]
         obtain⟨a1,a2,a3⟩:=again I7
         exact⟨ds.length - (i+1),by omega,i+1,σ6,H7,vs,as,rfl,hlt,a1,a2,a3,sm7,D7,by omega,ras.mv (.same (s5'.trans s7')),back (r6.rs.same s7'),rest,erest,eall⟩
       | true=>
         rw[if_pos rfl]at erest
         rw[if_pos rfl]
         obtain⟨y,ey1,erest⟩:=ai.mp erest
         obtain⟨ys1,ey2,erest⟩:=ai.mp erest
         cases erest
         refine wpAny_mono (hel cells C s2 H2 fp _ s7 σ6 H7 (fun v H8=>af H7 H8∧Rep (av X) H8 F' y v) I7 ⟨ρ1,F',y,r6.rs.same s7',ey1,fun v H8 s8 rv=>⟨s8,rv⟩⟩) (fun u2 s8 ⟨v,H8,I8,rv8,s8',rep8⟩=>?_) (fun e s f=>(hxe e s f).elim)
         have D8:H8 D=some (.lst vs):=s8' _ _ D7
         refine wpAny_mono (L2.kx (X:=X') _ s8 σ6 H8 (.ref D) [v] (.ref D) [u2] (fun _ H9=>H9=upd H8 D (.lst (vs++[v]))) I8 rfl (.cons rv8 .nil) ⟨D,vs,v,rfl,rfl,D8,by omega,rfl⟩) (fun _ s9 ⟨_,H9,I9,_,h9⟩=>?_) (fun e s f=>(hxe e s f).elim)
         subst h9
         obtain⟨a1,a2,a3⟩:=again I9
         have mv9:Mv F' H8 F' (upd H8 D (.lst (vs++[v]))):=fun b o n e=>⟨n,by rw[L2.az (fun z=>n (.inr z))];exact e⟩
         have mvA:Mv F' H' F' (upd H8 D (.lst (vs++[v]))):=Mv.trans (.same (s5'.trans (s7'.trans s8'))) mv9
         have r8:=back ((r6.rs.same s7').same s8')
         refine⟨ds.length - (i+1),by omega,i+1,σ6,_,vs++[v],as++[y],rfl,hlt,a1,a2,a3,fun b o e=>?_,L2.bF,by simp;omega,(ras.mv mvA).append (ab.cons (rep8.mv mv9) ab.nil),?_,ys1,ey2,by rw[List.append_assoc];exact eall⟩
         ·rw[L2.az (fun z=>by subst z;rw[nD]at e;cases e)];exact s8' _ _ (sm7 _ _ e)
         · exact⟨r8.len,fun b f=>by
             by_cases hb:b=D
             ·subst hb;exact⟨_,L2.bF⟩
             · obtain⟨o,ho⟩:=r8.aU b f
               exact⟨o,by rw[L2.az hb];exact ho⟩,fun i d e=>let⟨v,h1,h2⟩:=r8.sh i d e;⟨v,h1,h2.mv mv9⟩,fun i d e=>(gJ ent_un (.inl ⟨_,e⟩)).elim,fun i k d e=>(gJ ent_un (.inr ⟨_,_,e⟩)).elim,fun i j a o=>(gJ ent_un o).elim,.no ent_on⟩
     · have ei:i=ds.length:=by omega
       subst ei
       rw[List.drop_length]at erest
       cases erest
       rw[List.append_nil]at eall
       subst eall
       refine L2.aE (T.done X' rfl rfl rfl hc _ [] s' σ' H' _ I' (fpX fr') st' g2) fun r s4 ⟨hr',I4⟩=>?_
       subst hr'
       obtain⟨m,hm,_⟩:=I4.loc
       have C4:H' C=none:=I4.free
       have u4:Un (L2.cv X.stack) fp H2 H' s2.heap s4.heap:=I4.base
       have I5:Inv X pins σ H' s4:=I2.tJ (s':=s4) (ch:=fp) I4.os u4 I4.ao I4.bare fun b hb=>by
         obtain⟨_,a1,a2,a3,a4,a5⟩:=f2 b hb
         exact⟨a3,a1,a4,a5⟩
       have fC:cB X pins H' C:=I2.jn (by omega) C4
       have hH:∃Hq:Hp,af H Hq∧Hq D=none∧ab (av X) Hq F as vs∧upd Hq D (.lst vs)=H':=by
         refine⟨fun b=>if b=D then none else H' b,fun b o e=>?_,by simp,?_,?_⟩
         · have hb:b≠D:=fun z=>by subst z;have:=sm2 _ _ e;rw[nD]at this;cases this
           simp only[if_neg hb]
           exact sm' _ _ (sm2 _ _ e)
         · refine ras.mv fun b o n e=>⟨fun f=>n (.inl f),?_⟩
           have hb:b≠D:=fun z=>n (.inr z)
           simp only[if_neg hb]
           exact e
         · funext b
           unfold upd
           by_cases hb:b=D
           ·simp only[if_pos hb];rw[hb];exact eD.symm
           ·simp only[if_neg hb]
       obtain⟨Hq,q1,q2,q3,q4⟩:=hH
       exact hend D C s4 H' vs Hq _ ⟨m,hm⟩ I5 fC q1 q2 q3 q4
   · show upd H2 D (.lst []) b=none
     obtain⟨o,ho,_⟩:=T.obj _ _ st2 b hb
     rw[L2.az (lt2 b (Heap.lt_size ho)).2]
     exact(f2 b hb).1
 exact codeAny_compStart_list loop (T.self _ 0 _ _ _ (T.keep _ _ _ st2 fun b _ o e=>old b o e) loop)
theorem B6(tn fv:List Str)(fvi:List Nat){elt iter target:Expr}{ifs:List Expr}{scope:Scope}{it:bj}{tg:bo}{cs:List aJ}{el:Ex}(hxe:∀e s,¬X.xe e s)(hc:X.calm=true)(ok:ij X scope tn fv fvi)(hi:JI X target iter it)(low:gx tn.length tg)
   (ht:∀cl C s H fp,JG (cw X scope cl C (tn++fv) s H fp) target tg) (hcs:∀cl C s H fp,kz (cw X scope cl C (tn++fv) s H fp) ifs cs) (hel:∀cl C s H fp,JE (cw X scope cl C (tn++fv) s H fp) elt el)
   (hs:∀x,foldedSetIterable iter X.env x=pure x):JF X (.ListComp elt [⟨target,iter,ifs,0⟩] scope pos) (cD it tn.length fvi tg cs el):=by
 intro pins s σ H Q I ⟨ρ,F,all,hr,e,q⟩
 show wpAny _ _ (comprehension (.ListComp elt [⟨target,iter,ifs,0⟩] scope pos) scope X.env _ (newList []) false (eval iter X.env) none) _ _ s
 refine tW tn fv fvi hxe hc ok hi low ht hcs hel hs I hr e fun D C s4 H' vs Hq f hm I5 fC q1 q2 q3 q4=>?_
 obtain⟨m,hm⟩:=hm
 refine⟨m,hm,fun h' hsb=>⟨.ref D,H',I5.turned (t':=s4.toks) (fun b o n e=>by rw[hsb.2 b n];exact e) fC.1 fC.2.1 fC.2.2.2.1 fC.2.2.2.2.1 fC.2.2.2.2.2,rfl,?_⟩⟩
 rw[←q4]
 exact q D Hq vs q1 q2 q3
theorem tU(i:Nat){y:Str}{py spos:Pos}(tn fv:List Str)(fvi:List Nat){elt iter target:Expr}{ifs:List Expr}{scope:Scope}{it:bj}{tg:bo}{cs:List aJ}{el:Ex}(hxe:∀e s,¬X.xe e s)(hc:X.calm=true)(ok:ij X scope tn fv fvi)(hi:JI X target iter it)(low:gx tn.length tg)
   (ht:∀cl C s H fp,JG (cw X scope cl C (tn++fv) s H fp) target tg) (hcs:∀cl C s H fp,kz (cw X scope cl C (tn++fv) s H fp) ifs cs) (hel:∀cl C s H fp,JE (cw X scope cl C (tn++fv) s H fp) elt el)
   (hs:∀x,foldedSetIterable iter X.env x=pure x) (hN:X.N.Nodup) (hy:X.N[i]? =some y) (hx:L2.Loc X.env.scope y) (hf:X.fn y=true∨X.env.scope.names.lookup y=some .local)
   (hsw:swapsWith (.ListComp elt [⟨target,iter,ifs,0⟩] scope pos) (some (.Name y py)) spos.line X.env=pure true):PS X (.Assign [.Name y py] (.ListComp elt [⟨target,iter,ifs,0⟩] scope pos) spos) (L2.kD (kT (av X) (cD it tn.length fvi tg cs el)) (L2.ar i)):=by
 intro pins s σ H D I ⟨ρ,F,all,hr,e,q⟩
 rw[exec_Assign_Name_used _ _ _ _ hsw]
 refine wpAny_bind (wpAny_standAt (wpAny_bind ?_))
 show wpAny _ _ (do let _ ←comprehension (.ListComp elt [⟨target,iter,ifs,0⟩] scope pos) scope X.env _ (newList []) false (eval iter X.env) (some (assign (.Name y py) X.env))) _ _ s
 refine wpAny_bind (L2.aE (tW (Qc:=fun _ s'=>L2.SP X pins D .next s') tn fv fvi hxe hc ok hi low ht hcs hel hs I hr e fun D1 C s4 H' vs Hq f hm I5 fC q1 q2 q3 q4=>?_) fun _ s' hq=>wpAny_pure (wpAny_pure hq))
 obtain⟨m,hm⟩:=hm
 show wpAny _ _ (assign (.Name y py) X.env (.ref D1)) _ _ _
 refine wpAny_assign_Name (L2.qf (v:=.ref D1) I5 hN hy hx rfl (fun s5 I6 hsb=>?_) hf)
 obtain⟨a,hsb,ha⟩:=hsb
 have hCa:C≠a:=by
   rcases ha with z|z
   ·rw[z];exact fC.2.1
   ·exact fun e=>fC.2.2.2.2.1 _ _ z e.symm
 refine⟨m,hm.sameBut hsb hCa,fun h' hsb2=>⟨_,H',I6.turned (t':=s5.toks) (fun b o n e=>by rw[hsb2.2 b n];exact e) fC.1 fC.2.1 fC.2.2.2.1 fC.2.2.2.2.1 fC.2.2.2.2.2,?_⟩⟩
 rw[←q4]
 exact q D1 Hq vs q1 q2 q3
end
section
variable{X:Cx}{M:Md}{G H H':Hp}{F0 F F':Addr→Prop}{σ:L2.St}{ρ:En}{pos:Pos}{pins:List (Addr×Obj)}{s:Shared}
theorem p8{e:Expr}{f:Ex}(h:JF X e f)(hl:∀ρ d,f ρ=.ok d→∃ds,d=.lst ds):JE X e f:=
 bc h fun σ H Q ⟨ρ,F,d,hr,e,q⟩=>by
   obtain⟨ds,rfl⟩:=hl _ _ e
   exact⟨ρ,F,ds,hr,e,fun p H' xs sm hp rs=>q _ _ (sm.trans (af.bL hp _)) (gq (hr.same sm).aU hp rs)⟩
theorem pj{it:bj}{n:Nat}{fv:List Nat}{tg:bo}{cs:List aJ}{el:Ex}(ρ:En)(d:D)(h:cD it n fv tg cs el ρ=.ok d):∃ds,d=.lst ds:=by
 obtain⟨ds,_,h⟩:=ai.mp h
 split at h
 · obtain⟨ys,_,h⟩:=ai.mp h
   cases h
   exact⟨_,rfl⟩
 ·cases h
noncomputable def q9(sc0:Scope)(N0:List Str)(scope:Scope)(fv:List Str)(fvi:List Nat):Bool:=
 decide (scope.kind=.function)&&scope.names.all (fun y=>(decide (y.2≠.cell)||decide (scope.names.lookup y.1=some .cell))&&(decide (y.2≠.local)||decide (scope.names.lookup y.1=some .local))&&(decide (y.2≠.free)||(decide (sc0.names.lookup y.1=some .cell)&&decide (scope.names.lookup y.1=some .free))))
   &&decide (fv.length=fvi.length)&&(fvi.zip fv).all (fun p=>decide (N0[p.1]? =some p.2)&&decide ((p.2,NameKind.free)∈scope.names))
theorem jw{scope:Scope}{tn fv:List Str}{fvi:List Nat}(sc0:Scope)(N0:List Str)(h1:X.env.scope=sc0)(h2:X.N=N0)(h:q9 sc0 N0 scope fv fvi=true):ij X scope tn fv fvi:=by
 subst h1 h2
 unfold q9 at h
 rw[Bool.and_eq_true,Bool.and_eq_true,Bool.and_eq_true,decide_eq_true_eq,decide_eq_true_eq,List.all_eq_true,List.all_eq_true]at h
 obtain⟨⟨⟨hk,hn⟩,hl⟩,hf⟩:=h
 have hn':∀y∈scope.names,(y.2≠.cell∨scope.names.lookup y.1=some .cell)∧(y.2≠.local∨scope.names.lookup y.1=some .local)∧(y.2≠.free∨(X.env.scope.names.lookup y.1=some .cell∧scope.names.lookup y.1=some .free)):=fun y hy=>by
   have:=hn y hy
   simp only[Bool.and_eq_true,Bool.or_eq_true,decide_eq_true_eq]at this
   exact⟨this.1.1,this.1.2,this.2⟩
 refine⟨hk,fun y hy hl=>(hn' y hy).1.resolve_left (fun h=>h hl),fun y hy hl=>(hn' y hy).2.1.resolve_left (fun h=>h hl),fun y hy hl=>((hn' y hy).2.2.resolve_left (fun h=>h hl)).1,fun y hy hl=>((hn' y hy).2.2.resolve_left (fun h=>h hl)).2,fun j i hj=>?_,hl⟩
 obtain⟨hjl,_⟩:=List.getElem?_eq_some_iff.mp hj
 have hx:fv[j]? =some (fv[j]'(by omega)):=List.getElem?_eq_getElem (by omega)
 have hm:(i,fv[j]'(by omega))∈fvi.zip fv:=by
   refine List.mem_iff_getElem?.mpr ⟨j,?_⟩
   rw[List.getElem?_zip_eq_some]
   exact⟨hj,hx⟩
 have:=hf _ hm
 simp only[Bool.and_eq_true,decide_eq_true_eq]at this
 exact⟨_,hx,this.1,this.2⟩
theorem sH{d:D}{v:V}(f:flat d=true)(r:Rep M H F d v):L2.fg v=true:=by
 cases d<;>first|(simp only[Rep]at r;subst r;rfl)|(cases f)
theorem qr:∀ {ds:List D} {vs:List V},ds.all flat=true→ab M H F ds vs→vs.all L2.fg=true
 |[],_,_,r=>by simp only[ab]at r;subst r;rfl
 | d::ds,_,f,r=>by
   rw[List.all_cons,Bool.and_eq_true]at f
   simp only[ab]at r
   obtain⟨x,t,rfl,r1,r2⟩:=r
   rw[List.all_cons,sH f.1 r1,qr f.2 r2];rfl
theorem CN{a b:D}{x y:V}(fa:flat a=true)(fb:flat b=true)(ra:Rep M H F a x)(rb:Rep M H F b y):L2.eN x y=bq a b:=by
 cases a<;>(try cases fa)<;>cases b<;>(try cases fb)<;>simp only[Rep]at ra rb<;>subst ra<;>subst rb<;>first|rfl|(simp only[L2.eN,bq];exact str_beq _ _)
theorem pR:∀ {ds:List D} {vs:List V} {b:D} {y:V},ds.all flat=true→flat b=true→ab M H F ds vs→Rep M H F b y→L2.mE y vs=ds.any fun d=>bq d b
 |[],_,_,_,_,_,r,_=>by simp only[ab]at r;subst r;rfl
 | d::ds,_,b,y,f,fb,r,rb=>by
   rw[List.all_cons,Bool.and_eq_true]at f
   simp only[ab]at r
   obtain⟨x,t,rfl,r1,r2⟩:=r
   show(L2.eN x y||L2.mE y t)=(bq d b||ds.any fun d=>bq d b)
   rw[CN f.1 fb r1 rb,pR f.2 fb r2 rb]
theorem vT{ks:List Ky}{xs:List V}{ds:List D}:∀(k:Ky),ks.length=xs.length→ab M H F ds xs→(cE k ks ds=none→L2.bO (ks.zip xs) k=none)∧∀d,cE k ks ds=some d→∃v,L2.bO (ks.zip xs) k=some v∧Rep M H F d v:=by
 induction ks generalizing xs ds with
 | nil=>
   intro k hl r
   cases xs with
   |nil=>exact⟨fun _=>rfl,fun d h=>by simp[cE]at h⟩
   |cons _ _=>simp at hl
 | cons a ks ih=>
   intro k hl r
   cases xs with
   |nil=>simp at hl
   | cons x xs=>
     cases ds with
     |nil=>simp only[ab]at r;cases r
     | cons d0 ds=>
       simp only[ab]at r
       obtain⟨x',t,e,r1,r2⟩:=r
       cases e
       have ih:=ih (xs:=xs) (ds:=ds) k (by simpa using hl) r2
       have hz:(a::ks).zip (x::xs)=(a,x)::ks.zip xs:=rfl
       rw[hz]
       by_cases hk:a=k
       · subst hk
         have h1:L2.bO ((a,x)::ks.zip xs) a=some x:=by simp[L2.bO]
         refine⟨fun h=>by simp[cE]at h,fun d h=>⟨x,h1,?_⟩⟩
         simp[cE]at h
         subst h
         exact r1
       · have h1:L2.bO ((a,x)::ks.zip xs) k=L2.bO (ks.zip xs) k:=by simp[L2.bO,hk]
         rw[h1]
         refine⟨fun h=>ih.1 (by simpa[cE,hk] using h),fun d h=>ih.2 d (by simpa[cE,hk] using h)⟩
theorem iN{d:D}{k:Ky}{v:V}(h:keyOf d=some k)(r:Rep M H F d v):v=L2.kV k:=by
 cases d with
 |int i=>cases h;exact aT r
 |str x=>cases h;exact eT r
 |_=>cases h
theorem qO{a:Addr}{ks:List Ky}{ds:List D}{xs:List V}(I:Inv X pins σ H s)(h:fj (av X) H F a (ks.zip xs))(hl:ks.length=xs.length)(rs:ab (av X) H F ds xs)(k:Ky):
   ∃vs,s.heap.DictOf (L2.bR X.prog X.w) a vs∧(a==sysModules)=false∧(cE k ks ds=none→valueAt vs k=none)∧∀d,cE k ks ds=some d→∃v u,valueAt vs k=some u∧RelV v u∧Rep (av X) H F d v:=by
 obtain⟨z,hd,vs,rel,dd⟩:=j6 I h
 obtain⟨f1,f2⟩:=vT (M:=av X) (H:=H) (F:=F) k hl rs
 refine⟨vs,dd,hd,fun hn=>?_,fun d hdd=>?_⟩
 ·exact L2.cT.none_of (by rw[←f1 hn];exact L2.KV.val rel k)
 · obtain⟨v,hv,rv⟩:=f2 d hdd
   obtain⟨u,hu,ru⟩:=L2.cT.some_of (v:=v) (o:=valueAt vs k) (by rw[←hv];exact L2.KV.val rel k)
   exact⟨v,u,hu,ru,rv⟩
noncomputable def sM(M:Md):R2:=fun x y H Q=>L2.nO M.K x y H Q∨∃F a b d,Rep M H F a x∧Rep M H F b y∧mq a b=.ok d∧∀v,Rep M H F d v→Q v H
theorem vJ:L2.eK X (sM (av X)):=by
 refine L2.eK.or L2.mN ?_
 intro value slice pins s σ H x y v u Q I rx ry h hs
 obtain⟨F,a,b,d,ra,rb,e,q⟩:=h
 unfold mq at e
 split at e
 · rename_i ks vs
   split at e
   · rename_i k hk
     split at e
     · rename_i d' hf
       cases e
       simp only[Rep]at ra
       obtain⟨p,xs,rfl,h1,hl,rs⟩:=ra
       cases rx
       cases iN hk rb
       obtain⟨ws,dd,hd,f1,f2⟩:=qO I h1 hl rs k
       obtain⟨w,w',hw,rw',rd⟩:=f2 _ hf
       exact PyProof.Rows.tail_any dd.typeIs PySem.F.slot_dict_getitem.lookup (wpAny_getItem_of (L2.jd ry) dd.mapOf hw ⟨w,H,I.tok _,rw',q w rd⟩) hs
     ·cases e
   ·cases e
 ·cases e
theorem wm:bY M aV (sM M):=by
 intro F H x y a b d Q tr ra rb e q
 cases a with
 |lst xs=>exact .inl (nE F H x y _ b d Q tr ra rb e q)
 |tup xs=>exact .inl (nE F H x y _ b d Q tr ra rb e q)
 |str z=>exact .inl (nE F H x y _ b d Q tr ra rb e q)
 |aD ks vs=>exact .inr ⟨F,_,b,d,ra,rb,e,fun v rv=>q v H (af.refl H) rv⟩
 |_=>cases e
theorem CM{a b:Expr}{fa fb:Ex}(ha:JE X a fa)(hb:JE X b fb)(hs:L2.fu b:=by exact fun _ _=>rfl):JE X (.Subscript a b pos) (e2 aV fa fb):=
 bc (L2.me vJ ha hb hs) fun σ H Q h=>lO wm h
noncomputable def sT(M:Md)(neg:Bool):R2:=fun x y H Q=>∃F a b k,Rep M H F a x∧Rep M H F b y∧kB a b=.ok (.bl k)∧Q (.bl (if neg then !k else k)) H
theorem CU{a b:D}{k:Bool}(h:kB a b=.ok (.bl k)):(∃ys,(b=.lst ys∨b=.tup ys)∧flat a=true∧ys.all flat=true∧k=ys.any fun y=>bq y a)∨∃ks vs q,b=.aD ks vs∧keyOf a=some q∧k=(cE q ks vs).isSome:=by
 cases b with
 | lst ys=>
   have h':(if flat a=true∧ys.all flat=true then(R.ok (D.bl (ys.any fun y=>bq y a)):R D)else .bad)=.ok (.bl k):=by cases a<;>exact h
   split at h'
   ·rename_i c;cases h';exact .inl ⟨ys,.inl rfl,c.1,c.2,rfl⟩
   ·cases h'
 | tup ys=>
   have h':(if flat a=true∧ys.all flat=true then(R.ok (D.bl (ys.any fun y=>bq y a)):R D)else .bad)=.ok (.bl k):=by cases a<;>exact h
   split at h'
   ·rename_i c;cases h';exact .inl ⟨ys,.inr rfl,c.1,c.2,rfl⟩
   ·cases h'
 | aD ks vs=>
   cases hq:keyOf a with
   |none=>cases a<;>simp[hq]at h
   | some q=>
     refine .inr ⟨ks,vs,q,rfl,rfl,?_⟩
     cases a<;>simp[hq]at h<;>exact h.symm
 |str y=>cases a<;>simp at h
 |_=>cases a<;>simp at h
theorem yQ(hu:X.A.units+64<cLine):aQ X (compareOp .NotIn) (sT (av X) true):=by
 intro pins s σ H x y v u Q I rx ry h
 obtain⟨F,a,b,k,ra,rb,e,q⟩:=h
 rcases CU e with⟨ys,hb,fa,fs,rfl⟩|⟨ks,vs,q',rfl,hq,rfl⟩
 · have:∃p xs,y=.ref p∧(aM X.K H p xs∨aW X.K H p xs)∧ab (av X) H F ys xs:=by
     rcases hb with rfl|rfl
     ·simp only[Rep]at rb;obtain⟨p,xs,e,h1,h2⟩:=rb;exact⟨p,xs,e,.inl h1.sq,h2⟩
     ·simp only[Rep]at rb;obtain⟨p,xs,e,h1,h2⟩:=rb;exact⟨p,xs,e,.inr h1.sq,h2⟩
   obtain⟨p,xs,rfl,hs,rs⟩:=this
   refine L2.wD pins s σ H x (.ref p) v u Q I rx ry ⟨p,xs,rfl,hs,sH fa ra,qr fs rs,?_⟩
   rw[pR fs fa rs ra]
   exact q
 · simp only[Rep]at rb
   obtain⟨p,xs,rfl,h1,hl,rs⟩:=rb
   cases ry
   cases iN hq ra
   obtain⟨ws,dd,hd,f1,f2⟩:=qO I h1 hl rs q'
   refine wpAny_notIn_of (L2.jd rx) hd dd.mapOf ?_
   cases hf:cE q' ks vs with
   |none=>rw[f1 hf];rw[hf]at q;exact⟨.bl _,H,I.tok _,rfl,q⟩
   |some d=>obtain⟨_,w,hw,_⟩:=f2 d hf;rw[hw];rw[hf]at q;exact⟨.bl _,H,I.tok _,rfl,q⟩
theorem yn{a b d:D}(h:kB a b=.ok d):∃k,d=.bl k:=by
 cases b with
 | lst ys=>
   have h':(if flat a=true∧ys.all flat=true then(R.ok (D.bl (ys.any fun y=>bq y a)):R D)else .bad)=.ok d:=by cases a<;>exact h
   split at h'<;>cases h'
   exact⟨_,rfl⟩
 | tup ys=>
   have h':(if flat a=true∧ys.all flat=true then(R.ok (D.bl (ys.any fun y=>bq y a)):R D)else .bad)=.ok d:=by cases a<;>exact h
   split at h'<;>cases h'
   exact⟨_,rfl⟩
 | aD ks vs=>
   cases hq:keyOf a with
   |none=>cases a<;>simp[hq]at h
   |some q=>cases a<;>simp[hq]at h<;>exact⟨_,h.symm⟩
 |str y=>cases a<;>simp at h
 |_=>cases a<;>simp at h
theorem qP{a b d:D}(h:kC a b=.ok d):∃k,kB a b=.ok (.bl k)∧d=.bl (!k):=by
 obtain⟨r,hr,h⟩:=ai.mp h
 obtain⟨k,rfl⟩:=yn hr
 cases h
 exact⟨k,hr,rfl⟩
theorem C6:gi kC:=fun a b d h=>let⟨k,_,e⟩:=qP h;⟨_,e⟩
theorem zZ:bY M kC (sT M true):=by
 intro F H x y a b d Q tr ra rb e q
 obtain⟨k,hk,rfl⟩:=qP e
 exact⟨F,a,b,k,ra,rb,hk,q _ _ (af.refl _) dW⟩
end
section
variable{X:Cx}{M:Md}{G H H':Hp}{F0 F F':Addr→Prop}{σ:L2.St}{ρ:En}{pos:Pos}{pins:List (Addr×Obj)}{s:Shared}
end
section
variable{prog:Program}{w:World}{A:Around}{E:Value→Shared→Prop}{s:Shared}
theorem A1{it t:Addr}{i:Nat}{items:Array Value}{x:Value}{Q:Value→Shared→Prop}(hit:s.heap.IsTupleIter it t i)(ht:s.heap.IsTuple t items)(hx:items[i]? =some x)
   (hQ:∀h',h'.IsTupleIter it t (i+1)→Heap.SameBut it s.heap h'→Q x {s with heap:=h'}):wpAny (model prog w) A (Builtin.SmallTypes.nextOf (.ref it)) Q E s:=by
 obtain⟨oi,hoi,hci,hdi⟩:=id hit
 obtain⟨ot,hot,_,nt,hdt⟩:=ht
 unfold Builtin.SmallTypes.nextOf
 refine wpAny_bind (wpAny_callSpecial?_slot (name:=Str.ofString "__next__") hit.typeIs PySem.F.slot_tuple_iterator_next (wpAny_call_entry PySem.F.slot_tuple_iterator_next hit.typeIs PySem.F.entry_tuple_iterator_next ?_ (PySem.F.args_tuple_iterator_next_1 _)))
 show wpAny _ _ (PySem.field (.ref it) 0 >>= _) _ _ s;refine wpAny_bind (wpAny_field hoi hdi (x:=.ref t) rfl ?_)
 show wpAny _ _ (if(Value.ref t==Value.none)=true then _ else _) _ _ s;rw[if_neg (show ¬((Value.ref t==Value.none)=true)from Bool.false_ne_true)]
 show wpAny _ _ (PySem.field (.ref it) 1 >>= _) _ _ s;refine wpAny_bind (wpAny_field hoi hdi (x:=.int i 0) rfl ?_)
 show wpAny _ _ (seqItems? (.ref t) >>= _) _ _ s;refine wpAny_bind (wpAny_seqItems hot hdt ?_)
 simp only[Int.toNat_natCast,hx]
 exact wpAny_bind (wpAny_setField hoi hdi (by simp) (wpAny_pure ⟨x,rfl,wpAny_pure (hQ _ ⟨_,Heap.get?_update_self _ hoi (Obj.isFreed_of_fields (Obj.data_mapFields hdi _)),(Obj.cls_mapFields ..).trans hci,by rw[Obj.data_mapFields hdi];simp[rawInt]⟩ (Heap.SameBut.update ..))⟩))
theorem Cd{it t:Addr}{i:Nat}{items:Array Value}{Q:Value→Shared→Prop}(hh:A.handled=none)(hit:s.heap.IsTupleIter it t i)(ht:s.heap.IsTuple t items)(hx:items[i]? =none)
   (hE:∀h' e,Heap.ExtBut it s.heap h'→(∃o,h'.get? e=some o∧o.cls=.type "StopIteration")→E (.ref e) {s with heap:=h'}):wpAny (model prog w) A (Builtin.SmallTypes.nextOf (.ref it)) Q E s:=by
 obtain⟨oi,hoi,hci,hdi⟩:=id hit
 obtain⟨ot,hot,_,nt,hdt⟩:=ht
 unfold Builtin.SmallTypes.nextOf
 refine wpAny_bind (wpAny_callSpecial?_slot (name:=Str.ofString "__next__") hit.typeIs PySem.F.slot_tuple_iterator_next (wpAny_call_entry PySem.F.slot_tuple_iterator_next hit.typeIs PySem.F.entry_tuple_iterator_next ?_ (PySem.F.args_tuple_iterator_next_1 _)))
 show wpAny _ _ (PySem.field (.ref it) 0 >>= _) _ _ s;refine wpAny_bind (wpAny_field hoi hdi (x:=.ref t) rfl ?_)
 show wpAny _ _ (if(Value.ref t==Value.none)=true then _ else _) _ _ s;rw[if_neg (show ¬((Value.ref t==Value.none)=true)from Bool.false_ne_true)]
 show wpAny _ _ (PySem.field (.ref it) 1 >>= _) _ _ s;refine wpAny_bind (wpAny_field hoi hdi (x:=.int i 0) rfl ?_)
 show wpAny _ _ (seqItems? (.ref t) >>= _) _ _ s;refine wpAny_bind (wpAny_seqItems hot hdt ?_)
 simp only[Int.toNat_natCast,hx]
 refine wpAny_bind (wpAny_rule (wpAny_bind (wpAny_setField hoi hdi (by simp) ?_)))
 show wpAny _ _ (newExc (.type "StopIteration") [] >>= _) _ _ _;refine wpAny_bind ?_
 simp only[newExc,newTuple]
 refine wpAny_bind (wpAny_newObj_type (wpAny_bind (m:=firstArgMember _ _) (wpAny_of_eq (a:=Value.none) (by first|rfl|(simp only[firstArgMember];rfl)) (wpAny_newObj_type ?_ (by size_fits)))) (by size_fits))
 simp only[raiseNew]
 refine wpAny_bind (wpAny_handled ?_)
 first|rw[show A.in1.handled=none from hh]|rw[hh]
 exact wpAny_bind (wpAny_pure (wpAny_throw (hE _ _ (((Heap.SameBut.update ..).extBut.push _).push _) ⟨_,Heap.get?_push_size _ rfl,rfl⟩)))
end
theorem y4{prog:Program}{w:World}{A:Around}(hh:A.handled=none)(it l:Addr)(hne:l≠it)(items:Array Value):
   Draws prog w A it [it,l] items.size (fun i v=>items[i]? =some v) (fun i h=>h.IsTupleIter it l i∧h.IsTuple l items) where
 live _ _ st:=let⟨o,ho,_⟩:=st.1;⟨o,ho⟩
 frame _ _ _ st hk:=⟨let⟨o,ho,r⟩:=st.1;⟨o,hk it (by simp) o ho,r⟩,let⟨o,ho,r⟩:=st.2;⟨o,hk l (by simp) o ho,r⟩⟩
 item i s Q E hi st hQ:=A1 st.1 st.2 (x:=items[i]) (by simp[hi]) fun h' hit' hs'=>hQ _ h' s.toks (by simp[hi]) ⟨hit',let⟨o,ho,r⟩:=st.2;⟨o,hs'.extBut l o hne ho,r⟩⟩ hs'
 done s Q E st hE:=Cd hh st.1 st.2 (by simp) hE
section
variable{prog:Program}{w:World}{A:Around}{E:Value→Shared→Prop}{s:Shared}{z TI TO i1 i2:Addr}{f1 f2:List Addr}{n1 n2 k:Nat}{P1 P2:Nat→Value→Prop}{S1 S2:Nat→Heap→Prop}{a b:Value}
end
inductive Sd where
 |l (a:Addr)|t (a:Addr)|s (z:Str)
noncomputable def Sd.at(K:PySem.W.Frag)(H:Hp):Sd→List V→Prop
 |.l a,xs=>aM K H a xs
 |.t a,xs=>aW K H a xs
 |.s z,xs=>xs=z.cps.toList.map fun c=>.str ⟨#[c]⟩
noncomputable def Sd.val:Sd→Tok→Value
 |.l a,_=>.ref a
 |.t a,_=>.ref a
 |.s z,tk=>.str z tk
noncomputable def Sd.obj:Sd→Tok→Obj
 |.l a,_=>{cls:=.type "list_iterator",data:=.fields #[.ref a,.int 0 0]}
 |.t a,_=>{cls:=.type "tuple_iterator",data:=.fields #[.ref a,.int 0 0]}
 |.s z,tk=>{cls:=.type (if z.cps.all (· <128)then "str_ascii_iterator" else "str_iterator"),data:=.fields #[.str z tk,.int 0 0]}
noncomputable def Sd.gZ(it:Addr)(i:Nat)(h:Heap)(tk:Tok):Sd→Prop
 |.l a=>h.IsListIter it a i
 |.t a=>h.IsTupleIter it a i
 |.s z=>h.IsStrIter it (if z.cps.all (· <128)then "str_ascii_iterator" else "str_iterator") z tk i
section
variable{X:Cx}{pins:List (Addr×Obj)}{σ:L2.St}{H:Hp}{s:Shared}{d:Sd}{xs:List V}
theorem Sd.inj(I:Inv X pins σ H s){ys:List V}(h:d.at X.K H xs)(h':d.at X.K H ys):xs=ys:=by
 cases d with
 |l a=>exact I.qV h h'
 |t a=>exact I.sO h h'
 |s z=>exact h.trans h'.symm
theorem Sd.draws{it:Addr}{tk:Tok}{A:Around}(I:Inv X pins σ H s)(hh:A.handled=none)(h:d.at X.K H xs)(hn:H it=none)(hK:X.K.lookup it=none):
   ∃(fp:List Addr) (P:Nat→Value→Prop) (St:Nat→Heap→Prop),Draws X.prog X.w A it fp xs.length P St∧(∀i x,P i x→∃v,xs[i]? =some v∧RelV v x)∧(∀i h',St i h'→d.gZ it i h' tk)∧(∀i,d.gZ it i s.heap tk→St i s.heap)∧
     (∀c∈fp,c=it∨(H c≠none∨∃o,X.K.lookup c=some o)):=by
 have nl:∀a:Addr,(H a≠none∨∃o,X.K.lookup a=some o)→a≠it:=fun a h z=>by
   subst z
   rcases h with h|⟨o,h⟩
   ·exact h hn
   ·rw[hK]at h;cases h
 cases d with
 | l a=>
   obtain⟨its,rv,pl,hz⟩:=I.list h
   have tr:H a≠none∨∃o,X.K.lookup a=some o:=by
     rcases h with(h|⟨o,h⟩)|⟨o,_,_,h,_⟩
     ·exact .inl (by rw[h];simp)
     ·exact .inl (by rw[h];simp)
     ·exact .inr ⟨o,h⟩
   have D:=Draws.list (prog:=X.prog) (w:=X.w) (A:=A) hh it a (nl a tr) its.toArray
   rw[List.size_toArray, ←rv.length]at D
   refine⟨_,_,_,D,fun i x hx=>?_,fun i h' st=>st.1,fun i st=>⟨st,pl.isList⟩,fun c hc=>?_⟩
   · have hx:its[i]? =some x:=by simpa using hx
     have hi:i<xs.length:=by rw[rv.length];exact(List.getElem?_eq_some_iff.mp hx).1
     obtain⟨u,hu,ru⟩:=rv.get (List.getElem?_eq_getElem hi)
     rw[hx]at hu;cases hu
     exact⟨_,List.getElem?_eq_getElem hi,ru⟩
   · simp only[List.mem_cons,List.not_mem_nil,or_false]at hc
     rcases hc with rfl|rfl
     ·exact .inl rfl
     ·exact .inr tr
 | t a=>
   obtain⟨its,rv,pl,hz⟩:=I.tuple h
   have tr:H a≠none∨∃o,X.K.lookup a=some o:=by
     rcases h with(h|⟨o,h⟩)|⟨o,_,_,h,_⟩
     ·exact .inl (by rw[h];simp)
     ·exact .inl (by rw[h];simp)
     ·exact .inr ⟨o,h⟩
   have D:=y4 (prog:=X.prog) (w:=X.w) (A:=A) hh it a (nl a tr) its.toArray
   rw[List.size_toArray, ←rv.length]at D
   refine⟨_,_,_,D,fun i x hx=>?_,fun i h' st=>st.1,fun i st=>⟨st,pl⟩,fun c hc=>?_⟩
   · have hx:its[i]? =some x:=by simpa using hx
     have hi:i<xs.length:=by rw[rv.length];exact(List.getElem?_eq_some_iff.mp hx).1
     obtain⟨u,hu,ru⟩:=rv.get (List.getElem?_eq_getElem hi)
     rw[hx]at hu;cases hu
     exact⟨_,List.getElem?_eq_getElem hi,ru⟩
   · simp only[List.mem_cons,List.not_mem_nil,or_false]at hc
     rcases hc with rfl|rfl
     ·exact .inl rfl
     ·exact .inr tr
 | s z=>
   have h:xs=z.cps.toList.map fun c=>.str ⟨#[c]⟩:=h
   subst h
   have key:∀(i:Nat) (x:Value),(∃c u,z.cps[i]? =some c∧x=.str ⟨#[c]⟩ u)→∃v,(z.cps.toList.map fun c=>V.str ⟨#[c]⟩)[i]? =some v∧RelV v x:=by
     rintro i x ⟨c,u,hc,rfl⟩
     exact⟨.str ⟨#[c]⟩,by simp[hc],⟨u,rfl⟩⟩
   cases ha:z.cps.all (· <128)with
   | true=>
     have D:=Draws.strAscii (prog:=X.prog) (w:=X.w) (A:=A) hh it z tk
     refine⟨_,_,_,by simpa using D,key,fun i h' st=>?_,fun i st=>?_,fun c hc=>.inl (by simpa using hc)⟩
     · show h'.IsStrIter it (if z.cps.all (· <128)then "str_ascii_iterator" else "str_iterator") z tk i
       rw[ha];exact st
     · have st:s.heap.IsStrIter it (if z.cps.all (· <128)then "str_ascii_iterator" else "str_iterator") z tk i:=st
       rw[ha]at st;exact st
   | false=>
     have D:=Draws.strWide (prog:=X.prog) (w:=X.w) (A:=A) hh it z tk
     refine⟨_,_,_,by simpa using D,key,fun i h' st=>?_,fun i st=>?_,fun c hc=>.inl (by simpa using hc)⟩
     · show h'.IsStrIter it (if z.cps.all (· <128)then "str_ascii_iterator" else "str_iterator") z tk i
       rw[ha];exact st
     · have st:s.heap.IsStrIter it (if z.cps.all (· <128)then "str_ascii_iterator" else "str_iterator") z tk i:=st
       rw[ha]at st;exact st
end
theorem Sd.pV{d:Sd}{it:Addr}{i:Nat}{h h':Heap}{t:Tok}(st:d.gZ it i h t)(k:∀o,h.get? it=some o→h'.get? it=some o):d.gZ it i h' t:=by
 cases d with
 |l a=>obtain⟨o,e,r⟩:=st;exact⟨o,k o e,r⟩
 |t a=>obtain⟨o,e,r⟩:=st;exact⟨o,k o e,r⟩
 |s z=>obtain⟨o,e,r⟩:=st;exact⟨o,k o e,r⟩
theorem Sd.pZ{d:Sd}{it:Addr}{i:Nat}{h:Heap}{t:Tok}(st:d.gZ it i h t):∃o,h.get? it=some o∧∀v,o.data≠.cell v:=by
 cases d with
 |l a=>obtain⟨o,e,c,r⟩:=st;exact⟨o,e,fun v z=>by rw[r]at z;cases z⟩
 |t a=>obtain⟨o,e,c,r⟩:=st;exact⟨o,e,fun v z=>by rw[r]at z;cases z⟩
 |s z=>obtain⟨o,e,c,r⟩:=st;exact⟨o,e,fun v z=>by rw[r]at z;cases z⟩
noncomputable def Sd.is(h:Heap):Sd→Prop
 |.l a=>∃xs,h.IsList a xs
 |.t a=>∃xs,h.IsTuple a xs
 |.s _=>True
theorem Sd.iter{prog:Program}{w:World}{A:Around}{E:Value→Shared→Prop}{s:Shared}{d:Sd}{tk:Tok}{Q:Value→Shared→Prop}(x:d.is s.heap)(h:Q (.ref s.heap.objs.size) {s with heap:=s.heap.push (d.obj tk)}):
   wpAny (model prog w) A (pyIter (d.val tk)) Q E s:=by
 cases d with
 |l a=>obtain⟨xs,x⟩:=x;exact wpAny_pyIter_list x h
 |t a=>obtain⟨xs,x⟩:=x;exact wpAny_pyIter_tuple x h
 | s z=>
   have h:Q (.ref s.heap.objs.size) {s with heap:=s.heap.push {cls:=.type (if z.cps.all (· <128)then "str_ascii_iterator" else "str_iterator"),data:=.fields #[.str z tk,.int 0 0]} }:=h
   cases ha:z.cps.all (· <128)with
   |true=>rw[ha]at h;exact wpAny_pyIter_ascii ha h
   |false=>rw[ha]at h;exact wpAny_pyIter_wide ha h
section
variable{X:Cx}{M:Md}{G H H':Hp}{F0 F F':Addr→Prop}{σ:L2.St}{ρ:En}{pos:Pos}{pins:List (Addr×Obj)}{s:Shared}
theorem Sd.yh{d:Sd}{xs:List V}(I:Inv X pins σ H s)(h:d.at X.K H xs):d.is s.heap:=by
 cases d with
 |l a=>obtain⟨its,_,pl,_⟩:=I.list h;exact⟨_,pl.isList⟩
 |t a=>obtain⟨its,_,pl,_⟩:=I.tuple h;exact⟨_,pl⟩
 |s z=>trivial
theorem xw{d:D}{ds:List D}{x:V}(e:items d=.ok ds)(r:Rep M H F d x):∃(q:Sd) (xs:List V),(∀u,RelV x u→∃tk,u=q.val tk)∧ab M H F ds xs∧∀H' F',Mv F H F' H'→q.at M.K H' xs:=by
 unfold items at e
 split at e
 · cases e
   simp only[Rep]at r
   obtain⟨a,xs,rfl,h,rs⟩:=r
   exact⟨.l a,xs,fun u ru=>⟨0,ru⟩,rs,fun H' F' m=>(h.mv m).sq⟩
 · cases e
   simp only[Rep]at r
   obtain⟨a,xs,rfl,h,rs⟩:=r
   exact⟨.t a,xs,fun u ru=>⟨0,ru⟩,rs,fun H' F' m=>(h.mv m).sq⟩
 · rename_i z
   cases e
   cases eT r
   refine⟨.s z,z.cps.toList.map fun c=>.str ⟨#[c]⟩,fun u ⟨tk,ru⟩=>⟨tk,ru⟩,?_,fun _ _ _=>rfl⟩
   generalize z.cps.toList=l
   induction l with
   |nil=>exact ab.nil
   |cons c l ih=>exact ab.cons jQ ih
 ·cases e
end
noncomputable def t8:D→Value→Prop
 |.aF,u=>u=.none
 |.bl b,u=>u=.bool b
 |.int i,u=>∃t,u=.int i t
 |.str x,u=>∃t,u=.str x t
 |_,_=>False
theorem xH{d:D}{u:Value}(h:t8 d u):∃v,RelV v u∧∀(M:Md) H F,Rep M H F d v:=by
 cases d with
 |aF=>exact⟨.aF,h,fun _ _ _=>pK⟩
 |bl b=>exact⟨.bl b,h,fun _ _ _=>dW⟩
 |int i=>exact⟨.int i,h,fun _ _ _=>bW⟩
 |str x=>exact⟨.str x,h,fun _ _ _=>jQ⟩
 |_=>exact h.elim
section
variable{P:Program}{w:World}{K:PySem.W.Frag}{h:Heap}{mg:Str→Option Value}{x:Str}
theorem sJ{u:Value}{d:D}(X:K.In h)(G:h.Ns mainGlobals mg)(e1:PySem.W.nsIn K mainGlobals x=some (some u))(hm:t8 d u):gL P w K mg x d:=by
 obtain⟨v,rv,hv⟩:=xH hm
 exact⟨v,u,PySem.W.mg_of X G e1,rv,fun H F=>hv _ H F⟩
end
end PL
namespace PL
open PySem
end PL
set_option maxHeartbeats 1000000
namespace PL
open PySem PySem.Spec
open L2 (V Hp HO Cx PE PT PW PA PS bK PG cJ VK TE TT TA TS TI TG Inv RelV Vals Rd aM aW upd af Key XK Ends aQ fD bp R2 EP It Turn cB Un)
section
variable{X:Cx}{M:Md}{G H H':Hp}{F0 F F':Addr→Prop}{σ:L2.St}{ρ:En}{pos:Pos}{pins:List (Addr×Obj)}{s:Shared}
theorem aO.fresh{p:Addr}{o:HO}(r:aO M H F σ ρ)(hp:H p=none):aO M (upd H p o) (fun b=>F b∨b=p) σ ρ:=by
 have ne:∀b u,H b=some u→b≠p:=fun b u e z=>by subst z;rw[hp]at e;cases e
 have mv:Mv F H (fun b=>F b∨b=p) (upd H p o):=fun b u n e=>⟨fun h=>h.elim n (ne b u e),by rw[L2.az (ne b u e)];exact e⟩
 have sm:af H (upd H p o):=af.bL hp _
 exact⟨r.len,fun b f=>by
   by_cases hb:b=p
   ·subst hb;exact⟨_,L2.bF⟩
   ·obtain⟨u,hu⟩:=r.aU b (f.resolve_right hb);exact⟨u,sm _ _ hu⟩,
   fun i d e=>let⟨v,h1,h2⟩:=r.sh i d e;⟨v,h1,h2.mv mv⟩,
   fun i ds e=>let⟨a,xs,e1,f,e2,q⟩:=r.ol i ds e;⟨a,xs,e1,.inl f,sm _ _ e2,q.mv mv⟩,
   fun i ks ds e=>let⟨a,xs,e1,f,e2,l,q⟩:=r.od i ks ds e;⟨a,xs,e1,.inl f,sm _ _ e2,l,q.mv mv⟩,
   r.bM,r.on.mv mv (fun j xss e=>⟨e,rfl⟩) (fun j xss b u e hb f hu=>⟨.inl f,sm _ _ hu⟩) fun j xss b e hb k ok=>(r.on j xss e).2.1 b hb k ok⟩
noncomputable def JP(X:Cx)(pos:Pos)(keys:List (Option Expr))(values:List Expr)(ks:List Ky)(fs:List Ex):Prop:=
 ∃trs,L2.Ab X pos keys values trs∧∀(F:Addr→Prop) (σ:L2.St) (H:Hp) (ρ:En) (ds:List D) (Q:List (V×V)→Hp→Prop),aO (av X) H F σ ρ→eList fs ρ=.ok ds→
   (∀xs H',af H H'→ab (av X) H' F ds xs→Q ((ks.zip xs).map fun kv=>(L2.kV kv.1,kv.2)) H')→L2.nG trs σ H Q
end
section
variable{X:Cx}{M:Md}{G H H':Hp}{F0 F F':Addr→Prop}{σ:L2.St}{ρ:En}{pos:Pos}{pins:List (Addr×Obj)}{s:Shared}
end
section
variable{X:Cx}{M:Md}{G H H':Hp}{F0 F F':Addr→Prop}{σ:L2.St}{ρ:En}{pos:Pos}{pins:List (Addr×Obj)}{s:Shared}
end
section
variable{X:Cx}{M:Md}{G H H':Hp}{F0 F F':Addr→Prop}{σ:L2.St}{ρ:En}{pos:Pos}{pins:List (Addr×Obj)}{s:Shared}
theorem vz(i:Nat){st:Stmt}{f:Ex}(h:PS X st (L2.kD (kT (av X) f) (L2.ar i)))(hl:∀ρ d,f ρ=.ok d→∃ds,d=.lst ds):JS X st (aR (ar i) f):=fun F0=>
 b9 h fun D σ H ⟨ρ,F,fl,r,e,q⟩=>by
   obtain⟨d,ed,e⟩:=ai.mp e
   obtain⟨ds,rfl⟩:=hl _ _ ed
   cases e
   refine⟨ρ,F,ds,r.rs,ed,fun p H1 xs s1 hp rs=>?_⟩
   have s2:af H1 (upd H1 p (.lst xs)):=af.bL hp _
   refine q _ _ F (.same (s1.trans s2)) (((r.same s1).same s2).lY ?_)
   simp only[Rep]
   refine⟨p,xs,rfl,.inl ⟨fun f=>?_,.inl L2.bF⟩,rs.mv (.same s2)⟩
   obtain⟨o,e⟩:=(r.same s1).rs.aU p f
   rw[hp]at e;cases e
theorem vO(i:Nat){st:Stmt}{f:Ex}(h:PS X st (L2.kD (kT (av X) f) (L2.ar i))):JS X st (dw i f):=fun F0=>
 b9 h fun D σ H ⟨ρ,F,fl,r,e,q⟩=>by
   obtain⟨d,ed,e⟩:=ai.mp e
   split at e
   · cases e
     refine⟨ρ,F,_,r.rs,ed,fun p H1 xs s1 hp rs=>?_⟩
     obtain⟨mv,r'⟩:=(r.same s1).new (i:=i) (s:=.ol _) hp (.inl ⟨_,xs,rfl,rfl,rs⟩)
     exact q _ _ _ (Mv.trans (.same s1) mv) r'
   ·cases e
end
noncomputable def b7(i:Int):Bool:=decide (i.natAbs.log2<100000)
@[simp] noncomputable def bV:D→D→R D
 |.int i,.int j=>if(b7 i&&b7 j)=true then .ok (.int (i*j))else .bad
 |_,_=>.bad
@[simp] noncomputable def bz:D→D→R D
 |.int i,.int j=>if 0<j∧j.natAbs.log2<9000 then .ok (.int (i / j))else .bad
 |_,_=>.bad
@[simp] noncomputable def cq:D→D→R D
 |.int i,.int j=>if 0≤j∧j≤1000∧b7 i=true then .ok (.int (i ^ j.toNat))else .bad
 |_,_=>.bad
@[simp] noncomputable def Dk:D→D→R D
 |.int i,.int j=>.ok (.int (if j>i then j else i))
 |_,_=>.bad
noncomputable def frz(i:Nat)(ρ:En):En:=match ρ[i]? with
 |some (.ol xs)=>ρ.set i (.sh (.lst xs))
 |_=>ρ
mutual
noncomputable def du:D→Bool
 |.aF=>true
 |.bl _=>true
 |.int _=>true
 |.str _=>true
 |.tup xs=>jT xs
 |_=>false
noncomputable def jT:List D→Bool
 |[]=>true
 |x::xs=>du x&&jT xs
end
@[simp] noncomputable def DF(i:Nat)(f:Ex):Ex:=fun ρ=>(f (frz i ρ)).bind fun d=>if du d=true then .ok d else .bad
@[simp] noncomputable def DL(i:Nat)(f:Ex):Ex:=fun ρ=>(f (frz i ρ)).bind fun d=>match d with
 |.lst ds=>if jT ds=true then .ok (.lst ds)else .bad
 |_=>.bad
@[simp] noncomputable def Dq(i:Nat)(f:aJ):aJ:=fun ρ=>f (frz i ρ)
@[simp] noncomputable def lJ(i:Nat)(e:Ex):Sm:=fun ρ=>(e ρ).bind fun d=>match d,ρ[i]? with
 |.lst ys,some (.ol xs)=>if xs.length+ys.length≤cU then .ok (.next (ρ.set i (.ol (xs++ys))))else .bad
 |_,_=>.bad
@[simp] noncomputable def DK(j i:Nat)(e:Ex):Sm:=fun ρ=>(e ρ).bind fun d=>match d,ρ[i]? with
 | .int k,some (.ol xs)=>match bJ xs.length k with
   | some m=>match xs[m]? with
     |some y=>if inR k=true then .ok (.next ((ρ.set i (.ol (xs.eraseIdx m))).set j (.sh y)))else .bad
     |none=>.bad
   |none=>.bad
 |_,_=>.bad
@[simp] noncomputable def jE(j i:Nat)(e:Ex):Sm:=fun ρ=>(e ρ).bind fun d=>match d,ρ[i]?,ρ[j]? with
 | .int k,some (.ol xs),some (.ol zs)=>match bJ xs.length k with
   | some m=>match xs[m]? with
     |some y=>if inR k=true∧zs.length<cU∧i≠j then .ok (.next ((ρ.set i (.ol (xs.eraseIdx m))).set j (.ol (zs++[y]))))else .bad
     |none=>.bad
   |none=>.bad
 |_,_,_=>.bad
section
variable{X:Cx}{M:Md}{G H H':Hp}{F0 F F':Addr→Prop}{σ:L2.St}{ρ:En}{pos:Pos}{pins:List (Addr×Obj)}{s:Shared}
theorem ni{i:Int}(h:b7 i=true):Builtin.Int.intBits i≤100000:=by
 unfold b7 at h
 rw[decide_eq_true_eq]at h
 unfold Builtin.Int.intBits
 split<;>omega
theorem dH:aQ X (binaryOp .Mult) (L2.rI (fun i j=>b7 i=true∧b7 j=true) fun i j=>.int (i*j)):=L2.mr fun i j t u s Q E c q=>PyProof.Rows.mul_int q (IntMulOk.of_bits (Nat.le_trans (ni c.1) (by decide)) (Nat.le_trans (ni c.2) (by decide)))
theorem dG:bY M bV (L2.rI (fun i j=>b7 i=true∧b7 j=true) fun i j=>.int (i*j)):=by
 intro F H x y a b d Q tr ra rb e q
 unfold bV at e
 split at e
 · split at e
   · rename_i h
     cases e
     rw[Bool.and_eq_true]at h
     exact⟨_,_,aT ra,aT rb,h,q _ _ (af.refl _) bW⟩
   ·cases e
 ·cases e
theorem cu:aQ X (binaryOp .FloorDiv) (L2.rI (fun i j=>0<j∧j.natAbs.log2<9000) fun i j=>.int (i / j)):=by
 refine L2.mr fun i j t u s Q E c h=>?_
 have e:i / j=i.fdiv j:=(Int.fdiv_eq_ediv_of_nonneg _ (Int.le_of_lt c.1)).symm
 rw[e]at h
 exact PyProof.Rows.floordiv_int (by have:=c.1;omega) h (Or.inl (PyProof.noPylong_of_log2 c.2))
theorem cm:bY M bz (L2.rI (fun i j=>0<j∧j.natAbs.log2<9000) fun i j=>.int (i / j)):=by
 intro F H x y a b d Q tr ra rb e q
 unfold bz at e
 split at e
 · split at e
   · rename_i h
     cases e
     exact⟨_,_,aT ra,aT rb,h,q _ _ (af.refl _) bW⟩
   ·cases e
 ·cases e
theorem fF:aQ X (binaryOp .Pow) (L2.rI (fun i j=>0≤j∧j≤1000∧b7 i=true) fun i j=>.int (i ^ j.toNat)):=by
 refine L2.mr fun i j t u s Q E c q=>PyProof.Rows.pow_int c.1 ?_ q
 have h:=ni c.2.2
 have h2:(Builtin.Int.intBits i:Int)*j≤100000*1000:=Int.mul_le_mul (by omega) c.2.1 c.1 (by omega)
 have h3:(2:Int) ^ 27=134217728:=by decide
 omega
theorem fk:bY M cq (L2.rI (fun i j=>0≤j∧j≤1000∧b7 i=true) fun i j=>.int (i ^ j.toNat)):=by
 intro F H x y a b d Q tr ra rb e q
 unfold cq at e
 split at e
 · split at e
   · rename_i h
     cases e
     exact⟨_,_,aT ra,aT rb,h,q _ _ (af.refl _) bW⟩
   ·cases e
 ·cases e
theorem ab.rZ{ds:List D}{xs:List V}(h:ab M H F ds xs):∀k:Nat,ab M H F (List.replicate k ds).flatten (List.replicate k xs).flatten
 |0=>by simp[ab]
 | k+1=>by
   rw[List.replicate_succ,List.replicate_succ,List.flatten_cons,List.flatten_cons]
   exact h.append (ab.rZ h k)
noncomputable def rJ(M:Md):R2:=fun x y H Q=>∃F l k xs,x=.ref l∧y=.int k∧eI M H F l xs∧0≤k∧k<1000∧xs.length≤1000∧∀p,H p=none→Q (.ref p) (upd H p (.lst (List.replicate k.toNat xs).flatten))
theorem Bs:aQ X (binaryOp .Mult) (rJ (av X)):=by
 intro pins s σ H x y v u Q I rx ry h
 obtain⟨F,l,k,xs,rfl,rfl,hH,h1,h2,hz,q⟩:=h
 cases rx
 obtain⟨t,rfl⟩:=ry
 obtain⟨its,n,sl,r,e,z⟩:=jy I hH
 have hl:=r.length
 have hm2:its.length*k.toNat≤1000*1000:=Nat.mul_le_mul (by omega) (by omega)
 have hm:its.toArray.size*k.toNat≤1000*1000:=by rw[List.size_toArray];exact hm2
 refine wpAny_binaryOp_repeat_ref (T:="list") (U:="int") (by decide) ⟨_,e,rfl⟩ (fun s'=>typeIs_int s' k t) noFill_list_mul PySem.F.fills_int_mul PySem.F.slot_int_rmul repeat_list PySem.F.slot_int_index.lookup
   (call_meets PySem.F.slot_int_rmul (typeIs_int s k t) PySem.F.entry_int_rmul (PySem.F.args_int_rmul_2 _ _) (lm_int_rmul_list_any k t l its.toArray n none sl)
     ⟨e,rfl,⟨_,e,rfl⟩,call_meets PySem.F.slot_list_mul ⟨_,e,rfl⟩ PySem.F.entry_list_mul (PySem.F.args_list_mul_2 _ _)
       (lm_list_mul_any l its.toArray n none sl k t (by simp[Builtin.List.listFitsIndex];omega) (by omega) (by simp[Builtin.List.listTooLong,sizeLine];omega)) ⟨e,?_⟩⟩)
 rw[PyProof.Rows.listMul_foldl_if]
 refine⟨.ref _,_,I.ue (t':=s.toks) (r.rep k.toNat) (by rw[L2.len_rep,Nat.mul_comm,hl];have:(sizeLine:Nat)=16777216:=sizeLine_eq;omega),rfl,q _ I.fresh⟩
theorem yq:bY M ng (rJ M):=by
 intro F H x y a b d Q tr ra rb e q
 unfold ng at e
 split at e
 · split at e
   · rename_i h
     cases e
     simp only[Rep]at ra
     obtain⟨l,xs,rfl,h1,r1⟩:=ra
     exact⟨F,l,_,xs,rfl,aT rb,h1,h.1,h.2.1,by rw[←r1.length];exact h.2.2,fun p hp=>q _ _ (af.bL hp _) (gq tr hp (r1.rZ _))⟩
   ·cases e
 ·cases e
theorem aO.frz(r:aO M H F σ ρ)(i:Nat):∃F',(∀b,F b→F' b∨∃u,H b=some u∧((∃xs,u=.lst xs)∨∃kvs,u=.dK kvs))∧aO M H F' σ (frz i ρ):=by
 by_cases ol:∃ds,ρ[i]? =some (.ol ds)
 · obtain⟨ds,q0⟩:=ol
   have oi:aX ρ i:=.inl ⟨_,q0⟩
   obtain⟨a,xs,ei,fa,e2,rs⟩:=r.ol i ds q0
   have mv:Mv F H (fun b=>F b∧b≠a) H:=fun b v n e=>⟨fun h=>n h.1,e⟩
   have hrep:Rep M H (fun b=>F b∧b≠a) (.lst ds) (.ref a):=by
     simp only[Rep]
     exact⟨a,xs,rfl,.inl ⟨fun h=>h.2 rfl,.inl e2⟩,rs.mv mv⟩
   refine⟨fun b=>F b∧b≠a,fun b h=>?_,?_⟩
   · by_cases hb:b=a
     · subst hb
       exact .inr ⟨_,e2,.inl ⟨_,rfl⟩⟩
     ·exact .inl ⟨h,hb⟩
   unfold PL.frz
   rw[q0]
   refine⟨by simp[r.len],fun b h=>r.aU b h.1,?_,?_,?_,?_,pX r.on oi ei mv (fun b f n=>⟨f,n⟩)⟩
   · intro j e q
     rcases get_set q with⟨rfl,hx,hl⟩|⟨hne,q⟩
     · cases hx
       exact⟨_,ei,hrep⟩
     · obtain⟨w,e1,g⟩:=r.sh j e q
       exact⟨w,e1,g.mv mv⟩
   · intro j e q
     rcases get_set q with⟨rfl,x,hl⟩|⟨hne,q⟩
     ·cases x
     · obtain⟨b,xs,e1,f,e3,g⟩:=r.ol j e q
       exact⟨b,xs,e1,⟨f,fun z=>by subst z;exact hne (r.bM i j _ oi (.inl ⟨_,q⟩) ei e1)⟩,e3,g.mv mv⟩
   · intro j k e q
     rcases get_set q with⟨rfl,x,hl⟩|⟨hne,q⟩
     ·cases x
     · obtain⟨b,xs,e1,f,e3,l,g⟩:=r.od j k e q
       exact⟨b,xs,e1,⟨f,fun z=>by subst z;exact hne (r.bM i j _ oi (.inr ⟨_,_,q⟩) ei e1)⟩,e3,l,g.mv mv⟩
   · intro j k b oj ok ej ek
     exact r.bM j k b oj.df.2 ok.df.2 ej ek
 · refine⟨F,fun _ h=>.inl h,?_⟩
   unfold PL.frz
   cases q:ρ[i]? with
   |none=>exact r
   | some s=>
     cases s with
     |ol xs=>exact absurd ⟨_,q⟩ ol
     |_=>exact r
noncomputable def Out(F F':Addr→Prop)(H:Hp):Prop:=∀b,F b→F' b∨∃u,H b=some u∧((∃xs,u=.lst xs)∨∃kvs,u=.dK kvs)
theorem Out.tup{a:Addr}{xs:List V}(o:Out F F' H)(h:eM M H F' a xs):eM M H F a xs:=by
 rcases h with⟨n,h⟩|h
 · refine .inl ⟨fun f=>?_,h⟩
   rcases o a f with f'|⟨u,hu,z⟩
   ·exact n f'
   · rcases h with h|⟨ob,h⟩
     ·rw[hu]at h;cases h;rcases z with⟨_,z⟩|⟨_,z⟩<;>cases z
     ·rw[hu]at h;cases h;rcases z with⟨_,z⟩|⟨_,z⟩<;>cases z
 ·exact .inr h
mutual
theorem Rep.du(o:Out F F' H):∀ {d:D} {v:V},du d=true→Rep M H F' d v→Rep M H F d v
 |.aF,_,_,h=>by simp only[Rep]at h ⊢;exact h
 |.bl _,_,_,h=>by simp only[Rep]at h ⊢;exact h
 |.int _,_,_,h=>by simp only[Rep]at h ⊢;exact h
 |.str _,_,_,h=>by simp only[Rep]at h ⊢;exact h
 | .tup ds,_,n,h=>by
   simp only[Rep]at h ⊢
   obtain⟨a,xs,e,t,r⟩:=h
   exact⟨a,xs,e,o.tup t,ab.du o (by unfold PL.du at n;exact n) r⟩
 |.lst _,_,n,_=>by unfold PL.du at n;cases n
 |.aD _ _,_,n,_=>by unfold PL.du at n;cases n
 |.cI _ _ _,_,n,_=>by unfold PL.du at n;cases n
theorem ab.du(o:Out F F' H):∀ {ds:List D} {xs:List V},jT ds=true→ab M H F' ds xs→ab M H F ds xs
 |[],_,_,h=>by simp only[ab]at h ⊢;exact h
 | d::ds,_,n,h=>by
   unfold jT at n
   rw[Bool.and_eq_true]at n
   simp only[ab]at h ⊢
   obtain⟨x,r,e,h1,h2⟩:=h
   exact⟨x,r,e,Rep.du o n.1 h1,ab.du o n.2 h2⟩
end
theorem Out.same(o:Out F F' H)(s:af H H'):Out F F' H':=fun b f=>(o b f).imp (fun h=>h) fun⟨u,hu,z⟩=>⟨u,s _ _ hu,z⟩
noncomputable def hZ(env:Env)(o k:Expr)(p3:Pos):Prop:=∀v,assign (.Subscript o k p3) env v=(do
     let ov ←holding [v] (eval o env)
     let iv ←holding [v,ov] (eval k env)
     standAt p3
     holding [v,ov,iv] (setItem ov iv v)
     release [v,ov,iv] [])
theorem uJ(i:Nat){x:Str}{e k:Expr}{f g:Ex}{p2 p3:Pos}(he:JE X e f)(hk:JE X k g)(hN:X.N[i]? =some x:=by rfl)(hv:L2.aZ X.env.scope x:=by first|exact Or.inl rfl|exact Or.inr (Or.inl rfl)|exact Or.inr (Or.inr rfl))(hd:(x==("__debug__":Str))=false:=by decide)
   (hcd:(x==("__classdict__":Str))=false:=by decide)
   (ha:hZ X.env (.Name x p2) k p3)
   (hs:swapsWithSole [.Subscript (.Name x p2) k p3] e pos.line X.env=pure false:=by rfl) (hw:swappedStores [.Subscript (.Name x p2) k p3] e X.env=pure none:=by rfl) (h1:(assignEach [.Subscript (.Name x p2) k p3] X.env).map (·.2)=[assign (.Subscript (.Name x p2) k p3) X.env]:=by rfl):
   JS X (.Assign [.Subscript (.Name x p2) k p3] e pos) (ft i g f):=fun F0=>
 b9 (L2.sI he (L2.zH (L2.pv i hN hv hd hcd) hk L2.set_list ha) hs hw h1) fun D σ H ⟨ρ,F,fl,r,e,q⟩=>by
   obtain⟨d,ed,e⟩:=ai.mp e
   obtain⟨y,ey,e⟩:=ai.mp e
   split at e
   · rename_i xs j q1
     split at e
     · rename_i m hm
       cases e
       have oi:aX ρ i:=.inl ⟨_,q1⟩
       obtain⟨a,ys,ea,fa,haa,rs⟩:=r.rs.ol i _ q1
       refine⟨ρ,F,d,r.rs,ed,fun v H1 s1 rv=>⟨_,ea,ρ,F,_,(r.same s1).rs,ey,fun z H2 s2 rz=>?_⟩⟩
       have r2:=(r.same s1).same s2
       refine⟨a,ys,j,m,rfl,aT rz,s2 _ _ (s1 _ _ haa),by rw[←rs.length];exact hm,?_⟩
       obtain⟨mv,r'⟩:=r2.chg (s:=.ol (xs.set m d)) oi ea (.inl ⟨_,ys.set m v,rfl,rfl,ab.set m (rv.mv (.same s2)) (rs.mv (.same (s1.trans s2)))⟩)
       exact q _ _ _ (Mv.trans (.same (s1.trans s2)) mv) r'
     ·cases e
   ·cases e
theorem CL(i:Nat){x:Str}{e:Expr}{f:Ex}{p2 apos cpos:Pos}(he:JF X e f)(hN:X.N[i]? =some x:=by rfl)(hv:L2.aZ X.env.scope x:=by first|exact Or.inl rfl|exact Or.inr (Or.inl rfl)|exact Or.inr (Or.inr rfl))(hd:(x==("__debug__":Str))=false:=by decide)
   (hcd:(x==("__classdict__":Str))=false:=by decide) (hbase:attributeBase (.Name x p2) "extend" X.env (eval (.Name x p2) X.env)=eval (.Name x p2) X.env:=by rfl)
   (hfew:((backTo cpos (starEach [e] X.env)).all (fun x=> !x.1)&&(backToKw cpos (keywordEach [] X.env)).all (fun x=>x.1.isSome)
     &&decide (([e]:List Expr).length+([]:List Keyword).length+(if([]:List Keyword).isEmpty then 0 else 1)<30))=true:=by rfl)
   (hline:(apos.endLine==cpos.line)=true:=by rfl) (hs:starEach [e] X.env=(false,eval e X.env)::starEach [] X.env:=by rfl)
   (hsw:swapsWith (.Call (.Attribute (.Name x p2) "extend" apos) [e] [] cpos) none pos.line X.env=pure false:=by rfl):
   JS X (.Expr (.Call (.Attribute (.Name x p2) "extend" apos) [e] [] cpos) pos) (lJ i f):=fun F0=>
 b9 (L2.i5 (L2.i3 PySem.F.plainAttrs_list PySem.F.slot_list_extend PySem.F.type_list_extend L2.u0 (L2.pv i hN hv hd hcd) (L2.fL he L2.fZ hs) hbase hfew hline hs) hsw) fun D σ H ⟨ρ,F,fl,r,e,q⟩=>by
   obtain⟨d,ed,e⟩:=ai.mp e
   split at e
   · rename_i ds xs q1
     split at e
     · rename_i hlt
       cases e
       have oi:aX ρ i:=.inl ⟨_,q1⟩
       obtain⟨a,ys,ea,fa,ha,rs⟩:=r.rs.ol i _ q1
       refine⟨_,ea,.inl ⟨rfl,ys,aM.of ha⟩,ρ,F,ds,r.rs,ed,fun p H1 zs s1 hp rz=>?_⟩
       have s2:af H1 (upd H1 p (.lst zs)):=af.bL hp _
       have r1:=(r.same s1).same s2
       have ha2:=s2 _ _ (s1 _ _ ha)
       refine⟨a,p,ys,zs,rfl,rfl,ha2,L2.bF,by rw[←rs.length, ←rz.length];exact hlt,?_⟩
       obtain⟨mv,r'⟩:=r1.chg (s:=.ol (xs++ds)) oi ea (.inl ⟨_,ys++zs,rfl,rfl,(rs.mv (.same (s1.trans s2))).append (rz.mv (.same s2))⟩)
       exact q _ _ _ (Mv.trans (.same (s1.trans s2)) mv) r'
     ·cases e
   ·cases e
end
section
variable{X:Cx}{M:Md}{G H H':Hp}{F0 F F':Addr→Prop}{σ:L2.St}{ρ:En}{pos:Pos}{pins:List (Addr×Obj)}{s:Shared}
theorem vD{a:Expr}{fa:Ex}{p:Pos}(hgl:L2.Gl X "list")(hm:X.mg "list"=none)(ha:JE X a fa)(hs:starEach [a] X.env=(false,eval a X.env)::starEach [] X.env:=by rfl):JF X (.Call (.Name "list" p) [a] [] pos) (e1 fE fa):=
 bc (L2.oz L2.oa hgl hm jV (cL ha dM hs) (by decide) (by decide) hs) fun σ H Q ⟨ρ,F,ds,hr,e,q⟩=>by
   obtain⟨d,ed,e⟩:=ai.mp e
   refine⟨ρ,F,[d],hr,by show(fa ρ).bind _=_;rw[ed];rfl,fun vs H1 s1 rv=>?_⟩
   obtain⟨y,rfl,ry⟩:=rv.one
   unfold fE at e
   split at e
   · cases e
     simp only[Rep]at ry
     obtain⟨p,ys,rfl,h,rs⟩:=ry
     exact⟨p,ys,rfl,.inl h.sq,fun l hl=>q l H1 ys s1 hl rs⟩
   · cases e
     simp only[Rep]at ry
     obtain⟨p,ys,rfl,h,rs⟩:=ry
     exact⟨p,ys,rfl,.inr h.sq,fun l hl=>q l H1 ys s1 hl rs⟩
   ·cases e
theorem xu{a:Expr}{lo hi:Option Expr}{fa:Ex}{fl fh:Option Ex}{p2:Pos}(ha:JE X a fa)(hl:JO X lo fl)(hh:JO X hi fh):JF X (.Subscript a (.Slice lo hi none p2) pos) (cC fa fl fh):=
 bc (L2.tK (L2.fN.or L2.qX L2.rO) ha hl hh) fun σ H Q ⟨ρ,F,ds,hr,e,q⟩=>by
   obtain⟨a,ea,e⟩:=ai.mp e
   obtain⟨l,el,e⟩:=ai.mp e
   obtain⟨h,eh,e⟩:=ai.mp e
   refine⟨ρ,F,a,hr,ea,fun x H1 s1 rx=>⟨ρ,F,l,hr.same s1,el,fun H2 s2=>⟨ρ,F,h,(hr.same s1).same s2,eh,fun H3 s3=>?_⟩⟩⟩
   have rx':=rx.mv (M:=av X) (F':=F) (.same (s2.trans s3))
   have s123:=s1.trans (s2.trans s3)
   unfold iD at e
   split at e
   · cases e
     simp only[Rep]at rx'
     obtain⟨p,xs,rfl,h1,rs⟩:=rx'
     refine .inl ⟨p,xs,rfl,h1.sq,fun b hb=>?_⟩
     rw[m6]
     exact q b H3 _ s123 hb (rs.cut _ _)
   ·split at e<;>cases e
   ·cases e
structure d8(P:Program)(w:World)(K:PySem.W.Frag)(mg:Str→Option Value)(base:Heap)(x:Str)(k n:Nat)(m:List D→R D):Prop where
 ex:∃f fd ps,L2.cy P w K mg base L2.de k f fd ps (kI ⟨K,P,w⟩ m n)∧L2.Binds K fd ps []∧PySem.W.keepIn K (.ref f)=true∧mg x=some (.ref f)
theorem vn{m:List D→R D}{n:Nat}{fs:List Ex}{Q:VK}{E:XK}(hn:fs.length=n)(h:kT M (aB m fs) σ H Q):L2.oB (kI M m n) [] E (my M (eList fs)) σ H Q:=by
 obtain⟨ρ,F,d,hr,e,q⟩:=h
 obtain⟨ds,eds,e⟩:=ai.mp e
 refine⟨ρ,F,ds,hr,eds,fun vs H1 s1 rs=>?_⟩
 show kI M m n (vs++[]) H1 Q E
 rw[List.append_nil]
 exact⟨F,ds,d,(hr.same s1).aU,rs,by rw[iI eds];exact hn,e,fun p H2 xs s2 hp rv=>q p H2 xs (s1.trans s2) hp rv⟩
theorem qt{x:Str}{k j n:Nat}{m:List D→R D}{e:Expr}{es:List Expr}{fs:List Ex}{p:Pos}(d:d8 X.prog X.w X.K X.mg X.base x k n m)(hr:L2.bt j X.A)(hg:L2.Gl X x)(ha:JA X (e::es) (eList fs))(hk:k≤j:=by decide)(hn:fs.length=n:=by rfl)
   (hdb:(x==("__debug__":Str))=false:=by decide) (he:starEach (e::es) X.env=(false,eval e X.env)::starEach es X.env:=by rfl) (hpl:(backTo pos (starEach es X.env)).any (·.1)=false:=by rfl):JF X (.Call (.Name x p) (e::es) [] pos) (aB m fs):=by
 obtain⟨f,fd,ps,h1,h2,h3,h4⟩:=d.ex
 exact bc (L2.tS h1 (hr.mono hk) hg h4 h3 h2 .nil L2.pM ha hdb he hpl) fun σ H Q h=>vn hn h
theorem rY{n:Nat}{body:Sm}{ds:List D}{d:D}(h:dX n body ds=.ok d):∃xs,d=.lst xs:=by
 obtain⟨f,_,e⟩:=ai.mp h
 split at e
 ·cases e;exact⟨_,rfl⟩
 ·cases e
theorem zD{x:Str}{k j n N:Nat}{body:Sm}{m:List D→R D}{e:Expr}{es:List Expr}{fs:List Ex}{p:Pos}(d:d8 X.prog X.w X.K X.mg X.base x k n m)(hm:m=dX N body)(hr:L2.bt j X.A)(hg:L2.Gl X x)(ha:JA X (e::es) (eList fs))(hk:k≤j:=by decide)(hn:fs.length=n:=by rfl)
   (hdb:(x==("__debug__":Str))=false:=by decide) (he:starEach (e::es) X.env=(false,eval e X.env)::starEach es X.env:=by rfl) (hpl:(backTo pos (starEach es X.env)).any (·.1)=false:=by rfl):JE X (.Call (.Name x p) (e::es) [] pos) (aB m fs):=
 p8 (qt d hr hg ha hk hn hdb he hpl) fun ρ d h=>by
   obtain⟨ds,_,e⟩:=ai.mp h
   rw[hm]at e
   exact rY e
theorem AG{P:Program}{w:World}{K:PySem.W.Frag}{mg:Str→Option Value}{base:Heap}{x qual:Str}{st:Stmt}{f:Addr}{fd:FuncData}{N ps:List Str}{k n:Nat}{body:Sm}(Fu:L2.bx K x qual st f fd)(S:L2.bE N ps (L2.aC st))
   (h:∀(cdv:Value) (A:Around) (outer:List Env) (s:Shared) (H:Hp) (E:XK),L2.bt k (A.deeper (PyProof.Rows.envOfC qual (L2.aC st) s.heap.objs.size f cdv))→cN (L2.fK L2.de P w K mg base N qual (L2.aC st) f cdv A outer s H E).er (L2.bw st) body)
   (hn:ps.length=n:=by rfl):L2.cy P w K mg base L2.de (k+1) f fd ps (kI ⟨K,P,w⟩ (dX N.length body) n):=by
 refine Fu.ok S (fun vs H Q E h=>?_) (fun cdv A outer s H vs Q E hr hsp=>?_)
 · obtain⟨F,ds,d,_,rs,hl,_⟩:=h
   rw[←rs.length,hl,hn]
 · refine⟨fun D σ H'=>∃F0,eG ⟨K,P,w⟩ H F0 body D σ H',fun pins s' σ H' D I ⟨F0,q⟩=>h cdv A outer s H E hr F0 pins s' σ H' D I q,?_⟩
   refine zP (G:=H) (t:=fun D σ H'=>∃F0,eG ⟨K,P,w⟩ H F0 body D σ H') (fun F0 D σ H' h=>⟨F0,h⟩) hsp ?_
   have:=congrArg List.length S.pre
   rw[List.length_take]at this
   omega
theorem nQ{P:Program}{w:World}{K:PySem.W.Frag}{mg:Str→Option Value}{base:Heap}{x qual:Str}{st:Stmt}{f:Addr}{fd:FuncData}{N ps:List Str}{k n:Nat}{body:Sm}(Fu:L2.bx K x qual st f fd)(hm:mg x=some (.ref f))(S:L2.bE N ps (L2.aC st))(hb:L2.Binds K fd ps [])
   (h:∀(cdv:Value) (A:Around) (outer:List Env) (s:Shared) (H:Hp) (E:XK),L2.bt k (A.deeper (PyProof.Rows.envOfC qual (L2.aC st) s.heap.objs.size f cdv))→cN (L2.fK L2.de P w K mg base N qual (L2.aC st) f cdv A outer s H E).er (L2.bw st) body)
   (hn:ps.length=n:=by rfl):d8 P w K mg base x (k+1) n (dX N.length body):=⟨f,fd,ps,AG Fu S h hn,hb,Fu.kp,hm⟩
end
noncomputable def intsOf:List D→Option (List Int)
 |[]=>some []
 |.int i::r=>(intsOf r).map (i:: ·)
 |_=>none
@[simp] noncomputable def Ds:D→R D
 | .lst xs=>match intsOf xs with
   |some ns=>.ok (.int ns.sum)
   |none=>.bad
 | .tup xs=>match intsOf xs with
   |some ns=>.ok (.int ns.sum)
   |none=>.bad
 |_=>.bad
noncomputable def tO:List D→Option (List Bool)
 |[]=>some []
 |.bl i::r=>(tO r).map (i:: ·)
 |_=>none
@[simp] noncomputable def Dt:D→R D
 | .lst xs=>match tO xs with
   |some ns=>.ok (.bl (ns.any id))
   |none=>.bad
 |_=>.bad
noncomputable def unlike(ns:List Int):Nat:=(PyProof.Rows.firstMet (fun i=>ns.getD i 0) ns.length).length
@[simp] noncomputable def Dj:D→R D
 | .lst xs=>match intsOf xs with
   |some ns=>if ns.length≤4000 then .ok (.int (unlike ns))else .bad
   |none=>.bad
 |_=>.bad
@[simp] noncomputable def Dc:D→D→R D
 |.tup x,.int j=>if 1<j∧j<1000∧x.length≤1000∧x.isEmpty=false then .ok (.tup (List.replicate j.toNat x).flatten)else .bad
 |_,_=>.bad
@[simp] noncomputable def lF:D→D→R D
 |.int i,.int j=>if inR i=true∧inR j=true∧j - i≤16777216 then .ok (.lst (bB i j))else .bad
 |_,_=>.bad
section
variable{X:Cx}{M:Md}{G H H':Hp}{F0 F F':Addr→Prop}{σ:L2.St}{ρ:En}{pos:Pos}{pins:List (Addr×Obj)}{s:Shared}
end
@[simp] noncomputable def mh(e:Ex):Sm:=fun ρ=>(e ρ).bind fun d=>.ok (.cX d)
section
variable{X:Cx}{M:Md}{G H H':Hp}{F0 F F':Addr→Prop}{σ:L2.St}{ρ:En}{pos:Pos}{pins:List (Addr×Obj)}{s:Shared}
theorem vH{a:Expr}{fa:Ex}(ha:JF X a fa)(hl:∀ρ d,fa ρ=.ok d→∃ds,d=.lst ds):JS X (.Return (some a) pos) (mh fa):=fun F0=>
 b9 (L2.n4 ha) fun D σ H ⟨ρ,F,fl,r,e,q⟩=>by
   obtain⟨d,ed,e⟩:=ai.mp e
   cases e
   obtain⟨ds,rfl⟩:=hl _ _ ed
   exact⟨ρ,F,ds,r.rs,ed,fun p H1 xs s1 hp rv=>q p H1 F xs ds rfl (.same s1) (r.sm.trans s1) r.sub hp rv⟩
theorem BM{m:List D→R D}{N:Nat}{body:Sm}{fs:List Ex}(hm:m=dX N body)(ρ:En)(d:D)(h:aB m fs ρ=.ok d):∃ds,d=.lst ds:=by
 obtain⟨ds,_,e⟩:=ai.mp h
 rw[hm]at e
 exact rY e
theorem BO{i:Int}{n:Nat}{acc:Array Value}(h:ItemsOf (fun k v=>∃t,v=.int (i+k*1) t) acc n):Vals ((List.range n).map fun(k:Nat)=>V.int (i+(k:Int))) acc.toList:=by
 obtain⟨hn,hg⟩:=h
 have key:∀(l:List Value) (m:Nat) (j:Int),l.length=m→(∀(k:Nat) v,l[k]? =some v→∃t,v=.int (j+k) t)→Vals ((List.range m).map fun(k:Nat)=>V.int (j+(k:Int))) l:=by
   intro l
   induction l with
   |nil=>intro m j hm _;cases hm;exact .nil
   | cons v l ih=>
     intro m j hm hg
     cases hm
     rw[List.length_cons,List.range_succ_eq_map,List.map_cons,List.map_map]
     obtain⟨t,ht⟩:=hg 0 v rfl
     refine .cons ⟨t,by rw[ht]⟩ ?_
     have:=ih l.length (j+1) rfl (fun k w hk=>by
       obtain⟨t,e⟩:=hg (k+1) w (by simpa using hk)
       exact⟨t,by rw[e];congr 1;omega⟩)
     refine(Eq.mp (congrArg (fun z=>Vals z l) ?_) this)
     apply List.map_congr_left
     intro k _
     show V.int (j+1+(k:Int))=V.int (j+((k+1:Nat):Int))
     congr 1;omega
 refine key acc.toList n i (by simpa using hn) fun k v hk=>?_
 have hk':acc[k]? =some v:=by simpa using hk
 obtain⟨t,e⟩:=hg k v hk'
 exact⟨t,by rw[e];congr 1;omega⟩
theorem sL(i:Int):∀l:List Nat,ab M H F (l.map fun(k:Nat)=>D.int (i+(k:Int))) (l.map fun(k:Nat)=>V.int (i+(k:Int)))
 |[]=>ab.nil
 |k::l=>ab.cons bW (sL i l)
theorem yi{a b:Expr}{fa fb:Ex}{p p2 pos2:Pos}(hc:X.calm=true)(hg:L2.Gl X "list")(hm:X.mg "list"=none)(hg2:L2.Gl X "range")(hm2:X.mg "range"=none)(ha:JE X a fa)(hb:JE X b fb)
   (hs0:starEach [.Call (.Name "range" p2) [a,b] [] pos2] X.env=(false,eval (.Call (.Name "range" p2) [a,b] [] pos2) X.env)::starEach [] X.env:=by rfl) (hs:starEach [a,b] X.env=(false,eval a X.env)::starEach [b] X.env:=by rfl) (hs2:starEach [b] X.env=(false,eval b X.env)::starEach [] X.env:=by rfl):
   JF X (.Call (.Name "list" p) [.Call (.Name "range" p2) [a,b] [] pos2] [] pos) (e2 lF fa fb):=by
 intro pins s σ H Q I ⟨ρ,F,ds,hr,e,q⟩
 obtain⟨x,ex,e⟩:=ai.mp e
 obtain⟨y,ey,e⟩:=ai.mp e
 cases x with
 | int i=>
  cases y with
  |int j=>
   replace e:(if inR i=true∧inR j=true∧j - i≤16777216 then R.ok (D.lst (bB i j))else R.bad)=R.ok (D.lst ds):=e
   by_cases h:inR i=true∧inR j=true∧j - i≤16777216
   · rw[if_pos h]at e
     cases e
     obtain⟨hi,hj,hd⟩:=h
     unfold inR at hi hj
     rw[Bool.and_eq_true,decide_eq_true_eq,decide_eq_true_eq]at hi hj
     refine wpAny_Call_Name_kw (L2.fS I hg hm jV ?_ (by decide) (by decide))
     refine PyProof.Rows.callWith_type1 ?_ hs0 (by rfl)
     rw[hs0]
     show wpAny _ _ (spliced ((false,eval (.Call (.Name "range" p2) [a,b] [] pos2) X.env)::backTo pos (starEach [] X.env))) _ _ s
     refine Calls.spliced_cons (wpAny_Call_Name_kw (L2.fS I hg2 hm2 PyProof.Rows.boot_range (PyProof.Rows.callWith_type1 (L2.aE ((cL ha (cL hb dM hs2) hs) pos2 pins s σ H _ I ⟨ρ,F,[.int i,.int j],hr,by show(fa ρ).bind _=_;rw[ex];show((fb ρ).bind _).bind _=_;rw[ey];rfl,fun vs H1 s1 rv=>(⟨s1,rv⟩:af H H1∧ab (av X) H1 F [.int i,.int j] vs)⟩) fun us s1 ⟨vs,H1,I1,r1,sm1,rv⟩=>?_) hs (by rw[hs2];rfl)) (by decide) (by decide)))
     obtain⟨v1,v2,rfl,rx,ry⟩:=rv.two
     cases aT rx
     cases aT ry
     obtain⟨u1,u2,rfl,ru1,ru2⟩:=L2.vals2 r1
     obtain⟨t1,rfl⟩:=ru1
     obtain⟨t2,rfl⟩:=ru2
     refine call_range_2 (Calls.spliced_nil ?_)
     have hh:X.A.handled=none:=I.ok.hd hc
     have hsz:Builtin.Range.rangeSize i j 1=(((j - i).toNat:Nat):Int):=by rw[PySem.rangeSize_one];split<;>omega
     have I2:Inv X pins σ H1 {s1 with heap:=s1.heap.push {cls:=.type "range",data:=.fields #[.int i t1,.int j t2,.int 1 s1.toks]},toks:=s1.toks+1}:=I1.kept (t':=s1.toks+1) fun b o e=>Heap.get?_push_of_some _ e
     refine call_list_range hh (IsRange.new ..) (small_one (by omega) (by omega) (by omega) (by omega)) hsz (by omega) fun h' tk acc c' hk hS' hacc=>?_
     have hv:=BO hacc
     have hlen:((List.range (j - i).toNat).map fun(k:Nat)=>V.int (i+(k:Int))).length≤sizeLine:=by rw[List.length_map,List.length_range,sizeLine_eq];omega
     have I3:=I2.laid (o:=.lst ((List.range (j - i).toNat).map fun(k:Nat)=>V.int (i+(k:Int)))) (h':=h') (t':=tk) hk (Nat.le_refl _) ⟨hlen,acc.toList,c',hv,by simpa using hS'⟩
     exact⟨.ref _,_,I3,rfl,q _ H1 _ sm1 (I2.fresh) (sL i _)⟩
   ·rw[if_neg h]at e;cases e
  |_=>cases e
 |_=>cases e
theorem ab.erase:∀ {ds:List D} {xs:List V} (k:Nat),ab M H F ds xs→ab M H F (ds.eraseIdx k) (xs.eraseIdx k)
 |[],_,k,h=>by simp only[ab]at h;subst h;exact ab.nil
 | d::ds,_,0,h=>by
   simp only[ab]at h
   obtain⟨y,r,rfl,_,h2⟩:=h
   exact h2
 | d::ds,_,k+1,h=>by
   simp only[ab]at h
   obtain⟨y,r,rfl,h1,h2⟩:=h
   exact ab.cons h1 (ab.erase k h2)
theorem yP{n m:Nat}{k:Int}(h:bJ n k=some m):seqIndex? k n=some m:=(L2.nZ h).1
theorem uw (j i:Nat) {x y:Str} {e:Expr} {f:Ex} {p2 p3 apos cpos bpos dpos:Pos} (he:JE X e f) (hj:X.N[j]? =some y) (hN:X.N[i]? =some x) (hvy:L2.aZ X.env.scope y) (hv:L2.aZ X.env.scope x) (hdy:(y==("__debug__":Str))=false)
   (hcdy:(y==("__classdict__":Str))=false) (hd:(x==("__debug__":Str))=false) (hcd:(x==("__classdict__":Str))=false) (hbase:attributeBase (.Name x p2) "pop" X.env (eval (.Name x p2) X.env)=eval (.Name x p2) X.env)
   (hfew:((backTo cpos (starEach [e] X.env)).all (fun x=> !x.1)&&(backToKw cpos (keywordEach [] X.env)).all (fun x=>x.1.isSome)
     &&decide (([e]:List Expr).length+([]:List Keyword).length+(if([]:List Keyword).isEmpty then 0 else 1)<30))=true)
   (hline:(apos.endLine==cpos.line)=true) (hs:starEach [e] X.env=(false,eval e X.env)::starEach [] X.env)
   (hbase2:attributeBase (.Name y p3) "append" X.env (eval (.Name y p3) X.env)=eval (.Name y p3) X.env)
   (hfew2:((backTo dpos (starEach [.Call (.Attribute (.Name x p2) "pop" apos) [e] [] cpos] X.env)).all (fun x=> !x.1)&&(backToKw dpos (keywordEach [] X.env)).all (fun x=>x.1.isSome)
     &&decide (([.Call (.Attribute (.Name x p2) "pop" apos) [e] [] cpos]:List Expr).length+([]:List Keyword).length+(if([]:List Keyword).isEmpty then 0 else 1)<30))=true)
   (hline2:(bpos.endLine==dpos.line)=true) (hs2:starEach [.Call (.Attribute (.Name x p2) "pop" apos) [e] [] cpos] X.env=(false,eval (.Call (.Attribute (.Name x p2) "pop" apos) [e] [] cpos) X.env)::starEach [] X.env)
   (hsw:swapsWith (.Call (.Attribute (.Name y p3) "append" bpos) [.Call (.Attribute (.Name x p2) "pop" apos) [e] [] cpos] [] dpos) none pos.line X.env=pure false):
   JS X (.Expr (.Call (.Attribute (.Name y p3) "append" bpos) [.Call (.Attribute (.Name x p2) "pop" apos) [e] [] cpos] [] dpos) pos) (jE j i f):=fun F0=>
 b9 (L2.i5 (L2.i3 PySem.F.plainAttrs_list PySem.F.slot_list_append PySem.F.type_list_append L2.kx (L2.pv j hj hvy hdy hcdy) (L2.fL (L2.i3 PySem.F.plainAttrs_list PySem.F.slot_list_pop PySem.F.type_list_pop L2.Bm (L2.pv i hN hv hd hcd) (cL he dM hs) hbase hfew hline hs) L2.fZ hs2) hbase2 hfew2 hline2 hs2) hsw) fun D σ H ⟨ρ,F,fl,r,e,q⟩=>by
   obtain⟨d,ed,e⟩:=ai.mp e
   split at e
   · rename_i k xs zs q1 q2
     split at e
     · rename_i m hm
       split at e
       · rename_i y hy
         split at e
         · rename_i hk
           cases e
           obtain⟨hk,hz,hij⟩:=hk
           have oi:aX ρ i:=.inl ⟨_,q1⟩
           have oj:aX ρ j:=.inl ⟨_,q2⟩
           obtain⟨a,ys,ea,fa,ha,rs⟩:=r.rs.ol i _ q1
           obtain⟨b,ws,eb,fb,hb,rw'⟩:=r.rs.ol j _ q2
           unfold inR at hk
           rw[Bool.and_eq_true,decide_eq_true_eq,decide_eq_true_eq]at hk
           refine⟨_,eb,.inl ⟨rfl,ws,aM.of hb⟩,_,ea,.inl ⟨rfl,ys,aM.of ha⟩,ρ,F,[.int k],r.rs,by show(f ρ).bind _=_;rw[ed];rfl,fun vs H1 s1 rv=>?_⟩
           obtain⟨z,rfl,rz⟩:=rv.one
           have r1:=r.same s1
           have rs1:=rs.mv (M:=av X) (F':=F) (.same s1)
           obtain⟨v,ev,rv'⟩:=rs1.get hy
           refine⟨a,ys,k,m,v,rfl,by rw[aT rz],s1 _ _ ha,by omega,by omega,by rw[←rs.length];exact yP hm,ev,?_⟩
           obtain⟨mv,r'⟩:=r1.chg (s:=.ol (xs.eraseIdx m)) oi ea (.inl ⟨_,ys.eraseIdx m,rfl,rfl,rs1.erase m⟩)
           have hab:b≠a:=fun z=>by subst z;exact hij (r.rs.bM i j _ oi oj ea eb)
           have hb1:upd H1 a (.lst (ys.eraseIdx m)) b=some (.lst ws):=by rw[L2.az hab];exact s1 _ _ hb
           refine⟨b,ws,v,rfl,rfl,hb1,by rw[←rw'.length];exact hz,?_⟩
           have mv1:=Mv.trans (.same s1) mv
           have q2':(ρ.set i (.ol (xs.eraseIdx m)))[j]? =some (.ol zs):=by rw[List.getElem?_set_ne hij];exact q2
           obtain⟨mv2,r2⟩:=r'.chg (i:=j) (s:=.ol (zs++[y])) (.inl ⟨_,q2'⟩) eb (.inl ⟨_,ws++[v],rfl,rfl,(rw'.mv mv1).append (ab.cons (rv'.mv mv) ab.nil)⟩)
           exact q _ _ _ (Mv.trans mv1 mv2) r2
         ·cases e
       ·cases e
     ·cases e
   ·cases e
end
section
variable{prog:Program}{w:World}{A:Around}{E:Value→Shared→Prop}{s:Shared}{e it:Addr}{fp:List Addr}{n i:Nat}{c:Int}{P:Nat→Value→Prop}{St:Nat→Heap→Prop}{old:Value}
theorem x3(D:Draws prog w A it fp n P St)(he:IsEnum s.heap e it c old)(hst:St i s.heap)(hlt:i<n)(hne:e≠it)(hef:e∉fp){Q:Value→Shared→Prop}
   (hQ:∀x h' tk,P i x→IsEnumOut h' e it (c+1) x s.heap.objs.size→St (i+1) h'→h'.get? s.heap.objs.size=some {cls:=.type "tuple",data:=.seq #[.int c tk,x]}→
     (∀b o,b≠e→b≠it→s.heap.get? b=some o→h'.get? b=some o)→Q (.ref s.heap.objs.size) {s with heap:=h',toks:=tk+1}):
   wpAny (model prog w) A (Builtin.«enumerate.__next__» ⟨[.ref e],[]⟩) (fun fin s'=>∃v,fin=.done (.ret v)∧Q v s') E s:=by
 obtain⟨hp,g,dd,tk₀,os⟩:=s
 show wpAny _ _ (PySem.field (.ref e) 2 >>= _) _ _ _;refine wpAny_bind (wpAny_field he rfl (x:=.ref it) rfl (wpAny_bind (D.item i _ _ _ hlt hst fun x h1 tk px aY hs1=>?_)))
 replace hs1:Heap.SameBut it hp h1:=hs1
 have a1:IsEnum h1 e it c old:=(hs1.2 e hne).trans he
 show wpAny _ _ (PySem.field (.ref e) 3 >>= _) _ _ ⟨h1,g,dd,tk,os⟩;refine wpAny_bind (wpAny_field a1 rfl (x:=rawInt c) rfl ?_)
 show wpAny _ _ (PySem.field (.ref e) 4 >>= _) _ _ ⟨h1,g,dd,tk,os⟩;refine wpAny_bind (wpAny_field a1 rfl (x:=.none) rfl ?_)
 show wpAny _ _ (mkInt c >>= _) _ _ ⟨h1,g,dd,tk,os⟩;refine wpAny_bind (wpAny_mkInt ?_)
 show wpAny _ _ (setField (.ref e) 3 (rawInt (c+1)) >>= _) _ _ ⟨h1,g,dd,tk+1,os⟩;refine wpAny_bind (wpAny_setField_rec a1 (by simp) fun h2 a2 hs2=>?_)
 replace hs2:Heap.SameBut e h1 h2:=hs2;replace a2:IsEnum h2 e it (c+1) old:=a2
 show wpAny _ _ (setField (.ref e) 4 .none >>= _) _ _ ⟨h2,g,dd,tk+1,os⟩;refine wpAny_bind (wpAny_setField_rec a2 (by simp) fun h3 a3 hs3=>?_)
 replace hs3:Heap.SameBut e h2 h3:=hs3;replace a3:IsEnum h3 e it (c+1) old:=a3
 show wpAny _ _ (newTuple [.int c tk,x] >>= _) _ _ ⟨h3,g,dd,tk+1,os⟩;refine wpAny_bind (wpAny_newTuple ?_)
 have a4:IsEnum (h3.push {cls:=.type "tuple",data:=.seq #[.int c tk,x]}) e it (c+1) old:=Heap.get?_push_of_some _ a3
 generalize hh4:h3.push {cls:=.type "tuple",data:=.seq #[.int c tk,x]}=h4 at a4
 have hsz:h3.objs.size=hp.objs.size:=by rw[hs3.1,hs2.1,hs1.1]
 have hel:e<hp.objs.size:=Heap.lt_size he
 have t4:h4.get? hp.objs.size=some {cls:=.type "tuple",data:=.seq #[.int c tk,x]}:=by rw[←hh4, ←hsz];exact Heap.get?_push_size _ rfl
 have k4:∀b o,b≠e→b≠it→hp.get? b=some o→h4.get? b=some o:=fun b o hbe hbi q=>by rw[←hh4];exact Heap.get?_push_of_some _ (hs3.extBut b o hbe (hs2.extBut b o hbe (hs1.extBut b o hbi q)))
 have ne_e:∀b∈fp,b≠e:=fun b hb q=>hef (q▸hb)
 have st4:St (i+1) h4:=D.frame _ _ _ aY fun b hb o y=>by rw[←hh4];exact Heap.get?_push_of_some _ (hs3.extBut b o (ne_e b hb) (hs2.extBut b o (ne_e b hb) y))
 rw[hsz]
 show wpAny _ _ (Builtin.SmallTypes.ownedTupleIsFree (.ref e) >>= _) _ _ ⟨h4,g,dd,tk+1,os⟩
 refine wpAny_bind ?_
 unfold Builtin.SmallTypes.ownedTupleIsFree
 refine wpAny_bind (wpAny_field a4 rfl (x:=.none) rfl (wpAny_pure ?_));simp only[if_true]
 refine wpAny_bind (wpAny_rule (wpAny_bind (wpAny_field a4 rfl (x:=old) rfl (wpAny_bind (wpAny_setField_rec a4 (by simp) fun h5 a5 hs5=>?_)))))
 replace hs5:Heap.SameBut e h4 h5:=hs5;replace a5:IsEnum h5 e it (c+1) x:=a5
 show wpAny _ _ (Builtin.SmallTypes.ownedTupleHandOut (.ref e) (.ref hp.objs.size) >>= _) _ _ ⟨h5,g,dd,tk+1,os⟩
 refine wpAny_bind ?_
 unfold Builtin.SmallTypes.ownedTupleHandOut
 refine wpAny_bind (wpAny_setField_rec a5 (by simp) fun h6 a6 hs6=>?_)
 replace hs6:Heap.SameBut e h5 h6:=hs6;replace a6:IsEnumOut h6 e it (c+1) x hp.objs.size:=a6
 refine wpAny_setField_rec a6 (by simp) fun h7 a7 hs7=>?_
 replace hs7:Heap.SameBut e h6 h7:=hs7;replace a7:IsEnumOut h7 e it (c+1) x hp.objs.size:=a7
 have up:∀b o,b≠e→h4.get? b=some o→h7.get? b=some o:=fun b o hb y=>hs7.extBut b o hb (hs6.extBut b o hb (hs5.extBut b o hb y))
 exact wpAny_bind (wpAny_letGo (wpAny_pure ⟨_,rfl,hQ x h7 tk px a7 (D.frame _ _ _ st4 fun b hb o y=>up b o (ne_e b hb) y) (up _ _ (Nat.ne_of_gt hel) t4) fun b o hbe hbi q=>up b o hbe (k4 b o hbe hbi q)⟩))
end
noncomputable def mL(K:PySem.W.Frag)(c0:Int)(d:Sd):It where
 go i H:=∃xs,d.at K H xs∧i<xs.length
 jZ i H v H':=∃t x,v=.ref t∧H t=none∧(∀xs,d.at K H xs→xs[i]? =some x)∧H'=upd H t (.tup [.int (c0+(i:Int)),x])
 stop i H:=∃xs,d.at K H xs∧i=xs.length
noncomputable def kW(c0:Int)(d:Sd)(td:Tok)(e it:Addr)(i:Nat)(h:Heap):Prop:=(∃old,IsEnum h e it (c0+(i:Int)) old)∧d.gZ it i h td
theorem B7{P:Program}{w:World}{K:PySem.W.Frag}{elts:List Expr}{k:Nat}{tp:Pos}(c0:Int)(d:Sd)(td:Tok)(e it:Addr)(ne:e≠it)(hK:∀b∈[e,it],K.lookup b=none):
   Turn P w K (.Tuple elts k tp) (mL K c0 d) [e,it] e (kW c0 d td e it) where
 mem:=by simp
 obj i h st b hb:=by
   obtain⟨⟨old,he⟩,h1⟩:=st
   simp only[List.mem_cons,List.not_mem_nil,or_false]at hb
   rcases hb with rfl|rfl
   ·exact⟨_,he,fun v q=>by cases q⟩
   ·exact Sd.pZ h1
 keep i h h' st kk:=by
   obtain⟨⟨old,he⟩,h1⟩:=st
   exact⟨⟨old,kk e (by simp) _ he⟩,Sd.pV h1 fun o q=>kk it (by simp) o q⟩
 item := by
   intro X hP hw hKX hc i pins s σ H E I hf st hg
   subst hP hw hKX
   obtain⟨xs,ax,hx⟩:=hg
   obtain⟨⟨old,he⟩,h1⟩:=st
   have hh:X.A.in1.handled=none:=I.ok.hd hc
   have un:∀b∈[e,it],H b=none:=fun b hb=>(hf b hb).1
   obtain⟨f1,P1,S1,D1,p1,s1,s1',q1⟩:=Sd.draws (it:=it) (tk:=td) (A:=X.A.in1) I hh ax (un it (by simp)) (hK it (by simp))
   have hef:e∉f1:=fun hm=>by
     rcases q1 e hm with h|h|⟨o,h⟩
     ·exact ne h
     ·exact h (un e (by simp))
     ·rw[hK e (by simp)]at h;cases h
   have hT:s.TypeIs (.ref e) "enumerate":=⟨_,he,rfl⟩
   unfold pyNext
   refine wpAny_bind (wpAny_attempt (wpAny_callSpecial?_slot (name:=Str.ofString "__next__") hT PySem.F.slot_enumerate_next (wpAny_call_entry PySem.F.slot_enumerate_next hT PySem.F.entry_enumerate_next (x3 D1 he (s1' i h1) hx ne hef fun x h' tk px ho aY hp hk=>wpAny_pure ?_) (PySem.F.args_enumerate_next_1 _))))
   obtain⟨v1,e1,r1⟩:=p1 i x px
   refine⟨_,rfl,wpAny_letOwnedTupleGo_enum ho fun h2 he2 hs2=>?_⟩
   have helt:e<s.heap.objs.size:=Heap.lt_size he
   have Te:s.heap.objs.size≠e:=Nat.ne_of_gt helt
   have hk2:∀b o,b≠e→b≠it→s.heap.get? b=some o→h2.get? b=some o:=fun b o c1 c2 q=>hs2.extBut _ _ c1 (hk b o c1 c2 q)
   have hp2:h2.get? s.heap.objs.size=some {cls:=.type "tuple",data:=.seq #[.int (c0+(i:Int)) tk,x]}:=hs2.extBut _ _ Te hp
   have nT:H s.heap.objs.size=none:=I.ao.fresh (Nat.le_refl _)
   have aU:∀c u,H c=some u→c≠e∧c≠it:=fun c u q=>by refine⟨?_,?_⟩<;>(intro w;rw[w,un _ (by simp)]at q;cases q)
   have nch:∀c,c∉[e,it]→c≠e∧c≠it:=fun c hc'=>by simpa[not_or] using hc'
   have u:Un (L2.cv X.stack) [e,it] H (upd H s.heap.objs.size (.tup [.int (c0+(i:Int)),v1])) s.heap h2:=
     ⟨fun b o q n hf' hx'=>let m:=nch b hx';hk2 b o m.1 m.2 q,fun b o q n hf' hx'=>let m:=nch b hx';⟨o.slots,hk2 b o m.1 m.2 q⟩,fun b o q n hx'=>by rw[L2.az (Nat.ne_of_lt (Heap.lt_size q))];exact n,
       fun b o q hx'=>let m:=nch b hx';⟨o,hk2 b o m.1 m.2 q⟩,fun b zs q=>by rw[L2.az (L2.eY q nT)];exact q,fun b o zs q=>by rw[L2.az (L2.eY q nT)];exact q,fun b ps q=>⟨#[],by rw[L2.az (L2.eY q nT),q];simp⟩⟩
   have ao:L2.ba X.prog X.w (upd H s.heap.objs.size (.tup [.int (c0+(i:Int)),v1])) h2:=fun b ob q=>by
     by_cases hb:b=s.heap.objs.size
     · subst hb
       rw[L2.bF]at q
       cases q
       exact⟨show 2≤sizeLine by decide,[.int (c0+(i:Int)) tk,x],.cons ⟨_,rfl⟩ (.cons r1 .nil),⟨_,hp2,rfl,_,rfl⟩⟩
     · rw[L2.az hb]at q
       refine(I.ao b ob q).iC (fun c v hcv w=>?_) (fun c w=>by rw[L2.az (L2.eY w nT)];exact w) fun c zs w=>by rw[L2.az (L2.eY w nT)];exact w
       have tc:∃u,H c=some u:=by
         rcases hcv with rfl|hcv
         ·exact⟨_,q⟩
         ·exact⟨_,hcv⟩
       obtain⟨u',hu'⟩:=tc
       have m:=aU c u' hu'
       exact hk2 c v m.1 m.2 w
   have I2:Inv X pins σ (upd H s.heap.objs.size (.tup [.int (c0+(i:Int)),v1])) {s with heap:=h2,toks:=tk+1}:=I.tJ (s':={s with heap:=h2,toks:=tk+1}) (ch:=[e,it]) rfl u ao I.bare fun b hb=>by
     obtain⟨_,a1,a2,a3,a4,a5⟩:=hf b hb
     exact⟨a3,a1,a4,a5⟩
   have ltb:∀b∈[e,it],b≠s.heap.objs.size:=fun b hb=>by
     have:∃o,s.heap.get? b=some o:=by
       simp only[List.mem_cons,List.not_mem_nil,or_false]at hb
       rcases hb with rfl|rfl
       ·exact⟨_,he⟩
       ·exact let⟨o,q,_⟩:=Sd.pZ h1;⟨o,q⟩
     obtain⟨o,q⟩:=this
     exact Nat.ne_of_lt (Heap.lt_size q)
   have cn:c0+(i:Int)+1=c0+((i+1:Nat):Int):=by omega
   rw[cn]at he2
   refine⟨.ref s.heap.objs.size,_,I2,rfl,⟨_,v1,rfl,nT,fun xs' hx'=>by rw[Sd.inj I hx' ax];exact e1,rfl⟩,⟨⟨_,he2⟩,Sd.pV (s1 _ _ aY) fun o q=>hs2.extBut _ _ (Ne.symm ne) q⟩,fun b hb=>?_⟩
   show upd H _ _ b=none
   rw[L2.az (ltb b hb)];exact un b hb
 done:=by
   intro X hP hw hKX hc i pins s σ H E I hf st hg
   subst hP hw hKX
   obtain⟨xs,ax,hend⟩:=hg
   obtain⟨⟨old,he⟩,h1⟩:=st
   have hh:X.A.in1.handled=none:=I.ok.hd hc
   have un:∀b∈[e,it],H b=none:=fun b hb=>(hf b hb).1
   obtain⟨f1,P1,S1,D1,p1,s1,s1',q1⟩:=Sd.draws (it:=it) (tk:=td) (A:=X.A.in1) I hh ax (un it (by simp)) (hK it (by simp))
   refine wpAny_pyNext_enum_endD D1 he (by rw[←hend];exact s1' i h1) fun h' hk=>⟨rfl,?_⟩
   have fpi:=hf it (by simp)
   obtain⟨b0,b1,b2,b3,b4,b5⟩:=fpi
   exact I.turned (it:=it) (t':=s.toks) (fun b o hb q=>hk b o hb q) b0 b1 b3 b4 b5
 self _ _ _ _ _ st h:=let⟨old,he⟩:=st.1;wpAny_pyIter_enum he h
noncomputable abbrev lp(h:Heap)(d:Sd)(td:Tok):Heap:=h.push (d.obj td)
noncomputable abbrev iq(h:Heap)(d:Sd)(td:Tok)(c:Int):Heap:=(lp h d td).push {cls:=.type "enumerate",data:=.fields #[.none,.bool false,.ref h.objs.size,rawInt c,.none,.none]}
theorem xW(d:Sd)(td:Tok):Meets (Builtin.«enumerate.__new__» ⟨[.type "enumerate",d.val td],[]⟩) (fun _ R s=>d.is s.heap∧R (.ok (.ret (.ref (lp s.heap d td).objs.size))) {s with heap:=iq s.heap d td 0}):=
 .of_wp fun prog w A R s h=>by
   obtain⟨hp,g,dr,tk,os⟩:=s;obtain⟨h1,h⟩:=h
   have hsub:=sub_enumerate
   have a1:d.is (Shared.heap ⟨hp,g,dr,tk,os⟩):=h1
   wp_walk
   refine wpAny_stack_any fun st=>wpAny_pure ?_
   split
   · rename_i c _ _ _ _ _
     cases (c==Value.type "enumerate")
     ·wp_walk using Sd.iter a1;exact⟨_,rfl,h⟩
     ·wp_walk using Sd.iter a1;exact⟨_,rfl,h⟩
   ·wp_walk using Sd.iter a1;exact⟨_,rfl,h⟩
section
variable{X:Cx}{M:Md}{G H H':Hp}{F0 F F':Addr→Prop}{σ:L2.St}{ρ:En}{pos:Pos}{pins:List (Addr×Obj)}{s:Shared}
theorem za{elts:List Expr}{k:Nat}{tp:Pos}{d:Sd}{td:Tok}{xs:List V}{c:Int}{R:It→Hp→Prop}(I:Inv X pins σ H s)(ax:d.at X.K H xs)(q:R (mL X.K c d) H):
   wpAny (model X.prog X.w) X.A (pyIter (.ref (lp s.heap d td).objs.size)) (L2.lT X pins σ (.Tuple elts k tp) R) X.xe {s with heap:=iq s.heap d td c}:=by
 have z1:(lp s.heap d td).objs.size=s.heap.objs.size+1:=Heap.size_push ..
 have nf:(d.obj td).isFreed=false:=by cases d<;>rfl
 have g2:(iq s.heap d td c).get? (lp s.heap d td).objs.size=some _:=Heap.get?_push_size _ rfl
 have g1:(iq s.heap d td c).get? s.heap.objs.size=some (d.obj td):=Heap.get?_push_of_some _ (Heap.get?_push_size _ nf)
 have old:∀b o,s.heap.get? b=some o→(iq s.heap d td c).get? b=some o:=fun b o x=>Heap.get?_push_of_some _ (Heap.get?_push_of_some _ x)
 rw[z1]at g2
 rw[z1]
 refine wpAny_pyIter_enum g2 ?_
 have I2:Inv X pins σ H {s with heap:=iq s.heap d td c}:=I.kept (t':=s.toks) old
 have hK:∀b,s.heap.objs.size≤b→X.K.lookup b=none:=fun b hb=>by
   cases q:X.K.lookup b with
   |none=>rfl
   |some o=>exact absurd (Nat.lt_of_lt_of_le (Heap.lt_size (I.cK b o q)) hb) (Nat.lt_irrefl _)
 have itr0:d.gZ s.heap.objs.size 0 (iq s.heap d td c) td:=by
   cases d with
   |l a=>exact⟨_,g1,rfl,rfl⟩
   |t a=>exact⟨_,g1,rfl,rfl⟩
   |s z=>exact⟨_,g1,rfl,rfl⟩
 have ge:∀b∈[s.heap.objs.size+1,s.heap.objs.size],s.heap.objs.size≤b:=fun b hb=>by
   simp only[List.mem_cons,List.not_mem_nil,or_false]at hb
   rcases hb with rfl|rfl
   ·exact Nat.le_succ _
   ·exact Nat.le_refl _
 refine⟨s.heap.objs.size+1,[s.heap.objs.size+1,s.heap.objs.size],_,_,H,rfl,I2,B7 c d td _ _ (Nat.succ_ne_self _) (fun b hb=>hK b (ge b hb)),⟨⟨.none,?_⟩,itr0⟩,fun b hb=>I.jn (ge b hb) (I.ao.fresh (ge b hb)),q⟩
 have:c+((0:Nat):Int)=c:=by simp
 rw[this]
 exact g2
noncomputable def ui(K:PySem.W.Frag)(c:Int)(ta:TA):TI:=fun σ H R=>ta σ H fun vs H1=>∃(x:V) (d:Sd) (xs:List V),vs=[x]∧(∀u,RelV x u→∃tk,u=d.val tk)∧d.at K H1 xs∧R (mL K c d) H1
theorem A8:bootBuiltins "enumerate"=some (.type "enumerate"):=by decide+kernel
theorem vN{elts:List Expr}{k:Nat}{tp:Pos}{a:Expr}{ta:TA}{p:Pos}(hg:L2.Gl X "enumerate")(hm:X.mg "enumerate"=none)(ha:PA X [a] ta)(hs:starEach [a] X.env=(false,eval a X.env)::starEach [] X.env):
   L2.PI X (.Tuple elts k tp) (.Call (.Name "enumerate" p) [a] [] pos) (ui X.K 0 ta):=by
 intro pins s σ H R I h
 refine PyProof.Rows.Call_ (L2.fS I hg hm A8 (PyProof.Rows.callWith_type1 (L2.aE (ha pos pins s σ H _ I h) fun us s1 ⟨vs,H1,I1,r1,q1⟩=>?_) hs (by rfl)))
 obtain⟨x,d,xs,rfl,hx,ax,q⟩:=q1
 obtain⟨u1,rfl,ru1⟩:=L2.vals1 r1
 obtain⟨td,rfl⟩:=hx u1 ru1
 refine callType_new PySem.F.called_enumerate (by decide) (PySem.F.typeCall_enumerate_1 _) (PySem.F.newCall_enumerate_1 _) (fun obj=>PySem.F.args_object_init_2 obj _) PySem.F.entry_enumerate_new (xW d td) ⟨Sd.yh I1 ax,?_⟩
 exact⟨⟨_,Heap.get?_push_size _ rfl,rfl⟩,za I1 ax q⟩
noncomputable def dy:Int→List D→List D
 |_,[]=>[]
 |k,x::xs=>.tup [.int k,x]::dy (k+1) xs
theorem ma:∀(k:Int) (xs:List D),(dy k xs).length=xs.length
 |_,[]=>rfl
 |k,x::xs=>by unfold dy;simp[ma (k+1) xs]
theorem n9:∀ {k:Int} {xs:List D} {i:Nat} {d:D},(dy k xs)[i]? =some d→∃x,d=.tup [.int (k+(i:Int)),x]∧xs[i]? =some x
 |_,[],_,_,h=>by simp[dy]at h
 | k,x::xs,0,d,h=>by
   unfold dy at h
   simp at h
   exact⟨x,by rw[←h];simp,rfl⟩
 | k,x::xs,i+1,d,h=>by
   unfold dy at h
   have h:(dy (k+1) xs)[i]? =some d:=by simpa using h
   obtain⟨a,h1,h2⟩:=n9 h
   refine⟨a,?_,by simpa using h2⟩
   rw[h1]
   congr 2
   congr 1
   omega
@[simp] noncomputable def ny(c:Int)(a:Ex):bj:=fun ρ=>(a ρ).bind fun x=>(items x).bind fun xs=>.ok (dy c xs)
theorem vQ{c:Int}{q:Sd}{xs:List V}{ds:List D}(h1:∀H' F',Mv F H F' H'→q.at M.K H' xs)(rs:ab M H F ds xs):Gives M (mL M.K c q) H F (dy c ds):=by
 intro H' F' mv tr
 have a1:=h1 H' F' mv
 have rs':=rs.mv mv
 refine⟨fun i d hd=>?_,?_⟩
 · obtain⟨x,rfl,hx⟩:=n9 hd
   obtain⟨vx,ex,rx⟩:=rs'.get hx
   refine⟨⟨xs,a1,(List.getElem?_eq_some_iff.mp ex).1⟩,fun v H2 hv=>?_⟩
   obtain⟨t,wx,rfl,ht,g1,rfl⟩:=hv
   have q1:=g1 xs a1
   rw[ex]at q1
   cases q1
   exact⟨af.bL ht _,ll tr ht (ab.cons bW (ab.cons rx ab.nil))⟩
 ·exact⟨xs,a1,by rw[ma,rs.length]⟩
theorem uZ{elts:List Expr}{k:Nat}{tp:Pos}{a:Expr}{fa:Ex}{p:Pos}(hg:L2.Gl X "enumerate")(hm:X.mg "enumerate"=none)(ha:JE X a fa)(hs:starEach [a] X.env=(false,eval a X.env)::starEach [] X.env):
   JI X (.Tuple elts k tp) (.Call (.Name "enumerate" p) [a] [] pos) (ny 0 fa):=
 kH (vN hg hm (cL ha dM hs) hs) fun σ H Q ⟨ρ,F,ds,r,e,q⟩=>by
   obtain⟨d1,ed1,e⟩:=ai.mp e
   obtain⟨xs,exs,e⟩:=ai.mp e
   cases e
   refine⟨ρ,F,[d1],r,by show(fa ρ).bind _=_;rw[ed1];rfl,fun vs H1 s1 rv=>?_⟩
   obtain⟨x,rfl,rx⟩:=rv.one
   obtain⟨sd1,vx,u1,rr1,at1⟩:=xw exs rx
   exact⟨x,sd1,vx,rfl,u1,at1 H1 F Mv.refl,q _ H1 s1 (vQ (M:=av X) at1 rr1)⟩
end
section
variable{prog:Program}{w:World}{A:Around}{E:Value→Shared→Prop}{s:Shared}
end
section
variable{X:Cx}{M:Md}{G H H':Hp}{F0 F F':Addr→Prop}{σ:L2.St}{ρ:En}{pos:Pos}{pins:List (Addr×Obj)}{s:Shared}
end
end PL
namespace PL
open PySem PySem.Spec PySem.W
open L2 (V Hp HO Cx PE PT PW PA PS bK PG cJ VK TE TT TA TS TI TG Inv RelV Vals Rd aM aW upd af Key XK Ends aQ fD bp R2 EP It Turn cB Un ba bT cv)
theorem Bi{P:Program}{w:World}{H:Hp}{h:Heap}{a:Addr}{o:HO}(x:bT P w H h a o):∃ob,h.get? a=some ob:=by
 cases o with
 |lst xs=>obtain⟨_,_,_,_,e⟩:=x;exact⟨_,e⟩
 |tup xs=>obtain⟨_,_,_,ob,e,_⟩:=x;exact⟨_,e⟩
 |dK kvs=>obtain⟨_,_,_,_,o,_,_,e,_⟩:=x;exact⟨_,e⟩
 |dT kvs=>obtain⟨_,_,_,_,o,_,_,e,_⟩:=x;exact⟨_,e⟩
 |set S n=>obtain⟨o,_,_,_,e,_⟩:=x;exact⟨_,e⟩
 |ins C dx fs=>obtain⟨_,_,_,e,_⟩:=x;exact⟨_,e⟩
 |own y=>obtain⟨_,e⟩:=x;exact⟨_,e⟩
 |xd fs=>obtain⟨_,⟨_,_,_,e,_⟩,_⟩:=x;exact⟨_,e⟩
 |mw lo hi=>obtain⟨_,_,_,e⟩:=x;exact⟨_,e⟩
 |frz ob u=>obtain⟨e,_⟩:=x;exact⟨_,e⟩
 |gr ps=>exact⟨_,show h.get? a=some _ from x⟩
 |met f y=>exact⟨_,show h.get? a=some _ from x⟩
 |ext φ=>obtain⟨_,⟨_,e⟩,_⟩:=x;exact⟨_,e⟩
theorem wU{P:Program}{w:World}{H:Hp}{h h':Heap}(x:ba P w H h)(k:∀b o,H b≠none→h.get? b=some o→h'.get? b=some o):ba P w H h':=fun a o e=>
 (x a o e).iC (fun b u hb q=>k b u (by rcases hb with rfl|hb<;>simp_all) q) (fun _ q=>q) fun _ _ q=>q
section
variable{P:Program}{w:World}{K:PySem.W.Frag}{mg:Str→Option Value}{base:Heap}{N:List Str}{qual:Str}{scope:Scope}{f:Addr}{cdv:Value}{A:Around}{outer:List Env}{s:Shared}{H:Hp}{E:XK}
noncomputable def rz(n:Nat)(c:Str)(t:aJ):List D→R D:=fun ds=>match t (ds.map Slot.sh++List.replicate (n - ds.length) .un)with
 |.ok true=>.exc (.cI c [] [])
 |_=>.bad
end
section
variable{M:Model}{A:Around}{E:Value→Shared→Prop}{K:PySem.W.Frag}{h:Heap}{g:Array GenState}{d:Drawn}{t:Nat}{os:OsState}{e C U:Addr}{oe:Obj}
end
section
variable{X:Cx}{pins:List (Addr×Obj)}{σ:L2.St}{H:Hp}{s:Shared}
end
structure kn(P:Program)(w:World)(C:Addr)(l:List Env)(H1 H':Hp)(h1:Heap)(a t:Addr)(B:Heap)(h:Heap):Prop where
 un:Un (cv l) [] H1 H' h1 h
 ao:ba P w H' h
 fl:Heap.FlyingW B l a (.ref C) (.ref t) h
 j5:∀b o,h.get? b=some o→(H' b≠none∨((∃o',h1.get? b=some o')∧b∉cv l))→B.get? b=some o
section
variable{P:Program}{w:World}{C:Addr}{l:List Env}{H1 H':Hp}{h1 h h5:Heap}{a t:Addr}{B:Heap}
theorem kn.step(x:kn P w C l H1 H' h1 a t B h)(st:B.StaysIn h5)(sm:h.UpToSlots h5):Un (cv l) [] H1 H' h1 h5∧ba P w H' h5∧∀b o,h5.get? b=some o→(H' b≠none∨((∃o',h1.get? b=some o')∧b∉cv l))→B.get? b=some o:=by
 have sl:∀b o,h.get? b=some o→b∈cv l→∃sl,h5.get? b=some {o with slots:=sl}:=fun b o e hb=>by
   obtain⟨_,o',ho',hnf⟩:=x.fl.2.2.1.mem hb
   rw[e]at ho';cases ho'
   exact sm b o e hnf
 refine⟨⟨fun b o e n hb hx'=>st _ _ (x.j5 b o (x.un.keep b o e n hb hx') (.inr ⟨⟨o,e⟩,hb⟩)),fun b o e n hb hx'=>?_,x.un.free,fun b o e hx'=>?_,x.un.dI,x.un.dE,x.un.dQ⟩,wU x.ao fun b o hb q=>st _ _ (x.j5 b o q (.inl hb)),fun b o eo hc=>?_⟩
 · obtain⟨s2,e2⟩:=x.un.slot b o e n hb hx'
   obtain⟨s3,e3⟩:=sl b _ e2 hb
   exact⟨s3,e3⟩
 · obtain⟨o',e'⟩:=x.un.there b o e hx'
   by_cases hb:b∈cv l
   · obtain⟨s3,e3⟩:=sl b _ e' hb
     exact⟨_,e3⟩
   ·exact⟨o',st _ _ (x.j5 b o' e' (.inr ⟨⟨o,e⟩,hb⟩))⟩
 · rcases hc with hb|⟨⟨o',e'⟩,hb⟩
   · cases q:H' b with
     |none=>exact absurd q hb
     | some u=>
       obtain⟨ob,z⟩:=Bi (x.ao _ _ q)
       have z2:=x.j5 b ob z (.inl hb)
       have z3:=st _ _ z2
       rw[z3]at eo;cases eo
       exact z2
   · obtain⟨o2,e2⟩:=x.un.there b o' e' (by intro z;cases z)
     have z2:=x.j5 b o2 e2 (.inr ⟨⟨o',e'⟩,hb⟩)
     have z3:=st _ _ z2
     rw[z3]at eo;cases eo
     exact z2
theorem kn.on(x:kn P w C l H1 H' h1 a t B h)(f5:Heap.FlyingW B l a (.ref C) (.ref t) h5)(sm:h.UpToSlots h5):kn P w C l H1 H' h1 a t B h5:=
 let⟨u,k,c⟩:=x.step f5.1 sm
 ⟨u,k,f5,c⟩
end
section
variable{X:Cx}{pins:List (Addr×Obj)}{σ:L2.St}{H:Hp}{s:Shared}{a:Addr}
end
section
variable{X:Cx}
end
section
variable{X:Cx}{pos:Pos}
end
end PL
namespace PL
open PySem PySem.Spec
open L2 (V Hp HO Cx PE PT PW PA PS bK PG cJ VK TE TT TA TS TI TG Inv RelV Vals Rd aM aW upd af Key XK Ends aQ fD bp R2 EP It Turn cB Un gk)
noncomputable abbrev dT(xs:List D):D:=.cI ⟨#[]⟩ [⟨#[116]⟩] xs
@[simp] noncomputable def AF:D→R D
 |.tup xs=>.ok (dT xs)
 |_=>.bad
@[simp] noncomputable def DU:D→R D
 |.cI _ (_::_) xs=>.ok (.tup xs)
 |_=>.bad
@[simp] noncomputable def DR:D→D→R D
 | .cI _ (_::_) xs,.int k=>match intsOf xs with
   |some ns=>.ok (.int (ns.count k:Nat))
   |none=>.bad
 |_,_=>.bad
@[simp] noncomputable def Dd(a:Ex)(lo hi:Option Ex):Ex:=e1 AF (cC a lo hi)
section
variable{X:Cx}{M:Md}{G H H':Hp}{F0 F F':Addr→Prop}{σ:L2.St}{ρ:En}{pos:Pos}{pins:List (Addr×Obj)}{s:Shared}
end
section
variable{X:Cx}{M:Md}
end
section
variable{X:Cx}{M:Md}{G H H':Hp}{F0 F F':Addr→Prop}{σ:L2.St}{ρ:En}{pos:Pos}{pins:List (Addr×Obj)}{s:Shared}
@[simp] noncomputable def De(a:Ex):bj:=fun ρ=>(a ρ).bind fun x=>match x with
 |.lst xs=>.ok xs.reverse
 |_=>.bad
end
end PL
set_option maxHeartbeats 2000000
namespace PL
open PySem PySem.Spec PySem.W
section
variable{prog:Program}{w:World}{A:Around}{E:Value→Shared→Prop}{s:Shared}
noncomputable def j9(h:Heap)(a l:Addr)(i:Int):Prop:=∃o,h.get? a=some o∧o.cls=.type "reversed"∧o.data=.fields #[.ref l,rawInt i]
theorem j9.typeIs{a l:Addr}{i:Int}(x:j9 s.heap a l i):s.TypeIs (.ref a) "reversed":=let⟨o,ho,hc,_⟩:=x;⟨o,ho,hc⟩
theorem j9.at{h h':Heap}{a l:Addr}{i:Int}(x:j9 h a l i)(e:∀o,h.get? a=some o→h'.get? a=some o):j9 h' a l i:=let⟨o,ho,r⟩:=x;⟨o,e _ ho,r⟩
end
section
open L2 (V Hp HO Cx PE PT PW PA PS bK PG cJ VK TE TT TA TS TI TG Inv RelV Vals Rd aM aW upd af Key XK Ends aQ fD bp R2 EP It Turn cB Un)
variable{X:Cx}{M:Md}{G H H':Hp}{F0 F F':Addr→Prop}{σ:L2.St}{ρ:En}{pos:Pos}{pins:List (Addr×Obj)}{s:Shared}
@[simp] noncomputable def D6(a:Ex):bj:=fun ρ=>(a ρ).bind fun x=>match x with
 |.lst xs=>.ok xs.reverse
 |.tup xs=>.ok xs.reverse
 |_=>.bad
end
end PL
namespace PL
open PySem PySem.Spec
open PyProof.Rows (assign_Tuple)
open L2 (V Hp HO Cx PE PT PW PA PS bK PG cJ VK TE TT TA TS TI TG Inv RelV Vals Rd aM aW upd af Key XK Ends aQ fD bp R2 EP)
section
variable{prog:Program}{w:World}{A:Around}{E:Value→Shared→Prop}{s:Shared}
theorem ug{it t:Addr}{items:Array Value}(hne:t≠it):∀(n i:Nat) (s:Shared) (Q:List Value→Shared→Prop),s.heap.IsListIter it t i→s.heap.IsList t items→i+n≤items.size→
   (∀h',h'.IsListIter it t (i+n)→Heap.SameBut it s.heap h'→Q ((items.toList.drop i).take n) {s with heap:=h'})→wpAny (model prog w) A (draw (.ref it) n) Q E s
 | 0,i,s,Q,hit,_,_,hQ=>by
   show wpAny _ _ (pure []) Q E s
   exact wpAny_pure (by simpa using hQ s.heap hit (Heap.SameBut.refl ..))
 | n+1,i,s,Q,hit,ht,hle,hQ=>by
   have hlt:i<items.size:=by omega
   show wpAny _ _ (pyNext (.ref it) >>= _) Q E s
   refine wpAny_bind (wpAny_pyNext_list_item hit ht (x:=items[i]) (by simp[hlt]) fun h₁ hit₁ hs₁=>?_)
   refine wpAny_bind (wpAny_holding (ug hne n (i+1) _ _ hit₁ (ht.extBut hs₁.extBut hne) (by omega) fun h₂ hit₂ hs₂=>wpAny_pure ?_))
   have hd:items.toList.drop i=items[i]::items.toList.drop (i+1):=by simp[List.drop_eq_getElem_cons,hlt]
   have:=hQ h₂ (by rw[show i+(n+1)=i+1+n by omega];exact hit₂) (hs₁.trans hs₂)
   rw[hd,List.take_succ_cons]at this
   exact this
theorem vR{t:Addr}{items:Array Value}{Q:List Value→Shared→Prop}(hh:A.handled=none)(ht:s.heap.IsList t items)
   (hQ:∀h',Heap.ExtBut s.heap.objs.size s.heap h'→Q items.toList {s with heap:=h'}):wpAny (model prog w) A (unpackItems (.ref t) items.size none) Q E s:=by
 have hlt:t≠s.heap.objs.size:=by obtain⟨o,ho,_⟩:=ht;exact Nat.ne_of_lt (Heap.lt_size ho)
 unfold unpackItems
 refine wpAny_bind ?_
 · unfold notIterableAtAll
   refine wpAny_bind (wpAny_specialOf ht.typeIs slot_list_iter.lookup ?_)
   refine wpAny_pure ?_
   simp only[Bool.false_eq_true,if_false]
   refine wpAny_bind (wpAny_holding (wpAny_pyIter_list ht ?_))
   refine wpAny_bind (wpAny_holding (ug hlt items.size 0 _ _ ⟨_,Heap.get?_push_size _ rfl,rfl,rfl⟩ (ht.push _) (by omega) fun h₁ hit₁ hs₁=>?_))
   have hall:List.take items.size (List.drop 0 items.toList)=items.toList:=by
     rw[List.drop_zero];exact List.take_of_length_le (by simp)
   rw[hall]
   rw[if_neg (by simp)]
   have ht₁:h₁.IsList t items:=(ht.push _).extBut hs₁.extBut hlt
   refine wpAny_bind (wpAny_holding (wpAny_pyNext_list_end hh hit₁ ht₁ (by simp) fun h₂ he₂=>?_))
   simp only[Option.isSome_none,Bool.false_eq_true,if_false]
   refine wpAny_pure (hQ h₂ fun b o hb e=>he₂ b o hb (hs₁.extBut b o hb (Heap.get?_push_of_some _ e)))
theorem zu{t:Addr}{items:Array Value}{targets:List (Bool×(Value→Sem Unit))}{Q:Unit→Shared→Prop}(hh:A.handled=none)(ht:s.heap.IsList t items)
   (hn:targets.length=items.size) (hstar:targets.findIdx? (·.1)=none)
   (h:∀h',Heap.ExtBut s.heap.objs.size s.heap h'→wpAny (model prog w) A (assignInOrder (targets.map (·.2)) items.toList) Q E {s with heap:=h'}):
   wpAny (model prog w) A (unpack (.ref t) targets) Q E s:=by
 unfold unpack
 rw[hn,hstar]
 exact wpAny_bind (wpAny_holding (vR hh ht h))
theorem AQ{env:Env}{elts:List Expr}{x1}{pos:Pos}{t:Addr}{items:Array Value}{Q:Unit→Shared→Prop}(hh:A.handled=none)(ht:s.heap.IsList t items)
   (hn:(assignEach elts env).length=items.size) (hstar:(assignEach elts env).findIdx? (·.1)=none)
   (h:∀h',Heap.ExtBut s.heap.objs.size s.heap h'→wpAny (model prog w) A (assignInOrder ((assignEach elts env).map (·.2)) items.toList) Q E {s with heap:=h'}):
   wpAny (model prog w) A (assign (.Tuple elts x1 pos) env (.ref t)) Q E s:=by
 rw[assign_Tuple]
 exact wpAny_bind (wpAny_standAt (zu hh ht hn hstar h))
end
noncomputable def kU(is:List Nat):bo:=fun d ρ=>match d with
 |.tup ds=>ck is ds ρ
 |.lst ds=>ck is ds ρ
 |_=>.bad
section
variable{X:Cx}{M:Md}{G H H':Hp}{F0 F F':Addr→Prop}{σ:L2.St}{ρ:En}{pos:Pos}{DE:Ends}
theorem BF{is:List Nat}{es:List Expr}{k:Nat}(hc:X.calm=true)(h:ji X es (ck is))(hn:(assignEach es X.env).length=is.length:=by rfl)(hst:(assignEach es X.env).findIdx? (·.1)=none:=by rfl):JG X (.Tuple es k pos) (kU is):=by
 intro F0 pins s σ H v u Q I rvu ⟨ρ,F,d,ρ',r,rv,e,q⟩
 cases d with
 |tup ds=>exact qZ hc h hn hst F0 pins s σ H v u Q I rvu ⟨ρ,F,.tup ds,ρ',r,rv,e,q⟩
 | lst ds=>
   simp only[Rep]at rv
   obtain⟨a,xs,rfl,h1,rs⟩:=rv
   cases rvu
   obtain⟨its,rw',⟨o,n,ho,hcl,hdi,hda⟩,hz⟩:=I.list h1.sq
   have hl:ds.length=is.length:=n5 e
   refine AQ (I.ok.hd hc) (items:=its.toArray) ⟨o,ho,hcl,n,hda⟩ (by rw[hn, ←hl,rs.length];simp[rw'.length]) hst fun h' hx=>?_
   have I1:Inv X pins σ H {s with heap:=h'}:=I.kept (t':=s.toks) fun b o e=>hx b o (Nat.ne_of_lt (Heap.lt_size e)) e
   exact h F0 pins _ σ H xs _ Q I1 (by simpa using rw') ⟨ρ,F,ds,ρ',r,rs,e,q⟩
 |_=>cases e
end
end PL
set_option maxHeartbeats 1000000
namespace PL
open PySem PySem.Spec
open L2 (V Hp HO Cx PE PT PW PA PS bK PG cJ VK TE TT TA TS TI TG Inv RelV Vals Rd aM aW upd af Key XK Ends aQ fD bp R2 EP It Turn cB Un)
section
variable{X:Cx}{M:Md}{G H H':Hp}{F0 F F':Addr→Prop}{σ:L2.St}{ρ:En}{pos:Pos}{pins:List (Addr×Obj)}{s:Shared}
end
noncomputable def kg:Ky→D
 |.inl i=>.int i
 |.inr x=>.str x
noncomputable def gP(P:Program)(w:World)(K:PySem.W.Frag)(H:Hp)(a:Addr)(ob:Obj)(kvs:List (Key×V)):Prop:=
 H a=some (.frz ob (.dK kvs))∨(K.lookup a=some ob∧∃(es:Array DictEntry) (ep:Nat) (vs:List (Key×Value)),ob.ExactDict∧ob.data=.dict es ep∧KeysOf (L2.bR P w) es∧Pairs (L2.bR P w) es.toList vs∧
   (vs.map (·.1)).Nodup∧L2.KV kvs vs∧kvs.length≤sizeLine∧(a==sysModules)=false)
theorem yK{M:Md}{H:Hp}{F:Addr→Prop}{a:Addr}{kvs:List (Key×V)}(h:fj M H F a kvs):∃ob,((¬F a∧H a=some (.frz ob (.dK kvs)))∨gP M.P M.w M.K (fun _=>none) a ob kvs)∧gP M.P M.w M.K H a ob kvs:=by
 rcases h with⟨n,ob,h⟩|⟨o,es,ep,vs,h1,h2,h3,h4,h5,h6,h7,h8,h9⟩
 ·exact⟨ob,.inl ⟨n,h⟩,.inl h⟩
 ·exact⟨o,.inr (.inr ⟨h1,es,ep,vs,h2,h3,h4,h5,h6,h7,h8,h9⟩),.inr ⟨h1,es,ep,vs,h2,h3,h4,h5,h6,h7,h8,h9⟩⟩
section
variable{X:Cx}{M:Md}{G H H':Hp}{F0 F F':Addr→Prop}{σ:L2.St}{ρ:En}{pos:Pos}{pins:List (Addr×Obj)}{s:Shared}
theorem nM{a:Addr}{ob:Obj}{kvs:List (Key×V)}(I:Inv X pins σ H s)(h:gP X.prog X.w X.K H a ob kvs):kvs.length≤sizeLine∧(a==sysModules)=false∧∃vs es ep,L2.KV kvs vs∧ob.data=.dict es ep∧s.heap.DictAt (L2.bR X.prog X.w) a vs ep:=by
 rcases h with h|⟨h1,es,ep,vs,h2,h3,h4,h5,h6,h7,h8,h9⟩
 · obtain⟨e0,z,y,vs,r,ob',es,ep,e1,c1,c2,c3,c4,c5⟩:=I.ao a _ h
   rw[e0]at e1
   cases e1
   exact⟨z,y,vs,es,ep,r,c2,ob,es,e0,c1,c2,c3,c4,c5⟩
 ·exact⟨h8,h9,vs,es,ep,h7,h3,ob,es,I.cK a ob h1,h2,h3,h4,h5,h6⟩
noncomputable def oh(P:Program)(w:World)(K:PySem.W.Frag)(a:Addr)(ob:Obj)(kvs:List (Key×V)):It:=
 ⟨fun i H=>gP P w K H a ob kvs∧i<kvs.length,fun i H x H'=>H'=H∧∃kv,kvs[i]? =some kv∧x=L2.kV kv.1,fun i H=>gP P w K H a ob kvs∧i=kvs.length⟩
theorem kG{kvs:List (Key×V)}{vs:List (Key×Value)}(h:L2.KV kvs vs):kvs.length=vs.length:=by
 unfold L2.KV at h
 induction h with
 |nil=>rfl
 |cons _ _ ih=>simp[ih]
theorem sv{kvs:List (Key×V)}{vs:List (Key×Value)}(h:L2.KV kvs vs):∀ {i:Nat} {p:Key×Value},vs[i]? =some p→∃q,kvs[i]? =some q∧q.1=p.1:=by
 unfold L2.KV at h
 induction h with
 |nil=>intro i p e;simp at e
 | cons hd _ ih=>
   intro i p e
   cases i with
   |zero=>simp at e;subst e;exact⟨_,rfl,hd.1⟩
   |succ i=>simpa using ih (i:=i) (by simpa using e)
theorem sS{k:Key}{u:Value}(h:L2.g7 k u=true):RelV (L2.kV k) u:=by
 rcases L2.fe h with⟨i,t,rfl,rfl⟩|⟨x,t,rfl,rfl⟩
 ·exact⟨t,rfl⟩
 ·exact⟨t,rfl⟩
theorem zT{P:Program}{w:World}{K:PySem.W.Frag}{tg:Expr}(a it:Addr)(ob:Obj)(es:Array DictEntry)(ep:Nat)(hda:ob.data=.dict es ep)(kvs:List (Key×V)):Turn P w K tg (oh P w K a ob kvs) [it] it (fun i h=>h.IsKeyIter it a i kvs.length ep) where
 mem:=by simp
 obj:=fun i h st b hb=>by
   have e:b=it:=by simpa using hb
   subst e
   obtain⟨o,e,c,d⟩:=st
   exact⟨o,e,fun v z=>by rw[d]at z;cases z⟩
 keep:=fun i h h' st k=>st.at fun o e=>k it (by simp) o e
 item:=by
   intro X hP hw hK hc i pins s σ H E I hf st hg
   subst hP hw hK
   obtain⟨dz,hi⟩:=hg
   obtain⟨hz,hs,vs,es',ep',rel,hda',dat⟩:=nM I dz
   rw[hda]at hda'
   cases hda'
   have hl:=kG rel
   have hx:vs[i]? =some vs[i]:=List.getElem?_eq_getElem (by omega)
   obtain⟨q,hq,eq⟩:=sv rel hx
   obtain⟨f0,f1,f2,f3,f4,f5⟩:=hf it (by simp)
   rw[hl]at st
   refine wpAny_pyNext_dict_item (k:=vs[i].1) (v:=vs[i].2) st dat hx fun key h' hkey st' sb=>?_
   have I1:Inv X pins σ H {s with heap:=h'}:=I.turned (t':=s.toks) (fun b o hb e=>(sb.2 b hb).trans e) f0 f1 f3 f4 f5
   obtain⟨o,e,c,d⟩:=id st'
   rw[←hl]at st'
   exact⟨key,rfl,L2.gY (s:={s with heap:=h'}) e c d (by decide) ⟨L2.kV q.1,H,I1,by rw[eq];exact sS hkey,⟨rfl,q,hq,rfl⟩,st',fun b hb=>(hf b hb).1⟩⟩
 done:=by
   intro X hP hw hK hc i pins s σ H E I hf st hg
   subst hP hw hK
   obtain⟨dz,hi⟩:=hg
   obtain⟨hz,hs,vs,es',ep',rel,hda',dat⟩:=nM I dz
   rw[hda]at hda'
   cases hda'
   have hl:=kG rel
   obtain⟨f0,f1,f2,f3,f4,f5⟩:=hf it (by simp)
   rw[hl]at st
   exact wpAny_pyNext_dict_end (I.ok.hd hc) st dat (List.getElem?_eq_none_iff.mpr (by omega)) fun h' eb=>⟨rfl,I.turned (t':=s.toks) (fun b o hb e=>eb b o hb e) f0 f1 f3 f4 f5⟩
 self:=fun _ _ _ _ _ st h=>wpAny_pyIter_keyiter st h
noncomputable def v9(P:Program)(w:World)(K:PySem.W.Frag)(tl:TE):TI:=fun σ H R=>tl σ H fun x H1=>∃a ob kvs,x=.ref a∧gP P w K H1 a ob kvs∧R (oh P w K a ob kvs) H1
theorem Cm{tg l:Expr}{tl:TE}(hl:PE X l tl):L2.PI X tg l (v9 X.prog X.w X.K tl):=by
 intro pins s σ H R I h
 refine L2.aE (hl pins s σ H _ I h) fun v s1 ⟨x,H1,I1,r1,q1⟩=>?_
 obtain⟨a,ob,kvs,e,dz,q⟩:=q1
 subst e
 cases r1
 obtain⟨hz,hs,vs,es,ep,rel,hda,dat⟩:=nM I1 dz
 have hlen:=kG rel
 refine wpAny_pyIter_dict hs dat ?_
 rw[←hlen]
 refine⟨s1.heap.objs.size,[s1.heap.objs.size],_,_,H1,rfl,I1.kept (t':=s1.toks) fun b o e=>Heap.get?_push_of_some _ e,zT a _ ob es ep hda kvs,⟨_,Heap.get?_push_size _ rfl,rfl,rfl⟩,fun b hb=>?_,q⟩
 have e:b=s1.heap.objs.size:=by simpa using hb
 subst e
 exact I1.jn (Nat.le_refl _) (I1.ao.fresh (Nat.le_refl _))
noncomputable def gF(a:Ex):bj:=fun ρ=>(a ρ).bind fun x=>match x with
 |.aD ks _=>.ok (ks.map kg)
 |_=>.bad
theorem xE{k:Ky}:Rep M H F (kg k) (L2.kV k):=by
 cases k with
 |inl i=>exact bW
 |inr x=>exact jQ
theorem wa{a:Addr}{ob:Obj}{ks:List Ky}{xs:List V}(hd:(¬F a∧H a=some (.frz ob (.dK (ks.zip xs))))∨gP M.P M.w M.K (fun _=>none) a ob (ks.zip xs))(hl:ks.length=xs.length):Gives M (oh M.P M.w M.K a ob (ks.zip xs)) H F (ks.map kg):=by
 intro H' F' mv tr
 have hzl:(ks.zip xs).length=ks.length:=by rw[List.length_zip];omega
 have dz:gP M.P M.w M.K H' a ob (ks.zip xs):=by
   rcases hd with⟨n,h⟩|h
   ·exact .inl (mv _ _ n h).2
   · rcases h with h|h
     ·cases h
     ·exact .inr h
 refine⟨fun i d hd'=>?_,?_⟩
 · obtain⟨hi,_⟩:=List.getElem?_eq_some_iff.mp hd'
   rw[List.length_map]at hi
   rw[List.getElem?_map,List.getElem?_eq_getElem hi]at hd'
   cases hd'
   refine⟨⟨dz,by omega⟩,fun y H2 hy=>?_⟩
   obtain⟨rfl,kv,hkv,rfl⟩:=hy
   obtain⟨hk,e⟩:=List.getElem?_eq_some_iff.mp hkv
   have:kv.1=ks[i]:=by rw[←e,List.getElem_zip]
   rw[this]
   exact⟨af.refl _,xE⟩
 ·exact⟨dz,by rw[List.length_map,hzl]⟩
theorem Aj{tg l:Expr}{fa:Ex}(ha:JE X l fa):JI X tg l (gF fa):=
 kH (Cm ha) fun σ H Q ⟨ρ,F,ds,r,e,q⟩=>by
   obtain⟨d,ed,e⟩:=ai.mp e
   cases d with
   | aD ks vs=>
     cases e
     refine⟨ρ,F,_,r,ed,fun v H1 s1 rv=>?_⟩
     simp only[Rep]at rv
     obtain⟨a,xs,rfl,h,hl,rs⟩:=rv
     obtain⟨ob,h1,h2⟩:=yK h
     exact⟨a,ob,_,rfl,h2,q _ H1 s1 (wa (M:=av X) h1 hl)⟩
   |_=>cases e
end
noncomputable def putL(k:Ky)(d:D)(ks:List Ky)(vs:List D):List Ky×List D:=if(ks.any fun a=>decide (a=k))=true then(ks,List.zipWith (fun a v=>if a=k then d else v) ks vs)else(ks++[k],vs++[d])
noncomputable def mF(i:Nat)(k e:Ex):Sm:=fun ρ=>(e ρ).bind fun d=>(k ρ).bind fun q=>match ρ[i]?,keyOf q with
 |some (.od ks vs),some y=>if ks.length<1000 then .ok (.next (ρ.set i (.od (putL y d ks vs).1 (putL y d ks vs).2)))else .bad
 |_,_=>.bad
section
variable{X:Cx}{M:Md}{G H H':Hp}{F0 F F':Addr→Prop}{σ:L2.St}{ρ:En}{pos:Pos}{pins:List (Addr×Obj)}{s:Shared}
theorem CY(i:Nat){x:Str}{p1 p2:Pos}(hN:X.N.Nodup)(hi:X.N[i]? =some x:=by rfl)(hx:L2.Loc X.env.scope x:=by exact Or.inl rfl)(hf:X.fn x=true∨X.env.scope.names.lookup x=some .local:=by first|exact .inl rfl|exact .inr rfl)
   (hs:swapsWith (.Dict [] [] p1) (some (.Name x p2)) pos.line X.env=pure false:=by rfl):JS X (.Assign [.Name x p2] (.Dict [] [] p1) pos) (oM i (o5 [] [])):=fun F0=>
 b9 (L2.mK hN hi hx L2.rR hs hf) fun D σ H ⟨ρ,F,fl,r,e,q⟩=>by
   obtain⟨d,ed,e⟩:=ai.mp e
   cases ed
   cases e
   intro p hp
   obtain⟨mv,r'⟩:=r.new (i:=i) (s:=.od [] []) hp (.inr ⟨[],[],[],rfl,rfl,rfl,ab.nil⟩)
   exact q _ _ _ mv r'
theorem nL{ks:List Ky}{xs:List V}(k:Ky)(v:V)(hl:ks.length=xs.length):
   L2.putK (ks.zip xs) k v=(if(ks.any fun a=>decide (a=k))=true then ks.zip (List.zipWith (fun a x=>if a=k then v else x) ks xs)else(ks++[k]).zip (xs++[v])):=by
 have hany:∀ {ks:List Ky} {xs:List V},ks.length=xs.length→((ks.zip xs).any fun kv=>decide (kv.1=k))=(ks.any fun a=>decide (a=k)):=by
   intro ks
   induction ks with
   |nil=>intro xs _;simp
   | cons a ks ih=>
     intro xs hl
     cases xs with
     |nil=>simp at hl
     |cons x xs=>rw[List.zip_cons_cons,List.any_cons,List.any_cons,ih (by simpa using hl)]
 unfold L2.putK
 rw[hany hl]
 by_cases h:(ks.any fun a=>decide (a=k))=true
 · rw[if_pos h,if_pos h]
   have e:∀ {ks:List Ky} {xs:List V},ks.length=xs.length→(ks.zip xs).map (fun kv=>if kv.1=k then(kv.1,v)else kv)=ks.zip (List.zipWith (fun a x=>if a=k then v else x) ks xs):=by
     intro ks
     induction ks with
     |nil=>intro xs _;simp
     | cons a ks ih=>
       intro xs hl
       cases xs with
       |nil=>simp at hl
       | cons x xs=>
         rw[List.zip_cons_cons,List.map_cons,ih (by simpa using hl),List.zipWith_cons_cons,List.zip_cons_cons]
         by_cases h:a=k
         ·simp[h]
         ·simp[h]
   exact e hl
 · rw[if_neg h,if_neg h,List.zip_append hl]
   rfl
theorem mV{k:Ky}{d:D}{v:V}(rd:Rep M H F d v):∀ {ks:List Ky} {ds:List D} {xs:List V},ab M H F ds xs→ab M H F (List.zipWith (fun a y=>if a=k then d else y) ks ds) (List.zipWith (fun a x=>if a=k then v else x) ks xs)
 |[],_,_,_=>by simpa using ab.nil
 | a::ks,[],xs,r=>by
   simp only[ab]at r;subst r
   simpa using ab.nil
 | a::ks,y::ds,xs,r=>by
   simp only[ab]at r
   obtain⟨x,xs',rfl,r1,r2⟩:=r
   rw[List.zipWith_cons_cons,List.zipWith_cons_cons]
   refine ab.cons ?_ (mV rd r2)
   by_cases h:a=k
   ·rw[if_pos h,if_pos h];exact rd
   ·rw[if_neg h,if_neg h];exact r1
theorem vB(i:Nat){x:Str}{e k:Expr}{f g:Ex}{p2 p3:Pos}(hu:X.A.units+64<cLine)(hk:JE X k g)(he:JE X e f)(hN:X.N[i]? =some x:=by rfl)(hv:L2.aZ X.env.scope x:=by first|exact Or.inl rfl|exact Or.inr (Or.inl rfl)|exact Or.inr (Or.inr rfl))(hd:(x==("__debug__":Str))=false:=by decide)
   (hcd:(x==("__classdict__":Str))=false:=by decide) (hs:swapsWith e (some (.Subscript (.Name x p2) k p3)) pos.line X.env=pure false:=by rfl):
   JS X (.Assign [.Subscript (.Name x p2) k p3] e pos) (mF i g f):=fun F0=>
 b9 (L2.qJ (by omega) (L2.pv i hN hv hd hcd) hk he hs) fun D σ H ⟨ρ,F,fl,r,e,q⟩=>by
   obtain⟨d,ed,e⟩:=ai.mp e
   obtain⟨y,ey,e⟩:=ai.mp e
   have ⟨ks,vs,z,q1,hk,e9⟩:∃ks vs z,ρ[i]? =some (.od ks vs)∧keyOf y=some z∧(if ks.length<1000 then R.ok (Fl.next (ρ.set i (.od (putL z d ks vs).1 (putL z d ks vs).2)))else .bad)=.ok fl:=by
     cases hq:ρ[i]? with
     |none=>rw[hq]at e;cases e
     | some s=>
       rw[hq]at e
       cases s with
       | od ks vs=>
         cases hz:keyOf y with
         |none=>rw[hz]at e;cases e
         |some z=>rw[hz]at e;exact⟨ks,vs,z,rfl,rfl,e⟩
       |_=>cases e
   by_cases hlt:ks.length<1000
   · rw[if_pos hlt]at e9
     cases e9
     have oi:aX ρ i:=.inr ⟨_,_,q1⟩
     obtain⟨a,xs,ea,fa,ha,hl,rs⟩:=r.rs.od i _ _ q1
     refine⟨ρ,F,d,r.rs,ed,fun v H1 s1 rv=>⟨_,ea,ρ,F,y,(r.same s1).rs,ey,fun w H2 s2 rw'=>?_⟩⟩
     have r2:=(r.same s1).same s2
     have ha2:=s2 _ _ (s1 _ _ ha)
     cases iN hk rw'
     have rv2:=rv.mv (M:=av X) (F':=F) (.same s2)
     have rs2:=rs.mv (M:=av X) (F':=F) (.same (s1.trans s2))
     have hzl:(ks.zip xs).length<sizeLine:=by
       have:(sizeLine:Nat)=16777216:=sizeLine_eq
       rw[List.length_zip];omega
     refine⟨a,_,rfl,L2.gM.k ha2 hzl,?_⟩
     rw[nL z v hl]
     unfold putL at q
     by_cases hm:(ks.any fun a=>decide (a=z))=true
     · rw[if_pos hm]at q ⊢
       obtain⟨mv,r'⟩:=r2.chg (s:=.od ks (List.zipWith (fun a y=>if a=z then d else y) ks vs)) oi ea (.inr ⟨_,_,_,rfl,rfl,by rw[List.length_zipWith];omega,mV rv2 rs2⟩)
       exact q _ _ _ (Mv.trans (.same (s1.trans s2)) mv) r'
     · rw[if_neg hm]at q ⊢
       obtain⟨mv,r'⟩:=r2.chg (s:=.od (ks++[z]) (vs++[d])) oi ea (.inr ⟨_,_,_,rfl,rfl,by rw[List.length_append,List.length_append,hl];rfl,rs2.append (ab.cons rv2 ab.nil)⟩)
       exact q _ _ _ (Mv.trans (.same (s1.trans s2)) mv) r'
   ·rw[if_neg hlt]at e9;cases e9
theorem yF:bp X (.builtin "len") (fun xs H Q=>∃p kvs,xs=[.ref p]∧Rd H p (.dK kvs)∧Q (.int kvs.length) H):=by
 intro pins s σ H xs us Q I r h
 obtain⟨p,kvs,rfl,hd,q⟩:=h
 obtain⟨u,rfl,ru⟩:=L2.vals1 r
 cases ru
 exact L2.B3 I hd fun t s' I'=>⟨.int _,H,I',⟨t,rfl⟩,q⟩
end
section
variable{X:Cx}{M:Md}{G H H':Hp}{F0 F F':Addr→Prop}{σ:L2.St}{ρ:En}{pos:Pos}{pins:List (Addr×Obj)}{s:Shared}
theorem y9{k:Key}{kvs:List (Key×V)}{vs:List (Key×Value)}(h:L2.KV kvs vs):(valueAt vs k).isSome=(L2.bO kvs k).isSome:=by
 have r:=L2.KV.val h k
 cases hv:L2.bO kvs k with
 |none=>rw[hv]at r;rw[L2.cT.none_of r];rfl
 |some v=>rw[hv]at r;obtain⟨u,hu,_⟩:=L2.cT.some_of r;rw[hu];rfl
end
section
variable{X:Cx}{M:Md}{G H H':Hp}{F0 F F':Addr→Prop}{σ:L2.St}{ρ:En}{pos:Pos}{pins:List (Addr×Obj)}{s:Shared}
theorem yT{P:Nat→Value→Prop}{xs:List V}:∀ {l:List Value},l.length=xs.length→(∀(j:Nat) v,l[j]? =some v→∃x,xs[j]? =some x∧RelV x v)→Vals xs l:=by
 intro l
 induction l generalizing xs with
 | nil=>intro hl _;cases xs with
   |nil=>exact .nil
   |cons _ _=>cases hl
 | cons v l ih=>
   intro hl h
   cases xs with
   |nil=>cases hl
   | cons x xs=>
     obtain⟨y,e,r⟩:=h 0 v rfl
     cases e
     exact .cons r (ih (by simpa using hl) fun j w hw=>by simpa using h (j+1) w (by simpa using hw))
end
section
variable{X:Cx}{M:Md}{G H H':Hp}{F0 F F':Addr→Prop}{σ:L2.St}{ρ:En}{pos:Pos}{pins:List (Addr×Obj)}{s:Shared}
end
section
variable{X:Cx}{M:Md}{G H H':Hp}{F0 F F':Addr→Prop}{σ:L2.St}{ρ:En}{pos:Pos}{pins:List (Addr×Obj)}{s:Shared}
end
theorem xN:bootBuiltins "sorted"=some (.builtin "sorted"):=by decide+kernel
section
variable{X:Cx}{M:Md}{G H H':Hp}{F0 F F':Addr→Prop}{σ:L2.St}{ρ:En}{pos:Pos}{pins:List (Addr×Obj)}{s:Shared}
end
section
variable{X:Cx}{M:Md}{G H H':Hp}{F0 F F':Addr→Prop}{σ:L2.St}{ρ:En}{pos:Pos}{pins:List (Addr×Obj)}{s:Shared}
end
noncomputable def eV(i j c:Int):List D:=(List.range (Builtin.Range.rangeSize i j c).toNat).map fun(k:Nat)=>.int (i+(k:Int)*c)
noncomputable def lZ(a b c:Ex):bj:=fun ρ=>(a ρ).bind fun x=>(b ρ).bind fun y=>(c ρ).bind fun z=>match x,y,z with
 |.int i,.int j,.int k=>if(inR i&&inR j)=true∧0<k∧k<1000 then .ok (eV i j k)else .bad
 |_,_,_=>.bad
section
variable{X:Cx}{M:Md}{G H H':Hp}{F0 F F':Addr→Prop}{σ:L2.St}{ρ:En}{pos:Pos}{pins:List (Addr×Obj)}{s:Shared}
theorem ab.dropLast:∀ {ds:List D} {xs:List V},ab M H F ds xs→ab M H F ds.dropLast xs.dropLast
 |[],_,h=>by simp only[ab]at h;subst h;exact ab.nil
 | [d],_,h=>by
   simp only[ab]at h
   obtain⟨x,r,rfl,_,rfl⟩:=h
   exact ab.nil
 | d::d2::ds,_,h=>by
   have h0:=h
   simp only[ab]at h
   obtain⟨x,r,rfl,h1,x2,r2,rfl,h3⟩:=h
   show ab M H F (d::(d2::ds).dropLast) (x::(x2::r2).dropLast)
   exact ab.cons h1 (ab.dropLast (ab.cons h3.1 h3.2))
noncomputable def nK(M:Md)(G:Hp)(F0:Addr→Prop)(H:Hp)(F:Addr→Prop)(i:Nat)(v:Option (Option V))(D:Ends):Fl→Prop
 |.next ρ'=>∀σ' H' F',Mv F H F' H'→aN M G F0 H' F' σ' ρ'→σ'[i]? =v→D.nx σ' H'
 |.brk ρ'=>∀σ' H' F',Mv F H F' H'→aN M G F0 H' F' σ' ρ'→σ'[i]? =v→D.bk σ' H'
 |.cont ρ'=>∀σ' H' F',Mv F H F' H'→aN M G F0 H' F' σ' ρ'→σ'[i]? =v→D.ct σ' H'
 |.ret d=>∀v H' F',Mv F H F' H'→af G H'→(∀a,F0 a→F' a)→Rep M H' F' d v→D.rt v H'
 |.cX _=>False
theorem nK.mv{i:Nat}{v:Option (Option V)}{DE:Ends}(m:Mv F H F' H'):∀ {fl:Fl},nK M G F0 H F i v DE fl→nK M G F0 H' F' i v DE fl
 |.next _,h=>fun σ' H2 F2 m2 r=>h σ' H2 F2 (m.trans m2) r
 |.brk _,h=>fun σ' H2 F2 m2 r=>h σ' H2 F2 (m.trans m2) r
 |.cont _,h=>fun σ' H2 F2 m2 r=>h σ' H2 F2 (m.trans m2) r
 |.ret _,h=>fun σ' H2 F2 m2 a b r=>h σ' H2 F2 (m.trans m2) a b r
 |.cX _,h=>h
noncomputable def ya(lo c:Int)(n:Nat):It:=⟨fun i _=>i<n,fun i H x H'=>H'=H∧x=.int (lo+i*c),fun i _=>n≤i⟩
theorem wY{P:Program}{w:World}{K:PySem.W.Frag}{tg:Expr}(it:Addr)(lo c:Int)(n:Nat):Turn P w K tg (ya lo c n) [it] it (fun i h=>IsRangeIter h it (lo+(i:Nat)*c) ((n:Int) - (i:Nat)) c) where
 mem:=by simp
 obj:=fun i h st b hb=>by
   have e:b=it:=by simpa using hb
   subst e
   exact⟨_,st,fun v z=>by
     have z':Data.fields _=Data.cell v:=z
     cases z'⟩
 keep:=fun i h h' st k=>k it (by simp) _ st
 item:=by
   intro X hP hw hK hc i pins s σ H E I hf st hg
   subst hP hw hK
   obtain⟨f0,f1,f2,f3,f4,f5⟩:=hf it (by simp)
   have W:=Walks.range (prog:=X.prog) (w:=X.w) (I.ok.hd hc) it lo c n
   refine W.item i s _ _ hg st fun v h' tk hv st' kk=>?_
   obtain⟨t,rfl⟩:=hv
   have I1:Inv X pins σ H {s with heap:=h',toks:=tk}:=I.turned (fun b o hb e=>kk b o (by simpa using hb) e) f0 f1 f3 f4 f5
   exact⟨_,rfl,L2.gY (s:={s with heap:=h',toks:=tk}) (n:="range_iterator") st' rfl rfl (by decide) ⟨.int (lo+i*c),H,I1,⟨t,rfl⟩,⟨rfl,rfl⟩,st',fun b hb=>(hf b hb).1⟩⟩
 done:=by
   intro X hP hw hK hc i pins s σ H E I hf st hg
   subst hP hw hK
   obtain⟨f0,f1,f2,f3,f4,f5⟩:=hf it (by simp)
   exact wpAny_pyNext_range_end (I.ok.hd hc) st (by have:n≤i:=hg;omega) fun h' eb=>⟨rfl,I.turned (t':=s.toks) (fun b o hb e=>eb b o hb e) f0 f1 f3 f4 f5⟩
 self:=fun _ _ _ _ _ st h=>wpAny_pyIter_rangeiter st h
theorem Av{i j c:Int}(hc:0<c):0≤Builtin.Range.rangeSize i j c∧Builtin.Range.rangeSize i j c≤max (j - i) 0:=by
 unfold Builtin.Range.rangeSize
 rw[if_pos hc]
 split
 · have h0:0≤(j - i - 1) / c:=Int.ediv_nonneg (by omega) (by omega)
   have h1:(j - i - 1) / c≤j - i - 1:=Int.ediv_le_self _ (by omega)
   omega
 ·omega
theorem zS{tg a b c:Expr}{fa fb fc:Ex}{p:Pos}(hg:L2.Gl X "range")(hm:X.mg "range"=none)(ha:JE X a fa)(hb:JE X b fb)(hc:JE X c fc)(hs:starEach [a,b,c] X.env=(false,eval a X.env)::starEach [b,c] X.env)(hs2:starEach [b,c] X.env=(false,eval b X.env)::starEach [c] X.env)(hs3:starEach [c] X.env=(false,eval c X.env)::starEach [] X.env):
   JI X tg (.Call (.Name "range" p) [a,b,c] [] pos) (lZ fa fb fc):=by
 intro pins s σ H Rr I ⟨ρ,F,ds,r,e,q⟩
 obtain⟨d,ed,e⟩:=ai.mp e
 obtain⟨d2,ed2,e⟩:=ai.mp e
 obtain⟨d3,ed3,e⟩:=ai.mp e
 refine PyProof.Rows.Call_ (L2.fS I hg hm PyProof.Rows.boot_range (PyProof.Rows.callWith_type1 (L2.aE ((cL ha (cL hb (cL hc dM hs3) hs2) hs) pos pins s σ H _ I ⟨ρ,F,[d,d2,d3],r,by show(fa ρ).bind _=_;rw[ed];show((fb ρ).bind _).bind _=_;rw[ed2];show(((fc ρ).bind _).bind _).bind _=_;rw[ed3];rfl,fun vs H1 s1 rv=>(⟨s1,rv⟩:af H H1∧ab (av X) H1 F [d,d2,d3] vs)⟩) fun us s1 ⟨vs,H1,I1,r1,sm1,rv⟩=>?_) hs (by rw[hs2,hs3];rfl)))
 have⟨i,j,k,d1',d2',d3',hj,e9⟩:∃i j k,d=.int i∧d2=.int j∧d3=.int k∧((inR i&&inR j)=true∧0<k∧k<1000)∧ds=eV i j k:=by
   split at e
   · split at e
     ·rename_i h;cases e;exact⟨_,_,_,rfl,rfl,rfl,h,rfl⟩
     ·cases e
   ·cases e
 subst d1' d2' d3' e9
 obtain⟨hj,hk0,hk1⟩:=hj
 rw[Bool.and_eq_true]at hj
 have h1:=lg hj.1
 have h2:=lg hj.2
 simp only[ab]at rv
 obtain⟨x,_,rfl,rx,y,_,rfl,ry,z,_,rfl,rz,rfl⟩:=rv
 cases aT rx
 cases aT ry
 cases aT rz
 cases r1 with
 |cons q1 r1=>
 cases r1 with
 |cons q2 r1=>
 cases r1 with
 |cons q3 r1=>
 cases r1
 obtain⟨t,rfl⟩:=q1
 obtain⟨t2,rfl⟩:=q2
 obtain⟨t3,rfl⟩:=q3
 obtain⟨z1,z2⟩:=Av (i:=i) (j:=j) hk0
 refine call_range_3 (by omega) ?_ (Or.inl (PyProof.noPylong_small (by omega)))
 have hsmall:Builtin.Range.small i j k=true:=by
   unfold Builtin.Range.small
   simp only[Builtin.Range.rangeFitsLong,Bool.and_eq_true,Bool.or_eq_true,decide_eq_true_eq,beq_iff_eq,if_pos (show k>0 from hk0)]
   omega
 refine wpAny_pyIter_range (IsRange.new ..) hsmall ?_
 have I2:Inv X pins σ H1 {s1 with heap:=s1.heap.push {cls:=.type "range",data:=.fields #[.int i t,.int j t2,.int k t3]},toks:=s1.toks}:=I1.kept fun b o e=>Heap.get?_push_of_some _ e
 refine⟨(s1.heap.push {cls:=.type "range",data:=.fields #[.int i t,.int j t2,.int k t3]}).objs.size,[(s1.heap.push {cls:=.type "range",data:=.fields #[.int i t,.int j t2,.int k t3]}).objs.size],_,_,H1,rfl,
   I2.kept (t':=s1.toks) fun b o e=>Heap.get?_push_of_some _ e,wY _ i k (Builtin.Range.rangeSize i j k).toNat,?_,fun b hb=>?_,q _ _ sm1 ?_⟩
 · have e1:i+((0:Nat):Int)*k=i:=by simp
   have e2:(((Builtin.Range.rangeSize i j k).toNat:Nat):Int) - ((0:Nat):Int)=Builtin.Range.rangeSize i j k:=by omega
   show IsRangeIter _ _ (i+((0:Nat):Int)*k) ((((Builtin.Range.rangeSize i j k).toNat:Nat):Int) - ((0:Nat):Int)) k
   rw[e1,e2]
   exact Heap.get?_push_size _ rfl
 · have e:b=(s1.heap.push {cls:=.type "range",data:=.fields #[.int i t,.int j t2,.int k t3]}).objs.size:=by simpa using hb
   subst e
   exact I2.jn (Nat.le_refl _) (I2.ao.fresh (Nat.le_refl _))
 · intro H' F' mv tr
   refine⟨fun n d hd=>?_,?_⟩
   · unfold eV at hd
     rw[List.getElem?_map]at hd
     cases e:(List.range (Builtin.Range.rangeSize i j k).toNat)[n]? with
     |none=>rw[e]at hd;cases hd
     | some m=>
       rw[e]at hd
       obtain⟨hlt,hm⟩:=List.getElem?_eq_some_iff.mp e
       simp at hm hlt hd
       subst hm hd
       refine⟨show n<(Builtin.Range.rangeSize i j k).toNat by omega,fun y H2 hy=>?_⟩
       obtain⟨rfl,rfl⟩:=hy
       exact⟨af.refl _,bW⟩
   · show(Builtin.Range.rangeSize i j k).toNat≤(eV i j k).length
     unfold eV;simp
end
end PL
namespace PySem
theorem wX:typeLookup (.type "list") "keys"=pure none:=am_miss_of_fast (by decide+kernel)
theorem uu{prog:Program}{w:World}{A:Around}{E:Value→Shared→Prop}{s:Shared}{a:Addr}{o:Obj}{xs:Array Value}{k:Nat}{Q:Option Value→Shared→Prop}
   (hx:s.heap.get? a=some o) (hc:o.cls=.type "list") (hdat:o.data=.seq xs k) (hd:o.dict=none) (hA:A.handled=none)
   (h:∀h' tk,(∀b ob,s.heap.get? b=some ob→h'.get? b=some ob)→Q none {s with heap:=h',toks:=tk}):
   wpAny (model prog w) A (getAttr? (.ref a) "keys") Q E s:=by
 obtain⟨c,aD,dat,sl⟩:=o
 simp only at hc hdat hd
 subst hc hdat hd
 obtain⟨hp,g,d,tk,os⟩:=s
 have hT:∀tk',(⟨hp,g,d,tk',os⟩:Shared).TypeIs (.ref a) "list":=fun _=>⟨_,hx,rfl⟩
 have f1:=sub_AttributeError
 have f3:=F.slot_list_getattribute.lookup
 have f4:=F.slot_list_getattribute.bind (.ref a)
 have f5:=am_list_getattr_none
 unfold getAttr? getAttrBy? getAttrBy
 repeat (any_goals (first|assumption|exact hT _|((with_reducible show wpAny _ _ (call (Value.builtin "list.__getattribute__") _ _) _ _ _);refine call_meets F.slot_list_getattribute (hT _) am_entry_list_getattribute (F.args_list_getattribute_2 _ _) (meets_getattribute_miss_list a xs k sl "keys" _ wX (by decide+kernel) (by size_fits)) ⟨hx,hA,fun h' tk' e hx'=>?_⟩)|wp_step))
 obtain⟨t',u',he⟩:=hx'.there
 show wpAny _ _ (getattributeRaised _ _ _ _ _ _ _) _ _ _
 unfold getattributeRaised
 repeat (any_goals (first|assumption|wp_step))
 exact h _ _ hx'.keeps
theorem ml:plainId "dict.update.loop"=true:=by decide+kernel
theorem rn:entryFor table "dict.update.loop"=some Builtin.«dict.update.loop»:=entryFor_of_tree (by kernel_rfl)
section
variable{prog:Program}{w:World}{A:Around}{R:Result→Shared→Prop}{I ax:Addr}
noncomputable def n6{K:Type} [DecidableEq K] (knd:KeyKind prog w K) (h:Heap) (v:Value) (p:K×Value):Prop:=∃a key,v=.ref a∧PyProof.Rows.IsTup h a #[key,p.2]∧knd.is p.1 key=true
theorem uF{K:Type} [DecidableEq K] {knd:KeyKind prog w K} (hh:A.in1.handled=none) {d:Addr} {items:Array Value} {res:Value} (hne:ax≠I) (hdI:d≠I) (hdx:d≠ax):∀(more:List (K×Value)) (i:Nat) (z:Int) (kvs:List (K×Value)) (s:Shared),items.size - i=more.length→i≤items.size→
   s.heap.IsListIter I ax i→s.heap.IsList ax items→s.heap.DictOf knd d kvs→kvs.length+more.length≤sizeLine→(∀(j:Nat) p,more[j]? =some p→∃v,items[i+j]? =some v∧n6 knd s.heap v p)→
   (∀h' tk,(∀b o,b≠I→b≠d→s.heap.get? b=some o→h'.get? b=some o)→h'.DictOf knd d (merged kvs more)→R (.ok (.ret res)) {s with heap:=h',toks:=tk})→
   codeAny (model prog w) A (.builtin "dict.update.loop" ⟨[.ref d,.ref I,rawInt z,res],[]⟩) R s:=by
 intro more
 induction more with
 | nil=>
   intro i z kvs s hk hi hit hl hd hsz hp hR
   have hin:i=items.size:=by simp at hk;omega
   subst hin
   refine codeAny_builtin rn ?_
   rw[Around.under_plainId ml _]
   show wpAny _ A.in1 (pyNext (.ref I) >>= _) _ _ s
   refine wpAny_bind (wpAny_pyNext_list_end hh hit hl (by simp) fun h' he'=>?_)
   show wpAny _ _ (Builtin.Dict.addKeywords d [] >>= _) _ _ _
   refine wpAny_bind (wpAny_pure (wpAny_pure ?_))
   exact hR h' s.toks (fun b o hb _ e=>he' b o hb e) (hd.extBut he' hdI)
 | cons p more ih=>
   intro i z kvs s hk hi hit hl hd hsz hp hR
   obtain⟨v,hv,hpv⟩:=hp 0 p rfl
   rw[Nat.add_zero]at hv
   obtain⟨a,key,rfl,hta,hkey⟩:=hpv
   refine codeAny_builtin rn ?_
   rw[Around.under_plainId ml _]
   show wpAny _ A.in1 (pyNext (.ref I) >>= _) _ _ s
   refine wpAny_bind (wpAny_pyNext_list_item hit hl hv fun h' hit' hs'=>?_)
   refine wpAny_bind (wpAny_holding ?_)
   have hd':h'.DictOf knd d kvs:=hd.extBut hs'.extBut hdI
   have hl':h'.IsList ax items:=hl.extBut hs'.extBut hne
   have kW:∀ {b xs},PyProof.Rows.IsTup s.heap b xs→b≠I∧b≠d:=fun {b xs} ht=>by
     obtain⟨o,ho,hc,_⟩:=ht
     refine⟨fun e=>?_,fun e=>?_⟩
     · obtain⟨o2,ho2,hc2,_⟩:=hit
       rw[←e,ho]at ho2
       cases ho2
       rw[hc]at hc2
       exact absurd hc2 (by decide)
     · obtain⟨o2,_,_,ho2,hc2,_⟩:=hd
       rw[←e,ho]at ho2
       cases ho2
       exact absurd (hc.symm.trans hc2.1) (by decide)
   have hta':PyProof.Rows.IsTup h' a #[key,p.2]:=hta.extBut hs'.extBut (kW hta).1
   obtain⟨o,ho,hc,n,hda⟩:=id hta'
   refine wpAny_bind (wpAny_tryCatch ?_)
   unfold Builtin.Dict.pairItems
   refine wpAny_bind (wpAny_typeOf (show Shared.TypeIs {s with heap:=h'} (.ref a) "tuple" from⟨o,ho,hc⟩) ?_)
   rw[if_pos (by decide)]
   refine wpAny_bind (wpAny_seqItems ho hda (wpAny_pure ?_))
   show wpAny _ _ (holding [key,p.2] (dictSet d key p.2)) _ _ _
   refine wpAny_holding (wpAny_dictSet_pairs hkey hd' (fun h'' hd'' hs''=>?_) (by rw[List.length_cons]at hsz;omega))
   refine wpAny_pure ⟨plainId_quiet ml _,ih (i+1) (z+1) (stored kvs p.1 p.2) _ (by simp at hk ⊢;omega) (by simp at hk;omega) (hit'.extBut hs''.extBut (Ne.symm hdI)) (hl'.extBut hs''.extBut (Ne.symm hdx)) hd'' ?_ (fun j q hq=>?_) fun h3 tk3 k3 d3=>?_⟩
   · have:=stored_length_le kvs p.1 p.2
     rw[List.length_cons]at hsz
     omega
   · obtain⟨v2,hv2,b,key2,rfl,ht2,hk2⟩:=hp (j+1) q (by simpa using hq)
     refine⟨_,by rw[show i+1+j=i+(j+1) by omega];exact hv2,b,key2,rfl,?_,hk2⟩
     exact(ht2.extBut hs'.extBut (kW ht2).1).extBut hs''.extBut (kW ht2).2
   · refine hR h3 tk3 (fun b o hb hbd e=>k3 b o hb hbd ?_) d3
     rw[hs''.2 b hbd,hs'.2 b hb];exact e
theorem B2{E:Value→Shared→Prop}{s:Shared}{K:Type} [DecidableEq K] {knd:KeyKind prog w K} {a:Addr} {o:Obj} {items:Array Value} {n:Nat} {more:List (K×Value)} {Q:Value→Shared→Prop} (hh:A.handled=none)
   (hx:s.heap.get? a=some o) (hc:o.cls=.type "list") (hdat:o.data=.seq items n) (hdi:o.dict=none) (hlen:items.size=more.length) (hsz:more.length≤sizeLine) (hp:∀(j:Nat) p,more[j]? =some p→∃v,items[j]? =some v∧n6 knd s.heap v p)
   (h:∀h' tk,(∀b ob,s.heap.get? b=some ob→h'.get? b=some ob)→h'.DictOf knd s.heap.objs.size (merged [] more)→Q (.ref s.heap.objs.size) {s with heap:=h',toks:=tk}):
   wpAny (model prog w) A (call (.type "dict") [.ref a]) Q E s:=by
 refine callType_codes (Q₁:=fun obj s₁=>obj=.ref s.heap.objs.size∧s₁={s with heap:=s.heap.push {cls:=.type "dict",data:=.dict #[]} }) F.kt_called_dict (F.kt_typeCall_dict_1 _) F.entry_dict_init (kt_code_dict_new _ ⟨rfl,rfl⟩) ?_
 rintro obj s₁ ⟨rfl,rfl⟩
 have hnew:(s.heap.push {cls:=.type "dict",data:=.dict #[]}).DictOf knd s.heap.objs.size []:=Heap.DictOf.new s.heap
 have hx':(s.heap.push {cls:=.type "dict",data:=.dict #[]}).get? a=some o:=Heap.get?_push_of_some _ hx
 have hlt:a<s.heap.objs.size:=Heap.lt_size hx
 have hTl:Shared.TypeIs {s with heap:=s.heap.push {cls:=.type "dict",data:=.dict #[]} } (.ref a) "list":=⟨o,hx',hc⟩
 refine⟨hnew.typeIs,F.args_dict_init_2 _ _,?_⟩
 unfold Builtin.«dict.__init__»
 refine wpAny_bind ?_
 unfold Builtin.Dict.selfAndRest
 refine wpAny_bind (wpAny_notOrdered_dict hnew.typeIs ?_)
 show wpAny _ _ (pure (s.heap.objs.size,[Value.ref a])) _ _ _
 refine wpAny_pure ?_
 show wpAny _ _ (Builtin.Dict.updateFrom "dict.__init__" s.heap.objs.size (.ref a) [] .none) _ _ _
 unfold Builtin.Dict.updateFrom
 refine wpAny_bind (wpAny_typeOf hTl ?_)
 rw[if_pos (by decide)]
 refine wpAny_bind (uu hx' hc hdat hdi hh fun h1 tk1 k1=>?_)
 show wpAny _ _ (rule "dict.__init__.from-pairs" >>= _) _ _ _
 refine wpAny_bind (wpAny_rule ?_)
 have hl1:h1.IsList a items:=⟨o,k1 _ _ hx',hc,n,hdat⟩
 refine wpAny_bind (wpAny_pyIter_list hl1 ?_)
 have hsz1:s.heap.objs.size<h1.objs.size:=by
   obtain⟨o',_,_,ho',_⟩:=hnew
   exact Heap.lt_size (k1 _ _ ho')
 refine wpAny_pure ⟨plainId_quiet ml _,?_⟩
 refine uF (knd:=knd) (prog:=prog) (w:=w) (A:=A.in1) (I:=h1.objs.size) (ax:=a) hh (Nat.ne_of_lt (Nat.lt_trans hlt hsz1)) (Nat.ne_of_lt hsz1) (Nat.ne_of_gt hlt) more 0 0 [] _ (by simpa using hlen) (Nat.zero_le _) ?_ ?_ ?_ (by simpa using hsz) (fun j p hj=>?_) fun h2 tk2 k2 d2=>?_
 ·exact⟨_,Heap.get?_push_size _ rfl,rfl,rfl⟩
 ·exact hl1.push _
 · obtain⟨o',es,ep,ho',r⟩:=hnew
   exact⟨o',es,ep,Heap.get?_push_of_some _ (k1 _ _ ho'),r⟩
 · obtain⟨v,hv,b,key,rfl,ht,hk⟩:=hp j p hj
   exact⟨_,by rw[Nat.zero_add];exact hv,b,key,rfl,((ht.push _).keeps k1).push _,hk⟩
 · refine⟨rfl,h h2 tk2 (fun b ob hb=>?_) d2⟩
   have hbl:b<s.heap.objs.size:=Heap.lt_size hb
   exact k2 b ob (Nat.ne_of_lt (Nat.lt_trans hbl hsz1)) (Nat.ne_of_lt hbl) (Heap.get?_push_of_some _ (k1 _ _ (Heap.get?_push_of_some _ hb)))
end
end PySem
namespace PL
open PySem PySem.Spec
open L2 (V Hp HO Cx PE PT PW PA PS bK PG cJ VK TE TT TA TS TI TG Inv RelV Vals Rd aM aW upd af Key XK Ends aQ fD bp R2 EP It Turn cB Un)
noncomputable def eO:List D→List Ky→List D→R D
 |[],ks,vs=>.ok (.aD ks vs)
 | .tup [k,v]::r,ks,vs=>match keyOf k with
   |some q=>eO r (putL q v ks vs).1 (putL q v ks vs).2
   |none=>.bad
 |_,_,_=>.bad
noncomputable def gH:D→R D
 |.lst ds=>if ds.length≤1000 then eO ds [] []else .bad
 |_=>.bad
section
variable{X:Cx}{M:Md}{G H H':Hp}{F0 F F':Addr→Prop}{σ:L2.St}{ρ:En}{pos:Pos}{pins:List (Addr×Obj)}{s:Shared}
theorem C2{k:Ky}{d:D}{v:V}{ks:List Ky}{vs:List D}{xs:List V}(hl:ks.length=xs.length)(rs:ab M H F vs xs)(rd:Rep M H F d v):
   ∃ys,L2.putK (ks.zip xs) k v=(putL k d ks vs).1.zip ys∧(putL k d ks vs).1.length=ys.length∧ab M H F (putL k d ks vs).2 ys:=by
 rw[nL k v hl]
 unfold putL
 by_cases hm:(ks.any fun a=>decide (a=k))=true
 · rw[if_pos hm,if_pos hm]
   exact⟨_,rfl,by rw[List.length_zipWith];show ks.length=min ks.length xs.length;omega,mV rd rs⟩
 · rw[if_neg hm,if_neg hm]
   exact⟨_,rfl,by rw[List.length_append,List.length_append,hl];rfl,rs.append (ab.cons rd ab.nil)⟩
noncomputable def lR(M:Md)(H:Hp)(F:Addr→Prop):List V→List (Key×V)→Prop
 |[],[]=>True
 |x::xs,p::ps=>(∃a,x=.ref a∧eM M H F a [L2.kV p.1,p.2])∧lR M H F xs ps
 |_,_=>False
theorem qk:∀ {ds:List D} {ks:List Ky} {vs:List D} {d:D} {ps:List V} {xs:List V},eO ds ks vs=.ok d→ab M H F ds ps→ks.length=xs.length→ab M H F vs xs→
   ∃more ks' vs' ys,lR M H F ps more∧more.length=ds.length∧d=.aD ks' vs'∧L2.fM (ks.zip xs) more=ks'.zip ys∧ks'.length=ys.length∧ab M H F vs' ys
 | [],ks,vs,d,ps,xs,e,r,hl,rs=>by
   simp only[ab]at r;subst r
   cases e
   exact⟨[],ks,vs,xs,True.intro,rfl,rfl,rfl,hl,rs⟩
 | c::ds,ks,vs,d,ps,xs,e,r,hl,rs=>by
   have⟨k,v,q,ec,ek,e9⟩:∃k v q,c=.tup [k,v]∧keyOf k=some q∧eO ds (putL q v ks vs).1 (putL q v ks vs).2=.ok d:=by
     unfold eO at e
     split at e
     ·rename_i h;cases h
     · rename_i h
       cases h
       split at e
       ·rename_i hq;exact⟨_,_,_,rfl,hq,e⟩
       ·cases e
     ·cases e
   subst ec
   simp only[ab]at r
   obtain⟨x,ps,rfl,rx,rp⟩:=r
   simp only[Rep]at rx
   obtain⟨a,zs,rfl,ht,rz⟩:=rx
   obtain⟨y1,y2,rfl,r1,r2⟩:=rz.two
   cases iN ek r1
   obtain⟨ys,e1,l1,rs1⟩:=C2 (k:=q) hl rs r2
   obtain⟨more,ks',vs',ys',h1,h2,h3,h4,h5,h6⟩:=qk e9 rp l1 rs1
   refine⟨(q,y2)::more,ks',vs',ys',⟨⟨a,rfl,ht⟩,h1⟩,by simp[h2],h3,?_,h5,h6⟩
   show L2.fM (L2.putK (ks.zip xs) q y2) more=_
   rw[e1];exact h4
theorem rm(I:Inv X pins σ H s):∀ {ps:List V} {more:List (Key×V)} {its:List Value},lR (av X) H F ps more→Vals ps its→∃ms:List (Key×Value),L2.KV more ms∧ms.length=its.length∧∀(j:Nat) p,ms[j]? =some p→∃v,its[j]? =some v∧n6 (L2.bR X.prog X.w) s.heap v p
 |[],[],its,_,hv=>by cases hv;exact⟨[],.nil,rfl,fun j p h=>by simp at h⟩
 | x::ps,p::more,its,h,hv=>by
   obtain⟨⟨a,rfl,ht⟩,h⟩:=h
   cases hv with
   | cons rv hv=>
     cases rv
     obtain⟨ms,k1,k2,k3⟩:=rm I h hv
     obtain⟨ts,tv,tt,_⟩:=kM I ht
     obtain⟨u1,u2,rfl,ru1,ru2⟩:=L2.vals2 tv
     refine⟨(p.1,u2)::ms,.cons ⟨rfl,ru2⟩ k1,by simp[k2],fun j q hq=>?_⟩
     cases j with
     |zero=>cases hq;exact⟨_,rfl,a,u1,rfl,tt,L2.jd ru1⟩
     |succ j=>exact k3 j q hq
 |[],_::_,_,h,_=>h.elim
 |_::_,[],_,h,_=>h.elim
noncomputable def Cv(M:Md):List V→Hp→VK→Prop:=fun xs H Q=>∃F l ps more,xs=[.ref l]∧eI M H F l ps∧lR M H F ps more∧more.length≤1000∧∀p,H p=none→Q (.ref p) (upd H p (.dK (L2.fM [] more)))
theorem Cw(hc:X.calm=true):bp X (.type "dict") (Cv (av X)):=by
 intro pins s σ H xs us Q I r h
 obtain⟨F,l,ps,more,rfl,hl,hp,hz,q⟩:=h
 obtain⟨u,rfl,ru⟩:=L2.vals1 r
 cases ru
 obtain⟨its,n,sl,hv,hg,_⟩:=jy I hl
 obtain⟨ms,k1,k2,k3⟩:=rm I hp hv
 have hlen:=k1.length
 have h3:(sizeLine:Nat)=16777216:=sizeLine_eq
 refine B2 (knd:=L2.bR X.prog X.w) (more:=ms) (I.ok.hd hc) hg rfl rfl rfl (by rw[List.size_toArray];exact k2.symm) (by omega) (fun j p hj=>by rw[List.getElem?_toArray];exact k3 j p hj) fun h' tk hk dd=>?_
 have hm:(L2.fM [] more).length≤sizeLine:=by
   have:=L2.tT more []
   rw[List.length_nil]at this
   omega
 exact⟨.ref _,_,I.laid (a:=s.heap.objs.size) (o:=.dK (L2.fM [] more)) (t':=tk) hk (Nat.le_refl _) (L2.qw hm (beq_eq_false_iff_ne.mpr (Ne.symm (Nat.ne_of_lt I.big))) (k1.merge .nil) dd),rfl,q _ (I.ao.fresh (Nat.le_refl _))⟩
noncomputable def zN(M:Md)(f:Ex):TE:=fun σ H Q=>∃ρ F ks ds,aO M H F σ ρ∧f ρ=.ok (.aD ks ds)∧∀p H' xs,af H H'→H' p=none→ks.length=xs.length→ab M H' F ds xs→Q (.ref p) (upd H' p (.dK (ks.zip xs)))
noncomputable abbrev JD(X:Cx)(e:Expr)(f:Ex):Prop:=PE X e (zN (av X) f)
theorem zx{a:Expr}{fa:Ex}{p:Pos}(hc:X.calm=true)(hg:L2.Gl X "dict")(hm:X.mg "dict"=none)(ha:JE X a fa)(hs:starEach [a] X.env=(false,eval a X.env)::starEach [] X.env):JD X (.Call (.Name "dict" p) [a] [] pos) (e1 gH fa):=
 bc (L2.oz (Cw hc) hg hm uO (cL ha dM hs) (by decide) (by decide) hs) fun σ H Q ⟨ρ,F,ks,ds,hr,e,q⟩=>by
   obtain⟨d1,ed,e⟩:=ai.mp e
   refine⟨ρ,F,[d1],hr,by show(fa ρ).bind _=_;rw[ed];rfl,fun vs H1 s1 rv=>?_⟩
   obtain⟨y,rfl,ry⟩:=rv.one
   unfold gH at e
   split at e
   · rename_i es
     split at e
     · rename_i hlen
       simp only[Rep]at ry
       obtain⟨a,xs,rfl,h1,rs⟩:=ry
       obtain⟨more,ks',vs',ys,g1,g2,g3,g4,g5,g6⟩:=qk e rs (xs:=[]) rfl ab.nil
       cases g3
       refine⟨F,a,xs,more,rfl,h1,g1,by omega,fun p hp=>?_⟩
       have g4':L2.fM [] more=ks.zip ys:=g4
       rw[g4']
       exact q p H1 ys s1 hp g5 g6
     ·cases e
   ·cases e
theorem An{e:Expr}{f:Ex}(he:JD X e f)(hl:∀ρ d,f ρ=.ok d→∃ks ds,d=.aD ks ds):JE X e f:=
 Ai he fun σ H Q ⟨ρ,F,d,hr,e,q⟩=>by
   obtain⟨ks,ds,rfl⟩:=hl _ _ e
   refine⟨ρ,F,ks,ds,hr,e,fun p H1 xs s1 hp hl rs=>⟨p,ks.zip xs,rfl,L2.bF,fun ob=>?_⟩⟩
   rw[L2.uG]
   refine q _ _ (s1.trans (af.bL hp _)) ?_
   simp only[Rep]
   exact⟨p,xs,rfl,.inl ⟨oY (hr.same s1).aU hp,ob,L2.bF⟩,hl,rs.mv (.same (af.bL hp _))⟩
theorem qz:∀ {ds:List D} {ks:List Ky} {vs:List D} {d:D},eO ds ks vs=.ok d→∃ks' vs',d=.aD ks' vs'
 |[],_,_,_,e=>by cases e;exact⟨_,_,rfl⟩
 | c::ds,ks,vs,d,e=>by
   unfold eO at e
   split at e
   ·rename_i h;cases h
   · rename_i h
     cases h
     split at e
     ·exact qz e
     ·cases e
   ·cases e
theorem Ct{fa:Ex}(ρ:En)(d:D)(h:e1 gH fa ρ=.ok d):∃ks ds,d=.aD ks ds:=by
 obtain⟨x,ex,e⟩:=ai.mp h
 unfold gH at e
 split at e
 · split at e
   ·exact qz e
   ·cases e
 ·cases e
end
end PL
namespace PySem
namespace F
end F
section
variable{prog:Program}{w:World}{A:Around}{E:Value→Shared→Prop}{s:Shared}{a:Addr}{o:Obj}{ep:Nat}{t:SetTable}
end
end PySem
namespace PL
open PySem PySem.Spec
open L2 (V Hp HO Cx PE PT PW PA PS bK PG cJ VK TE TT TA TS TI TG Inv RelV Vals Rd aM aW upd af Key XK Ends aQ fD bp R2 EP It Turn cB Un)
section
variable{X:Cx}{M:Md}{G H H':Hp}{F0 F F':Addr→Prop}{σ:L2.St}{ρ:En}{pos:Pos}{pins:List (Addr×Obj)}{s:Shared}
end
mutual
noncomputable def T.toD:T→D
 |.d x=>x
 |.l ts=>.lst (T.dn ts)
 |.m ks ts=>.aD ks (T.dn ts)
noncomputable def T.dn:List T→List D
 |[]=>[]
 |t::ts=>T.toD t::T.dn ts
end
noncomputable def T.at:T→List Nat→Option T
 |t,[]=>some t
 | .l ts,k::p=>match ts[k]? with
   |some t=>T.at t p
   |none=>none
 | .m _ ts,k::p=>match ts[k]? with
   |some t=>T.at t p
   |none=>none
 |.d _,_::_=>none
noncomputable def T.put(n:T):T→List Nat→T
 |_,[]=>n
 | .l ts,k::p=>match ts[k]? with
   |some t=>.l (ts.set k (T.put n t p))
   |none=>.l ts
 | .m ks ts,k::p=>match ts[k]? with
   |some t=>.m ks (ts.set k (T.put n t p))
   |none=>.m ks ts
 |.d x,_::_=>.d x
section
variable{X:Cx}{M:Md}{G H H':Hp}{F0 F F':Addr→Prop}{σ:L2.St}{ρ:En}{pos:Pos}{pins:List (Addr×Obj)}{s:Shared}
mutual
theorem ah.less(hs:∀a,F' a→F a):∀ {t:T} {v:V} {as:List Addr},(∀b∈as,F' b)→ah M H F t v as→ah M H F' t v as
 | .d x,v,as,_,h=>by
   simp only[ah]at h ⊢
   exact⟨h.1,h.2.sub hs⟩
 | .l ts,v,as,k,h=>by
   simp only[ah]at h ⊢
   obtain⟨a,xs,bs,e1,rfl,f,e2,r⟩:=h
   exact⟨a,xs,bs,e1,rfl,k a List.mem_cons_self,e2,ak.less hs (fun b hb=>k b (List.mem_cons_of_mem _ hb)) r⟩
 | .m ks ts,v,as,k,h=>by
   simp only[ah]at h ⊢
   obtain⟨a,xs,bs,e1,rfl,f,e2,l,r⟩:=h
   exact⟨a,xs,bs,e1,rfl,k a List.mem_cons_self,e2,l,ak.less hs (fun b hb=>k b (List.mem_cons_of_mem _ hb)) r⟩
theorem ak.less(hs:∀a,F' a→F a):∀ {ts:List T} {xs:List V} {as:List Addr},(∀b∈as,F' b)→ak M H F ts xs as→ak M H F' ts xs as
 |[],xs,as,_,h=>by simp only[ak]at h ⊢;exact h
 | t::ts,xs,as,k,h=>by
   simp only[ak]at h ⊢
   obtain⟨x,r,bs,cs,e1,rfl,h1,h2⟩:=h
   exact⟨x,r,bs,cs,e1,rfl,ah.less hs (fun b hb=>k b (List.mem_append_left _ hb)) h1,ak.less hs (fun b hb=>k b (List.mem_append_right _ hb)) h2⟩
end
theorem ak.len:∀ {ts:List T} {xs:List V} {as:List Addr},ak M H F ts xs as→ts.length=xs.length
 |[],xs,as,h=>by simp only[ak]at h;rw[h.1];rfl
 | t::ts,xs,as,h=>by
   simp only[ak]at h
   obtain⟨x,r,bs,cs,rfl,rfl,h1,h2⟩:=h
   simp[ak.len h2]
theorem ak.part:∀ {ts:List T} {xs:List V} {as:List Addr} {k:Nat} {t:T},ak M H F ts xs as→ts[k]? =some t→∃x bs,xs[k]? =some x∧ah M H F t x bs∧bs.Sublist as
 |[],_,_,_,_,_,e=>by simp at e
 | t::ts,xs,as,0,_,h,e=>by
   simp only[ak]at h
   obtain⟨x,r,bs,cs,rfl,rfl,h1,h2⟩:=h
   cases e
   exact⟨x,bs,rfl,h1,List.sublist_append_left _ _⟩
 | t::ts,xs,as,k+1,_,h,e=>by
   simp only[ak]at h
   obtain⟨x,r,bs,cs,rfl,rfl,h1,h2⟩:=h
   obtain⟨y,ds,h3,h4,h5⟩:=ak.part h2 (by simpa using e)
   exact⟨y,ds,by simpa using h3,h4,h5.trans (List.sublist_append_right _ _)⟩
theorem ak.chg(m:Mv F H F H'){t':T}{k:Nat}{x:V}:∀ {j:Nat} {ts:List T} {xs:List V} {as:List Addr} {t:T},ak M H F ts xs as→as.Nodup→ts[j]? =some t→xs[j]? =some x→
   (∀bs,ah M H F t x bs→(∀b,b∉bs→H' b=H b)∧ah M H' F t' x bs)→ak M H' F (ts.set j t') xs as
 |j,[],_,_,_,_,_,e,_,_=>by simp at e
 | 0,t::ts,xs,as,_,h,nd,e,ex,k=>by
   simp only[ak]at h
   obtain⟨y,r,bs,cs,rfl,rfl,h1,h2⟩:=h
   cases e;cases ex
   obtain⟨k1,k2⟩:=k bs h1
   rw[List.set_cons_zero]
   simp only[ak]
   refine⟨_,r,bs,cs,rfl,rfl,k2,h2.mv m fun b hb u f hu=>⟨f,?_⟩⟩
   rw[k1 b (fun hb2=>(List.nodup_append.mp nd).2.2 b hb2 b hb rfl)];exact hu
 | j+1,t::ts,xs,as,_,h,nd,e,ex,k=>by
   simp only[ak]at h
   obtain⟨y,r,bs,cs,rfl,rfl,h1,h2⟩:=h
   have nd2:=List.nodup_append.mp nd
   have ih:=ak.chg (k:=0) m h2 nd2.2.1 (by simpa using e) (by simpa using ex) k
   obtain⟨x',ds,e1,r1,sub⟩:=h2.part (k:=j) (by simpa using e)
   have ex':x'=x:=by
     have:r[j]? =some x:=by simpa using ex
     rw[e1]at this;cases this;rfl
   subst ex'
   obtain⟨k1,_⟩:=k ds r1
   rw[List.set_cons_succ]
   simp only[ak]
   refine⟨y,r,bs,cs,rfl,rfl,h1.mv m fun b hb u f hu=>⟨f,?_⟩,ih⟩
   rw[k1 b (fun hb2=>nd2.2.2 b hb b (sub.subset hb2) rfl)];exact hu
theorem gN:∀ {vs:List D} {xs:List V} {as:List Addr},ak M H F (vs.map .d) xs as↔as=[]∧ab M H F vs xs
 |[],xs,as=>by simp only[List.map_nil,ak,ab];exact And.comm
 | v::vs,xs,as=>by
   simp only[List.map_cons,ak,ab,ah]
   constructor
   · rintro⟨x,r,bs,cs,rfl,rfl,⟨rfl,h1⟩,h2⟩
     obtain⟨rfl,h3⟩:=gN.mp h2
     exact⟨rfl,x,r,rfl,h1,h3⟩
   · rintro⟨rfl,x,r,rfl,h1,h2⟩
     exact⟨x,r,[],[],rfl,rfl,⟨rfl,h1⟩,gN.mpr ⟨rfl,h2⟩⟩
theorem ah.put{n0 n1:T}{c:Addr}{o:HO}(h0:ah M H F n0 (.ref c) [c])(h1:ah M (upd H c o) F n1 (.ref c) [c]):∀ {p:List Nat} {t:T} {v:V} {as:List Addr},ah M H F t v as→as.Nodup→aA H t v p n0 (.ref c)→
   F c∧c∈as∧ah M (upd H c o) F (T.put n1 t p) v as
 | [],t,v,as,h,nd,e=>by
   have e':t=n0∧v=.ref c:=by cases t<;>exact e
   obtain⟨rfl,rfl⟩:=e'
   have:=ah.det h0 h fun _ _ _ _ hu=>hu
   subst this
   refine⟨(h0.fs c List.mem_cons_self).1,List.mem_cons_self,?_⟩
   have:T.put n1 t []=n1:=by cases t<;>rfl
   rw[this];exact h1
 | k::p,.l ts,v,as,h,nd,e=>by
   simp only[aA]at e
   simp only[ah]at h
   obtain⟨a,xs,t1,x1,rfl,e2,et,ex,e⟩:=e
   obtain⟨a',ys,bs,ea,rfl,f,e2',r⟩:=h
   cases ea
   have e9:xs=ys:=by rw[e2']at e2;injection e2 with e2;injection e2 with e2;exact e2.symm
   subst e9
   have nd2:=List.nodup_cons.mp nd
   obtain⟨x1',ds,ex1,r1,sub⟩:=r.part et
   rw[ex]at ex1;cases ex1
   obtain⟨fc,hc,r2⟩:=ah.put h0 h1 r1 (nd2.2.sublist sub) e
   have hca:c≠a:=fun z=>by subst z;exact nd2.1 (sub.subset hc)
   have mv:Mv F H F (upd H c o):=fun b u n e=>⟨n,by rw[L2.az (fun z=>by subst z;exact n fc)];exact e⟩
   refine⟨fc,List.mem_cons_of_mem _ (sub.subset hc),?_⟩
   show ah M _ F (match ts[k]? with|some t=>T.l (ts.set k (T.put _ t p))|none=>T.l ts) _ _
   rw[et]
   simp only[ah]
   refine⟨a,_,bs,rfl,rfl,f,by rw[L2.az (Ne.symm hca)];exact e2',ak.chg (k:=k) mv r nd2.2 et ex fun bs' hb'=>?_⟩
   have:=ah.det r1 hb' fun _ _ _ _ hu=>hu
   subst this
   exact⟨fun b hb=>by rw[L2.az (fun z=>by subst z;exact hb hc)],r2⟩
 | k::p,.m ks0 ts,v,as,h,nd,e=>by
   simp only[aA]at e
   simp only[ah]at h
   obtain⟨a,xs,t1,x1,rfl,e2,l1,et,ex,e⟩:=e
   obtain⟨a',ys,bs,ea,rfl,f,e2',l2,r⟩:=h
   cases ea
   have e9:ys=xs:=by
     have e4:ks0.zip ys=ks0.zip xs:=by rw[e2']at e2;injection e2 with e2;injection e2
     have h1:=congrArg (List.map Prod.snd) e4
     rw[List.map_snd_zip (by omega),List.map_snd_zip (by omega)]at h1
     exact h1
   subst e9
   have nd2:=List.nodup_cons.mp nd
   obtain⟨x1',ds,ex1,r1,sub⟩:=r.part et
   rw[ex]at ex1;cases ex1
   obtain⟨fc,hc,r2⟩:=ah.put h0 h1 r1 (nd2.2.sublist sub) e
   have hca:c≠a:=fun z=>by subst z;exact nd2.1 (sub.subset hc)
   have mv:Mv F H F (upd H c o):=fun b u n e=>⟨n,by rw[L2.az (fun z=>by subst z;exact n fc)];exact e⟩
   refine⟨fc,List.mem_cons_of_mem _ (sub.subset hc),?_⟩
   show ah M _ F (match ts[k]? with|some t=>T.m ks0 (ts.set k (T.put _ t p))|none=>T.m ks0 ts) _ _
   rw[et]
   simp only[ah]
   refine⟨a,ys,bs,rfl,rfl,f,by rw[L2.az (Ne.symm hca)];exact e2',l2,ak.chg (k:=k) mv r nd2.2 et ex fun bs' hb'=>?_⟩
   have:=ah.det r1 hb' fun _ _ _ _ hu=>hu
   subst this
   exact⟨fun b hb=>by rw[L2.az (fun z=>by subst z;exact hb hc)],r2⟩
 |k::p,.d _,v,as,h,nd,e=>e.elim
end
section
variable{X:Cx}{M:Md}{G H H':Hp}{F0 F F':Addr→Prop}{σ:L2.St}{ρ:En}{pos:Pos}{pins:List (Addr×Obj)}{s:Shared}
theorem zip_inj{ks:List Ky}{xs ys:List V}(l1:ks.length=xs.length)(l2:ks.length=ys.length)(h:ks.zip xs=ks.zip ys):xs=ys:=by
 have h1:=congrArg (List.map Prod.snd) h
 rw[List.map_snd_zip (by omega),List.map_snd_zip (by omega)]at h1
 exact h1
theorem T.uP{n:T}(hn:n.own=true):∀ {t:T} {p:List Nat},t.own=true→(T.put n t p).own=true
 |t,[],_=>by cases t<;>exact hn
 |.l ts,k::p,_=>by unfold T.put;split<;>rfl
 |.m ks ts,k::p,_=>by unfold T.put;split<;>rfl
 |.d x,k::p,h=>by cases h
theorem aA.part:∀ {p:List Nat} {t:T} {v:V} {t1:T} {w:V} {as:List Addr},ah M H F t v as→aA H t v p t1 w→∃bs,ah M H F t1 w bs∧bs.Sublist as
 | [],t,v,t1,w,as,tr,h=>by
   have e':t=t1∧v=w:=by cases t<;>exact h
   obtain⟨rfl,rfl⟩:=e'
   exact⟨as,tr,List.Sublist.refl _⟩
 | k::p,.l ts,v,t1,w,as,tr,h=>by
   simp only[aA]at h
   simp only[ah]at tr
   obtain⟨a,xs,tp,xp,rfl,e2,etp,exp,h⟩:=h
   obtain⟨a2,ys,bs,ea2,rfl,f,e22,r⟩:=tr
   cases ea2
   have e9:xs=ys:=by rw[e22]at e2;injection e2 with z;injection z with z;exact z.symm
   subst e9
   obtain⟨xp',dp,exp1,rp,subp⟩:=r.part etp
   rw[exp]at exp1;cases exp1
   obtain⟨cs,h1,h2⟩:=aA.part rp h
   exact⟨cs,h1,(h2.trans subp).trans (List.sublist_cons_self _ _)⟩
 | k::p,.m ks0 ts,v,t1,w,as,tr,h=>by
   simp only[aA]at h
   simp only[ah]at tr
   obtain⟨a,xs,tp,xp,rfl,e2,l1,etp,exp,h⟩:=h
   obtain⟨a2,ys,bs,ea2,rfl,f,e22,l2,r⟩:=tr
   cases ea2
   have e9:xs=ys:=zip_inj l1 l2 (by rw[e22]at e2;injection e2 with z;injection z with z;exact z.symm)
   subst e9
   obtain⟨xp',dp,exp1,rp,subp⟩:=r.part etp
   rw[exp]at exp1;cases exp1
   obtain⟨cs,h1,h2⟩:=aA.part rp h
   exact⟨cs,h1,(h2.trans subp).trans (List.sublist_cons_self _ _)⟩
 |k::p,.d _,v,t1,w,as,tr,h=>h.elim
theorem ak.apart:∀ {ts:List T} {xs:List V} {as:List Addr} {j k:Nat} {tj tk:T} {xj xk:V} {bs cs:List Addr},ak M H F ts xs as→as.Nodup→j≠k→ts[j]? =some tj→ts[k]? =some tk→xs[j]? =some xj→xs[k]? =some xk→ah M H F tj xj bs→ah M H F tk xk cs→∀b∈bs,b∉cs
 |[],_,_,_,_,_,_,_,_,_,_,_,_,_,e,_,_,_,_,_=>by simp at e
 | t::ts,xs,as,j,k,tj,tk,xj,xk,bs,cs,h,nd,hne,ej,ek,exj,exk,rj,rk=>by
   simp only[ak]at h
   obtain⟨x,r,b1,c1,rfl,rfl,h1,h2⟩:=h
   have nd2:=List.nodup_append.mp nd
   cases j with
   | zero=>
     cases k with
     |zero=>exact absurd rfl hne
     | succ k=>
       cases ej;cases exj
       have:=ah.det h1 rj fun _ _ _ _ hu=>hu
       subst this
       obtain⟨y,ds,ey,ry,sub⟩:=h2.part (k:=k) (by simpa using ek)
       have ey2:r[k]? =some xk:=by simpa using exk
       rw[ey]at ey2;cases ey2
       have:=ah.det ry rk fun _ _ _ _ hu=>hu
       subst this
       exact fun b hb hc=>nd2.2.2 b hb b (sub.subset hc) rfl
   | succ j=>
     cases k with
     | zero=>
       cases ek;cases exk
       have:=ah.det h1 rk fun _ _ _ _ hu=>hu
       subst this
       obtain⟨y,ds,ey,ry,sub⟩:=h2.part (k:=j) (by simpa using ej)
       have ey2:r[j]? =some xj:=by simpa using exj
       rw[ey]at ey2;cases ey2
       have:=ah.det ry rj fun _ _ _ _ hu=>hu
       subst this
       exact fun b hb hc=>nd2.2.2 b hc b (sub.subset hb) rfl
     |succ k=>exact ak.apart (j:=j) (k:=k) h2 nd2.2.1 (by omega) (by simpa using ej) (by simpa using ek) (by simpa using exj) (by simpa using exk) rj rk
theorem rE{α:Type}{l:List α}{k:Nat}{a b:α}(h:l[k]? =some a):(l.set k b)[k]? =some b:=by
 rw[List.getElem?_set_self (List.getElem?_eq_some_iff.mp h).1]
theorem ah.ne_nil{t:T}{v:V}{as:List Addr}(h:ah M H F t v as)(ho:t.own=true):as≠[]:=by
 cases t with
 |d x=>cases ho
 |l ts=>simp only[ah]at h;obtain⟨a,xs,bs,_,rfl,_⟩:=h;simp
 |m ks ts=>simp only[ah]at h;obtain⟨a,xs,bs,_,rfl,_⟩:=h;simp
theorem aA.leaf{n0:T}{c:Addr}{k:Nat}{q:List Nat}{t1:T}{w:V}(h0:ah M H F n0 (.ref c) [c])(h:aA H n0 (.ref c) (k::q) t1 w)(ho:t1.own=true):False:=by
 cases n0 with
 |d x=>exact h.elim
 | l ts=>
   simp only[aA]at h
   simp only[ah]at h0
   obtain⟨a,xs,tp,xp,ea,e2,etp,exp,h⟩:=h
   obtain⟨a2,ys,bs,ea2,eb,f,e22,r⟩:=h0
   cases ea;cases ea2;cases eb
   have e9:xs=ys:=by rw[e22]at e2;injection e2 with z;injection z with z;exact z.symm
   subst e9
   obtain⟨xp',dp,exp1,rp,subp⟩:=r.part etp
   rw[exp]at exp1;cases exp1
   obtain⟨cs,h1,h2⟩:=aA.part rp h
   exact h1.ne_nil ho (List.sublist_nil.mp (h2.trans subp))
 | m ks0 ts=>
   simp only[aA]at h
   simp only[ah]at h0
   obtain⟨a,xs,tp,xp,ea,e2,l1,etp,exp,h⟩:=h
   obtain⟨a2,ys,bs,ea2,eb,f,e22,l2,r⟩:=h0
   cases ea;cases ea2;cases eb
   have e9:xs=ys:=zip_inj l1 l2 (by rw[e22]at e2;injection e2 with z;injection z with z;exact z.symm)
   subst e9
   obtain⟨xp',dp,exp1,rp,subp⟩:=r.part etp
   rw[exp]at exp1;cases exp1
   obtain⟨cs,h1,h2⟩:=aA.part rp h
   exact h1.ne_nil ho (List.sublist_nil.mp (h2.trans subp))
theorem aA.put{n0 n1:T}{c:Addr}{o:HO}(h0:ah M H F n0 (.ref c) [c])(o1:n1.own=true):∀ {q:List Nat} {p:List Nat} {t:T} {v:V} {t1:T} {w:V} {as:List Addr},ah M H F t v as→as.Nodup→aA H t v p n0 (.ref c)→aA H t v q t1 w→t1.own=true→
   ∃t2,t2.own=true∧aA (upd H c o) (T.put n1 t p) v q t2 w
 | [],p,t,v,t1,w,as,tr,nd,hp,hq,ho=>by
   have e':t=t1∧v=w:=by cases t<;>exact hq
   obtain⟨rfl,rfl⟩:=e'
   refine⟨T.put n1 t p,T.uP o1 ho,?_⟩
   generalize T.put n1 t p=t2
   cases t2<;>exact⟨rfl,rfl⟩
 | k'::q,[],t,v,t1,w,as,tr,nd,hp,hq,ho=>by
   have e':t=n0∧v=.ref c:=by cases t<;>exact hp
   obtain⟨rfl,rfl⟩:=e'
   exact(aA.leaf h0 hq ho).elim
 | k'::q,k::p,.l ts,v,t1,w,as,tr,nd,hp,hq,ho=>by
   simp only[aA]at hp hq
   simp only[ah]at tr
   obtain⟨a,xs,tp,xp,rfl,e2,etp,exp,hp⟩:=hp
   obtain⟨a1,xs1,tq,xq,ea1,e21,etq,exq,hq⟩:=hq
   obtain⟨a2,ys,bs,ea2,rfl,f,e22,r⟩:=tr
   cases ea1;cases ea2
   have e8:xs1=ys:=by rw[e22]at e21;injection e21 with z;injection z with z;exact z.symm
   have e9:xs=ys:=by rw[e22]at e2;injection e2 with z;injection z with z;exact z.symm
   subst e8 e9
   have nd2:=List.nodup_cons.mp nd
   obtain⟨xp',dp,exp1,rp,subp⟩:=r.part etp
   rw[exp]at exp1;cases exp1
   obtain⟨cs,rc,subc⟩:=aA.part rp hp
   have hcs:=ah.det h0 rc fun _ _ _ _ hu=>hu
   subst hcs
   have hc:c∈dp:=subc.subset List.mem_cons_self
   have hca:a≠c:=fun z=>by subst z;exact nd2.1 (subp.subset hc)
   show ∃t2,t2.own=true∧aA _ (match ts[k]? with|some t=>T.l (ts.set k (T.put _ t p))|none=>T.l ts) _ _ t2 w
   rw[etp]
   by_cases hkk:k'=k
   · subst hkk
     rw[etp]at etq;cases etq
     rw[exp]at exq;cases exq
     obtain⟨t2,o2,h2⟩:=aA.put (o:=o) h0 o1 rp (nd2.2.sublist subp) hp hq ho
     refine⟨t2,o2,?_⟩
     simp only[aA]
     exact⟨a,_,_,_,rfl,by rw[L2.az hca];exact e22,rE etp,exp,h2⟩
   · obtain⟨xq',dq,exq1,rq,subq⟩:=r.part etq
     rw[exq]at exq1;cases exq1
     refine⟨t1,ho,?_⟩
     simp only[aA]
     refine⟨a,_,tq,xq,rfl,by rw[L2.az hca];exact e22,by rw[List.getElem?_set_ne (Ne.symm hkk)];exact etq,exq,hq.mv rq fun b hb u fb hu=>?_⟩
     rw[L2.az (fun z=>by subst z;exact ak.apart r nd2.2 (Ne.symm hkk) etp etq exp exq rp rq _ hc hb)]
     exact hu
 | k'::q,k::p,.m ks0 ts,v,t1,w,as,tr,nd,hp,hq,ho=>by
   simp only[aA]at hp hq
   simp only[ah]at tr
   obtain⟨a,xs,tp,xp,rfl,e2,l0,etp,exp,hp⟩:=hp
   obtain⟨a1,xs1,tq,xq,ea1,e21,l1,etq,exq,hq⟩:=hq
   obtain⟨a2,ys,bs,ea2,rfl,f,e22,l2,r⟩:=tr
   cases ea1;cases ea2
   have e8:xs1=ys:=zip_inj l1 l2 (by rw[e22]at e21;injection e21 with z;injection z with z;exact z.symm)
   have e9:xs=ys:=zip_inj l0 l2 (by rw[e22]at e2;injection e2 with z;injection z with z;exact z.symm)
   subst e8 e9
   have nd2:=List.nodup_cons.mp nd
   obtain⟨xp',dp,exp1,rp,subp⟩:=r.part etp
   rw[exp]at exp1;cases exp1
   obtain⟨cs,rc,subc⟩:=aA.part rp hp
   have hcs:=ah.det h0 rc fun _ _ _ _ hu=>hu
   subst hcs
   have hc:c∈dp:=subc.subset List.mem_cons_self
   have hca:a≠c:=fun z=>by subst z;exact nd2.1 (subp.subset hc)
   show ∃t2,t2.own=true∧aA _ (match ts[k]? with|some t=>T.m ks0 (ts.set k (T.put _ t p))|none=>T.m ks0 ts) _ _ t2 w
   rw[etp]
   by_cases hkk:k'=k
   · subst hkk
     rw[etp]at etq;cases etq
     rw[exp]at exq;cases exq
     obtain⟨t2,o2,h2⟩:=aA.put (o:=o) h0 o1 rp (nd2.2.sublist subp) hp hq ho
     refine⟨t2,o2,?_⟩
     simp only[aA]
     exact⟨a,_,_,_,rfl,by rw[L2.az hca];exact e22,l2,rE etp,exp,h2⟩
   · obtain⟨xq',dq,exq1,rq,subq⟩:=r.part etq
     rw[exq]at exq1;cases exq1
     refine⟨t1,ho,?_⟩
     simp only[aA]
     refine⟨a,_,tq,xq,rfl,by rw[L2.az hca];exact e22,l2,by rw[List.getElem?_set_ne (Ne.symm hkk)];exact etq,exq,hq.mv rq fun b hb u fb hu=>?_⟩
     rw[L2.az (fun z=>by subst z;exact ak.apart r nd2.2 (Ne.symm hkk) etp etq exp exq rp rq _ hc hb)]
     exact hu
 |k'::q,k::p,.d _,v,t1,w,as,tr,nd,hp,hq,ho=>hp.elim
theorem aN.so{i:Nat}{t t':T}{v:V}{as as':List Addr}(r:aN M G F0 H F σ ρ)(e:ρ[i]? =some (.on (.tr t)))(ev:σ[i]? =some (some v))(tr:ah M H F t v as)(hnew:∀b∈as',b∈as∨H b=none)(hsub:∀b∈as,b∈as')(hout:∀b u,b∉as'→H b=some u→H' b=some u)
   (hF:∀b,F' b↔F b∨b∈as') (tr':ah M H' F' t' v as') (nd:as'.Nodup) (hal:∀p t1 w,aA H t v p t1 w→t1.own=true→∃t2,t2.own=true∧aA H' t' v p t2 w):
   Mv F H F' H'∧aN M G F0 H' F' σ (ρ.set i (.on (.tr t'))):=by
 have at0:∀b∈as,dh M H F σ ρ i b:=fun b hb=>⟨t,v,as,e,ev,tr,hb⟩
 have fs:=tr.fs
 have mv:Mv F H F' H':=fun b o n eo=>by
   have nb:b∉as':=fun hb=>by
     rcases hnew b hb with h|h
     ·exact n (fs b h).1
     ·rw[h]at eo;cases eo
   exact⟨fun h=>((hF b).mp h).elim n nb,hout b _ nb eo⟩
 have ro:=r.rs.on i _ e
 have hi:i<ρ.length:=(List.getElem?_eq_some_iff.mp e).1
 have old:∀(j:Nat) x,j≠i→(ρ.set i (.on (.tr t')))[j]? =some x→ρ[j]? =some x:=fun j x hj h=>by rw[List.getElem?_set_ne (Ne.symm hj)]at h;exact h
 have self:(ρ.set i (.on (.tr t')))[i]? =some (.on (.tr t')):=List.getElem?_set_self hi
 have nself:∀(j:Nat) x,(∀y,x≠Slot.on y)→(ρ.set i (.on (.tr t')))[j]? =some x→ρ[j]? =some x:=fun j x hx h=>by
   by_cases hj:j=i
   ·subst hj;rw[self]at h;cases h;exact absurd rfl (hx _)
   ·exact old j x hj h
 have ownd:∀j,aX (ρ.set i (.on (.tr t'))) j→aX ρ j:=fun j h=>by
   rcases h with⟨ds,h⟩|⟨ks,ds,h⟩
   ·exact .inl ⟨ds,nself j _ (fun y z=>nomatch z) h⟩
   ·exact .inr ⟨ks,ds,nself j _ (fun y z=>nomatch z) h⟩
 have keep:∀(j:Nat) b u,aX ρ j→σ[j]? =some (some (.ref b))→F b→H b=some u→F' b∧H' b=some u:=fun j b u oj ej fb hu=>by
   refine⟨(hF b).mpr (.inl fb),?_⟩
   refine hout b u (fun hb=>?_) hu
   rcases hnew b hb with h|h
   ·exact ro.2.1 b (at0 b h) j oj ej
   ·rw[h]at hu;cases hu
 have aU:∀a,F' a→∃o,H' a=some o:=fun a fa=>by
   by_cases ha:a∈as'
   ·exact(tr'.fs a ha).2
   · obtain⟨o,ho⟩:=r.rs.aU a (((hF a).mp fa).resolve_right ha)
     exact⟨o,hout a _ ha ho⟩
 have rs:aO M H' F' σ (ρ.set i (.on (.tr t'))):=by
   refine⟨by simp[r.rs.len],aU,fun j d h=>?_,fun j ds h=>?_,fun j ks ds h=>?_,fun j k a oj ok ej ek=>r.rs.bM j k a (ownd j oj) (ownd k ok) ej ek,?_⟩
   · obtain⟨w,e1,g⟩:=r.rs.sh j d (nself j _ (fun y z=>nomatch z) h)
     exact⟨w,e1,g.mv mv⟩
   · have h0:=nself j (.ol ds) (fun y z=>nomatch z) h
     obtain⟨a,xs,e1,f,e2,g⟩:=r.rs.ol j ds h0
     obtain⟨f',e3⟩:=keep j a _ (.inl ⟨_,h0⟩) e1 f e2
     exact⟨a,xs,e1,f',e3,g.mv mv⟩
   · have h0:=nself j (.od ks ds) (fun y z=>nomatch z) h
     obtain⟨a,xs,e1,f,e2,l,g⟩:=r.rs.od j ks ds h0
     obtain⟨f',e3⟩:=keep j a _ (.inr ⟨_,_,h0⟩) e1 f e2
     exact⟨a,xs,e1,f',e3,l,g.mv mv⟩
   · intro j x h
     have onat:∀b,dh M H' F' σ (ρ.set i (.on (.tr t'))) j b→j=i∧b∈as':=fun b hb=>by
       obtain⟨t1,v1,as1,e1,ev1,tr1,hb⟩:=hb
       have hj:j=i:=by
         by_cases hj:j=i
         ·exact hj
         ·exact ro.2.2 t rfl j t1 (old j _ hj e1)
       subst hj
       rw[self]at e1;cases e1
       rw[ev]at ev1;cases ev1
       have:=ah.det tr' tr1 fun _ _ _ _ hu=>hu
       subst this
       exact⟨rfl,hb⟩
     refine⟨?_,fun b hb k ok ek=>?_,fun t1 ht k t2 hk=>?_⟩
     · by_cases hj:j=i
       · subst hj
         rw[self]at h;cases h
         exact⟨v,as',ev,tr',nd⟩
       · have h0:=old j _ hj h
         cases x with
         |tr t1=>exact absurd (ro.2.2 t rfl j t1 h0) hj
         | al k p=>
           intro t1 ht1
           have⟨hk,et⟩:k=i∧t1=t':=by
             by_cases hk:k=i
             ·subst hk;rw[self]at ht1;cases ht1;exact⟨rfl,rfl⟩
             ·exact absurd (ro.2.2 t rfl k t1 (old k _ hk ht1)) hk
           subst hk et
           obtain⟨v1,w,t2,e1,e2,at2,o2⟩:=(r.rs.on j _ h0).1 t e
           rw[ev]at e1;cases e1
           obtain⟨t3,o3,at3⟩:=hal p t2 w at2 o2
           exact⟨v,w,t3,ev,e2,at3,o3⟩
     · obtain⟨rfl,hb'⟩:=onat b hb
       rcases hnew b hb' with h2|h2
       ·exact ro.2.1 b (at0 b h2) k (ownd k ok) ek
       · obtain⟨a,_,u,_,e1,_,e2,_⟩:=r.rs.ownAt (ownd k ok)
         rw[ek]at e1;cases e1
         rw[h2]at e2;cases e2
     · subst ht
       have hj:j=i:=by
         by_cases hj:j=i
         ·exact hj
         ·exact ro.2.2 t rfl j t1 (old j _ hj h)
       by_cases hk2:k=i
       ·rw[hk2,hj]
       ·exact absurd (ro.2.2 t rfl k t2 (old k _ hk2 hk)) hk2
 refine⟨mv,⟨rs,fun b u hb=>?_,fun b f=>(hF b).mpr (.inl (r.sub b f)),r.dm,fun j a oj ej=>r.own j a (ownd j oj) ej,fun j x b h hb=>?_⟩⟩
 · have hu:=r.sm b u hb
   refine hout b u (fun hb2=>?_) hu
   rcases hnew b hb2 with h2|h2
   ·rw[r.eS i _ b e (at0 b h2)]at hb;cases hb
   ·rw[h2]at hu;cases hu
 · obtain⟨t1,v1,as1,e1,ev1,tr1,hb⟩:=hb
   have hj:j=i:=by
     by_cases hj:j=i
     ·exact hj
     ·exact ro.2.2 t rfl j t1 (old j _ hj e1)
   subst hj
   rw[self]at e1;cases e1
   rw[ev]at ev1;cases ev1
   have:=ah.det tr' tr1 fun _ _ _ _ hu=>hu
   subst this
   rcases hnew b hb with h2|h2
   ·exact r.eS j _ b e (at0 b h2)
   ·exact r.sm.free h2
end
noncomputable abbrev Xt:=En→R T
noncomputable def kY(ρ:En):Bool:=ρ.all fun s=>match s with
 |.on _=>false
 |_=>true
noncomputable def xD(e:Ex):Xt:=fun ρ=>(e ρ).bind fun d=>.ok (.d d)
noncomputable def xF(e:Ex):Xt:=fun ρ=>(e ρ).bind fun d=>match d with
 |.lst ds=>.ok (.l (ds.map .d))
 |_=>.bad
noncomputable def cG:List Xt→En→R (List T)
 |[],_=>.ok []
 |f::fs,ρ=>(f ρ).bind fun t=>(cG fs ρ).bind fun ts=>.ok (t::ts)
noncomputable def xL(fs:List Xt):Xt:=fun ρ=>(cG fs ρ).bind fun ts=>.ok (.l ts)
noncomputable def js:Xt:=fun _=>.ok (.m [] [])
noncomputable def j7(fs:List Xt)(e:Ex):Xt:=fun ρ=>(cG fs ρ).bind fun ts=>(e ρ).bind fun x=>match x with
 | .int i=>match bI ts i with
   |some t=>.ok t
   |none=>.bad
 |_=>.bad
noncomputable def jB(i:Nat)(f:Xt):Sm:=fun ρ=>(f ρ).bind fun t=>if kY ρ=true then .ok (.next (ρ.set i (.on (.tr t))))else .bad
section
variable{X:Cx}{M:Md}{G H H':Hp}{F0 F F':Addr→Prop}{σ:L2.St}{ρ:En}{pos:Pos}{pins:List (Addr×Obj)}{s:Shared}{as:List Addr}
noncomputable def rP(M:Md)(f:Xt):TE:=fun σ H Q=>∃ρ F t,aO M H F σ ρ∧f ρ=.ok t∧∀v H' F' as,af H H'→(∀b∈as,H b=none)→as.Nodup→(∀b,F' b↔F b∨b∈as)→ah M H' F' t v as→Q v H'
noncomputable def oW(M:Md)(f:En→R (List T)):TA:=fun σ H Q=>∃ρ F ts,aO M H F σ ρ∧f ρ=.ok ts∧∀vs H' F' as,af H H'→(∀b∈as,H b=none)→as.Nodup→(∀b,F' b↔F b∨b∈as)→ak M H' F' ts vs as→Q vs H'
noncomputable abbrev JX(X:Cx)(e:Expr)(f:Xt):Prop:=PE X e (rP (av X) f)
noncomputable abbrev iJ(X:Cx)(es:List Expr)(f:En→R (List T)):Prop:=PA X es (oW (av X) f)
theorem aO.wide(r:aO M H F σ ρ)(s1:af H H')(hn:∀b∈as,H b=none)(hF:∀b,F' b↔F b∨b∈as)(ht:∀b∈as,∃u,H' b=some u):Mv F H F' H'∧aO M H' F' σ ρ:=by
 have mv:Mv F H F' H':=fun b o n e=>⟨fun f=>((hF b).mp f).elim n (fun hb=>by rw[hn b hb]at e;cases e),s1 _ _ e⟩
 refine⟨mv,⟨r.len,fun a f=>?_,fun i d e=>?_,fun i ds e=>?_,fun i ks ds e=>?_,r.bM,?_⟩⟩
 · rcases(hF a).mp f with f|f
   ·obtain⟨o,e⟩:=r.aU a f;exact⟨o,s1 _ _ e⟩
   ·exact ht a f
 ·obtain⟨v,e1,q⟩:=r.sh i d e;exact⟨v,e1,q.mv mv⟩
 ·obtain⟨a,xs,e1,f,e2,q⟩:=r.ol i ds e;exact⟨a,xs,e1,(hF a).mpr (.inl f),s1 _ _ e2,q.mv mv⟩
 ·obtain⟨a,xs,e1,f,e2,l,q⟩:=r.od i ks ds e;exact⟨a,xs,e1,(hF a).mpr (.inl f),s1 _ _ e2,l,q.mv mv⟩
 ·exact r.on.mv mv (fun j x e=>⟨e,rfl⟩) (fun j x b u e hb f hu=>⟨(hF b).mpr (.inl f),s1 _ _ hu⟩) fun j x b e hb k ok=>(r.on j x e).2.1 b hb k ok
theorem vq{e:Expr}{f:Ex}(h:JE X e f):JX X e (xD f):=
 bc h fun σ H Q ⟨ρ,F,t,hr,e,q⟩=>by
   obtain⟨d,ed,e⟩:=ai.mp e
   cases e
   exact⟨ρ,F,d,hr,ed,fun v H1 s1 rv=>q v H1 F [] s1 (fun _ hb=>nomatch hb) List.nodup_nil (fun b=>by simp) (by rw[ah];exact⟨rfl,rv⟩)⟩
theorem vm{e:Expr}{f:Ex}(h:JF X e f):JX X e (xF f):=
 bc h fun σ H Q ⟨ρ,F,t,hr,e,q⟩=>by
   obtain⟨d,ed,e⟩:=ai.mp e
   cases d with
   | lst ds=>
     cases e
     refine⟨ρ,F,ds,hr,ed,fun p H1 xs s1 hp rs=>?_⟩
     refine q (.ref p) _ (fun b=>F b∨b=p) [p] (s1.trans (af.bL hp _)) (fun b hb=>by rw[List.mem_singleton.mp hb];exact s1.free hp) (by simp) (fun b=>by simp) ?_
     simp only[ah]
     refine⟨p,xs,[],rfl,rfl,.inr rfl,L2.bF,gN.mpr ⟨rfl,rs.mv fun b o n e=>?_⟩⟩
     have hb:b≠p:=fun z=>by subst z;rw[hp]at e;cases e
     exact⟨fun f=>f.elim n hb,by rw[L2.az hb];exact e⟩
   |_=>cases e
theorem zw:iJ X [] (cG []):=
 mI L2.fZ fun σ H Q ⟨ρ,F,ts,hr,e,q⟩=>by
   cases e
   exact q [] H F [] (af.refl _) (fun _ hb=>nomatch hb) List.nodup_nil (fun b=>by simp) (by rw[ak];exact⟨rfl,rfl⟩)
theorem yL{f:Xt}{fs:List Xt}{Q:List V→Hp→Prop}{te:TE}{ta:TA}(h1:∀σ H Q,rP M f σ H Q→te σ H Q)(h2:∀σ H Q,oW M (cG fs) σ H Q→ta σ H Q)(h:oW M (cG (f::fs)) σ H Q):L2.sN te ta σ H Q:=by
 obtain⟨ρ,F,ts,hr,e,q⟩:=h
 obtain⟨t,et,e⟩:=ai.mp e
 obtain⟨us,eu,e⟩:=ai.mp e
 cases e
 refine h1 _ _ _ ⟨ρ,F,t,hr,et,fun v H1 F1 as s1 hn nd hF tr=>?_⟩
 obtain⟨mv1,r1⟩:=hr.wide s1 hn hF (fun b hb=>(tr.fs b hb).2)
 refine h2 _ _ _ ⟨ρ,F1,us,r1,eu,fun vs H2 F2 bs s2 hn2 nd2 hF2 trs=>?_⟩
 have apart:∀a∈as,∀b∈bs,a≠b:=fun a ha b hb z=>by
   subst z
   obtain⟨_,u,hu⟩:=tr.fs a ha
   rw[hn2 a hb]at hu;cases hu
 have mv2:Mv F1 H1 F2 H2:=fun b o n e=>⟨fun f=>((hF2 b).mp f).elim n (fun hb=>by rw[hn2 b hb]at e;cases e),s2 _ _ e⟩
 refine q (v::vs) H2 F2 (as++bs) (s1.trans s2) (fun b hb=>?_) (List.nodup_append.mpr ⟨nd,nd2,apart⟩) (fun b=>?_) ?_
 · rcases List.mem_append.mp hb with hb|hb
   ·exact hn b hb
   ·exact s1.free (hn2 b hb)
 ·rw[hF2 b,hF b,List.mem_append,or_assoc]
 · simp only[ak]
   exact⟨v,vs,as,bs,rfl,rfl,tr.mv mv2 fun b hb u f hu=>⟨(hF2 b).mpr (.inl f),s2 _ _ hu⟩,trs⟩
theorem v5{e:Expr}{es:List Expr}{f:Xt}{fs:List Xt}(h1:JX X e f)(h2:iJ X es (cG fs))(hs:starEach (e::es) X.env=(false,eval e X.env)::starEach es X.env:=by rfl):iJ X (e::es) (cG (f::fs)):=
 mI (L2.fL h1 h2 hs) fun σ H Q h=>yL (fun _ _ _ h=>h) (fun _ _ _ h=>h) h
theorem om:∀ {fs:List Xt} {ts:List T},cG fs ρ=.ok ts→ts.length=fs.length
 |[],ts,h=>by cases h;rfl
 | f::fs,ts,h=>by
   obtain⟨t,et,h⟩:=ai.mp h
   obtain⟨us,eu,h⟩:=ai.mp h
   cases h
   simp[om eu]
theorem vZ{ts:List T}{vs:List V}{p:Addr}(s1:af H H')(hn:∀b∈as,H b=none)(nd:as.Nodup)(hF:∀b,F' b↔F b∨b∈as)(tr:ak M H' F' ts vs as)(hp:H' p=none):
   af H (upd H' p (.lst vs))∧(∀b∈p::as,H b=none)∧(p::as).Nodup∧ah M (upd H' p (.lst vs)) (fun b=>F b∨b∈p::as) (.l ts) (.ref p) (p::as):=by
 have hpa:p∉as:=fun hb=>by obtain⟨_,u,hu⟩:=tr.fs p hb;rw[hp]at hu;cases hu
 refine⟨s1.trans (af.bL hp _),fun b hb=>?_,List.nodup_cons.mpr ⟨hpa,nd⟩,?_⟩
 · rcases List.mem_cons.mp hb with rfl|hb
   ·exact s1.free hp
   ·exact hn b hb
 · simp only[ah]
   refine⟨p,vs,as,rfl,rfl,.inr List.mem_cons_self,L2.bF,tr.mv (fun b o n e=>?_) fun b hb u f hu=>?_⟩
   · have hb:b≠p:=fun z=>by subst z;rw[hp]at e;cases e
     refine⟨fun f=>?_,by rw[L2.az hb];exact e⟩
     rcases f with f|f
     ·exact n ((hF b).mpr (.inl f))
     · rcases List.mem_cons.mp f with f|f
       ·exact hb f
       ·exact n ((hF b).mpr (.inr f))
   · have hb':b≠p:=fun z=>by subst z;exact hpa hb
     exact⟨.inr (List.mem_cons_of_mem _ hb),by rw[L2.az hb'];exact hu⟩
theorem zU{es:List Expr}{fs:List Xt}(h:iJ X es (cG fs))(hl:fs.length≤1000:=by decide):JX X (.List es pos) (xL fs):=
 bc (L2.lX h) fun σ H Q ⟨ρ,F,t,hr,e,q⟩=>by
   obtain⟨ts,ets,e⟩:=ai.mp e
   cases e
   refine⟨ρ,F,ts,hr,ets,fun vs H1 F1 as s1 hn nd hF tr=>⟨?_,fun p hp=>?_⟩⟩
   ·rw[←tr.len,om ets];exact Nat.le_trans hl (by decide)
   · obtain⟨a,b,c,d⟩:=vZ s1 hn nd hF tr hp
     exact q _ _ _ _ a b c (fun _=>Iff.rfl) d
theorem vE:JX X (.Dict [] [] pos) js:=
 bc L2.rR fun σ H Q ⟨ρ,F,t,hr,e,q⟩=>by
   cases e
   intro p hp
   refine q (.ref p) _ (fun b=>F b∨b∈[p]) [p] (af.bL hp _) (fun b hb=>by rw[List.mem_singleton.mp hb];exact hp) (by simp) (fun _=>Iff.rfl) ?_
   simp only[ah,ak]
   exact⟨p,[],[],rfl,rfl,.inr List.mem_cons_self,L2.bF,rfl,rfl,rfl⟩
theorem xi{es:List Expr}{fs:List Xt}{b:Expr}{fb:Ex}{p2:Pos}(h:iJ X es (cG fs))(hb:JE X b fb)(hl:fs.length≤1000:=by decide)(hs:L2.fu b:=by exact fun _ _=>rfl):JX X (.Subscript (.List es p2) b pos) (j7 fs fb):=
 bc (L2.me L2.mN (L2.lX h) hb hs) fun σ H Q ⟨ρ,F,t,hr,e,q⟩=>by
   obtain⟨ts,ets,e⟩:=ai.mp e
   obtain⟨x,ex,e⟩:=ai.mp e
   cases x with
   | int k=>
     have e:(match bI ts k with|some t=>R.ok t|none=>.bad)=.ok t:=e
     cases hat:bI ts k with
     |none=>rw[hat]at e;cases e
     | some t'=>
       rw[hat]at e;cases e
       refine⟨ρ,F,ts,hr,ets,fun vs H1 F1 as s1 hn nd hF tr=>⟨?_,fun p hp=>?_⟩⟩
       ·rw[←tr.len,om ets];exact Nat.le_trans hl (by decide)
       · obtain⟨mv1,r1⟩:=hr.wide s1 hn hF (fun b hb=>(tr.fs b hb).2)
         have su:af H1 (upd H1 p (.lst vs)):=af.bL hp _
         refine⟨ρ,F1,.int k,r1.same su,ex,fun y H2 s2 ry=>?_⟩
         obtain⟨j,w,_,h1,h2,h3⟩:=lA tr.len hat
         obtain⟨w',bs,e1,tr1,sub⟩:=tr.part h1
         rw[h2]at e1;cases e1
         refine .inl ⟨p,vs,k,w,rfl,aT ry,aM.of (s2 _ _ L2.bF),h3,?_⟩
         refine q w H2 (fun b=>F b∨b∈bs) bs (s1.trans (su.trans s2)) (fun b hb=>hn b (sub.subset hb)) (nd.sublist sub) (fun _=>Iff.rfl) ?_
         refine ah.less (F:=F1) (fun b f=>(hF b).mpr (f.imp id fun hb=>sub.subset hb)) (fun b hb=>.inr hb) (tr1.mv (Mv.same (su.trans s2)) fun b hb u f hu=>⟨f,s2 _ _ (su _ _ hu)⟩)
   |_=>cases e
theorem gn{i j:Nat}{x:Sp}(h:aX (ρ.set i (.on x)) j):i≠j∧aX ρ j:=by
 rcases h with⟨ds,q⟩|⟨ks,ds,q⟩
 · rcases get_set q with⟨_,z,_⟩|⟨hne,q⟩
   ·cases z
   ·exact⟨hne,.inl ⟨ds,q⟩⟩
 · rcases get_set q with⟨_,z,_⟩|⟨hne,q⟩
   ·cases z
   ·exact⟨hne,.inr ⟨ks,ds,q⟩⟩
theorem vf(h:kY ρ=true)(j:Nat)(x:Sp):ρ[j]? ≠some (.on x):=fun e=>by
 have:=List.all_eq_true.mp h _ (List.mem_of_getElem? e)
 cases this
theorem aN.wC{i:Nat}{t:T}{v:V}(r:aN M G F0 H F σ ρ)(no:kY ρ=true)(s1:af H H')(hn:∀b∈as,H b=none)(nd:as.Nodup)(hF:∀b,F' b↔F b∨b∈as)(tr:ah M H' F' t v as):
   Mv F H F' H'∧aN M G F0 H' F' (σ.set i (some v)) (ρ.set i (.on (.tr t))):=by
 obtain⟨mv,rs⟩:=r.rs.wide s1 hn hF (fun b hb=>(tr.fs b hb).2)
 have only:∀(j:Nat) x,(ρ.set i (.on (.tr t)))[j]? =some (.on x)→i=j∧x=.tr t∧i<ρ.length:=fun j x h=>by
   rcases get_set h with⟨h1,h2,h3⟩|⟨_,h⟩
   ·injection h2 with h2;exact⟨h1,h2.symm,h3⟩
   ·exact absurd h (vf no j x)
 have self:i<ρ.length→(σ.set i (some v))[i]? =some (some v):=fun h=>List.getElem?_set_self (by rw[←r.rs.len];exact h)
 have onat:∀(j:Nat) b,dh M H' F' (σ.set i (some v)) (ρ.set i (.on (.tr t))) j b→b∈as:=fun j b ⟨t1,v1,as1,e1,ev1,tr1,hb⟩=>by
   obtain⟨rfl,z,hl⟩:=only j _ e1
   cases z
   rw[self hl]at ev1
   cases ev1
   have:=ah.det tr tr1 fun _ _ _ _ hu=>hu
   subst this
   exact hb
 refine⟨mv,⟨⟨by simp[rs.len],rs.aU,fun j d q=>?_,fun j d q=>?_,fun j k d q=>?_,fun j k b oj ok ej ek=>?_,fun j x h=>?_⟩,r.sm.trans s1,fun b f=>(hF b).mpr (.inl (r.sub b f)),r.dm,fun j a oj e=>?_,fun j x b e hb=>r.sm.free (hn b (onat j b hb))⟩⟩
 · rcases get_set q with⟨_,z,_⟩|⟨hne,q⟩
   ·cases z
   · obtain⟨w,e1,g⟩:=rs.sh j d q
     exact⟨w,by rw[List.getElem?_set_ne hne];exact e1,g⟩
 · rcases get_set q with⟨_,z,_⟩|⟨hne,q⟩
   ·cases z
   · obtain⟨a,xs,e1,g⟩:=rs.ol j d q
     exact⟨a,xs,by rw[List.getElem?_set_ne hne];exact e1,g⟩
 · rcases get_set q with⟨_,z,_⟩|⟨hne,q⟩
   ·cases z
   · obtain⟨a,xs,e1,g⟩:=rs.od j k d q
     exact⟨a,xs,by rw[List.getElem?_set_ne hne];exact e1,g⟩
 · obtain⟨nj,oj⟩:=gn oj
   obtain⟨nk,ok⟩:=gn ok
   rw[List.getElem?_set_ne nj]at ej
   rw[List.getElem?_set_ne nk]at ek
   exact rs.bM j k b oj ok ej ek
 · obtain⟨rfl,rfl,hl⟩:=only j x h
   refine⟨⟨v,as,self hl,tr,nd⟩,fun b hb k ok ek=>?_,fun t1 _ k t2 hk=>((only k _ hk).1).symm⟩
   obtain⟨nk,ok⟩:=gn ok
   rw[List.getElem?_set_ne nk]at ek
   obtain⟨a,_,u,_,e1,_,e2,_⟩:=r.rs.ownAt ok
   rw[ek]at e1;cases e1
   rw[hn _ (onat _ _ hb)]at e2;cases e2
 · obtain⟨nj,oj⟩:=gn oj
   rw[List.getElem?_set_ne nj]at e
   exact r.own j a oj e
theorem yO(i:Nat){x:Str}{e:Expr}{f:Xt}{p2:Pos}(hN:X.N.Nodup)(he:JX X e f)(hi:X.N[i]? =some x:=by rfl)(hx:L2.Loc X.env.scope x:=by exact Or.inl rfl)(hf:X.fn x=true∨X.env.scope.names.lookup x=some .local:=by first|exact .inl rfl|exact .inr rfl)
   (hs:swapsWith e (some (.Name x p2)) pos.line X.env=pure false:=by rfl):JS X (.Assign [.Name x p2] e pos) (jB i f):=fun F0=>
 b9 (L2.mK hN hi hx he hs hf) fun D σ H ⟨ρ,F,fl,r,e,q⟩=>by
   obtain⟨t,et,e⟩:=ai.mp e
   by_cases no:kY ρ=true
   · rw[if_pos no]at e
     cases e
     refine⟨ρ,F,t,r.rs,et,fun v H1 F1 as s1 hn nd hF tr=>?_⟩
     obtain⟨mv,r'⟩:=r.wC (i:=i) no s1 hn nd hF tr
     exact q _ _ _ mv r'
   ·rw[if_neg no]at e;cases e
end
noncomputable abbrev Pt:=En→R (List Nat)
noncomputable def pN:Pt:=fun _=>.ok []
noncomputable def pI(i:Nat)(f:Pt)(e:Ex):Pt:=fun ρ=>(f ρ).bind fun p=>(e ρ).bind fun x=>match ρ[i]?,x with
 | some (.on (.tr t)),.int k=>match T.at t p with
   | some (.l ts)=>match bJ ts.length k with
     |some m=>.ok (p++[m])
     |none=>.bad
   |_=>.bad
 |_,_=>.bad
noncomputable def jS(j i:Nat)(f:Pt):Sm:=fun ρ=>(f ρ).bind fun p=>match ρ[i]? with
 | some (.on (.tr t))=>match T.at t p with
   |some t1=>if t1.own=true∧i≠j then .ok (.next (ρ.set j (.on (.al i p))))else .bad
   |none=>.bad
 |_=>.bad
noncomputable def cR(ρ:En)(j:Nat):Option (Nat×List Nat×T×T):=match ρ[j]? with
 | some (.on (.al i p))=>match ρ[i]? with
   | some (.on (.tr t))=>match T.at t p with
     |some t1=>some (i,p,t,t1)
     |none=>none
   |_=>none
 |_=>none
noncomputable def dj:List T→Option (List D)
 |[]=>some []
 |.d x::r=>(dj r).map (x:: ·)
 |_::_=>none
noncomputable def fq(j:Nat):Ex:=fun ρ=>match cR ρ j with
 |some (_,_,_,.m ks _)=>.ok (.int ks.length)
 |_=>.bad
noncomputable def gh(neg:Bool)(j:Nat)(k:Ex):Ex:=fun ρ=>(k ρ).bind fun q=>match cR ρ j,keyOf q with
 |some (_,_,_,.m ks _),some z=>.ok (.bl (if neg=true then !(ks.any fun a=>decide (a=z))else(ks.any fun a=>decide (a=z))))
 |_,_=>.bad
noncomputable def gI(i:Nat):Ex:=fun ρ=>match ρ[i]? with
 |some (.on (.tr (.l ts)))=>.ok (.int ts.length)
 |_=>.bad
noncomputable def j1(j:Nat)(k e:Ex):Sm:=fun ρ=>(e ρ).bind fun d=>(k ρ).bind fun q=>match cR ρ j,keyOf q with
 | some (i,p,t,.m ks ts),some z=>match dj ts with
   |some vs=>if ks.length<1000 then .ok (.next (ρ.set i (.on (.tr (T.put (.m (putL z d ks vs).1 ((putL z d ks vs).2.map .d)) t p)))))else .bad
   |none=>.bad
 |_,_=>.bad
noncomputable def kJ(i:Nat)(f:Xt):Sm:=fun ρ=>(f ρ).bind fun t=>match ρ[i]? with
 |some (.on (.tr (.l ts)))=>if ts.length<cU then .ok (.next (ρ.set i (.on (.tr (.l (ts++[t]))))))else .bad
 |_=>.bad
section
variable{X:Cx}{M:Md}{G H H':Hp}{F0 F F':Addr→Prop}{σ:L2.St}{ρ:En}{pos:Pos}{pins:List (Addr×Obj)}{s:Shared}{as:List Addr}
theorem mW:∀ {ts:List T} {vs:List D},dj ts=some vs→ts=vs.map .d
 |[],vs,h=>by cases h;rfl
 | .d x::r,vs,h=>by
   unfold dj at h
   cases e:dj r with
   |none=>rw[e]at h;cases h
   |some us=>rw[e]at h;cases h;rw[mW e];rfl
 |.l _::r,vs,h=>by cases h
 |.m _ _::r,vs,h=>by cases h
theorem aA.nB:∀ {p:List Nat} {t:T} {v:V} {t1:T} {w:V},aA H t v p t1 w→T.at t p=some t1
 | [],t,v,t1,w,h=>by
   have e':t=t1∧v=w:=by cases t<;>exact h
   rw[e'.1];cases t1<;>rfl
 | k::p,.l ts,v,t1,w,h=>by
   simp only[aA]at h
   obtain⟨a,xs,t2,x2,_,_,e1,_,h⟩:=h
   unfold T.at
   rw[e1]
   exact h.nB
 | k::p,.m ks ts,v,t1,w,h=>by
   simp only[aA]at h
   obtain⟨a,xs,t2,x2,_,_,_,e1,_,h⟩:=h
   unfold T.at
   rw[e1]
   exact h.nB
 |k::p,.d _,v,t1,w,h=>h.elim
theorem aA.snoc{ts:List T}{a:Addr}{xs:List V}{m:Nat}{t1:T}{x1:V}(ha:H a=some (.lst xs))(e1:ts[m]? =some t1)(e2:xs[m]? =some x1):∀ {p:List Nat} {t:T} {v:V},aA H t v p (.l ts) (.ref a)→aA H t v (p++[m]) t1 x1
 | [],t,v,h=>by
   have e':t=.l ts∧v=.ref a:=by cases t<;>exact h
   obtain⟨rfl,rfl⟩:=e'
   show aA H (.l ts) (.ref a) [m] t1 x1
   simp only[aA]
   refine⟨a,xs,t1,x1,rfl,ha,e1,e2,?_⟩
   cases t1<;>exact⟨rfl,rfl⟩
 | k::p,.l us,v,h=>by
   show aA H (.l us) v (k::(p++[m])) t1 x1
   simp only[aA]at h ⊢
   obtain⟨b,ys,t2,x2,h1,h2,h3,h4,h⟩:=h
   exact⟨b,ys,t2,x2,h1,h2,h3,h4,h.snoc ha e1 e2⟩
 | k::p,.m ks us,v,h=>by
   show aA H (.m ks us) v (k::(p++[m])) t1 x1
   simp only[aA]at h ⊢
   obtain⟨b,ys,t2,x2,h1,h2,h0,h3,h4,h⟩:=h
   exact⟨b,ys,t2,x2,h1,h2,h0,h3,h4,h.snoc ha e1 e2⟩
 |k::p,.d _,v,h=>h.elim
theorem T.m7{ts:List T}{m:Nat}:∀ {p:List Nat} {t:T},T.at t p=some (.l ts)→T.at t (p++[m])=ts[m]?
 | [],t,h=>by
   have:t=.l ts:=by cases t<;>(injection h)
   subst this
   show T.at (.l ts) [m]=_
   unfold T.at
   cases e:ts[m]? with
   |none=>rfl
   |some u=>cases u<;>rfl
 | k::p,.l us,h=>by
   show T.at (.l us) (k::(p++[m]))=_
   unfold T.at at h ⊢
   cases e:us[k]? with
   |none=>rw[e]at h;cases h
   |some u=>rw[e]at h;exact T.m7 h
 | k::p,.m ks us,h=>by
   show T.at (.m ks us) (k::(p++[m]))=_
   unfold T.at at h ⊢
   cases e:us[k]? with
   |none=>rw[e]at h;cases h
   |some u=>rw[e]at h;exact T.m7 h
 |k::p,.d _,h=>by cases h
noncomputable def um(M:Md)(i:Nat)(f:Pt):TE:=fun σ H Q=>∃ρ F t w p t1,aO M H F σ ρ∧ρ[i]? =some (.on (.tr t))∧σ[i]? =some (some w)∧f ρ=.ok p∧T.at t p=some t1∧∀v H',af H H'→aA H' t w p t1 v→Q v H'
noncomputable abbrev JL(X:Cx)(i:Nat)(e:Expr)(f:Pt):Prop:=PE X e (um (av X) i f)
theorem Af(i:Nat){x:Str}(hN:X.N[i]? =some x:=by rfl)(hv:L2.aZ X.env.scope x:=by first|exact Or.inl rfl|exact Or.inr (Or.inl rfl)|exact Or.inr (Or.inr rfl))(hd:(x==("__debug__":Str))=false:=by decide)
   (hcd:(x==("__classdict__":Str))=false:=by decide):JL X i (.Name x pos) pN:=
 bc (L2.pv i hN hv hd hcd) fun σ H Q ⟨ρ,F,t,w,p,t1,r,e1,e2,ef,eat,q⟩=>by
   cases ef
   have:t1=t:=by cases t<;>(injection eat with eat;exact eat.symm)
   subst this
   exact⟨w,e2,q w H (af.refl _) (by cases t1<;>exact⟨rfl,rfl⟩)⟩
theorem BZ{i:Nat}{a b:Expr}{f:Pt}{fb:Ex}(ha:JL X i a f)(hb:JE X b fb)(hs:L2.fu b:=by exact fun _ _=>rfl):JL X i (.Subscript a b pos) (pI i f fb):=
 bc (L2.me L2.mN ha hb hs) fun σ H Q ⟨ρ,F,t,w,p',t1,r,e1,e2,ef,eat,q⟩=>by
   obtain⟨p,ep,ef⟩:=ai.mp ef
   obtain⟨x,ex,ef⟩:=ai.mp ef
   rw[e1]at ef
   cases x with
   | int k=>
     have ef:(match T.at t p with|some (.l ts)=>(match bJ ts.length k with|some m=>R.ok (p++[m])|none=>.bad)|_=>.bad)=.ok p':=ef
     cases hat:T.at t p with
     |none=>rw[hat]at ef;cases ef
     | some t0=>
       rw[hat]at ef
       cases t0 with
       | l ts=>
         have ef:(match bJ ts.length k with|some m=>R.ok (p++[m])|none=>.bad)=.ok p':=ef
         cases hm:bJ ts.length k with
         |none=>rw[hm]at ef;cases ef
         | some m=>
           rw[hm]at ef
           cases ef
           refine⟨ρ,F,t,w,p,.l ts,r,e1,e2,ep,hat,fun v H1 s1 at1=>⟨ρ,F,.int k,r.same s1,ex,fun y H2 s2 ry=>?_⟩⟩
           have r2:=(r.same s1).same s2
           obtain⟨⟨w',as,ew,tr,nd⟩,_,_⟩:=r2.on i _ e1
           rw[e2]at ew;cases ew
           have tr1:=((r.same s1).on i _ e1).1
           obtain⟨w1,as1,ew1,tr1,_⟩:=tr1
           rw[e2]at ew1;cases ew1
           have at2:=at1.mv tr1 (H':=H2) fun b hb u f hu=>s2 _ _ hu
           obtain⟨bs,tp,_⟩:=aA.part tr at2
           simp only[ah]at tp
           obtain⟨a,xs,cs,rfl,rfl,fa,ha,trs⟩:=tp
           have h1:ts[m]? =some t1:=by rw[T.m7 hat]at eat;exact eat
           have hlen:=trs.len
           have hx:∃x1,xs[m]? =some x1:=by
             obtain⟨hl,_⟩:=List.getElem?_eq_some_iff.mp h1
             exact⟨xs[m]'(by omega),List.getElem?_eq_getElem (by omega)⟩
           obtain⟨x1,hx⟩:=hx
           have h3:bI xs k=some x1:=by unfold bI;rw[←hlen,hm];exact hx
           exact .inl ⟨a,xs,k,x1,rfl,aT ry,aM.of ha,h3,q x1 H2 (s1.trans s2) (at2.snoc ha h1 hx)⟩
       |_=>cases ef
   |_=>cases ef
theorem aA.same{t:T}{v w:V}{p:List Nat}{t1:T}{i:Nat}(r:aO M H F σ ρ)(e1:ρ[i]? =some (.on (.tr t)))(e2:σ[i]? =some (some v))(s1:af H H')(h:aA H t v p t1 w):aA H' t v p t1 w:=by
 obtain⟨⟨v',as,ev,tr,_⟩,_,_⟩:=r.on i _ e1
 rw[e2]at ev;cases ev
 exact h.mv tr fun b hb u f hu=>s1 _ _ hu
theorem aN.we{i j:Nat}{t:T}{w v:V}{p:List Nat}{t1:T}(r:aN M G F0 H F σ ρ)(e1:ρ[i]? =some (.on (.tr t)))(e2:σ[i]? =some (some w))(hat:aA H t w p t1 v)(ho:t1.own=true)(hij:i≠j):
   aN M G F0 H F (σ.set j (some v)) (ρ.set j (.on (.al i p))):=by
 have back:∀(k:Nat) b,dh M H F (σ.set j (some v)) (ρ.set j (.on (.al i p))) k b→j≠k∧dh M H F σ ρ k b:=fun k b ⟨t1,v1,as1,h1,hv1,tr1,hb⟩=>by
   rcases get_set h1 with⟨_,z,_⟩|⟨hne,h1⟩
   ·cases z
   · rw[List.getElem?_set_ne hne]at hv1
     exact⟨hne,t1,v1,as1,h1,hv1,tr1,hb⟩
 refine⟨⟨by simp[r.rs.len],r.rs.aU,fun k d q=>?_,fun k d q=>?_,fun k ks d q=>?_,fun k l b ok ol ek el=>?_,fun k x h=>?_⟩,r.sm,r.sub,r.dm,fun k a ok e=>?_,fun k x b e hb=>?_⟩
 · rcases get_set q with⟨_,z,_⟩|⟨hne,q⟩
   ·cases z
   · obtain⟨w,e1,g⟩:=r.rs.sh k d q
     exact⟨w,by rw[List.getElem?_set_ne hne];exact e1,g⟩
 · rcases get_set q with⟨_,z,_⟩|⟨hne,q⟩
   ·cases z
   · obtain⟨a,xs,e1,g⟩:=r.rs.ol k d q
     exact⟨a,xs,by rw[List.getElem?_set_ne hne];exact e1,g⟩
 · rcases get_set q with⟨_,z,_⟩|⟨hne,q⟩
   ·cases z
   · obtain⟨a,xs,e1,g⟩:=r.rs.od k ks d q
     exact⟨a,xs,by rw[List.getElem?_set_ne hne];exact e1,g⟩
 · obtain⟨nk,ok⟩:=gn ok
   obtain⟨nl,ol⟩:=gn ol
   rw[List.getElem?_set_ne nk]at ek
   rw[List.getElem?_set_ne nl]at el
   exact r.rs.bM k l b ok ol ek el
 · rcases get_set h with⟨rfl,z,hl⟩|⟨hne,h⟩
   · injection z with z
     subst z
     refine⟨fun t' h'=>?_,fun b hb=>absurd rfl (back _ b hb).1,fun t' ht=>nomatch ht⟩
     rw[List.getElem?_set_ne (Ne.symm hij),e1]at h'
     cases h'
     exact⟨w,v,t1,by rw[List.getElem?_set_ne (Ne.symm hij)];exact e2,List.getElem?_set_self (by rw[←r.rs.len];exact hl),hat,ho⟩
   · obtain⟨h1,h2,h3⟩:=r.rs.on k x h
     refine⟨?_,fun b hb l ol el=>?_,fun t' ht l t2 hl=>?_⟩
     · cases x with
       | tr t0=>
         obtain⟨v0,as0,ev0,tr0,nd0⟩:=h1
         exact⟨v0,as0,by rw[List.getElem?_set_ne hne];exact ev0,tr0,nd0⟩
       | al i0 p0=>
         intro t0 h0
         rcases get_set h0 with⟨_,z,_⟩|⟨hne0,h0⟩
         ·cases z
         · obtain⟨v0,w0,t2,a1,a2,a3,a4⟩:=h1 t0 h0
           exact⟨v0,w0,t2,by rw[List.getElem?_set_ne hne0];exact a1,by rw[List.getElem?_set_ne hne];exact a2,a3,a4⟩
     · obtain⟨nl,ol⟩:=gn ol
       rw[List.getElem?_set_ne nl]at el
       exact h2 b (back k b hb).2 l ol el
     · rcases get_set hl with⟨_,z,_⟩|⟨_,hl⟩
       ·cases z
       ·exact h3 t' ht l t2 hl
 · obtain⟨nk,ok⟩:=gn ok
   rw[List.getElem?_set_ne nk]at e
   exact r.own k a ok e
 · obtain⟨hne,hb⟩:=back k b hb
   rw[List.getElem?_set_ne hne]at e
   exact r.eS k x b e hb
theorem vh (j i:Nat) {x:Str} {e:Expr} {f:Pt} {p2:Pos} (hN:X.N.Nodup) (he:JL X i e f) (hi:X.N[j]? =some x:=by rfl) (hx:L2.Loc X.env.scope x:=by exact Or.inl rfl) (hf:X.fn x=true∨X.env.scope.names.lookup x=some .local:=by first|exact .inl rfl|exact .inr rfl)
   (hs:swapsWith e (some (.Name x p2)) pos.line X.env=pure false:=by rfl):JS X (.Assign [.Name x p2] e pos) (jS j i f):=fun F0=>
 b9 (L2.mK hN hi hx he hs hf) fun D σ H ⟨ρ,F,fl,r,e,q⟩=>by
   obtain⟨p,ep,e⟩:=ai.mp e
   cases h1:ρ[i]? with
   |none=>rw[h1]at e;cases e
   | some s=>
     rw[h1]at e
     cases s with
     | on x=>
       cases x with
       | tr t=>
         have e:(match T.at t p with|some t1=>if t1.own=true∧i≠j then R.ok (Fl.next (ρ.set j (.on (.al i p))))else .bad|none=>.bad)=.ok fl:=e
         cases hat:T.at t p with
         |none=>rw[hat]at e;cases e
         | some t1=>
           rw[hat]at e
           have e:(if t1.own=true∧i≠j then R.ok (Fl.next (ρ.set j (.on (.al i p))))else .bad)=.ok fl:=e
           by_cases hc:t1.own=true∧i≠j
           · rw[if_pos hc]at e
             cases e
             obtain⟨⟨w,as,ew,tr,nd⟩,_,_⟩:=r.rs.on i _ h1
             exact⟨ρ,F,t,w,p,t1,r.rs,h1,ew,ep,hat,fun v H1 s1 at1=>q _ _ F (.same s1) ((r.same s1).we h1 ew at1 hc.1 hc.2)⟩
           ·rw[if_neg hc]at e;cases e
       |al _ _=>cases e
     |_=>cases e
theorem wg{j i:Nat}{p:List Nat}{t t1:T}(h:cR ρ j=some (i,p,t,t1)):ρ[j]? =some (.on (.al i p))∧ρ[i]? =some (.on (.tr t))∧T.at t p=some t1:=by
 unfold cR at h
 split at h
 · rename_i i' p' h1
   split at h
   · rename_i t' h2
     split at h
     · rename_i t1' h3
       cases h
       exact⟨h1,h2,h3⟩
     ·cases h
   ·cases h
 ·cases h
theorem oy{j i:Nat}{p:List Nat}{t t1:T}(r:aO M H F σ ρ)(h:cR ρ j=some (i,p,t,t1)):
   ∃w v as bs,ρ[i]? =some (.on (.tr t))∧σ[i]? =some (some w)∧σ[j]? =some (some v)∧ah M H F t w as∧as.Nodup∧aA H t w p t1 v∧ah M H F t1 v bs∧bs.Sublist as:=by
 obtain⟨h1,h2,h3⟩:=wg h
 obtain⟨w,v,t2,a1,a2,a3,a4⟩:=(r.on j _ h1).1 t h2
 obtain⟨⟨w',as,ew,tr,nd⟩,_,_⟩:=r.on i _ h2
 rw[a1]at ew;cases ew
 have:=a3.nB
 rw[h3]at this;cases this
 obtain⟨bs,h4,h5⟩:=aA.part tr a3
 exact⟨w,v,as,bs,h2,a1,a2,tr,nd,a3,h4,h5⟩
theorem zl(j:Nat){x:Str}{p p2:Pos}(hg:L2.Gl X "len")(hm:X.mg "len"=none)(hN:X.N[j]? =some x:=by rfl)(hv:L2.aZ X.env.scope x:=by first|exact Or.inl rfl|exact Or.inr (Or.inl rfl)|exact Or.inr (Or.inr rfl))(hd:(x==("__debug__":Str))=false:=by decide)
   (hcd:(x==("__classdict__":Str))=false:=by decide) (hs:starEach [.Name x p2] X.env=(false,eval (.Name x p2) X.env)::starEach [] X.env:=by rfl):JE X (.Call (.Name "len" p) [.Name x p2] [] pos) (fq j):=
 bc (L2.ke yF hg hm cV (L2.fL (L2.pv j hN hv hd hcd) L2.fZ hs) (by decide) (by decide) hs) fun σ H Q ⟨ρ,F,d,hr,e,q⟩=>by
   unfold fq at e
   split at e
   · rename_i i p t ks ts q1
     cases e
     obtain⟨w,v,as,bs,_,_,ev,_,_,_,tr,_⟩:=oy hr q1
     simp only[ah]at tr
     obtain⟨a,xs,cs,rfl,rfl,fa,ha,hl,rs⟩:=tr
     refine⟨_,ev,a,_,rfl,.inl ha,q _ _ (af.refl _) ?_⟩
     rw[List.length_zip,show min ks.length xs.length=ks.length by omega];exact bW
   ·cases e
theorem yY(i:Nat){x:Str}{p p2:Pos}(hg:L2.Gl X "len")(hm:X.mg "len"=none)(hN:X.N[i]? =some x:=by rfl)(hv:L2.aZ X.env.scope x:=by first|exact Or.inl rfl|exact Or.inr (Or.inl rfl)|exact Or.inr (Or.inr rfl))(hd:(x==("__debug__":Str))=false:=by decide)
   (hcd:(x==("__classdict__":Str))=false:=by decide) (hs:starEach [.Name x p2] X.env=(false,eval (.Name x p2) X.env)::starEach [] X.env:=by rfl):JE X (.Call (.Name "len" p) [.Name x p2] [] pos) (gI i):=
 bc (L2.ke L2.nN hg hm cV (L2.fL (L2.pv i hN hv hd hcd) L2.fZ hs) (by decide) (by decide) hs) fun σ H Q ⟨ρ,F,d,hr,e,q⟩=>by
   unfold gI at e
   split at e
   · rename_i ts q1
     cases e
     obtain⟨⟨w,as,ew,tr,nd⟩,_,_⟩:=hr.on i _ q1
     simp only[ah]at tr
     obtain⟨a,xs,bs,rfl,rfl,fa,ha,trs⟩:=tr
     refine⟨_,ew,a,xs,rfl,.inl (aM.of ha),q _ _ (af.refl _) ?_⟩
     rw[trs.len];exact bW
   ·cases e
theorem lq{z:Ky}:∀ {ks:List Ky} {xs:List V},ks.length=xs.length→(L2.bO (ks.zip xs) z).isSome=(ks.any fun a=>decide (a=z))
 |[],xs,_=>by simp[L2.bO]
 |a::ks,[],h=>by simp at h
 | a::ks,x::xs,h=>by
   have ih:=lq (z:=z) (ks:=ks) (xs:=xs) (by simpa using h)
   unfold L2.bO at ih ⊢
   rw[List.zip_cons_cons,List.find?_cons,List.any_cons]
   by_cases hz:a=z
   ·simp[hz]
   · simp only[decide_eq_false hz,Bool.false_or]
     exact ih
noncomputable def qp:R2:=fun x y H Q=>∃p kvs,y=.ref p∧Rd H p (.dK kvs)∧∃k,x=L2.kV k∧Q (.bl (!(L2.bO kvs k).isSome)) H
theorem uK:aQ X (compareOp .NotIn) qp:=by
 intro pins s σ H x y v u Q I rx ry h
 obtain⟨p,kvs,rfl,hd,k,rfl,q⟩:=h
 cases ry
 obtain⟨z,hsys,vs,rel,dd⟩:=L2.mi I.ao hd
 refine wpAny_notIn_of (L2.jd rx) hsys dd.mapOf ?_
 rw[y9 rel]
 exact⟨.bl _,H,I.tok _,rfl,q⟩
theorem rA{neg:Bool}{j:Nat}{fl:Ex}{d:D}(h:gh neg j fl ρ=.ok d):∃q i p t ks ts z,fl ρ=.ok q∧cR ρ j=some (i,p,t,.m ks ts)∧keyOf q=some z∧d=.bl (if neg=true then !(ks.any fun a=>decide (a=z))else(ks.any fun a=>decide (a=z))):=by
 obtain⟨q,eq,h⟩:=ai.mp h
 cases h1:cR ρ j with
 |none=>rw[h1]at h;cases h
 | some y=>
   obtain⟨i,p,t,t1⟩:=y
   rw[h1]at h
   cases t1 with
   | m ks ts=>
     cases h2:keyOf q with
     |none=>rw[h2]at h;cases h
     |some z=>rw[h2]at h;cases h;exact⟨q,i,p,t,ks,ts,z,eq,rfl,h2,rfl⟩
   |_=>cases h
theorem xZ{fl:Ex}{j:Nat}{Q:VK}(h:tP M (gh true j fl) σ H Q):L2.iK qp (tP M fl) (L2.nW j) σ H Q:=by
 obtain⟨ρ,F,d,r,e,q⟩:=h
 obtain⟨y,i,p,t,ks,ts,z,ey,h1,h2,rfl⟩:=rA e
 refine⟨ρ,F,y,r,ey,fun x H1 s1 rx=>?_⟩
 obtain⟨w,v,as,bs,_,_,ev,_,_,_,tr,_⟩:=oy (r.same s1) h1
 simp only[ah]at tr
 obtain⟨a,xs,cs,rfl,rfl,fa,ha,hl,rs⟩:=tr
 refine⟨_,ev,a,_,rfl,.inl ha,z,iN h2 rx,?_⟩
 rw[lq hl]
 exact q _ _ s1 dW
theorem xY(j:Nat){x:Str}{l:Expr}{fl:Ex}{p2:Pos}(hl:JE X l fl)(hN:X.N[j]? =some x:=by rfl)(hv:L2.aZ X.env.scope x:=by first|exact Or.inl rfl|exact Or.inr (Or.inl rfl)|exact Or.inr (Or.inr rfl))(hd:(x==("__debug__":Str))=false:=by decide)
   (hcd:(x==("__classdict__":Str))=false:=by decide):JT X (.Compare l [.NotIn] [.Name x p2] pos) (tV (gh true j fl)):=
 lx (L2.qd uK hl (L2.pv j hN hv hd hcd) (by rfl)) fun σ H Q ⟨ρ,F,t,hr,e,q⟩=>by
   obtain⟨d,ed,e⟩:=ai.mp e
   refine xZ ⟨ρ,F,d,hr,ed,fun v H1 s1 rv=>?_⟩
   obtain⟨_,_,_,_,_,_,_,_,_,_,rfl⟩:=rA ed
   cases fA rv
   cases e
   exact⟨_,rfl,q H1 s1⟩
theorem aN.mm{i:Nat}{t n0 n1:T}{w:V}{p:List Nat}{c:Addr}{o:HO}(r:aN M G F0 H F σ ρ)(e1:ρ[i]? =some (.on (.tr t)))(e2:σ[i]? =some (some w))(hat:aA H t w p n0 (.ref c))(h0:ah M H F n0 (.ref c) [c])(o1:n1.own=true)(h1:ah M (upd H c o) F n1 (.ref c) [c]):
   Mv F H F (upd H c o)∧aN M G F0 (upd H c o) F σ (ρ.set i (.on (.tr (T.put n1 t p)))):=by
 obtain⟨⟨w',as,ew,tr,nd⟩,_,_⟩:=r.rs.on i _ e1
 rw[e2]at ew;cases ew
 obtain⟨fc,hc,tr'⟩:=ah.put h0 h1 tr nd hat
 exact r.so e1 e2 tr (fun b hb=>.inl hb) (fun b hb=>hb) (fun b u hb hu=>by rw[L2.az (fun z=>by subst z;exact hb hc)];exact hu) (fun b=>⟨.inl,fun h=>h.elim id fun hb=>(tr.fs b hb).1⟩) tr' nd
   fun q t1 w1 hq ho=>aA.put h0 o1 tr nd hat hq ho
theorem CF (j:Nat) {x:Str} {e k:Expr} {f g:Ex} {p2 p3:Pos} (hu:X.A.units+64<cLine) (hk:JE X k g) (he:JE X e f) (hN:X.N[j]? =some x:=by rfl) (hv:L2.aZ X.env.scope x:=by first|exact Or.inl rfl|exact Or.inr (Or.inl rfl)|exact Or.inr (Or.inr rfl)) (hd:(x==("__debug__":Str))=false:=by decide)
   (hcd:(x==("__classdict__":Str))=false:=by decide) (hs:swapsWith e (some (.Subscript (.Name x p2) k p3)) pos.line X.env=pure false:=by rfl):
   JS X (.Assign [.Subscript (.Name x p2) k p3] e pos) (j1 j g f):=fun F0=>
 b9 (L2.qJ (by omega) (L2.pv j hN hv hd hcd) hk he hs) fun D σ H ⟨ρ,F,fl,r,e,q⟩=>by
   obtain⟨d,ed,e⟩:=ai.mp e
   obtain⟨y,ey,e⟩:=ai.mp e
   have ⟨i,p,t,ks,ts,vs,z,q1,hk,hlv,e9⟩:∃i p t ks ts vs z,cR ρ j=some (i,p,t,.m ks ts)∧keyOf y=some z∧dj ts=some vs∧(if ks.length<1000 then R.ok (Fl.next (ρ.set i (.on (.tr (T.put (.m (putL z d ks vs).1 ((putL z d ks vs).2.map .d)) t p)))))else .bad)=.ok fl:=by
     cases h1:cR ρ j with
     |none=>rw[h1]at e;cases e
     | some yy=>
       obtain⟨i,p,t,t1⟩:=yy
       rw[h1]at e
       cases t1 with
       | m ks ts=>
         cases h2:keyOf y with
         |none=>rw[h2]at e;cases e
         | some z=>
           rw[h2]at e
           have e:(match dj ts with|some vs=>if ks.length<1000 then R.ok (Fl.next (ρ.set i (.on (.tr (T.put (.m (putL z d ks vs).1 ((putL z d ks vs).2.map .d)) t p)))))else .bad|none=>.bad)=.ok fl:=e
           cases h3:dj ts with
           |none=>rw[h3]at e;cases e
           |some vs=>rw[h3]at e;exact⟨i,p,t,ks,ts,vs,z,rfl,rfl,h3,e⟩
       |_=>cases e
   by_cases hlt:ks.length<1000
   · rw[if_pos hlt]at e9
     cases e9
     cases mW hlv
     obtain⟨w,v0,as,bs,h1,ew,ev0,tr,nd,hat,tr1,sub⟩:=oy r.rs q1
     have tr1':=tr1
     simp only[ah]at tr1
     obtain⟨a,xs,cs,rfl,rfl,fa,ha,hl,rst⟩:=tr1
     obtain⟨rfl,rs⟩:=gN.mp rst
     refine⟨ρ,F,d,r.rs,ed,fun v H1 s1 rv=>⟨_,ev0,ρ,F,y,(r.same s1).rs,ey,fun w2 H2 s2 rw'=>?_⟩⟩
     have r2:=(r.same s1).same s2
     have s12:=s1.trans s2
     have ha2:=s12 _ _ ha
     cases iN hk rw'
     have rv2:=rv.mv (M:=av X) (F':=F) (.same s2)
     have rs2:=rs.mv (M:=av X) (F':=F) (.same s12)
     have hat2:=hat.same r.rs h1 ew s12
     have tr2:ah (av X) H2 F (.m ks (vs.map .d)) (.ref a) [a]:=tr1'.mv (.same s12) fun b hb u f hu=>⟨f,s12 _ _ hu⟩
     have hzl:(ks.zip xs).length<sizeLine:=by
       have:(sizeLine:Nat)=16777216:=sizeLine_eq
       rw[List.length_zip];omega
     refine⟨a,_,rfl,L2.gM.k ha2 hzl,?_⟩
     rw[nL z v hl]
     have mvu:∀o:HO,Mv F H2 F (upd H2 a o):=fun o b u n e=>⟨n,by rw[L2.az (fun z=>by subst z;exact n fa)];exact e⟩
     unfold putL at q
     by_cases hm:(ks.any fun a=>decide (a=z))=true
     · rw[if_pos hm]at q ⊢
       obtain⟨mv,r'⟩:=r2.mm (n1:=.m ks ((List.zipWith (fun a y=>if a=z then d else y) ks vs).map .d)) (o:=.dK (ks.zip (List.zipWith (fun a x=>if a=z then v else x) ks xs))) h1 ew hat2 tr2 rfl (by
         simp only[ah]
         exact⟨a,_,[],rfl,rfl,fa,L2.bF,by rw[List.length_zipWith];omega,gN.mpr ⟨rfl,(mV rv2 rs2).mv (mvu _)⟩⟩)
       exact q _ _ _ (Mv.trans (.same s12) mv) r'
     · rw[if_neg hm]at q ⊢
       obtain⟨mv,r'⟩:=r2.mm (n1:=.m (ks++[z]) ((vs++[d]).map .d)) (o:=.dK ((ks++[z]).zip (xs++[v]))) h1 ew hat2 tr2 rfl (by
         simp only[ah]
         exact⟨a,_,[],rfl,rfl,fa,L2.bF,by rw[List.length_append,List.length_append,hl];rfl,gN.mpr ⟨rfl,(rs2.append (ab.cons rv2 ab.nil)).mv (mvu _)⟩⟩)
       exact q _ _ _ (Mv.trans (.same s12) mv) r'
   ·rw[if_neg hlt]at e9;cases e9
theorem ak.append:∀ {ts us:List T} {xs ys:List V} {as bs:List Addr},ak M H F ts xs as→ak M H F us ys bs→ak M H F (ts++us) (xs++ys) (as++bs)
 | [],_,_,_,_,_,h,g=>by
   simp only[ak]at h
   obtain⟨rfl,rfl⟩:=h
   exact g
 | t::ts,_,_,_,_,_,h,g=>by
   simp only[ak]at h
   obtain⟨x,r,bs,cs,rfl,rfl,h1,h2⟩:=h
   rw[List.cons_append,List.cons_append,List.append_assoc]
   simp only[ak]
   exact⟨x,_,bs,_,rfl,rfl,h1,h2.append g⟩
theorem xR (i:Nat) {x:Str} {e:Expr} {f:Xt} {p2 apos cpos:Pos} (he:JX X e f) (hN:X.N[i]? =some x:=by rfl) (hv:L2.aZ X.env.scope x:=by first|exact Or.inl rfl|exact Or.inr (Or.inl rfl)|exact Or.inr (Or.inr rfl)) (hd:(x==("__debug__":Str))=false:=by decide)
   (hcd:(x==("__classdict__":Str))=false:=by decide) (hbase:attributeBase (.Name x p2) "append" X.env (eval (.Name x p2) X.env)=eval (.Name x p2) X.env:=by rfl)
   (hfew:((backTo cpos (starEach [e] X.env)).all (fun x=> !x.1)&&(backToKw cpos (keywordEach [] X.env)).all (fun x=>x.1.isSome)
     &&decide (([e]:List Expr).length+([]:List Keyword).length+(if([]:List Keyword).isEmpty then 0 else 1)<30))=true:=by rfl)
   (hline:(apos.endLine==cpos.line)=true:=by rfl) (hs:starEach [e] X.env=(false,eval e X.env)::starEach [] X.env:=by rfl)
   (hsw:swapsWith (.Call (.Attribute (.Name x p2) "append" apos) [e] [] cpos) none pos.line X.env=pure false:=by rfl):
   JS X (.Expr (.Call (.Attribute (.Name x p2) "append" apos) [e] [] cpos) pos) (kJ i f):=fun F0=>
 b9 (L2.i5 (L2.i3 PySem.F.plainAttrs_list PySem.F.slot_list_append PySem.F.type_list_append L2.kx (L2.pv i hN hv hd hcd) (L2.fL he L2.fZ hs) hbase hfew hline hs) hsw) fun D σ H ⟨ρ,F,fl,r,e,q⟩=>by
   obtain⟨t,et,e⟩:=ai.mp e
   split at e
   · rename_i ts q1
     split at e
     · rename_i hlt
       cases e
       obtain⟨⟨w,as,ew,tr,nd⟩,_,_⟩:=r.rs.on i _ q1
       have tr0:=tr
       simp only[ah]at tr
       obtain⟨a,xs,bs,rfl,rfl,fa,ha,trs⟩:=tr
       refine⟨_,ew,.inl ⟨rfl,xs,aM.of ha⟩,ρ,F,t,r.rs,et,fun v H1 F1 cs s1 hn ndc hF trc=>?_⟩
       refine⟨a,xs,v,rfl,rfl,s1 _ _ ha,by rw[←trs.len];exact hlt,?_⟩
       have ndb:=List.nodup_cons.mp nd
       have hac:a∉cs:=fun h=>by rw[hn a h]at ha;cases ha
       have hold:∀b∈bs,b≠a:=fun b hb z=>by subst z;exact ndb.1 hb
       have hbc:∀b∈bs,∀c∈cs,b≠c:=fun b hb c hc z=>by
         subst z
         obtain⟨_,u,hu⟩:=trs.fs b hb
         rw[hn b hc]at hu;cases hu
       have mv1:Mv F H F1 (upd H1 a (.lst (xs++[v]))):=fun b o n eo=>⟨fun fb=>((hF b).mp fb).elim n (fun hb=>by rw[hn b hb]at eo;cases eo),by rw[L2.az (fun z=>by subst z;exact n fa)];exact s1 _ _ eo⟩
       have keep:∀b∈bs,∀u,F b→H b=some u→F1 b∧upd H1 a (.lst (xs++[v])) b=some u:=fun b hb u fb hu=>⟨(hF b).mpr (.inl fb),by rw[L2.az (hold b hb)];exact s1 _ _ hu⟩
       have trs':ak (av X) (upd H1 a (.lst (xs++[v]))) F1 (ts++[t]) (xs++[v]) (bs++cs):=by
         refine ak.append (ak.mv mv1 keep trs) ?_
         rw[show cs=cs++[] by simp]
         simp only[ak]
         refine⟨v,[],cs,[],rfl,rfl,trc.mv (fun b o n eo=>⟨n,by rw[L2.az (fun z=>by subst z;exact n ((hF _).mpr (.inl fa)))];exact eo⟩) fun b hb u fb hu=>⟨fb,?_⟩,rfl,rfl⟩
         rw[L2.az (fun z=>by subst z;exact hac hb)];exact hu
       obtain ⟨mv,r'⟩:=r.so (H':=upd H1 a (.lst (xs++[v]))) (F':=F1) (as':=a::(bs++cs)) (t':=.l (ts++[t])) q1 ew tr0
         (fun b hb=>by
           rcases List.mem_cons.mp hb with rfl|hb
           ·exact .inl List.mem_cons_self
           · rcases List.mem_append.mp hb with hb|hb
             ·exact .inl (List.mem_cons_of_mem _ hb)
             ·exact .inr (hn b hb))
         (fun b hb=>by
           rcases List.mem_cons.mp hb with rfl|hb
           ·exact List.mem_cons_self
           ·exact List.mem_cons_of_mem _ (List.mem_append_left _ hb))
         (fun b u hb hu=>by rw[L2.az (fun z=>by subst z;exact hb List.mem_cons_self)];exact s1 _ _ hu)
         (fun b=>by
           rw[hF b]
           constructor
           · rintro(h|h)
             ·exact .inl h
             ·exact .inr (List.mem_cons_of_mem _ (List.mem_append_right _ h))
           · rintro(h|h)
             ·exact .inl h
             · rcases List.mem_cons.mp h with rfl|h
               ·exact .inl fa
               · rcases List.mem_append.mp h with h|h
                 ·exact .inl (trs.fs b h).1
                 ·exact .inr h)
         (by simp only[ah];exact⟨a,_,_,rfl,rfl,(hF a).mpr (.inl fa),L2.bF,trs'⟩)
         (List.nodup_cons.mpr ⟨fun h=>by
           rcases List.mem_append.mp h with h|h
           ·exact ndb.1 h
           ·exact hac h,List.nodup_append.mpr ⟨ndb.2,ndc,hbc⟩⟩)
         (fun p t1 w1 hp ho=>by
           cases p with
           | nil=>
             obtain⟨_,rfl⟩:T.l ts=t1∧V.ref a=w1:=hp
             exact⟨.l (ts++[t]),rfl,rfl,rfl⟩
           | cons k p=>
             simp only[aA]at hp
             obtain⟨a',ys,t2,x2,ea',e2',e3,e4,hp⟩:=hp
             cases ea'
             have e9:ys=xs:=by rw[ha]at e2';injection e2' with z;injection z with z;exact z.symm
             subst e9
             refine⟨t1,ho,?_⟩
             simp only[aA]
             obtain⟨hk1,_⟩:=List.getElem?_eq_some_iff.mp e3
             obtain⟨hk2,_⟩:=List.getElem?_eq_some_iff.mp e4
             obtain⟨x2',ds,ex2,r2,sub⟩:=trs.part e3
             rw[e4]at ex2;cases ex2
             exact⟨a,_,t2,x2,rfl,L2.bF,by rw[List.getElem?_append_left hk1];exact e3,by rw[List.getElem?_append_left hk2];exact e4,aA.mv r2 (fun b hb u fb hu=>(keep b (sub.subset hb) u fb hu).2) hp⟩)
       exact q _ _ _ mv r'
     ·cases e
   ·cases e
end
noncomputable def mz(i:Nat):Sm:=fun ρ=>match ρ[i]? with
 |some (.on (.tr t))=>.ok (.next (ρ.set i (.sh (T.toD t))))
 |_=>.bad
mutual
noncomputable def T.fQ:T→Bool
 |.d _=>true
 |.l ts=>T.gB ts
 |.m _ _=>false
noncomputable def T.gB:List T→Bool
 |[]=>true
 |t::ts=>T.fQ t&&T.gB ts
end
noncomputable def g9(i:Nat)(f:Ex):Ex:=fun ρ=>match ρ[i]? with
 |some (.on (.tr t))=>if T.fQ t=true then(f (ρ.set i (.sh (T.toD t)))).bind fun d=>if du d=true then .ok d else .bad else .bad
 |_=>.bad
noncomputable def lH(i:Nat)(f:Pt):Sm:=fun ρ=>(f ρ).bind fun p=>match ρ[i]? with
 | some (.on (.tr t))=>match T.at t p with
   | some (.l ts)=>match dj ts with
     |some _=>.ok (.next (ρ.set i (.on (.tr (T.put (.l []) t p)))))
     |none=>.bad
   |_=>.bad
 |_=>.bad
noncomputable def mH(i:Nat)(f:Pt)(e:Ex):Sm:=fun ρ=>(f ρ).bind fun p=>(e ρ).bind fun d=>match ρ[i]? with
 | some (.on (.tr t))=>match T.at t p with
   | some (.l ts)=>match dj ts with
     |some vs=>if vs.length<cU then .ok (.next (ρ.set i (.on (.tr (T.put (.l ((vs++[d]).map .d)) t p)))))else .bad
     |none=>.bad
   |_=>.bad
 |_=>.bad
section
variable{X:Cx}{M:Md}{G H H':Hp}{F0 F F':Addr→Prop}{σ:L2.St}{ρ:En}{pos:Pos}{pins:List (Addr×Obj)}{s:Shared}{as:List Addr}
mutual
theorem ah.frz:∀ {t:T} {H:Hp} {v:V} {as:List Addr},Inv X pins σ H s→ah M H F t v as→as.Nodup→∃H',Inv X pins σ H' s∧(∀b,b∉as→H' b=H b)∧∀H2 F',Mv F H F' H2→(∀b∈as,¬F' b∧H2 b=H' b)→Rep M H2 F' (T.toD t) v
 | .d x,H,v,as,I,h,_=>by
   simp only[ah]at h
   exact⟨H,I,fun _ _=>rfl,fun H2 F' mv _=>h.2.mv mv⟩
 | .l ts,H,v,as,I,h,nd=>by
   simp only[ah]at h
   obtain⟨a,xs,bs,rfl,rfl,f,e2,r⟩:=h
   have nd2:=List.nodup_cons.mp nd
   obtain⟨H1,I1,h1,k1⟩:=ak.frz I r nd2.2
   refine⟨H1,I1,fun b hb=>h1 b fun hb2=>hb (List.mem_cons_of_mem _ hb2),fun H2 F' mv k=>?_⟩
   obtain⟨na,ea⟩:=k a List.mem_cons_self
   rw[h1 a nd2.1,e2]at ea
   simp only[T.toD,Rep]
   exact⟨a,xs,rfl,.inl ⟨na,.inl ea⟩,k1 H2 F' mv fun b hb=>k b (List.mem_cons_of_mem _ hb)⟩
 | .m ks ts,H,v,as,I,h,nd=>by
   simp only[ah]at h
   obtain⟨a,xs,bs,rfl,rfl,f,e2,l,r⟩:=h
   have nd2:=List.nodup_cons.mp nd
   obtain⟨H1,I1,h1,k1⟩:=ak.frz I r nd2.2
   have ha:H1 a=some (.dK (ks.zip xs)):=by rw[h1 a nd2.1];exact e2
   obtain⟨ob,I2⟩:=nv I1 ha
   refine⟨_,I2,fun b hb=>?_,fun H2 F' mv k=>?_⟩
   · have hb':b≠a:=fun z=>by subst z;exact hb List.mem_cons_self
     rw[L2.az hb'];exact h1 b fun hb2=>hb (List.mem_cons_of_mem _ hb2)
   · obtain⟨na,ea⟩:=k a List.mem_cons_self
     rw[L2.bF]at ea
     simp only[T.toD,Rep]
     refine⟨a,xs,rfl,.inl ⟨na,ob,ea⟩,l,k1 H2 F' mv fun b hb=>?_⟩
     obtain⟨nb,eb⟩:=k b (List.mem_cons_of_mem _ hb)
     have hb':b≠a:=fun z=>by subst z;exact nd2.1 hb
     rw[L2.az hb']at eb
     exact⟨nb,eb⟩
theorem ak.frz:∀ {ts:List T} {H:Hp} {xs:List V} {as:List Addr},Inv X pins σ H s→ak M H F ts xs as→as.Nodup→∃H',Inv X pins σ H' s∧(∀b,b∉as→H' b=H b)∧∀H2 F',Mv F H F' H2→(∀b∈as,¬F' b∧H2 b=H' b)→ab M H2 F' (T.dn ts) xs
 | [],H,xs,as,I,h,_=>by
   simp only[ak]at h
   obtain⟨rfl,rfl⟩:=h
   exact⟨H,I,fun _ _=>rfl,fun H2 F' mv _=>ab.nil⟩
 | t::ts,H,xs,as,I,h,nd=>by
   simp only[ak]at h
   obtain⟨x,r,bs,cs,rfl,rfl,h1,h2⟩:=h
   have nd2:=List.nodup_append.mp nd
   obtain⟨H1,I1,o1,k1⟩:=ah.frz I h1 nd2.1
   have fs1:=h1.fs
   have mv1:Mv F H F H1:=fun b o n e=>⟨n,by rw[o1 b fun hb=>n (fs1 b hb).1];exact e⟩
   have h2':ak M H1 F ts r cs:=ak.mv mv1 (fun b hb u f hu=>⟨f,by rw[o1 b fun hb2=>nd2.2.2 b hb2 b hb rfl];exact hu⟩) h2
   obtain⟨H2,I2,o2,k2⟩:=ak.frz I1 h2' nd2.2.1
   refine⟨H2,I2,fun b hb=>?_,fun H3 F' mv k=>?_⟩
   ·rw[o2 b fun hb2=>hb (List.mem_append_right _ hb2),o1 b fun hb2=>hb (List.mem_append_left _ hb2)]
   · show ab M H3 F' (T.toD t::T.dn ts) (x::r)
     refine ab.cons (k1 H3 F' mv fun b hb=>?_) (k2 H3 F' (fun b o n e=>?_) fun b hb=>k b (List.mem_append_right _ hb))
     · obtain⟨nb,eb⟩:=k b (List.mem_append_left _ hb)
       rw[o2 b fun hb2=>nd2.2.2 b hb b hb2 rfl]at eb
       exact⟨nb,eb⟩
     · rw[o1 b fun hb=>n (fs1 b hb).1]at e
       exact mv b o n e
end
theorem aO.r9{i:Nat}{t:T}{w:V}{d:D}(r:aO M H F σ ρ)(e1:ρ[i]? =some (.on (.tr t)))(e2:σ[i]? =some (some w))(tr:ah M H F t w as)(hH:∀b,b∉as→H' b=H b)(hF:∀b,F' b↔F b∧b∉as)(hd:Rep M H' F' d w):
   Mv F H F' H'∧aO M H' F' σ (ρ.set i (.sh d)):=by
 have fs:=tr.fs
 have mv:Mv F H F' H':=fun b o n e=>⟨fun h=>n ((hF b).mp h).1,by rw[hH b fun hb=>n (fs b hb).1];exact e⟩
 have ro:=r.on i _ e1
 have at0:∀b∈as,dh M H F σ ρ i b:=fun b hb=>⟨t,w,as,e1,e2,tr,hb⟩
 have keep:∀(j:Nat) b u,aX ρ j→σ[j]? =some (some (.ref b))→F b→H b=some u→F' b∧H' b=some u:=fun j b u oj ej fb hu=>by
   have hb:b∉as:=fun hb=>ro.2.1 b (at0 b hb) j oj ej
   exact⟨(hF b).mpr ⟨fb,hb⟩,by rw[hH b hb];exact hu⟩
 refine⟨mv,⟨by simp[r.len],fun b h=>?_,fun j e q=>?_,fun j ds q=>?_,fun j ks ds q=>?_,fun j k b oj ok ej ek=>r.bM j k b oj.df.2 ok.df.2 ej ek,?_⟩⟩
 · obtain⟨f,hb⟩:=(hF b).mp h
   obtain⟨o,e⟩:=r.aU b f
   exact⟨o,by rw[hH b hb];exact e⟩
 · rcases get_set q with⟨rfl,hx,hl⟩|⟨hne,q⟩
   · cases hx
     exact⟨_,e2,hd⟩
   · obtain⟨w,e1,g⟩:=r.sh j e q
     exact⟨w,e1,g.mv mv⟩
 · rcases get_set q with⟨rfl,x,hl⟩|⟨hne,q⟩
   ·cases x
   · obtain⟨b,ys,e1,f,e3,g⟩:=r.ol j ds q
     obtain⟨f',e'⟩:=keep j b _ (.inl ⟨_,q⟩) e1 f e3
     exact⟨b,ys,e1,f',e',g.mv mv⟩
 · rcases get_set q with⟨rfl,x,hl⟩|⟨hne,q⟩
   ·cases x
   · obtain⟨b,ys,e1,f,e3,l,g⟩:=r.od j ks ds q
     obtain⟨f',e'⟩:=keep j b _ (.inr ⟨_,_,q⟩) e1 f e3
     exact⟨b,ys,e1,f',e',l,g.mv mv⟩
 · have old:∀(j:Nat) x,(ρ.set i (.sh d))[j]? =some (.on x)→i≠j∧ρ[j]? =some (.on x):=fun j x e=>by
     rcases get_set e with⟨_,z,_⟩|⟨hne,e⟩
     ·cases z
     ·exact⟨hne,e⟩
   refine r.on.mv mv (fun j x e=>⟨(old j x e).2,rfl⟩) (fun j x b u e hb f hu=>?_) fun j x b e hb k ok=>(r.on j x (old j x e).2).2.1 b hb k ok.df.2
   obtain⟨t2,v2,as2,h2,_⟩:=hb
   exact absurd (ro.2.2 t rfl j t2 h2).symm (old j x e).1
theorem zm(i:Nat){rest:List Stmt}{fs:List Sm}(h:cN X rest (aw fs)):cN X rest (aw (mz i::fs)):=fun F0 pins s σ H D I ⟨ρ,F,fl,r,e,q⟩=>by
 obtain⟨f1,e1,e⟩:=ai.mp e
 unfold mz at e1
 split at e1
 · rename_i t q1
   cases e1
   obtain⟨⟨w,as,ew,tr,nd⟩,_,_⟩:=r.rs.on i _ q1
   obtain⟨H1,I1,o1,k1⟩:=ah.frz I tr nd
   have fs1:=tr.fs
   have mv0:Mv F H (fun b=>F b∧b∉as) H1:=fun b o n e=>⟨fun h=>n h.1,by rw[o1 b fun hb=>n (fs1 b hb).1];exact e⟩
   obtain⟨mv,rs⟩:=r.rs.r9 q1 ew tr o1 (F':=fun b=>F b∧b∉as) (fun _=>Iff.rfl) (k1 H1 _ mv0 fun b hb=>⟨fun h=>h.2 hb,rfl⟩)
   have hG:∀b∈as,X.fH b=none:=fun b hb=>r.eS i _ b q1 ⟨t,w,as,q1,ew,tr,hb⟩
   refine h F0 pins s σ H1 D I1 ⟨_,_,fl,⟨rs,fun b u hb=>?_,fun b f=>⟨r.sub b f,fun hb=>?_⟩,r.dm,fun j b oj ej=>r.own j b oj.df.2 ej,fun j x b ex hb=>?_⟩,e,q.mv mv⟩
   ·rw[o1 b fun hb2=>by rw[hG b hb2]at hb;cases hb];exact r.sm b u hb
   · obtain⟨o,eo⟩:=r.dm b f
     rw[hG b hb]at eo;cases eo
   · obtain⟨t2,v2,as2,h2,_⟩:=hb
     rcases get_set h2 with⟨_,z,_⟩|⟨hne,h2⟩
     ·cases z
     ·exact absurd ((r.rs.on i _ q1).2.2 t rfl j t2 h2).symm hne
 ·cases e1
mutual
theorem ah.ky:∀ {t:T} {v:V} {as:List Addr},T.fQ t=true→ah M H F t v as→(∀b∈as,∃xs,H b=some (.lst xs))∧∀F',Mv F H F' H→(∀b∈as,¬F' b)→Rep M H F' (T.toD t) v
 | .d x,v,as,_,h=>by
   simp only[ah]at h
   obtain⟨rfl,h⟩:=h
   exact⟨(fun b hb=>by cases hb),fun F' mv _=>h.mv mv⟩
 | .l ts,v,as,n,h=>by
   simp only[ah]at h
   obtain⟨a,xs,bs,rfl,rfl,f,e2,r⟩:=h
   obtain⟨h1,k1⟩:=ak.ky (by unfold T.fQ at n;exact n) r
   refine⟨fun b hb=>?_,fun F' mv k=>?_⟩
   · rcases List.mem_cons.mp hb with rfl|hb
     ·exact⟨_,e2⟩
     ·exact h1 b hb
   · simp only[T.toD,Rep]
     exact⟨a,xs,rfl,.inl ⟨k a List.mem_cons_self,.inl e2⟩,k1 F' mv fun b hb=>k b (List.mem_cons_of_mem _ hb)⟩
 |.m _ _,v,as,n,h=>by unfold T.fQ at n;cases n
theorem ak.ky:∀ {ts:List T} {xs:List V} {as:List Addr},T.gB ts=true→ak M H F ts xs as→(∀b∈as,∃xs,H b=some (.lst xs))∧∀F',Mv F H F' H→(∀b∈as,¬F' b)→ab M H F' (T.dn ts) xs
 | [],xs,as,_,h=>by
   simp only[ak]at h
   obtain⟨rfl,rfl⟩:=h
   exact⟨(fun b hb=>by cases hb),fun F' mv _=>ab.nil⟩
 | t::ts,xs,as,n,h=>by
   simp only[ak]at h
   obtain⟨x,r,bs,cs,rfl,rfl,h1,h2⟩:=h
   unfold T.gB at n
   rw[Bool.and_eq_true]at n
   obtain⟨a1,k1⟩:=ah.ky n.1 h1
   obtain⟨a2,k2⟩:=ak.ky n.2 h2
   refine⟨fun b hb=>(List.mem_append.mp hb).elim (a1 b) (a2 b),fun F' mv k=>?_⟩
   show ab M H F' (T.toD t::T.dn ts) (x::r)
   exact ab.cons (k1 F' mv fun b hb=>k b (List.mem_append_left _ hb)) (k2 F' mv fun b hb=>k b (List.mem_append_right _ hb))
end
theorem C8 (i:Nat) {e:Expr} {f:Ex} (h:JE X e f):JE X e (g9 i f):=
 bc h fun σ H Q ⟨ρ,F,d,hr,e,q⟩=>by
   unfold g9 at e
   split at e
   · rename_i t q1
     by_cases hm:T.fQ t=true
     · rw[if_pos hm]at e
       obtain⟨d',ed,e⟩:=ai.mp e
       by_cases hf:PL.du d'=true
       · rw[if_pos hf]at e
         cases e
         obtain⟨⟨w,as,ew,tr,nd⟩,_,_⟩:=hr.on i _ q1
         obtain⟨a1,k1⟩:=ah.ky hm tr
         obtain⟨mv,rs⟩:=hr.r9 (H':=H) (F':=fun b=>F b∧b∉as) q1 ew tr (fun _ _=>rfl) (fun _=>Iff.rfl) (k1 _ (fun b o n e=>⟨fun h=>n h.1,e⟩) fun b hb h=>h.2 hb)
         have out:Out F (fun b=>F b∧b∉as) H:=fun b f=>by
           by_cases hb:b∈as
           · obtain⟨xs,hx⟩:=a1 b hb
             exact .inr ⟨_,hx,.inl ⟨xs,rfl⟩⟩
           ·exact .inl ⟨f,hb⟩
         exact⟨_,_,_,rs,ed,fun v H1 s1 rv=>q v H1 s1 (Rep.du (Out.same out s1) hf rv)⟩
       ·rw[if_neg hf]at e;cases e
     ·rw[if_neg hm]at e;cases e
   ·cases e
theorem oV{i:Nat}{t:T}{w v:V}{p:List Nat}{vs:List D}(r:aO M H F σ ρ)(e1:ρ[i]? =some (.on (.tr t)))(e2:σ[i]? =some (some w))(h:aA H t w p (.l (vs.map .d)) v):∃a xs,v=.ref a∧F a∧H a=some (.lst xs)∧ab M H F vs xs∧ah M H F (.l (vs.map .d)) (.ref a) [a]:=by
 obtain⟨⟨w',as,ew,tr,nd⟩,_,_⟩:=r.on i _ e1
 rw[e2]at ew;cases ew
 obtain⟨bs,tp,_⟩:=aA.part tr h
 have tp':=tp
 simp only[ah]at tp
 obtain⟨a,xs,cs,rfl,rfl,fa,ha,trs⟩:=tp
 obtain⟨rfl,rs⟩:=gN.mp trs
 exact⟨a,xs,rfl,fa,ha,rs,tp'⟩
theorem Co(i:Nat){o:Expr}{f:Pt}{apos cpos:Pos}(ho:JL X i o f)(hbase:attributeBase o "clear" X.env (eval o X.env)=eval o X.env)
   (hline:(apos.endLine==cpos.line)=true) (hsw:swapsWith (.Call (.Attribute o "clear" apos) [] [] cpos) none pos.line X.env=pure false):
   JS X (.Expr (.Call (.Attribute o "clear" apos) [] [] cpos) pos) (lH i f):=fun F0=>
 b9 (L2.i5 (L2.yg PySem.F.plainAttrs_list PySem.F.slot_list_clear PySem.F.type_list_clear L2.Al ho hbase hline) hsw) fun D σ H ⟨ρ,F,fl,r,e,q⟩=>by
   obtain⟨p,ep,e⟩:=ai.mp e
   split at e
   · rename_i t q1
     split at e
     · rename_i ts q2
       split at e
       · rename_i vs q3
         cases e
         cases mW q3
         obtain⟨⟨w,as,ew,tr,nd⟩,_,_⟩:=r.rs.on i _ q1
         refine⟨ρ,F,t,w,p,_,r.rs,q1,ew,ep,q2,fun v H1 s1 at1=>?_⟩
         have r1:=r.same s1
         obtain⟨a,xs,rfl,fa,ha,rs,tp⟩:=oV r1.rs q1 ew at1
         refine⟨.inl ⟨rfl,xs,aM.of ha⟩,a,xs,rfl,rfl,ha,?_⟩
         obtain⟨mv,r'⟩:=r1.mm (n1:=.l []) (o:=.lst []) q1 ew at1 tp rfl (by simp only[ah,ak];exact⟨a,[],[],rfl,rfl,fa,L2.bF,rfl,rfl⟩)
         exact q _ _ _ (Mv.trans (.same s1) mv) r'
       ·cases e
     ·cases e
   ·cases e
theorem x6 (i:Nat) {o e:Expr} {f:Pt} {g:Ex} {apos cpos:Pos} (ho:JL X i o f) (he:JE X e g) (hbase:attributeBase o "append" X.env (eval o X.env)=eval o X.env)
   (hfew:((backTo cpos (starEach [e] X.env)).all (fun x=> !x.1)&&(backToKw cpos (keywordEach [] X.env)).all (fun x=>x.1.isSome)
     &&decide (([e]:List Expr).length+([]:List Keyword).length+(if([]:List Keyword).isEmpty then 0 else 1)<30))=true)
   (hline:(apos.endLine==cpos.line)=true) (hs:starEach [e] X.env=(false,eval e X.env)::starEach [] X.env)
   (hsw:swapsWith (.Call (.Attribute o "append" apos) [e] [] cpos) none pos.line X.env=pure false):
   JS X (.Expr (.Call (.Attribute o "append" apos) [e] [] cpos) pos) (mH i f g):=fun F0=>
 b9 (L2.i5 (L2.i3 PySem.F.plainAttrs_list PySem.F.slot_list_append PySem.F.type_list_append L2.kx ho (cL he dM hs) hbase hfew hline hs) hsw) fun D σ H ⟨ρ,F,fl,r,e,q⟩=>by
   obtain⟨p,ep,e⟩:=ai.mp e
   obtain⟨d,ed,e⟩:=ai.mp e
   split at e
   · rename_i t q1
     split at e
     · rename_i ts q2
       split at e
       · rename_i vs q3
         split at e
         · rename_i hlt
           cases e
           cases mW q3
           obtain⟨⟨w,as,ew,tr,nd⟩,_,_⟩:=r.rs.on i _ q1
           refine⟨ρ,F,t,w,p,_,r.rs,q1,ew,ep,q2,fun v H1 s1 at1=>?_⟩
           have r1:=r.same s1
           obtain⟨a,xs,rfl,fa,ha,rs,tp⟩:=oV r1.rs q1 ew at1
           refine⟨.inl ⟨rfl,xs,aM.of ha⟩,ρ,F,[d],r1.rs,by show(g ρ).bind _=_;rw[ed];rfl,fun us H2 s2 rv=>?_⟩
           obtain⟨y,rfl,ry⟩:=rv.one
           have r2:=r1.same s2
           have at2:=at1.same r1.rs q1 ew s2
           obtain⟨a',xs',ea',fa',ha',rs',tp'⟩:=oV r2.rs q1 ew at2
           cases ea'
           have e9:xs'=xs:=by rw[s2 _ _ ha]at ha';injection ha' with z;injection z with z;exact z.symm
           subst e9
           refine⟨a,xs',y,rfl,rfl,ha',by rw[←rs.length];exact hlt,?_⟩
           have mvu:∀o:HO,Mv F H2 F (upd H2 a o):=fun o b u n e=>⟨n,by rw[L2.az (fun z=>by subst z;exact n fa)];exact e⟩
           obtain⟨mv,r'⟩:=r2.mm (n1:=.l ((vs++[d]).map .d)) (o:=.lst (xs'++[y])) q1 ew at2 tp' rfl (by
             simp only[ah]
             exact⟨a,_,[],rfl,rfl,fa,L2.bF,gN.mpr ⟨rfl,(rs'.append (ab.cons ry ab.nil)).mv (mvu _)⟩⟩)
           exact q _ _ _ (Mv.trans (.same (s1.trans s2)) mv) r'
         ·cases e
       ·cases e
     ·cases e
   ·cases e
end
noncomputable def cZ(ns:List Int):List Int:=ns.mergeSort fun a b=>decide (a≤b)
theorem Ba(ns:List Int):(cZ ns).Pairwise (· ≤ ·):=by
 have:=List.pairwise_mergeSort (le:=fun a b:Int=>decide (a≤b)) (fun a b c h1 h2=>by simp at*;omega) (fun a b=>by simp;omega) ns
 exact this.imp (by simp)
theorem m4(ns:List Int):(cZ ns).Perm ns:=List.mergeSort_perm ns _
theorem B0{ns l:List Int}(h1:l.Perm ns)(h2:l.Pairwise (· ≤ ·)):l=cZ ns:=
 List.Perm.eq_of_pairwise (fun a b _ _ h1 h2=>Int.le_antisymm h1 h2) h2 (Ba ns) (h1.trans (m4 ns).symm)
noncomputable def gw:List Ky→Option (List Int)
 |[]=>some []
 |.inl i::r=>(gw r).map (i:: ·)
 |.inr _::_=>none
theorem ud:∀ {ks:List Ky} {ns:List Int},gw ks=some ns→ks=ns.map .inl
 |[],_,h=>by cases h;rfl
 | .inl i::r,ns,h=>by
   unfold gw at h
   cases e:gw r with
   |none=>rw[e]at h;cases h
   |some us=>rw[e]at h;cases h;rw[ud e];rfl
 |.inr _::r,ns,h=>by cases h
theorem sR:∀ns:List Int,gw (ns.map .inl)=some ns
 |[]=>rfl
 |n::ns=>by show(gw (ns.map .inl)).map (n:: ·)=_;rw[sR ns];rfl
noncomputable def mM:D→R D
 | .aD ks _=>match gw ks with
   |some ns=>if ns.length<64 then .ok (.lst ((cZ ns).map .int))else .bad
   |none=>.bad
 |_=>.bad
noncomputable def iH:D→R D
 |.aD ks _=>.ok (.int ks.length)
 |x=>cg x
section
variable{X:Cx}{M:Md}{G H H':Hp}{F0 F F':Addr→Prop}{σ:L2.St}{ρ:En}{pos:Pos}{pins:List (Addr×Obj)}{s:Shared}
theorem ql:∀ {vs:List Value} {ns:List Int},PyProof.Rows.IntsAre vs ns→Vals (ns.map V.int) vs
 |_,_,.nil=>.nil
 |_,_,.cons n t h=>.cons ⟨t,rfl⟩ (ql h)
theorem sg:∀ {ns:List Int} {vs:List Value},Vals (ns.map V.int) vs→PyProof.Rows.IntsAre vs ns
 |[],_,h=>by cases h;exact .nil
 | s::ss,_,h=>by
   cases h with
   | cons r t=>
     obtain⟨tk,rfl⟩:=r
     exact .cons s tk (sg t)
theorem Cn{h:Heap}{a:Addr}{vs:List Value}{out:Array Value}{b:Addr}{o:Obj}(hb:b≠a)(e:h.get? b=some o):(PyProof.Rows.sortedHeap h a vs out).get? b=some o:=by
 unfold PyProof.Rows.sortedHeap
 rw[Heap.get?_update_other _ _ (Ne.symm hb)]
 refine Heap.get?_push_of_some _ (Heap.get?_push_of_some _ ?_)
 rw[Heap.get?_update_other _ _ (Ne.symm hb)]
 exact e
theorem wM(hc:X.calm=true):bp X (.builtin "sorted") (fun xs H Q=>∃F p kvs ns,xs=[.ref p]∧fj (av X) H F p kvs∧kvs.map (·.1)=ns.map .inl∧ns.length<64∧∀l,H l=none→Q (.ref l) (upd H l (.lst ((cZ ns).map V.int)))):=by
 intro pins s σ H xs us Q I r h
 obtain⟨F,p,kvs,ns,rfl,hd,hk,h64,q⟩:=h
 obtain⟨u,rfl,ru⟩:=L2.vals1 r
 cases ru
 obtain⟨z,hsys,vs,rel,dd⟩:=j6 I hd
 obtain⟨ep,hat⟩:=dd.dictAt
 have hl:=kG rel
 refine PyProof.Rows.call_builtin_at PyProof.Rows.plain_sorted PyProof.Rows.entry_sorted (PyProof.Rows.args_sorted1 _) (PyProof.Rows.wpAt_of_any ?_)
 unfold Builtin.sorted
 refine wpAny_bind (wpAny_pure ?_)
 refine wpAny_bind (PySem.W.kdu_collect (PySem.W.kdl_dict (knd:=L2.bR X.prog X.w) (kvs:=vs) (ep:=ep) hsys) (I.ok.hd hc) hat (by omega) fun h1 tk acc keep hacc=>?_)
 have hv:Vals (ns.map V.int) acc.toList:=by
   refine yT (P:=fun _ _=>True) (by rw[List.length_map];have:=congrArg List.length hk;simp only[List.length_map]at this;have:=hacc.1;simp;omega) fun j v hj=>?_
   obtain⟨k,x,e1,e2⟩:=hacc.2 j v (by simpa using hj)
   obtain⟨y,e3,e4⟩:=sv rel e1
   have e5:(kvs.map (·.1))[j]? =some k:=by rw[List.getElem?_map,e3];show some y.1=_;rw[e4]
   rw[hk,List.getElem?_map]at e5
   cases e6:ns[j]? with
   |none=>rw[e6]at e5;cases e5
   | some n=>
     rw[e6]at e5
     cases e5
     exact⟨.int n,by rw[List.getElem?_map,e6];rfl,sS (k:=(.inl n:Key)) (by exact e2)⟩
 have hints:=sg hv
 have hlen:acc.toList.length<64:=by have:=hv.length;rw[List.length_map]at this;omega
 have I1:Inv X pins σ H {s with heap:=h1,toks:=tk}:=I.kept keep
 refine wpAny_bind (wpAny_newList ?_ (by have:(sizeLine:Nat)=16777216:=sizeLine_eq;omega))
 refine wpAny_bind (wpAny_holding ?_)
 have hget:(h1.push {cls:=Value.type "list",data:=Data.seq acc.toList.toArray}).get? h1.objs.size=some (PyProof.Rows.seqObj "list" acc.toList.toArray 0):=Heap.get?_push_size _ rfl
 refine PyProof.Rows.wpAny_call_entry_kw PyProof.Rows.slot_list_sort ⟨_,hget,rfl⟩ PyProof.Rows.entry_list_sort (PyProof.Rows.list_sort_tree hget hints hlen fun out ns' a1 a2 a3=>?_) (PyProof.Rows.args_list_sort _)
 rw[B0 a2 a3]at a1
 refine⟨_,rfl,wpAny_pure ⟨_,rfl,?_⟩⟩
 have hz:((cZ ns).map V.int).length≤sizeLine:=by
   have:(sizeLine:Nat)=16777216:=sizeLine_eq
   rw[List.length_map,(m4 ns).length_eq];omega
 have hend:∃e,(PyProof.Rows.sortedHeap (h1.push {cls:=Value.type "list",data:=Data.seq acc.toList.toArray}) h1.objs.size acc.toList out).get? h1.objs.size=some {cls:=Value.type "list",data:=Data.seq out e}:=PyProof.Rows.sortedHeap_at hget
 obtain⟨e,he⟩:=hend
 have I3:=I1.laid (a:=h1.objs.size) (o:=.lst ((cZ ns).map V.int)) (h':=PyProof.Rows.sortedHeap (h1.push {cls:=Value.type "list",data:=Data.seq acc.toList.toArray}) h1.objs.size acc.toList out) (t':=tk) (fun b u hb=>Cn (fun z=>by subst z;rw[Heap.get?_none_of_le (Nat.le_refl _)]at hb;cases hb) (Heap.get?_push_of_some _ hb)) (Nat.le_refl _) ⟨hz,out.toList,e,ql a1,by simpa using he⟩
 exact⟨.ref _,_,I3,rfl,q _ I1.fresh⟩
theorem rB:∀ns:List Int,ab M H F (ns.map .int) (ns.map V.int)
 |[]=>ab.nil
 |n::ns=>ab.cons bW (rB ns)
theorem AN:eR M (g1 mM) (fun xs H Q=>∃F p kvs ns,xs=[.ref p]∧fj M H F p kvs∧kvs.map (·.1)=ns.map .inl∧ns.length<64∧∀l,H l=none→Q (.ref l) (upd H l (.lst ((cZ ns).map V.int)))):=by
 intro F H xs as d Q tr rs e q
 unfold g1 at e
 split at e
 · rename_i a
   obtain⟨x,rfl,r⟩:=rs.one
   unfold mM at e
   split at e
   · rename_i ks vs
     split at e
     · rename_i ns hns
       split at e
       · rename_i h64
         cases e
         have hks:=ud hns
         simp only[Rep]at r
         obtain⟨p,ys,rfl,h,hl,rs⟩:=r
         refine⟨F,p,_,ns,rfl,h,by rw[List.map_fst_zip (by omega)];exact hks,h64,fun l hn=>q _ _ (af.bL hn _) (gq tr hn (rB _))⟩
       ·cases e
     ·cases e
   ·cases e
 ·cases e
noncomputable def pC(M:Md):List V→Hp→VK→Prop:=fun xs H Q=>oK M xs H Q∨∃F p kvs,xs=[.ref p]∧fj M H F p kvs∧Q (.int kvs.length) H
theorem sF:bp X (.builtin "len") (pC (av X)):=by
 intro pins s σ H xs us Q I r h
 rcases h with h|⟨F,p,kvs,rfl,hd,q⟩
 ·exact eE pins s σ H xs us Q I r h
 · obtain⟨u,rfl,ru⟩:=L2.vals1 r
   cases ru
   obtain⟨z,hsys,vs,rel,dd⟩:=j6 I hd
   have hl:=kG rel
   refine call_len_dict hsys dd (by rw[←hl];rw[sizeLine_eq]at z;omega) ?_
   rw[←hl]
   exact⟨.int _,H,I.tok _,⟨_,rfl⟩,q⟩
theorem qC:eR M (g1 iH) (pC M):=by
 intro F H xs as d Q tr rs e q
 have e0:=e
 unfold g1 at e
 split at e
 · rename_i a
   by_cases hd:∃ks vs,a=.aD ks vs
   · obtain⟨ks,vs,rfl⟩:=hd
     cases e
     obtain⟨x,rfl,r⟩:=rs.one
     simp only[Rep]at r
     obtain⟨p,ys,rfl,h1,hl,rs⟩:=r
     refine .inr ⟨F,p,_,rfl,h1,?_⟩
     rw[List.length_zip,show min ks.length ys.length=ks.length by omega]
     exact q _ _ (af.refl _) bW
   · refine .inl (eB F H xs _ d Q tr rs ?_ q)
     show cg a=.ok d
     cases a with
     |aD ks vs=>exact absurd ⟨ks,vs,rfl⟩ hd
     |_=>exact e
 ·cases e
end
end PL
namespace PL
open PySem PySem.Spec
theorem rD{o b:Expr}{p:Pos}{a:Str}{env:Env}{w:Sem Value}:attributeBase (.Subscript o b p) a env w=w:=rfl
theorem xc{a:Ex}{lo hi:Option Ex}(ha:∀ρ d,a ρ=.ok d→∃ds,d=.lst ds)(ρ:En)(d:D)(h:cC a lo hi ρ=.ok d):∃ds,d=.lst ds:=by
 obtain⟨x,ex,h⟩:=ai.mp h
 obtain⟨l,el,h⟩:=ai.mp h
 obtain⟨u,eu,h⟩:=ai.mp h
 obtain⟨ds,rfl⟩:=ha ρ x ex
 cases h
 exact⟨_,rfl⟩
end PL
namespace PL
namespace fB
open PySem
noncomputable abbrev S(x:String):D:=.str (Str.ofString x)
noncomputable def lK:D:=(.int 16)
noncomputable def iw:D:=(.int 14)
noncomputable def gE:List D→R D:=fn 2 (aw [cF (tV (e2 oLt (aa 1) (e1 cg (aa 0)))) (bC (e2 aV (aa 0) (aa 1))) (cH),bC (eC (.int 0))])
noncomputable def dk:Sm:=aw [aR (ar 1) (e2 bV (aa 1) (aa 1)),aR (ar 2) (e2 bV (aa 2) (aa 2))]
noncomputable def ia:List D→R D:=fn 4 (aw [aR (ar 1) (e2 cq (eC (.int 10)) (eC (.int 50))),aR (ar 2) (e2 cq (eC (.int 10007)) (eC (.int 12))),bu (dB (eC (.int 4))) (ar 3) dk,bC (e2 bV (e2 aK (e2 aK (e2 oMod (e2 bz (aa 0) (e2 cq (eC (.int 10)) (eC (.int 30)))) (aa 1)) (e2 oMod (aa 0) (e2 cq (eC (.int 10)) (eC (.int 30))))) (eC (.int 1))) (aa 2))])
noncomputable def kQ:List D→R D:=fn 1 (bC (e2 aV (bD [e2 aK (eC (.int 1)) (e2 oMod (e2 bz (aa 0) (eC (.int 3))) (eC (.int 40))),e2 aK (eC (.int 1)) (e2 oMod (e2 bz (aa 0) (eC (.int 3))) (e2 cA (e2 cq (eC (.int 2)) (eC (.int 32))) (eC (.int 1)))),e2 cA (e2 cA (e2 cq (eC (.int 2)) (eC (.int 32))) (eC (.int 1))) (e2 oMod (e2 bz (aa 0) (eC (.int 3))) (eC (.int 9)))]) (e2 oMod (aa 0) (eC (.int 3)))))
noncomputable def jq:Sm:=aw [gT 2 (e2 oMod (aa 0) (e2 cq (eC (.int 2)) (eC (.int 32)))),aR (ar 0) (e2 bz (aa 0) (e2 cq (eC (.int 2)) (eC (.int 32))))]
noncomputable def j2:List D→R D:=fn 4 (aw [dw 2 (bD []),bu (dB (aa 1)) (ar 3) jq,gg 2,bC (aa 2)])
noncomputable def dO:List D→R D:=fn 2 (bC (e2 bz (e2 aK (e2 bV (aa 0) (aa 1)) (eC (.int 15))) (eC (.int 16))))
noncomputable def jH:Sm:=aw [aR (ar 5) (aB ia [aa 4]),jS 6 2 (pI 2 (pI 2 (pN) (gR 3 (e2 oMod (aa 5) (cO 3)))) (eC (.int 1))),aR (ar 5) (e2 bz (aa 5) (cO 3)),aR (ar 7) (aB kQ [aa 5]),aR (ar 5) (e2 bz (aa 5) (e2 bV (eC (.int 3)) (e2 cq (eC (.int 2)) (eC (.int 32))))),aR (ar 8) (aB j2 [e2 bz (aa 5) (e2 bV (eC (.int 3)) (eC (.int 65))),e2 oMod (e2 bz (aa 5) (eC (.int 3))) (eC (.int 65))]),aR (ar 9) (e2 cA (e2 aK (eC (.int 1)) (aB dO [eC (.int 2),e2 aK (fq 6) (eC (.int 1))])) (aB dO [eC (.int 2),fq 6])),cF (tV (e2 g8 (e2 oMod (aa 5) (eC (.int 3))) (eC (.int 0)))) (aR (ar 9) (e2 aK (aa 9) (aB dO [eC (.int 1),e1 cg (aa 8)]))) (cH),cF (dU (tV (gh true 6 (aa 7))) (dU (tV (e2 oLt (fq 6) (eC (.int 32)))) (tV (e2 oLe (aa 9) (aa 1))))) (aw [aR (ar 1) (e2 cA (aa 1) (aa 9)),j1 6 (aa 7) (gI 2),cF (tV (e2 oEq (e2 oMod (aa 5) (eC (.int 3))) (eC (.int 0)))) (gT 3 (gI 2)) (cH),kJ 2 (j7 [xL [xD (eC (.int 1)),xD (aa 8)],xL [xD (eC (.int 2)),js]] (e1 ic (e2 oEq (e2 oMod (aa 5) (eC (.int 3))) (eC (.int 0)))))]) (cH)]
noncomputable def j8:List D→R D:=fn 10 (aw [jB 2 (xL [xL [xD (eC (.int 2)),js]]),dw 3 (bD [eC (.int 0)]),bu (ip (aa 0)) (ar 4) jH,mz 2,bC (aa 2)])
noncomputable def jR:Sm:=aw [jE 5 4 (e2 oMod (aa 2) (cO 4)),aR (ar 2) (e2 bz (aa 2) (e2 aK (cO 4) (eC (.int 1))))]
noncomputable def i8:Sm:=aw [jE 10 4 (e2 oMod (aa 2) (cO 4)),aR (ar 2) (e2 bz (aa 2) (e2 aK (cO 4) (eC (.int 1))))]
noncomputable def jr:Sm:=aw [aR (kU [8,9]) (e2 aV (aa 0) (aa 6)),dw 10 (bD []),bu (dB (aB dO [aa 8,e1 iH (aa 9)])) (ar 11) i8,cF (tV (e2 oEq (aa 8) (eC (.int 2)))) (aR (ar 9) (e1 gH (cD (gF (aa 9)) 1 [5,9] (ar 0) [] (gf [aa 0,e2 aV (aa 1) (e2 aV (aa 2) (aa 0))])))) (cH),gg 10,mF 7 (e2 aV (aa 5) (aa 6)) (bD [aa 8,aa 9,aa 10])]
noncomputable def lu:List D→R D:=fn 12 (aw [aR (ar 3) (e2 aK (eC (.int 14)) (e2 bz (e2 aK (aa 1) (eC (.int 15))) (eC (.int 16)))),dw 4 (e2 lF (e2 aK (aa 3) (eC (.int 1))) (aa 1)),dw 5 (bD [aa 3]),bu (ix (eC (.int 1)) (e1 cg (aa 0))) (ar 6) jR,oM 7 (o5 [] []),gg 5,bu (dB (e1 cg (aa 0))) (ar 6) jr,gg 7,bC (aa 7)])
noncomputable def gQ:List D→R D:=fn 1 (bC (e1 mQ (e2 aK (e1 fE (aa 0)) (e2 ng (bD [eC (.int 0)]) (e2 cA (eC (.int 16)) (e1 cg (aa 0)))))))
noncomputable def iO:Sm:=ft 2 (aa 4) (eC (.int 1))
noncomputable def i4:Sm:=bu (ip (e2 aK (bD [aa 3]) (e2 aV (e2 aV (aa 0) (aa 3)) (eC (.int 2))))) (ar 4) iO
noncomputable def fP:List D→R D:=fn 5 (aw [dw 2 (cD (dB (aa 1)) 1 [1] (ar 0) [] (e1 ic (e2 oLt (aa 0) (e2 aK (eC (.int 14)) (e2 bz (e2 aK (aa 1) (eC (.int 15))) (eC (.int 16))))))),bu (gF (aa 0)) (ar 3) i4,gg 2,bC (aa 2)])
noncomputable def jM:Sm:=aR (ar 2) (e2 aK (aa 2) (bD [aa 3,e2 aV (aa 1) (aa 3)]))
noncomputable def jC:List D→R D:=fn 4 (aw [cF (tV (e2 oEq (aa 0) (eC (.int 1)))) (bC (aa 1)) (cH),aR (ar 2) (bD []),bu (ip (e1 mM (aa 1))) (ar 3) jM,bC (aa 2)])
noncomputable def jb:Sm:=ft 2 (e2 aK (eC (.int 14)) (e2 bz (aa 4) (eC (.int 16)))) (aB gQ [cC (aa 3) (some (aa 4)) (some (e2 aK (aa 4) (eC (.int 16))))])
noncomputable def jx:Sm:=ft 2 (e2 aV (aa 8) (aa 4)) (aB gQ [cC (aa 9) (some (e2 bV (eC (.int 16)) (aa 4))) (some (e2 aK (e2 bV (eC (.int 16)) (aa 4)) (eC (.int 16))))])
noncomputable def jA:Sm:=aw [aR (kU [6,7,8]) (e2 aV (aa 0) (aa 5)),aR (ar 9) (aB jC [aa 6,aa 7]),ft 2 (aa 5) (aB gQ [e2 aK (bD [aa 6,e1 iH (aa 7)]) (aa 8)]),bu (dB (e1 cg (aa 8))) (ar 4) jx]
noncomputable def jN:List D→R D:=fn 10 (aw [dw 2 (e1 fE (aa 1)),ft 2 (eC (.int 0)) (aB gQ [bD []]),aR (ar 3) (aB fP [aa 0,cO 2]),bu (lZ (eC (.int 0)) (cO 2) (eC (.int 16))) (ar 4) jb,bu (gF (aa 0)) (ar 5) jA,gg 2,bC (aa 2)])
noncomputable def iY:List D→R D:=fn 3 (aw [aR (ar 2) (e2 aK (e2 oMod (aa 0) (e2 cq (eC (.int 10)) (eC (.int 18)))) (eC (.int 1))),bC (cD (dB (aa 1)) 1 [2] (ar 0) [] (e1 mQ (cD (dB (eC (.int 16))) 1 [1,0] (ar 0) [] (e2 oMod (e2 bV (e2 bV (aa 1) (e2 aK (e2 aK (e2 bV (eC (.int 16)) (aa 2)) (aa 0)) (eC (.int 1)))) (eC (.int 40692))) (eC (.int 4294967291))))))])
noncomputable def kc:List D→R D:=fn 6 (aw [aR (ar 1) (aB gE [aa 0,eC (.int 0)]),aR (ar 2) (e2 aK (eC (.int 32)) (e2 oMod (e2 bz (aa 1) (eC (.int 4))) (e2 aV (bD [eC (.int 8),eC (.int 40),eC (.int 169),eC (.int 169)]) (e2 oMod (aa 1) (eC (.int 4)))))),aR (ar 3) (e2 aK (eC (.int 14)) (e2 bz (e2 aK (aa 2) (eC (.int 15))) (eC (.int 16)))),aR (ar 4) (aB j8 [cC (aa 0) (some (eC (.int 3))) (some (eC (.int 33))),e2 bz (e2 bV (e2 cA (e2 cA (aa 2) (aa 3)) (eC (.int 1))) (e2 aV (bD [eC (.int 4),eC (.int 3),eC (.int 2),eC (.int 1)]) (e2 oMod (e2 bz (aa 1) (eC (.int 700))) (eC (.int 4))))) (eC (.int 4))]),aR (ar 5) (aB lu [aa 4,aa 2,aB ia [aB gE [aa 0,eC (.int 1)]]]),bC (bD [aa 5,aB jN [aa 5,aB iY [aB gE [aa 0,eC (.int 2)],aa 2]]])])
noncomputable def gc:List D→R D:=fn 1 (bC (e2 bz (e2 cA (e2 aK (aa 0) (eC lK)) (eC (.int 1))) (eC lK)))
noncomputable def fO:List D→R D:=fn 1 (bC (e2 aK (eC iw) (aB gc [e1 cg (aa 0)])))
noncomputable def iz:Sm:=lJ 1 (e1 fE (aa 2))
noncomputable def kS:List D→R D:=dX 3 (aw [dw 1 (bD []),bu (ip (cC (aa 0) (some (eC iw)) (some (aB fO [aa 0])))) (ar 2) iz,mR 1])
noncomputable def eF:List D→R D:=dX 1 (mh (cC (aB kS [aa 0]) none (some (e1 cg (aa 0)))))
noncomputable def gz:List D→R D:=dX 1 (mh (cD (ny 0 (aB eF [aa 0])) 2 [] (gu [0,1]) [tV (e2 oEq (aa 1) (eC (.int 0)))] (aa 0)))
noncomputable def ib:List D→R D:=fn 1 (bC (jP (e1 (gC .int) (aa 0)) (e1 jt (e1 (gC .bool) (aa 0)))))
noncomputable def j3:Sm:=cF (dY (tV (aB ib [aa 2]))) (bC (eC (.bl false))) (cH)
noncomputable def gp:List D→R D:=fn 3 (aw [cF (dS (dY (tV (e1 (gC .list) (aa 0)))) (tV (e2 eJ (aa 0) (aa 1)))) (bC (eC (.bl false))) (cH),bu (ip (aa 0)) (ar 2) j3,bC (eC (.bl true))])
noncomputable def iT:Sm:=aw [aR (ar 4) (aB gc [aa 3]),cF (dS (dY (tV (aB ib [aa 4]))) (dS (tV (e2 oLt (e2 bV (aa 4) (eC (.int 16))) (aa 3))) (tV (e2 iF (e2 cA (e2 bV (aa 4) (eC (.int 16))) (eC (.int 16))) (aa 3))))) (bC (eC (.bl false))) (cH)]
noncomputable def kR:List D→R D:=fn 9 (aw [aR (kU [1,2]) (aB kc [aa 0]),bu (ix (eC (.int 32)) (eC (.int 201))) (ar 3) iT,aR (ar 5) (aB fP [aa 1,e1 cg (aa 2)]),aR (ar 6) (cD (dB (e1 cg (aa 2))) 1 [5] (ar 0) [tV (e2 oEq (e2 aV (aa 1) (aa 0)) (eC (.int 0)))] (aa 0)),aR (ar 7) (e1 fE (aa 2)),aR (ar 8) (aB fO [aa 7]),cF (dS (dY (tV (aB ib [aa 8]))) (dS (tV (e2 eJ (aa 8) (e2 aK (eC (.int 14)) (aB gc [e1 cg (aa 2)])))) (tV (e2 kC (aa 8) (aa 1))))) (bC (eC (.bl false))) (cH),jB 4 (xL [xF (aB eF [aa 7]),xF (aB gz [aa 7])]),cF (dS (dY (tV (g9 4 (aB gp [e2 aV (aa 4) (eC (.int 0)),aa 5])))) (dS (dY (tV (g9 4 (aB gp [e2 aV (aa 4) (eC (.int 1)),aa 6])))) (tV (e2 eJ (aa 7) (aa 2))))) (bC (eC (.bl false))) (cH),lH 4 (pI 4 (pN) (eC (.int 0))),mH 4 (pI 4 (pN) (eC (.int 1))) (eC (.int 0)),bC (jP (e2 oEq (aB eF [aa 7]) (aa 5)) (e2 oEq (aB gz [aa 7]) (aa 6)))])
end fB
end PL
set_option maxRecDepth 1000
namespace PL
open PySem
theorem jk{tg:bo}{body:Sm}(P:En→Prop):∀ {ds:List D},(∀d∈ds,∀ρ,P ρ→∃ρ1,tg d ρ=.ok ρ1∧∃ρ2,body ρ1=.ok (.next ρ2)∧P ρ2)→
   ∀ {ρ:En},P ρ→∃ρ',forL tg body ds ρ=.ok (.next ρ')∧P ρ'
 |[],_,ρ,h=>⟨ρ,rfl,h⟩
 | d::ds,hs,ρ,h=>by
   obtain⟨ρ1,e1,ρ2,e2,h2⟩:=hs d (List.mem_cons_self ..) ρ h
   obtain⟨ρ',e,h'⟩:=jk (ds:=ds) P (fun d hd=>hs d (List.mem_cons_of_mem _ hd)) h2
   exact⟨ρ',by simp[forL,e1,e2,e],h'⟩
theorem e7{tg:bo}{body:Sm}(P:Nat→En→Prop):∀ {ds:List D} (n:Nat),(∀i d,ds[i]? =some d→∀ρ,P (n+i) ρ→∃ρ1,tg d ρ=.ok ρ1∧∃ρ2,body ρ1=.ok (.next ρ2)∧P (n+i+1) ρ2)→
   ∀ {ρ:En},P n ρ→∃ρ',forL tg body ds ρ=.ok (.next ρ')∧P (n+ds.length) ρ'
 |[],n,_,ρ,h=>⟨ρ,rfl,h⟩
 | d::ds,n,hs,ρ,h=>by
   obtain⟨ρ1,e1,ρ2,e2,h2⟩:=hs 0 d rfl ρ h
   obtain⟨ρ',e,h'⟩:=e7 (ds:=ds) P (n+1) (fun i d hd ρ hp=>by
     have:=hs (i+1) d (by simpa using hd) ρ (by rw[show n+(i+1)=n+1+i by omega];exact hp)
     rw[show n+1+i+1=n+(i+1)+1 by omega];exact this) h2
   refine⟨ρ',by simp[forL,e1,e2,e],?_⟩
   rw[List.length_cons,show n+(ds.length+1)=n+1+ds.length by omega];exact h'
theorem km{a b:Int}{i:Nat}{d:D}(h:(bB a b)[i]? =some d):d=.int (a+i)∧(i:Int)<b - a:=by
 unfold bB at h
 rw[List.getElem?_map]at h
 cases e:(List.range (b - a).toNat)[i]? with
 |none=>rw[e]at h;cases h
 | some k=>
   rw[e]at h
   obtain⟨hlt,hk⟩:=List.getElem?_eq_some_iff.mp e
   simp at hk hlt h
   subst hk
   exact⟨h.symm,by omega⟩
theorem gD(a b:Int):(bB a b).length=(b - a).toNat:=by simp[bB]
theorem zE{a b:Int}{d:D}(h:d∈bB a b):∃k:Int,d=.int k∧a≤k∧k<b:=by
 unfold bB at h
 obtain⟨k,hk,e⟩:=List.mem_map.mp h
 have:=List.mem_range.mp hk
 exact⟨a+k,e.symm,by omega,by omega⟩
theorem lP{α:Type}{xs:List α}{j:Nat}(h:j<xs.length):bI xs (j:Int)=some xs[j]:=by
 unfold bI bJ
 rw[if_pos (by omega),if_pos (by omega)]
 simp[h]
theorem qY{α:Type}{xs:List α}{i:Int}(h0:0≤i)(h:i<xs.length):bI xs i=some (xs[i.toNat]'(by omega)):=by
 unfold bI bJ
 rw[if_pos h0,if_pos h]
 have:i.toNat<xs.length:=by omega
 simp[this]
theorem pd{xs:List Int}{i:Int}(h0:0≤i)(h:i<xs.length):∃x,x∈xs∧bI (xs.map D.int) i=some (.int x):=by
 refine⟨xs[i.toNat]'(by omega),List.getElem_mem _,?_⟩
 rw[qY h0 (by simpa using h)]
 simp
theorem d7{i:Int}(h1: -1000000<i)(h2:i<1000000):inR i=true:=by
 unfold inR
 rw[decide_eq_true (show -4611686018427387904≤i by omega),decide_eq_true (show i<4611686018427387904 by omega)];rfl
theorem jg{c:aJ}{a b:Sm}{ρ:En}(h:c ρ=.ok true):cF c a b ρ=a ρ:=by simp[h]
theorem au{a:Sm}{r:List Sm}{ρ ρ':En}(h:a ρ=.ok (.next ρ')):aw (a::r) ρ=aw r ρ':=by
 show(a ρ).bind _=_
 rw[h];rfl
theorem dC{a:Sm}{r:List Sm}{ρ:En}{d:D}(h:a ρ=.ok (.ret d)):aw (a::r) ρ=.ok (.ret d):=by
 show(a ρ).bind _=_
 rw[h];rfl
theorem dJ{c:aJ}{a:Sm}{ρ:En}(h:c ρ=.ok false):cF c a cH ρ=.ok (.next ρ):=by simp[h]
theorem cf{n:Nat}{b:Sm}{ds:List D}{d:D}(h:b (ds.map .sh++List.replicate (n - ds.length) .un)=.ok (.ret d)):fn n b ds=.ok d:=by
 unfold fn;rw[h];rfl
theorem fY{a:Ex}{ρ:En}{L:Int}(h:a ρ=.ok (.int L))(h2:inR L=true):dB a ρ=.ok (bB 0 L):=by
 simp[h,h2]
theorem tH{a b:Ex}{ρ:En}{I L:Int}(h:a ρ=.ok (.int I))(h':b ρ=.ok (.int L))(h1:inR I=true)(h2:inR L=true):ix a b ρ=.ok (bB I L):=by
 simp[h,h',h1,h2]
set_option maxRecDepth 2000
namespace G
theorem fX{o:D→R D}{a:Ex}{ρ:En}{x d:D}(ha:a ρ=.ok x)(h:o x=.ok d):e1 o a ρ=.ok d:=by
 show(a ρ).bind _=_
 rw[ha,R.aL,h]
theorem aS{o:D→D→R D}{a b:Ex}{ρ:En}{x y d:D}(ha:a ρ=.ok x)(hb:b ρ=.ok y)(h:o x y=.ok d):e2 o a b ρ=.ok d:=by
 show(a ρ).bind _=_
 rw[ha,R.aL]
 show(b ρ).bind _=_
 rw[hb,R.aL,h]
theorem bZ{f:List D→R D}{a:Ex}{ρ:En}{x d:D}(ha:a ρ=.ok x)(h:f [x]=.ok d):aB f [a] ρ=.ok d:=by
 simp only[aB,eList,ha,R.aL];exact h
theorem cS{f:List D→R D}{a b:Ex}{ρ:En}{x y d:D}(ha:a ρ=.ok x)(hb:b ρ=.ok y)(h:f [x,y]=.ok d):aB f [a,b] ρ=.ok d:=by
 simp only[aB,eList,ha,hb,R.aL];exact h
theorem y6{f:List D→R D}{a b c:Ex}{ρ:En}{x y z d:D}(ha:a ρ=.ok x)(hb:b ρ=.ok y)(hc:c ρ=.ok z)(h:f [x,y,z]=.ok d):aB f [a,b,c] ρ=.ok d:=by
 simp only[aB,eList,ha,hb,hc,R.aL];exact h
theorem bH{a b:Ex}{ρ:En}{i u:Int}(ha:a ρ=.ok (.int i))(hb:b ρ=.ok (.int u)):e2 aK a b ρ=.ok (.int (i+u)):=aS ha hb rfl
theorem fG{a b:Ex}{ρ:En}{i u:Int}(ha:a ρ=.ok (.int i))(hb:b ρ=.ok (.int u)):e2 cA a b ρ=.ok (.int (i - u)):=aS ha hb rfl
theorem bS{a b:Ex}{ρ:En}{i u:Int}(ha:a ρ=.ok (.int i))(hb:b ρ=.ok (.int u))(h:0<u):e2 oMod a b ρ=.ok (.int (i % u)):=aS ha hb (if_pos h)
theorem cj{a b:Ex}{ρ:En}{i u:Int}(ha:a ρ=.ok (.int i))(hb:b ρ=.ok (.int u))(h:0<u∧u.natAbs.log2<9000):e2 bz a b ρ=.ok (.int (i / u)):=aS ha hb (if_pos h)
theorem zr{a b:Ex}{ρ:En}{x y:D}(h:a ρ=.ok x)(h2:b ρ=.ok y):gf [a,b] ρ=.ok (.tup [x,y]):=by
 simp only[gf,eList,h,h2,R.aL]
theorem bf{a:Ex}{ρ:En}{b:Bool}(ha:a ρ=.ok (.bl b)):tV a ρ=.ok b:=by
 simp only[tV,ha,R.aL,truth]
theorem jh{t:aJ}{ρ:En}{b:Bool}(h:t ρ=.ok b):dY t ρ=.ok (!b):=by
 simp only[dY,h,R.aL]
theorem ik{t u:aJ}{ρ:En}{b c:Bool}(h:t ρ=.ok b)(h':u ρ=.ok c):dS t u ρ=.ok (b||c):=by
 simp only[dS,h,R.aL]
 cases b
 ·rw[if_neg (by decide),h'];rfl
 ·rfl
theorem kf{t u:aJ}{ρ:En}{b c:Bool}(h:t ρ=.ok b)(h':u ρ=.ok c):dU t u ρ=.ok (b&&c):=by
 simp only[dU,h,R.aL]
 cases b
 ·rfl
 ·rw[if_pos rfl,h'];rfl
theorem qS{t u:aJ}{ρ:En}(h:t ρ=.ok false):dU t u ρ=.ok false:=by
 simp only[dU,h,R.aL];rfl
theorem vt{a b:Ex}{ρ:En}{x:Bool}{d:D}(ha:a ρ=.ok (.bl true))(hb:b ρ=.ok d):jP a b ρ=.ok d:=by
 simp only[jP,ha,R.aL];exact hb
theorem b8{a:Ex}{ρ:En}{d:D}(h:a ρ=.ok d):bC a ρ=.ok (.ret d):=by
 simp only[bC,h,R.aL]
theorem bA{i:Nat}{a:Ex}{ρ:En}{d:D}(h:a ρ=.ok d):aR (ar i) a ρ=.ok (.next (ρ.set i (.sh d))):=by
 simp only[aR,h,R.aL,ar]
theorem qD{i:Nat}{a:Ex}{ρ:En}{d:D}{xs:List D}(h:a ρ=.ok d)(hi:ρ[i]? =some (.ol xs))(hl:xs.length<16777216):gT i a ρ=.ok (.next (ρ.set i (.ol (xs++[d])))):=by
 simp only[gT,h,R.aL,hi]
 exact if_pos hl
theorem qb{i:Nat}{a:Ex}{ρ:En}{xs:List D}(h:a ρ=.ok (.lst xs)):dw i a ρ=.ok (.next (ρ.set i (.ol xs))):=by
 simp only[dw,h,R.aL]
theorem tM{i:Nat}{k a:Ex}{ρ:En}{d:D}{j:Int}{m:Nat}{xs:List D}(h:a ρ=.ok d)(hk:k ρ=.ok (.int j))(hi:ρ[i]? =some (.ol xs))(hm:bJ xs.length j=some m):ft i k a ρ=.ok (.next (ρ.set i (.ol (xs.set m d)))):=by
 simp only[ft,h,hk,R.aL,hi,hm]
theorem mS{n:Nat}{j:Int}(h0:0≤j)(h1:j<n):bJ n j=some j.toNat:=by
 unfold bJ;rw[if_pos h0,if_pos h1]
theorem iL{xs:List D}{i:Int}{d:D}(h:bI xs i=some d):aV (.lst xs) (.int i)=.ok d:=by simp[h]
theorem eq_int(i j:Int):oEq (.int i) (.int j)=.ok (.bl (decide (i=j))):=by
 unfold oEq
 rw[zW,if_pos rfl]
 show R.ok (D.bl (i==j))=_
 rfl
theorem lt_int(i j:Int):oLt (.int i) (.int j)=.ok (.bl (decide (i<j))):=rfl
theorem ie{n d:Nat}{v:Int}(h:0≤v):aH n d (some v)=min v.toNat n:=if_neg (by omega)
theorem yd{α:Type}(xs:List α){v:Int}(h:0≤v):cut xs none (some v)=xs.take v.toNat:=by
 unfold cut
 rw[ie h]
 show((xs.drop 0).take _)=_
 rw[List.drop_zero]
 show xs.take (min v.toNat xs.length - 0)=_
 rw[Nat.sub_zero]
 by_cases hl:v.toNat≤xs.length
 ·rw[Nat.min_eq_left hl]
 ·rw[Nat.min_eq_right (by omega),List.take_length,List.take_of_length_le (by omega)]
theorem Az{a b:Ex}{ρ:En}{xs:List D}{v:Int}(ha:a ρ=.ok (.lst xs))(hb:b ρ=.ok (.int v))(h:0≤v):cC a none (some b) ρ=.ok (.lst (xs.take v.toNat)):=by
 simp only[cC,ha,R.aL,gS,hb,iD]
 rw[yd _ h]
theorem mU{xs ys:List D}(h:xs.length+ys.length≤16777216):aK (.lst xs) (.lst ys)=.ok (.lst (xs++ys)):=if_pos h
mutual
theorem nz:∀d:D,lay d=true→bq d d=true
 |.aF,_=>rfl
 |.bl b,_=>by simp
 |.int i,_=>by simp
 |.str x,_=>by simp
 |.tup xs,h=>by unfold bq;exact pb xs (by unfold lay at h;exact h)
 |.lst xs,h=>by unfold bq;exact pb xs (by unfold lay at h;exact h)
 |.aD _ _,h=>by unfold lay at h;cases h
 |.cI _ _ _,h=>by unfold lay at h;cases h
theorem pb:∀ds:List D,cY ds=true→hV ds ds=true
 |[],_=>rfl
 | d::ds,h=>by
   unfold cY at h
   rw[Bool.and_eq_true]at h
   unfold hV
   rw[nz d h.1,pb ds h.2];rfl
end
theorem pH{d:D}(h:lay d=true)(h2:dep d≤60):dN d d=true:=by
 unfold dN
 rw[h,decide_eq_true (show min (dep d) (dep d)≤60 by omega)];simp
theorem ne_self{d:D}(h:lay d=true)(h2:dep d≤60):eJ d d=.ok (.bl false):=by
 unfold eJ
 rw[if_pos (pH h h2),nz d h];rfl
theorem eq_self{d:D}(h:lay d=true)(h2:dep d≤60):oEq d d=.ok (.bl true):=by
 unfold oEq cP
 rw[pH h h2,nz d h];rfl
theorem kj{ds:List D}(h:∀d∈ds,lay d=true):cY ds=true:=by
 induction ds with
 |nil=>rfl
 | cons d ds ih=>
   unfold cY
   rw[h d List.mem_cons_self,ih fun x hx=>h x (List.mem_cons_of_mem _ hx)];rfl
theorem lr{ds:List D}{n:Nat}(h:∀d∈ds,dep d≤n):ig ds≤n:=by
 induction ds with
 |nil=>exact Nat.zero_le _
 | cons d ds ih=>
   unfold ig
   have h1:=h d List.mem_cons_self
   have h2:=ih fun x hx=>h x (List.mem_cons_of_mem _ hx)
   omega
theorem lC{i:Int}{n:Nat}(h:i.natAbs<2 ^ n)(hn:n≤100000):b7 i=true:=by
 unfold b7
 rw[decide_eq_true_eq]
 by_cases h0:i.natAbs=0
 ·rw[h0];decide
 ·exact Nat.lt_of_lt_of_le ((Nat.log2_lt h0).mpr h) hn
theorem jW{α:Type}{tg:bo}{el:Ex}{ρ:En}(u:α→D)(v:α→D):∀ {xs:List α},(∀x∈xs,∃ρ1,tg (u x) ρ=.ok ρ1∧el ρ1=.ok (v x))→cM tg [] el ρ (xs.map u)=.ok (xs.map v)
 |[],_=>rfl
 | x::xs,h=>by
   obtain⟨ρ1,e1,e2⟩:=h x List.mem_cons_self
   rw[List.map_cons,cM,e1,R.aL]
   show(R.ok true).bind _=_
   rw[R.aL,if_pos rfl,e2,R.aL,jW u v (fun y hy=>h y (List.mem_cons_of_mem _ hy))]
   rfl
theorem nV{α:Type}{tg:bo}{cs:List aJ}{el:Ex}{ρ:En}(u:α→D)(p:α→Bool)(v:α→D):∀ {xs:List α},(∀x∈xs,∃ρ1,tg (u x) ρ=.ok ρ1∧cM.hU cs ρ1=.ok (p x)∧(p x=true→el ρ1=.ok (v x)))→cM tg cs el ρ (xs.map u)=.ok ((xs.filter p).map v)
 |[],_=>rfl
 | x::xs,h=>by
   obtain⟨ρ1,e1,e2,e3⟩:=h x List.mem_cons_self
   have ih:=nV (cs:=cs) (el:=el) (ρ:=ρ) u p v (xs:=xs) (fun y hy=>h y (List.mem_cons_of_mem _ hy))
   rw[List.map_cons,cM,e1,R.aL,e2,R.aL]
   cases hp:p x with
   |true=>rw[if_pos rfl,e3 hp,R.aL,ih,List.filter_cons_of_pos hp];rfl
   |false=>rw[if_neg (by decide),ih,List.filter_cons_of_neg (by rw[hp];decide)]
theorem iS{it:bj}{n:Nat}{fv:List Nat}{tg:bo}{cs:List aJ}{el:Ex}{ρ:En}{ds ys:List D}(hi:it ρ=.ok ds)(hl:ds.length≤16777216)(hc:cM tg cs el (List.replicate n .un++frees ρ fv) ds=.ok ys):cD it n fv tg cs el ρ=.ok (.lst ys):=by
 show(it ρ).bind _=_
 rw[hi,R.aL,if_pos hl,hc];rfl
theorem di{it:bj}{tg:bo}{body:Sm}{ρ:En}{ds:List D}{r:R Fl}(hi:it ρ=.ok ds)(h:forL tg body ds ρ=r):bu it tg body ρ=r:=by
 show(it ρ).bind _=_
 rw[hi,R.aL,h]
theorem le_int(i j:Int):oLe (.int i) (.int j)=.ok (.bl (decide (i≤j))):=rfl
theorem nY{n:Nat}{b:Sm}{ds xs:List D}(h:b (ds.map .sh++List.replicate (n - ds.length) .un)=.ok (.cX (.lst xs))):dX n b ds=.ok (.lst xs):=by
 unfold dX;rw[h];rfl
theorem yb{a:Sm}{r:List Sm}{ρ:En}{d:D}(h:a ρ=.ok (.cX d)):aw (a::r) ρ=.ok (.cX d):=by
 show(a ρ).bind _=_
 rw[h];rfl
theorem qU{i:Nat}{ρ:En}{xs:List D}(hi:ρ[i]? =some (.ol xs)):cO i ρ=.ok (.int xs.length):=by
 simp only[cO,hi]
theorem wQ{c:Int}:∀(ds:List D),dy c ds=ds.mapIdx fun i d=>.tup [.int (c+(i:Int)),d]:=by
 intro ds
 apply List.ext_getElem?
 intro i
 rw[List.getElem?_mapIdx]
 cases h:(dy c ds)[i]? with
 | none=>
   rw[List.getElem?_eq_none_iff,ma]at h
   rw[List.getElem?_eq_none_iff.mpr h];rfl
 | some d=>
   obtain⟨x,rfl,hx⟩:=n9 h
   rw[hx];rfl
end G
end PL
set_option maxRecDepth 4000
set_option maxHeartbeats 400000
namespace PL
namespace fB
open PySem G
noncomputable abbrev L(xs:List Int):D:=.lst (xs.map .int)
noncomputable abbrev B(xs:List Int):D:=.tup (xs.map .int)
theorem oQ{i j:Int}(h:0≤j∧j≤1000∧b7 i=true):cq (.int i) (.int j)=.ok (.int (i ^ j.toNat)):=if_pos h
theorem eA{a b:Ex}{ρ:En}{i u:Int}(ha:a ρ=.ok (.int i))(hb:b ρ=.ok (.int u))(h1:b7 i=true)(h2:b7 u=true):e2 bV a b ρ=.ok (.int (i*u)):=aS ha hb (if_pos (by rw[h1,h2];rfl))
theorem kr(ρ:En):(e2 cq (eC (.int 2)) (eC (.int 32))) ρ=.ok (.int 4294967296):=rfl
theorem eW{i:Int}(h1: -1000000000000<i)(h2:i<1000000000000):b7 i=true:=lC (n:=40) (by omega) (by decide)
theorem dv{j:Int}(h1:0<j)(h2:j<1000000000000):0<j∧j.natAbs.log2<9000:=⟨h1,by
 have:j.natAbs≠0:=by omega
 exact Nat.lt_of_lt_of_le ((Nat.log2_lt this).mpr (show j.natAbs<2 ^ 40 by omega)) (by decide)⟩
theorem gj{a:Ex}{ρ:En}{xs:List D}(h:a ρ=.ok (.lst xs)):e1 cg a ρ=.ok (.int xs.length):=fX h rfl
theorem v8{a b:Ex}{ρ:En}{i u:Int}(ha:a ρ=.ok (.int i))(hb:b ρ=.ok (.int u)):e2 iF a b ρ=.ok (.bl (decide (u≤i))):=aS ha hb rfl
theorem pY{a b:Ex}{ρ:En}{i u:Int}(ha:a ρ=.ok (.int i))(hb:b ρ=.ok (.int u)):e2 g8 a b ρ=.ok (.bl (decide (u<i))):=aS ha hb rfl
theorem kX{a b:Ex}{ρ:En}{i u:Int}(ha:a ρ=.ok (.int i))(hb:b ρ=.ok (.int u)):e2 oLt a b ρ=.ok (.bl (decide (i<u))):=aS ha hb rfl
theorem tZ{a b:Ex}{ρ:En}{i u:Int}(ha:a ρ=.ok (.int i))(hb:b ρ=.ok (.int u)):e2 oLe a b ρ=.ok (.bl (decide (i≤u))):=aS ha hb rfl
theorem fT{a b:Ex}{ρ:En}{i u:Int}(ha:a ρ=.ok (.int i))(hb:b ρ=.ok (.int u)):e2 oEq a b ρ=.ok (.bl (decide (i=u))):=aS ha hb (eq_int i u)
theorem nq{ns:List Int}{k:Int}(hk:0≤k):∃c:Int,gE [L ns,.int k]=.ok (.int c):=by
 rw[gE]
 by_cases hl:k<ns.length
 · obtain⟨c,_,hc⟩:=pd (xs:=ns) hk hl
   refine⟨c,cf (dC ?_)⟩
   rw[jg (bf (aS (x:=.int k) (y:=.int ns.length) rfl (by rw[gj rfl,List.length_map]) (by rw[lt_int,decide_eq_true hl])))]
   exact b8 (aS rfl rfl (iL hc))
 · refine⟨0,cf ?_⟩
   rw[au (dJ (bf (aS (x:=.int k) (y:=.int ns.length) rfl (by rw[gj rfl,List.length_map]) (by rw[lt_int,decide_eq_false hl]))))]
   exact dC (b8 rfl)
noncomputable def MS:Nat→Int
 |0=>(10:Int) ^ (50:Int).toNat
 |k+1=>MS k*MS k
noncomputable def BY:Nat→Int
 |0=>(10007:Int) ^ (12:Int).toNat
 |k+1=>BY k*BY k
theorem mj{c:D}{a b:Int}{s:Slot}(ha:b7 a=true)(hb:b7 b=true):dk [.sh c,.sh (.int a),.sh (.int b),s]=.ok (.next [.sh c,.sh (.int (a*a)),.sh (.int (b*b)),s]):=by
 rw[dk,au (bA (eA rfl rfl ha ha))]
 show aw _ [.sh c,.sh (.int (a*a)),.sh (.int b),s]=_
 rw[au (bA (eA rfl rfl hb hb))]
 rfl
theorem wK:0<MS 4:=by decide+kernel
theorem vj:0<BY 4:=by decide+kernel
theorem Cj:(MS 4).natAbs<2 ^ 3000:=by decide+kernel
theorem zd(c:D):forL (ar 3) dk (bB 0 4) [.sh c,.sh (.int (MS 0)),.sh (.int (BY 0)),.un]=.ok (.next [.sh c,.sh (.int (MS 4)),.sh (.int (BY 4)),.sh (.int 3)]):=by
 have h0:dk [.sh c,.sh (.int (MS 0)),.sh (.int (BY 0)),.sh (.int 0)]=.ok (.next [.sh c,.sh (.int (MS 1)),.sh (.int (BY 1)),.sh (.int 0)]):=mj (by decide+kernel) (by decide+kernel)
 have h1:dk [.sh c,.sh (.int (MS 1)),.sh (.int (BY 1)),.sh (.int 1)]=.ok (.next [.sh c,.sh (.int (MS 2)),.sh (.int (BY 2)),.sh (.int 1)]):=mj (by decide+kernel) (by decide+kernel)
 have h2:dk [.sh c,.sh (.int (MS 2)),.sh (.int (BY 2)),.sh (.int 2)]=.ok (.next [.sh c,.sh (.int (MS 3)),.sh (.int (BY 3)),.sh (.int 2)]):=mj (by decide+kernel) (by decide+kernel)
 have h3:dk [.sh c,.sh (.int (MS 3)),.sh (.int (BY 3)),.sh (.int 3)]=.ok (.next [.sh c,.sh (.int (MS 4)),.sh (.int (BY 4)),.sh (.int 3)]):=mj (by decide+kernel) (by decide+kernel)
 have st:∀ {d:D} {ds:List D} {a b:Int} {s:Slot} {ρ:En},dk [.sh c,.sh (.int a),.sh (.int b),.sh d]=.ok (.next ρ)→forL (ar 3) dk (d::ds) [.sh c,.sh (.int a),.sh (.int b),s]=forL (ar 3) dk ds ρ:=fun {d ds a b s ρ} h=>by
   rw[forL]
   show(dk [.sh c,.sh (.int a),.sh (.int b),.sh d]).bind _=_
   rw[h];rfl
 show forL (ar 3) dk [.int 0,.int 1,.int 2,.int 3] _=_
 rw[st h0,st h1,st h2,st h3]
 rfl
theorem tN(c:Int):∃z:Int,0≤z∧ia [.int c]=.ok (.int z):=by
 have hp:∀ρ,(e2 cq (eC (.int 10)) (eC (.int 30))) ρ=.ok (.int (10 ^ (30:Int).toNat)):=fun ρ=>aS (x:=.int 10) (y:=.int 30) rfl rfl (oQ (by decide+kernel))
 generalize hP:((10:Int) ^ (30:Int).toNat)=P at hp
 have hP0:0<P:=by rw[←hP];decide+kernel
 have hP1:P.natAbs<2 ^ 200:=by rw[←hP];decide+kernel
 have hP2:0<P∧P.natAbs.log2<9000:=by rw[←hP];decide+kernel
 have m0:=wK
 have m1:=Cj
 have a1:=Int.emod_nonneg (c / P) (show MS 4≠0 by omega)
 have a2:=Int.emod_lt_of_pos (c / P) m0
 have b1:=Int.emod_nonneg c (show P≠0 by omega)
 have b2:=Int.emod_lt_of_pos c hP0
 refine⟨(c / P % MS 4+c % P+1)*BY 4,Int.mul_nonneg (by omega) (Int.le_of_lt vj),?_⟩
 rw[ia]
 refine cf ?_
 show aw _ [.sh (.int c),.un,.un,.un]=_
 rw[au (bA (d:=.int (MS 0)) (aS (x:=.int 10) (y:=.int 50) rfl rfl (oQ (by decide+kernel))))]
 show aw _ [.sh (.int c),.sh (.int (MS 0)),.un,.un]=_
 rw[au (bA (d:=.int (BY 0)) (aS (x:=.int 10007) (y:=.int 12) rfl rfl (oQ (by decide+kernel))))]
 show aw _ [.sh (.int c),.sh (.int (MS 0)),.sh (.int (BY 0)),.un]=_
 rw[au (di (fY rfl (by decide)) (zd _))]
 refine dC (b8 (eA (bH (bH (bS (cj rfl (hp _) hP2) rfl m0) (bS rfl (hp _) hP0)) rfl) rfl ?_ (by decide+kernel)))
 refine lC (n:=4000) ?_ (by decide)
 have key:∀A Bn C:Nat,(MS 4).natAbs<A→P.natAbs<Bn→A+Bn<C→(c / P % MS 4+c % P+1).natAbs<C:=fun A Bn C q1 q2 q3=>by omega
 exact key _ _ _ m1 hP1 (by decide+kernel)
theorem ki{k m:Int}(hk:b7 k=true)(hm:b7 m=true):dO [.int k,.int m]=.ok (.int ((k*m+15) / 16)):=by
 rw[dO]
 exact cf (b8 (cj (bH (eA rfl rfl hk hm) rfl) rfl (by decide)))
theorem o9(i:Int):ib [.int i]=.ok (.bl true):=rfl
theorem wO(z:Int):∃w:Int,kQ [.int z]=.ok (.int w):=by
 have h3:z % 3=0∨z % 3=1∨z % 3=2:=by omega
 have q:(bD [e2 aK (eC (.int 1)) (e2 oMod (e2 bz (aa 0) (eC (.int 3))) (eC (.int 40))),e2 aK (eC (.int 1)) (e2 oMod (e2 bz (aa 0) (eC (.int 3))) (e2 cA (e2 cq (eC (.int 2)) (eC (.int 32))) (eC (.int 1)))),e2 cA (e2 cA (e2 cq (eC (.int 2)) (eC (.int 32))) (eC (.int 1))) (e2 oMod (e2 bz (aa 0) (eC (.int 3))) (eC (.int 9)))]) [.sh (.int z)]=.ok (.lst [.int (1+z / 3 % 40),.int (1+z / 3 % (4294967296 - 1)),.int (4294967296 - 1 - z / 3 % 9)]):=by
   have a1:(e2 aK (eC (.int 1)) (e2 oMod (e2 bz (aa 0) (eC (.int 3))) (eC (.int 40)))) [.sh (.int z)]=.ok (.int (1+z / 3 % 40)):=bH rfl (bS (cj rfl rfl (by decide)) rfl (by decide))
   have a2:(e2 aK (eC (.int 1)) (e2 oMod (e2 bz (aa 0) (eC (.int 3))) (e2 cA (e2 cq (eC (.int 2)) (eC (.int 32))) (eC (.int 1))))) [.sh (.int z)]=.ok (.int (1+z / 3 % (4294967296 - 1))):=bH rfl (bS (cj rfl rfl (by decide)) (fG (kr _) rfl) (by decide))
   have a3:(e2 cA (e2 cA (e2 cq (eC (.int 2)) (eC (.int 32))) (eC (.int 1))) (e2 oMod (e2 bz (aa 0) (eC (.int 3))) (eC (.int 9)))) [.sh (.int z)]=.ok (.int (4294967296 - 1 - z / 3 % 9)):=fG (fG (kr _) rfl) (bS (cj rfl rfl (by decide)) rfl (by decide))
   simp only[bD,eList,a1,a2,a3,R.aL]
 rw[kQ]
 rcases h3 with h|h|h
 ·exact⟨_,cf (b8 (aS q (bS rfl rfl (by decide)) (by rw[h];rfl)))⟩
 ·exact⟨_,cf (b8 (aS q (bS rfl rfl (by decide)) (by rw[h];rfl)))⟩
 ·exact⟨_,cf (b8 (aS q (bS rfl rfl (by decide)) (by rw[h];rfl)))⟩
theorem AB{a b:Int}(h0:0≤b)(h1:b<1000):∃ws:List Int,(ws.length:Int)=b∧j2 [.int a,.int b]=.ok (L ws):=by
 obtain⟨ρ',eL,ws,M,s3,rfl,hl⟩:=e7 (tg:=ar 3) (body:=jq) (fun i ρ=>∃ws M s3,ρ=[.sh (.int M),.sh (.int b),.ol (ws.map .int),s3]∧ws.length=i) (ds:=bB 0 b) 0 (by
   rintro i d hd ρ ⟨ws,M,s3,rfl,hl⟩
   obtain⟨rfl,hi⟩:=km hd
   refine⟨_,rfl,_,?_,ws++[M % 4294967296],M / 4294967296,.sh (.int (0+(i:Int))),rfl,by rw[List.length_append];simp[hl]⟩
   show jq [.sh (.int M),.sh (.int b),.ol (ws.map .int),.sh (.int (0+(i:Int)))]=_
   rw[jq,au (qD (bS rfl (kr _) (by decide)) rfl (by rw[List.length_map];omega))]
   show aw _ [.sh (.int M),.sh (.int b),.ol (ws.map .int++[.int (M % 4294967296)]),_]=_
   rw[au (bA (cj rfl (kr _) (by decide))),List.map_append]
   rfl) (ρ:=[.sh (.int a),.sh (.int b),.ol [],.un]) ⟨[],a,.un,rfl,rfl⟩
 rw[gD]at hl
 refine⟨ws,by omega,?_⟩
 rw[j2]
 refine cf ?_
 show aw _ [.sh (.int a),.sh (.int b),.un,.un]=_
 rw[au (ρ':=[.sh (.int a),.sh (.int b),.ol [],.un]) rfl]
 rw[au (a:=bu _ _ _) (di (fY rfl (d7 (by omega) (by omega))) eL)]
 rw[au (ρ':=[.sh (.int M),.sh (.int b),.sh (L ws),s3]) rfl]
 exact dC (b8 rfl)
theorem BI(n:Nat):(List.replicate n [D.int 0]).flatten=(List.replicate n (0:Int)).map .int:=by
 induction n with
 |zero=>rfl
 |succ n ih=>rw[List.replicate_succ,List.flatten_cons,ih,List.replicate_succ,List.map_cons];rfl
noncomputable def pad(xs:List Int):List Int:=xs++List.replicate (16 - xs.length) 0
theorem lV{xs:List Int}(h:xs.length≤16):gQ [L xs]=.ok (B (pad xs)):=by
 rw[gQ]
 refine cf (b8 (fX (x:=.lst (xs.map .int++(List.replicate (16 - xs.length) (0:Int)).map .int)) (aS (o:=aK) (x:=.lst (xs.map .int)) (y:=.lst ((List.replicate (16 - xs.length) (0:Int)).map .int)) rfl ?_ (G.mU ?_)) ?_))
 · refine aS (x:=.lst [.int 0]) (y:=.int (16 - xs.length)) rfl (fG rfl (by rw[gj rfl,List.length_map])) ?_
   show(if _ then _ else _)=_
   rw[if_pos ⟨by omega,by omega,by decide⟩,BI,show((16:Int) - (xs.length:Int)).toNat=16 - xs.length by omega]
 ·rw[List.length_map,List.length_map,List.length_replicate];omega
 · show R.ok (D.tup (xs.map .int++_))=_
   rw[←List.map_append];rfl
theorem Cr{xs:List Int}(h:xs.length≤16):(pad xs).length=16:=by
 unfold pad;simp;omega
theorem x9{c many:Int}(h0:0≤many)(h1:many<1000):∃bs:List (List Int),(bs.length:Int)=many∧iY [.int c,.int many]=.ok (.lst (bs.map B)):=by
 have hp:∀ρ,(e2 cq (eC (.int 10)) (eC (.int 18))) ρ=.ok (.int 1000000000000000000):=fun ρ=>rfl
 generalize hs:c % 1000000000000000000+1=sd
 have s0:0≤sd∧sd≤1000000000000000000:=by omega
 let g:Nat→List Int:=fun k=>(List.range 16).map fun(j:Nat)=>sd*(16*(k:Int)+(j:Int)+1)*40692 % 4294967291
 refine⟨(List.range many.toNat).map g,by simp;omega,?_⟩
 rw[iY]
 refine cf ?_
 show aw _ [.sh (.int c),.sh (.int many),.un]=_
 rw[au (bA (d:=.int sd) (by rw[←hs];exact bH (bS rfl (hp _) (by decide)) rfl))]
 show aw _ [.sh (.int c),.sh (.int many),.sh (.int sd)]=_
 refine dC (b8 ?_)
 refine iS (fY rfl (d7 (by omega) (by omega))) (by rw[gD];omega) ?_
 rw[List.map_map]
 unfold bB
 rw[show(many - 0).toNat=many.toNat by omega]
 refine jW (u:=fun k:Nat=>D.int (0+(k:Int))) (v:=B∘g) fun k hk=>⟨_,rfl,?_⟩
 have hk:=List.mem_range.mp hk
 refine fX (x:=.lst ((g k).map .int)) ?_ rfl
 refine iS (fY rfl (by decide)) (by rw[gD];decide) ?_
 show cM _ _ _ _ (bB 0 16)=.ok (((List.range 16).map fun(j:Nat)=>sd*(16*(k:Int)+(j:Int)+1)*40692 % 4294967291).map D.int)
 rw[List.map_map]
 refine jW (u:=fun j:Nat=>D.int (0+(j:Int))) (v:=D.int∘_) (xs:=List.range 16) fun j hj=>⟨_,rfl,?_⟩
 have hj:=List.mem_range.mp hj
 show(e2 oMod (e2 bV (e2 bV (aa 1) (e2 aK (e2 aK (e2 bV (eC (.int 16)) (aa 2)) (aa 0)) (eC (.int 1)))) (eC (.int 40692))) (eC (.int 4294967291))) [.sh (.int (0+(j:Int))),.sh (.int sd),.sh (.int (0+(k:Int)))]=_
 have hb:0≤16*(k:Int)+(j:Int)+1∧16*(k:Int)+(j:Int)+1<100000:=by omega
 rw[Int.zero_add,Int.zero_add]
 refine bS (eA (eA rfl (bH (bH (eA rfl rfl (by decide) (eW (by omega) (by omega))) rfl) rfl) (lC (n:=100) (by omega) (by decide)) (eW (by omega) (by omega))) rfl ?_ (by decide)) rfl (by decide)
 generalize 16*(k:Int)+(j:Int)+1=q at hb
 refine lC (n:=200) ?_ (by decide)
 rw[Int.natAbs_mul]
 have h5:sd.natAbs≤1000000000000000000:=by omega
 have h6:q.natAbs≤100000:=by omega
 exact Nat.lt_of_le_of_lt (Nat.mul_le_mul h5 h6) (by decide)
noncomputable def nI(k:Nat):D:=.int (k:Int)
inductive Nd where
 |fi (ws:List Int)|fo (ks vs:List Int)
noncomputable def lv(vs:List Int):List T:=(vs.map D.int).map T.d
noncomputable def Nd.t:Nd→T
 |.fi ws=>.l [.d (.int 1),.d (L ws)]
 |.fo ks vs=>.l [.d (.int 2),.m (ks.map .inl) (lv vs)]
noncomputable def Nd.ct:Nd→D
 |.fi ws=>L ws
 |.fo ks vs=>.aD (ks.map .inl) (vs.map .int)
noncomputable def Nd.kd:Nd→Int
 |.fi _=>1
 |.fo _ _=>2
noncomputable def Nd.d(x:Nd):D:=.lst [.int x.kd,x.ct]
noncomputable def Nd.len:Nd→Nat
 |.fi ws=>ws.length
 |.fo ks _=>ks.length
noncomputable def Nd.want:Nd→Nat
 |.fi ws=>(ws.length+15) / 16
 |.fo ks _=>(2*ks.length+15) / 16
noncomputable def Nd.ok(n:Nat):Nd→Prop
 |.fi ws=>ws.length≤64
 |.fo ks vs=>ks.length=vs.length∧ks.length≤32∧∀v∈vs,0≤v∧v<(n:Int)
theorem Nd.wZ{n:Nat}{x:Nd}(h:x.ok n):x.want≤4:=by
 cases x with
 |fi ws=>have h:ws.length≤64:=h;show(ws.length+15) / 16≤4;omega
 |fo ks vs=>have h:=h.2.1;show(2*ks.length+15) / 16≤4;omega
theorem Nd.up{n:Nat}{x:Nd}(h:x.ok n):x.ok (n+1):=by
 cases x with
 |fi ws=>exact h
 |fo ks vs=>exact⟨h.1,h.2.1,fun v hv=>by have:=h.2.2 v hv;omega⟩
theorem mf:∀ds:List D,T.dn (ds.map T.d)=ds
 |[]=>rfl
 |d::ds=>by show T.toD (.d d)::T.dn (ds.map T.d)=_;rw[mf ds];rfl
theorem Nd.toD(x:Nd):T.toD x.t=x.d:=by
 cases x with
 |fi ws=>rfl
 | fo ks vs=>
   show D.lst [.int 2,.aD (ks.map .inl) (T.dn (lv vs))]=_
   unfold lv
   rw[mf];rfl
theorem sj:∀xs:List Nd,T.dn (xs.map Nd.t)=xs.map Nd.d
 |[]=>rfl
 |x::xs=>by show T.toD x.t::T.dn (xs.map Nd.t)=_;rw[sj xs,x.toD];rfl
noncomputable def cost:List Nd→Nat
 |[]=>0
 |x::xs=>x.want+1+cost xs
theorem pF:∀(xs ys:List Nd),cost (xs++ys)=cost xs+cost ys
 |[],ys=>by simp[cost]
 |x::xs,ys=>by simp only[List.cons_append,cost];rw[pF xs ys];omega
theorem rC:∀ {xs:List Nd} {k:Nat} {x y:Nd},xs[k]? =some x→cost (xs.set k y)+x.want=cost xs+y.want
 |[],_,_,_,h=>by simp at h
 | a::xs,0,x,y,h=>by
   simp at h;subst h
   simp only[List.set_cons_zero,cost];omega
 | a::xs,k+1,x,y,h=>by
   have:=rC (xs:=xs) (k:=k) (x:=x) (y:=y) (by simpa using h)
   simp only[List.set_cons_succ,cost];omega
theorem lI:∀ds:List D,dj (ds.map T.d)=some ds
 |[]=>rfl
 |d::ds=>by show(dj (ds.map T.d)).map (d:: ·)=_;rw[lI ds];rfl
theorem BU{j i:Nat}{f:Pt}{ρ:En}{p:List Nat}{t t1:T}(h1:f ρ=.ok p)(h2:ρ[i]? =some (.on (.tr t)))(h3:T.at t p=some t1)(h4:t1.own=true)(h5:i≠j):jS j i f ρ=.ok (.next (ρ.set j (.on (.al i p)))):=by
 unfold jS
 simp only[h1,R.aL,h2,h3]
 exact if_pos ⟨h4,h5⟩
theorem qF{i:Nat}{f:Pt}{e:Ex}{ρ:En}{p:List Nat}{t:T}{ts:List T}{k:Int}{m:Nat}(h1:f ρ=.ok p)(h2:e ρ=.ok (.int k))(h3:ρ[i]? =some (.on (.tr t)))(h4:T.at t p=some (.l ts))(h5:bJ ts.length k=some m):pI i f e ρ=.ok (p++[m]):=by
 unfold pI
 simp only[h1,h2,R.aL,h3,h4,h5]
theorem rh{ρ:En}{j i:Nat}{p:List Nat}{t t1:T}(h1:ρ[j]? =some (.on (.al i p)))(h2:ρ[i]? =some (.on (.tr t)))(h3:T.at t p=some t1):cR ρ j=some (i,p,t,t1):=by
 unfold cR
 simp only[h1,h2,h3]
theorem AW{ρ:En}{j i:Nat}{p:List Nat}{t:T}{ks:List Ky}{ts:List T}(h:cR ρ j=some (i,p,t,.m ks ts)):fq j ρ=.ok (.int ks.length):=by
 unfold fq
 rw[h]
theorem Bj{ρ:En}{j i:Nat}{p:List Nat}{t:T}{ks:List Ky}{ts:List T}{k:Ex}{q:D}{z:Ky}(h:cR ρ j=some (i,p,t,.m ks ts))(hk:k ρ=.ok q)(hz:keyOf q=some z):gh true j k ρ=.ok (.bl (!(ks.any fun a=>decide (a=z)))):=by
 unfold gh
 simp only[hk,R.aL,h,hz,if_true]
theorem sD{ρ:En}{i:Nat}{ts:List T}(h:ρ[i]? =some (.on (.tr (.l ts)))):gI i ρ=.ok (.int ts.length):=by
 unfold gI
 rw[h]
theorem Aq{ρ:En}{j i:Nat}{p:List Nat}{t:T}{ks:List Ky}{ts:List T}{vs:List D}{k e:Ex}{d q:D}{z:Ky}(h:cR ρ j=some (i,p,t,.m ks ts))(hl:dj ts=some vs)(he:e ρ=.ok d)(hk:k ρ=.ok q)(hz:keyOf q=some z)(hn:ks.length<1000):
   j1 j k e ρ=.ok (.next (ρ.set i (.on (.tr (T.put (.m (putL z d ks vs).1 ((putL z d ks vs).2.map .d)) t p))))):=by
 unfold j1
 simp only[he,hk,R.aL,h,hz,hl]
 exact if_pos hn
theorem zX{ρ:En}{i:Nat}{f:Xt}{t:T}{ts:List T}(hf:f ρ=.ok t)(h:ρ[i]? =some (.on (.tr (.l ts))))(hn:ts.length<16777216):kJ i f ρ=.ok (.next (ρ.set i (.on (.tr (.l (ts++[t])))))):=by
 unfold kJ
 simp only[hf,R.aL,h]
 exact if_pos hn
theorem putL_new{z:Ky}{d:D}{ks:List Ky}{vs:List D}(h:(ks.any fun a=>decide (a=z))=false):putL z d ks vs=(ks++[z],vs++[d]):=by
 unfold putL
 rw[if_neg (by rw[h];decide)]
theorem iM{i:Nat}{ρ:En}{xs:List D}{n:Nat}(h:ρ[i]? =some (.ol xs))(hn:xs.length=n):cO i ρ=.ok (.int n):=by rw[qU h,hn]
theorem yN{i:Nat}{e:Ex}{ρ:En}{xs:List D}{k:Int}{d:D}(h1:e ρ=.ok (.int k))(h2:ρ[i]? =some (.ol xs))(h3:bI xs k=some d):gR i e ρ=.ok d:=by
 simp only[gR,h1,R.aL,h2,gG,h3]
theorem xm{cells:D}{c r room:Int}{nds:List Nd}{fs:List Nat}{s5 s6 s7 s8 s9:Slot}(hr:0≤r)(hc:(cost nds:Int)+r=room+1)(ao:∀x∈nds,x.ok nds.length)(hf:fs≠[])(hfs:∀k∈fs,∃ks vs,nds[k]? =some (.fo ks vs))(hn:nds.length<1000)(hnf:fs.length<1000):
   ∃r' nds' fs' s5' s6' s7' s8' s9',jH [.sh cells,.sh (.int r),.on (.tr (.l (nds.map Nd.t))),.ol (fs.map nI),.sh (.int c),s5,s6,s7,s8,s9]=.ok (.next [.sh cells,.sh (.int r'),.on (.tr (.l (nds'.map Nd.t))),.ol (fs'.map nI),.sh (.int c),s5',s6',s7',s8',s9'])∧
     0≤r'∧(cost nds':Int)+r'=room+1∧(∀x∈nds',x.ok nds'.length)∧fs'≠[]∧(∀k∈fs',∃ks vs,nds'[k]? =some (.fo ks vs))∧nds'.length≤nds.length+1∧fs'.length≤fs.length+1:=by
 obtain⟨z,hz,ez⟩:=tN c
 have hlen:0<fs.length:=List.length_pos_iff.mpr hf
 obtain⟨k,hkm,hk⟩:∃k,k∈fs∧bI (fs.map nI) (z % (fs.length:Int))=some (nI k):=by
   have h1:=Int.emod_nonneg z (show(fs.length:Int)≠0 by omega)
   have h2:=Int.emod_lt_of_pos z (show(0:Int)<fs.length by omega)
   refine⟨fs[(z % (fs.length:Int)).toNat]'(by omega),List.getElem_mem _,?_⟩
   rw[qY h1 (by rw[List.length_map];exact h2)]
   simp
 obtain⟨ks,vs,hks⟩:=hfs k hkm
 have hko:=ao _ (List.mem_of_getElem? hks)
 have hkl:k<nds.length:=(List.getElem?_eq_some_iff.mp hks).1
 have hts:(nds.map Nd.t)[k]? =some (.l [.d (.int 2),.m (ks.map .inl) (lv vs)]):=by rw[List.getElem?_map,hks];rfl
 have at0:T.at (.l (nds.map Nd.t)) []=some (.l (nds.map Nd.t)):=rfl
 have at1:T.at (.l (nds.map Nd.t)) [k]=some (.l [.d (.int 2),.m (ks.map .inl) (lv vs)]):=by unfold T.at;rw[hts];rfl
 have at2:T.at (.l (nds.map Nd.t)) [k,1]=some (.m (ks.map .inl) (lv vs)):=by unfold T.at;rw[hts];rfl
 rw[jH]
 rw[au (bA (bZ rfl ez))]
 show ∃r' nds' fs' s5' s6' s7' s8' s9',aw _ [.sh cells,.sh (.int r),.on (.tr (.l (nds.map Nd.t))),.ol (fs.map nI),.sh (.int c),.sh (.int z),s6,s7,s8,s9]=_∧_
 have hidx:(gR 3 (e2 oMod (aa 5) (cO 3))) [.sh cells,.sh (.int r),.on (.tr (.l (nds.map Nd.t))),.ol (fs.map nI),.sh (.int c),.sh (.int z),s6,s7,s8,s9]=.ok (.int (k:Int)):=yN (bS rfl (iM rfl (List.length_map _)) (by omega)) rfl hk
 have hp:(pI 2 (pI 2 (pN) (gR 3 (e2 oMod (aa 5) (cO 3)))) (eC (.int 1))) [.sh cells,.sh (.int r),.on (.tr (.l (nds.map Nd.t))),.ol (fs.map nI),.sh (.int c),.sh (.int z),s6,s7,s8,s9]=.ok [k,1]:=
   qF (p:=[k]) (m:=1) (t:=.l (nds.map Nd.t)) (qF (p:=[]) (m:=k) (t:=.l (nds.map Nd.t)) (ts:=nds.map Nd.t) rfl hidx rfl at0 (by rw[List.length_map,mS (by omega) (by omega)];simp)) rfl rfl at1 rfl
 rw[au (BU hp rfl at2 rfl (by decide))]
 show ∃r' nds' fs' s5' s6' s7' s8' s9',aw _ [.sh cells,.sh (.int r),.on (.tr (.l (nds.map Nd.t))),.ol (fs.map nI),.sh (.int c),.sh (.int z),.on (.al 2 [k,1]),s7,s8,s9]=_∧_
 rw[au (bA (cj rfl (iM rfl (List.length_map _)) (dv (by omega) (by omega))))]
 generalize z / (fs.length:Int)=z1
 show ∃r' nds' fs' s5' s6' s7' s8' s9',aw _ [.sh cells,.sh (.int r),.on (.tr (.l (nds.map Nd.t))),.ol (fs.map nI),.sh (.int c),.sh (.int z1),.on (.al 2 [k,1]),s7,s8,s9]=_∧_
 obtain⟨w,ew⟩:=wO z1
 rw[au (bA (bZ rfl ew))]
 show ∃r' nds' fs' s5' s6' s7' s8' s9',aw _ [.sh cells,.sh (.int r),.on (.tr (.l (nds.map Nd.t))),.ol (fs.map nI),.sh (.int c),.sh (.int z1),.on (.al 2 [k,1]),.sh (.int w),s8,s9]=_∧_
 rw[au (bA (cj rfl (eA rfl (kr _) (by decide) (by decide)) (by decide)))]
 generalize z1 / (3*4294967296)=z2
 show ∃r' nds' fs' s5' s6' s7' s8' s9',aw _ [.sh cells,.sh (.int r),.on (.tr (.l (nds.map Nd.t))),.ol (fs.map nI),.sh (.int c),.sh (.int z2),.on (.al 2 [k,1]),.sh (.int w),s8,s9]=_∧_
 obtain⟨ws,hws,ews⟩:=AB (a:=z2 / (3*65)) (b:=z2 / 3 % 65) (by omega) (by omega)
 rw[au (bA (cS (cj rfl (eA rfl rfl (by decide) (by decide)) (by decide)) (bS (cj rfl rfl (by decide)) rfl (by decide)) ews))]
 have hws64:ws.length≤64:=by omega
 show ∃r' nds' fs' s5' s6' s7' s8' s9',aw _ [.sh cells,.sh (.int r),.on (.tr (.l (nds.map Nd.t))),.ol (fs.map nI),.sh (.int c),.sh (.int z2),.on (.al 2 [k,1]),.sh (.int w),.sh (L ws),s9]=_∧_
 have al:∀s9,cR [.sh cells,.sh (.int r),.on (.tr (.l (nds.map Nd.t))),.ol (fs.map nI),.sh (.int c),.sh (.int z2),.on (.al 2 [k,1]),.sh (.int w),.sh (L ws),s9] 6=some (2,[k,1],.l (nds.map Nd.t),.m (ks.map .inl) (lv vs)):=fun _=>rh rfl rfl at2
 have hla:∀s9,fq 6 [.sh cells,.sh (.int r),.on (.tr (.l (nds.map Nd.t))),.ol (fs.map nI),.sh (.int c),.sh (.int z2),.on (.al 2 [k,1]),.sh (.int w),.sh (L ws),s9]=.ok (.int ks.length):=fun s9=>by rw[AW (al s9),List.length_map]
 have hk32:=hko.2.1
 rw[au (bA (fG (bH rfl (cS rfl (bH (hla _) rfl) (ki (by decide) (eW (by omega) (by omega))))) (cS rfl (hla _) (ki (by decide) (eW (by omega) (by omega))))))]
 generalize hm0:(1+(2*((ks.length:Int)+1)+15) / 16 - (2*(ks.length:Int)+15) / 16)=m0
 show ∃r' nds' fs' s5' s6' s7' s8' s9',aw _ [.sh cells,.sh (.int r),.on (.tr (.l (nds.map Nd.t))),.ol (fs.map nI),.sh (.int c),.sh (.int z2),.on (.al 2 [k,1]),.sh (.int w),.sh (L ws),.sh (.int m0)]=_∧_
 obtain⟨m1,hm1,eif⟩:∃m1:Int,m1=m0+(if z2 % 3=0 then 0 else((ws.length:Int)+15) / 16)∧cF (tV (e2 g8 (e2 oMod (aa 5) (eC (.int 3))) (eC (.int 0)))) (aR (ar 9) (e2 aK (aa 9) (aB dO [eC (.int 1),e1 cg (aa 8)]))) (cH) [.sh cells,.sh (.int r),.on (.tr (.l (nds.map Nd.t))),.ol (fs.map nI),.sh (.int c),.sh (.int z2),.on (.al 2 [k,1]),.sh (.int w),.sh (L ws),.sh (.int m0)]=.ok (.next [.sh cells,.sh (.int r),.on (.tr (.l (nds.map Nd.t))),.ol (fs.map nI),.sh (.int c),.sh (.int z2),.on (.al 2 [k,1]),.sh (.int w),.sh (L ws),.sh (.int m1)]):=by
   by_cases h3:z2 % 3=0
   · refine⟨m0,by rw[if_pos h3];omega,dJ (bf ?_)⟩
     rw[pY (bS rfl rfl (by decide)) rfl,decide_eq_false (by omega)]
   · refine⟨_,rfl,?_⟩
     rw[jg (bf (b:=true) (by rw[pY (bS rfl rfl (by decide)) rfl,decide_eq_true (by omega)]))]
     rw[bA (bH rfl (cS rfl (by rw[gj rfl,List.length_map]) (ki (by decide) (eW (by omega) (by omega)))))]
     rw[if_neg h3,Int.one_mul]
     rfl
 rw[au eif]
 have hnot:(gh true 6 (aa 7)) [.sh cells,.sh (.int r),.on (.tr (.l (nds.map Nd.t))),.ol (fs.map nI),.sh (.int c),.sh (.int z2),.on (.al 2 [k,1]),.sh (.int w),.sh (L ws),.sh (.int m1)]=.ok (.bl (!((ks.map (Sum.inl:Int→Ky)).any fun a=>decide (a=.inl w)))):=Bj (al _) rfl rfl
 cases hany:((ks.map (Sum.inl:Int→Ky)).any fun a=>decide (a=.inl w))with
 | true=>
   refine⟨r,nds,fs,.sh (.int z2),.on (.al 2 [k,1]),.sh (.int w),.sh (L ws),.sh (.int m1),?_,hr,hc,ao,hf,hfs,by omega,by omega⟩
   rw[au (dJ (qS (bf (by rw[hnot,hany];rfl))))]
   rfl
 | false=>
   by_cases hl:ks.length<32
   · by_cases hmr:m1≤r
     · have htest:(dU (tV (gh true 6 (aa 7))) (dU (tV (e2 oLt (fq 6) (eC (.int 32)))) (tV (e2 oLe (aa 9) (aa 1))))) [.sh cells,.sh (.int r),.on (.tr (.l (nds.map Nd.t))),.ol (fs.map nI),.sh (.int c),.sh (.int z2),.on (.al 2 [k,1]),.sh (.int w),.sh (L ws),.sh (.int m1)]=.ok true:=by
         rw[kf (b:=true) (c:=true) (bf (by rw[hnot,hany];rfl)) (kf (b:=true) (c:=true) (bf (by rw[kX (hla _) rfl,decide_eq_true (by omega)])) (bf (by rw[tZ rfl rfl,decide_eq_true hmr])))];rfl
       obtain⟨nn,hnn,enn⟩:∃nn:Nd,nn=(if z2 % 3=0 then Nd.fo [] []else .fi ws)∧∀(r':Int) t f,(j7 [xL [xD (eC (.int 1)),xD (aa 8)],xL [xD (eC (.int 2)),js]] (e1 ic (e2 oEq (e2 oMod (aa 5) (eC (.int 3))) (eC (.int 0))))) [.sh cells,.sh (.int r'),t,f,.sh (.int c),.sh (.int z2),.on (.al 2 [k,1]),.sh (.int w),.sh (L ws),.sh (.int m1)]=.ok nn.t:=by
         refine⟨_,rfl,fun r' t f=>?_⟩
         have hx:(cG [xL [xD (eC (.int 1)),xD (aa 8)],xL [xD (eC (.int 2)),js]]) [.sh cells,.sh (.int r'),t,f,.sh (.int c),.sh (.int z2),.on (.al 2 [k,1]),.sh (.int w),.sh (L ws),.sh (.int m1)]=.ok [.l [.d (.int 1),.d (L ws)],.l [.d (.int 2),.m [] []]]:=rfl
         have hi:(e1 ic (e2 oEq (e2 oMod (aa 5) (eC (.int 3))) (eC (.int 0)))) [.sh cells,.sh (.int r'),t,f,.sh (.int c),.sh (.int z2),.on (.al 2 [k,1]),.sh (.int w),.sh (L ws),.sh (.int m1)]=.ok (.int (if z2 % 3=0 then 1 else 0)):=by
           refine fX (fT (bS rfl rfl (by decide)) rfl) ?_
           by_cases h3:z2 % 3=0
           ·rw[decide_eq_true h3,if_pos h3];rfl
           ·rw[decide_eq_false h3,if_neg h3];rfl
         unfold j7
         rw[hx,R.aL,hi,R.aL]
         by_cases h3:z2 % 3=0
         ·rw[if_pos h3,if_pos h3];rfl
         ·rw[if_neg h3,if_neg h3];rfl
       let nds1:List Nd:=nds.set k (.fo (ks++[w]) (vs++[(nds.length:Int)]))
       have ht1:T.put (.m (ks.map .inl++[.inl w]) ((vs.map D.int++[D.int (nds.length:Int)]).map T.d)) (.l (nds.map Nd.t)) [k,1]=.l (nds1.map Nd.t):=by
         unfold T.put
         rw[hts]
         show T.l ((nds.map Nd.t).set k (.l [.d (.int 2),.m _ _]))=.l ((nds.set k _).map Nd.t)
         rw[List.map_set]
         show _=T.l ((nds.map Nd.t).set k (.l [.d (.int 2),.m ((ks++[w]).map .inl) (lv (vs++[(nds.length:Int)]))]))
         unfold lv
         simp only[List.map_append];rfl
       have hl1:nds1.length=nds.length:=List.length_set
       have hcost1:cost nds1+(2*ks.length+15) / 16=cost nds+(2*(ks.length+1)+15) / 16:=by
         have:=rC (y:=.fo (ks++[w]) (vs++[(nds.length:Int)])) hks
         simp only[Nd.want,List.length_append,List.length_singleton]at this
         exact this
       have hnnw:(nn.want:Int)=if z2 % 3=0 then 0 else((ws.length:Int)+15) / 16:=by
         rw[hnn]
         by_cases h3:z2 % 3=0
         ·rw[if_pos h3,if_pos h3];rfl
         ·rw[if_neg h3,if_neg h3];show(((ws.length+15) / 16:Nat):Int)=_;omega
       let fs1:List Nat:=if z2 % 3=0 then fs++[nds.length]else fs
       refine⟨r - m1,nds1++[nn],fs1,.sh (.int z2),.on (.al 2 [k,1]),.sh (.int w),.sh (L ws),.sh (.int m1),?_,by omega,?_,?_,?_,?_,?_,?_⟩
       · rw[au (ρ':=[.sh cells,.sh (.int (r - m1)),.on (.tr (.l ((nds1++[nn]).map Nd.t))),.ol (fs1.map nI),.sh (.int c),.sh (.int z2),.on (.al 2 [k,1]),.sh (.int w),.sh (L ws),.sh (.int m1)]) ?_]
         ·rfl
         rw[jg htest,au (bA (fG rfl rfl))]
         show aw _ [.sh cells,.sh (.int (r - m1)),.on (.tr (.l (nds.map Nd.t))),.ol (fs.map nI),.sh (.int c),.sh (.int z2),.on (.al 2 [k,1]),.sh (.int w),.sh (L ws),.sh (.int m1)]=_
         rw[au (Aq (d:=.int (nds.length:Int)) (z:=.inl w) (vs:=vs.map .int) (rh rfl rfl at2) (lI _) (by rw[sD rfl,List.length_map]) rfl rfl (by rw[List.length_map];omega)),putL_new hany,ht1]
         show aw _ [.sh cells,.sh (.int (r - m1)),.on (.tr (.l (nds1.map Nd.t))),.ol (fs.map nI),.sh (.int c),.sh (.int z2),.on (.al 2 [k,1]),.sh (.int w),.sh (L ws),.sh (.int m1)]=_
         have e2':cF (tV (e2 oEq (e2 oMod (aa 5) (eC (.int 3))) (eC (.int 0)))) (gT 3 (gI 2)) (cH) [.sh cells,.sh (.int (r - m1)),.on (.tr (.l (nds1.map Nd.t))),.ol (fs.map nI),.sh (.int c),.sh (.int z2),.on (.al 2 [k,1]),.sh (.int w),.sh (L ws),.sh (.int m1)]=.ok (.next [.sh cells,.sh (.int (r - m1)),.on (.tr (.l (nds1.map Nd.t))),.ol (fs1.map nI),.sh (.int c),.sh (.int z2),.on (.al 2 [k,1]),.sh (.int w),.sh (L ws),.sh (.int m1)]):=by
           by_cases h3:z2 % 3=0
           · rw[jg (bf (b:=true) (by rw[fT (bS rfl rfl (by decide)) rfl,decide_eq_true h3]))]
             rw[qD (d:=.int (nds.length:Int)) (by rw[sD rfl,List.length_map,hl1]) rfl (by rw[List.length_map];omega)]
             show _=R.ok (Fl.next [_,_,_,.ol ((if z2 % 3=0 then fs++[nds.length]else fs).map _),_,_,_,_,_,_])
             rw[if_pos h3,List.map_append]
             rfl
           · rw[dJ (bf (by rw[fT (bS rfl rfl (by decide)) rfl,decide_eq_false h3]))]
             show _=R.ok (Fl.next [_,_,_,.ol ((if z2 % 3=0 then fs++[nds.length]else fs).map _),_,_,_,_,_,_])
             rw[if_neg h3]
         rw[au e2',au (zX (enn _ _ _) rfl (by rw[List.length_map,hl1];omega)),List.map_append]
         rfl
       · rw[pF]
         simp only[cost]
         have h7:=hm1
         rw[←hnnw]at h7
         omega
       · intro x hx
         rw[List.length_append,List.length_singleton,hl1]
         rcases List.mem_append.mp hx with hx|hx
         · rcases List.mem_or_eq_of_mem_set hx with hx|rfl
           ·exact Nd.up (ao x hx)
           · refine⟨by simp[hko.1],by simp;omega,fun v hv=>?_⟩
             rcases List.mem_append.mp hv with hv|hv
             ·have:=hko.2.2 v hv;omega
             ·rw[List.mem_singleton.mp hv];omega
         · rw[List.mem_singleton.mp hx,hnn]
           by_cases h3:z2 % 3=0
           ·rw[if_pos h3];exact⟨rfl,by simp,fun v hv=>nomatch hv⟩
           ·rw[if_neg h3];exact hws64
       · show(if z2 % 3=0 then fs++[nds.length]else fs)≠[]
         by_cases h3:z2 % 3=0
         ·rw[if_pos h3];simp
         ·rw[if_neg h3];exact hf
       · intro q hq
         have old:∀q∈fs,∃ks vs,(nds1++[nn])[q]? =some (.fo ks vs):=fun q hq=>by
           obtain⟨ks',vs',h5⟩:=hfs q hq
           have hql:q<nds.length:=(List.getElem?_eq_some_iff.mp h5).1
           rw[List.getElem?_append_left (by rw[hl1];exact hql)]
           by_cases hqk:k=q
           · subst hqk
             exact⟨_,_,List.getElem?_set_self hkl⟩
           ·exact⟨ks',vs',by rw[List.getElem?_set_ne hqk];exact h5⟩
         have hq:q∈(if z2 % 3=0 then fs++[nds.length]else fs):=hq
         by_cases h3:z2 % 3=0
         · rw[if_pos h3]at hq
           rcases List.mem_append.mp hq with hq|hq
           ·exact old q hq
           · rw[List.mem_singleton.mp hq,List.getElem?_append_right (by rw[hl1];exact Nat.le_refl _),hl1,Nat.sub_self,hnn,if_pos h3]
             exact⟨_,_,rfl⟩
         ·rw[if_neg h3]at hq;exact old q hq
       ·rw[List.length_append,List.length_singleton,hl1];exact Nat.le_refl _
       · show(if z2 % 3=0 then fs++[nds.length]else fs).length≤_
         by_cases h3:z2 % 3=0
         ·rw[if_pos h3];simp
         ·rw[if_neg h3];omega
     · refine⟨r,nds,fs,.sh (.int z2),.on (.al 2 [k,1]),.sh (.int w),.sh (L ws),.sh (.int m1),?_,hr,hc,ao,hf,hfs,by omega,by omega⟩
       rw[au (dJ (by rw[kf (b:=true) (c:=false) (bf (by rw[hnot,hany];rfl)) (kf (b:=true) (c:=false) (bf (by rw[kX (hla _) rfl,decide_eq_true (by omega)])) (bf (by rw[tZ rfl rfl,decide_eq_false hmr])))];rfl))]
       rfl
   · refine⟨r,nds,fs,.sh (.int z2),.on (.al 2 [k,1]),.sh (.int w),.sh (L ws),.sh (.int m1),?_,hr,hc,ao,hf,hfs,by omega,by omega⟩
     rw[au (dJ (by rw[kf (b:=true) (c:=false) (bf (by rw[hnot,hany];rfl)) (qS (bf (by rw[kX (hla _) rfl,decide_eq_false (by omega)])))];rfl))]
     rfl
theorem AI{cs:List Int}{room:Int}(h0:0≤room)(hl:cs.length≤100):∃nds:List Nd,(cost nds:Int)≤room+1∧(∀x∈nds,x.ok nds.length)∧0<nds.length∧nds.length≤101∧j8 [L cs,.int room]=.ok (.lst (nds.map Nd.d)):=by
 obtain⟨ρ',eL,r,nds,fs,s4,s5,s6,s7,s8,s9,rfl,hr,hc,ao,hf,hfs,hn1,hn2,hn3⟩:=e7 (tg:=ar 4) (body:=jH) (fun i ρ=>∃r nds fs s4 s5 s6 s7 s8 s9,ρ=[.sh (L cs),.sh (.int r),.on (.tr (.l (nds.map Nd.t))),.ol (fs.map nI),s4,s5,s6,s7,s8,s9]∧0≤r∧(cost nds:Int)+r=room+1∧(∀x∈nds,x.ok nds.length)∧fs≠[]∧(∀k∈fs,∃ks vs,nds[k]? =some (.fo ks vs))∧0<nds.length∧nds.length≤i+1∧fs.length≤i+1) (ds:=cs.map .int) 0 (by
   rintro i d hd ρ ⟨r,nds,fs,s4,s5,s6,s7,s8,s9,rfl,hr,hc,ao,hf,hfs,hn1,hn2,hn3⟩
   have hi:i<cs.length:=by have:=(List.getElem?_eq_some_iff.mp hd).1;simpa using this
   rw[List.getElem?_map,List.getElem?_eq_getElem hi]at hd
   cases hd
   obtain⟨r',nds',fs',s5',s6',s7',s8',s9',e,a1,a2,a3,a4,a5,a6,a7⟩:=xm (cells:=L cs) (c:=cs[i]) (s5:=s5) (s6:=s6) (s7:=s7) (s8:=s8) (s9:=s9) hr hc ao hf hfs (by omega) (by omega)
   refine⟨_,rfl,_,e,r',nds',fs',_,_,_,_,_,_,rfl,a1,a2,a3,a4,a5,?_,by omega,by omega⟩
   cases nds' with
   | nil=>
     cases fs' with
     |nil=>exact absurd rfl a4
     |cons q _=>obtain⟨_,_,h⟩:=a5 q List.mem_cons_self;simp at h
   |cons _ _=>simp) (ρ:=[.sh (L cs),.sh (.int room),.on (.tr (.l [Nd.t (.fo [] [])])),.ol [.int 0],.un,.un,.un,.un,.un,.un]) ⟨room,[.fo [] []],[0],.un,.un,.un,.un,.un,.un,rfl,h0,by simp[cost,Nd.want];omega,(fun x hx=>by rw[List.mem_singleton.mp hx];exact⟨rfl,by simp,fun v hv=>nomatch hv⟩),by simp,(fun k hk=>by rw[List.mem_singleton.mp hk];exact⟨_,_,rfl⟩),by simp,by simp,by simp⟩
 rw[List.length_map]at hn2
 refine⟨nds,by omega,ao,hn1,by omega,?_⟩
 rw[j8]
 refine cf ?_
 show aw _ [.sh (L cs),.sh (.int room),.un,.un,.un,.un,.un,.un,.un,.un]=_
 rw[au (ρ':=[.sh (L cs),.sh (.int room),.on (.tr (.l [Nd.t (.fo [] [])])),.un,.un,.un,.un,.un,.un,.un]) rfl]
 rw[au (ρ':=[.sh (L cs),.sh (.int room),.on (.tr (.l [Nd.t (.fo [] [])])),.ol [.int 0],.un,.un,.un,.un,.un,.un]) rfl]
 rw[au (a:=bu _ _ _) (di (by rfl) eL)]
 rw[au (ρ':=[.sh (L cs),.sh (.int r),.sh (.lst (nds.map Nd.d)),.ol (fs.map nI),s4,s5,s6,s7,s8,s9]) (by
   show R.ok (Fl.next [_,_,.sh (D.lst (T.dn (nds.map Nd.t))),_,_,_,_,_,_,_])=_
   rw[sj])]
 exact dC (b8 rfl)
theorem zipWith_map{α:Type}(f:α→D)(q:Int)(e:α):∀(ks:List Int) (es:List α),List.zipWith (fun(a:Ky) v=>if a=.inl q then f e else v) (ks.map .inl) (es.map f)=(List.zipWith (fun a x=>if a=q then e else x) ks es).map f
 |[],es=>by simp
 |k::ks,[]=>by simp
 | k::ks,x::es=>by
   simp only[List.map_cons,List.zipWith_cons_cons]
   rw[zipWith_map f q e ks es]
   by_cases h:k=q
   ·rw[if_pos h,if_pos (by rw[h])]
   ·rw[if_neg h,if_neg (fun z=>h (Sum.inl.inj z))]
theorem qB{α:Type}(q:Int)(e:α):∀(ks:List Int) (es:List α),∀x∈List.zipWith (fun a x=>if a=q then e else x) ks es,x∈es∨x=e
 |[],es,x,h=>by simp at h
 |k::ks,[],x,h=>by simp at h
 | k::ks,y::es,x,h=>by
   rw[List.zipWith_cons_cons]at h
   rcases List.mem_cons.mp h with h|h
   · by_cases hk:k=q
     ·rw[if_pos hk]at h;exact .inr h
     ·rw[if_neg hk]at h;exact .inl (by rw[h];exact List.mem_cons_self)
   ·exact(qB q e ks es x h).imp (List.mem_cons_of_mem _) id
theorem vW(q:Int)(ks:List Int):((ks.map (Sum.inl:Int→Ky)).any fun a=>decide (a=.inl q))=decide (q∈ks):=by
 induction ks with
 |nil=>simp
 | cons k ks ih=>
   rw[List.map_cons,List.any_cons,ih]
   by_cases h:k=q
   ·subst h;simp
   · have h':¬q=k:=fun z=>h z.symm
     have h2:¬((Sum.inl k:Ky)=.inl q):=fun z=>h (Sum.inl.inj z)
     simp[h2,h']
theorem rN{α:Type}(f:α→D)(q:Int)(e:α){ks:List Int}{es:List α}(hl:ks.length=es.length):∃(ks':List Int) (es':List α),putL (.inl q) (f e) (ks.map .inl) (es.map f)=(ks'.map .inl,es'.map f)∧ks'.length=es'.length∧(∀k∈ks',k∈ks∨k=q)∧(∀x∈es',x∈es∨x=e)∧q∈ks'∧(∀k∈ks,k∈ks')∧ks'.length≤ks.length+1:=by
 unfold putL
 rw[vW]
 by_cases h:q∈ks
 · rw[if_pos (decide_eq_true h),zipWith_map]
   exact⟨ks,_,rfl,by rw[List.length_zipWith];omega,fun k hk=>.inl hk,qB q e ks es,h,fun k hk=>hk,by omega⟩
 · rw[if_neg (by rw[decide_eq_false h];decide)]
   refine⟨ks++[q],es++[e],by rw[List.map_append,List.map_append];rfl,by simp[hl],fun k hk=>?_,fun x hx=>?_,by simp,fun k hk=>List.mem_append_left _ hk,by simp⟩
   · rcases List.mem_append.mp hk with hk|hk
     ·exact .inl hk
     ·exact .inr (List.mem_singleton.mp hk)
   · rcases List.mem_append.mp hx with hx|hx
     ·exact .inl hx
     ·exact .inr (List.mem_singleton.mp hx)
noncomputable def pD(p:Int×Int):D:=.tup [.int p.1,.int p.2]
theorem qR:∀(ps:List (Int×Int)) {ks vs:List Int},ks.length=vs.length→∃ks' vs':List Int,eO (ps.map pD) (ks.map .inl) (vs.map .int)=.ok (.aD (ks'.map .inl) (vs'.map .int))∧ks'.length=vs'.length∧ks'.length≤ks.length+ps.length
 |[],ks,vs,h=>⟨ks,vs,rfl,h,by simp⟩
 | p::ps,ks,vs,h=>by
   obtain⟨ks1,vs1,e1,h1,_,_,_,_,h7⟩:=rN D.int p.1 p.2 h
   obtain⟨ks2,vs2,e2,h2,h3⟩:=qR ps h1
   refine⟨ks2,vs2,?_,h2,by rw[List.length_cons];omega⟩
   rw[List.map_cons]
   show eO (D.tup [.int p.1,.int p.2]::ps.map pD) _ _=_
   rw[eO]
   show eO (ps.map pD) (putL (.inl p.1) (.int p.2) (ks.map .inl) (vs.map .int)).1 (putL (.inl p.1) (.int p.2) (ks.map .inl) (vs.map .int)).2=_
   rw[e1]
   exact e2
theorem oq{α:Type}(f:α→D)(a:Int):∀ {ks:List Int} {vs:List α},ks.length=vs.length→a∈ks→∃v,v∈vs∧cE (.inl a) (ks.map .inl) (vs.map f)=some (f v)
 |[],vs,_,h=>by simp at h
 |k::ks,[],hl,_=>by simp at hl
 | k::ks,v::vs,hl,h=>by
   rw[List.map_cons,List.map_cons,cE]
   by_cases hk:k=a
   · subst hk
     exact⟨v,List.mem_cons_self,by rw[if_pos rfl]⟩
   · obtain⟨w,hw,e⟩:=oq f a (ks:=ks) (vs:=vs) (by simpa using hl) ((List.mem_cons.mp h).resolve_left fun z=>hk z.symm)
     exact⟨w,List.mem_cons_of_mem _ hw,by rw[if_neg (fun z=>hk (Sum.inl.inj z))];exact e⟩
theorem mG{α:Type}(f:α→D){a:Int}{ks:List Int}{vs:List α}(hl:ks.length=vs.length)(h:a∈ks):∃v,v∈vs∧aV (.aD (ks.map .inl) (vs.map f)) (.int a)=.ok (f v):=by
 obtain⟨v,hv,e⟩:=oq f a hl h
 refine⟨v,hv,?_⟩
 show(match cE (.inl a) (ks.map .inl) (vs.map f)with|some v=>R.ok v|none=>.bad)=_
 rw[e]
theorem rX{j i:Nat}{a:Ex}{ρ:En}{k:Int}{m:Nat}{y:D}{xs ys:List D}(h:a ρ=.ok (.int k))(hi:ρ[i]? =some (.ol xs))(hj:ρ[j]? =some (.ol ys))(hm:bJ xs.length k=some m)(hy:xs[m]? =some y)(hk:inR k=true)(hl:ys.length<16777216)(hij:i≠j):jE j i a ρ=.ok (.next ((ρ.set i (.ol (xs.eraseIdx m))).set j (.ol (ys++[y])))):=by
 simp only[jE,h,R.aL,hi,hj,hm,hy]
 first
   |exact if_pos ⟨hk,hl,hij⟩
   |exact if_pos ⟨hij,hk,hl⟩
   |exact if_pos ⟨hk,hl⟩
   |simp[hk,hl,hij]
theorem t6:∀(fr:List Int) (m:Nat),(fr.map D.int).eraseIdx m=(fr.eraseIdx m).map .int
 |[],m=>by simp
 |x::fr,0=>rfl
 |x::fr,m+1=>by simp only[List.map_cons,List.eraseIdx_cons_succ];rw[t6 fr m]
theorem pop_at{fr:List Int}{z:Int}(h0:0<fr.length)(h1:fr.length<1000):∃(m:Nat) (y:Int),bJ (fr.map D.int).length (z % (fr.length:Int))=some m∧(fr.map D.int)[m]? =some (.int y)∧y∈fr∧inR (z % (fr.length:Int))=true∧(fr.map D.int).eraseIdx m=(fr.eraseIdx m).map .int∧(fr.eraseIdx m).length+1=fr.length:=by
 have a1:=Int.emod_nonneg z (show(fr.length:Int)≠0 by omega)
 have a2:=Int.emod_lt_of_pos z (show(0:Int)<fr.length by omega)
 have hm:(z % (fr.length:Int)).toNat<fr.length:=by omega
 refine⟨(z % (fr.length:Int)).toNat,fr[(z % (fr.length:Int)).toNat],by rw[List.length_map];exact mS a1 a2,by rw[List.getElem?_map,List.getElem?_eq_getElem hm];rfl,List.getElem_mem _,d7 (by omega) (by omega),t6 _ _,?_⟩
 rw[List.length_eraseIdx_of_lt hm];omega
theorem yX{s0 s1 s3 s6 s7 s8 s9 s10 s11:Slot}{z:Int}{fr hs:List Int}(h0:0<fr.length)(h1:fr.length<1000)(h2:hs.length<1000):∃(z' y:Int) (fr':List Int),jR [s0,s1,.sh (.int z),s3,.ol (fr.map .int),.ol (hs.map .int),s6,s7,s8,s9,s10,s11]=.ok (.next [s0,s1,.sh (.int z'),s3,.ol (fr'.map .int),.ol ((hs++[y]).map .int),s6,s7,s8,s9,s10,s11])∧y∈fr∧(∀x∈fr',x∈fr)∧fr'.length+1=fr.length:=by
 obtain⟨m,y,e1,e2,hy,e3,e4,e5⟩:=pop_at (z:=z) h0 h1
 refine⟨z / (((fr.eraseIdx m).length:Int)+1),y,fr.eraseIdx m,?_,hy,fun x hx=>List.mem_of_mem_eraseIdx hx,e5⟩
 rw[jR,au (rX (bS rfl (iM rfl (List.length_map _)) (by omega)) rfl rfl e1 e2 e3 (by rw[List.length_map];omega) (by decide)),e4]
 show aw _ [s0,s1,.sh (.int z),s3,.ol ((fr.eraseIdx m).map .int),.ol (hs.map .int++[.int y]),s6,s7,s8,s9,s10,s11]=_
 rw[au (bA (cj rfl (bH (iM rfl (List.length_map _)) rfl) (dv (by omega) (by omega)))),List.map_append]
 rfl
theorem zv{s0 s1 s3 s5 s6 s7 s8 s9 s11:Slot}{z:Int}{fr hs:List Int}(h0:0<fr.length)(h1:fr.length<1000)(h2:hs.length<1000):∃(z' y:Int) (fr':List Int),i8 [s0,s1,.sh (.int z),s3,.ol (fr.map .int),s5,s6,s7,s8,s9,.ol (hs.map .int),s11]=.ok (.next [s0,s1,.sh (.int z'),s3,.ol (fr'.map .int),s5,s6,s7,s8,s9,.ol ((hs++[y]).map .int),s11])∧y∈fr∧(∀x∈fr',x∈fr)∧fr'.length+1=fr.length:=by
 obtain⟨m,y,e1,e2,hy,e3,e4,e5⟩:=pop_at (z:=z) h0 h1
 refine⟨z / (((fr.eraseIdx m).length:Int)+1),y,fr.eraseIdx m,?_,hy,fun x hx=>List.mem_of_mem_eraseIdx hx,e5⟩
 rw[i8,au (rX (bS rfl (iM rfl (List.length_map _)) (by omega)) rfl rfl e1 e2 e3 (by rw[List.length_map];omega) (by decide)),e4]
 show aw _ [s0,s1,.sh (.int z),s3,.ol ((fr.eraseIdx m).map .int),s5,s6,s7,s8,s9,.ol (hs.map .int++[.int y]),s11]=_
 rw[au (bA (cj rfl (bH (iM rfl (List.length_map _)) rfl) (dv (by omega) (by omega)))),List.map_append]
 rfl
noncomputable def jc:List Nd→Nat
 |[]=>0
 |x::xs=>x.want+jc xs
theorem rl:∀xs:List Nd,cost xs=jc xs+xs.length
 |[]=>rfl
 |x::xs=>by simp only[cost,jc,List.length_cons];rw[rl xs];omega
noncomputable def eD(e:Nd×List Int):D:=.lst [.int e.1.kd,e.1.ct,L e.2]
noncomputable def oD:Nd→Prop
 |.fi ws=>ws.length≤64
 |.fo ks vs=>ks.length=vs.length∧ks.length≤32
noncomputable def iu(root many:Int)(e:Nd×List Int):Prop:=oD e.1∧e.2.length≤4∧∀p∈e.2,root≤p∧p<many
theorem nP{g:bo}{e:Ex}{ρ ρ':En}{d:D}(h1:e ρ=.ok d)(h2:g d ρ=.ok ρ'):aR g e ρ=.ok (.next ρ'):=by
 simp only[aR,h1,R.aL,h2]
theorem uj{x:Nd}{n:Nat}(h:x.ok n):dO [.int x.kd,.int (x.len:Int)]=.ok (.int (x.want:Int)):=by
 cases x with
 | fi ws=>
   have h:ws.length≤64:=h
   show dO [.int 1,.int (ws.length:Int)]=.ok (.int (((ws.length+15) / 16:Nat):Int))
   rw[ki (by decide) (eW (by omega) (by omega))]
   congr 2<;>omega
 | fo ks vs=>
   have h:=h.2.1
   show dO [.int 2,.int (ks.length:Int)]=.ok (.int (((2*ks.length+15) / 16:Nat):Int))
   rw[ki (by decide) (eW (by omega) (by omega))]
   congr 2<;>omega
theorem rK(x:Nd):iH x.ct=.ok (.int (x.len:Int)):=by
 cases x with
 |fi ws=>show R.ok (D.int ((ws.map D.int).length:Int))=_;rw[List.length_map];rfl
 |fo ks vs=>show R.ok (D.int ((ks.map (Sum.inl:Int→Ky)).length:Int))=_;rw[List.length_map];rfl
theorem vp{ks vs hs:List Int}{ρ:En}(h5:ρ[5]? =some (.sh (L hs)))(h9:ρ[9]? =some (.sh (.aD (ks.map .inl) (vs.map .int))))(hl:ks.length=vs.length)(h32:ks.length≤32)(hv:∀v∈vs,0≤v∧v<(hs.length:Int)):
   ∃ks' vs':List Int,(e1 gH (cD (gF (aa 9)) 1 [5,9] (ar 0) [] (gf [aa 0,e2 aV (aa 1) (e2 aV (aa 2) (aa 0))]))) ρ=.ok (.aD (ks'.map .inl) (vs'.map .int))∧ks'.length=vs'.length∧ks'.length≤32:=by
 have each:∀a∈ks,∃y:Int,(gf [aa 0,e2 aV (aa 1) (e2 aV (aa 2) (aa 0))]) [.sh (.int a),.sh (L hs),.sh (.aD (ks.map .inl) (vs.map .int))]=.ok (pD (a,y)):=fun a ha=>by
   obtain⟨v,hv1,ev⟩:=mG D.int hl ha
   obtain⟨y,_,hy⟩:=pd (xs:=hs) (hv v hv1).1 (hv v hv1).2
   exact⟨y,zr rfl (aS rfl (aS rfl rfl ev) (iL hy))⟩
 have ex:∃g:Int→Int,∀a∈ks,(gf [aa 0,e2 aV (aa 1) (e2 aV (aa 2) (aa 0))]) [.sh (.int a),.sh (L hs),.sh (.aD (ks.map .inl) (vs.map .int))]=.ok (pD (a,g a)):=by
   refine⟨fun a=>if h:a∈ks then(each a h).choose else 0,fun a ha=>?_⟩
   show _=R.ok (pD (a,if h:a∈ks then(each a h).choose else 0))
   rw[dif_pos ha]
   exact(each a ha).choose_spec
 obtain⟨g,hg⟩:=ex
 obtain⟨ks',vs',e1',h1,h2⟩:=qR (ks.map fun a=>(a,g a)) (ks:=[]) (vs:=[]) rfl
 refine⟨ks',vs',fX (x:=.lst ((ks.map fun a=>(a,g a)).map pD)) (iS (ds:=ks.map D.int) ?_ (by rw[List.length_map];omega) ?_) ?_,h1,by simpa using Nat.le_trans h2 (by simpa using h32)⟩
 · unfold gF
   simp only[aa,h9,R.aL]
   rw[List.map_map];rfl
 · rw[List.map_map]
   refine jW (u:=D.int) (v:=pD∘fun a=>(a,g a)) fun a ha=>⟨_,rfl,?_⟩
   simp only[frees,List.map_cons,List.map_nil,h5,h9,pq]
   exact hg a ha
 · show(if _ then _ else _)=_
   rw[if_pos (by simp;omega)]
   exact e1'
theorem xf{nds:List Nd}{hs fr ks:List Int}{es:List (Nd×List Int)}{s1 s3 s8 s9 s10 s11:Slot}{z root many:Int}{i:Nat}{x:Nd}(hx:nds[i]? =some x)(ao:x.ok nds.length)(hhs:hs.length=nds.length)(hw:x.want≤fr.length)(hf:fr.length<1000)(hfr:∀q∈fr,root≤q∧q<many)(hhr:∀q∈hs,root≤q∧q<many)
   (hl:ks.length=es.length) (hk1:ks.length<1000) (hks:∀k∈ks,root≤k∧k<many) (hes:∀e∈es,iu root many e):
   ∃(z':Int) (fr' ks':List Int) (es':List (Nd×List Int)) (s8' s9' s10' s11':Slot),jr [.sh (.lst (nds.map Nd.d)),s1,.sh (.int z),s3,.ol (fr.map .int),.sh (L hs),.sh (.int (i:Int)),.od (ks.map .inl) (es.map eD),s8,s9,s10,s11]=.ok (.next [.sh (.lst (nds.map Nd.d)),s1,.sh (.int z'),s3,.ol (fr'.map .int),.sh (L hs),.sh (.int (i:Int)),.od (ks'.map .inl) (es'.map eD),s8',s9',s10',s11'])∧
     fr'.length+x.want=fr.length∧(∀q∈fr',root≤q∧q<many)∧ks'.length=es'.length∧ks'.length≤ks.length+1∧(∀k∈ks',root≤k∧k<many)∧(∀e∈es',iu root many e)∧(∀k∈ks,k∈ks')∧(∀q,hs[i]? =some q→q∈ks'):=by
 have hi:i<nds.length:=(List.getElem?_eq_some_iff.mp hx).1
 have hix:aV (.lst (nds.map Nd.d)) (.int (i:Int))=.ok x.d:=by
   refine iL ?_
   rw[lP (by rw[List.length_map];exact hi)]
   have:=(List.getElem?_eq_some_iff.mp hx).2
   simp[this]
 rw[jr]
 rw[au (nP (ρ':=[.sh (.lst (nds.map Nd.d)),s1,.sh (.int z),s3,.ol (fr.map .int),.sh (L hs),.sh (.int (i:Int)),.od (ks.map .inl) (es.map eD),.sh (.int x.kd),.sh x.ct,s10,s11]) (aS rfl rfl hix) rfl)]
 rw[au (ρ':=[.sh (.lst (nds.map Nd.d)),s1,.sh (.int z),s3,.ol (fr.map .int),.sh (L hs),.sh (.int (i:Int)),.od (ks.map .inl) (es.map eD),.sh (.int x.kd),.sh x.ct,.ol [],s11]) rfl]
 have hw4:=Nd.wZ ao
 obtain⟨ρ',eL,z1,fr1,ps,s11',rfl,p1,p2,p3,p4⟩:=e7 (tg:=ar 11) (body:=i8) (fun j ρ=>∃(z1:Int) (fr1 ps:List Int) (s11':Slot),ρ=[.sh (.lst (nds.map Nd.d)),s1,.sh (.int z1),s3,.ol (fr1.map .int),.sh (L hs),.sh (.int (i:Int)),.od (ks.map .inl) (es.map eD),.sh (.int x.kd),.sh x.ct,.ol (ps.map .int),s11']∧fr1.length+j=fr.length∧(∀q∈fr1,root≤q∧q<many)∧ps.length=j∧∀q∈ps,root≤q∧q<many) (ds:=bB 0 (x.want:Int)) 0 (by
   rintro j d hd ρ ⟨z1,fr1,ps,s11',rfl,p1,p2,p3,p4⟩
   obtain⟨rfl,hj⟩:=km hd
   obtain⟨z2,y,fr2,e,hy,q1,q2⟩:=zv (s0:=.sh (.lst (nds.map Nd.d))) (s1:=s1) (s3:=s3) (s5:=.sh (L hs)) (s6:=.sh (.int (i:Int))) (s7:=.od (ks.map .inl) (es.map eD)) (s8:=.sh (.int x.kd)) (s9:=.sh x.ct) (s11:=.sh (.int (0+(j:Int)))) (z:=z1) (fr:=fr1) (hs:=ps) (by omega) (by omega) (by omega)
   refine⟨_,rfl,_,e,z2,fr2,ps++[y],_,rfl,by omega,fun q hq=>p2 q (q1 q hq),by simp[p3],fun q hq=>?_⟩
   rcases List.mem_append.mp hq with hq|hq
   ·exact p4 q hq
   ·rw[List.mem_singleton.mp hq];exact p2 y hy) (ρ:=[.sh (.lst (nds.map Nd.d)),s1,.sh (.int z),s3,.ol (fr.map .int),.sh (L hs),.sh (.int (i:Int)),.od (ks.map .inl) (es.map eD),.sh (.int x.kd),.sh x.ct,.ol [],s11]) ⟨z,fr,[],s11,rfl,by omega,hfr,rfl,fun q hq=>nomatch hq⟩
 rw[gD]at p1 p3
 rw[au (a:=bu _ _ _) (di (fY (cS rfl (fX rfl (rK x)) (uj ao)) (d7 (by omega) (by omega))) eL)]
 obtain⟨x',hk',hc',e3⟩:∃x':Nd,x'.kd=x.kd∧oD x'∧cF (tV (e2 oEq (aa 8) (eC (.int 2)))) (aR (ar 9) (e1 gH (cD (gF (aa 9)) 1 [5,9] (ar 0) [] (gf [aa 0,e2 aV (aa 1) (e2 aV (aa 2) (aa 0))])))) (cH) [.sh (.lst (nds.map Nd.d)),s1,.sh (.int z1),s3,.ol (fr1.map .int),.sh (L hs),.sh (.int (i:Int)),.od (ks.map .inl) (es.map eD),.sh (.int x.kd),.sh x.ct,.ol (ps.map .int),s11']=.ok (.next [.sh (.lst (nds.map Nd.d)),s1,.sh (.int z1),s3,.ol (fr1.map .int),.sh (L hs),.sh (.int (i:Int)),.od (ks.map .inl) (es.map eD),.sh (.int x.kd),.sh x'.ct,.ol (ps.map .int),s11']):=by
   cases x with
   |fi ws=>exact⟨.fi ws,rfl,ao,dJ (bf (by rw[fT rfl rfl];rfl))⟩
   | fo ks0 vs0=>
     obtain⟨ks',vs',e9,q1,q2⟩:=vp (ρ:=[.sh (.lst (nds.map Nd.d)),s1,.sh (.int z1),s3,.ol (fr1.map .int),.sh (L hs),.sh (.int (i:Int)),.od (ks.map .inl) (es.map eD),.sh (.int (Nd.fo ks0 vs0).kd),.sh (Nd.fo ks0 vs0).ct,.ol (ps.map .int),s11']) rfl rfl ao.1 ao.2.1 (by rw[hhs];exact ao.2.2)
     refine⟨.fo ks' vs',rfl,⟨q1,q2⟩,?_⟩
     rw[jg (bf (b:=true) (by rw[fT rfl rfl];rfl)),bA e9]
     rfl
 rw[au e3]
 rw[au (ρ':=[.sh (.lst (nds.map Nd.d)),s1,.sh (.int z1),s3,.ol (fr1.map .int),.sh (L hs),.sh (.int (i:Int)),.od (ks.map .inl) (es.map eD),.sh (.int x.kd),.sh x'.ct,.sh (L ps),s11']) rfl]
 obtain⟨q,hq,eq⟩:=pd (xs:=hs) (i:=(i:Int)) (by omega) (by omega)
 have hqi:hs[i]? =some q:=by
   rw[lP (by rw[List.length_map];omega)]at eq
   have h2:hs[i]=q:=by simpa using eq
   rw[List.getElem?_eq_getElem (by omega),h2]
 obtain⟨ks',es',e5,a1,a2,a3,a4,a5,a6⟩:=rN eD q (x',ps) hl
 refine⟨z1,fr1,ks',es',.sh (.int x.kd),.sh x'.ct,.sh (L ps),s11',?_,by omega,p2,a1,a6,fun k hk=>?_,fun e he=>?_,a5,fun q' h'=>?_⟩
 · rw[au (ρ':=[.sh (.lst (nds.map Nd.d)),s1,.sh (.int z1),s3,.ol (fr1.map .int),.sh (L hs),.sh (.int (i:Int)),.od (ks'.map .inl) (es'.map eD),.sh (.int x.kd),.sh x'.ct,.sh (L ps),s11']) ?_]
   ·rfl
   have g1:(bD [aa 8,aa 9,aa 10]) [.sh (.lst (nds.map Nd.d)),s1,.sh (.int z1),s3,.ol (fr1.map .int),.sh (L hs),.sh (.int (i:Int)),.od (ks.map .inl) (es.map eD),.sh (.int x.kd),.sh x'.ct,.sh (L ps),s11']=.ok (eD (x',ps)):=by
     show R.ok (D.lst [.int x.kd,x'.ct,L ps])=R.ok (D.lst [.int x'.kd,x'.ct,L ps])
     rw[hk']
   have g2:(e2 aV (aa 5) (aa 6)) [.sh (.lst (nds.map Nd.d)),s1,.sh (.int z1),s3,.ol (fr1.map .int),.sh (L hs),.sh (.int (i:Int)),.od (ks.map .inl) (es.map eD),.sh (.int x.kd),.sh x'.ct,.sh (L ps),s11']=.ok (.int q):=aS rfl rfl (iL eq)
   unfold mF
   rw[g1,R.aL,g2,R.aL]
   show(if(ks.map (Sum.inl:Int→Ky)).length<1000 then R.ok (Fl.next [_,_,_,_,_,_,_,.od (putL (.inl q) (eD (x',ps)) (ks.map .inl) (es.map eD)).1 (putL (.inl q) (eD (x',ps)) (ks.map .inl) (es.map eD)).2,_,_,_,_])else .bad)=_
   rw[if_pos (by rw[List.length_map];exact hk1),e5]
 · rcases a2 k hk with h|h
   ·exact hks k h
   ·rw[h];exact hhr q hq
 · rcases a3 e he with h|h
   ·exact hes e h
   ·rw[h];exact⟨hc',by show ps.length≤4;omega,p4⟩
 ·rw[hqi]at h';cases h';exact a4
theorem Bw{nds:List Nd}{i:Nat}{x:Nd}(h:nds[i]? =some x):jc (nds.drop i)=x.want+jc (nds.drop (i+1)):=by
 obtain⟨hi,e⟩:=List.getElem?_eq_some_iff.mp h
 rw[List.drop_eq_getElem_cons hi,e];rfl
theorem va{a b:Int}:(bB a b)=((List.range (b - a).toNat).map fun(k:Nat)=>a+(k:Int)).map .int:=by
 unfold bB
 rw[List.map_map];rfl
theorem uS{nds:List Nd}{many z:Int}(h1:0<nds.length)(h2:nds.length≤101)(ao:∀x∈nds,x.ok nds.length)(hm:32≤many)(hm2:many<500)(hc:(cost nds:Int)≤many - (14+(many+15) / 16) - 1+1):
   ∃(ks:List Int) (es:List (Nd×List Int)),lu [.lst (nds.map Nd.d),.int many,.int z]=.ok (.aD (ks.map .inl) (es.map eD))∧ks.length=es.length∧(∀k∈ks,14+(many+15) / 16≤k∧k<many)∧(∀e∈es,iu (14+(many+15) / 16) many e)∧14+(many+15) / 16∈ks:=by
 generalize hr:14+(many+15) / 16=root
 have hr0:16≤root∧root<many:=by omega
 have hcs:=rl nds
 let fr0:List Int:=(List.range (many - (root+1)).toNat).map fun(k:Nat)=>root+1+(k:Int)
 have hfl:fr0.length=(many - (root+1)).toNat:=by simp[fr0]
 have hfr0:∀q∈fr0,root≤q∧q<many:=fun q hq=>by
   obtain⟨k,hk,rfl⟩:=List.mem_map.mp hq
   have:=List.mem_range.mp hk
   omega
 rw[hr]at hc
 obtain⟨ρ',eL,z1,fr1,hs,s6,rfl,p1,p2,p3,p4,p5⟩:=e7 (tg:=ar 6) (body:=jR) (fun j ρ=>∃(z1:Int) (fr1 hs:List Int) (s6:Slot),ρ=[.sh (.lst (nds.map Nd.d)),.sh (.int many),.sh (.int z1),.sh (.int root),.ol (fr1.map .int),.ol (hs.map .int),s6,.un,.un,.un,.un,.un]∧fr1.length+j=fr0.length∧(∀q∈fr1,root≤q∧q<many)∧hs.length=j+1∧(∀q∈hs,root≤q∧q<many)∧hs[0]? =some root) (ds:=bB 1 (nds.length:Int)) 0 (by
   rintro j d hd ρ ⟨z1,fr1,hs,s6,rfl,p1,p2,p3,p4,p5⟩
   obtain⟨rfl,hj⟩:=km hd
   obtain⟨z2,y,fr2,e,hy,q1,q2⟩:=yX (s0:=.sh (.lst (nds.map Nd.d))) (s1:=.sh (.int many)) (s3:=.sh (.int root)) (s6:=.sh (.int (1+(j:Int)))) (s7:=.un) (s8:=.un) (s9:=.un) (s10:=.un) (s11:=.un) (z:=z1) (fr:=fr1) (hs:=hs) (by omega) (by omega) (by omega)
   refine⟨_,rfl,_,e,z2,fr2,hs++[y],_,rfl,by omega,fun q hq=>p2 q (q1 q hq),by simp[p3],fun q hq=>?_,by rw[List.getElem?_append_left (by omega)];exact p5⟩
   rcases List.mem_append.mp hq with hq|hq
   ·exact p4 q hq
   ·rw[List.mem_singleton.mp hq];exact p2 y hy) (ρ:=[.sh (.lst (nds.map Nd.d)),.sh (.int many),.sh (.int z),.sh (.int root),.ol (fr0.map .int),.ol ([root].map .int),.un,.un,.un,.un,.un,.un]) ⟨z,fr0,[root],.un,rfl,by omega,hfr0,rfl,(fun q hq=>by rw[List.mem_singleton.mp hq];omega),rfl⟩
 rw[gD]at p1 p3
 have hhs:hs.length=nds.length:=by omega
 obtain⟨ρ'',eL2,z2,fr2,ks,es,s6',s8,s9,s10,s11,rfl,q1,q2,q3,q4,q5,q6,q7⟩:=e7 (tg:=ar 6) (body:=jr) (fun j ρ=>∃(z2:Int) (fr2 ks:List Int) (es:List (Nd×List Int)) (s6 s8 s9 s10 s11:Slot),ρ=[.sh (.lst (nds.map Nd.d)),.sh (.int many),.sh (.int z2),.sh (.int root),.ol (fr2.map .int),.sh (L hs),s6,.od (ks.map .inl) (es.map eD),s8,s9,s10,s11]∧jc (nds.drop j)≤fr2.length∧fr2.length<1000∧(∀q∈fr2,root≤q∧q<many)∧ks.length=es.length∧ks.length≤j∧((∀k∈ks,root≤k∧k<many)∧∀e∈es,iu root many e)∧(0<j→root∈ks)) (ds:=bB 0 (nds.length:Int)) 0 (by
   rintro j d hd ρ ⟨z2,fr2,ks,es,s6,s8,s9,s10,s11,rfl,q1,q2,q3,q4,q5,q6,q7⟩
   obtain⟨rfl,hj⟩:=km hd
   rw[Nat.zero_add]at q1 q5 q7
   have hj':j<nds.length:=by omega
   have hx:nds[j]? =some nds[j]:=List.getElem?_eq_getElem hj'
   rw[Bw hx]at q1
   obtain⟨z3,fr3,ks3,es3,s8',s9',s10',s11',e,a1,a2,a3,a4,a5,a6,a7,a8⟩:=xf (s1:=.sh (.int many)) (s3:=.sh (.int root)) (s8:=s8) (s9:=s9) (s10:=s10) (s11:=s11) (z:=z2) (root:=root) (many:=many) (fr:=fr2) (ks:=ks) (es:=es) hx (ao _ (List.getElem_mem _)) hhs (by omega) q2 q3 p4 q4 (by omega) q6.1 q6.2
   refine⟨_,rfl,_,?_,z3,fr3,ks3,es3,.sh (.int (j:Int)),s8',s9',s10',s11',rfl,by rw[Nat.zero_add];omega,by omega,a2,a3,by omega,⟨a5,a6⟩,fun _=>?_⟩
   ·rw[Int.zero_add];exact e
   · by_cases h0:0<j
     ·exact a7 _ (q7 h0)
     · have:j=0:=by omega
       subst this
       exact a8 root p5) (ρ:=[.sh (.lst (nds.map Nd.d)),.sh (.int many),.sh (.int z1),.sh (.int root),.ol (fr1.map .int),.sh (L hs),s6,.od [] [],.un,.un,.un,.un]) ⟨z1,fr1,[],[],s6,.un,.un,.un,.un,rfl,by rw[List.drop_zero];omega,by omega,p2,rfl,by simp,⟨(fun k hk=>nomatch hk),fun e he=>nomatch he⟩,fun h=>absurd h (by omega)⟩
 rw[gD]at q7
 refine⟨ks,es,?_,q4,q6.1,q6.2,q7 (by omega)⟩
 rw[lu]
 refine cf ?_
 show aw _ [.sh (.lst (nds.map Nd.d)),.sh (.int many),.sh (.int z),.un,.un,.un,.un,.un,.un,.un,.un,.un]=_
 rw[au (bA (d:=.int root) (by rw[←hr];exact bH rfl (cj (bH rfl rfl) rfl (by decide))))]
 show aw _ [.sh (.lst (nds.map Nd.d)),.sh (.int many),.sh (.int z),.sh (.int root),.un,.un,.un,.un,.un,.un,.un,.un]=_
 rw[au (qb (xs:=fr0.map .int) (by
   have g:(e2 aK (aa 3) (eC (.int 1))) [.sh (.lst (nds.map Nd.d)),.sh (.int many),.sh (.int z),.sh (.int root),.un,.un,.un,.un,.un,.un,.un,.un]=.ok (.int (root+1)):=bH rfl rfl
   refine aS (o:=lF) g rfl ?_
   show(if _ then _ else _)=_
   rw[if_pos ⟨d7 (by omega) (by omega),d7 (by omega) (by omega),by omega⟩,va]))]
 show aw _ [.sh (.lst (nds.map Nd.d)),.sh (.int many),.sh (.int z),.sh (.int root),.ol (fr0.map .int),.un,.un,.un,.un,.un,.un,.un]=_
 rw[au (ρ':=[.sh (.lst (nds.map Nd.d)),.sh (.int many),.sh (.int z),.sh (.int root),.ol (fr0.map .int),.ol ([root].map .int),.un,.un,.un,.un,.un,.un]) rfl]
 have elen:∀(ρ:En),ρ[0]? =some (.sh (.lst (nds.map Nd.d)))→(e1 cg (aa 0)) ρ=.ok (.int (nds.length:Int)):=fun ρ h=>by
   rw[gj (xs:=nds.map Nd.d) (by simp only[aa,h]),List.length_map]
 rw[au (a:=bu _ _ _) (di (tH rfl (elen _ rfl) (by decide) (d7 (by omega) (by omega))) eL)]
 rw[au (ρ':=[.sh (.lst (nds.map Nd.d)),.sh (.int many),.sh (.int z1),.sh (.int root),.ol (fr1.map .int),.ol (hs.map .int),s6,.od [] [],.un,.un,.un,.un]) rfl]
 rw[au (ρ':=[.sh (.lst (nds.map Nd.d)),.sh (.int many),.sh (.int z1),.sh (.int root),.ol (fr1.map .int),.sh (L hs),s6,.od [] [],.un,.un,.un,.un]) rfl]
 rw[au (a:=bu _ _ _) (di (fY (elen _ rfl) (d7 (by omega) (by omega))) eL2)]
 rw[au (ρ':=[.sh (.lst (nds.map Nd.d)),.sh (.int many),.sh (.int z2),.sh (.int root),.ol (fr2.map .int),.sh (L hs),s6',.sh (.aD (ks.map .inl) (es.map eD)),s8,s9,s10,s11]) rfl]
 exact dC (b8 rfl)
noncomputable abbrev mD(ks:List Int)(es:List (Nd×List Int)):D:=.aD (ks.map .inl) (es.map eD)
theorem zF{xs:List Int}{m:Nat}{y:Int}:(xs.map D.int).set m (.int y)=(xs.set m y).map .int:=(List.map_set ..).symm
theorem BX{s0 s1 s3:Slot}{ms:List Int}{q:Int}(h0:0≤q)(h1:q<ms.length):iO [s0,s1,.ol (ms.map .int),s3,.sh (.int q)]=.ok (.next [s0,s1,.ol ((ms.set q.toNat 1).map .int),s3,.sh (.int q)]):=by
 rw[iO,tM (d:=.int 1) (j:=q) rfl rfl rfl (mS h0 (by rw[List.length_map];exact h1)),zF]
 rfl
theorem x5{ks:List Int}{es:List (Nd×List Int)}{many root:Int}(hm:32≤many)(hm2:many<500)(hr:0≤root)(hl:ks.length=es.length)(hks:∀k∈ks,root≤k∧k<many)(hes:∀e∈es,iu root many e):
   ∃ms:List Int,(ms.length:Int)=many∧fP [mD ks es,.int many]=.ok (L ms):=by
 let ms0:List Int:=(List.range many.toNat).map fun(k:Nat)=>if(k:Int)<14+(many+15) / 16 then 1 else 0
 have hms0:(ms0.length:Int)=many:=by simp[ms0];omega
 obtain⟨ρ',eL,ms,s3,s4,rfl,hms⟩:=jk (tg:=ar 3) (body:=i4) (fun ρ=>∃(ms:List Int) (s3 s4:Slot),ρ=[.sh (mD ks es),.sh (.int many),.ol (ms.map .int),s3,s4]∧(ms.length:Int)=many) (ds:=ks.map .int) (by
   rintro d hd ρ ⟨ms,s3,s4,rfl,hms⟩
   obtain⟨k,hk,rfl⟩:=List.mem_map.mp hd
   refine⟨_,rfl,?_⟩
   show ∃ρ2,i4 [.sh (mD ks es),.sh (.int many),.ol (ms.map .int),.sh (.int k),s4]=.ok (.next ρ2)∧_
   obtain⟨e,he,ee⟩:=mG eD hl hk
   obtain⟨_,h4,hp⟩:=hes e he
   obtain⟨ρ2,eL2,ms2,s4',rfl,hms2⟩:=jk (tg:=ar 4) (body:=iO) (fun ρ=>∃(ms:List Int) (s4:Slot),ρ=[.sh (mD ks es),.sh (.int many),.ol (ms.map .int),.sh (.int k),s4]∧(ms.length:Int)=many) (ds:=(k::e.2).map .int) (by
     rintro d hd ρ ⟨ms,s4,rfl,hms⟩
     obtain⟨q,hq,rfl⟩:=List.mem_map.mp hd
     have hqb:root≤q∧q<many:=by
       rcases List.mem_cons.mp hq with h|h
       ·rw[h];exact hks k hk
       ·exact hp q h
     refine⟨_,rfl,_,BX (by omega) (by omega),_,_,rfl,by rw[List.length_set];exact hms⟩) (ρ:=[.sh (mD ks es),.sh (.int many),.ol (ms.map .int),.sh (.int k),s4]) ⟨ms,s4,rfl,hms⟩
   refine⟨_,?_,ms2,.sh (.int k),s4',rfl,hms2⟩
   rw[i4]
   refine di (ds:=(k::e.2).map .int) ?_ eL2
   have g:(e2 aK (bD [aa 3]) (e2 aV (e2 aV (aa 0) (aa 3)) (eC (.int 2)))) [.sh (mD ks es),.sh (.int many),.ol (ms.map .int),.sh (.int k),s4]=.ok (.lst ((k::e.2).map .int)):=by
     refine aS (o:=aK) (x:=.lst [.int k]) (y:=.lst (e.2.map .int)) rfl (aS (aS rfl rfl ee) rfl rfl) ?_
     rw[G.mU (by simp;omega)];rfl
   show(R.bind _ _)=_
   rw[g];rfl) (ρ:=[.sh (mD ks es),.sh (.int many),.ol (ms0.map .int),.un,.un]) ⟨ms0,.un,.un,rfl,hms0⟩
 refine⟨ms,hms,?_⟩
 rw[fP]
 refine cf ?_
 show aw _ [.sh (mD ks es),.sh (.int many),.un,.un,.un]=_
 rw[au (qb (xs:=ms0.map .int) (by
   refine iS (fY rfl (d7 (by omega) (by omega))) (by rw[gD];omega) ?_
   show _=R.ok (((List.range many.toNat).map _).map D.int)
   rw[List.map_map]
   unfold bB
   rw[show(many - 0).toNat=many.toNat by omega]
   refine jW (u:=fun k:Nat=>D.int (0+(k:Int))) (v:=D.int∘fun(k:Nat)=>if(k:Int)<14+(many+15) / 16 then 1 else 0) fun k hk=>⟨_,rfl,?_⟩
   show(e1 ic (e2 oLt (aa 0) (e2 aK (eC (.int 14)) (e2 bz (e2 aK (aa 1) (eC (.int 15))) (eC (.int 16)))))) [.sh (.int (0+(k:Int))),.sh (.int many)]=.ok (.int (if(k:Int)<14+(many+15) / 16 then 1 else 0))
   rw[Int.zero_add]
   refine fX (kX rfl (bH rfl (cj (bH rfl rfl) rfl (by decide)))) ?_
   by_cases h:(k:Int)<14+(many+15) / 16
   ·rw[if_pos h,decide_eq_true h];rfl
   ·rw[if_neg h,decide_eq_false h];rfl))]
 show aw _ [.sh (mD ks es),.sh (.int many),.ol (ms0.map .int),.un,.un]=_
 rw[au (a:=bu _ _ _) (di (ds:=ks.map .int) (by
   show R.ok ((ks.map (Sum.inl:Int→Ky)).map kg)=_
   rw[List.map_map];rfl) eL)]
 rw[au (ρ':=[.sh (mD ks es),.sh (.int many),.sh (L ms),s3,s4]) rfl]
 exact dC (b8 rfl)
theorem wk{x:Nd}(h:oD x):∃ds:List Int,jC [.int x.kd,x.ct]=.ok (L ds):=by
 cases x with
 | fi ws=>
   refine⟨ws,?_⟩
   rw[jC]
   refine cf (dC ?_)
   rw[jg (bf (b:=true) (by rw[fT rfl rfl];rfl))]
   exact b8 rfl
 | fo ks vs=>
   obtain⟨hl,h32⟩:=h
   obtain⟨ρ',eL,ds,s3,rfl,hds⟩:=e7 (tg:=ar 3) (body:=jM) (fun i ρ=>∃(ds:List Int) (s3:Slot),ρ=[.sh (.int 2),.sh (.aD (ks.map .inl) (vs.map .int)),.sh (L ds),s3]∧ds.length=2*i) (ds:=(cZ ks).map .int) 0 (by
     rintro i d hd ρ ⟨ds,s3,rfl,hds⟩
     have hi:i<(cZ ks).length:=by have:=(List.getElem?_eq_some_iff.mp hd).1;simpa using this
     rw[List.getElem?_map,List.getElem?_eq_getElem hi]at hd
     cases hd
     have hk:(cZ ks)[i]∈ks:=(m4 ks).mem_iff.mp (List.getElem_mem _)
     have hil:i<ks.length:=by have:=(m4 ks).length_eq;omega
     obtain⟨v,hv,ev⟩:=mG D.int hl hk
     generalize (cZ ks)[i]=k at hk ev
     refine⟨_,rfl,_,?_,ds++[k,v],.sh (.int k),rfl,by simp[hds];omega⟩
     show jM [.sh (.int 2),.sh (.aD (ks.map .inl) (vs.map .int)),.sh (L ds),.sh (.int k)]=_
     have g:(bD [aa 3,e2 aV (aa 1) (aa 3)]) [.sh (.int 2),.sh (.aD (ks.map .inl) (vs.map .int)),.sh (L ds),.sh (.int k)]=.ok (.lst [.int k,.int v]):=by
       have g1:(e2 aV (aa 1) (aa 3)) [.sh (.int 2),.sh (.aD (ks.map .inl) (vs.map .int)),.sh (L ds),.sh (.int k)]=.ok (.int v):=aS rfl rfl ev
       have g0:(aa 3) [.sh (.int 2),.sh (.aD (ks.map .inl) (vs.map .int)),.sh (L ds),.sh (.int k)]=.ok (.int k):=rfl
       simp only[bD,eList,g0,g1,R.aL]
     rw[jM,bA (aS (o:=aK) (x:=.lst (ds.map .int)) (y:=.lst [.int k,.int v]) rfl g (G.mU (by simp;omega)))]
     rw[show ds.map D.int++[.int k,.int v]=(ds++[k,v]).map .int by rw[List.map_append];rfl]
     rfl) (ρ:=[.sh (.int 2),.sh (.aD (ks.map .inl) (vs.map .int)),.sh (L []),.un]) ⟨[],.un,rfl,rfl⟩
   refine⟨ds,?_⟩
   rw[jC]
   refine cf ?_
   show aw _ [.sh (.int 2),.sh (.aD (ks.map .inl) (vs.map .int)),.un,.un]=_
   rw[au (dJ (bf (by rw[fT rfl rfl];rfl)))]
   rw[au (ρ':=[.sh (.int 2),.sh (.aD (ks.map .inl) (vs.map .int)),.sh (L []),.un]) rfl]
   rw[au (a:=bu _ _ _) (di (ds:=(cZ ks).map .int) (by
     have g:(e1 mM (aa 1)) [.sh (.int 2),.sh (.aD (ks.map .inl) (vs.map .int)),.sh (L []),.un]=.ok (.lst ((cZ ks).map .int)):=by
       refine fX (x:=.aD (ks.map .inl) (vs.map .int)) rfl ?_
       show(match gw (ks.map .inl)with|some ns=>if ns.length<64 then R.ok (D.lst ((cZ ns).map .int))else .bad|none=>.bad)=_
       rw[sR]
       exact if_pos (by omega)
     show(R.bind _ _)=_
     rw[g];rfl) eL)]
   exact dC (b8 rfl)
theorem uN{α:Type}(xs:List α){a:Int}(h:0≤a):cut xs (some a) (some (a+16))=(xs.drop a.toNat).take 16:=by
 unfold cut
 rw[ie h,ie (by omega)]
 by_cases hl:a.toNat≤xs.length
 · rw[Nat.min_eq_left hl]
   by_cases hl2:(a+16).toNat≤xs.length
   ·rw[Nat.min_eq_left hl2,show(a+16).toNat - a.toNat=16 by omega]
   ·rw[Nat.min_eq_right (by omega),List.take_of_length_le (by rw[List.length_drop];omega),List.take_of_length_le (by rw[List.length_drop];omega)]
 ·rw[Nat.min_eq_right (show xs.length≤(a+16).toNat by omega),Nat.min_eq_right (show xs.length≤a.toNat by omega),List.drop_length,List.drop_of_length_le (show xs.length≤a.toNat by omega)];simp
noncomputable def bQ(ms:List Int)(i:Nat):List Int:=(ms.drop (16*i)).take 16
theorem oo(ms:List Int)(i:Nat):(bQ ms i).length≤16:=by unfold bQ;rw[List.length_take];omega
theorem tu{a b:Ex}{ρ:En}{ms:List Int}{k:Int}{i:Nat}(ha:a ρ=.ok (L ms))(hb:b ρ=.ok (.int k))(hk:k=16*(i:Int)):cC a (some b) (some (e2 aK b (eC (.int 16)))) ρ=.ok (L (bQ ms i)):=by
 have hb2:(e2 aK b (eC (.int 16))) ρ=.ok (.int (k+16)):=bH hb rfl
 simp only[cC,ha,R.aL,gS,hb,hb2,iD]
 rw[uN _ (by omega), ←List.map_drop, ←List.map_take,show k.toNat=16*i by omega];rfl
theorem AD{a b:Ex}{ρ:En}{ms:List Int}{i:Nat}(ha:a ρ=.ok (L ms))(hb:b ρ=.ok (.int (i:Int)))(hi:i<1000):cC a (some (e2 bV (eC (.int 16)) b)) (some (e2 aK (e2 bV (eC (.int 16)) b) (eC (.int 16)))) ρ=.ok (L (bQ ms i)):=
 tu ha (eA rfl hb (by decide) (eW (by omega) (by omega))) rfl
theorem rM:∀(m:Nat) (ms:List Int),ms.length≤16*m→(((List.range m).map fun i=>pad (bQ ms i)).flatten).take ms.length=ms
 | 0,ms,h=>by
   have:ms=[]:=List.length_eq_zero_iff.mp (by omega)
   subst this;rfl
 | m+1,ms,h=>by
   rw[List.range_succ_eq_map,List.map_cons,List.map_map,List.flatten_cons]
   have e:((List.range m).map ((fun i=>pad (bQ ms i))∘Nat.succ))=(List.range m).map fun i=>pad (bQ (ms.drop 16) i):=by
     apply List.map_congr_left
     intro i _
     show pad (bQ ms (i+1))=_
     unfold bQ
     rw[List.drop_drop,show 16+16*i=16*(i+1) by omega]
   rw[e]
   have w0:bQ ms 0=ms.take 16:=by unfold bQ;rfl
   rw[w0]
   by_cases hl:16≤ms.length
   · have ih:=rM m (ms.drop 16) (by rw[List.length_drop];omega)
     have hp:pad (ms.take 16)=ms.take 16:=by unfold pad;rw[List.length_take,Nat.min_eq_left hl];simp
     rw[hp,List.take_append,List.length_take,Nat.min_eq_left hl,List.take_of_length_le (by rw[List.length_take];omega)]
     rw[List.length_drop]at ih
     rw[ih,List.take_append_drop]
   · have ht:ms.take 16=ms:=List.take_of_length_le (by omega)
     rw[ht]
     unfold pad
     rw[List.append_assoc,List.take_left]
theorem setB{fl:List (List Int)}{m:Nat}{y:List Int}:(fl.map B).set m (B y)=(fl.set m y).map B:=(List.map_set ..).symm
noncomputable def Map(ms:List Int)(m:Nat)(fl:List (List Int)):Prop:=∀t,t<m→fl[14+t]? =some (pad (bQ ms t))
theorem Map.set{ms:List Int}{m:Nat}{fl:List (List Int)}{q:Nat}{y:List Int}(h:Map ms m fl)(hq:14+m≤q):Map ms m (fl.set q y):=fun t ht=>by
 rw[List.getElem?_set_ne (by omega)];exact h t ht
theorem lB{i:Nat}{k a:Ex}{ρ:En}{y:List Int}{j:Int}{fl:List (List Int)}(h:a ρ=.ok (B y))(hk:k ρ=.ok (.int j))(hi:ρ[i]? =some (.ol (fl.map B)))(h0:0≤j)(h1:j<fl.length):ft i k a ρ=.ok (.next (ρ.set i (.ol ((fl.set j.toNat y).map B)))):=by
 rw[tM h hk hi (mS h0 (by rw[List.length_map];exact h1)),setB]
theorem AU{s0 s1 s5 s6 s7 s8 s9:Slot}{fl:List (List Int)}{ms:List Int}{t:Nat}(ht:14+t<fl.length):jb [s0,s1,.ol (fl.map B),.sh (L ms),.sh (.int (0+(t:Int)*16)),s5,s6,s7,s8,s9]=.ok (.next [s0,s1,.ol ((fl.set (14+t) (pad (bQ ms t))).map B),.sh (L ms),.sh (.int (0+(t:Int)*16)),s5,s6,s7,s8,s9]):=by
 rw[jb]
 rw[lB (y:=pad (bQ ms t)) (j:=14+(0+(t:Int)*16) / 16) (bZ (tu rfl rfl (by omega)) (lV (oo ms t))) (bH rfl (cj rfl rfl (by decide))) rfl (by omega) (by omega)]
 rw[show(14+(0+(t:Int)*16) / 16).toNat=14+t by omega]
 rfl
theorem zK{s0 s1 s3 s5 s6 s7:Slot}{fl:List (List Int)}{ps ds:List Int}{j:Nat}{p:Int}(hj:ps[j]? =some p)(hj2:j<1000)(h0:0≤p)(h1:p<fl.length):jx [s0,s1,.ol (fl.map B),s3,.sh (.int (j:Int)),s5,s6,s7,.sh (L ps),.sh (L ds)]=.ok (.next [s0,s1,.ol ((fl.set p.toNat (pad (bQ ds j))).map B),s3,.sh (.int (j:Int)),s5,s6,s7,.sh (L ps),.sh (L ds)]):=by
 rw[jx]
 have hat:bI (ps.map D.int) (j:Int)=some (.int p):=by
   obtain⟨hl,e⟩:=List.getElem?_eq_some_iff.mp hj
   rw[lP (by rw[List.length_map];exact hl)]
   simp[e]
 rw[lB (y:=pad (bQ ds j)) (j:=p) (bZ (AD rfl rfl hj2) (lV (oo ds j))) (aS rfl rfl (iL hat)) rfl h0 h1]
 rfl
theorem Cf{ks:List Int}{es:List (Nd×List Int)}{s1 s4 s6 s7 s8 s9:Slot}{fl:List (List Int)}{ms:List Int}{root many k:Int}{m:Nat}(hl:ks.length=es.length)(hk:k∈ks)(hks:∀k∈ks,root≤k∧k<many)(hes:∀e∈es,iu root many e)(hr:(14+m:Int)≤root)(hfl:(fl.length:Int)=many)(hM:Map ms m fl):
   ∃(fl':List (List Int)) (s4' s6' s7' s8' s9':Slot),jA [.sh (mD ks es),s1,.ol (fl.map B),.sh (L ms),s4,.sh (.int k),s6,s7,s8,s9]=.ok (.next [.sh (mD ks es),s1,.ol (fl'.map B),.sh (L ms),s4',.sh (.int k),s6',s7',s8',s9'])∧(fl'.length:Int)=many∧Map ms m fl':=by
 obtain⟨⟨x,ps⟩,he,ee⟩:=mG eD hl hk
 obtain⟨hx,h4,hp⟩:=hes _ he
 have hkb:=hks k hk
 rw[jA]
 rw[au (nP (ρ':=[.sh (mD ks es),s1,.ol (fl.map B),.sh (L ms),s4,.sh (.int k),.sh (.int x.kd),.sh x.ct,.sh (L ps),s9]) (aS rfl rfl ee) rfl)]
 obtain⟨ds,eds⟩:=wk hx
 rw[au (bA (cS rfl rfl eds))]
 show ∃(fl':List (List Int)) (s4' s6' s7' s8' s9':Slot),aw _ [.sh (mD ks es),s1,.ol (fl.map B),.sh (L ms),s4,.sh (.int k),.sh (.int x.kd),.sh x.ct,.sh (L ps),.sh (L ds)]=_∧_
 have h4:ps.length≤4:=h4
 have hb:(e2 aK (bD [aa 6,e1 iH (aa 7)]) (aa 8)) [.sh (mD ks es),s1,.ol (fl.map B),.sh (L ms),s4,.sh (.int k),.sh (.int x.kd),.sh x.ct,.sh (L ps),.sh (L ds)]=.ok (L ([x.kd,(x.len:Int)]++ps)):=by
   have g1:(e1 iH (aa 7)) [.sh (mD ks es),s1,.ol (fl.map B),.sh (L ms),s4,.sh (.int k),.sh (.int x.kd),.sh x.ct,.sh (L ps),.sh (L ds)]=.ok (.int (x.len:Int)):=fX rfl (rK x)
   have g0:(aa 6) [.sh (mD ks es),s1,.ol (fl.map B),.sh (L ms),s4,.sh (.int k),.sh (.int x.kd),.sh x.ct,.sh (L ps),.sh (L ds)]=.ok (.int x.kd):=rfl
   refine aS (o:=aK) (x:=.lst [.int x.kd,.int (x.len:Int)]) (y:=.lst (ps.map .int)) (by simp only[bD,eList,g0,g1,R.aL]) rfl ?_
   rw[G.mU (by simp;omega),L,List.map_append]
   rfl
 rw[au (lB (y:=pad ([x.kd,(x.len:Int)]++ps)) (j:=k) (bZ hb (lV (by simp;omega))) rfl rfl (by omega) (by omega))]
 generalize hfl1:fl.set k.toNat (pad ([x.kd,(x.len:Int)]++ps))=fl1
 have hl1:(fl1.length:Int)=many:=by rw[←hfl1,List.length_set];exact hfl
 have hM1:Map ms m fl1:=by rw[←hfl1];exact hM.set (by omega)
 show ∃(fl':List (List Int)) (s4' s6' s7' s8' s9':Slot),aw _ [.sh (mD ks es),s1,.ol (fl1.map B),.sh (L ms),s4,.sh (.int k),.sh (.int x.kd),.sh x.ct,.sh (L ps),.sh (L ds)]=_∧_
 obtain⟨ρ',eL,fl2,s4',rfl,q1,q2⟩:=e7 (tg:=ar 4) (body:=jx) (fun j ρ=>∃(fl2:List (List Int)) (s4':Slot),ρ=[.sh (mD ks es),s1,.ol (fl2.map B),.sh (L ms),s4',.sh (.int k),.sh (.int x.kd),.sh x.ct,.sh (L ps),.sh (L ds)]∧(fl2.length:Int)=many∧Map ms m fl2) (ds:=bB 0 (ps.length:Int)) 0 (by
   rintro j d hd ρ ⟨fl2,s4',rfl,q1,q2⟩
   obtain⟨rfl,hj⟩:=km hd
   have hj':j<ps.length:=by omega
   have hpj:ps[j]? =some ps[j]:=List.getElem?_eq_getElem hj'
   have hpb:=hp ps[j] (List.getElem_mem _)
   refine⟨_,rfl,_,?_,fl2.set ps[j].toNat (pad (bQ ds j)),.sh (.int (j:Int)),rfl,by rw[List.length_set];exact q1,q2.set (by omega)⟩
   rw[Int.zero_add]
   exact zK hpj (by omega) (by omega) (by omega)) (ρ:=[.sh (mD ks es),s1,.ol (fl1.map B),.sh (L ms),s4,.sh (.int k),.sh (.int x.kd),.sh x.ct,.sh (L ps),.sh (L ds)]) ⟨fl1,s4,rfl,hl1,hM1⟩
 refine⟨fl2,s4',.sh (.int x.kd),.sh x.ct,.sh (L ps),.sh (L ds),?_,q1,q2⟩
 rw[au (a:=bu _ _ _) (di (fY (by rw[gj (xs:=ps.map .int) rfl,List.length_map]) (d7 (by omega) (by omega))) eL)]
 rfl
theorem yC{ks:List Int}{es:List (Nd×List Int)}{bs:List (List Int)}{many:Int}(hm:32≤many)(hm2:many<500)(hb:(bs.length:Int)=many)(hl:ks.length=es.length)(hks:∀k∈ks,14+(many+15) / 16≤k∧k<many)(hes:∀e∈es,iu (14+(many+15) / 16) many e):
   ∃(ms:List Int) (fl:List (List Int)),(ms.length:Int)=many∧fP [mD ks es,.int many]=.ok (L ms)∧(fl.length:Int)=many∧jN [mD ks es,.lst (bs.map B)]=.ok (.lst (fl.map B))∧Map ms ((many.toNat+15) / 16) fl:=by
 obtain⟨ms,hms,em⟩:=x5 hm hm2 (by omega) hl hks hes
 generalize hmm:(many.toNat+15) / 16=m
 have hroot:(14+m:Int)≤14+(many+15) / 16:=by omega
 have hmr:14+(m:Int)<many:=by omega
 let fl0:List (List Int):=bs.set 0 (pad [])
 have hfl0:(fl0.length:Int)=many:=by show((bs.set 0 (pad [])).length:Int)=many;rw[List.length_set];exact hb
 have hrg:eV 0 many 16=(List.range m).map fun(k:Nat)=>D.int (0+(k:Int)*16):=by
   unfold eV
   have:(Builtin.Range.rangeSize 0 many 16).toNat=m:=by
     unfold Builtin.Range.rangeSize
     rw[if_pos (by decide),if_pos (by omega)];omega
   rw[this]
 obtain⟨ρ',eL,fl1,s4,rfl,q1,q2⟩:=e7 (tg:=ar 4) (body:=jb) (fun j ρ=>∃(fl1:List (List Int)) (s4:Slot),ρ=[.sh (mD ks es),.sh (.lst (bs.map B)),.ol (fl1.map B),.sh (L ms),s4,.un,.un,.un,.un,.un]∧(fl1.length:Int)=many∧Map ms j fl1) (ds:=eV 0 many 16) 0 (by
   rintro j d hd ρ ⟨fl1,s4,rfl,q1,q2⟩
   rw[hrg,List.getElem?_map]at hd
   cases e:(List.range m)[j]? with
   |none=>rw[e]at hd;cases hd
   | some k=>
     rw[e]at hd
     obtain⟨hlt,hk⟩:=List.getElem?_eq_some_iff.mp e
     simp at hk hlt
     subst hk
     cases hd
     refine⟨_,rfl,_,AU (t:=j) (by omega),fl1.set (14+j) (pad (bQ ms j)),_,rfl,by rw[List.length_set];exact q1,fun t ht=>?_⟩
     by_cases htj:t=j
     · subst htj
       rw[List.getElem?_set_self (by omega)]
     · rw[List.getElem?_set_ne (by omega)]
       exact q2 t (by omega)) (ρ:=[.sh (mD ks es),.sh (.lst (bs.map B)),.ol (fl0.map B),.sh (L ms),.un,.un,.un,.un,.un,.un]) ⟨fl0,.un,rfl,hfl0,fun t ht=>absurd ht (by omega)⟩
 have hrl:(eV 0 many 16).length=m:=by rw[hrg];simp
 rw[hrl,Nat.zero_add]at q2
 obtain⟨ρ'',eL2,fl2,s4',s5,s6,s7,s8,s9,rfl,r1,r2⟩:=jk (tg:=ar 5) (body:=jA) (fun ρ=>∃(fl2:List (List Int)) (s4 s5 s6 s7 s8 s9:Slot),ρ=[.sh (mD ks es),.sh (.lst (bs.map B)),.ol (fl2.map B),.sh (L ms),s4,s5,s6,s7,s8,s9]∧(fl2.length:Int)=many∧Map ms m fl2) (ds:=ks.map .int) (by
   rintro d hd ρ ⟨fl2,s4,s5,s6,s7,s8,s9,rfl,r1,r2⟩
   obtain⟨k,hk,rfl⟩:=List.mem_map.mp hd
   obtain⟨fl3,s4',s6',s7',s8',s9',e,a1,a2⟩:=Cf (s1:=.sh (.lst (bs.map B))) (s4:=s4) (s6:=s6) (s7:=s7) (s8:=s8) (s9:=s9) hl hk hks hes hroot r1 r2
   exact⟨_,rfl,_,e,fl3,_,_,_,_,_,_,rfl,a1,a2⟩) (ρ:=[.sh (mD ks es),.sh (.lst (bs.map B)),.ol (fl1.map B),.sh (L ms),s4,.un,.un,.un,.un,.un]) ⟨fl1,s4,.un,.un,.un,.un,.un,rfl,q1,q2⟩
 refine⟨ms,fl2,hms,em,r1,?_,r2⟩
 rw[jN]
 refine cf ?_
 show aw _ [.sh (mD ks es),.sh (.lst (bs.map B)),.un,.un,.un,.un,.un,.un,.un,.un]=_
 rw[au (ρ':=[.sh (mD ks es),.sh (.lst (bs.map B)),.ol (bs.map B),.un,.un,.un,.un,.un,.un,.un]) rfl]
 rw[au (lB (y:=pad []) (j:=0) (bZ (x:=L []) rfl (lV (by simp))) rfl rfl (by omega) (by omega))]
 show aw _ [.sh (mD ks es),.sh (.lst (bs.map B)),.ol (fl0.map B),.un,.un,.un,.un,.un,.un,.un]=_
 have elen:∀(ρ:En),ρ[2]? =some (.ol (fl0.map B))→cO 2 ρ=.ok (.int many):=fun ρ h=>by
   rw[qU h,List.length_map,hfl0]
 rw[au (bA (cS rfl (elen _ rfl) em))]
 show aw _ [.sh (mD ks es),.sh (.lst (bs.map B)),.ol (fl0.map B),.sh (L ms),.un,.un,.un,.un,.un,.un]=_
 rw[au (a:=bu _ _ _) (di (ds:=eV 0 many 16) (by
   unfold lZ
   rw[show(eC (.int 0)) [.sh (mD ks es),.sh (.lst (bs.map B)),.ol (fl0.map B),.sh (L ms),.un,.un,.un,.un,.un,.un]=.ok (.int 0)from rfl,R.aL,elen _ rfl,R.aL]
   show(if(inR 0&&inR many)=true∧(0:Int)<16∧(16:Int)<1000 then R.ok (eV 0 many 16)else .bad)=_
   rw[if_pos ⟨by rw[d7 (i:=many) (by omega) (by omega)];rfl,by decide,by decide⟩]) eL)]
 rw[au (a:=bu _ _ _) (di (ds:=ks.map .int) (by
   show R.ok ((ks.map (Sum.inl:Int→Ky)).map kg)=_
   rw[List.map_map];rfl) eL2)]
 rw[au (ρ':=[.sh (mD ks es),.sh (.lst (bs.map B)),.sh (.lst (fl2.map B)),.sh (L ms),s4',s5,s6,s7,s8,s9]) rfl]
 exact dC (b8 rfl)
end fB
end PL
set_option maxRecDepth 100000
namespace PL
open PySem PySem.Spec
open L2 (V Hp HO Cx PE PT PW PA PS bK PG cJ VK TE TT TA TS TI TG Inv RelV Vals Rd aM aW upd af Key XK Ends aQ fD bp R2 EP It Turn cB)
structure XE(X:Cx)(e:Expr)(f:Ex):Prop where
 out:JE X e f
structure XF(X:Cx)(e:Expr)(f:Ex):Prop where
 out:JF X e f
structure XT(X:Cx)(e:Expr)(f:aJ):Prop where
 out:JT X e f
structure XW(X:Cx)(e:Expr)(f:aJ):Prop where
 out:JW X e f
structure XA(X:Cx)(e:List Expr)(f:En→R (List D)):Prop where
 out:JA X e f
structure XO(X:Cx)(e:Option Expr)(f:Option Ex):Prop where
 out:JO X e f
structure XS(X:Cx)(e:Stmt)(f:Sm):Prop where
 out:JS X e f
structure dZ(X:Cx)(e:List Stmt)(f:Sm):Prop where
 out:cN X e f
structure XG(X:Cx)(e:Expr)(f:bo):Prop where
 out:JG X e f
structure kN(X:Cx)(e:List Expr)(f:List D→En→R En):Prop where
 out:ji X e f
structure iV(X:Cx)(e:List Expr)(f:List aJ):Prop where
 out:kz X e f
structure XP(X:Cx)(pos:Pos)(keys:List (Option Expr))(values:List Expr)(ks:List Ky)(fs:List Ex):Prop where
 out:JP X pos keys values ks fs
structure XI(X:Cx)(tg e:Expr)(f:bj):Prop where
 out:JI X tg e f
structure XD(X:Cx)(e:Expr)(f:Ex):Prop where
 out:JD X e f
structure XX(X:Cx)(e:Expr)(f:Xt):Prop where
 out:JX X e f
structure ko(X:Cx)(e:List Expr)(f:En→R (List T)):Prop where
 out:iJ X e f
structure XL(X:Cx)(i:Nat)(e:Expr)(f:Pt):Prop where
 out:JL X i e f
theorem ae{X:L2.Cx}{pos:Pos}(i:Nat){x:Str}(hN:X.N[i]? =some x:=by rfl)(hv:L2.aZ X.env.scope x:=by first|exact Or.inl rfl|exact Or.inr (Or.inl rfl)|exact Or.inr (Or.inr rfl))(hd:(x==("__debug__":Str))=false:=by decide)(hcd:(x==("__classdict__":Str))=false:=by decide):XE X (.Name x pos) (aa i):=⟨CH i hN hv hd hcd⟩
theorem ag{X:L2.Cx}{pos:Pos}{i:Int}{j:Nat}:XE X (.Constant (.int i) j pos) (eC (.int i)):=⟨AJ ⟩
theorem iG{X:L2.Cx}{pos:Pos}{b:Bool}{j:Nat}:XE X (.Constant (.bool b) j pos) (eC (.bl b)):=⟨wF ⟩
theorem aj{X:L2.Cx}{pos:Pos}{op:Operator}{g:D→D→R D}{r:R2}{a b:Expr}{fa fb:Ex}(ho:aQ X (binaryOp op) r)(hg:bY (av X) g r)(ha:XE X a fa)(hb:XE X b fb):XE X (.BinOp a op b pos) (e2 g fa fb):=⟨BA ho hg ha.out hb.out⟩
theorem mJ{X:L2.Cx}{pos:Pos}{op:CmpOp}{g:D→D→R D}{r:R2}{a b:Expr}{fa fb:Ex}(ho:aQ X (compareOp op) r)(hg:bY (av X) g r)(ha:XE X a fa)(hb:XE X b fb)(hm:behindInMarks op b=false:=by exact L2.pT _):XE X (.Compare a [op] [b] pos) (e2 g fa fb):=⟨Bq ho hg ha.out hb.out hm⟩
theorem tR{X:L2.Cx}{pos:Pos}{op:BoolOp}{a:Expr}{fa:Ex}(h:XE X a fa):XE X (.BoolOp op [a] pos) fa:=⟨xI h.out⟩
theorem sx{X:L2.Cx}{pos:Pos}{a b:Expr}{rest:List Expr}{fa fb:Ex}(ha:XE X a fa)(hb:XE X (.BoolOp .And (b::rest) pos) fb):XE X (.BoolOp .And (a::b::rest) pos) (jP fa fb):=⟨z4 ha.out hb.out⟩
theorem jo{X:L2.Cx}{a:Expr}{fa:Ex}(ha:XE X a fa)(he:∀whole,isTrue a X.env whole=(do let v ←whole;standAt a.pos;holding [v] (truthy v)):=by exact CI (by rfl)):XT X a (tV fa):=⟨CO ha.out he⟩
theorem da{X:L2.Cx}{pos:Pos}{op:CmpOp}{g:D→D→R D}{r:R2}{a b:Expr}{fa fb:Ex}(ho:aQ X (compareOp op) r)(hg:bY (av X) g r)(hB:gi g)(ha:XE X a fa)(hb:XE X b fb)(hm:behindInMarks op b=false:=by first|exact L2.pT _|rfl):XT X (.Compare a [op] [b] pos) (tV (e2 g fa fb)):=⟨wL ho hg hB ha.out hb.out hm⟩
theorem jK{X:L2.Cx}{pos:Pos}{a:Expr}{c:aJ}(ha:XT X a c):XT X (.UnaryOp .Not a pos) (dY c):=⟨vI ha.out⟩
theorem vK{X:L2.Cx}{pos:Pos}{a:Expr}{c:aJ}(ha:XT X a c):XW X (.BoolOp .And [a] pos) c:=⟨zG ha.out⟩
theorem lG{X:L2.Cx}{pos:Pos}{a:Expr}{c:aJ}(ha:XT X a c):XW X (.BoolOp .Or [a] pos) c:=⟨Bk ha.out⟩
theorem pS{X:L2.Cx}{pos:Pos}{a b:Expr}{rest:List Expr}{c c':aJ}(ha:XT X a c)(hb:XW X (.BoolOp .And (b::rest) pos) c'):XW X (.BoolOp .And (a::b::rest) pos) (dU c c'):=⟨Ce ha.out hb.out⟩
theorem il{X:L2.Cx}{pos:Pos}{a b:Expr}{rest:List Expr}{c c':aJ}(ha:XT X a c)(hb:XW X (.BoolOp .Or (b::rest) pos) c'):XW X (.BoolOp .Or (a::b::rest) pos) (dS c c'):=⟨xh ha.out hb.out⟩
theorem ka{X:L2.Cx}{e:Expr}{c:aJ}(h:XW X e c):XT X e c:=⟨wI h.out⟩
theorem CQ{X:L2.Cx}{pos:Pos}{a:Expr}{fa:Ex}(ha:XE X a fa):XE X (.UnaryOp .Not a pos) (e1 jt fa):=⟨zJ ha.out⟩
theorem aI{X:L2.Cx}:XA X [] (eList []):=⟨dM ⟩
theorem ay{X:L2.Cx}{e:Expr}{es:List Expr}{f:Ex}{fs:List Ex}(ha:XE X e f)(hr:XA X es (eList fs))(hs:starEach (e::es) X.env=(false,eval e X.env)::starEach es X.env:=by exact aY (by rfl)):XA X (e::es) (eList (f::fs)):=⟨cL ha.out hr.out hs⟩
theorem Bo{X:L2.Cx}{pos:Pos}{es:List Expr}{fs:List Ex}{k:Nat}(h:XA X es (eList fs))(hl:fs.length≤1000:=by decide):XE X (.Tuple es k pos) (gf fs):=⟨z5 h.out hl⟩
theorem eU{X:L2.Cx}{pos:Pos}{es:List Expr}{fs:List Ex}(h:XA X es (eList fs))(hl:fs.length≤1000:=by decide):XE X (.List es pos) (bD fs):=⟨xr h.out hl⟩
theorem BR{X:L2.Cx}:XO X none none:=⟨zO ⟩
theorem fV{X:L2.Cx}{e:Expr}{f:Ex}(h:XE X e f):XO X (some e) (some f):=⟨BV h.out⟩
theorem mx{X:L2.Cx}{pos:Pos}{a:Expr}{lo hi:Option Expr}{fa:Ex}{fl fh:Option Ex}{p2:Pos}(ha:XE X a fa)(hl:XO X lo fl)(hh:XO X hi fh):XE X (.Subscript a (.Slice lo hi none p2) pos) (cC fa fl fh):=⟨AM ha.out hl.out hh.out⟩
theorem dA{X:L2.Cx}{pos:Pos}{g:D→R D}{r:List V→Hp→VK→Prop}{x:Str}{id:String}{a:Expr}{fa:Ex}{p:Pos}(hc:bp X (.builtin id) r)(hg:eR (av X) (g1 g) r)(hm:X.mg x=none)(hv:bootBuiltins x=some (.builtin id))(ha:XE X a fa)(hgl:L2.Gl X x:=by rfl)(hs:starEach [a] X.env=(false,eval a X.env)::starEach [] X.env:=by exact aY (by rfl))(hn:x≠"__name__":=by decide)(hdb:(x==("__debug__":Str))=false:=by decide):XE X (.Call (.Name x p) [a] [] pos) (e1 g fa):=⟨BS hc hg hgl hm hv ha.out hs hn hdb⟩
theorem jG{X:L2.Cx}{pos:Pos}{g:D→R D}{r:List V→Hp→VK→Prop}{x:Str}{T:String}{a:Expr}{fa:Ex}{p:Pos}(hc:bp X (.type T) r)(hg:eR (av X) (g1 g) r)(hm:X.mg x=none)(hv:bootBuiltins x=some (.type T))(ha:XE X a fa)(hgl:L2.Gl X x:=by rfl)(hs:starEach [a] X.env=(false,eval a X.env)::starEach [] X.env:=by exact aY (by rfl))(hn:x≠"__name__":=by decide)(hdb:(x==("__debug__":Str))=false:=by decide):XE X (.Call (.Name x p) [a] [] pos) (e1 g fa):=⟨vc hc hg hgl hm hv ha.out hs hn hdb⟩
theorem m5{X:L2.Cx}{pos:Pos}(ty:Ty){a:Expr}{fa:Ex}{p p2:Pos}{T:Str}(ha:XE X a fa)(hm:X.mg "isinstance"=none)(hmT:X.mg T=none)(hvT:bootBuiltins T=some (.type (j4 ty)))(hg:L2.Gl X "isinstance":=by rfl)(hgT:L2.Gl X T:=by rfl)(hs:starEach [a,.Name T p2] X.env=(false,eval a X.env)::starEach [.Name T p2] X.env:=by exact aY (by rfl))(hs2:starEach [.Name T p2] X.env=(false,eval (.Name T p2) X.env)::starEach [] X.env:=by exact aY (by rfl))(hnT:T≠"__name__":=by decide)(hdT:(T==("__debug__":Str))=false:=by decide):XE X (.Call (.Name "isinstance" p) [a,.Name T p2] [] pos) (e1 (gC ty) fa):=⟨B8 ty ha.out hg hm hgT hmT hvT hs hs2 hnT hdT⟩
theorem b6{X:L2.Cx}:dZ X [] (aw []):=⟨t9 ⟩
theorem eP{X:L2.Cx}:dZ X [] cH:=⟨CV ⟩
theorem aq{X:L2.Cx}{st:Stmt}{rest:List Stmt}{f:Sm}{fs:List Sm}(h1:XS X st f)(h2:dZ X rest (aw fs)):dZ X (st::rest) (aw (f::fs)):=⟨Ae h1.out h2.out⟩
theorem bN{X:L2.Cx}{st:Stmt}{f:Sm}(h:XS X st f):dZ X [st] f:=⟨Ac h.out⟩
theorem eQ{X:L2.Cx}{pos:Pos}{c:Expr}{a b:List Stmt}{fc:aJ}{fa fb:Sm}(hc:XT X c fc)(ha:dZ X a fa)(hb:dZ X b fb):XS X (.If c a b pos) (cF fc fa fb):=⟨uq hc.out ha.out hb.out⟩
theorem bP{X:L2.Cx}{pos:Pos}{a:Expr}{fa:Ex}(ha:XE X a fa):XS X (.Return (some a) pos) (bC fa):=⟨BH ha.out⟩
theorem aG{X:L2.Cx}{pos:Pos}(i:Nat){x:Str}(hN:X.N.Nodup)(hi:X.N[i]? =some x:=by rfl)(hx:L2.Loc X.env.scope x:=by first|exact Or.inl rfl|exact Or.inr rfl)(hf:X.fn x=true∨X.env.scope.names.lookup x=some .local:=by first|exact .inl rfl|exact .inr rfl):XG X (.Name x pos) (ar i):=⟨Cz i hN hi hx hf⟩
theorem mP{X:L2.Cx}:kN X [] (ck []):=⟨yt ⟩
theorem gm{X:L2.Cx}(i:Nat){is:List Nat}{e:Expr}{es:List Expr}(h1:XG X e (ar i))(h2:kN X es (ck is))(hs:(assignEach (e::es) X.env).map (·.2)=assign e X.env::(assignEach es X.env).map (·.2):=by exact pA (by rfl)):kN X (e::es) (ck (i::is)):=⟨wH i h1.out h2.out hs⟩
theorem BD{X:L2.Cx}{pos:Pos}{is:List Nat}{es:List Expr}{k:Nat}(h:kN X es (ck is))(hn:(assignEach es X.env).length=is.length)(hc:X.calm=true:=by rfl)(hst:(assignEach es X.env).findIdx? (·.1)=none:=by exact oE (by rfl)):XG X (.Tuple es k pos) (gu is):=⟨qZ hc h.out hn hst⟩
theorem bb{X:L2.Cx}{pos:Pos}{tg e:Expr}{fa:Ex}{g:bo}(ha:XE X e fa)(hg:XG X tg g)(hs:swapsWithSole [tg] e pos.line X.env=pure false:=by exact qM (by rfl))(hw:swappedStores [tg] e X.env=pure none:=by first|exact A2 (by rfl)|exact sW (by rfl))(h1:(assignEach [tg] X.env).map (·.2)=[assign tg X.env]:=by exact pA (by rfl)):XS X (.Assign [tg] e pos) (aR g fa):=⟨Cc ha.out hg.out hs hw h1⟩
theorem dg{X:L2.Cx}{pos:Pos}{tg iter:Expr}{body:List Stmt}{it:bj}{g:bo}{f:Sm}(hi:XI X tg iter it)(hg:XG X tg g)(hb:dZ X body f)(hp:PassesOwn (model X.prog X.w) X.A X.env X.xe:=by exact PassesOwn.never)(hc:X.calm=true:=by exact rfl)(hs:∀x,foldedSetIterable iter X.env x=pure x:=by exact lN (by rfl)):XS X (.For tg iter body [] pos) (bu it g f):=⟨C3 hp hc hi.out hg.out hb.out hs⟩
theorem fR{X:L2.Cx}{pos:Pos}{tg a:Expr}{fa:Ex}{p:Pos}(hm:X.mg "range"=none)(ha:XE X a fa)(hg:L2.Gl X "range":=by rfl)(hs:starEach [a] X.env=(false,eval a X.env)::starEach [] X.env:=by exact aY (by rfl)):XI X tg (.Call (.Name "range" p) [a] [] pos) (dB fa):=⟨wG hg hm ha.out hs⟩
theorem p9{X:L2.Cx}{pos:Pos}{tg a b:Expr}{fa fb:Ex}{p:Pos}(hm:X.mg "range"=none)(ha:XE X a fa)(hb:XE X b fb)(hg:L2.Gl X "range":=by rfl)(hs:starEach [a,b] X.env=(false,eval a X.env)::starEach [b] X.env:=by exact aY (by rfl))(hs2:starEach [b] X.env=(false,eval b X.env)::starEach [] X.env:=by exact aY (by rfl)):XI X tg (.Call (.Name "range" p) [a,b] [] pos) (ix fa fb):=⟨wB hg hm ha.out hb.out hs hs2⟩
theorem uA{X:L2.Cx}{pos:Pos}(i:Nat){x:Str}{p2:Pos}(hN:X.N[i]? =some x:=by rfl)(hv:L2.aZ X.env.scope x:=by exact Or.inl rfl)(hd:(x==("__debug__":Str))=false:=by decide)(hcd:(x==("__classdict__":Str))=false:=by decide):XS X (.Return (some (.Name x p2)) pos) (mR i):=⟨yk i hN hv hd hcd⟩
theorem jz{X:L2.Cx}(i:Nat){rest:List Stmt}{fs:List Sm}(h:dZ X rest (aw fs)):dZ X rest (aw (gg i::fs)):=⟨xT i h.out⟩
theorem kF{X:L2.Cx}{pos:Pos}{es:List Expr}{fs:List Ex}(h:XA X es (eList fs))(hl:fs.length≤1000:=by decide):XF X (.List es pos) (bD fs):=⟨xb h.out hl⟩
theorem hW{X:L2.Cx}{pos:Pos}(i:Nat){x:Str}{e:Expr}{f:Ex}{p2:Pos}(hN:X.N.Nodup)(he:XF X e f)(hi:X.N[i]? =some x:=by rfl)(hx:L2.Loc X.env.scope x:=by first|exact Or.inl rfl|exact Or.inr rfl)(hf:X.fn x=true∨X.env.scope.names.lookup x=some .local:=by exact .inl rfl)(hs:swapsWith e (some (.Name x p2)) pos.line X.env=pure false:=by exact dP (by rfl)):XS X (.Assign [.Name x p2] e pos) (dw i f):=⟨C0 i hN he.out hi hx hf hs⟩
theorem sr{X:L2.Cx}{pos:Pos}(i:Nat){x:Str}{e:Expr}{f:Ex}{p2 apos cpos:Pos}(he:XE X e f)(hN:X.N[i]? =some x:=by rfl)(hv:L2.aZ X.env.scope x:=by exact Or.inl rfl)(hd:(x==("__debug__":Str))=false:=by decide)(hcd:(x==("__classdict__":Str))=false:=by decide)(hbase:attributeBase (.Name x p2) "append" X.env (eval (.Name x p2) X.env)=eval (.Name x p2) X.env:=by exact kZ)(hfew:((backTo cpos (starEach [e] X.env)).all (fun x=> !x.1)&&(backToKw cpos (keywordEach [] X.env)).all (fun x=>x.1.isSome)&&decide (([e]:List Expr).length+([]:List Keyword).length+(if([]:List Keyword).isEmpty then 0 else 1)<30))=true:=by exact iR (by rfl) (by decide))(hline:(apos.endLine==cpos.line)=true:=by rfl)(hs:starEach [e] X.env=(false,eval e X.env)::starEach [] X.env:=by exact aY (by rfl))(hsw:swapsWith (.Call (.Attribute (.Name x p2) "append" apos) [e] [] cpos) none pos.line X.env=pure false:=by exact dP (by rfl)):XS X (.Expr (.Call (.Attribute (.Name x p2) "append" apos) [e] [] cpos) pos) (gT i f):=⟨uB i he.out hN hv hd hcd hbase hfew hline hs hsw⟩
theorem gA{X:L2.Cx}{pos:Pos}(i:Nat){x:Str}{p p2:Pos}(hm:X.mg "len"=none)(hg:L2.Gl X "len":=by rfl)(hN:X.N[i]? =some x:=by rfl)(hv:L2.aZ X.env.scope x:=by exact Or.inl rfl)(hd:(x==("__debug__":Str))=false:=by decide)(hcd:(x==("__classdict__":Str))=false:=by decide)(hs:starEach [.Name x p2] X.env=(false,eval (.Name x p2) X.env)::starEach [] X.env:=by exact aY (by rfl)):XE X (.Call (.Name "len" p) [.Name x p2] [] pos) (cO i):=⟨Ci i hg hm hN hv hd hcd hs⟩
theorem z7{X:L2.Cx}{pos:Pos}(i:Nat){x:Str}{b:Expr}{fb:Ex}{p2:Pos}(hb:XE X b fb)(hN:X.N[i]? =some x:=by rfl)(hv:L2.aZ X.env.scope x:=by exact Or.inl rfl)(hd:(x==("__debug__":Str))=false:=by decide)(hcd:(x==("__classdict__":Str))=false:=by decide)(hs:L2.fu b:=by exact lQ (by rfl)):XE X (.Subscript (.Name x p2) b pos) (gR i fb):=⟨ye i hb.out hN hv hd hcd hs⟩
theorem bg{X:L2.Cx}{pos:Pos}{x:Str}{k j n:Nat}{m:List D→R D}{e:Expr}{es:List Expr}{fs:List Ex}{p:Pos}(d:Df X.prog X.w X.K X.mg X.base x k n m)(hr:L2.bt j X.A)(ha:XA X (e::es) (eList fs))(hg:L2.Gl X x:=by rfl)(hk:k≤j:=by decide)(hn:fs.length=n:=by rfl)(hdb:(x==("__debug__":Str))=false:=by decide)(he:starEach (e::es) X.env=(false,eval e X.env)::starEach es X.env:=by exact aY (by rfl))(hpl:(backTo pos (starEach es X.env)).any (·.1)=false:=by exact mX (by rfl)):XE X (.Call (.Name x p) (e::es) [] pos) (aB m fs):=⟨vC d hr hg ha.out hk hn hdb he hpl⟩
theorem kA{X:L2.Cx}{tg l:Expr}{fa:Ex}(ha:XE X l fa):XI X tg l (ip fa):=⟨z9 ha.out⟩
theorem mn{X:Cx}{pos:Pos}{x:Str}{d:D}(g:gL X.prog X.w X.K X.mg x d)(hg:L2.Gl X x:=by rfl)(hd:(x==("__debug__":Str))=false:=by decide):XE X (.Name x pos) (eC d):=⟨ym g hg hd⟩
theorem cW{X:L2.Cx}{pos:Pos}{a b:Expr}{fa fb:Ex}(ha:XE X a fa)(hb:XE X b fb)(hs:L2.fu b:=by exact lQ (by rfl)):XE X (.Subscript a b pos) (e2 aV fa fb):=⟨CM ha.out hb.out hs⟩
theorem lh{X:L2.Cx}{pos:Pos}(i:Nat){x:Str}{e k:Expr}{f g:Ex}{p2 p3:Pos}(he:XE X e f)(hk:XE X k g)(ha:hZ X.env (.Name x p2) k p3)(hN:X.N[i]? =some x:=by rfl)(hv:L2.aZ X.env.scope x:=by exact Or.inl rfl)(hd:(x==("__debug__":Str))=false:=by decide)(hcd:(x==("__classdict__":Str))=false:=by decide)(hs:swapsWithSole [.Subscript (.Name x p2) k p3] e pos.line X.env=pure false:=by exact qM (by rfl))(hw:swappedStores [.Subscript (.Name x p2) k p3] e X.env=pure none:=by exact sW (by rfl))(h1:(assignEach [.Subscript (.Name x p2) k p3] X.env).map (·.2)=[assign (.Subscript (.Name x p2) k p3) X.env]:=by exact pA (by rfl)):XS X (.Assign [.Subscript (.Name x p2) k p3] e pos) (ft i g f):=⟨uJ i he.out hk.out hN hv hd hcd ha hs hw h1⟩
theorem xJ{X:L2.Cx}{pos:Pos}(i:Nat){x:Str}{e:Expr}{f:Ex}{p2 apos cpos:Pos}(he:XF X e f)(hN:X.N[i]? =some x:=by rfl)(hv:L2.aZ X.env.scope x:=by exact Or.inl rfl)(hd:(x==("__debug__":Str))=false:=by decide)(hcd:(x==("__classdict__":Str))=false:=by decide)(hbase:attributeBase (.Name x p2) "extend" X.env (eval (.Name x p2) X.env)=eval (.Name x p2) X.env:=by exact kZ)(hfew:((backTo cpos (starEach [e] X.env)).all (fun x=> !x.1)&&(backToKw cpos (keywordEach [] X.env)).all (fun x=>x.1.isSome)&&decide (([e]:List Expr).length+([]:List Keyword).length+(if([]:List Keyword).isEmpty then 0 else 1)<30))=true:=by exact iR (by rfl) (by decide))(hline:(apos.endLine==cpos.line)=true:=by rfl)(hs:starEach [e] X.env=(false,eval e X.env)::starEach [] X.env:=by exact aY (by rfl))(hsw:swapsWith (.Call (.Attribute (.Name x p2) "extend" apos) [e] [] cpos) none pos.line X.env=pure false:=by exact dP (by rfl)):XS X (.Expr (.Call (.Attribute (.Name x p2) "extend" apos) [e] [] cpos) pos) (lJ i f):=⟨CL i he.out hN hv hd hcd hbase hfew hline hs hsw⟩
theorem p6{X:L2.Cx}{pos:Pos}{a:Expr}{fa:Ex}{p:Pos}(hm:X.mg "list"=none)(ha:XE X a fa)(hgl:L2.Gl X "list":=by rfl)(hs:starEach [a] X.env=(false,eval a X.env)::starEach [] X.env:=by exact aY (by rfl)):XF X (.Call (.Name "list" p) [a] [] pos) (e1 fE fa):=⟨vD hgl hm ha.out hs⟩
theorem xv{X:L2.Cx}{pos:Pos}{a:Expr}{lo hi:Option Expr}{fa:Ex}{fl fh:Option Ex}{p2:Pos}(ha:XE X a fa)(hl:XO X lo fl)(hh:XO X hi fh):XF X (.Subscript a (.Slice lo hi none p2) pos) (cC fa fl fh):=⟨xu ha.out hl.out hh.out⟩
theorem sY{X:L2.Cx}{pos:Pos}{x:Str}{k j n:Nat}{m:List D→R D}{e:Expr}{es:List Expr}{fs:List Ex}{p:Pos}(d:d8 X.prog X.w X.K X.mg X.base x k n m)(hr:L2.bt j X.A)(ha:XA X (e::es) (eList fs))(hg:L2.Gl X x:=by rfl)(hk:k≤j:=by decide)(hn:fs.length=n:=by rfl)(hdb:(x==("__debug__":Str))=false:=by decide)(he:starEach (e::es) X.env=(false,eval e X.env)::starEach es X.env:=by exact aY (by rfl))(hpl:(backTo pos (starEach es X.env)).any (·.1)=false:=by exact mX (by rfl)):XF X (.Call (.Name x p) (e::es) [] pos) (aB m fs):=⟨qt d hr hg ha.out hk hn hdb he hpl⟩
theorem lE{X:L2.Cx}{pos:Pos}{x:Str}{k j n N:Nat}{body:Sm}{m:List D→R D}{e:Expr}{es:List Expr}{fs:List Ex}{p:Pos}(d:d8 X.prog X.w X.K X.mg X.base x k n m)(hr:L2.bt j X.A)(ha:XA X (e::es) (eList fs))(hm:m=dX N body:=by rfl)(hg:L2.Gl X x:=by rfl)(hk:k≤j:=by decide)(hn:fs.length=n:=by rfl)(hdb:(x==("__debug__":Str))=false:=by decide)(he:starEach (e::es) X.env=(false,eval e X.env)::starEach es X.env:=by exact aY (by rfl))(hpl:(backTo pos (starEach es X.env)).any (·.1)=false:=by exact mX (by rfl)):XE X (.Call (.Name x p) (e::es) [] pos) (aB m fs):=⟨zD d hm hr hg ha.out hk hn hdb he hpl⟩
theorem sA{X:L2.Cx}{pos:Pos}{a:Expr}{fa:Ex}(ha:XF X a fa)(hl:∀ρ d,fa ρ=.ok d→∃ds,d=.lst ds):XS X (.Return (some a) pos) (mh fa):=⟨vH ha.out hl⟩
theorem uC{X:L2.Cx}{pos:Pos}{a b:Expr}{fa fb:Ex}{p p2 pos2:Pos}(hm:X.mg "list"=none)(hm2:X.mg "range"=none)(ha:XE X a fa)(hb:XE X b fb)(hc:X.calm=true:=by rfl)(hg:L2.Gl X "list":=by rfl)(hg2:L2.Gl X "range":=by rfl)(hs0:starEach [.Call (.Name "range" p2) [a,b] [] pos2] X.env=(false,eval (.Call (.Name "range" p2) [a,b] [] pos2) X.env)::starEach [] X.env:=by exact aY (by rfl))(hs:starEach [a,b] X.env=(false,eval a X.env)::starEach [b] X.env:=by exact aY (by rfl))(hs2:starEach [b] X.env=(false,eval b X.env)::starEach [] X.env:=by exact aY (by rfl)):XF X (.Call (.Name "list" p) [.Call (.Name "range" p2) [a,b] [] pos2] [] pos) (e2 lF fa fb):=⟨yi hc hg hm hg2 hm2 ha.out hb.out hs0 hs hs2⟩
theorem sC{X:L2.Cx}{pos:Pos}(j:Nat)(i:Nat){x y:Str}{e:Expr}{f:Ex}{p2 p3 apos cpos bpos dpos:Pos}(he:XE X e f)(hj:X.N[j]? =some y:=by rfl)(hN:X.N[i]? =some x:=by rfl)(hvy:L2.aZ X.env.scope y:=by first|exact Or.inr (Or.inl rfl)|exact Or.inl rfl)(hv:L2.aZ X.env.scope x:=by exact Or.inl rfl)(hdy:(y==("__debug__":Str))=false:=by decide)(hcdy:(y==("__classdict__":Str))=false:=by decide)(hd:(x==("__debug__":Str))=false:=by decide)(hcd:(x==("__classdict__":Str))=false:=by decide)(hbase:attributeBase (.Name x p2) "pop" X.env (eval (.Name x p2) X.env)=eval (.Name x p2) X.env:=by exact kZ)(hfew:((backTo cpos (starEach [e] X.env)).all (fun x=> !x.1)&&(backToKw cpos (keywordEach [] X.env)).all (fun x=>x.1.isSome)&&decide (([e]:List Expr).length+([]:List Keyword).length+(if([]:List Keyword).isEmpty then 0 else 1)<30))=true:=by exact iR (by rfl) (by decide))(hline:(apos.endLine==cpos.line)=true:=by rfl)(hs:starEach [e] X.env=(false,eval e X.env)::starEach [] X.env:=by exact aY (by rfl))(hbase2:attributeBase (.Name y p3) "append" X.env (eval (.Name y p3) X.env)=eval (.Name y p3) X.env:=by exact kZ)(hfew2:((backTo dpos (starEach [.Call (.Attribute (.Name x p2) "pop" apos) [e] [] cpos] X.env)).all (fun x=> !x.1)&&(backToKw dpos (keywordEach [] X.env)).all (fun x=>x.1.isSome)&&decide (([.Call (.Attribute (.Name x p2) "pop" apos) [e] [] cpos]:List Expr).length+([]:List Keyword).length+(if([]:List Keyword).isEmpty then 0 else 1)<30))=true:=by exact iR (by rfl) (by decide))(hline2:(bpos.endLine==dpos.line)=true:=by rfl)(hs2:starEach [.Call (.Attribute (.Name x p2) "pop" apos) [e] [] cpos] X.env=(false,eval (.Call (.Attribute (.Name x p2) "pop" apos) [e] [] cpos) X.env)::starEach [] X.env:=by exact aY (by rfl))(hsw:swapsWith (.Call (.Attribute (.Name y p3) "append" bpos) [.Call (.Attribute (.Name x p2) "pop" apos) [e] [] cpos] [] dpos) none pos.line X.env=pure false:=by exact dP (by rfl)):XS X (.Expr (.Call (.Attribute (.Name y p3) "append" bpos) [.Call (.Attribute (.Name x p2) "pop" apos) [e] [] cpos] [] dpos) pos) (jE j i f):=⟨uw j i he.out hj hN hvy hv hdy hcdy hd hcd hbase hfew hline hs hbase2 hfew2 hline2 hs2 hsw⟩
theorem yf{X:L2.Cx}{pos:Pos}{elts:List Expr}{k:Nat}{tp:Pos}{a:Expr}{fa:Ex}{p:Pos}(hm:X.mg "enumerate"=none)(ha:XE X a fa)(hg:L2.Gl X "enumerate":=by rfl)(hs:starEach [a] X.env=(false,eval a X.env)::starEach [] X.env:=by exact aY (by rfl)):XI X (.Tuple elts k tp) (.Call (.Name "enumerate" p) [a] [] pos) (ny 0 fa):=⟨uZ hg hm ha.out hs⟩
theorem oF{X:L2.Cx}{pos:Pos}{is:List Nat}{es:List Expr}{k:Nat}(h:kN X es (ck is))(hn:(assignEach es X.env).length=is.length)(hc:X.calm=true:=by rfl)(hst:(assignEach es X.env).findIdx? (·.1)=none:=by exact oE (by rfl)):XG X (.Tuple es k pos) (kU is):=⟨BF hc h.out hn hst⟩
theorem m8{X:L2.Cx}{tg l:Expr}{fa:Ex}(ha:XE X l fa):XI X tg l (gF fa):=⟨Aj ha.out⟩
theorem wc{X:L2.Cx}{pos:Pos}(i:Nat){x:Str}{p1 p2:Pos}(hN:X.N.Nodup)(hi:X.N[i]? =some x:=by rfl)(hx:L2.Loc X.env.scope x:=by exact Or.inl rfl)(hf:X.fn x=true∨X.env.scope.names.lookup x=some .local:=by exact .inl rfl)(hs:swapsWith (.Dict [] [] p1) (some (.Name x p2)) pos.line X.env=pure false:=by exact dP (by rfl)):XS X (.Assign [.Name x p2] (.Dict [] [] p1) pos) (oM i (o5 [] [])):=⟨CY i hN hi hx hf hs⟩
theorem Ao{X:L2.Cx}{pos:Pos}(i:Nat){x:Str}{e k:Expr}{f g:Ex}{p2 p3:Pos}(hu:X.A.units+64<cLine)(hk:XE X k g)(he:XE X e f)(hN:X.N[i]? =some x:=by rfl)(hv:L2.aZ X.env.scope x:=by exact Or.inl rfl)(hd:(x==("__debug__":Str))=false:=by decide)(hcd:(x==("__classdict__":Str))=false:=by decide)(hs:swapsWith e (some (.Subscript (.Name x p2) k p3)) pos.line X.env=pure false:=by exact dP (by rfl)):XS X (.Assign [.Subscript (.Name x p2) k p3] e pos) (mF i g f):=⟨vB i hu hk.out he.out hN hv hd hcd hs⟩
theorem uz{X:L2.Cx}{pos:Pos}{tg a b c:Expr}{fa fb fc:Ex}{p:Pos}(hm:X.mg "range"=none)(ha:XE X a fa)(hb:XE X b fb)(hc:XE X c fc)(hg:L2.Gl X "range":=by rfl)(hs:starEach [a,b,c] X.env=(false,eval a X.env)::starEach [b,c] X.env:=by exact aY (by rfl))(hs2:starEach [b,c] X.env=(false,eval b X.env)::starEach [c] X.env:=by exact aY (by rfl))(hs3:starEach [c] X.env=(false,eval c X.env)::starEach [] X.env:=by exact aY (by rfl)):XI X tg (.Call (.Name "range" p) [a,b,c] [] pos) (lZ fa fb fc):=⟨zS hg hm ha.out hb.out hc.out hs hs2 hs3⟩
theorem xP{X:L2.Cx}{pos:Pos}{a:Expr}{fa:Ex}{p:Pos}(hm:X.mg "dict"=none)(ha:XE X a fa)(hc:X.calm=true:=by rfl)(hg:L2.Gl X "dict":=by rfl)(hs:starEach [a] X.env=(false,eval a X.env)::starEach [] X.env:=by exact aY (by rfl)):XD X (.Call (.Name "dict" p) [a] [] pos) (e1 gH fa):=⟨zx hc hg hm ha.out hs⟩
theorem CC{X:L2.Cx}{e:Expr}{f:Ex}(he:XD X e f)(hl:∀ρ d,f ρ=.ok d→∃ks ds,d=.aD ks ds):XE X e f:=⟨An he.out hl⟩
theorem mZ{X:L2.Cx}{e:Expr}{f:Ex}(h:XE X e f):XX X e (xD f):=⟨vq h.out⟩
theorem t5{X:L2.Cx}{e:Expr}{f:Ex}(h:XF X e f):XX X e (xF f):=⟨vm h.out⟩
theorem iX{X:L2.Cx}:ko X [] (cG []):=⟨zw ⟩
theorem eX{X:L2.Cx}{e:Expr}{es:List Expr}{f:Xt}{fs:List Xt}(h1:XX X e f)(h2:ko X es (cG fs))(hs:starEach (e::es) X.env=(false,eval e X.env)::starEach es X.env:=by exact aY (by rfl)):ko X (e::es) (cG (f::fs)):=⟨v5 h1.out h2.out hs⟩
theorem kq{X:L2.Cx}{pos:Pos}{es:List Expr}{fs:List Xt}(h:ko X es (cG fs))(hl:fs.length≤1000:=by decide):XX X (.List es pos) (xL fs):=⟨zU h.out hl⟩
theorem q8{X:L2.Cx}{pos:Pos}:XX X (.Dict [] [] pos) js:=⟨vE ⟩
theorem Bt{X:L2.Cx}{pos:Pos}{es:List Expr}{fs:List Xt}{b:Expr}{fb:Ex}{p2:Pos}(h:ko X es (cG fs))(hb:XE X b fb)(hl:fs.length≤1000:=by decide)(hs:L2.fu b:=by exact lQ (by rfl)):XX X (.Subscript (.List es p2) b pos) (j7 fs fb):=⟨xi h.out hb.out hl hs⟩
theorem qI{X:L2.Cx}{pos:Pos}(i:Nat){x:Str}{e:Expr}{f:Xt}{p2:Pos}(hN:X.N.Nodup)(he:XX X e f)(hi:X.N[i]? =some x:=by rfl)(hx:L2.Loc X.env.scope x:=by exact Or.inl rfl)(hf:X.fn x=true∨X.env.scope.names.lookup x=some .local:=by exact .inl rfl)(hs:swapsWith e (some (.Name x p2)) pos.line X.env=pure false:=by exact dP (by rfl)):XS X (.Assign [.Name x p2] e pos) (jB i f):=⟨yO i hN he.out hi hx hf hs⟩
theorem oI{X:L2.Cx}{pos:Pos}(i:Nat){x:Str}(hN:X.N[i]? =some x:=by rfl)(hv:L2.aZ X.env.scope x:=by exact Or.inl rfl)(hd:(x==("__debug__":Str))=false:=by decide)(hcd:(x==("__classdict__":Str))=false:=by decide):XL X i (.Name x pos) pN:=⟨Af i hN hv hd hcd⟩
theorem lD{X:L2.Cx}{pos:Pos}{i:Nat}{a b:Expr}{f:Pt}{fb:Ex}(ha:XL X i a f)(hb:XE X b fb)(hs:L2.fu b:=by exact lQ (by rfl)):XL X i (.Subscript a b pos) (pI i f fb):=⟨BZ ha.out hb.out hs⟩
theorem xQ{X:L2.Cx}{pos:Pos}(j:Nat)(i:Nat){x:Str}{e:Expr}{f:Pt}{p2:Pos}(hN:X.N.Nodup)(he:XL X i e f)(hi:X.N[j]? =some x:=by rfl)(hx:L2.Loc X.env.scope x:=by exact Or.inl rfl)(hf:X.fn x=true∨X.env.scope.names.lookup x=some .local:=by exact .inl rfl)(hs:swapsWith e (some (.Name x p2)) pos.line X.env=pure false:=by exact dP (by rfl)):XS X (.Assign [.Name x p2] e pos) (jS j i f):=⟨vh j i hN he.out hi hx hf hs⟩
theorem n8{X:L2.Cx}{pos:Pos}(j:Nat){x:Str}{p p2:Pos}(hm:X.mg "len"=none)(hg:L2.Gl X "len":=by rfl)(hN:X.N[j]? =some x:=by rfl)(hv:L2.aZ X.env.scope x:=by exact Or.inl rfl)(hd:(x==("__debug__":Str))=false:=by decide)(hcd:(x==("__classdict__":Str))=false:=by decide)(hs:starEach [.Name x p2] X.env=(false,eval (.Name x p2) X.env)::starEach [] X.env:=by exact aY (by rfl)):XE X (.Call (.Name "len" p) [.Name x p2] [] pos) (fq j):=⟨zl j hg hm hN hv hd hcd hs⟩
theorem qN{X:L2.Cx}{pos:Pos}(i:Nat){x:Str}{p p2:Pos}(hm:X.mg "len"=none)(hg:L2.Gl X "len":=by rfl)(hN:X.N[i]? =some x:=by rfl)(hv:L2.aZ X.env.scope x:=by exact Or.inl rfl)(hd:(x==("__debug__":Str))=false:=by decide)(hcd:(x==("__classdict__":Str))=false:=by decide)(hs:starEach [.Name x p2] X.env=(false,eval (.Name x p2) X.env)::starEach [] X.env:=by exact aY (by rfl)):XE X (.Call (.Name "len" p) [.Name x p2] [] pos) (gI i):=⟨yY i hg hm hN hv hd hcd hs⟩
theorem vX{X:L2.Cx}{pos:Pos}(j:Nat){x:Str}{l:Expr}{fl:Ex}{p2:Pos}(hl:XE X l fl)(hN:X.N[j]? =some x:=by rfl)(hv:L2.aZ X.env.scope x:=by exact Or.inl rfl)(hd:(x==("__debug__":Str))=false:=by decide)(hcd:(x==("__classdict__":Str))=false:=by decide):XT X (.Compare l [.NotIn] [.Name x p2] pos) (tV (gh true j fl)):=⟨xY j hl.out hN hv hd hcd⟩
theorem Cg{X:L2.Cx}{pos:Pos}(j:Nat){x:Str}{e k:Expr}{f g:Ex}{p2 p3:Pos}(hu:X.A.units+64<cLine)(hk:XE X k g)(he:XE X e f)(hN:X.N[j]? =some x:=by rfl)(hv:L2.aZ X.env.scope x:=by exact Or.inl rfl)(hd:(x==("__debug__":Str))=false:=by decide)(hcd:(x==("__classdict__":Str))=false:=by decide)(hs:swapsWith e (some (.Subscript (.Name x p2) k p3)) pos.line X.env=pure false:=by exact dP (by rfl)):XS X (.Assign [.Subscript (.Name x p2) k p3] e pos) (j1 j g f):=⟨CF j hu hk.out he.out hN hv hd hcd hs⟩
theorem Bc{X:L2.Cx}{pos:Pos}(i:Nat){x:Str}{e:Expr}{f:Xt}{p2 apos cpos:Pos}(he:XX X e f)(hN:X.N[i]? =some x:=by rfl)(hv:L2.aZ X.env.scope x:=by exact Or.inl rfl)(hd:(x==("__debug__":Str))=false:=by decide)(hcd:(x==("__classdict__":Str))=false:=by decide)(hbase:attributeBase (.Name x p2) "append" X.env (eval (.Name x p2) X.env)=eval (.Name x p2) X.env:=by exact kZ)(hfew:((backTo cpos (starEach [e] X.env)).all (fun x=> !x.1)&&(backToKw cpos (keywordEach [] X.env)).all (fun x=>x.1.isSome)&&decide (([e]:List Expr).length+([]:List Keyword).length+(if([]:List Keyword).isEmpty then 0 else 1)<30))=true:=by exact iR (by rfl) (by decide))(hline:(apos.endLine==cpos.line)=true:=by rfl)(hs:starEach [e] X.env=(false,eval e X.env)::starEach [] X.env:=by exact aY (by rfl))(hsw:swapsWith (.Call (.Attribute (.Name x p2) "append" apos) [e] [] cpos) none pos.line X.env=pure false:=by exact dP (by rfl)):XS X (.Expr (.Call (.Attribute (.Name x p2) "append" apos) [e] [] cpos) pos) (kJ i f):=⟨xR i he.out hN hv hd hcd hbase hfew hline hs hsw⟩
theorem yp{X:L2.Cx}(i:Nat){rest:List Stmt}{fs:List Sm}(h:dZ X rest (aw fs)):dZ X rest (aw (mz i::fs)):=⟨zm i h.out⟩
theorem qL{X:L2.Cx}(i:Nat){e:Expr}{f:Ex}(h:XE X e f):XE X e (g9 i f):=⟨C8 i h.out⟩
theorem w9{X:L2.Cx}{pos:Pos}(i:Nat){o:Expr}{f:Pt}{apos cpos:Pos}(ho:XL X i o f)(hbase:attributeBase o "clear" X.env (eval o X.env)=eval o X.env)(hline:(apos.endLine==cpos.line)=true:=by rfl)(hsw:swapsWith (.Call (.Attribute o "clear" apos) [] [] cpos) none pos.line X.env=pure false:=by exact dP (by rfl)):XS X (.Expr (.Call (.Attribute o "clear" apos) [] [] cpos) pos) (lH i f):=⟨Co i ho.out hbase hline hsw⟩
theorem uR{X:L2.Cx}{pos:Pos}(i:Nat){o e:Expr}{f:Pt}{g:Ex}{apos cpos:Pos}(ho:XL X i o f)(he:XE X e g)(hbase:attributeBase o "append" X.env (eval o X.env)=eval o X.env)(hfew:((backTo cpos (starEach [e] X.env)).all (fun x=> !x.1)&&(backToKw cpos (keywordEach [] X.env)).all (fun x=>x.1.isSome)&&decide (([e]:List Expr).length+([]:List Keyword).length+(if([]:List Keyword).isEmpty then 0 else 1)<30))=true:=by exact iR (by rfl) (by decide))(hline:(apos.endLine==cpos.line)=true:=by rfl)(hs:starEach [e] X.env=(false,eval e X.env)::starEach [] X.env:=by exact aY (by rfl))(hsw:swapsWith (.Call (.Attribute o "append" apos) [e] [] cpos) none pos.line X.env=pure false:=by exact dP (by rfl)):XS X (.Expr (.Call (.Attribute o "append" apos) [e] [] cpos) pos) (mH i f g):=⟨x6 i ho.out he.out hbase hfew hline hs hsw⟩
theorem mT{X:L2.Cx}{pos:Pos}(tn:List Str)(fv:List Str)(fvi:List Nat){elt iter target:Expr}{ifs:List Expr}{scope:Scope}{it:bj}{tg:bo}{cs:List aJ}{el:Ex}(ok:ij X scope tn fv fvi)(hi:XI X target iter it)(ht:∀cl C s H fp,XG (cw X scope cl C (tn++fv) s H fp) target tg)(hcs:∀cl C s H fp,iV (cw X scope cl C (tn++fv) s H fp) ifs cs)(hel:∀cl C s H fp,XE (cw X scope cl C (tn++fv) s H fp) elt el)(hxe:∀e s,¬X.xe e s:=by exact fun _ _ h=>h)(hc:X.calm=true:=by rfl)(low:gx tn.length tg:=by first|exact o8 (by decide)|exact zk (by decide))(hs:∀x,foldedSetIterable iter X.env x=pure x:=by exact lN (by rfl)):XF X (.ListComp elt [⟨target,iter,ifs,0⟩] scope pos) (cD it tn.length fvi tg cs el):=
 ⟨B6 tn fv fvi hxe hc ok hi.out low (fun cl C s H fp=>(ht cl C s H fp).out) (fun cl C s H fp=>(hcs cl C s H fp).out) (fun cl C s H fp=>(hel cl C s H fp).out) hs⟩
theorem oZ{X:L2.Cx}{e:Expr}{it:bj}{n:Nat}{fv:List Nat}{tg:bo}{cs:List aJ}{el:Ex}(h:XF X e (cD it n fv tg cs el)):XE X e (cD it n fv tg cs el):=⟨p8 h.out pj⟩
theorem zB{X:L2.Cx}{pos py spos:Pos}{y:Str}(i:Nat)(tn:List Str)(fv:List Str)(fvi:List Nat){elt iter target:Expr}{ifs:List Expr}{scope:Scope}{it:bj}{tg:bo}{cs:List aJ}{el:Ex}(ok:ij X scope tn fv fvi)(hi:XI X target iter it)(ht:∀cl C s H fp,XG (cw X scope cl C (tn++fv) s H fp) target tg)(hcs:∀cl C s H fp,iV (cw X scope cl C (tn++fv) s H fp) ifs cs)(hel:∀cl C s H fp,XE (cw X scope cl C (tn++fv) s H fp) elt el)(hN:X.N.Nodup)(hxe:∀e s,¬X.xe e s:=by exact fun _ _ h=>h)(hc:X.calm=true:=by rfl)(low:gx tn.length tg:=by exact o8 (by decide))(hs:∀x,foldedSetIterable iter X.env x=pure x:=by exact lN (by rfl))(hy:X.N[i]? =some y:=by rfl)(hx:L2.Loc X.env.scope y:=by exact Or.inl rfl)(hf:X.fn y=true∨X.env.scope.names.lookup y=some .local:=by exact .inl rfl)(hsw:swapsWith (.ListComp elt [⟨target,iter,ifs,0⟩] scope pos) (some (.Name y py)) spos.line X.env=pure true:=by rfl):XS X (.Assign [.Name y py] (.ListComp elt [⟨target,iter,ifs,0⟩] scope pos) spos) (aR (ar i) (cD it tn.length fvi tg cs el)):=
 ⟨vz i (tU i tn fv fvi hxe hc ok hi.out low (fun cl C s H fp=>(ht cl C s H fp).out) (fun cl C s H fp=>(hcs cl C s H fp).out) (fun cl C s H fp=>(hel cl C s H fp).out) hs hN hy hx hf hsw) pj⟩
theorem xX{X:L2.Cx}{pos py spos:Pos}{y:Str}(i:Nat)(tn:List Str)(fv:List Str)(fvi:List Nat){elt iter target:Expr}{ifs:List Expr}{scope:Scope}{it:bj}{tg:bo}{cs:List aJ}{el:Ex}(ok:ij X scope tn fv fvi)(hi:XI X target iter it)(ht:∀cl C s H fp,XG (cw X scope cl C (tn++fv) s H fp) target tg)(hcs:∀cl C s H fp,iV (cw X scope cl C (tn++fv) s H fp) ifs cs)(hel:∀cl C s H fp,XE (cw X scope cl C (tn++fv) s H fp) elt el)(hN:X.N.Nodup)(hxe:∀e s,¬X.xe e s:=by exact fun _ _ h=>h)(hc:X.calm=true:=by rfl)(low:gx tn.length tg:=by exact o8 (by decide))(hs:∀x,foldedSetIterable iter X.env x=pure x:=by exact lN (by rfl))(hy:X.N[i]? =some y:=by rfl)(hx:L2.Loc X.env.scope y:=by exact Or.inl rfl)(hf:X.fn y=true∨X.env.scope.names.lookup y=some .local:=by exact .inl rfl)(hsw:swapsWith (.ListComp elt [⟨target,iter,ifs,0⟩] scope pos) (some (.Name y py)) spos.line X.env=pure true:=by rfl):XS X (.Assign [.Name y py] (.ListComp elt [⟨target,iter,ifs,0⟩] scope pos) spos) (dw i (cD it tn.length fvi tg cs el)):=
 ⟨vO i (tU i tn fv fvi hxe hc ok hi.out low (fun cl C s H fp=>(ht cl C s H fp).out) (fun cl C s H fp=>(hcs cl C s H fp).out) (fun cl C s H fp=>(hel cl C s H fp).out) hs hN hy hx hf hsw)⟩
theorem ju{X:L2.Cx}:iV X [] []:=⟨.nil⟩
theorem p7{X:L2.Cx}{e:Expr}{es:List Expr}{c:aJ}{cs:List aJ}(h:XT X e c)(r:iV X es cs):iV X (e::es) (c::cs):=⟨.cons h.out r.out⟩
end PL
namespace PL
namespace fB
open PySem PySem.Spec
open L2 (Hp XK)
section
variable{P:Program}{w:World}{K:PySem.W.Frag}{mg:Str→Option Value}{base:Heap}{f:Addr}{fd:FuncData}
noncomputable def top(i:Nat):Stmt:=PySem.Challenge.pw_underfloor_k36_maps.main.body.getD i (.Pass ⟨0,0,0,0⟩)
noncomputable abbrev i6:Stmt:=top 9
theorem w4:L2.bE ["_law_script","_law_k"] ["_law_script","_law_k"] (L2.aC i6):=⟨rfl,rfl,rfl,by decide+kernel,rfl,by decide+kernel,by decide+kernel⟩
theorem zY(Fu:L2.bx K "_law_cell_at" "_law_cell_at" i6 f fd)(hm:mg "_law_cell_at"=some (.ref f))(mg_len:mg "len"=none):Df P w K mg base "_law_cell_at" 1 2 gE:=by
 have sc:=w4
 refine cQ (k:=0) Fu hm sc (Fu.binds (ps:=["_law_script","_law_k"]) fun _ _ _ _ _ _ us hl=>match us,hl with|[_,_],_=>rfl) (fun cdv A outer s H E hr=>?_)
 exact((aq (eQ (da L2.ly mY oH (ae 1) (dA eE eB mg_len cV (ae 0))) (bN (bP (cW (ae 0) (ae 1)))) eP) (aq (bP ag) b6))).out
noncomputable abbrev je:Stmt:=top 10
theorem vL:L2.bE ["_law_cell","_law_most","_law_by","_law_k"] ["_law_cell"] (L2.aC je):=⟨rfl,rfl,rfl,by decide+kernel,rfl,by decide+kernel,by decide+kernel⟩
theorem vG(Fu:L2.bx K "_law_digits" "_law_digits" je f fd)(hm:mg "_law_digits"=some (.ref f))(mg_range:mg "range"=none):Df P w K mg base "_law_digits" 1 1 ia:=by
 have sc:=vL
 refine cQ (k:=0) Fu hm sc (Fu.binds (ps:=["_law_cell"]) fun _ _ _ _ _ _ us hl=>match us,hl with|[_],_=>rfl) (fun cdv A outer s H E hr=>?_)
 exact((aq (bb (aj fF fk ag ag) (aG 1 sc.nd)) (aq (bb (aj fF fk ag ag) (aG 2 sc.nd)) (aq (dg (f:=dk) (fR mg_range ag) (aG 3 sc.nd) (by delta dk;exact(aq (bb (aj dH dG (ae 1) (ae 1)) (aG 1 sc.nd)) (aq (bb (aj dH dG (ae 2) (ae 2)) (aG 2 sc.nd)) b6)))) (aq (bP (aj dH dG (aj bh br (aj bh br (aj L2.cx cz (aj cu cm (ae 0) (aj fF fk ag ag)) (ae 1)) (aj L2.cx cz (ae 0) (aj fF fk ag ag))) ag) (ae 2))) b6))))).out
noncomputable abbrev iU:Stmt:=top 13
theorem C1:L2.bE ["_law_number"] ["_law_number"] (L2.aC iU):=⟨rfl,rfl,rfl,by decide+kernel,rfl,by decide+kernel,by decide+kernel⟩
theorem uh(Fu:L2.bx K "_law_name" "_law_name" iU f fd)(hm:mg "_law_name"=some (.ref f)):Df P w K mg base "_law_name" 1 1 kQ:=by
 have sc:=C1
 refine cQ (k:=0) Fu hm sc (Fu.binds (ps:=["_law_number"]) fun _ _ _ _ _ _ us hl=>match us,hl with|[_],_=>rfl) (fun cdv A outer s H E hr=>?_)
 exact((bN (bP (cW (eU (ay (aj bh br ag (aj L2.cx cz (aj cu cm (ae 0) ag) ag)) (ay (aj bh br ag (aj L2.cx cz (aj cu cm (ae 0) ag) (aj L2.fI fz (aj fF fk ag ag) ag))) (ay (aj L2.fI fz (aj L2.fI fz (aj fF fk ag ag) ag) (aj L2.cx cz (aj cu cm (ae 0) ag) ag)) aI)))) (aj L2.cx cz (ae 0) ag))))).out
noncomputable abbrev jv:Stmt:=top 12
theorem BJ:L2.bE ["_law_number","_law_many","_law_words_here","_law_k"] ["_law_number","_law_many"] (L2.aC jv):=⟨rfl,rfl,rfl,by decide+kernel,rfl,by decide+kernel,by decide+kernel⟩
theorem BN(Fu:L2.bx K "_law_words" "_law_words" jv f fd)(hm:mg "_law_words"=some (.ref f))(mg_range:mg "range"=none):Df P w K mg base "_law_words" 1 2 j2:=by
 have sc:=BJ
 refine cQ (k:=0) Fu hm sc (Fu.binds (ps:=["_law_number","_law_many"]) fun _ _ _ _ _ _ us hl=>match us,hl with|[_,_],_=>rfl) (fun cdv A outer s H E hr=>?_)
 exact((aq (hW 2 sc.nd (kF aI)) (aq (dg (f:=jq) (fR mg_range (ae 1)) (aG 3 sc.nd) (by delta jq;exact(aq (sr 2 (aj L2.cx cz (ae 0) (aj fF fk ag ag))) (aq (bb (aj cu cm (ae 0) (aj fF fk ag ag)) (aG 0 sc.nd)) b6)))) (jz 2 (aq (bP (ae 2)) b6))))).out
noncomputable abbrev jL:Stmt:=top 14
theorem BQ:L2.bE ["_law_kind","_law_many"] ["_law_kind","_law_many"] (L2.aC jL):=⟨rfl,rfl,rfl,by decide+kernel,rfl,by decide+kernel,by decide+kernel⟩
theorem xn(Fu:L2.bx K "_law_wants" "_law_wants" jL f fd)(hm:mg "_law_wants"=some (.ref f)):Df P w K mg base "_law_wants" 1 2 dO:=by
 have sc:=BQ
 refine cQ (k:=0) Fu hm sc (Fu.binds (ps:=["_law_kind","_law_many"]) fun _ _ _ _ _ _ us hl=>match us,hl with|[_,_],_=>rfl) (fun cdv A outer s H E hr=>?_)
 exact((bN (bP (aj cu cm (aj bh br (aj dH dG (ae 0) (ae 1)) ag) ag)))).out
noncomputable abbrev jl:Stmt:=top 15
theorem zb:L2.bE ["_law_cells","_law_room","_law_nodes_here","_law_folders","_law_cell","_law_number","_law_folder","_law_name_here","_law_words_here","_law_more"] ["_law_cells","_law_room"] (L2.aC jl):=⟨rfl,rfl,rfl,by decide+kernel,rfl,by decide+kernel,by decide+kernel⟩
theorem wd(Fu:L2.bx K "_law_nodes" "_law_nodes" jl f fd)(hm:mg "_law_nodes"=some (.ref f))(mg_int:mg "int"=none)(mg_len:mg "len"=none)(df_law_digits:Df P w K mg base "_law_digits" 1 1 ia)(df_law_name:Df P w K mg base "_law_name" 1 1 kQ)(df_law_words:Df P w K mg base "_law_words" 1 2 j2)(df_law_wants:Df P w K mg base "_law_wants" 1 2 dO):Df P w K mg base "_law_nodes" 2 2 j8:=by
 have sc:=zb
 refine cQ (k:=1) Fu hm sc (Fu.binds (ps:=["_law_cells","_law_room"]) fun _ _ _ _ _ _ us hl=>match us,hl with|[_,_],_=>rfl) (fun cdv A outer s H E hr=>?_)
 exact((aq (qI 2 sc.nd (kq (eX (kq (eX (mZ ag) (eX q8 iX))) iX))) (aq (hW 3 sc.nd (kF (ay ag aI))) (aq (dg (f:=jH) (kA (ae 0)) (aG 4 sc.nd) (by delta jH;exact(aq (bb (bg df_law_digits hr (ay (ae 4) aI)) (aG 5 sc.nd)) (aq (xQ 6 2 sc.nd (lD (lD (oI 2) (z7 3 (aj L2.cx cz (ae 5) (gA 3 mg_len)))) ag)) (aq (bb (aj cu cm (ae 5) (gA 3 mg_len)) (aG 5 sc.nd)) (aq (bb (bg df_law_name hr (ay (ae 5) aI)) (aG 7 sc.nd)) (aq (bb (aj cu cm (ae 5) (aj dH dG ag (aj fF fk ag ag))) (aG 5 sc.nd)) (aq (bb (bg df_law_words hr (ay (aj cu cm (ae 5) (aj dH dG ag ag)) (ay (aj L2.cx cz (aj cu cm (ae 5) ag) ag) aI))) (aG 8 sc.nd)) (aq (bb (aj L2.fI fz (aj bh br ag (bg df_law_wants hr (ay ag (ay (aj bh br (n8 6 mg_len) ag) aI)))) (bg df_law_wants hr (ay ag (ay (n8 6 mg_len) aI)))) (aG 9 sc.nd)) (aq (eQ (da L2.yl CT vw (aj L2.cx cz (ae 5) ag) ag) (bN (bb (aj bh br (ae 9) (bg df_law_wants hr (ay ag (ay (dA eE eB mg_len cV (ae 8)) aI)))) (aG 9 sc.nd))) eP) (aq (eQ (ka (pS (vX 6 (ae 7)) (pS (da L2.ly mY oH (n8 6 mg_len) ag) (vK (da L2.Ar CP u3 (ae 9) (ae 1)))))) (aq (bb (aj L2.fI fz (ae 1) (ae 9)) (aG 1 sc.nd)) (aq (Cg 6 hr.units (ae 7) (qN 2 mg_len)) (aq (eQ (da (gK hr.units) gO kP (aj L2.cx cz (ae 5) ag) ag) (bN (sr 3 (qN 2 mg_len))) eP) (aq (Bc 2 (Bt (eX (kq (eX (mZ ag) (eX (mZ (ae 8)) iX))) (eX (kq (eX (mZ ag) (eX q8 iX))) iX)) (jG L2.sf ua mg_int nA (mJ (gK hr.units) gO (aj L2.cx cz (ae 5) ag) ag)))) b6)))) eP) b6))))))))))) (yp 2 (aq (bP (ae 2)) b6)))))).out
noncomputable abbrev hX:Stmt:=top 16
theorem zQ:L2.bE ["_law_nodes_here","_law_many","_law_number","_law_root","_law_free","_law_heads","_law_k","_law_model_here","_law_kind","_law_content","_law_parts","_law_j"] ["_law_nodes_here","_law_many","_law_number"] (L2.aC hX):=⟨rfl,rfl,rfl,by decide+kernel,rfl,by decide+kernel,by decide+kernel⟩
theorem Bp(Fu:L2.bx K "_law_model" "_law_model" hX f fd)(hm:mg "_law_model"=some (.ref f))(mg_dict:mg "dict"=none)(mg_len:mg "len"=none)(mg_list:mg "list"=none)(mg_range:mg "range"=none)(df_law_wants:Df P w K mg base "_law_wants" 1 2 dO):Df P w K mg base "_law_model" 2 3 lu:=by
 have sc:=zQ
 refine cQ (k:=1) Fu hm sc (Fu.binds (ps:=["_law_nodes_here","_law_many","_law_number"]) fun _ _ _ _ _ _ us hl=>match us,hl with|[_,_,_],_=>rfl) (fun cdv A outer s H E hr=>?_)
 exact((aq (bb (aj bh br ag (aj cu cm (aj bh br (ae 1) ag) ag)) (aG 3 sc.nd)) (aq (hW 4 sc.nd (uC mg_list mg_range (aj bh br (ae 3) ag) (ae 1))) (aq (hW 5 sc.nd (kF (ay (ae 3) aI))) (aq (dg (f:=jR) (p9 mg_range ag (dA eE eB mg_len cV (ae 0))) (aG 6 sc.nd) (by delta jR;exact(aq (sC 5 4 (aj L2.cx cz (ae 2) (gA 4 mg_len))) (aq (bb (aj cu cm (ae 2) (aj bh br (gA 4 mg_len) ag)) (aG 2 sc.nd)) b6)))) (aq (wc 7 sc.nd) (jz 5 (aq (dg (f:=jr) (fR mg_range (dA eE eB mg_len cV (ae 0))) (aG 6 sc.nd) (by delta jr;exact(aq (bb (cW (ae 0) (ae 6)) (oF (gm 8 (aG 8 sc.nd) (gm 9 (aG 9 sc.nd) mP)) kK)) (aq (hW 10 sc.nd (kF aI)) (aq (dg (f:=i8) (fR mg_range (bg df_law_wants hr (ay (ae 8) (ay (dA sF qC mg_len cV (ae 9)) aI)))) (aG 11 sc.nd) (by delta i8;exact(aq (sC 10 4 (aj L2.cx cz (ae 2) (gA 4 mg_len))) (aq (bb (aj cu cm (ae 2) (aj bh br (gA 4 mg_len) ag)) (aG 2 sc.nd)) b6)))) (aq (eQ (da (gK hr.units) gO kP (ae 8) ag) (bN (bb (CC (xP mg_dict (oZ (mT ["_law_name_here"] ["_law_heads","_law_content"] [5,9] (jw (L2.aC hX) ["_law_nodes_here","_law_many","_law_number","_law_root","_law_free","_law_heads","_law_k","_law_model_here","_law_kind","_law_content","_law_parts","_law_j"] (by rfl) (by rfl) (by decide+kernel)) (m8 (ae 9)) (fun cl C s H fp=>by exact(aG 0 (show List.Nodup (["_law_name_here","_law_heads","_law_content"]:List Str)from by decide+kernel))) (fun cl C s H fp=>by exact ju) (fun cl C s H fp=>by exact(Bo (ay (ae 0) (ay (cW (ae 1) (cW (ae 2) (ae 0))) aI))))))) Ct) (aG 9 sc.nd))) eP) (jz 10 (aq (Ao 7 hr.units (cW (ae 5) (ae 6)) (eU (ay (ae 8) (ay (ae 9) (ay (ae 10) aI))))) b6)))))))) (jz 7 (aq (bP (ae 7)) b6)))))))))).out
noncomputable abbrev iE:Stmt:=top 11
theorem ur:L2.bE ["_law_words_here"] ["_law_words_here"] (L2.aC iE):=⟨rfl,rfl,rfl,by decide+kernel,rfl,by decide+kernel,by decide+kernel⟩
theorem uY(Fu:L2.bx K "_law_block" "_law_block" iE f fd)(hm:mg "_law_block"=some (.ref f))(mg_len:mg "len"=none)(mg_list:mg "list"=none)(mg_tuple:mg "tuple"=none):Df P w K mg base "_law_block" 1 1 gQ:=by
 have sc:=ur
 refine cQ (k:=0) Fu hm sc (Fu.binds (ps:=["_law_words_here"]) fun _ _ _ _ _ _ us hl=>match us,hl with|[_],_=>rfl) (fun cdv A outer s H E hr=>?_)
 exact((bN (bP (jG L2.si sk mg_tuple sP (aj bh br (jG L2.oa rg mg_list jV (ae 0)) (aj Bs yq (eU (ay ag aI)) (aj L2.fI fz ag (dA eE eB mg_len cV (ae 0))))))))).out
noncomputable abbrev gW:Stmt:=top 18
theorem vU:L2.bE ["_law_model_here","_law_many","_law_marks_here","_law_head","_law_block_here"] ["_law_model_here","_law_many"] (L2.aC gW):=⟨rfl,rfl,rfl,by decide+kernel,rfl,by decide+kernel,by decide+kernel⟩
theorem CJ(Fu:L2.bx K "_law_marks" "_law_marks" gW f fd)(hm:mg "_law_marks"=some (.ref f))(mg_int:mg "int"=none)(mg_range:mg "range"=none):Df P w K mg base "_law_marks" 1 2 fP:=by
 have sc:=vU
 refine cQ (k:=0) Fu hm sc (Fu.binds (ps:=["_law_model_here","_law_many"]) fun _ _ _ _ _ _ us hl=>match us,hl with|[_,_],_=>rfl) (fun cdv A outer s H E hr=>?_)
 exact((aq (xX 2 ["_law_k"] ["_law_many"] [1] (jw (L2.aC gW) ["_law_model_here","_law_many","_law_marks_here","_law_head","_law_block_here"] (by rfl) (by rfl) (by decide+kernel)) (fR mg_range (ae 1)) (fun cl C s H fp=>by exact(aG 0 (show List.Nodup (["_law_k","_law_many"]:List Str)from by decide+kernel))) (fun cl C s H fp=>by exact ju) (fun cl C s H fp=>by exact(jG L2.sf ua mg_int nA (mJ L2.ly mY (ae 0) (aj bh br ag (aj cu cm (aj bh br (ae 1) ag) ag))))) sc.nd) (aq (dg (f:=i4) (m8 (ae 0)) (aG 3 sc.nd) (by delta i4;exact(bN (dg (f:=iO) (kA (aj bh br (eU (ay (ae 3) aI)) (cW (cW (ae 0) (ae 3)) ag))) (aG 4 sc.nd) (by delta iO;exact(bN (lh 2 ag (ae 4) (by delta hZ;intro _;rfl)))))))) (jz 2 (aq (bP (ae 2)) b6))))).out
noncomputable abbrev jm:Stmt:=top 17
theorem yo:L2.bE ["_law_kind","_law_content","_law_data_here","_law_name_here"] ["_law_kind","_law_content"] (L2.aC jm):=⟨rfl,rfl,rfl,by decide+kernel,rfl,by decide+kernel,by decide+kernel⟩
theorem yA(Fu:L2.bx K "_law_data" "_law_data" jm f fd)(hm:mg "_law_data"=some (.ref f))(mg_sorted:mg "sorted"=none):Df P w K mg base "_law_data" 1 2 jC:=by
 have sc:=yo
 refine cQ (k:=0) Fu hm sc (Fu.binds (ps:=["_law_kind","_law_content"]) fun _ _ _ _ _ _ us hl=>match us,hl with|[_,_],_=>rfl) (fun cdv A outer s H E hr=>?_)
 exact((aq (eQ (da (gK hr.units) gO kP (ae 0) ag) (bN (bP (ae 1))) eP) (aq (bb (eU aI) (aG 2 sc.nd)) (aq (dg (f:=jM) (kA (dA (wM rfl) AN mg_sorted xN (ae 1))) (aG 3 sc.nd) (by delta jM;exact(bN (bb (aj bh br (ae 2) (eU (ay (ae 3) (ay (cW (ae 1) (ae 3)) aI)))) (aG 2 sc.nd))))) (aq (bP (ae 2)) b6))))).out
noncomputable abbrev iW:Stmt:=top 19
theorem Cu:L2.bE ["_law_model_here","_law_base_here","_law_floor","_law_marks_here","_law_k","_law_head","_law_kind","_law_content","_law_parts","_law_data_here"] ["_law_model_here","_law_base_here"] (L2.aC iW):=⟨rfl,rfl,rfl,by decide+kernel,rfl,by decide+kernel,by decide+kernel⟩
theorem xB(Fu:L2.bx K "_law_laid" "_law_laid" iW f fd)(hm:mg "_law_laid"=some (.ref f))(mg_len:mg "len"=none)(mg_list:mg "list"=none)(mg_range:mg "range"=none)(df_law_block:Df P w K mg base "_law_block" 1 1 gQ)(df_law_marks:Df P w K mg base "_law_marks" 1 2 fP)(df_law_data:Df P w K mg base "_law_data" 1 2 jC):Df P w K mg base "_law_laid" 2 2 jN:=by
 have sc:=Cu
 refine cQ (k:=1) Fu hm sc (Fu.binds (ps:=["_law_model_here","_law_base_here"]) fun _ _ _ _ _ _ us hl=>match us,hl with|[_,_],_=>rfl) (fun cdv A outer s H E hr=>?_)
 exact((aq (hW 2 sc.nd (p6 mg_list (ae 1))) (aq (lh 2 (bg df_law_block hr (ay (eU aI) aI)) ag (by delta hZ;intro _;rfl)) (aq (bb (bg df_law_marks hr (ay (ae 0) (ay (gA 2 mg_len) aI))) (aG 3 sc.nd)) (aq (dg (f:=jb) (uz mg_range ag (gA 2 mg_len) ag) (aG 4 sc.nd) (by delta jb;exact(bN (lh 2 (bg df_law_block hr (ay (mx (ae 3) (fV (ae 4)) (fV (aj bh br (ae 4) ag))) aI)) (aj bh br ag (aj cu cm (ae 4) ag)) (by delta hZ;intro _;rfl))))) (aq (dg (f:=jA) (m8 (ae 0)) (aG 5 sc.nd) (by delta jA;exact(aq (bb (cW (ae 0) (ae 5)) (oF (gm 6 (aG 6 sc.nd) (gm 7 (aG 7 sc.nd) (gm 8 (aG 8 sc.nd) mP))) kK)) (aq (bb (bg df_law_data hr (ay (ae 6) (ay (ae 7) aI))) (aG 9 sc.nd)) (aq (lh 2 (bg df_law_block hr (ay (aj bh br (eU (ay (ae 6) (ay (dA sF qC mg_len cV (ae 7)) aI))) (ae 8)) aI)) (ae 5) (by delta hZ;intro _;rfl)) (aq (dg (f:=jx) (fR mg_range (dA eE eB mg_len cV (ae 8))) (aG 4 sc.nd) (by delta jx;exact(bN (lh 2 (bg df_law_block hr (ay (mx (ae 9) (fV (aj dH dG ag (ae 4))) (fV (aj bh br (aj dH dG ag (ae 4)) ag))) aI)) (cW (ae 8) (ae 4)) (by delta hZ;intro _;rfl))))) b6)))))) (jz 2 (aq (bP (ae 2)) b6)))))))).out
noncomputable abbrev iA:Stmt:=top 20
theorem Cs:L2.bE ["_law_cell","_law_many","_law_seed"] ["_law_cell","_law_many"] (L2.aC iA):=⟨rfl,rfl,rfl,by decide+kernel,rfl,by decide+kernel,by decide+kernel⟩
theorem wA(Fu:L2.bx K "_law_base" "_law_base" iA f fd)(hm:mg "_law_base"=some (.ref f))(mg_range:mg "range"=none)(mg_tuple:mg "tuple"=none):Df P w K mg base "_law_base" 1 2 iY:=by
 have sc:=Cs
 refine cQ (k:=0) Fu hm sc (Fu.binds (ps:=["_law_cell","_law_many"]) fun _ _ _ _ _ _ us hl=>match us,hl with|[_,_],_=>rfl) (fun cdv A outer s H E hr=>?_)
 exact((aq (bb (aj bh br (aj L2.cx cz (ae 0) (aj fF fk ag ag)) ag) (aG 2 sc.nd)) (aq (bP (oZ (mT ["_law_k"] ["_law_seed"] [2] (jw (L2.aC iA) ["_law_cell","_law_many","_law_seed"] (by rfl) (by rfl) (by decide+kernel)) (fR mg_range (ae 1)) (fun cl C s H fp=>by exact(aG 0 (show List.Nodup (["_law_k","_law_seed"]:List Str)from by decide+kernel))) (fun cl C s H fp=>by exact ju) (fun cl C s H fp=>by exact(jG L2.si sk mg_tuple sP (oZ (mT ["_law_j"] ["_law_seed","_law_k"] [1,0] (jw (({kind:=.function,names:=[(".0",.local),("_law_k",.cell),("tuple",.globalImplicit),("range",.globalImplicit),("_law_seed",.cell)],isGenerator:=false,isCoroutine:=false}:Scope)) ["_law_k","_law_seed"] (by rfl) (by rfl) (by decide+kernel)) (fR mg_range ag) (fun cl C s H fp=>by exact(aG 0 (show List.Nodup (["_law_j","_law_seed","_law_k"]:List Str)from by decide+kernel))) (fun cl C s H fp=>by exact ju) (fun cl C s H fp=>by exact(aj L2.cx cz (aj dH dG (aj dH dG (ae 1) (aj bh br (aj bh br (aj dH dG ag (ae 2)) (ae 0)) ag)) ag) ag))))))))) b6))).out
noncomputable abbrev iQ:Stmt:=top 21
theorem xG:L2.bE ["_law_script","_law_first","_law_many","_law_root","_law_nodes_here","_law_model_here"] ["_law_script"] (L2.aC iQ):=⟨rfl,rfl,rfl,by decide+kernel,rfl,by decide+kernel,by decide+kernel⟩
theorem wb(Fu:L2.bx K "_law_drawn" "_law_drawn" iQ f fd)(hm:mg "_law_drawn"=some (.ref f))(df_law_cell_at:Df P w K mg base "_law_cell_at" 1 2 gE)(df_law_nodes:Df P w K mg base "_law_nodes" 2 2 j8)(df_law_digits:Df P w K mg base "_law_digits" 1 1 ia)(df_law_model:Df P w K mg base "_law_model" 2 3 lu)(df_law_base:Df P w K mg base "_law_base" 1 2 iY)(df_law_laid:Df P w K mg base "_law_laid" 2 2 jN):Df P w K mg base "_law_drawn" 3 1 kc:=by
 have sc:=xG
 refine cQ (k:=2) Fu hm sc (Fu.binds (ps:=["_law_script"]) fun _ _ _ _ _ _ us hl=>match us,hl with|[_],_=>rfl) (fun cdv A outer s H E hr=>?_)
 exact((aq (bb (bg df_law_cell_at hr (ay (ae 0) (ay ag aI))) (aG 1 sc.nd)) (aq (bb (aj bh br ag (aj L2.cx cz (aj cu cm (ae 1) ag) (cW (eU (ay ag (ay ag (ay ag (ay ag aI))))) (aj L2.cx cz (ae 1) ag)))) (aG 2 sc.nd)) (aq (bb (aj bh br ag (aj cu cm (aj bh br (ae 2) ag) ag)) (aG 3 sc.nd)) (aq (bb (bg df_law_nodes hr (ay (mx (ae 0) (fV ag) (fV ag)) (ay (aj cu cm (aj dH dG (aj L2.fI fz (aj L2.fI fz (ae 2) (ae 3)) ag) (cW (eU (ay ag (ay ag (ay ag (ay ag aI))))) (aj L2.cx cz (aj cu cm (ae 1) ag) ag))) ag) aI))) (aG 4 sc.nd)) (aq (bb (bg df_law_model hr (ay (ae 4) (ay (ae 2) (ay (bg df_law_digits hr (ay (bg df_law_cell_at hr (ay (ae 0) (ay ag aI))) aI)) aI)))) (aG 5 sc.nd)) (aq (bP (eU (ay (ae 5) (ay (bg df_law_laid hr (ay (ae 5) (ay (bg df_law_base hr (ay (bg df_law_cell_at hr (ay (ae 0) (ay ag aI))) (ay (ae 2) aI))) aI))) aI)))) b6))))))).out
noncomputable abbrev jJ:Stmt:=top 3
theorem As:L2.bE ["many"] ["many"] (L2.aC jJ):=⟨rfl,rfl,rfl,by decide+kernel,rfl,by decide+kernel,by decide+kernel⟩
theorem xM(Fu:L2.bx K "map_blocks" "map_blocks" jJ f fd)(hm:mg "map_blocks"=some (.ref f))(gl_PAGE_WORDS:gL P w K mg "PAGE_WORDS" lK):Df P w K mg base "map_blocks" 1 1 gc:=by
 have sc:=As
 refine cQ (k:=0) Fu hm sc (Fu.binds (ps:=["many"]) fun _ _ _ _ _ _ us hl=>match us,hl with|[_],_=>rfl) (fun cdv A outer s H E hr=>?_)
 exact((bN (bP (aj cu cm (aj L2.fI fz (aj bh br (ae 0) (mn gl_PAGE_WORDS)) ag) (mn gl_PAGE_WORDS))))).out
noncomputable abbrev jj:Stmt:=top 4
theorem uU:L2.bE ["floor"] ["floor"] (L2.aC jj):=⟨rfl,rfl,rfl,by decide+kernel,rfl,by decide+kernel,by decide+kernel⟩
theorem vF(Fu:L2.bx K "root_of" "root_of" jj f fd)(hm:mg "root_of"=some (.ref f))(mg_len:mg "len"=none)(gl_FIRST_BLOCK:gL P w K mg "FIRST_BLOCK" iw)(df_map_blocks:Df P w K mg base "map_blocks" 1 1 gc):Df P w K mg base "root_of" 2 1 fO:=by
 have sc:=uU
 refine cQ (k:=1) Fu hm sc (Fu.binds (ps:=["floor"]) fun _ _ _ _ _ _ us hl=>match us,hl with|[_],_=>rfl) (fun cdv A outer s H E hr=>?_)
 exact((bN (bP (aj bh br (mn gl_FIRST_BLOCK) (bg df_map_blocks hr (ay (dA eE eB mg_len cV (ae 0)) aI)))))).out
noncomputable abbrev iZ:Stmt:=top 5
theorem Bz:L2.bE ["floor","words","block"] ["floor"] (L2.aC iZ):=⟨rfl,rfl,rfl,by decide+kernel,rfl,by decide+kernel,by decide+kernel⟩
theorem xV(Fu:L2.bx K "map_words" "map_words" iZ f fd)(hm:mg "map_words"=some (.ref f))(mg_list:mg "list"=none)(gl_FIRST_BLOCK:gL P w K mg "FIRST_BLOCK" iw)(df_root_of:Df P w K mg base "root_of" 2 1 fO):d8 P w K mg base "map_words" 3 1 kS:=by
 have sc:=Bz
 refine nQ (k:=2) Fu hm sc (Fu.binds (ps:=["floor"]) fun _ _ _ _ _ _ us hl=>match us,hl with|[_],_=>rfl) (fun cdv A outer s H E hr=>?_)
 exact((aq (hW 1 sc.nd (kF aI)) (aq (dg (f:=iz) (kA (mx (ae 0) (fV (mn gl_FIRST_BLOCK)) (fV (bg df_root_of hr (ay (ae 0) aI))))) (aG 2 sc.nd) (by delta iz;exact(bN (xJ 1 (p6 mg_list (ae 2)))))) (aq (uA 1) b6)))).out
noncomputable abbrev i9:Stmt:=top 6
theorem AY:L2.bE ["floor"] ["floor"] (L2.aC i9):=⟨rfl,rfl,rfl,by decide+kernel,rfl,by decide+kernel,by decide+kernel⟩
theorem Aa(Fu:L2.bx K "used" "used" i9 f fd)(hm:mg "used"=some (.ref f))(mg_len:mg "len"=none)(df_map_words:d8 P w K mg base "map_words" 3 1 kS):d8 P w K mg base "used" 4 1 eF:=by
 have sc:=AY
 refine nQ (k:=3) Fu hm sc (Fu.binds (ps:=["floor"]) fun _ _ _ _ _ _ us hl=>match us,hl with|[_],_=>rfl) (fun cdv A outer s H E hr=>?_)
 exact((bN (sA (xv (lE df_map_words hr (ay (ae 0) aI)) BR (fV (dA eE eB mg_len cV (ae 0)))) (xc (BM (by rfl)))))).out
noncomputable abbrev ir:Stmt:=top 7
theorem A9:L2.bE ["floor"] ["floor"] (L2.aC ir):=⟨rfl,rfl,rfl,by decide+kernel,rfl,by decide+kernel,by decide+kernel⟩
theorem yS(Fu:L2.bx K "free_blocks" "free_blocks" ir f fd)(hm:mg "free_blocks"=some (.ref f))(mg_enumerate:mg "enumerate"=none)(df_used:d8 P w K mg base "used" 4 1 eF):d8 P w K mg base "free_blocks" 5 1 gz:=by
 have sc:=A9
 refine nQ (k:=4) Fu hm sc (Fu.binds (ps:=["floor"]) fun _ _ _ _ _ _ us hl=>match us,hl with|[_],_=>rfl) (fun cdv A outer s H E hr=>?_)
 exact((bN (sA (mT ["number","mark"] [] [] (jw (L2.aC ir) ["floor"] (by rfl) (by rfl) (by decide+kernel)) (yf mg_enumerate (lE df_used hr (ay (ae 0) aI))) (fun cl C s H fp=>by exact(BD (gm 0 (aG 0 (show List.Nodup (["number","mark"]:List Str)from by decide+kernel)) (gm 1 (aG 1 (show List.Nodup (["number","mark"]:List Str)from by decide+kernel)) mP)) kK)) (fun cl C s H fp=>by exact(p7 (da (gK hr.units) gO kP (ae 1) ag) ju)) (fun cl C s H fp=>by exact(ae 0))) pj))).out
noncomputable abbrev jD:Stmt:=top 22
theorem u5:L2.bE ["_law_thing"] ["_law_thing"] (L2.aC jD):=⟨rfl,rfl,rfl,by decide+kernel,rfl,by decide+kernel,by decide+kernel⟩
theorem zR(Fu:L2.bx K "_law_whole" "_law_whole" jD f fd)(hm:mg "_law_whole"=some (.ref f))(mg_bool:mg "bool"=none)(mg_int:mg "int"=none)(mg_isinstance:mg "isinstance"=none):Df P w K mg base "_law_whole" 1 1 ib:=by
 have sc:=u5
 refine cQ (k:=0) Fu hm sc (Fu.binds (ps:=["_law_thing"]) fun _ _ _ _ _ _ us hl=>match us,hl with|[_],_=>rfl) (fun cdv A outer s H E hr=>?_)
 exact((bN (bP (sx (m5 .int (ae 0) mg_isinstance mg_int nA) (tR (CQ (m5 .bool (ae 0) mg_isinstance mg_bool AR))))))).out
noncomputable abbrev jF:Stmt:=top 23
theorem z6:L2.bE ["_law_found","_law_due","_law_thing"] ["_law_found","_law_due"] (L2.aC jF):=⟨rfl,rfl,rfl,by decide+kernel,rfl,by decide+kernel,by decide+kernel⟩
theorem zp(Fu:L2.bx K "_law_numbers" "_law_numbers" jF f fd)(hm:mg "_law_numbers"=some (.ref f))(mg_isinstance:mg "isinstance"=none)(mg_list:mg "list"=none)(df_law_whole:Df P w K mg base "_law_whole" 1 1 ib):Df P w K mg base "_law_numbers" 2 2 gp:=by
 have sc:=z6
 refine cQ (k:=1) Fu hm sc (Fu.binds (ps:=["_law_found","_law_due"]) fun _ _ _ _ _ _ us hl=>match us,hl with|[_,_],_=>rfl) (fun cdv A outer s H E hr=>?_)
 exact((aq (eQ (ka (il (jK (jo (m5 .list (ae 0) mg_isinstance mg_list jV))) (lG (da (nh hr.units) oP oX (ae 0) (ae 1))))) (bN (bP iG)) eP) (aq (dg (f:=j3) (kA (ae 0)) (aG 2 sc.nd) (by delta j3;exact(bN (eQ (jK (jo (bg df_law_whole hr (ay (ae 2) aI)))) (bN (bP iG)) eP)))) (aq (bP iG) b6)))).out
noncomputable abbrev fw:Stmt:=top 24
theorem CA:L2.bE ["_law_script","_law_model_here","_law_floor","_law_many","_law_found","_law_marks_here","_law_free","_law_handed","_law_root"] ["_law_script"] (L2.aC fw):=⟨rfl,rfl,rfl,by decide+kernel,rfl,by decide+kernel,by decide+kernel⟩
theorem xA(Fu:L2.bx K "law" "law" fw f fd)(hm:mg "law"=some (.ref f))(mg_len:mg "len"=none)(mg_list:mg "list"=none)(mg_range:mg "range"=none)(df_law_drawn:Df P w K mg base "_law_drawn" 3 1 kc)(df_map_blocks:Df P w K mg base "map_blocks" 1 1 gc)(df_law_whole:Df P w K mg base "_law_whole" 1 1 ib)(df_law_marks:Df P w K mg base "_law_marks" 1 2 fP)(df_root_of:Df P w K mg base "root_of" 2 1 fO)(df_used:d8 P w K mg base "used" 4 1 eF)(df_free_blocks:d8 P w K mg base "free_blocks" 5 1 gz)(df_law_numbers:Df P w K mg base "_law_numbers" 2 2 gp):L2.cy P w K mg base L2.de 6 f fd ["_law_script"] (fU ⟨K,P,w⟩ kR 1):=by
 have sc:=CA
 refine sX (k:=5) Fu sc (fun cdv A outer s H E hr=>?_)
 exact((aq (bb (bg df_law_drawn hr (ay (ae 0) aI)) (oF (gm 1 (aG 1 sc.nd) (gm 2 (aG 2 sc.nd) mP)) kK)) (aq (dg (f:=iT) (p9 mg_range ag ag) (aG 3 sc.nd) (by delta iT;exact(aq (bb (bg df_map_blocks hr (ay (ae 3) aI)) (aG 4 sc.nd)) (aq (eQ (ka (il (jK (jo (bg df_law_whole hr (ay (ae 4) aI)))) (il (da L2.ly mY oH (aj dH dG (ae 4) ag) (ae 3)) (lG (da L2.Bh wR yv (aj L2.fI fz (aj dH dG (ae 4) ag) ag) (ae 3)))))) (bN (bP iG)) eP) b6)))) (aq (bb (bg df_law_marks hr (ay (ae 1) (ay (dA eE eB mg_len cV (ae 2)) aI))) (aG 5 sc.nd)) (aq (zB 6 ["_law_number"] ["_law_marks_here"] [5] (jw (L2.aC fw) ["_law_script","_law_model_here","_law_floor","_law_many","_law_found","_law_marks_here","_law_free","_law_handed","_law_root"] (by rfl) (by rfl) (by decide+kernel)) (fR mg_range (dA eE eB mg_len cV (ae 2))) (fun cl C s H fp=>by exact(aG 0 (show List.Nodup (["_law_number","_law_marks_here"]:List Str)from by decide+kernel))) (fun cl C s H fp=>by exact(p7 (da (gK hr.units) gO kP (cW (ae 1) (ae 0)) ag) ju)) (fun cl C s H fp=>by exact(ae 0)) sc.nd) (aq (bb (jG L2.oa rg mg_list jV (ae 2)) (aG 7 sc.nd)) (aq (bb (bg df_root_of hr (ay (ae 7) aI)) (aG 8 sc.nd)) (aq (eQ (ka (il (jK (jo (bg df_law_whole hr (ay (ae 8) aI)))) (il (da (nh hr.units) oP oX (ae 8) (aj bh br ag (bg df_map_blocks hr (ay (dA eE eB mg_len cV (ae 2)) aI)))) (lG (da (yQ hr.units) zZ C6 (ae 8) (ae 1)))))) (bN (bP iG)) eP) (aq (qI 4 sc.nd (kq (eX (t5 (sY df_used hr (ay (ae 7) aI))) (eX (t5 (sY df_free_blocks hr (ay (ae 7) aI))) iX)))) (aq (eQ (ka (il (jK (jo (qL 4 (bg df_law_numbers hr (ay (cW (ae 4) ag) (ay (ae 5) aI)))))) (il (jK (jo (qL 4 (bg df_law_numbers hr (ay (cW (ae 4) ag) (ay (ae 6) aI)))))) (lG (da (nh hr.units) oP oX (ae 7) (ae 2)))))) (bN (bP iG)) eP) (aq (w9 4 (lD (oI 4) ag) rD) (aq (uR 4 (lD (oI 4) ag) ag rD) (aq (bP (sx (mJ (gK hr.units) gO (lE df_used hr (ay (ae 7) aI)) (ae 5)) (tR (mJ (gK hr.units) gO (lE df_free_blocks hr (ay (ae 7) aI)) (ae 6))))) b6))))))))))))).out
end
theorem all_mk{w:World}{K:PySem.W.Frag}{h:Heap}{mg:Str→Option Value}{fa f0 f1 f2 f3 f4 f5 f6 f7 f8 f9 f10 f11 f12 f13 f14 f15 f16 f17 f18 f19 f20:Addr}(X:K.In h)(G:h.Ns mainGlobals mg)(hfa:mg "law"=some (.ref fa))
   {od0 an0 od1 an1 od2 an2 od3 an3 od4 an4 od5 an5 od6 an6 od7 an7 od8 an8 od9 an9 od10 an10 od11 an11 od12 an12 od13 an13 od14 an14 od15 an15 od16 an16 od17 an17 od18 an18 od19 an19 od20 an20:Option Addr} {sl0 sl1 sl2 sl3 sl4 sl5 sl6 sl7 sl8 sl9 sl10 sl11 sl12 sl13 sl14 sl15 sl16 sl17 sl18 sl19 sl20:Array (Option Value)} {oc0 kV0 dc0 pm0 cd0 ct0 oc1 kV1 dc1 pm1 cd1 ct1 oc2 kV2 dc2 pm2 cd2 ct2 oc3 kV3 dc3 pm3 cd3 ct3 oc4 kV4 dc4 pm4 cd4 ct4 oc5 kV5 dc5 pm5 cd5 ct5 oc6 kV6 dc6 pm6 cd6 ct6 oc7 kV7 dc7 pm7 cd7 ct7 oc8 kV8 dc8 pm8 cd8 ct8 oc9 kV9 dc9 pm9 cd9 ct9 oc10 kV10 dc10 pm10 cd10 ct10 oc11 kV11 dc11 pm11 cd11 ct11 oc12 kV12 dc12 pm12 cd12 ct12 oc13 kV13 dc13 pm13 cd13 ct13 oc14 kV14 dc14 pm14 cd14 ct14 oc15 kV15 dc15 pm15 cd15 ct15 oc16 kV16 dc16 pm16 cd16 ct16 oc17 kV17 dc17 pm17 cd17 ct17 oc18 kV18 dc18 pm18 cd18 ct18 oc19 kV19 dc19 pm19 cd19 ct19 oc20 kV20 dc20 pm20 cd20 ct20:Value}
   (a0:PySem.W.nsIn K mainGlobals "_law_cell_at"=some (some (.ref f0))) (l0:K.lookup f0=some ⟨oc0,od0,.func (PySem.W.fnOf "_law_cell_at" "_law_cell_at" (L2.bG i6) (L2.bw i6) (L2.aC i6) .none kV0 dc0 pm0 an0 cd0 ct0),sl0⟩) (c0:PySem.W.codeIn K cd0 "_law_cell_at"=true) (k0:PySem.W.keepIn K (.ref f0)=true)
   (a1:PySem.W.nsIn K mainGlobals "_law_digits"=some (some (.ref f1))) (l1:K.lookup f1=some ⟨oc1,od1,.func (PySem.W.fnOf "_law_digits" "_law_digits" (L2.bG je) (L2.bw je) (L2.aC je) .none kV1 dc1 pm1 an1 cd1 ct1),sl1⟩) (c1:PySem.W.codeIn K cd1 "_law_digits"=true) (k1:PySem.W.keepIn K (.ref f1)=true)
   (a2:PySem.W.nsIn K mainGlobals "_law_name"=some (some (.ref f2))) (l2:K.lookup f2=some ⟨oc2,od2,.func (PySem.W.fnOf "_law_name" "_law_name" (L2.bG iU) (L2.bw iU) (L2.aC iU) .none kV2 dc2 pm2 an2 cd2 ct2),sl2⟩) (c2:PySem.W.codeIn K cd2 "_law_name"=true) (k2:PySem.W.keepIn K (.ref f2)=true)
   (a3:PySem.W.nsIn K mainGlobals "_law_words"=some (some (.ref f3))) (l3:K.lookup f3=some ⟨oc3,od3,.func (PySem.W.fnOf "_law_words" "_law_words" (L2.bG jv) (L2.bw jv) (L2.aC jv) .none kV3 dc3 pm3 an3 cd3 ct3),sl3⟩) (c3:PySem.W.codeIn K cd3 "_law_words"=true) (k3:PySem.W.keepIn K (.ref f3)=true)
   (a4:PySem.W.nsIn K mainGlobals "_law_wants"=some (some (.ref f4))) (l4:K.lookup f4=some ⟨oc4,od4,.func (PySem.W.fnOf "_law_wants" "_law_wants" (L2.bG jL) (L2.bw jL) (L2.aC jL) .none kV4 dc4 pm4 an4 cd4 ct4),sl4⟩) (c4:PySem.W.codeIn K cd4 "_law_wants"=true) (k4:PySem.W.keepIn K (.ref f4)=true)
   (a5:PySem.W.nsIn K mainGlobals "_law_nodes"=some (some (.ref f5))) (l5:K.lookup f5=some ⟨oc5,od5,.func (PySem.W.fnOf "_law_nodes" "_law_nodes" (L2.bG jl) (L2.bw jl) (L2.aC jl) .none kV5 dc5 pm5 an5 cd5 ct5),sl5⟩) (c5:PySem.W.codeIn K cd5 "_law_nodes"=true) (k5:PySem.W.keepIn K (.ref f5)=true)
   (a6:PySem.W.nsIn K mainGlobals "_law_model"=some (some (.ref f6))) (l6:K.lookup f6=some ⟨oc6,od6,.func (PySem.W.fnOf "_law_model" "_law_model" (L2.bG hX) (L2.bw hX) (L2.aC hX) .none kV6 dc6 pm6 an6 cd6 ct6),sl6⟩) (c6:PySem.W.codeIn K cd6 "_law_model"=true) (k6:PySem.W.keepIn K (.ref f6)=true)
   (a7:PySem.W.nsIn K mainGlobals "_law_block"=some (some (.ref f7))) (l7:K.lookup f7=some ⟨oc7,od7,.func (PySem.W.fnOf "_law_block" "_law_block" (L2.bG iE) (L2.bw iE) (L2.aC iE) .none kV7 dc7 pm7 an7 cd7 ct7),sl7⟩) (c7:PySem.W.codeIn K cd7 "_law_block"=true) (k7:PySem.W.keepIn K (.ref f7)=true)
   (a8:PySem.W.nsIn K mainGlobals "_law_marks"=some (some (.ref f8))) (l8:K.lookup f8=some ⟨oc8,od8,.func (PySem.W.fnOf "_law_marks" "_law_marks" (L2.bG gW) (L2.bw gW) (L2.aC gW) .none kV8 dc8 pm8 an8 cd8 ct8),sl8⟩) (c8:PySem.W.codeIn K cd8 "_law_marks"=true) (k8:PySem.W.keepIn K (.ref f8)=true)
   (a9:PySem.W.nsIn K mainGlobals "_law_data"=some (some (.ref f9))) (l9:K.lookup f9=some ⟨oc9,od9,.func (PySem.W.fnOf "_law_data" "_law_data" (L2.bG jm) (L2.bw jm) (L2.aC jm) .none kV9 dc9 pm9 an9 cd9 ct9),sl9⟩) (c9:PySem.W.codeIn K cd9 "_law_data"=true) (k9:PySem.W.keepIn K (.ref f9)=true)
   (a10:PySem.W.nsIn K mainGlobals "_law_laid"=some (some (.ref f10))) (l10:K.lookup f10=some ⟨oc10,od10,.func (PySem.W.fnOf "_law_laid" "_law_laid" (L2.bG iW) (L2.bw iW) (L2.aC iW) .none kV10 dc10 pm10 an10 cd10 ct10),sl10⟩) (c10:PySem.W.codeIn K cd10 "_law_laid"=true) (k10:PySem.W.keepIn K (.ref f10)=true)
   (a11:PySem.W.nsIn K mainGlobals "_law_base"=some (some (.ref f11))) (l11:K.lookup f11=some ⟨oc11,od11,.func (PySem.W.fnOf "_law_base" "_law_base" (L2.bG iA) (L2.bw iA) (L2.aC iA) .none kV11 dc11 pm11 an11 cd11 ct11),sl11⟩) (c11:PySem.W.codeIn K cd11 "_law_base"=true) (k11:PySem.W.keepIn K (.ref f11)=true)
   (a12:PySem.W.nsIn K mainGlobals "_law_drawn"=some (some (.ref f12))) (l12:K.lookup f12=some ⟨oc12,od12,.func (PySem.W.fnOf "_law_drawn" "_law_drawn" (L2.bG iQ) (L2.bw iQ) (L2.aC iQ) .none kV12 dc12 pm12 an12 cd12 ct12),sl12⟩) (c12:PySem.W.codeIn K cd12 "_law_drawn"=true) (k12:PySem.W.keepIn K (.ref f12)=true)
   (a13:PySem.W.nsIn K mainGlobals "map_blocks"=some (some (.ref f13))) (l13:K.lookup f13=some ⟨oc13,od13,.func (PySem.W.fnOf "map_blocks" "map_blocks" (L2.bG jJ) (L2.bw jJ) (L2.aC jJ) .none kV13 dc13 pm13 an13 cd13 ct13),sl13⟩) (c13:PySem.W.codeIn K cd13 "map_blocks"=true) (k13:PySem.W.keepIn K (.ref f13)=true)
   (a14:PySem.W.nsIn K mainGlobals "root_of"=some (some (.ref f14))) (l14:K.lookup f14=some ⟨oc14,od14,.func (PySem.W.fnOf "root_of" "root_of" (L2.bG jj) (L2.bw jj) (L2.aC jj) .none kV14 dc14 pm14 an14 cd14 ct14),sl14⟩) (c14:PySem.W.codeIn K cd14 "root_of"=true) (k14:PySem.W.keepIn K (.ref f14)=true)
   (a15:PySem.W.nsIn K mainGlobals "map_words"=some (some (.ref f15))) (l15:K.lookup f15=some ⟨oc15,od15,.func (PySem.W.fnOf "map_words" "map_words" (L2.bG iZ) (L2.bw iZ) (L2.aC iZ) .none kV15 dc15 pm15 an15 cd15 ct15),sl15⟩) (c15:PySem.W.codeIn K cd15 "map_words"=true) (k15:PySem.W.keepIn K (.ref f15)=true)
   (a16:PySem.W.nsIn K mainGlobals "used"=some (some (.ref f16))) (l16:K.lookup f16=some ⟨oc16,od16,.func (PySem.W.fnOf "used" "used" (L2.bG i9) (L2.bw i9) (L2.aC i9) .none kV16 dc16 pm16 an16 cd16 ct16),sl16⟩) (c16:PySem.W.codeIn K cd16 "used"=true) (k16:PySem.W.keepIn K (.ref f16)=true)
   (a17:PySem.W.nsIn K mainGlobals "free_blocks"=some (some (.ref f17))) (l17:K.lookup f17=some ⟨oc17,od17,.func (PySem.W.fnOf "free_blocks" "free_blocks" (L2.bG ir) (L2.bw ir) (L2.aC ir) .none kV17 dc17 pm17 an17 cd17 ct17),sl17⟩) (c17:PySem.W.codeIn K cd17 "free_blocks"=true) (k17:PySem.W.keepIn K (.ref f17)=true)
   (a18:PySem.W.nsIn K mainGlobals "_law_whole"=some (some (.ref f18))) (l18:K.lookup f18=some ⟨oc18,od18,.func (PySem.W.fnOf "_law_whole" "_law_whole" (L2.bG jD) (L2.bw jD) (L2.aC jD) .none kV18 dc18 pm18 an18 cd18 ct18),sl18⟩) (c18:PySem.W.codeIn K cd18 "_law_whole"=true) (k18:PySem.W.keepIn K (.ref f18)=true)
   (a19:PySem.W.nsIn K mainGlobals "_law_numbers"=some (some (.ref f19))) (l19:K.lookup f19=some ⟨oc19,od19,.func (PySem.W.fnOf "_law_numbers" "_law_numbers" (L2.bG jF) (L2.bw jF) (L2.aC jF) .none kV19 dc19 pm19 an19 cd19 ct19),sl19⟩) (c19:PySem.W.codeIn K cd19 "_law_numbers"=true) (k19:PySem.W.keepIn K (.ref f19)=true)
   (a20:PySem.W.nsIn K mainGlobals "law"=some (some (.ref f20))) (l20:K.lookup f20=some ⟨oc20,od20,.func (PySem.W.fnOf "law" "law" (L2.bG fw) (L2.bw fw) (L2.aC fw) .none kV20 dc20 pm20 an20 cd20 ct20),sl20⟩) (c20:PySem.W.codeIn K cd20 "law"=true) (k20:PySem.W.keepIn K (.ref f20)=true)
   (z_bool:PySem.W.nsIn K mainGlobals "bool"=some none)
   (z_dict:PySem.W.nsIn K mainGlobals "dict"=some none)
   (z_enumerate:PySem.W.nsIn K mainGlobals "enumerate"=some none)
   (z_int:PySem.W.nsIn K mainGlobals "int"=some none)
   (z_isinstance:PySem.W.nsIn K mainGlobals "isinstance"=some none)
   (z_len:PySem.W.nsIn K mainGlobals "len"=some none)
   (z_list:PySem.W.nsIn K mainGlobals "list"=some none)
   (z_range:PySem.W.nsIn K mainGlobals "range"=some none)
   (z_sorted:PySem.W.nsIn K mainGlobals "sorted"=some none)
   (z_tuple:PySem.W.nsIn K mainGlobals "tuple"=some none)
   (gl_PAGE_WORDS:gL PySem.Challenge.pw_underfloor_k36_maps w K mg "PAGE_WORDS" lK)
   (gl_FIRST_BLOCK:gL PySem.Challenge.pw_underfloor_k36_maps w K mg "FIRST_BLOCK" iw):
   ∃fd:FuncData,(∀(s:Shared) (v:Value),BindsTo s fd ⟨[v],[]⟩ [("_law_script",v)])∧∀base:Heap,K.In base→base.Ns mainGlobals mg→L2.cy PySem.Challenge.pw_underfloor_k36_maps w K mg base L2.de 6 fa fd ["_law_script"] (fU ⟨K,PySem.Challenge.pw_underfloor_k36_maps,w⟩ kR 1):=by
 have e:=hfa.symm.trans (PySem.W.mg_of X G a20)
 cases e
 have mg_bool:=PySem.W.mg_none_of X G z_bool
 have mg_dict:=PySem.W.mg_none_of X G z_dict
 have mg_enumerate:=PySem.W.mg_none_of X G z_enumerate
 have mg_int:=PySem.W.mg_none_of X G z_int
 have mg_isinstance:=PySem.W.mg_none_of X G z_isinstance
 have mg_len:=PySem.W.mg_none_of X G z_len
 have mg_list:=PySem.W.mg_none_of X G z_list
 have mg_range:=PySem.W.mg_none_of X G z_range
 have mg_sorted:=PySem.W.mg_none_of X G z_sorted
 have mg_tuple:=PySem.W.mg_none_of X G z_tuple
 refine⟨PySem.W.fnOf "law" "law" (L2.bG fw) (L2.bw fw) (L2.aC fw) .none kV20 dc20 pm20 an20 cd20 ct20,fun s v=>.of_eq rfl,fun base _ _=>?_⟩
 have df_law_cell_at:=zY (P:=PySem.Challenge.pw_underfloor_k36_maps) (w:=w) (base:=base) (L2.cb (st:=i6) l0 c0 k0) (PySem.W.mg_of X G a0) mg_len
 have df_law_digits:=vG (P:=PySem.Challenge.pw_underfloor_k36_maps) (w:=w) (base:=base) (L2.cb (st:=je) l1 c1 k1) (PySem.W.mg_of X G a1) mg_range
 have df_law_name:=uh (P:=PySem.Challenge.pw_underfloor_k36_maps) (w:=w) (base:=base) (L2.cb (st:=iU) l2 c2 k2) (PySem.W.mg_of X G a2)
 have df_law_words:=BN (P:=PySem.Challenge.pw_underfloor_k36_maps) (w:=w) (base:=base) (L2.cb (st:=jv) l3 c3 k3) (PySem.W.mg_of X G a3) mg_range
 have df_law_wants:=xn (P:=PySem.Challenge.pw_underfloor_k36_maps) (w:=w) (base:=base) (L2.cb (st:=jL) l4 c4 k4) (PySem.W.mg_of X G a4)
 have df_law_nodes:=wd (P:=PySem.Challenge.pw_underfloor_k36_maps) (w:=w) (base:=base) (L2.cb (st:=jl) l5 c5 k5) (PySem.W.mg_of X G a5) mg_int mg_len df_law_digits df_law_name df_law_words df_law_wants
 have df_law_model:=Bp (P:=PySem.Challenge.pw_underfloor_k36_maps) (w:=w) (base:=base) (L2.cb (st:=hX) l6 c6 k6) (PySem.W.mg_of X G a6) mg_dict mg_len mg_list mg_range df_law_wants
 have df_law_block:=uY (P:=PySem.Challenge.pw_underfloor_k36_maps) (w:=w) (base:=base) (L2.cb (st:=iE) l7 c7 k7) (PySem.W.mg_of X G a7) mg_len mg_list mg_tuple
 have df_law_marks:=CJ (P:=PySem.Challenge.pw_underfloor_k36_maps) (w:=w) (base:=base) (L2.cb (st:=gW) l8 c8 k8) (PySem.W.mg_of X G a8) mg_int mg_range
 have df_law_data:=yA (P:=PySem.Challenge.pw_underfloor_k36_maps) (w:=w) (base:=base) (L2.cb (st:=jm) l9 c9 k9) (PySem.W.mg_of X G a9) mg_sorted
 have df_law_laid:=xB (P:=PySem.Challenge.pw_underfloor_k36_maps) (w:=w) (base:=base) (L2.cb (st:=iW) l10 c10 k10) (PySem.W.mg_of X G a10) mg_len mg_list mg_range df_law_block df_law_marks df_law_data
 have df_law_base:=wA (P:=PySem.Challenge.pw_underfloor_k36_maps) (w:=w) (base:=base) (L2.cb (st:=iA) l11 c11 k11) (PySem.W.mg_of X G a11) mg_range mg_tuple
 have df_law_drawn:=wb (P:=PySem.Challenge.pw_underfloor_k36_maps) (w:=w) (base:=base) (L2.cb (st:=iQ) l12 c12 k12) (PySem.W.mg_of X G a12) df_law_cell_at df_law_nodes df_law_digits df_law_model df_law_base df_law_laid
 have df_map_blocks:=xM (P:=PySem.Challenge.pw_underfloor_k36_maps) (w:=w) (base:=base) (L2.cb (st:=jJ) l13 c13 k13) (PySem.W.mg_of X G a13) gl_PAGE_WORDS
 have df_root_of:=vF (P:=PySem.Challenge.pw_underfloor_k36_maps) (w:=w) (base:=base) (L2.cb (st:=jj) l14 c14 k14) (PySem.W.mg_of X G a14) mg_len gl_FIRST_BLOCK df_map_blocks
 have df_map_words:=xV (P:=PySem.Challenge.pw_underfloor_k36_maps) (w:=w) (base:=base) (L2.cb (st:=iZ) l15 c15 k15) (PySem.W.mg_of X G a15) mg_list gl_FIRST_BLOCK df_root_of
 have df_used:=Aa (P:=PySem.Challenge.pw_underfloor_k36_maps) (w:=w) (base:=base) (L2.cb (st:=i9) l16 c16 k16) (PySem.W.mg_of X G a16) mg_len df_map_words
 have df_free_blocks:=yS (P:=PySem.Challenge.pw_underfloor_k36_maps) (w:=w) (base:=base) (L2.cb (st:=ir) l17 c17 k17) (PySem.W.mg_of X G a17) mg_enumerate df_used
 have df_law_whole:=zR (P:=PySem.Challenge.pw_underfloor_k36_maps) (w:=w) (base:=base) (L2.cb (st:=jD) l18 c18 k18) (PySem.W.mg_of X G a18) mg_bool mg_int mg_isinstance
 have df_law_numbers:=zp (P:=PySem.Challenge.pw_underfloor_k36_maps) (w:=w) (base:=base) (L2.cb (st:=jF) l19 c19 k19) (PySem.W.mg_of X G a19) mg_isinstance mg_list df_law_whole
 have df_law:=xA (P:=PySem.Challenge.pw_underfloor_k36_maps) (w:=w) (base:=base) (L2.cb (st:=fw) l20 c20 k20) (PySem.W.mg_of X G a20) mg_len mg_list mg_range df_law_drawn df_map_blocks df_law_whole df_law_marks df_root_of df_used df_free_blocks df_law_numbers
 exact df_law
end fB
end PL
set_option maxRecDepth 4000
namespace PL
namespace fB
open PySem G
theorem ox(n:Int):gc [.int n]=.ok (.int ((n+16 - 1) / 16)):=by
 rw[gc]
 exact cf (b8 (cj (fG (bH rfl rfl) rfl) rfl (by decide)))
theorem qQ{fl:List (List Int)}:fO [.lst (fl.map B)]=.ok (.int (14+((fl.length:Int)+16 - 1) / 16)):=by
 rw[fO]
 refine cf (b8 (bH rfl (bZ (x:=.int (fl.length:Int)) ?_ (ox _))))
 rw[gj (xs:=fl.map B) rfl,List.length_map]
theorem u9{α:Type}(xs:List α){a b:Int}(h:0≤a)(h2:a≤b)(h3:b≤xs.length):cut xs (some a) (some b)=(xs.drop a.toNat).take (b.toNat - a.toNat):=by
 unfold cut
 rw[ie h,ie (by omega),Nat.min_eq_left (show a.toNat≤xs.length by omega),Nat.min_eq_left (show b.toNat≤xs.length by omega)]
theorem xt{fl:List (List Int)}{xs:List (List Int)}(h:∀x∈xs,x.length≤16)(hx:xs.length≤1000):∃s2,forL (ar 2) iz (xs.map B) [.sh (.lst (fl.map B)),.ol [],.un]=.ok (.next [.sh (.lst (fl.map B)),.ol (xs.flatten.map .int),s2]):=by
 obtain⟨ρ',eL,s2,rfl,_⟩:=e7 (tg:=ar 2) (body:=iz) (fun j ρ=>∃s2,ρ=[.sh (.lst (fl.map B)),.ol ((xs.take j).flatten.map .int),s2]∧(xs.take j).flatten.length≤16*j) (ds:=xs.map B) 0 (by
   rintro j d hd ρ ⟨s2,rfl,hj⟩
   rw[List.getElem?_map]at hd
   cases e:xs[j]? with
   |none=>rw[e]at hd;cases hd
   | some x=>
     rw[e]at hd
     cases hd
     obtain⟨hlt,hx'⟩:=List.getElem?_eq_some_iff.mp e
     have hxl:=h x (List.mem_of_getElem? e)
     rw[Nat.zero_add]at hj
     have ht:(xs.take (j+1)).flatten=(xs.take j).flatten++x:=by
       rw[List.take_succ_eq_append_getElem hlt,List.flatten_append,hx'];simp
     refine⟨_,rfl,_,?_,.sh (B x),rfl,by rw[Nat.zero_add,ht,List.length_append];omega⟩
     show iz [.sh (.lst (fl.map B)),.ol ((xs.take (0+j)).flatten.map .int),.sh (B x)]=_
     rw[iz,Nat.zero_add,ht,List.map_append]
     have g:(e1 fE (aa 2)) [.sh (.lst (fl.map B)),.ol ((xs.take j).flatten.map .int),.sh (B x)]=.ok (.lst (x.map .int)):=rfl
     simp only[lJ,g,R.aL]
     show(if _ then _ else _)=_
     rw[if_pos (by rw[List.length_map,List.length_map];show _≤16777216;omega)]
     rfl) (ρ:=[.sh (.lst (fl.map B)),.ol [],.un]) ⟨.un,rfl,by simp⟩
 rw[List.length_map,Nat.zero_add,List.take_length]at eL
 exact⟨s2,eL⟩
theorem Bu{fl:List (List Int)}{ms:List Int}{many:Int}(hm:32≤many)(hm2:many<500)(hl:(fl.length:Int)=many)(hms:(ms.length:Int)=many)(hM:Map ms ((many.toNat+15) / 16) fl):eF [.lst (fl.map B)]=.ok (L ms):=by
 generalize hmm:(many.toNat+15) / 16=m at hM
 have hw:(fl.drop 14).take m=(List.range m).map fun i=>pad (bQ ms i):=by
   apply List.ext_getElem?
   intro i
   rw[List.getElem?_take,List.getElem?_map]
   by_cases hi:i<m
   ·rw[if_pos hi,List.getElem?_drop,hM i hi,List.getElem?_range hi];rfl
   ·rw[if_neg hi,List.getElem?_eq_none_iff.mpr (by simpa using hi)];rfl
 obtain⟨s2,eL⟩:=xt (fl:=fl) (xs:=(List.range m).map fun i=>pad (bQ ms i)) (fun x hx=>by
   obtain⟨i,_,rfl⟩:=List.mem_map.mp hx
   rw[Cr (oo ms i)];exact Nat.le_refl _) (by simp;omega)
 have hmw:kS [.lst (fl.map B)]=.ok (L ((List.range m).map fun i=>pad (bQ ms i)).flatten):=by
   rw[kS]
   refine nY ?_
   show aw _ [.sh (.lst (fl.map B)),.un,.un]=_
   rw[au (ρ':=[.sh (.lst (fl.map B)),.ol [],.un]) rfl]
   rw[au (a:=bu _ _ _) (di (ds:=((List.range m).map fun i=>pad (bQ ms i)).map B) (by
     have g:(cC (aa 0) (some (eC iw)) (some (aB fO [aa 0]))) [.sh (.lst (fl.map B)),.ol [],.un]=.ok (.lst (((List.range m).map fun i=>pad (bQ ms i)).map B)):=by
       have g1:(aB fO [aa 0]) [.sh (.lst (fl.map B)),.ol [],.un]=.ok (.int (14+((fl.length:Int)+16 - 1) / 16)):=bZ rfl qQ
       have g2:(eC iw) [.sh (.lst (fl.map B)),.ol [],.un]=.ok (.int 14):=rfl
       have g0:(aa 0) [.sh (.lst (fl.map B)),.ol [],.un]=.ok (.lst (fl.map B)):=rfl
       simp only[cC,g0,R.aL,gS,g1,g2,iD]
       rw[u9 _ (by decide) (by omega) (by rw[List.length_map];omega), ←List.map_drop, ←List.map_take,show(14+((fl.length:Int)+16 - 1) / 16).toNat - (14:Int).toNat=m by omega,show(14:Int).toNat=14 from rfl,hw]
     show(R.bind _ _)=_
     rw[g];rfl) eL)]
   exact yb rfl
 rw[eF]
 refine nY ?_
 show(R.bind _ _)=_
 have hch:=rM m ms (by omega)
 rw[Az (xs:=((List.range m).map fun i=>pad (bQ ms i)).flatten.map .int) (v:=(fl.length:Int)) (bZ rfl hmw) (by rw[gj (xs:=fl.map B) rfl,List.length_map]) (by omega), ←List.map_take,show((fl.length:Int)).toNat=ms.length by omega,hch]
 rfl
noncomputable def aP(ms:List Int):List D:=((List.range ms.length).filter fun k=>decide (ms.getD k 0=0)).map fun(k:Nat)=>D.int (k:Int)
theorem A7{fl:List (List Int)}{ms:List Int}(h:eF [.lst (fl.map B)]=.ok (L ms))(hl:ms.length<1000):gz [.lst (fl.map B)]=.ok (.lst (aP ms)):=by
 have hen:dy 0 (ms.map .int)=(List.range ms.length).map fun(k:Nat)=>D.tup [.int (k:Int),.int (ms.getD k 0)]:=by
   rw[wQ]
   apply List.ext_getElem?
   intro i
   rw[List.getElem?_mapIdx,List.getElem?_map,List.getElem?_map]
   by_cases hi:i<ms.length
   · rw[List.getElem?_range hi,List.getElem?_eq_getElem hi]
     simp[List.getD_eq_getElem?_getD,hi]
   ·rw[List.getElem?_eq_none_iff.mpr (by omega),List.getElem?_eq_none_iff.mpr (by simpa using hi)];rfl
 rw[gz]
 refine nY ?_
 show(R.bind _ _)=_
 rw[iS (ds:=dy 0 (ms.map .int)) (ys:=aP ms) ?_ (by rw[ma,List.length_map];omega) ?_]
 ·rfl
 · have g:(aB eF [aa 0]) [.sh (.lst (fl.map B))]=.ok (L ms):=bZ rfl h
   show(R.bind _ _)=_
   rw[show([D.lst (fl.map B)].map Slot.sh++List.replicate (1 - [D.lst (fl.map B)].length) Slot.un)=[.sh (.lst (fl.map B))]from rfl,g]
   rfl
 · rw[hen]
   unfold aP
   refine nV (u:=fun(k:Nat)=>D.tup [.int (k:Int),.int (ms.getD k 0)]) (p:=fun k=>decide (ms.getD k 0=0)) (v:=fun(k:Nat)=>D.int (k:Int)) fun k hk=>⟨[.sh (.int (k:Int)),.sh (.int (ms.getD k 0))],rfl,?_,fun _=>rfl⟩
   have g:(tV (e2 oEq (aa 1) (eC (.int 0)))) [.sh (.int (k:Int)),.sh (.int (ms.getD k 0))]=.ok (decide (ms.getD k 0=0)):=bf (fT rfl rfl)
   simp only[cM.hU,g,R.aL]
   cases decide (ms.getD k 0=0)<;>rfl
theorem rV{ds:List D}(h:∀d∈ds,∃i:Int,d=.int i):gp [.lst ds,.lst ds]=.ok (.bl true):=by
 have hlay:lay (.lst ds)=true:=by
   unfold lay
   exact kj fun d hd=>by obtain⟨i,rfl⟩:=h d hd;rfl
 have hdep:dep (.lst ds)≤60:=by
   unfold dep
   have:=lr (n:=0) (ds:=ds) fun d hd=>by obtain⟨i,rfl⟩:=h d hd;exact Nat.le_refl _
   omega
 obtain⟨ρ',eL,s2,rfl⟩:=jk (tg:=ar 2) (body:=j3) (fun ρ=>∃s2,ρ=[.sh (.lst ds),.sh (.lst ds),s2]) (ds:=ds) (by
   rintro d hd ρ ⟨s2,rfl⟩
   obtain⟨i,rfl⟩:=h d hd
   refine⟨_,rfl,_,?_,.sh (.int i),rfl⟩
   rw[j3]
   exact dJ (jh (bf (b:=true) (bZ rfl (o9 i))))) (ρ:=[.sh (.lst ds),.sh (.lst ds),.un]) ⟨.un,rfl⟩
 rw[gp]
 refine cf ?_
 show aw _ [.sh (.lst ds),.sh (.lst ds),.un]=_
 rw[au (dJ (ik (b:=false) (c:=false) (jh (bf (b:=true) rfl)) (bf (aS (o:=eJ) rfl rfl (ne_self hlay hdep)))))]
 rw[au (a:=bu _ _ _) (di (ds:=ds) rfl eL)]
 exact dC (b8 rfl)
theorem CG{lo hi:Option Int}(ns:List Int):cut (ns.map D.int) lo hi=(cut ns lo hi).map .int:=by
 unfold cut
 rw[List.length_map, ←List.map_drop, ←List.map_take]
theorem w6(ns:List Int):∃(ks:List Int) (es:List (Nd×List Int)) (ms:List Int) (fl:List (List Int)) (many:Int),32≤many∧many≤200∧(fl.length:Int)=many∧(ms.length:Int)=many∧fP [mD ks es,.int many]=.ok (L ms)∧Map ms ((many.toNat+15) / 16) fl∧ks.length=es.length∧14+(many+15) / 16∈ks∧kc [L ns]=.ok (.lst [mD ks es,.lst (fl.map B)]):=by
 obtain⟨f,ef⟩:=nq (ns:=ns) (k:=0) (by decide)
 obtain⟨f1,ef1⟩:=nq (ns:=ns) (k:=1) (by decide)
 obtain⟨f2,ef2⟩:=nq (ns:=ns) (k:=2) (by decide)
 obtain⟨z,_,ez⟩:=tN f1
 obtain⟨c1,hc1,e1'⟩:∃c:Int,(0<c∧c≤169)∧aV (.lst [.int 8,.int 40,.int 169,.int 169]) (.int (f % 4))=.ok (.int c):=by
   have h4:f % 4=0∨f % 4=1∨f % 4=2∨f % 4=3:=by omega
   rcases h4 with h|h|h|h<;>rw[h]
   ·exact⟨8,by decide,rfl⟩
   ·exact⟨40,by decide,rfl⟩
   ·exact⟨169,by decide,rfl⟩
   ·exact⟨169,by decide,rfl⟩
 obtain⟨c2,hc2,e2'⟩:∃c:Int,(0<c∧c≤4)∧aV (.lst [.int 4,.int 3,.int 2,.int 1]) (.int (f / 700 % 4))=.ok (.int c):=by
   have h4:f / 700 % 4=0∨f / 700 % 4=1∨f / 700 % 4=2∨f / 700 % 4=3:=by omega
   rcases h4 with h|h|h|h<;>rw[h]
   ·exact⟨4,by decide,rfl⟩
   ·exact⟨3,by decide,rfl⟩
   ·exact⟨2,by decide,rfl⟩
   ·exact⟨1,by decide,rfl⟩
 generalize hmany:32+f / 4 % c1=many
 have hm1:32≤many∧many≤200:=by
   have h1:=Int.emod_nonneg (f / 4) (show c1≠0 by omega)
   have h2:=Int.emod_lt_of_pos (f / 4) hc1.1
   omega
 generalize hroot:14+(many+15) / 16=root
 generalize hroom:(many - root - 1)*c2 / 4=room
 have hroom1:0≤room∧room≤many - root - 1:=by
   rw[←hroom]
   have h0:0≤many - root - 1:=by omega
   generalize many - root - 1=q at h0
   have h1:0≤q*c2:=Int.mul_nonneg h0 (by omega)
   have h2:q*c2≤q*4:=Int.mul_le_mul_of_nonneg_left hc2.2 h0
   omega
 have hcl:(cut ns (some 3) (some 33)).length≤100:=by
   unfold cut
   rw[ie (by decide),ie (by decide),List.length_take]
   show min (min 33 ns.length - min 3 ns.length) _≤100
   omega
 obtain⟨nds,hn1,hn2,hn3,hn4,en⟩:=AI (cs:=cut ns (some 3) (some 33)) hroom1.1 hcl
 obtain⟨ks,es,em,k1,k2,k3,k4⟩:=uS (many:=many) (z:=z) hn3 hn4 hn2 hm1.1 (by omega) (by omega)
 obtain⟨bs,hb,eb⟩:=x9 (c:=f2) (many:=many) (by omega) (by omega)
 obtain⟨ms,fl,l1,l2,l3,l4,l5⟩:=yC hm1.1 (by omega) hb k1 k2 k3
 refine⟨ks,es,ms,fl,many,hm1.1,hm1.2,l3,l1,l2,l5,k1,by rw[hroot];rw[hroot]at k4;exact k4,?_⟩
 rw[kc]
 refine cf ?_
 show aw _ [.sh (L ns),.un,.un,.un,.un,.un]=_
 rw[au (bA (cS rfl rfl ef))]
 show aw _ [.sh (L ns),.sh (.int f),.un,.un,.un,.un]=_
 rw[au (bA (d:=.int many) (by
   rw[←hmany]
   exact bH rfl (bS (cj rfl rfl (by decide)) (aS (x:=.lst [.int 8,.int 40,.int 169,.int 169]) rfl (bS rfl rfl (by decide)) e1') hc1.1)))]
 show aw _ [.sh (L ns),.sh (.int f),.sh (.int many),.un,.un,.un]=_
 rw[au (bA (d:=.int root) (by rw[←hroot];exact bH rfl (cj (bH rfl rfl) rfl (by decide))))]
 show aw _ [.sh (L ns),.sh (.int f),.sh (.int many),.sh (.int root),.un,.un]=_
 rw[au (bA (cS (x:=L (cut ns (some 3) (some 33))) (y:=.int room) (by
   have g0:(aa 0) [.sh (L ns),.sh (.int f),.sh (.int many),.sh (.int root),.un,.un]=.ok (.lst (ns.map .int)):=rfl
   simp only[cC,g0,R.aL,gS,eC,iD]
   rw[CG]) (by
   rw[←hroom]
   exact cj (eA (fG (fG rfl rfl) rfl) (aS (x:=.lst [.int 4,.int 3,.int 2,.int 1]) rfl (bS (cj rfl rfl (by decide)) rfl (by decide)) e2') (eW (by omega) (by omega)) (eW (by omega) (by omega))) rfl (by decide)) en))]
 show aw _ [.sh (L ns),.sh (.int f),.sh (.int many),.sh (.int root),.sh (.lst (nds.map Nd.d)),.un]=_
 rw[au (bA (y6 rfl rfl (bZ (cS rfl rfl ef1) ez) em))]
 show aw _ [.sh (L ns),.sh (.int f),.sh (.int many),.sh (.int root),.sh (.lst (nds.map Nd.d)),.sh (mD ks es)]=_
 refine dC (b8 ?_)
 have g1:(aa 5) [.sh (L ns),.sh (.int f),.sh (.int many),.sh (.int root),.sh (.lst (nds.map Nd.d)),.sh (mD ks es)]=.ok (mD ks es):=rfl
 have g2:(aB jN [aa 5,aB iY [aB gE [aa 0,eC (.int 2)],aa 2]]) [.sh (L ns),.sh (.int f),.sh (.int many),.sh (.int root),.sh (.lst (nds.map Nd.d)),.sh (mD ks es)]=.ok (.lst (fl.map B)):=cS rfl (cS (cS rfl rfl ef2) rfl eb) l4
 simp only[bD,eList,g1,g2,R.aL]
theorem oC:∀ds:List D,T.gB (ds.map T.d)=true
 |[]=>rfl
 |d::ds=>by show(T.fQ (.d d)&&T.gB (ds.map T.d))=true;rw[oC ds];rfl
theorem xO(ns:List Int)(h:ns.length≤63):kR [.lst (ns.map .int)]=.ok (.bl true):=by
 obtain⟨ks,es,ms,fl,many,hm1,hm2,hfl,hms,em,hM,hl,hroot,ed⟩:=w6 ns
 have eu:=Bu hm1 (by omega) hfl hms hM
 have efr:=A7 eu (by omega)
 rw[kR]
 refine cf ?_
 show aw _ [.sh (L ns),.un,.un,.un,.un,.un,.un,.un,.un]=_
 rw[au (nP (ρ':=[.sh (L ns),.sh (mD ks es),.sh (.lst (fl.map B)),.un,.un,.un,.un,.un,.un]) (bZ rfl ed) rfl)]
 obtain⟨ρ',eL,s3,s4,rfl,hs3,hs4⟩:=jk (tg:=ar 3) (body:=iT) (fun ρ=>∃s3 s4,ρ=[.sh (L ns),.sh (mD ks es),.sh (.lst (fl.map B)),s3,s4,.un,.un,.un,.un]∧(s3=.un∨∃d,s3=.sh d)∧(s4=.un∨∃d,s4=.sh d)) (ds:=bB 32 201) (by
   rintro d hd ρ ⟨s3,s4,rfl,_,_⟩
   obtain⟨k,rfl,h1,h2⟩:=zE hd
   refine⟨_,rfl,?_⟩
   show ∃ρ2,iT [.sh (L ns),.sh (mD ks es),.sh (.lst (fl.map B)),.sh (.int k),s4,.un,.un,.un,.un]=.ok (.next ρ2)∧_
   refine⟨[.sh (L ns),.sh (mD ks es),.sh (.lst (fl.map B)),.sh (.int k),.sh (.int ((k+16 - 1) / 16)),.un,.un,.un,.un],?_,_,_,rfl,.inr ⟨_,rfl⟩,.inr ⟨_,rfl⟩⟩
   rw[iT,au (bA (bZ rfl (ox k)))]
   show aw _ [.sh (L ns),.sh (mD ks es),.sh (.lst (fl.map B)),.sh (.int k),.sh (.int ((k+16 - 1) / 16)),.un,.un,.un,.un]=_
   have g:(e2 bV (aa 4) (eC (.int 16))) [.sh (L ns),.sh (mD ks es),.sh (.lst (fl.map B)),.sh (.int k),.sh (.int ((k+16 - 1) / 16)),.un,.un,.un,.un]=.ok (.int ((k+16 - 1) / 16*16)):=eA rfl rfl (eW (by omega) (by omega)) (by decide)
   rw[au (dJ (ik (b:=false) (c:=false) (jh (bf (b:=true) (bZ rfl (o9 _)))) (ik (b:=false) (c:=false) (bf (by rw[kX g rfl,decide_eq_false (by omega)])) (bf (by rw[v8 (fG g rfl) rfl,decide_eq_false (by omega)])))))]
   rfl) (ρ:=[.sh (L ns),.sh (mD ks es),.sh (.lst (fl.map B)),.un,.un,.un,.un,.un,.un]) ⟨.un,.un,rfl,.inl rfl,.inl rfl⟩
 rw[au (a:=bu _ _ _) (di (tH rfl rfl (by decide) (by decide)) eL)]
 have elen:∀ρ:En,ρ[2]? =some (.sh (.lst (fl.map B)))→(e1 cg (aa 2)) ρ=.ok (.int many):=fun ρ h=>by
   rw[gj (xs:=fl.map B) (by simp only[aa,h]),List.length_map,hfl]
 rw[au (bA (cS rfl (elen _ rfl) em))]
 show aw _ [.sh (L ns),.sh (mD ks es),.sh (.lst (fl.map B)),s3,s4,.sh (L ms),.un,.un,.un]=_
 rw[au (bA (d:=.lst (aP ms)) (by
   refine iS (fY (elen _ rfl) (d7 (by omega) (by omega))) (by rw[gD];omega) ?_
   unfold aP bB
   rw[show(many - 0).toNat=ms.length by omega]
   refine nV (u:=fun(k:Nat)=>D.int (0+(k:Int))) (p:=fun k=>decide (ms.getD k 0=0)) (v:=fun(k:Nat)=>D.int (k:Int)) fun k hk=>⟨[.sh (.int (0+(k:Int))),.sh (L ms)],rfl,?_,fun _=>by show R.ok (D.int (0+(k:Int)))=_;rw[Int.zero_add]⟩
   have hk:=List.mem_range.mp hk
   have g:(tV (e2 oEq (e2 aV (aa 1) (aa 0)) (eC (.int 0)))) [.sh (.int (0+(k:Int))),.sh (L ms)]=.ok (decide (ms.getD k 0=0)):=by
     refine bf (fT (aS rfl rfl (iL ?_)) rfl)
     rw[Int.zero_add,lP (by rw[List.length_map];exact hk)]
     simp[List.getD_eq_getElem?_getD,hk]
   simp only[cM.hU,g,R.aL]
   cases decide (ms.getD k 0=0)<;>rfl))]
 show aw _ [.sh (L ns),.sh (mD ks es),.sh (.lst (fl.map B)),s3,s4,.sh (L ms),.sh (.lst (aP ms)),.un,.un]=_
 rw[au (ρ':=[.sh (L ns),.sh (mD ks es),.sh (.lst (fl.map B)),s3,s4,.sh (L ms),.sh (.lst (aP ms)),.sh (.lst (fl.map B)),.un]) rfl]
 rw[au (bA (bZ rfl qQ))]
 rw[hfl]
 show aw _ [.sh (L ns),.sh (mD ks es),.sh (.lst (fl.map B)),s3,s4,.sh (L ms),.sh (.lst (aP ms)),.sh (.lst (fl.map B)),.sh (.int (14+(many+16 - 1) / 16))]=_
 have hr2:14+(many+16 - 1) / 16∈ks:=by rw[show many+16 - 1=many+15 by omega];exact hroot
 generalize hR:14+(many+16 - 1) / 16=rt at hr2
 have hnot:(e2 kC (aa 8) (aa 1)) [.sh (L ns),.sh (mD ks es),.sh (.lst (fl.map B)),s3,s4,.sh (L ms),.sh (.lst (aP ms)),.sh (.lst (fl.map B)),.sh (.int rt)]=.ok (.bl false):=by
   obtain⟨v,_,ev⟩:=oq eD rt hl hr2
   refine aS (x:=.int rt) (y:=mD ks es) rfl rfl ?_
   show(R.ok (D.bl (cE (.inl rt) (ks.map .inl) (es.map eD)).isSome)).bind jt=_
   rw[ev];rfl
 have hne:(e2 eJ (aa 8) (e2 aK (eC (.int 14)) (aB gc [e1 cg (aa 2)]))) [.sh (L ns),.sh (mD ks es),.sh (.lst (fl.map B)),s3,s4,.sh (L ms),.sh (.lst (aP ms)),.sh (.lst (fl.map B)),.sh (.int rt)]=.ok (.bl false):=by
   refine aS (x:=.int rt) (y:=.int rt) rfl ?_ (ne_self rfl (by show(0:Nat)≤60;decide))
   rw[←hR]
   exact bH rfl (bZ (elen _ rfl) (ox _))
 rw[au (dJ (ik (b:=false) (c:=false) (jh (bf (b:=true) (bZ rfl (o9 _)))) (ik (b:=false) (c:=false) (bf hne) (bf hnot))))]
 have hno:kY [.sh (L ns),.sh (mD ks es),.sh (.lst (fl.map B)),s3,s4,.sh (L ms),.sh (.lst (aP ms)),.sh (.lst (fl.map B)),.sh (.int rt)]=true:=by
   rcases hs3 with rfl|⟨d3,rfl⟩<;>rcases hs4 with rfl|⟨d4,rfl⟩<;>rfl
 have htree:jB 4 (xL [xF (aB eF [aa 7]),xF (aB gz [aa 7])]) [.sh (L ns),.sh (mD ks es),.sh (.lst (fl.map B)),s3,s4,.sh (L ms),.sh (.lst (aP ms)),.sh (.lst (fl.map B)),.sh (.int rt)]=.ok (.next [.sh (L ns),.sh (mD ks es),.sh (.lst (fl.map B)),s3,.on (.tr (.l [.l ((ms.map D.int).map .d),.l ((aP ms).map .d)])),.sh (L ms),.sh (.lst (aP ms)),.sh (.lst (fl.map B)),.sh (.int rt)]):=by
   have g1:(xF (aB eF [aa 7])) [.sh (L ns),.sh (mD ks es),.sh (.lst (fl.map B)),s3,s4,.sh (L ms),.sh (.lst (aP ms)),.sh (.lst (fl.map B)),.sh (.int rt)]=.ok (.l ((ms.map D.int).map .d)):=by
     unfold xF
     rw[bZ rfl eu];rfl
   have g2:(xF (aB gz [aa 7])) [.sh (L ns),.sh (mD ks es),.sh (.lst (fl.map B)),s3,s4,.sh (L ms),.sh (.lst (aP ms)),.sh (.lst (fl.map B)),.sh (.int rt)]=.ok (.l ((aP ms).map .d)):=by
     unfold xF
     rw[bZ rfl efr];rfl
   unfold jB xL
   simp only[cG,g1,g2,R.aL]
   rw[if_pos hno]
   rfl
 rw[au htree]
 have hnoM:T.fQ (.l [.l ((ms.map D.int).map .d),.l ((aP ms).map .d)])=true:=by
   show(T.gB ((ms.map D.int).map .d)&&(T.gB ((aP ms).map .d)&&true))=true
   rw[oC,oC];rfl
 have htoD:T.toD (.l [.l ((ms.map D.int).map .d),.l ((aP ms).map .d)])=.lst [L ms,.lst (aP ms)]:=by
   show D.lst [.lst (T.dn ((ms.map D.int).map .d)),.lst (T.dn ((aP ms).map .d))]=_
   rw[mf,mf]
 have n1:gp [L ms,L ms]=.ok (.bl true):=rV fun d hd=>by obtain⟨i,_,rfl⟩:=List.mem_map.mp hd;exact⟨i,rfl⟩
 have n2:gp [.lst (aP ms),.lst (aP ms)]=.ok (.bl true):=rV fun d hd=>by unfold aP at hd;obtain⟨i,_,rfl⟩:=List.mem_map.mp hd;exact⟨_,rfl⟩
 have pk:∀(f:Ex),f [.sh (L ns),.sh (mD ks es),.sh (.lst (fl.map B)),s3,.sh (.lst [L ms,.lst (aP ms)]),.sh (L ms),.sh (.lst (aP ms)),.sh (.lst (fl.map B)),.sh (.int rt)]=.ok (.bl true)→g9 4 f [.sh (L ns),.sh (mD ks es),.sh (.lst (fl.map B)),s3,.on (.tr (.l [.l ((ms.map D.int).map .d),.l ((aP ms).map .d)])),.sh (L ms),.sh (.lst (aP ms)),.sh (.lst (fl.map B)),.sh (.int rt)]=.ok (.bl true):=fun f hf=>by
   unfold g9
   show(if T.fQ (.l [.l ((ms.map D.int).map .d),.l ((aP ms).map .d)])=true then(f [.sh (L ns),.sh (mD ks es),.sh (.lst (fl.map B)),s3,.sh (T.toD (.l [.l ((ms.map D.int).map .d),.l ((aP ms).map .d)])),.sh (L ms),.sh (.lst (aP ms)),.sh (.lst (fl.map B)),.sh (.int rt)]).bind _ else .bad)=_
   rw[if_pos hnoM,htoD,hf];rfl
 have hlayB:lay (.lst (fl.map B))=true:=by
   unfold lay
   refine kj fun d hd=>?_
   obtain⟨x,_,rfl⟩:=List.mem_map.mp hd
   show lay (.tup (x.map .int))=true
   unfold lay
   exact kj fun d hd=>by obtain⟨i,_,rfl⟩:=List.mem_map.mp hd;rfl
 have hdepB:dep (.lst (fl.map B))≤60:=by
   unfold dep
   have:=lr (n:=1) (ds:=fl.map B) fun d hd=>by
     obtain⟨x,_,rfl⟩:=List.mem_map.mp hd
     show dep (.tup (x.map .int))≤1
     unfold dep
     have:=lr (n:=0) (ds:=x.map .int) fun d hd=>by obtain⟨i,_,rfl⟩:=List.mem_map.mp hd;exact Nat.le_refl _
     omega
   omega
 rw[au (dJ (ik (b:=false) (c:=false) (jh (bf (b:=true) (pk _ (cS (aS rfl rfl rfl) rfl n1)))) (ik (b:=false) (c:=false) (jh (bf (b:=true) (pk _ (cS (aS rfl rfl rfl) rfl n2)))) (bf (aS (o:=eJ) rfl rfl (ne_self hlayB hdepB))))))]
 have hcl:lH 4 (pI 4 (pN) (eC (.int 0))) [.sh (L ns),.sh (mD ks es),.sh (.lst (fl.map B)),s3,.on (.tr (.l [.l ((ms.map D.int).map .d),.l ((aP ms).map .d)])),.sh (L ms),.sh (.lst (aP ms)),.sh (.lst (fl.map B)),.sh (.int rt)]=.ok (.next [.sh (L ns),.sh (mD ks es),.sh (.lst (fl.map B)),s3,.on (.tr (.l [.l [],.l ((aP ms).map .d)])),.sh (L ms),.sh (.lst (aP ms)),.sh (.lst (fl.map B)),.sh (.int rt)]):=by
   show(match dj ((ms.map D.int).map .d)with|some _=>R.ok _|none=>.bad)=_
   rw[lI]
   rfl
 rw[au hcl]
 have hap:mH 4 (pI 4 (pN) (eC (.int 1))) (eC (.int 0)) [.sh (L ns),.sh (mD ks es),.sh (.lst (fl.map B)),s3,.on (.tr (.l [.l [],.l ((aP ms).map .d)])),.sh (L ms),.sh (.lst (aP ms)),.sh (.lst (fl.map B)),.sh (.int rt)]=.ok (.next [.sh (L ns),.sh (mD ks es),.sh (.lst (fl.map B)),s3,.on (.tr (.l [.l [],.l ((aP ms++[D.int 0]).map T.d)])),.sh (L ms),.sh (.lst (aP ms)),.sh (.lst (fl.map B)),.sh (.int rt)]):=by
   show(match dj ((aP ms).map .d)with|some vs=>if vs.length<cU then R.ok (Fl.next [.sh (L ns),.sh (mD ks es),.sh (.lst (fl.map B)),s3,.on (.tr (.l [.l [],.l ((vs++[D.int 0]).map T.d)])),.sh (L ms),.sh (.lst (aP ms)),.sh (.lst (fl.map B)),.sh (.int rt)])else .bad|none=>.bad)=_
   rw[lI]
   have:(aP ms).length≤ms.length:=by
     unfold aP
     rw[List.length_map]
     exact Nat.le_trans (List.length_filter_le _ _) (by simp)
   exact if_pos (by show _<16777216;omega)
 rw[au hap]
 have hlm:lay (L ms)=true:=by
   unfold lay
   exact kj fun d hd=>by obtain⟨i,_,rfl⟩:=List.mem_map.mp hd;rfl
 have hdm:dep (L ms)≤60:=by
   unfold dep
   have:=lr (n:=0) (ds:=ms.map .int) fun d hd=>by obtain⟨i,_,rfl⟩:=List.mem_map.mp hd;exact Nat.le_refl _
   omega
 have hlf:lay (.lst (aP ms))=true:=by
   unfold lay
   exact kj fun d hd=>by unfold aP at hd;obtain⟨i,_,rfl⟩:=List.mem_map.mp hd;rfl
 have hdf:dep (.lst (aP ms))≤60:=by
   unfold dep
   have:=lr (n:=0) (ds:=aP ms) fun d hd=>by unfold aP at hd;obtain⟨i,_,rfl⟩:=List.mem_map.mp hd;exact Nat.le_refl _
   omega
 exact dC (b8 (vt (x:=true) (aS (o:=oEq) (bZ rfl eu) rfl (eq_self hlm hdm)) (aS (o:=oEq) (bZ rfl efr) rfl (eq_self hlf hdf))))
end fB
end PL
open PySem PySem.W PyProof.Rows
set_option maxRecDepth 100000 in
set_option maxHeartbeats 0 in
theorem PySem.Challenge.cw_underfloor_k36_maps_holds : PySem.Challenge.rw_underfloor_k36_maps.Holds := by
  w_on; o_law; k_head; (case hw => w_witness2)
  k_fill
  refine PL.walk (l := PySem.Challenge.rw_underfloor_k36_maps) (k := 6) (x := "_law_script") (m := PL.fB.kR) rfl rfl ⟨rfl, by decide, by decide⟩ (fun w h Y => PySem.W.kIn_of Y) ?F PL.fB.xO
  case F =>
    intro w mg fa h KX G hmg
    refine' PL.fB.all_mk KX G hmg ?a0 ?l0 ?c0 ?k0 ?a1 ?l1 ?c1 ?k1 ?a2 ?l2 ?c2 ?k2 ?a3 ?l3 ?c3 ?k3 ?a4 ?l4 ?c4 ?k4 ?a5 ?l5 ?c5 ?k5 ?a6 ?l6 ?c6 ?k6 ?a7 ?l7 ?c7 ?k7 ?a8 ?l8 ?c8 ?k8 ?a9 ?l9 ?c9 ?k9 ?a10 ?l10 ?c10 ?k10 ?a11 ?l11 ?c11 ?k11 ?a12 ?l12 ?c12 ?k12 ?a13 ?l13 ?c13 ?k13 ?a14 ?l14 ?c14 ?k14 ?a15 ?l15 ?c15 ?k15 ?a16 ?l16 ?c16 ?k16 ?a17 ?l17 ?c17 ?k17 ?a18 ?l18 ?c18 ?k18 ?a19 ?l19 ?c19 ?k19 ?a20 ?l20 ?c20 ?k20 ?z_bool ?z_dict ?z_enumerate ?z_int ?z_isinstance ?z_len ?z_list ?z_range ?z_sorted ?z_tuple ?gl_PAGE_WORDS ?gl_FIRST_BLOCK
    (case a0 => k_is)
    (case l0 => k_is)
    (case c0 => k_is)
    (case k0 => k_is)
    (case a1 => k_is)
    (case l1 => k_is)
    (case c1 => k_is)
    (case k1 => k_is)
    (case a2 => k_is)
    (case l2 => k_is)
    (case c2 => k_is)
    (case k2 => k_is)
    (case a3 => k_is)
    (case l3 => k_is)
    (case c3 => k_is)
    (case k3 => k_is)
    (case a4 => k_is)
    (case l4 => k_is)
    (case c4 => k_is)
    (case k4 => k_is)
    (case a5 => k_is)
    (case l5 => k_is)
    (case c5 => k_is)
    (case k5 => k_is)
    (case a6 => k_is)
    (case l6 => k_is)
    (case c6 => k_is)
    (case k6 => k_is)
    (case a7 => k_is)
    (case l7 => k_is)
    (case c7 => k_is)
    (case k7 => k_is)
    (case a8 => k_is)
    (case l8 => k_is)
    (case c8 => k_is)
    (case k8 => k_is)
    (case a9 => k_is)
    (case l9 => k_is)
    (case c9 => k_is)
    (case k9 => k_is)
    (case a10 => k_is)
    (case l10 => k_is)
    (case c10 => k_is)
    (case k10 => k_is)
    (case a11 => k_is)
    (case l11 => k_is)
    (case c11 => k_is)
    (case k11 => k_is)
    (case a12 => k_is)
    (case l12 => k_is)
    (case c12 => k_is)
    (case k12 => k_is)
    (case a13 => k_is)
    (case l13 => k_is)
    (case c13 => k_is)
    (case k13 => k_is)
    (case a14 => k_is)
    (case l14 => k_is)
    (case c14 => k_is)
    (case k14 => k_is)
    (case a15 => k_is)
    (case l15 => k_is)
    (case c15 => k_is)
    (case k15 => k_is)
    (case a16 => k_is)
    (case l16 => k_is)
    (case c16 => k_is)
    (case k16 => k_is)
    (case a17 => k_is)
    (case l17 => k_is)
    (case c17 => k_is)
    (case k17 => k_is)
    (case a18 => k_is)
    (case l18 => k_is)
    (case c18 => k_is)
    (case k18 => k_is)
    (case a19 => k_is)
    (case l19 => k_is)
    (case c19 => k_is)
    (case k19 => k_is)
    (case a20 => k_is)
    (case l20 => k_is)
    (case c20 => k_is)
    (case k20 => k_is)
    (case z_bool => k_is)
    (case z_dict => k_is)
    (case z_enumerate => k_is)
    (case z_int => k_is)
    (case z_isinstance => k_is)
    (case z_len => k_is)
    (case z_list => k_is)
    (case z_range => k_is)
    (case z_sorted => k_is)
    (case z_tuple => k_is)
    (case gl_PAGE_WORDS => refine' PL.sJ KX G ?x1_PAGE_WORDS ?x2_PAGE_WORDS; (case x1_PAGE_WORDS => k_is); (case x2_PAGE_WORDS => exact ⟨_, rfl⟩))
    (case gl_FIRST_BLOCK => refine' PL.sJ KX G ?x1_FIRST_BLOCK ?x2_FIRST_BLOCK; (case x1_FIRST_BLOCK => k_is); (case x2_FIRST_BLOCK => exact ⟨_, rfl⟩))

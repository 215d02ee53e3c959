import PyProof.Rows.All
import Wide.All
import OpenK.AllK
import Wide.FinOn
import Lean
import PyProof.EqAt
import PyProof.EqKinds
import PyProof.TupleCall
import KE.KIntText
import Wide.Seal
import PyProof.Rows.SortStr
import KE.KDictList
import PyProof.StrBlockH
import PySem.Challenge.RW_underfloor_k39_new_floors
set_option Elab.async false
set_option linter.all false
set_option maxRecDepth 100000
namespace L2
open PySem PySem.Spec PyProof.Rows
noncomputable abbrev Key:=Sum Int Str
noncomputable def fM:Key→Value→Bool
 |.inl k,v=>Value.isInt k v
 |.inr x,v=>Value.isStrOf x v
noncomputable def qr(w:World):Key→Int
 |.inl k=>hashInt k
 |.inr x=>hashStr w x
theorem d5:∀ {k:Key} {v:Value},fM k v=true→(∃i t,k=Sum.inl i∧v=Value.int i t)∨(∃x t,k=Sum.inr x∧v=Value.str x t)
 | .inl i,v,h=>by
   obtain⟨t,e⟩:=Value.isInt_shape (k:=i) (v:=v) h
   exact .inl ⟨i,t,rfl,e⟩
 | .inr x,v,h=>by
   obtain⟨t,e⟩:=Value.isStrOf_shape (x:=x) (v:=v) h
   exact .inr ⟨x,t,rfl,e⟩
theorem yI(i:Int)(t:Tok):fM (.inl i) (.int i t)=true:=by simp[fM,Value.isInt]
theorem DD(x:Str)(t:Tok):fM (.inr x) (.str x t)=true:=by simp[fM,Value.isStrOf]
theorem v7(a b:Int):decide ((Sum.inl a:Key)=Sum.inl b)=(a==b):=by
 by_cases e:a=b
 ·subst e;simp
 · have h:¬(Sum.inl a:Key)=Sum.inl b:=fun q=>e (Sum.inl.inj q)
   rw[decide_eq_false h]
   exact(beq_eq_false_iff_ne.mpr e).symm
theorem Eg(a b:Str):decide ((Sum.inr a:Key)=Sum.inr b)=decide (a=b):=by
 by_cases e:a=b
 ·subst e;simp
 · have h:¬(Sum.inr a:Key)=Sum.inr b:=fun q=>e (Sum.inr.inj q)
   rw[decide_eq_false h,decide_eq_false e]
theorem xc(a:Int)(b:Str):decide ((Sum.inl a:Key)=Sum.inr b)=false:=decide_eq_false (fun q=>nomatch q)
theorem zt(a:Str)(b:Int):decide ((Sum.inr a:Key)=Sum.inl b)=false:=decide_eq_false (fun q=>nomatch q)
noncomputable def bt(prog:Program)(w:World):PySem.KeyKind prog w Key where
 is:=fM
 hash:=qr w
 inj:=fun v a b ha hb=>by
   rcases d5 ha with⟨i,t,rfl,rfl⟩|⟨x,t,rfl,rfl⟩
   · rcases d5 hb with⟨j,u,rfl,e⟩|⟨y,u,rfl,e⟩
     ·injection e with e1 _;rw[e1]
     ·exact nomatch e
   · rcases d5 hb with⟨j,u,rfl,e⟩|⟨y,u,rfl,e⟩
     ·exact nomatch e
     ·injection e with e1 _;rw[e1]
 byValue:=fun k v h=>by
   rcases d5 h with⟨i,t,rfl,rfl⟩|⟨x,t,rfl,rfl⟩<;>rfl
 pyHash:=fun hv h=>by
   rcases d5 hv with⟨i,t,rfl,rfl⟩|⟨x,t,rfl,rfl⟩
   ·exact wpAny_pyHash_int h
   ·exact wpAny_pyHash_str h
 eqBool:=fun hu hv h=>by
   rcases d5 hu with⟨i,t,rfl,rfl⟩|⟨x,t,rfl,rfl⟩
   · rcases d5 hv with⟨j,u,rfl,rfl⟩|⟨y,u,rfl,rfl⟩
     ·rw[v7]at h;exact wpAny_eqBool_int h
     ·rw[xc]at h;exact SeqAt.EqAt.int_str i t y u _ _ _ _ h
   · rcases d5 hv with⟨j,u,rfl,rfl⟩|⟨y,u,rfl,rfl⟩
     ·rw[zt]at h;exact SeqAt.EqAt.str_int x t j u _ _ _ _ h
     ·rw[Eg]at h;exact wpAny_eqBool_str h
 «strs»:=fun k x t v h=>by
   rcases d5 h with⟨i,u,rfl,e⟩|⟨y,u,rfl,e⟩
   ·exact nomatch e
   · injection e with e1 _
     subst e1
     cases v<;>rfl
theorem A2(prog:Program)(w:World)(i:Int)(t:Tok):(bt prog w).is (.inl i) (.int i t)=true:=yI i t
theorem wR(prog:Program)(w:World)(x:Str)(t:Tok):(bt prog w).is (.inr x) (.str x t)=true:=DD x t
end L2
namespace L2
open PySem PySem.Spec PyProof.Rows
inductive V where
 |av|bl (b:Bool)|int (i:Int)|str (x:Str)|iN (b:Array UInt8)|kQ (b:UInt64)|ref (a:Addr)|ty (n:String)
 deriving DecidableEq
noncomputable def RelV:V→Value→Prop
 |.av,u=>u=Value.none
 |.bl b,u=>u=Value.bool b
 |.int i,u=>∃t,u=Value.int i t
 |.str x,u=>∃t,u=Value.str x t
 |.iN b,u=>∃t,u=Value.bytes b t
 |.kQ b,u=>∃t,u=Value.float b t
 |.ref a,u=>u=Value.ref a
 |.ty n,u=>u=Value.type n
noncomputable abbrev Vals:List V→List Value→Prop:=Paired RelV
theorem Vals.length{xs:List V}{us:List Value}(r:Vals xs us):xs.length=us.length:=Paired.length r
theorem Vals.get:∀ {xs:List V} {us:List Value} {i:Nat} {x:V},Vals xs us→xs[i]? =some x→∃u,us[i]? =some u∧RelV x u
 |_,_,_,_,.nil,e=>by simp at e
 |_,_,0,_,.cons r _,e=>by simp at e;subst e;exact⟨_,rfl,r⟩
 | _,_,i+1,x,.cons _ t,e=>by
   obtain⟨u,h1,h2⟩:=Vals.get (i:=i) (x:=x) t (by simpa using e)
   exact⟨u,by simpa using h1,h2⟩
theorem Vals.set{x:V}{u:Value}(r:RelV x u):∀ {xs:List V} {us:List Value} (i:Nat),Vals xs us→Vals (xs.set i x) (us.set i u)
 |_,_,_,.nil=>.nil
 |_,_,0,.cons _ t=>.cons r t
 |_,_,i+1,.cons q t=>.cons q (Vals.set r i t)
theorem Vals.append:∀ {xs ys:List V} {us ws:List Value},Vals xs us→Vals ys ws→Vals (xs++ys) (us++ws)
 |_,_,_,_,.nil,s=>s
 |_,_,_,_,.cons r t,s=>.cons r (Vals.append t s)
theorem Vals.take:∀ {xs:List V} {us:List Value} (n:Nat),Vals xs us→Vals (xs.take n) (us.take n)
 |_,_,0,_=>.nil
 |_,_,_+1,.nil=>.nil
 |_,_,n+1,.cons r t=>.cons r (Vals.take n t)
theorem Vals.drop:∀ {xs:List V} {us:List Value} (n:Nat),Vals xs us→Vals (xs.drop n) (us.drop n)
 |_,_,0,r=>r
 |_,_,_+1,.nil=>.nil
 |_,_,n+1,.cons _ t=>Vals.drop n t
theorem Vals.none_of:∀ {xs:List V} {us:List Value} {i:Nat},Vals xs us→xs[i]? =none→us[i]? =none:=fun {xs us i} r e=>by
 have h1:=r.length
 have h2:xs.length≤i:=List.getElem?_eq_none_iff.mp e
 exact List.getElem?_eq_none_iff.mpr (by omega)
noncomputable def cI:Option V→Option Value→Prop
 |some v,some u=>RelV v u
 |none,none=>True
 |_,_=>False
noncomputable def KV{κ:Type}:List (κ×V)→List (κ×Value)→Prop:=Paired fun(p:κ×V) (q:κ×Value)=>p.1=q.1∧RelV p.2 q.2
noncomputable def kV:Key→V
 |.inl i=>.int i
 |.inr x=>.str x
inductive HO where
 |lst (xs:List V)
 |tup (xs:List V)
 |dK (kvs:List (Key×V))|dT (kvs:List (List Key×V))
 |set (S:Int→Bool) (n:Nat)
 |ins (C dx:Addr) (fs:List (Str×V))
 |own (x:Addr)
 |xd (fs:List (Str×V))
 |met (f x:Addr)
 |lR (lo hi:Int)
 |frz (o:Obj) (u:HO)
 |gg (ps:Array Value)
 |ext (φ:Heap→Prop)
noncomputable abbrev Hp:=Addr→Option HO
noncomputable def upd(H:Hp)(a:Addr)(o:HO):Hp:=fun b=>if b=a then some o else H b
theorem bC{H:Hp}{a:Addr}{o:HO}:upd H a o a=some o:=by unfold upd;rw[if_pos rfl]
theorem aA{H:Hp}{a b:Addr}{o:HO}(h:b≠a):upd H a o b=H b:=by unfold upd;rw[if_neg h]
theorem o8{H:Hp}{a:Addr}{o u:HO}:upd (upd H a o) a u=upd H a u:=by
 funext b;unfold upd;split<;>rfl
theorem Dy{H:Hp}{a b:Addr}{o u:HO}(h:H a=some o)(h':H b=some u)(d:o≠u):a≠b:=by
 intro e;subst e;rw[h]at h';exact d (Option.some.inj h')
theorem cP{H:Hp}{a b:Addr}{o:HO}(h:H a=some o)(h':H b=none):a≠b:=by
 intro e;subst e;rw[h]at h';cases h'
section
variable(P:Program)(w:World)
noncomputable def bT(H:Hp)(h:Heap)(a:Addr):HO→Prop
 |.lst xs=>xs.length≤sizeLine∧∃(its:List Value) (n:Nat),Vals xs its∧h.get? a=some {cls:=.type "list",data:=.seq its.toArray n}
 |.tup xs=>xs.length≤sizeLine∧∃its:List Value,Vals xs its∧IsTup h a its.toArray
 |.dK kvs=>kvs.length≤sizeLine∧(a==sysModules)=false∧∃vs,KV kvs vs∧h.DictOf (bt P w) a vs
 |.dT kvs=>kvs.length≤sizeLine∧(a==sysModules)=false∧∃xs:List (List Key×Addr×Value),
     Paired (fun(p:List Key×V) (q:List Key×Addr×Value)=>p.1=q.1∧H q.2.1=some (.tup (p.1.map kV))∧RelV p.2 q.2.2) kvs xs∧
     ∃o es ep,h.get? a=some o∧o.ExactDict∧o.data=.dict es ep∧es.toList=xs.map (entryOfKey (tupleKind (bt P w)))∧(xs.map (·.1)).Nodup
 |.set S n=>h.SetOf (intKind P w) a S n
 |.ins C dx fs=>H dx=some (.own a)∧fs.length≤1000∧dx≠a∧h.get? a=some (PySem.W.instObj C dx)∧
     ∃mA,h.Ns1 dx mA∧(∀f,cI (fs.lookup f) (mA f))∧PySem.Within mA (fs.map (·.1))
 |.own _=>∃o,h.get? a=some o
 |.xd fs=>∃mA,h.Ns1 a mA∧∀f,cI (fs.lookup f) (mA f)
 |.lR lo hi=>∃t u v,h.get? a=some {cls:=.type "range",data:=.fields #[.int lo t,.int hi u,.int 1 v]}
 |.frz o u=>h.get? a=some o∧bT H h a u
 |.gg ps=>h.get? a=some {cls:=.none,data:=.fields ps}
 |.met f x=>h.get? a=some (PySem.W.methodObj (.ref f) (.ref x))
 |.ext φ=>φ h∧(∃o,h.get? a=some o)∧∀h1 h2:Heap,φ h1→(∀o,h1.get? a=some o→h2.get? a=some o)→φ h2
noncomputable def bc(H:Hp)(h:Heap):Prop:=∀a o,H a=some o→bT P w H h a o
end
section
variable{P:Program}{w:World}{H H':Hp}{h h':Heap}{a:Addr}{o:HO}
theorem bT.lt(x:bT P w H h a o):a<h.objs.size:=by
 cases o with
 |lst xs=>obtain⟨_,_,_,_,e⟩:=x;exact Heap.lt_size e
 |tup xs=>obtain⟨_,_,_,p⟩:=x;exact p.lt
 |dK kvs=>obtain⟨_,_,_,_,o,_,_,e,_⟩:=x;exact Heap.lt_size e
 |dT kvs=>obtain⟨_,_,_,_,o,_,_,e,_⟩:=x;exact Heap.lt_size e
 |set S n=>obtain⟨o,_,_,_,e,_⟩:=x;exact Heap.lt_size e
 |ins C dx fs=>obtain⟨_,_,_,e,_⟩:=x;exact Heap.lt_size e
 |own y=>obtain⟨_,e⟩:=x;exact Heap.lt_size e
 |xd fs=>obtain⟨_,⟨_,_,_,e,_⟩,_⟩:=x;exact Heap.lt_size e
 |lR lo hi=>obtain⟨_,_,_,e⟩:=x;exact Heap.lt_size e
 |frz ob u=>obtain⟨e,_⟩:=x;exact Heap.lt_size e
 |gg ps=>exact Heap.lt_size (show h.get? a=some _ from x)
 |met f y=>exact Heap.lt_size (show h.get? a=some _ from x)
 |ext φ=>obtain⟨_,⟨_,e⟩,_⟩:=x;exact Heap.lt_size e
theorem Paired.o5{α β:Type}{F G:α→β→Prop}:∀ {l₁:List α} {l₂:List β},Paired F l₁ l₂→(∀a b,F a b→G a b)→Paired G l₁ l₂
 |_,_,.nil,_=>.nil
 |_,_,.cons r t,f=>.cons (f _ _ r) (Paired.o5 t f)
theorem bT.fg(x:bT P w H h a o)(k:∀b u,(b=a∨H b=some (.own a))→h.get? b=some u→h'.get? b=some u)
   (ho:∀b,H b=some (.own a)→H' b=some (.own a)) (ht:∀b xs,H b=some (.tup xs)→H' b=some (.tup xs)):bT P w H' h' a o:=by
 induction o with
 |lst xs=>obtain⟨z,its,n,r,e⟩:=x;exact⟨z,its,n,r,k _ _ (.inl rfl) e⟩
 |tup xs=>obtain⟨z,its,r,ob,e,c⟩:=x;exact⟨z,its,r,ob,k _ _ (.inl rfl) e,c⟩
 |dK kvs=>obtain⟨z,y,vs,r,ob,es,ep,e,c⟩:=x;exact⟨z,y,vs,r,ob,es,ep,k _ _ (.inl rfl) e,c⟩
 | dT kvs=>
   obtain⟨z,y,xs,r,ob,es,ep,e,c⟩:=x
   exact⟨z,y,xs,Paired.o5 r fun p q z=>⟨z.1,ht _ _ z.2.1,z.2.2⟩,ob,es,ep,k _ _ (.inl rfl) e,c⟩
 |set S n=>obtain⟨ob,es,ep,t,e,c⟩:=x;exact⟨ob,es,ep,t,k _ _ (.inl rfl) e,c⟩
 | ins C dx fs=>
   obtain⟨d,z,ne,e,mA,⟨od,es,ep,e2,c⟩,r⟩:=x
   exact⟨ho _ d,z,ne,k _ _ (.inl rfl) e,mA,⟨od,es,ep,k _ _ (.inr d) e2,c⟩,r⟩
 |own y=>obtain⟨ob,e⟩:=x;exact⟨ob,k _ _ (.inl rfl) e⟩
 |xd fs=>obtain⟨mA,⟨od,es,ep,e,c⟩,r⟩:=x;exact⟨mA,⟨od,es,ep,k _ _ (.inl rfl) e,c⟩,r⟩
 |lR lo hi=>obtain⟨t,u,v,e⟩:=x;exact⟨t,u,v,k _ _ (.inl rfl) e⟩
 |frz ob u ih=>obtain⟨e,q⟩:=x;exact⟨k _ _ (.inl rfl) e,ih q⟩
 | gg ps=>
   have e:h.get? a=some {cls:=.none,data:=.fields ps}:=x
   show h'.get? a=some {cls:=.none,data:=.fields ps}
   exact k a _ (.inl rfl) e
 | met f y=>
   have e:h.get? a=some (PySem.W.methodObj (.ref f) (.ref y)):=x
   show h'.get? a=some (PySem.W.methodObj (.ref f) (.ref y))
   exact k a _ (.inl rfl) e
 |ext φ=>obtain⟨p,⟨o,e⟩,st⟩:=x;exact⟨st _ _ p fun o q=>k _ _ (.inl rfl) q,⟨o,k _ _ (.inl rfl) e⟩,st⟩
theorem bc.lt(x:bc P w H h)(e:H a=some o):a<h.objs.size:=(x a o e).lt
theorem bc.fresh(x:bc P w H h)(e:h.objs.size≤a):H a=none:=by
 cases q:H a with
 |none=>rfl
 |some u=>exact absurd (Nat.lt_of_lt_of_le (x.lt q) e) (Nat.lt_irrefl _)
theorem bc.kept(x:bc P w H h)(k:∀b u,h.get? b=some u→h'.get? b=some u):bc P w H h':=fun a o e=>
 (x a o e).fg (fun b u _ q=>k b u q) (fun _ q=>q) fun _ _ q=>q
theorem bc.laid(x:bc P w H h)(k:∀b u,h.get? b=some u→h'.get? b=some u)(hp:h.objs.size≤a)(new:bT P w (upd H a o) h' a o):bc P w (upd H a o) h':=fun b u e=>by
 have hn:=x.fresh hp
 by_cases hb:b=a
 ·subst hb;rw[bC]at e;cases e;exact new
 · rw[aA hb]at e
   exact(x b u e).fg (fun c v _ q=>k c v q) (fun c q=>by rw[aA (cP q hn)];exact q) fun c xs q=>by rw[aA (cP q hn)];exact q
end
noncomputable def Rd(H:Hp)(a:Addr)(u:HO):Prop:=H a=some u∨∃o,H a=some (.frz o u)
theorem Rd.of{H:Hp}{a:Addr}{u:HO}(h:H a=some u):Rd H a u:=.inl h
theorem Rd.ok{P:Program}{w:World}{H:Hp}{h:Heap}{a:Addr}{u:HO}(r:Rd H a u)(x:bc P w H h):bT P w H h a u:=by
 rcases r with r|⟨o,r⟩
 ·exact x a u r
 · obtain⟨_,q⟩:=x a _ r
   exact q
noncomputable def jM:Option HO→Prop
 |some (.lst _)=>True
 |some (.dK _)=>True
 |some (.dT _)=>True
 |some (.set _ _)=>True
 |some (.ins _ _ _)=>True
 |some (.ext _)=>True
 |_=>False
section
variable{P:Program}{w:World}{H:Hp}{h h':Heap}{x e:Addr}{o':HO}
theorem bc.write(ok:bc P w H h)(mu:jM (H x))(he:e=x∨H e=some (.own x))(k:∀b u,b≠e→h.get? b=some u→h'.get? b=some u)(heo:∃u,h'.get? e=some u)
   (new:bT P w (upd H x o') h' x o'):bc P w (upd H x o') h':=fun b u q=>by
 have nown:∀c y,H c=some (.own y)→c≠x:=fun c y r z=>by subst z;rw[r]at mu;exact mu
 have ntup:∀c xs,H c=some (.tup xs)→c≠x:=fun c xs r z=>by subst z;rw[r]at mu;exact mu
 by_cases hb:b=x
 ·subst hb;rw[bC]at q;cases q;exact new
 · rw[aA hb]at q
   by_cases hbe:b=e
   · have q':H b=some (.own x):=by
       rcases he with z|z
       ·exact absurd (hbe.trans z) hb
       ·rw[hbe];exact z
     rw[q]at q';cases q'
     obtain⟨v,hv⟩:=heo
     exact⟨v,by rw[hbe];exact hv⟩
   · refine(ok b u q).fg (fun c v hc r=>k c v ?_ r) (fun c r=>by rw[aA (nown c b r)];exact r) fun c xs r=>by rw[aA (ntup c xs r)];exact r
     rcases hc with rfl|hc
     ·exact hbe
     · rintro rfl
       rcases he with z|z
       ·exact nown c b hc z
       ·rw[hc]at z;cases z;exact hb rfl
end
structure Un(fs ex:List Addr)(H H':Hp)(h h':Heap):Prop where
 keep:∀b o,h.get? b=some o→H b=none→b∉fs→b∉ex→h'.get? b=some o
 slot:∀b o,h.get? b=some o→H b=none→b∈fs→b∉ex→∃sl,h'.get? b=some {o with slots:=sl}
 free:∀b o,h.get? b=some o→H b=none→b∉ex→H' b=none
 there:∀b o,h.get? b=some o→b∉ex→∃o',h'.get? b=some o'
 dk:∀b xs,H b=some (.tup xs)→H' b=some (.tup xs)
 cQ:∀b o u,H b=some (.frz o u)→H' b=some (.frz o u)
 dD:∀b ps,H b=some (.gg ps)→∃more,H' b=some (.gg (ps++more))
section
variable{fs fs' ex ex':List Addr}{H H1 H2:Hp}{h h1 h2 h':Heap}{a x e:Addr}{o:HO}
theorem Un.any(u:Un fs ex H H1 h h1){b:Addr}{ob:Obj}(q:h.get? b=some ob)(n:H b=none)(hx:b∉ex):∃sl,h1.get? b=some {ob with slots:=sl}:=by
 by_cases hb:b∈fs
 ·exact u.slot b ob q n hb hx
 ·exact⟨ob.slots,u.keep b ob q n hb hx⟩
theorem Un.trans(a:Un fs ex H H1 h h1)(b:Un fs ex H1 H2 h1 h2):Un fs ex H H2 h h2 where
 keep:=fun c ob q n hc hx=>b.keep c ob (a.keep c ob q n hc hx) (a.free c ob q n hx) hc hx
 slot:=fun c ob q n hc hx=>by
   obtain⟨sl,e1⟩:=a.slot c ob q n hc hx
   obtain⟨sl',e2⟩:=b.slot c _ e1 (a.free c ob q n hx) hc hx
   exact⟨sl',e2⟩
 free:=fun c ob q n hx=>by
   obtain⟨o',e1⟩:=a.there c ob q hx
   exact b.free c o' e1 (a.free c ob q n hx) hx
 there:=fun c ob q hx=>by
   obtain⟨o',e1⟩:=a.there c ob q hx
   exact b.there c o' e1 hx
 dk:=fun c xs q=>b.dk c xs (a.dk c xs q)
 cQ:=fun c ob xs q=>b.cQ c ob xs (a.cQ c ob xs q)
 dD:=fun c ps q=>by
   obtain⟨m1,e1⟩:=a.dD c ps q
   obtain⟨m2,e2⟩:=b.dD c _ e1
   exact⟨m1++m2,by rw[e2,Array.append_assoc]⟩
theorem Un.kept(k:∀b u,h.get? b=some u→h'.get? b=some u):Un fs ex H H h h':=
 ⟨fun b ob q _ _ _=>k b ob q,fun b ob q _ _ _=>⟨ob.slots,k b ob q⟩,fun _ _ _ n _=>n,fun b ob q _=>⟨ob,k b ob q⟩,fun _ _ q=>q,fun _ _ _ q=>q,fun _ ps q=>⟨#[],by rw[q];simp⟩⟩
theorem Un.refl:Un fs ex H H h h:=Un.kept fun _ _ q=>q
theorem Un.laid(k:∀b u,h.get? b=some u→h'.get? b=some u)(hp:h.objs.size≤a)(hn:H a=none):Un fs ex H (upd H a o) h h' where
 keep:=fun b u q _ _ _=>k b u q
 slot:=fun b u q _ _ _=>⟨u.slots,k b u q⟩
 free:=fun b u q n _=>by rw[aA (Nat.ne_of_lt (Nat.lt_of_lt_of_le (Heap.lt_size q) hp))];exact n
 there:=fun b u q _=>⟨u,k b u q⟩
 dk:=fun b xs q=>by rw[aA (cP q hn)];exact q
 cQ:=fun b u xs q=>by rw[aA (cP q hn)];exact q
 dD:=fun b ps q=>⟨#[],by rw[aA (cP q hn),q];simp⟩
theorem Un.write(mu:jM (H x))(he:e=x∨H e=some (.own x))(k:∀b u,b≠e→h.get? b=some u→h'.get? b=some u)(heo:∃u,h'.get? e=some u):Un fs ex H (upd H x o) h h':=by
 have hx:∀b,H b=none→b≠x:=fun b n z=>by subst z;rw[n]at mu;exact mu
 have hb:∀b,H b=none→b≠e:=fun b n z=>by
   subst z
   rcases he with r|r
   ·exact hx b n r
   ·rw[n]at r;cases r
 have hm:∀b u,H b=some u→¬jM (some u)→b≠x:=fun b u q nm z=>by subst z;rw[q]at mu;exact nm mu
 refine⟨fun b u q n _ _=>k b u (hb b n) q,fun b u q n _ _=>⟨u.slots,k b u (hb b n) q⟩,fun b u q n _=>by rw[aA (hx b n)];exact n,fun b u q _=>?_,
   fun b xs q=>by rw[aA (hm b _ q fun z=>z)];exact q,fun b u xs q=>by rw[aA (hm b _ q fun z=>z)];exact q,fun b ps q=>⟨#[],by rw[aA (hm b _ q fun z=>z),q];simp⟩⟩
 by_cases hbe:b=e
 ·subst hbe;exact heo
 ·exact⟨u,k b u hbe q⟩
theorem Un.mono(u:Un fs ex H H1 h h1)(hs:∀b∈fs,b∈fs')(hx:∀b∈ex,b∈ex'):Un fs' ex' H H1 h h1:=
 ⟨fun b ob q n hb he=>u.keep b ob q n (fun z=>hb (hs b z)) fun z=>he (hx b z),fun _ _ q n _ he=>u.any q n fun z=>he (hx _ z),fun b ob q n he=>u.free b ob q n fun z=>he (hx b z),fun b ob q he=>u.there b ob q fun z=>he (hx b z),u.dk,u.cQ,u.dD⟩
end
noncomputable def aM(h:Heap)(H:Hp):List Addr:=(List.range h.objs.size).filter fun a=>(H a).isSome
noncomputable def fE(h:Heap)(H:Hp):Heap:=PySem.W.hideAll h (aM h H)
theorem BI(h:Heap)(H:Hp):(fE h H).objs.size=h.objs.size:=PySem.W.hideAll_size _ _
theorem Bb{h:Heap}{H:Hp}{b:Addr}{o:Obj}(e:h.get? b=some o)(n:H b=none):(fE h H).get? b=some o:=
 PySem.W.hideAll_get _ e fun hm=>by
   have q:(H b).isSome=true:=(List.mem_filter.mp hm).2
   rw[n]at q;simp at q
theorem yt{h:Heap}{H:Hp}{b:Addr}{o:Obj}(e:(fE h H).get? b=some o):h.get? b=some o∧H b=none:=by
 have e':h.get? b=some o:=PySem.W.of_hideAll (aM h H) e
 refine⟨e',?_⟩
 cases q:H b with
 |none=>rfl
 | some x=>
   have hm:b∈aM h H:=List.mem_filter.mpr ⟨List.mem_range.mpr (Heap.lt_size e'),by simp[q]⟩
   have z:(fE h H).get? b=none:=PySem.W.hideAll_none (aM h H) hm
   rw[z]at e;cases e
noncomputable def Dj(g h:Heap)(L:Addr):List (Addr×Obj):=(List.range h.objs.size).filterMap fun a=>if a=L∨(g.get? a).isSome=true then none else(h.get? a).map fun o=>(a,o)
noncomputable def rest(g h:Heap)(L d:Addr):List (Addr×Obj):=(Dj g h L).filter fun p=>decide (p.1≠d)
end L2
namespace L2
open PySem PySem.Spec PyProof.Rows
structure Mod(K:PySem.W.Frag)(mg:Str→Option Value)(base:Heap):Prop where
 nU:K.In base
 glob:base.Ns mainGlobals mg
 blt:∃mb,base.Ns builtinsNs mb∧∀x:Str,x≠"__name__"→mb x=bootBuiltins x
 nolimit:base.NoLimit
structure Cx where
 prog:Program
 w:World
 K:PySem.W.Frag
 mg:Str→Option Value
 base:Heap
 A:Around
 N:List Str
 bX:Shared
 cY:Hp
 env:Env
 outer:List Env
 stack:List Env
 ex:List Addr
 fn:Str→Bool
 calm:Bool
 pn:List (Addr×Obj)
 xe:Value→Shared→Prop
noncomputable def b8(l:List Env):List Addr:=l.filterMap (·.frame)
noncomputable abbrev Cx.fs(X:Cx):List Addr:=b8 X.outer
noncomputable def bS(sc:Scope)(x:Str):Prop:=sc.names.lookup x=some .local∨sc.names.lookup x=some .cell∨sc.names.lookup x=some .free
noncomputable def Loc(sc:Scope)(x:Str):Prop:=sc.names.lookup x=some .local∨sc.names.lookup x=some .cell
noncomputable def Look(env:Env)(h:Heap)(m:Str→Option Value)(x:Str)(u:Value):Prop:=
 (env.kindOf x=some .local∧m x=some u)∨((env.kindOf x=some .cell∨env.kindOf x=some .free)∧∃c,env.cells.lookup x=some c∧h.IsCell c (some u))
structure Cx.Ok(X:Cx):Prop where
 mod:Mod X.K X.mg X.base
 kind:X.env.scope.kind=.function
 glob:X.env.globals=mainGlobals
 blt:X.env.builtins=builtinsNs
 above:X.bX.heap.objs.size≤X.env.locals
 inj:∀x y c,X.env.cells.lookup x=some c→X.env.cells.lookup y=some c→x=y
 has:∀x,(X.env.kindOf x=some .cell∨X.env.kindOf x=some .free)→∃c,X.env.cells.lookup x=some c
 jQ:∀x c,X.fn x=true→X.env.cells.lookup x=some c→X.bX.heap.objs.size≤c
 hd:X.calm=true→X.A.handled=none
 frames:X.A.frames=some X.stack
 kO:X.stack=X.outer∨(X.stack=X.env::X.outer∧X.env.frame=some X.env.locals)
 ua:∀b∈X.ex,b≠X.env.locals∧∀x c,X.env.cells.lookup x=some c→c≠b
 bs:∀b o,X.base.get? b=some o→X.bX.heap.get? b=some o∧X.cY b=none
 e6:X.base.objs.size≤X.bX.heap.objs.size
 j7:∀b o,X.base.get? b=some o→b∉X.ex
 kJ:∀b∈X.ex,b∉X.fs
 dX:X.bX.heap.FunFrames X.base X.outer
 ip:∀b∈X.fs,X.cY b=none
structure Inv(X:Cx)(pins:List (Addr×Obj))(σ:List (Option V))(H:Hp)(s:Shared):Prop where
 ok:X.Ok
 os:s.os=X.bX.os
 bare:AllBare s.gens
 base:Un X.fs X.ex X.cY H X.bX.heap s.heap
 loc:∃m,s.heap.Ns X.env.locals m∧∀(i:Nat) (x:Str) (v:V),X.N[i]? =some x→σ[i]? =some (some v)→bS X.env.scope x→∃u,RelV v u∧Look X.env s.heap m x u
 cell:∀x c,X.env.cells.lookup x=some c→∃v,s.heap.IsCell c v
 free:H X.env.locals=none
 eF:∀x c,X.env.cells.lookup x=some c→H c=none
 pin:∀p∈X.pn++pins,s.heap.get? p.1=some p.2∧H p.1=none∧p.1≠X.env.locals∧p.1∉X.fs∧∀v,p.2.data≠.cell v
 au:bc X.prog X.w H s.heap
 len:σ.length=X.N.length
section
variable{X:Cx}{pins:List (Addr×Obj)}{σ:List (Option V)}{H H':Hp}{s:Shared}{h':Heap}
theorem Cx.Ok.xY(ok:X.Ok){b:Addr}{o:Obj}(e:X.base.get? b=some o):b∉X.fs:=fun hb=>by
 have:=(ok.dX.mem hb).1
 rw[e]at this;cases this
theorem Inv.bs(I:Inv X pins σ H s):∀b o,X.base.get? b=some o→s.heap.get? b=some o∧H b=none:=fun b o e=>
 ⟨I.base.keep b o (I.ok.bs b o e).1 (I.ok.bs b o e).2 (I.ok.xY e) (I.ok.j7 b o e),I.base.free b o (I.ok.bs b o e).1 (I.ok.bs b o e).2 (I.ok.j7 b o e)⟩
theorem Inv.bk(I:Inv X pins σ H s):∀b o,X.base.get? b=some o→s.heap.get? b=some o:=fun b o e=>(I.bs b o e).1
theorem Inv.mod(I:Inv X pins σ H s):Mod X.K X.mg X.base:=I.ok.mod
theorem Inv.cx(I:Inv X pins σ H s):X.K.In s.heap:=I.ok.mod.nU.keeps I.bk
theorem Inv.nolimit(I:Inv X pins σ H s):s.heap.NoLimit:=I.ok.mod.nolimit.keeps I.bk
theorem Inv.fr(I:Inv X pins σ H s):∃m,Fr X.base X.env.locals s.heap m:=
 let⟨m,hn,_⟩:=I.loc
 ⟨m,hn,I.bk,Nat.le_trans I.ok.e6 I.ok.above⟩
theorem Inv.lt(I:Inv X pins σ H s):X.env.locals<s.heap.objs.size:=let⟨_,hn,_⟩:=I.loc;hn.lt
theorem Inv.sz(I:Inv X pins σ H s):X.bX.heap.objs.size≤s.heap.objs.size:=Nat.le_trans I.ok.above (Nat.le_of_lt I.lt)
theorem Inv.yf(I:Inv X pins σ H s){a:Addr}(h:s.heap.objs.size≤a):a∉X.fs:=fun hb=>by
 obtain⟨_,o,ho,_⟩:=I.ok.dX.mem hb
 exact absurd (Nat.lt_of_lt_of_le (Heap.lt_size ho) (Nat.le_trans I.sz h)) (Nat.lt_irrefl _)
theorem Inv.hV(I:Inv X pins σ H s):∀x c,X.env.cells.lookup x=some c→c≠X.env.locals:=fun x c e z=>by
 obtain⟨v,o,ho,hd⟩:=I.cell x c e
 obtain⟨m,⟨o',es,ep,ho',hd',_⟩,_⟩:=I.loc
 rw[z,ho']at ho;cases ho;rw[hd']at hd;cases hd
theorem Inv.dX(I:Inv X pins σ H s):s.heap.FunFrames X.base X.outer:=by
 have all:∀(l:List Env),(∀b∈b8 l,b∈X.fs)→X.bX.heap.FunFrames X.base l→s.heap.FunFrames X.base l:=by
   intro l
   induction l with
   |nil=>intro _ _;trivial
   | cons env r ih=>
     intro hs hl
     obtain⟨hk,⟨L,o,hf,hn,ho,hd⟩,hr⟩:=hl
     have hL:L∈X.fs:=hs L (by unfold b8;rw[List.filterMap_cons,hf];exact List.mem_cons_self)
     obtain⟨sl,e⟩:=I.base.slot L o ho (I.ok.ip L hL) hL fun z=>I.ok.kJ L z hL
     exact⟨hk,⟨L,_,hf,hn,e,hd⟩,ih (fun b hb=>hs b (by unfold b8;rw[List.filterMap_cons,hf];exact List.mem_cons_of_mem _ hb)) hr⟩
 exact all X.outer (fun _ hb=>hb) I.ok.dX
theorem Inv.stack(I:Inv X pins σ H s):s.heap.FunFrames X.base X.stack:=by
 rcases I.ok.kO with e|⟨e,hf⟩
 ·rw[e];exact I.dX
 · rw[e]
   obtain⟨m,hn,_⟩:=I.loc
   refine .cons (by rw[I.ok.kind];decide) hf hn ?_ I.dX
   exact Heap.get?_none_of_le (Nat.le_trans I.ok.e6 I.ok.above)
theorem Inv.lM(I:Inv X pins σ H s):∀b∈b8 X.stack,b∈X.env.locals::X.fs:=fun b hb=>by
 rcases I.ok.kO with e|⟨e,hf⟩
 ·rw[e]at hb;exact List.mem_cons_of_mem _ hb
 · rw[e]at hb
   unfold b8 at hb
   rw[List.filterMap_cons,hf]at hb
   exact hb
theorem Inv.qd(I:Inv X pins σ H s):∀b∈b8 X.stack,H b=none:=fun b hb=>by
 rcases List.mem_cons.mp (I.lM b hb)with e|hb
 ·rw[e];exact I.free
 · obtain⟨_,o,ho,_⟩:=I.ok.dX.mem hb
   exact I.base.free b o ho (I.ok.ip b hb) fun z=>I.ok.kJ b z hb
theorem Inv.step{g':Array GenState}{t':Nat}{d':Drawn}{ch:List Addr}(I:Inv X pins σ H s)
   (hch:∀b∈ch,(b∈X.ex∨X.bX.heap.objs.size≤b)∧b≠X.env.locals∧(∀x c,X.env.cells.lookup x=some c→c≠b)∧∀p∈X.pn++pins,p.1≠b)
   (keep:∀b o,b≠X.env.locals→b∉X.fs→b∉ch→s.heap.get? b=some o→H b=none→h'.get? b=some o)
   (slot:∀b o,b≠X.env.locals→b∈X.fs→b∉ch→s.heap.get? b=some o→H b=none→∃sl,h'.get? b=some {o with slots:=sl}) (free:∀b o,b∉ch→s.heap.get? b=some o→H b=none→H' b=none)
   (there:∀b o,b∉ch→s.heap.get? b=some o→∃o',h'.get? b=some o')
   (dk:∀b xs,H b=some (.tup xs)→H' b=some (.tup xs)) (cQ:∀b o u,H b=some (.frz o u)→H' b=some (.frz o u)) (dD:∀b ps,H b=some (.gg ps)→∃more,H' b=some (.gg (ps++more)))
   (ns:∀m,s.heap.Ns X.env.locals m→h'.Ns X.env.locals m) (au:bc X.prog X.w H' h') (hg:AllBare g'):
   Inv X pins σ H' {s with heap:=h',gens:=g',drawn:=d',toks:=t'}:=by
 have neL:∀b o,X.bX.heap.get? b=some o→b≠X.env.locals:=fun b o e=>Nat.ne_of_lt (Nat.lt_of_lt_of_le (Heap.lt_size e) I.ok.above)
 have neC:∀b o,X.bX.heap.get? b=some o→b∉X.ex→b∉ch:=fun b o e hx hb=>by
   rcases(hch b hb).1 with z|z
   ·exact hx z
   ·exact absurd (Nat.lt_of_lt_of_le (Heap.lt_size e) z) (Nat.lt_irrefl _)
 have cellK:∀x c,X.env.cells.lookup x=some c→∀v,s.heap.IsCell c v→h'.IsCell c v:=fun x c e v ⟨o,ho,hd⟩=>by
   have nch:c∉ch:=fun z=>(hch c z).2.2.1 x c e rfl
   by_cases hc:c∈X.fs
   · obtain⟨sl,q⟩:=slot c o (I.hV x c e) hc nch ho (I.eF x c e)
     exact⟨_,q,hd⟩
   ·exact⟨o,keep c o (I.hV x c e) hc nch ho (I.eF x c e),hd⟩
 refine⟨I.ok,I.os,hg,⟨fun b o e n hb hx=>?_,fun b o e n hb hx=>?_,fun b o e n hx=>?_,fun b o e hx=>?_,fun b xs e=>dk b xs (I.base.dk b xs e),fun b o xs e=>cQ b o xs (I.base.cQ b o xs e),fun b ps e=>?_⟩,?_,fun x c e=>?_,?_,fun x c e=>?_,fun p hp=>?_,au,I.len⟩
 ·exact keep b o (neL b o e) hb (neC b o e hx) (I.base.keep b o e n hb hx) (I.base.free b o e n hx)
 · obtain⟨sl,e1⟩:=I.base.slot b o e n hb hx
   obtain⟨sl',e2⟩:=slot b _ (neL b o e) hb (neC b o e hx) e1 (I.base.free b o e n hx)
   exact⟨sl',e2⟩
 · obtain⟨o',e1⟩:=I.base.there b o e hx
   exact free b o' (neC b o e hx) e1 (I.base.free b o e n hx)
 · obtain⟨o',e1⟩:=I.base.there b o e hx
   exact there b o' (neC b o e hx) e1
 · obtain⟨m1,e1⟩:=I.base.dD b ps e
   obtain⟨m2,e2⟩:=dD b _ e1
   exact⟨m1++m2,by rw[e2,Array.append_assoc]⟩
 · obtain⟨m,hn,hl⟩:=I.loc
   refine⟨m,ns m hn,fun i x v e1 e2 e3=>?_⟩
   obtain⟨u,r,l⟩:=hl i x v e1 e2 e3
   refine⟨u,r,?_⟩
   rcases l with l|⟨k,c,e,z⟩
   ·exact .inl l
   ·exact .inr ⟨k,c,e,cellK x c e _ z⟩
 · obtain⟨v,z⟩:=I.cell x c e
   exact⟨v,cellK x c e v z⟩
 · obtain⟨m,⟨o,_,_,ho,_⟩,_⟩:=I.loc
   exact free _ o (fun z=>(hch _ z).2.1 rfl) ho I.free
 · obtain⟨v,o,ho,hd⟩:=I.cell x c e
   exact free c o (fun z=>(hch c z).2.2.1 x c e rfl) ho (I.eF x c e)
 · obtain⟨e,n,ne,nf,d⟩:=I.pin p hp
   have nch:p.1∉ch:=fun z=>(hch p.1 z).2.2.2 p hp rfl
   exact⟨keep p.1 p.2 ne nf nch e n,free p.1 p.2 nch e n,ne,nf,d⟩
theorem Inv.un{t':Nat}(I:Inv X pins σ H s)(u:Un X.fs [] H H' s.heap h')(au:bc X.prog X.w H' h'):Inv X pins σ H' {s with heap:=h',toks:=t'}:=by
 obtain⟨m,⟨o,es,ep,ho,r⟩,_⟩:=id I.loc
 obtain⟨sl,hL⟩:=u.any ho I.free (by simp)
 exact I.step (g':=s.gens) (d':=s.drawn) (ch:=[]) (fun _ z=>nomatch z) (fun b o _ hb _ e n=>u.keep b o e n hb (by simp)) (fun b o _ hb _ e n=>u.slot b o e n hb (by simp)) (fun b o _ e n=>u.free b o e n (by simp)) (fun b o _ e=>u.there b o e (by simp)) u.dk u.cQ u.dD (fun m' hm=>by
   obtain⟨o',es',ep',ho',r'⟩:=hm
   rw[ho]at ho';cases ho'
   exact⟨_,es',ep',hL,r'⟩) au I.bare
theorem Inv.call{g':Array GenState}{t':Nat}{d':Drawn}{ch:List Addr}(I:Inv X pins σ H s)(u:Un (b8 X.stack) ch H H' s.heap h')(au:bc X.prog X.w H' h')(hg:AllBare g')
   (hch:∀b∈ch,(b∈X.ex∨X.bX.heap.objs.size≤b)∧b≠X.env.locals∧(∀x c,X.env.cells.lookup x=some c→c≠b)∧∀p∈X.pn++pins,p.1≠b):
   Inv X pins σ H' {s with heap:=h',gens:=g',drawn:=d',toks:=t'}:=by
 obtain⟨m,⟨o,es,ep,ho,r⟩,_⟩:=id I.loc
 obtain⟨sl,hL⟩:=u.any ho I.free fun z=>(hch _ z).2.1 rfl
 exact I.step (ch:=ch) hch (fun b o hL hb hc e n=>u.keep b o e n (fun z=>(List.mem_cons.mp (I.lM b z)).elim hL hb) hc) (fun b o _ _ hc e n=>u.any e n hc) (fun b o hc e n=>u.free b o e n hc) (fun b o hc e=>u.there b o e hc) u.dk u.cQ u.dD (fun m' hm=>by
   obtain⟨o',es',ep',ho',r'⟩:=hm
   rw[ho]at ho';cases ho'
   exact⟨_,es',ep',hL,r'⟩) au hg
theorem Inv.turned{t':Nat}{it:Addr}(I:Inv X pins σ H s)(k:∀b o,b≠it→s.heap.get? b=some o→h'.get? b=some o)(hn:H it=none)(hL:it≠X.env.locals)
   (h1:it∈X.ex∨X.bX.heap.objs.size≤it) (h2:∀x c,X.env.cells.lookup x=some c→c≠it) (h3:∀p∈X.pn++pins,p.1≠it):Inv X pins σ H {s with heap:=h',toks:=t'}:=by
 have nit:∀b u,H b=some u→b≠it:=fun b u e z=>by rw[z,hn]at e;cases e
 refine I.step (g':=s.gens) (d':=s.drawn) (ch:=[it]) (fun b hb=>?_) (fun b o _ _ hc e _=>k b o (fun z=>hc (by simp[z])) e) (fun b o _ _ hc e _=>⟨o.slots,k b o (fun z=>hc (by simp[z])) e⟩) (fun _ _ _ _ n=>n)
   (fun b o hc e=>⟨o,k b o (fun z=>hc (by simp[z])) e⟩) (fun _ _ e=>e) (fun _ _ _ e=>e) (fun b ps e=>⟨#[],by rw[e];simp⟩) (fun m hm=>?_) (fun b u e=>?_) I.bare
 · have e:b=it:=by simpa using hb
   subst e
   exact⟨h1,hL,h2,h3⟩
 · obtain⟨o,es,ep,ho,r⟩:=hm
   exact⟨o,es,ep,k _ o (Ne.symm hL) ho,r⟩
 · refine(I.au b u e).fg (fun c v hc q=>k c v ?_ q) (fun _ q=>q) fun _ _ q=>q
   rcases hc with z|z
   ·rw[z];exact nit b u e
   ·exact nit c _ z
theorem Inv.tok(I:Inv X pins σ H s)(t:Nat):Inv X pins σ H {s with toks:=t}:=I.un (h':=s.heap) (t':=t) Un.refl I.au
theorem Inv.kept{t':Nat}(I:Inv X pins σ H s)(k:∀b u,s.heap.get? b=some u→h'.get? b=some u):Inv X pins σ H {s with heap:=h',toks:=t'}:=I.un (Un.kept k) (I.au.kept k)
theorem Inv.laid{a:Addr}{o:HO}{t':Nat}(I:Inv X pins σ H s)(k:∀b u,s.heap.get? b=some u→h'.get? b=some u)(hp:s.heap.objs.size≤a)(new:bT X.prog X.w (upd H a o) h' a o):
   Inv X pins σ (upd H a o) {s with heap:=h',toks:=t'}:=I.un (Un.laid k hp (I.au.fresh hp)) (I.au.laid k hp new)
theorem Inv.write{x e:Addr}{o:HO}{t':Nat}(I:Inv X pins σ H s)(mu:jM (H x))(he:e=x∨H e=some (.own x))(k:∀b u,b≠e→s.heap.get? b=some u→h'.get? b=some u)(heo:∃u,h'.get? e=some u)
   (new:bT X.prog X.w (upd H x o) h' x o):Inv X pins σ (upd H x o) {s with heap:=h',toks:=t'}:=I.un (Un.write mu he k heo) (I.au.write mu he k heo new)
theorem Inv.pW{pins':List (Addr×Obj)}(I:Inv X pins σ H s)(h:∀p∈pins',s.heap.get? p.1=some p.2∧H p.1=none∧p.1≠X.env.locals∧p.1∉X.fs∧∀v,p.2.data≠.cell v):Inv X pins' σ H s:=
 ⟨I.ok,I.os,I.bare,I.base,I.loc,I.cell,I.free,I.eF,fun p hp=>(List.mem_append.mp hp).elim (fun z=>I.pin p (List.mem_append_left _ z)) (h p),I.au,I.len⟩
theorem qh{N:List Str}(hN:N.Nodup){i j:Nat}{x:Str}(a:N[i]? =some x)(b:N[j]? =some x):i=j:=by
 obtain⟨h1,e1⟩:=List.getElem?_eq_some_iff.mp a
 obtain⟨h2,e2⟩:=List.getElem?_eq_some_iff.mp b
 exact(List.getElem_inj hN).mp (e1.trans e2.symm)
theorem qI{M:Model}{A:Around}{E:Value→Shared→Prop}{i:Nat}{x:Str}{v:V}{u:Value}{Q:Unit→Shared→Prop}(I:Inv X pins σ H s)(hN:X.N.Nodup)(hi:X.N[i]? =some x)(hx:Loc X.env.scope x)(r:RelV v u)
   (h:∀s',Inv X pins (σ.set i (some v)) H s'→(∃a,Heap.SameBut a s.heap s'.heap∧(a=X.env.locals∨X.env.cells.lookup x=some a))→Q () s') (hf:X.fn x=true∨X.env.scope.names.lookup x=some .local:=by first|exact .inl rfl|exact .inr rfl|assumption):wpAny M A (storeName X.env x u) Q E s:=by
 obtain⟨m,hn,hl⟩:=id I.loc
 have hcls:(X.env.scope.kind==.class||(X.env.scope.kind==.module&&X.env.locals != X.env.globals))=false:=by rw[I.ok.kind];rfl
 have hiσ:i<σ.length:=by rw[I.len];exact(List.getElem?_eq_some_iff.mp hi).1
 have hV:=I.hV
 have tracked:∀ {a:Addr} {h':Heap},(∃o,s.heap.get? a=some o∧H a=none)→Heap.SameBut a s.heap h'→bc X.prog X.w H h':=fun {a h'} ha hs b ob e=>by
   obtain⟨_,_,hfree⟩:=ha
   refine(I.au b ob e).fg (fun c w' hc q=>(hs.2 c ?_).trans q) (fun _ q=>q) fun _ _ q=>q
   rintro rfl
   rcases hc with rfl|hc
   ·rw[hfree]at e;cases e
   ·rw[hfree]at hc;cases hc
 rcases hx with hk|hk
 · refine wpAny_storeName_local hk hn (fun h' hn' hs=>?_) hcls
   obtain⟨oL,_,_,hoL,_⟩:=id hn
   refine h _ ⟨I.ok,I.os,I.bare,⟨fun b o e n hb hx=>?_,fun b o e n hb hx=>?_,I.base.free,fun b o e hx=>?_,I.base.dk,I.base.cQ,I.base.dD⟩,⟨_,hn',fun j y v' e1 e2 e3=>?_⟩,fun y c e=>?_,I.free,I.eF,fun p hp=>?_,tracked ⟨oL,hoL,I.free⟩ hs,by simpa using I.len⟩ ⟨_,hs,.inl rfl⟩
   ·exact(hs.2 b (Nat.ne_of_lt (Nat.lt_of_lt_of_le (Heap.lt_size e) I.ok.above))).trans (I.base.keep b o e n hb hx)
   · obtain⟨sl,e1⟩:=I.base.slot b o e n hb hx
     exact⟨sl,(hs.2 b (Nat.ne_of_lt (Nat.lt_of_lt_of_le (Heap.lt_size e) I.ok.above))).trans e1⟩
   · obtain⟨o',e1⟩:=I.base.there b o e hx
     exact⟨o',(hs.2 b (Nat.ne_of_lt (Nat.lt_of_lt_of_le (Heap.lt_size e) I.ok.above))).trans e1⟩
   · by_cases hj:j=i
     · subst hj
       rw[hi]at e1;cases e1
       rw[List.getElem?_set_self hiσ]at e2
       cases e2
       exact⟨u,r,.inl ⟨hk,by simp⟩⟩
     · rw[List.getElem?_set_ne (Ne.symm hj)]at e2
       obtain⟨u',r',q⟩:=hl j y v' e1 e2 e3
       refine⟨u',r',?_⟩
       rcases q with⟨k,e⟩|⟨k,c,e,z⟩
       · refine .inl ⟨k,?_⟩
         have:y≠x:=fun e=>hj (qh hN e1 (e▸hi))
         simp[this,e]
       ·exact .inr ⟨k,c,e,z.sameBut hs (hV y c e)⟩
   · obtain⟨w',z⟩:=I.cell y c e
     exact⟨w',z.sameBut hs (hV y c e)⟩
   · obtain⟨e,n,ne,nf,d⟩:=I.pin p hp
     exact⟨(hs.2 p.1 ne).trans e,n,ne,nf,d⟩
 · have hfn:X.fn x=true:=by
     rcases hf with z|z
     ·exact z
     ·rw[z]at hk;cases hk
   obtain⟨c,hc⟩:=I.ok.has x (.inl hk)
   obtain⟨w',z⟩:=I.cell x c hc
   refine wpAny_storeName_cell I.ok.kind hk hc z (fun h' hc' hs=>?_)
   obtain⟨oc,hoc,hocd⟩:=id z
   refine h {s with heap:=h'} ⟨I.ok,I.os,I.bare,⟨fun b o e n hb hx=>?_,fun b o e n hb hx=>?_,I.base.free,fun b o e hx=>?_,I.base.dk,I.base.cQ,I.base.dD⟩,⟨m,hn.sameBut hs (Ne.symm (hV x c hc)),fun j y v' e1 e2 e3=>?_⟩,fun y c' e=>?_,I.free,I.eF,fun p hp=>?_,tracked ⟨oc,hoc,I.eF x c hc⟩ hs,by simpa using I.len⟩ ⟨c,hs,.inr hc⟩
   ·exact(hs.2 b (Nat.ne_of_lt (Nat.lt_of_lt_of_le (Heap.lt_size e) (I.ok.jQ x c hfn hc)))).trans (I.base.keep b o e n hb hx)
   · obtain⟨sl,e1⟩:=I.base.slot b o e n hb hx
     exact⟨sl,(hs.2 b (Nat.ne_of_lt (Nat.lt_of_lt_of_le (Heap.lt_size e) (I.ok.jQ x c hfn hc)))).trans e1⟩
   · obtain⟨o',e1⟩:=I.base.there b o e hx
     exact⟨o',(hs.2 b (Nat.ne_of_lt (Nat.lt_of_lt_of_le (Heap.lt_size e) (I.ok.jQ x c hfn hc)))).trans e1⟩
   · by_cases hj:j=i
     · subst hj
       rw[hi]at e1;cases e1
       rw[List.getElem?_set_self hiσ]at e2
       cases e2
       exact⟨u,r,.inr ⟨.inl hk,c,hc,hc'⟩⟩
     · rw[List.getElem?_set_ne (Ne.symm hj)]at e2
       obtain⟨u',r',q⟩:=hl j y v' e1 e2 e3
       refine⟨u',r',?_⟩
       rcases q with q|⟨k,c',e,z'⟩
       ·exact .inl q
       · refine .inr ⟨k,c',e,z'.sameBut hs ?_⟩
         rintro rfl
         exact hj (qh hN e1 (I.ok.inj _ _ _ e hc▸hi))
   · by_cases hcc:c'=c
     ·subst hcc;exact⟨_,hc'⟩
     · obtain⟨w2,z2⟩:=I.cell y c' e
       exact⟨w2,z2.sameBut hs hcc⟩
   · obtain⟨e,n,ne,nf,d⟩:=I.pin p hp
     refine⟨(hs.2 p.1 ?_).trans e,n,ne,nf,d⟩
     intro q
     rw[q,hoc]at e
     have q':oc=p.2:=Option.some.inj e
     exact d w' (by rw[←q'];exact hocd)
theorem uo{M:Model}{A:Around}{E:Value→Shared→Prop}{i:Nat}{x:Str}{v:V}{u:Value}{Q:Unit→Shared→Prop}(I:Inv X pins σ H s)(hN:X.N.Nodup)(hi:X.N[i]? =some x)(hx:Loc X.env.scope x)(r:RelV v u)
   (h:∀s',Inv X pins (σ.set i (some v)) H s'→Q () s') (hf:X.fn x=true∨X.env.scope.names.lookup x=some .local:=by first|exact .inl rfl|exact .inr rfl|assumption):wpAny M A (storeName X.env x u) Q E s:=
 qI I hN hi hx r (fun s' I' _=>h s' I') hf
theorem Inv.lQ{s':Shared}{ch:List Addr}(I:Inv X pins σ H s)(ho:s'.os=s.os)(u:Un (b8 X.stack) ch H H' s.heap s'.heap)(au:bc X.prog X.w H' s'.heap)(hg:AllBare s'.gens)
   (hch:∀b∈ch,(b∈X.ex∨X.bX.heap.objs.size≤b)∧b≠X.env.locals∧(∀x c,X.env.cells.lookup x=some c→c≠b)∧∀p∈X.pn++pins,p.1≠b):Inv X pins σ H' s':=by
 obtain⟨h',g',d',t',o'⟩:=s'
 have e:o'=s.os:=ho
 subst e
 exact I.call (g':=g') (t':=t') (d':=d') u au hg hch
end
noncomputable abbrev XK:=Value→Option Addr→Hp→Prop
noncomputable abbrev St:=List (Option V)
noncomputable abbrev VK:=V→Hp→Prop
noncomputable abbrev TE:=St→Hp→VK→Prop
noncomputable abbrev TT:=St→Hp→(Bool→Hp→Prop)→Prop
noncomputable abbrev TA:=St→Hp→(List V→Hp→Prop)→Prop
structure Ends where
 nx:St→Hp→Prop
 rt:VK
 bk:St→Hp→Prop:=fun _ _=>False
 ct:St→Hp→Prop:=fun _ _=>False
noncomputable abbrev TS:=Ends→St→Hp→Prop
noncomputable def EP(X:Cx)(pins:List (Addr×Obj))(σ:St)(Q:VK)(u:Value)(s':Shared):Prop:=∃v H',Inv X pins σ H' s'∧RelV v u∧Q v H'
noncomputable def TP(X:Cx)(pins:List (Addr×Obj))(σ:St)(Q:Bool→Hp→Prop)(b:Bool)(s':Shared):Prop:=∃H',Inv X pins σ H' s'∧Q b H'
noncomputable def AP(X:Cx)(pins:List (Addr×Obj))(σ:St)(Q:List V→Hp→Prop)(us:List Value)(s':Shared):Prop:=∃vs H',Inv X pins σ H' s'∧Vals vs us∧Q vs H'
noncomputable def SP(X:Cx)(pins:List (Addr×Obj))(D:Ends)(f:Flow)(s':Shared):Prop:=
 match f with
 |.next=>∃σ' H',Inv X pins σ' H' s'∧D.nx σ' H'
 |.brk=>∃σ' H',Inv X pins σ' H' s'∧D.bk σ' H'
 |.cont=>∃σ' H',Inv X pins σ' H' s'∧D.ct σ' H'
 |.ret u=>∃v σ' H',Inv X pins σ' H' s'∧RelV v u∧D.rt v H'
noncomputable def PE(X:Cx)(e:Expr)(t:TE):Prop:=
 ∀(pins:List (Addr×Obj)) (s:Shared) (σ:St) (H:Hp) (Q:VK),Inv X pins σ H s→t σ H Q→wpAny (model X.prog X.w) X.A (eval e X.env) (EP X pins σ Q) X.xe s
noncomputable def PT(X:Cx)(e:Expr)(t:TT):Prop:=
 ∀(pins:List (Addr×Obj)) (s:Shared) (σ:St) (H:Hp) (Q:Bool→Hp→Prop),Inv X pins σ H s→t σ H Q→wpAny (model X.prog X.w) X.A (isTrue e X.env (eval e X.env)) (TP X pins σ Q) X.xe s
noncomputable def PW(X:Cx)(e:Expr)(t:TT):Prop:=
 ∀(whole:Sem Value) (pins:List (Addr×Obj)) (s:Shared) (σ:St) (H:Hp) (Q:Bool→Hp→Prop),Inv X pins σ H s→t σ H Q→wpAny (model X.prog X.w) X.A (isTrue e X.env whole) (TP X pins σ Q) X.xe s
theorem PW.pt{X:Cx}{e:Expr}{t:TT}(h:PW X e t):PT X e t:=h _
noncomputable def PA(X:Cx)(es:List Expr)(t:TA):Prop:=
 ∀(pos:Pos) (pins:List (Addr×Obj)) (s:Shared) (σ:St) (H:Hp) (Q:List V→Hp→Prop),Inv X pins σ H s→t σ H Q→wpAny (model X.prog X.w) X.A (spliced (backTo pos (starEach es X.env))) (AP X pins σ Q) X.xe s
noncomputable def PS(X:Cx)(st:Stmt)(t:TS):Prop:=
 ∀(pins:List (Addr×Obj)) (s:Shared) (σ:St) (H:Hp) (D:Ends),Inv X pins σ H s→t D σ H→wpAny (model X.prog X.w) X.A (exec st X.env) (SP X pins D) X.xe s
noncomputable def bJ(X:Cx)(st:List Stmt)(t:TS):Prop:=
 ∀(pins:List (Addr×Obj)) (s:Shared) (σ:St) (H:Hp) (D:Ends),Inv X pins σ H s→t D σ H→wpAny (model X.prog X.w) X.A (execs st X.env) (SP X pins D) X.xe s
theorem ar{α:Type}{t:Sem α}{Q Q':α→Shared→Prop}{M:Model}{A:Around}{E:Value→Shared→Prop}{s:Shared}(h:wpAny M A t Q E s)(hQ:∀a s,Q a s→Q' a s):wpAny M A t Q' E s:=wpAny_mono h hQ fun _ _ x=>x
end L2
namespace L2
open PySem PySem.Spec PyProof.Rows
section
variable{X:Cx}
theorem bin{a b:Expr}{ta tb:TE}(ha:PE X a ta)(hb:PE X b tb){pins:List (Addr×Obj)}{s:Shared}{σ:St}{H:Hp}{R:V→V→Hp→Prop}(I:Inv X pins σ H s)(h:ta σ H fun x H1=>tb σ H1 fun y H2=>R x y H2)
   {α:Type} {Q:α→Shared→Prop} {f:Value→Value→Sem α}
   (hf:∀v u s2 x y H2,Inv X pins σ H2 s2→RelV x v→RelV y u→R x y H2→wpAny (model X.prog X.w) X.A (f v u) Q X.xe s2):
   wpAny (model X.prog X.w) X.A (eval a X.env) (fun v s₁=>wpAny (model X.prog X.w) X.A (eval b X.env) (fun u s₂=>wpAny (model X.prog X.w) X.A (f v u) Q X.xe s₂) X.xe s₁) X.xe s:=by
 refine ar (ha pins s σ H _ I h) fun v s1 ⟨x,H1,I1,r1,q1⟩=>?_
 refine ar (hb pins s1 σ H1 _ I1 q1) fun u s2 ⟨y,H2,I2,r2,q2⟩=>?_
 exact hf v u s2 x y H2 I2 r1 r2 q2
noncomputable def pd(i:Nat):TE:=fun σ H Q=>∃v,σ[i]? =some (some v)∧Q v H
noncomputable def tC(v:V):TE:=fun _ H Q=>Q v H
theorem vq{i:Nat}{x:Str}{pos:Pos}(hN:X.N[i]? =some x)(hv:bS X.env.scope x)(hd:(x==("__debug__":Str))=false:=by decide)(hcd:(x==("__classdict__":Str))=false:=by decide):PE X (.Name x pos) (pd i):=by
 intro pins s σ H Q I h
 obtain⟨v,e,h⟩:=h
 obtain⟨m,hn,hl⟩:=I.loc
 obtain⟨u,r,l⟩:=hl i x v hN e hv
 have fin:EP X pins σ Q u s:=⟨v,H,I,r,h⟩
 rcases l with⟨hk,hm⟩|⟨hk,c,hc,hcell⟩
 ·exact wpAny_Name (wpAny_loadName_local I.ok.kind hk hn hm fin) hd
 · rcases hk with hk|hk
   ·exact wpAny_Name (wpAny_loadName_cell I.ok.kind hk hc hcell fin) hd
   ·exact wpAny_Name (wpAny_loadName_free I.ok.kind hk hc hcell fin hcd) hd
theorem Ca{i j pos}:PE X (.Constant (.int i) j pos) (tC (.int i)):=fun _ _ _ H _ I h=>wpAny_Constant_int ⟨.int i,H,I.tok _,⟨_,rfl⟩,h⟩
theorem xw{b j pos}:PE X (.Constant (.bool b) j pos) (tC (.bl b)):=fun _ _ _ H _ I h=>Constant_bool ⟨.bl b,H,I,rfl,h⟩
theorem F4{j pos}:PE X (.Constant .none j pos) (tC .av):=fun _ _ _ H _ I h=>Constant_none ⟨.av,H,I,rfl,h⟩
theorem CP{x j pos}:PE X (.Constant (.str x) j pos) (tC (.str x)):=fun _ _ _ H _ I h=>Calls.Constant_str ⟨.str x,H,I.tok _,⟨_,rfl⟩,h⟩
noncomputable def Gl(X:Cx)(x:Str):Prop:=X.env.kindOf x=some .globalImplicit
theorem pI{E:Value→Shared→Prop}{pins:List (Addr×Obj)}{s:Shared}{σ:St}{H:Hp}{x:Str}{u:Value}{pos:Pos}{Q:Value→Shared→Prop}(I:Inv X pins σ H s)(hg:Gl X x)(hm:X.mg x=some u)(h:Q u s)
   (hd:(x==("__debug__":Str))=false:=by decide):wpAny (model X.prog X.w) X.A (eval (.Name x pos) X.env) Q E s:=
 Calls.Name_function_global I.ok.kind hg (Calls.loadGlobal_global (by rw[I.ok.glob];exact I.mod.glob.keeps I.bk) hm h) hd
theorem eM{E:Value→Shared→Prop}{pins:List (Addr×Obj)}{s:Shared}{σ:St}{H:Hp}{x:Str}{u:Value}{pos:Pos}{Q:Value→Shared→Prop}(I:Inv X pins σ H s)(hg:Gl X x)(hm:X.mg x=none)(hv:bootBuiltins x=some u)(h:Q u s)
   (hn:x≠"__name__":=by decide) (hd:(x==("__debug__":Str))=false:=by decide):wpAny (model X.prog X.w) X.A (eval (.Name x pos) X.env) Q E s:=by
 obtain⟨mb,h1,h2⟩:=I.mod.blt
 exact Calls.Name_function_global I.ok.kind hg (Calls.loadGlobal_builtin (by rw[I.ok.glob];exact I.mod.glob.keeps I.bk) hm (by rw[I.ok.blt];exact h1.keeps I.bk) ((h2 x hn).trans hv) h) hd
theorem CS{x:Str}{v:V}{u:Value}{pos:Pos}(hg:Gl X x)(hm:X.mg x=some u)(r:RelV v u)(hd:(x==("__debug__":Str))=false:=by decide):PE X (.Name x pos) (tC v):=
 fun _ _ _ H _ I h=>pI I hg hm ⟨v,H,I,r,h⟩ hd
theorem Dh{x:Str}{v:V}{u:Value}{pos:Pos}(hg:Gl X x)(hm:X.mg x=none)(hv:bootBuiltins x=some u)(r:RelV v u)(hn:x≠"__name__":=by decide)(hd:(x==("__debug__":Str))=false:=by decide):PE X (.Name x pos) (tC v):=
 fun _ _ _ H _ I h=>eM I hg hm hv ⟨v,H,I,r,h⟩ hn hd
variable{a b:Expr}{ta tb:TE}{pos:Pos}
noncomputable def PC(X:Cx)(op:CmpOp)(a b:Expr)(t:TE):Prop:=
 ∀(pins:List (Addr×Obj)) (s:Shared) (σ:St) (H:Hp) (Q:VK),Inv X pins σ H s→t σ H Q→
   wpAny (model X.prog X.w) X.A (eval a X.env) (fun v s₁=>wpAny (model X.prog X.w) X.A (eval b X.env) (fun u s₂=>wpAny (model X.prog X.w) X.A (compareOp op v u) (EP X pins σ Q) X.xe s₂) X.xe s₁) X.xe s
theorem uk(b:Expr){op:CmpOp}(h:op≠.In)(h2:op≠.NotIn):behindInMarks op b=false:=by
 have e1:(op==CmpOp.In)=false:=by cases op<;>first|rfl|exact absurd rfl h
 have e2:(op==CmpOp.NotIn)=false:=by cases op<;>first|rfl|exact absurd rfl h2
 cases b<;>simp[behindInMarks,e1,e2]
noncomputable def Dq(ta:TE):TE:=fun σ H Q=>ta σ H fun x H1=>Q (.bl (decide (x=.av))) H1
noncomputable def yO(ta:TE):TE:=fun σ H Q=>ta σ H fun x H1=>Q (.bl (!decide (x=.av))) H1
theorem RelV.uf{x:V}{v:Value}(r:RelV x v):(v==Value.none)=decide (x=.av):=by
 cases x with
 |av=>cases r;rfl
 |bl _=>cases r;rfl
 |int _=>obtain⟨t,rfl⟩:=r;rfl
 |str _=>obtain⟨t,rfl⟩:=r;rfl
 |iN _=>obtain⟨t,rfl⟩:=r;rfl
 |kQ _=>obtain⟨t,rfl⟩:=r;rfl
 |ref _=>cases r;rfl
 |ty _=>cases r;rfl
theorem Fb{j pos'}(ha:PE X a ta):PC X .Is a (.Constant .none j pos') (Dq ta):=by
 intro pins s σ H Q I h
 refine ar (ha pins s σ H _ I h) fun v s1 ⟨x,H1,I1,r1,q1⟩=>?_
 exact Constant_none (is_none_gen ⟨.bl _,H1,I1,by rw[r1.uf];rfl,q1⟩)
theorem zr{j pos'}(ha:PE X a ta):PC X .IsNot a (.Constant .none j pos') (yO ta):=by
 intro pins s σ H Q I h
 refine ar (ha pins s σ H _ I h) fun v s1 ⟨x,H1,I1,r1,q1⟩=>?_
 exact Constant_none (isnot_none_gen ⟨.bl _,H1,I1,by rw[r1.uf];rfl,q1⟩)
noncomputable def tB(t:TE):TT:=fun σ H Q=>t σ H fun x H1=>∃c,x=.bl c∧Q c H1
theorem CT{op:CmpOp}{t:TE}(h:PC X op a b t)(h1:behindInMarks op b=false:=by first|exact uk _ (by decide) (by decide)|rfl):PE X (.Compare a [op] [b] pos) t:=fun pins s σ H Q I hw=>wpAny_Compare1 (h pins s σ H Q I hw) h1
theorem D3{op:CmpOp}{t:TE}(h:PC X op a b t)(h1:behindInMarks op b=false:=by first|exact uk _ (by decide) (by decide)|rfl):PT X (.Compare a [op] [b] pos) (tB t):=by
 intro pins s σ H Q I hw
 refine wpAny_isTrue_Compare1 (ar (h pins s σ H _ I hw) fun v s1 h1=>ar h1 fun u s2 h2=>ar h2 fun c s3 ⟨x,H1,I1,r1,q1⟩=>?_) h1
 obtain⟨d,rfl,q⟩:=q1
 cases r1
 exact wpAny_truthy_bool ⟨H1,I1,q⟩
variable{tA tB':TT}{rest:List Expr}
noncomputable def bY(t u:TT):TT:=fun σ H Q=>t σ H fun c H1=>if c=true then Q true H1 else u σ H1 Q
noncomputable def bV(t:TT):TT:=fun σ H Q=>t σ H fun c H1=>Q (!c) H1
theorem Bj(ha:PT X a tA):PW X (.BoolOp .Or [a] pos) tA:=by
 intro wh pins s σ H Q I h
 refine isTrue_or (ar (ha pins s σ H Q I h) fun c s1 e=>?_)
 cases c with
 |false=>exact isTrue_or_nil e
 |true=>exact e
theorem uV(ha:PT X a tA)(hb:PW X (.BoolOp .Or (b::rest) pos) tB'):PW X (.BoolOp .Or (a::b::rest) pos) (bY tA tB'):=by
 intro wh pins s σ H Q I h
 refine isTrue_or (ar (ha pins s σ H _ I h) fun c s1 ⟨H1,I1,q1⟩=>?_)
 cases c with
 |true=>exact⟨H1,I1,q1⟩
 |false=>exact hb wh pins s1 σ H1 Q I1 q1
theorem EZ(ha:PT X a tA):PT X (.UnaryOp .Not a pos) (bV tA):=by
 intro pins s σ H Q I h
 exact isTrue_not (ha pins s σ H (fun c H1=>Q (!c) H1) I h)
noncomputable def xo(ta tb:TE):TE:=fun σ H Q=>ta σ H fun x H1=>∃c,x=.bl c∧if c=true then tb σ H1 Q else Q (.bl false) H1
noncomputable def BX(ta:TE):TE:=fun σ H Q=>ta σ H fun x H1=>∃c,x=.bl c∧Q (.bl (!c)) H1
theorem wB{op}{t:TE}(h:PE X a t):PE X (.BoolOp op [a] pos) t:=fun pins s σ H Q I hw=>BoolOp_one (h pins s σ H Q I hw)
theorem By(ha:PE X a ta)(hb:PE X (.BoolOp .And (b::rest) pos) tb):PE X (.BoolOp .And (a::b::rest) pos) (xo ta tb):=by
 intro pins s σ H Q I h
 refine BoolOp_and (ar (ha pins s σ H _ I h) fun v s1 ⟨x,H1,I1,r1,q1⟩=>?_)
 obtain⟨c,rfl,q1⟩:=q1
 cases r1
 refine wpAny_truthy_bool ?_
 cases c with
 |true=>exact hb pins s1 σ H1 Q I1 q1
 |false=>exact⟨.bl false,H1,I1,rfl,q1⟩
theorem FY(ha:PE X a ta):PE X (.UnaryOp .Not a pos) (BX ta):=by
 intro pins s σ H Q I h
 refine UnaryOp_ (ar (ha pins s σ H _ I h) fun v s1 ⟨x,H1,I1,r1,q1⟩=>?_)
 obtain⟨c,rfl,q1⟩:=q1
 cases r1
 exact not_of (wpAny_truthy_bool ⟨.bl (!c),H1,I1,rfl,q1⟩)
noncomputable def CW(t:TT)(ta tb:TE):TE:=fun σ H Q=>t σ H fun c H1=>if c=true then ta σ H1 Q else tb σ H1 Q
theorem wa{c:Expr}(hc:PT X c tA)(ha:PE X a ta)(hb:PE X b tb):PE X (.IfExp c a b pos) (CW tA ta tb):=by
 intro pins s σ H Q I h
 refine wpAny_IfExp (ar (hc pins s σ H _ I h) fun d s1 ⟨H1,I1,q1⟩=>?_)
 cases d with
 |true=>exact ha pins s1 σ H1 Q I1 q1
 |false=>exact hb pins s1 σ H1 Q I1 q1
end
end L2
namespace L2
open PySem PySem.Spec PyProof.Rows
noncomputable def aN(K:PySem.W.Frag)(H:Hp)(a:Addr)(xs:List V):Prop:=
 Rd H a (.lst xs)∨
   ∃(o:Obj) (its:Array Value) (n:Nat),K.lookup a=some o∧o.cls=.type "list"∧o.dict=none∧o.data=.seq its n∧its.size≤sizeLine∧Vals xs its.toList
noncomputable def aW(K:PySem.W.Frag)(H:Hp)(a:Addr)(xs:List V):Prop:=
 Rd H a (.tup xs)∨
   ∃(o:Obj) (its:Array Value) (n:Nat),K.lookup a=some o∧o.cls=.type "tuple"∧o.data=.seq its n∧its.size≤sizeLine∧Vals xs its.toList
noncomputable def Ae:Value→Option V
 |.none=>some .av
 |.bool b=>some (.bl b)
 |.int i _=>some (.int i)
 |.str x _=>some (.str x)
 |.bytes b _=>some (.iN b)
 |.float b _=>some (.kQ b)
 |.ref a=>some (.ref a)
 |.type n=>some (.ty n)
 |_=>none
theorem RelV.abs{x:V}{u:Value}(r:RelV x u):Ae u=some x:=by
 cases x with
 |av=>cases r;rfl
 |bl _=>cases r;rfl
 |int _=>obtain⟨t,rfl⟩:=r;rfl
 |str _=>obtain⟨t,rfl⟩:=r;rfl
 |iN _=>obtain⟨t,rfl⟩:=r;rfl
 |kQ _=>obtain⟨t,rfl⟩:=r;rfl
 |ref _=>cases r;rfl
 |ty _=>cases r;rfl
theorem RelV.inj{x y:V}{u:Value}(r:RelV x u)(q:RelV y u):x=y:=Option.some.inj (r.abs.symm.trans q.abs)
theorem Vals.inj:∀ {xs ys:List V} {us:List Value},Vals xs us→Vals ys us→xs=ys
 |_,_,_,.nil,.nil=>rfl
 |_,_,_,.cons r t,.cons r' t'=>by rw[r.inj r',Vals.inj t t']
section
variable{X:Cx}{pins:List (Addr×Obj)}{σ:St}{H:Hp}{s:Shared}{a:Addr}{xs ys:List V}
theorem aN.of{K:PySem.W.Frag}(h:H a=some (.lst xs)):aN K H a xs:=.inl (.inl h)
theorem aW.of{K:PySem.W.Frag}(h:H a=some (.tup xs)):aW K H a xs:=.inl (.inl h)
theorem Inv.list(I:Inv X pins σ H s)(h:aN X.K H a xs):∃its:List Value,Vals xs its∧PlainL s.heap a its.toArray∧xs.length≤sizeLine:=by
 rcases h with h|⟨o,its,n,hk,hc,hd,hs,hz,r⟩
 · obtain⟨z,its,n,r,e⟩:=h.ok I.au
   exact⟨its,r,⟨_,n,e,rfl,rfl,rfl⟩,z⟩
 · refine⟨its.toList,r,⟨o,n,I.cx a o hk,hc,hd,by simpa using hs⟩,?_⟩
   have e:=r.length
   simp only[Array.length_toList]at e
   omega
theorem Inv.tuple(I:Inv X pins σ H s)(h:aW X.K H a xs):∃its:List Value,Vals xs its∧IsTup s.heap a its.toArray∧xs.length≤sizeLine:=by
 rcases h with h|⟨o,its,n,hk,hc,hs,hz,r⟩
 · obtain⟨z,its,r,p⟩:=h.ok I.au
   exact⟨its,r,p,z⟩
 · refine⟨its.toList,r,⟨o,I.cx a o hk,hc,n,by simpa using hs⟩,?_⟩
   have e:=r.length
   simp only[Array.length_toList]at e
   omega
theorem Inv.qF(I:Inv X pins σ H s)(h:aN X.K H a xs)(h':aN X.K H a ys):xs=ys:=by
 obtain⟨its,r,⟨o,n,e,_,_,d⟩,_⟩:=I.list h
 obtain⟨its',r',⟨o',n',e',_,_,d'⟩,_⟩:=I.list h'
 rw[e]at e';cases e'
 rw[d]at d'
 injection d' with d1 _
 have:its=its':=by simpa using congrArg Array.toList d1
 subst this
 exact r.inj r'
theorem Inv.rn(I:Inv X pins σ H s)(h:aW X.K H a xs)(h':aW X.K H a ys):xs=ys:=by
 obtain⟨its,r,⟨o,e,_,n,d⟩,_⟩:=I.tuple h
 obtain⟨its',r',⟨o',e',_,n',d'⟩,_⟩:=I.tuple h'
 rw[e]at e';cases e'
 rw[d]at d'
 injection d' with d1 _
 have:its=its':=by simpa using congrArg Array.toList d1
 subst this
 exact r.inj r'
end
noncomputable abbrev Cx.d8(X:Cx)(E:Value→Shared→Prop):Cx:={X with xe:=E}
noncomputable abbrev Cx.dU(X:Cx):Cx:=X.d8 fun _ _=>False
theorem Cx.Ok.d8{X:Cx}(ok:X.Ok)(E:Value→Shared→Prop):(X.d8 E).Ok:=
 ⟨ok.mod,ok.kind,ok.glob,ok.blt,ok.above,ok.inj,ok.has,ok.jQ,ok.hd,ok.frames,ok.kO,ok.ua,ok.bs,ok.e6,ok.j7,ok.kJ,ok.dX,ok.ip⟩
theorem Cx.Ok.eU{X:Cx}{E:Value→Shared→Prop}(ok:(X.d8 E).Ok):X.Ok:=
 ⟨ok.mod,ok.kind,ok.glob,ok.blt,ok.above,ok.inj,ok.has,ok.jQ,ok.hd,ok.frames,ok.kO,ok.ua,ok.bs,ok.e6,ok.j7,ok.kJ,ok.dX,ok.ip⟩
section
variable{X:Cx}{pins:List (Addr×Obj)}{σ:St}{H:Hp}{s:Shared}{E:Value→Shared→Prop}
theorem Inv.d8(I:Inv X pins σ H s)(E:Value→Shared→Prop):Inv (X.d8 E) pins σ H s:=⟨I.ok.d8 E,I.os,I.bare,I.base,I.loc,I.cell,I.free,I.eF,I.pin,I.au,I.len⟩
theorem Inv.eU(I:Inv (X.d8 E) pins σ H s):Inv X pins σ H s:=⟨I.ok.eU,I.os,I.bare,I.base,I.loc,I.cell,I.free,I.eF,I.pin,I.au,I.len⟩
theorem SP.eU{D:Ends}{f:Flow}{s':Shared}(h:SP (X.d8 E) pins D f s'):SP X pins D f s':=by
 cases f with
 |next=>obtain⟨σ',H',I,q⟩:=h;exact⟨σ',H',I.eU,q⟩
 |brk=>obtain⟨σ',H',I,q⟩:=h;exact⟨σ',H',I.eU,q⟩
 |cont=>obtain⟨σ',H',I,q⟩:=h;exact⟨σ',H',I.eU,q⟩
 |ret u=>obtain⟨v,σ',H',I,r,q⟩:=h;exact⟨v,σ',H',I.eU,r,q⟩
theorem PE.dU{e:Expr}{t:TE}(h:PE X.dU e t):PE X e t:=fun pins s σ H Q I hw=>
 wpAny_mono (h pins s σ H Q (I.d8 _) hw) (fun _ _ ⟨v,H',I',r,q⟩=>⟨v,H',I'.eU,r,q⟩) fun _ _ z=>False.elim z
theorem PT.dU{e:Expr}{t:TT}(h:PT X.dU e t):PT X e t:=fun pins s σ H Q I hw=>
 wpAny_mono (h pins s σ H Q (I.d8 _) hw) (fun _ _ ⟨H',I',q⟩=>⟨H',I'.eU,q⟩) fun _ _ z=>False.elim z
theorem bJ.dU{st:List Stmt}{t:TS}(h:bJ X.dU st t):bJ X st t:=fun pins s σ H D I hw=>
 wpAny_mono (h pins s σ H D (I.d8 _) hw) (fun _ _ q=>q.eU) fun _ _ z=>False.elim z
end
section
variable{X:Cx}{st:Stmt}{rest:List Stmt}{t u:TS}{e:Expr}{te:TE}{pos:Pos}
noncomputable def Ds:TS:=fun D σ H=>D.nx σ H
noncomputable def sx(t u:TS):TS:=fun D σ H=>t {D with nx:=u D} σ H
theorem p9:bJ X [] Ds:=fun _ _ σ H _ I h=>wpAny_execs_nil ⟨σ,H,I,h⟩
theorem qV(h1:PS X st t)(h2:bJ X rest u):bJ X (st::rest) (sx t u):=by
 intro pins s σ H D I h
 refine wpAny_execs_cons (ar (h1 pins s σ H {D with nx:=u D} I h) fun f s1 q=>?_)
 cases f with
 | next=>
   obtain⟨σ',H',I',q⟩:=q
   exact h2 pins s1 σ' H' D I' q
 |ret v=>exact q
 |brk=>exact q
 |cont=>exact q
theorem uj(h1:PS X st t):bJ X [st] t:=by
 intro pins s σ H D I h
 refine wpAny_execs_cons (ar (h1 pins s σ H D I h) fun f s1 q=>?_)
 cases f with
 |next=>exact wpAny_execs_nil q
 |ret v=>exact q
 |brk=>exact q
 |cont=>exact q
theorem Inv.quiet{pins:List (Addr×Obj)}{σ:St}{H:Hp}{s:Shared}(I:Inv X pins σ H s):interactive X.env=false:=by simp[interactive,I.ok.kind]
noncomputable def As(te:TE):TS:=fun D σ H=>te σ H fun _ H1=>D.nx σ H1
theorem tq(he:PE X e te)(hs:swapsWith e none pos.line X.env=pure false:=by rfl):PS X (.Expr e pos) (As te):=by
 intro pins s σ H D I h
 exact wpAny_Expr_any (ar (he pins s σ H _ I h) fun v s1 ⟨x,H1,I1,r1,q1⟩=>⟨σ,H1,I1,q1⟩) I.quiet hs
noncomputable def zF(te:TE):TS:=fun D σ H=>te σ H D.rt
theorem kL(he:PE X e te):PS X (.Return (some e) pos) (zF te):=by
 intro pins s σ H D I h
 exact wpAny_Return_some (ar (he pins s σ H _ I h) fun v s1 ⟨x,H1,I1,r1,q1⟩=>⟨x,σ,H1,I1,r1,q1⟩)
noncomputable def Al(c:TT)(t u:TS):TS:=fun D σ H=>c σ H fun b H1=>if b=true then t D σ H1 else u D σ H1
theorem rF{c:Expr}{a b:List Stmt}{tc:TT}(hc:PT X c tc)(ha:bJ X a t)(hb:bJ X b u):PS X (.If c a b pos) (Al tc t u):=by
 intro pins s σ H D I h
 refine wpAny_If (ar (hc pins s σ H _ I h) fun d s1 ⟨H1,I1,q1⟩=>?_)
 cases d with
 |true=>exact ha pins s1 σ H1 D I1 q1
 |false=>exact hb pins s1 σ H1 D I1 q1
noncomputable def v8:TS:=fun _ _ _=>False
theorem Cg:PS X st v8:=fun _ _ _ _ _ _ h=>h.elim
end
noncomputable abbrev TG:=V→St→Hp→(St→Hp→Prop)→Prop
noncomputable abbrev e8:=List V→St→Hp→(St→Hp→Prop)→Prop
noncomputable def PG(X:Cx)(target:Expr)(t:TG):Prop:=
 ∀(pins:List (Addr×Obj)) (s:Shared) (σ:St) (H:Hp) (v:V) (u:Value) (Q:St→Hp→Prop),Inv X pins σ H s→RelV v u→t v σ H Q→
   wpAny (model X.prog X.w) X.A (assign target X.env u) (fun _ s'=>∃σ' H',Inv X pins σ' H' s'∧Q σ' H') X.xe s
noncomputable def cB(X:Cx)(ts:List Expr)(t:e8):Prop:=
 ∀(pins:List (Addr×Obj)) (s:Shared) (σ:St) (H:Hp) (vs:List V) (us:List Value) (Q:St→Hp→Prop),Inv X pins σ H s→Vals vs us→t vs σ H Q→
   wpAny (model X.prog X.w) X.A (assignInOrder ((assignEach ts X.env).map (·.2)) us) (fun _ s'=>∃σ' H',Inv X pins σ' H' s'∧Q σ' H') X.xe s
noncomputable abbrev pb:=V→V→V→Hp→(Hp→Prop)→Prop
noncomputable def tM(X:Cx)(t:pb):Prop:=
 ∀(pins:List (Addr×Obj)) (s:Shared) (σ:St) (H:Hp) (o i v:V) (ov iv u:Value) (Q:Hp→Prop),Inv X pins σ H s→RelV o ov→RelV i iv→RelV v u→t o i v H Q→
   wpAny (model X.prog X.w) X.A (setItem ov iv u) (fun _ s'=>∃H',Inv X pins σ H' s'∧Q H') X.xe s
section
variable{X:Cx}{pos:Pos}
noncomputable def aB(i:Nat):TG:=fun v σ H Q=>Q (σ.set i (some v)) H
theorem tZ{i:Nat}{x:Str}(hN:X.N.Nodup)(hi:X.N[i]? =some x)(hx:Loc X.env.scope x)(hf:X.fn x=true∨X.env.scope.names.lookup x=some .local:=by first|exact .inl rfl|exact .inr rfl|assumption):PG X (.Name x pos) (aB i):=by
 intro pins s σ H v u Q I r h
 exact wpAny_assign_Name (uo I hN hi hx r (fun s' I'=>⟨_,H,I',h⟩) hf)
noncomputable def ES:e8:=fun vs σ H Q=>vs=[]∧Q σ H
noncomputable def qK(t:TG)(u:e8):e8:=fun vs σ H Q=>∃v r,vs=v::r∧t v σ H fun σ' H'=>u r σ' H' Q
theorem BY:cB X [] ES:=by
 intro pins s σ H vs us Q I r h
 obtain⟨e,h⟩:=h
 subst e
 cases r
 exact assignInOrder_nil ⟨σ,H,I,h⟩
theorem zp{e:Expr}{es:List Expr}{t:TG}{u:e8}(h1:PG X e t)(h2:cB X es u)
   (hs:(assignEach (e::es) X.env).map (·.2)=assign e X.env::(assignEach es X.env).map (·.2):=by rfl):cB X (e::es) (qK t u):=by
 intro pins s σ H vs us Q I r h
 obtain⟨v,vr,e1,h⟩:=h
 subst e1
 cases r with
 | cons r rr=>
   rw[hs]
   refine assignInOrder_cons (ar (h1 pins s σ H _ _ _ I r h) fun _ s1 ⟨σ1,H1,I1,q1⟩=>?_)
   exact h2 pins s1 σ1 H1 _ _ Q I1 rr q1
noncomputable def cW(K:PySem.W.Frag)(n:Nat)(t:e8):TG:=fun v σ H Q=>∃a xs,v=.ref a∧aW K H a xs∧xs.length=n∧t xs σ H Q
theorem uA{es:List Expr}{k:Nat}{t:e8}{n:Nat}(hc:X.calm=true)(h:cB X es t)
   (hn:(assignEach es X.env).length=n:=by rfl) (hst:(assignEach es X.env).findIdx? (·.1)=none:=by rfl):PG X (.Tuple es k pos) (cW X.K n t):=by
 intro pins s σ H v u Q I r hw
 obtain⟨a,xs,e1,hq,hl,hw⟩:=hw
 subst e1
 cases r
 obtain⟨its,rv,ht,hz⟩:=I.tuple hq
 refine assign_Tuple_tuple (I.ok.hd hc) ht (by simp[hn, ←hl,rv.length]) hst fun h' hx=>?_
 have I1:Inv X pins σ H {s with heap:=h'}:=I.kept (t':=s.toks) fun b o e=>hx b o (Nat.ne_of_lt (Heap.lt_size e)) e
 exact h pins _ σ H xs _ Q I1 (by simpa using rv) hw
noncomputable def Ad(to ti:TE)(t:pb):TG:=fun v σ H Q=>to σ H fun o H1=>ti σ H1 fun i H2=>t o i v H2 fun H3=>Q σ H3
theorem u3{o i:Expr}{to ti:TE}{t:pb}(ho:PE X o to)(hi:PE X i ti)(hs:tM X t)
   (ha:∀v,assign (.Subscript o i pos) X.env v=(do
     let ov ←holding [v] (eval o X.env)
     let iv ←holding [v,ov] (eval i X.env)
     standAt pos
     holding [v,ov,iv] (setItem ov iv v)
     release [v,ov,iv] []):=by intro _;rfl):PG X (.Subscript o i pos) (Ad to ti t):=by
 intro pins s σ H v u Q I r h
 rw[ha]
 refine wpAny_bind (wpAny_holding (ar (ho pins s σ H _ I h) fun ov s1 ⟨x,H1,I1,r1,q1⟩=>?_))
 refine wpAny_bind (wpAny_holding (ar (hi pins s1 σ H1 _ I1 q1) fun iv s2 ⟨y,H2,I2,r2,q2⟩=>?_))
 refine wpAny_bind (wpAny_standAt (wpAny_bind (wpAny_holding (ar (hs pins s2 σ H2 x y v ov iv u _ I2 r1 r2 r q2) fun _ s3 ⟨H3,I3,q3⟩=>?_))))
 exact wpAny_release ⟨σ,H3,I3,q3⟩
noncomputable def mI(te:TE)(g:TG):TS:=fun D σ H=>te σ H fun x H1=>g x σ H1 D.nx
theorem rC{tg e:Expr}{te:TE}{g:TG}(he:PE X e te)(hg:PG X tg g)(hs:swapsWithSole [tg] e pos.line X.env=pure false:=by rfl)(hw:swappedStores [tg] e X.env=pure none:=by rfl)
   (h1:(assignEach [tg] X.env).map (·.2)=[assign tg X.env]:=by rfl):PS X (.Assign [tg] e pos) (mI te g):=by
 intro pins s σ H D I h
 refine wpAny_Assign_stores (ar (he pins s σ H _ I h) fun v s1 ⟨x,H1,I1,r1,q1⟩=>?_) hs hw
 rw[h1]
 exact ar (hg pins s1 σ H1 x v _ I1 r1 q1) fun _ s2 q=>q
theorem mH{i:Nat}{x:Str}{e:Expr}{te:TE}{pos':Pos}(hN:X.N.Nodup)(hi:X.N[i]? =some x)(hx:Loc X.env.scope x)(he:PE X e te)(hs:swapsWith e (some (.Name x pos')) pos.line X.env=pure false:=by rfl)(hf:X.fn x=true∨X.env.scope.names.lookup x=some .local:=by first|exact .inl rfl|exact .inr rfl|assumption):
   PS X (.Assign [.Name x pos'] e pos) (mI te (aB i)):=by
 intro pins s σ H D I h
 refine wpAny_Assign_Name (ar (he pins s σ H _ I h) fun v s1 ⟨y,H1,I1,r1,q1⟩=>?_) hs
 exact uo I1 hN hi hx r1 (fun s2 I2=>⟨_,H1,I2,q1⟩) hf
end
section
variable{X:Cx}{pos:Pos}
noncomputable def xx(c:TT)(tb:TS):TS:=fun D σ H=>∃W:Nat→St→Hp→Prop,(∃m,W m σ H)∧∀m σ H,W m σ H→
 c σ H fun b H1=>if b=true then ∃N:St→Hp→Prop,(∀σ' H',N σ' H'→∃m',m'<m∧W m' σ' H')∧tb {D with nx:=N,ct:=N,bk:=D.nx} σ H1 else D.nx σ H1
theorem vm{c:Expr}{body:List Stmt}{tc:TT}{tb:TS}(hp:PassesOwn (model X.prog X.w) X.A X.env X.xe)(hc:PT X c tc)(hb:bJ X body tb):PS X (.While c body [] pos) (xx tc tb):=by
 intro pins s σ H D I h
 obtain⟨W,⟨m0,w0⟩,turn⟩:=h
 refine wpAny_While (codeAny_whileLoop (fun n s'=>∃σ' H',Inv X pins σ' H' s'∧W n σ' H') ?_ m0 ⟨σ,H,I,w0⟩)
 rintro n s1 ⟨σ1,H1,I1,w1⟩
 refine wpAny_passesOwn hp (ar (hc pins s1 σ1 H1 _ I1 (turn n σ1 H1 w1)) fun b s2 ⟨H2,I2,q2⟩=>?_)
 cases b with
 | true=>
   obtain⟨N,hN,q2⟩:=q2
   rw[if_pos rfl]
   refine wpAny_passesOwn hp (ar (hb pins s2 σ1 H2 _ I2 q2) fun f s3 q3=>?_)
   cases f with
   | next=>
     obtain⟨σ3,H3,I3,n3⟩:=q3
     obtain⟨m',hm,w3⟩:=hN σ3 H3 n3
     exact⟨m',hm,σ3,H3,I3,w3⟩
   | cont=>
     obtain⟨σ3,H3,I3,n3⟩:=q3
     obtain⟨m',hm,w3⟩:=hN σ3 H3 n3
     exact⟨m',hm,σ3,H3,I3,w3⟩
   |brk=>exact q3
   |ret v=>exact q3
 | false=>
   rw[if_neg Bool.false_ne_true]
   exact wpAny_execs_nil ⟨σ1,H2,I2,q2⟩
end
structure It where
 go:Nat→Hp→Prop
 i9:Nat→Hp→V→Hp→Prop
 stop:Nat→Hp→Prop
noncomputable def cz(X:Cx)(pins:List (Addr×Obj))(H:Hp)(b:Addr):Prop:=
 H b=none∧b≠X.env.locals∧b∉X.fs∧(b∈X.ex∨X.bX.heap.objs.size≤b)∧(∀x c,X.env.cells.lookup x=some c→c≠b)∧∀p∈X.pn++pins,p.1≠b
theorem Inv.gA{X:Cx}{pins:List (Addr×Obj)}{σ:St}{H H':Hp}{s:Shared}{b:Addr}(I:Inv X pins σ H s)(hb:s.heap.objs.size≤b)(hn:H' b=none):cz X pins H' b:=by
 refine⟨hn,Nat.ne_of_gt (Nat.lt_of_lt_of_le I.lt hb),I.yf hb,.inr (Nat.le_trans I.sz hb),fun x c e z=>?_,fun p hp z=>?_⟩
 · obtain⟨v,q⟩:=I.cell x c e
   exact absurd (Nat.lt_of_lt_of_le q.lt (by rw[z];exact hb)) (Nat.lt_irrefl _)
 ·exact absurd (Nat.lt_of_lt_of_le (Heap.lt_size (I.pin p hp).1) (by rw[z];exact hb)) (Nat.lt_irrefl _)
structure Turn(P:Program)(w:World)(K:PySem.W.Frag)(tg:Expr)(J:It)(fp:List Addr)(it:Addr)(tn:Nat→Heap→Prop):Prop where
 mem:it∈fp
 obj:∀i h,tn i h→∀b∈fp,∃o,h.get? b=some o∧∀v,o.data≠.cell v
 keep:∀i h h',tn i h→(∀b∈fp,∀o,h.get? b=some o→h'.get? b=some o)→tn i h'
 item:∀(X:Cx),X.prog=P→X.w=w→X.K=K→X.calm=true→∀(i:Nat) (pins:List (Addr×Obj)) (s:Shared) (σ:St) (H:Hp) (E:Value→Shared→Prop),Inv X pins σ H s→(∀b∈fp,cz X pins H b)→tn i s.heap→J.go i H→
   wpAny (model P w) X.A (pyNext (.ref it)) (fun r s1=>∃u,r=some u∧
     wpAny (model P w) X.A (letOwnedTupleGo tg (.ref it) u) (fun _ s2=>∃x H',Inv X pins σ H' s2∧RelV x u∧J.i9 i H x H'∧tn (i+1) s2.heap∧∀b∈fp,H' b=none) E s1) E s
 done:∀(X:Cx),X.prog=P→X.w=w→X.K=K→X.calm=true→∀(i:Nat) (pins:List (Addr×Obj)) (s:Shared) (σ:St) (H:Hp) (E:Value→Shared→Prop),Inv X pins σ H s→(∀b∈fp,cz X pins H b)→tn i s.heap→J.stop i H→
   wpAny (model P w) X.A (pyNext (.ref it)) (fun r s1=>r=none∧Inv X pins σ H s1) E s
 self:∀(A:Around) (i:Nat) (s:Shared) (Q:Value→Shared→Prop) (E:Value→Shared→Prop),tn i s.heap→Q (.ref it) s→wpAny (model P w) A (pyIter (.ref it)) Q E s
noncomputable abbrev TI:=St→Hp→(It→Hp→Prop)→Prop
noncomputable def lO(X:Cx)(pins:List (Addr×Obj))(σ:St)(tg:Expr)(R:It→Hp→Prop)(itv:Value)(s2:Shared):Prop:=
 ∃(it:Addr) (fp:List Addr) (tn:Nat→Heap→Prop) (J:It) (H':Hp),itv=.ref it∧Inv X pins σ H' s2∧Turn X.prog X.w X.K tg J fp it tn∧tn 0 s2.heap∧(∀b∈fp,cz X pins H' b)∧R J H'
noncomputable def PI(X:Cx)(tg iter:Expr)(wi:TI):Prop:=
 ∀(pins:List (Addr×Obj)) (s:Shared) (σ:St) (H:Hp) (R:It→Hp→Prop),Inv X pins σ H s→wi σ H R→
   wpAny (model X.prog X.w) X.A (eval iter X.env) (fun v s1=>wpAny (model X.prog X.w) X.A (pyIter v) (lO X pins σ tg R) X.xe s1) X.xe s
theorem iZ{M:Model}{A:Around}{E:Value→Shared→Prop}{s:Shared}{tg:Expr}{it:Addr}{u:Value}{o:Obj}{n:String}{vs:Array Value}{Q:Unit→Shared→Prop}(ho:s.heap.get? it=some o)(hc:o.cls=.type n)(hd:o.data=.fields vs)
   (hn:["enumerate","zip","dict_itemiterator","dict_reverseitemiterator","odict_iterator","itertools.zip_longest","itertools.pairwise"].contains n=false) (hQ:Q () s):wpAny M A (letOwnedTupleGo tg (.ref it) u) Q E s:=by
 unfold letOwnedTupleGo
 cases tg<;>first
   |exact wpAny_pure hQ
   |(cases u<;>first
       |exact wpAny_pure hQ
       | (refine wpAny_bind (wpAny_load ho ?_)
          rw[hc,hd]
          show wpAny M A (if(["enumerate","zip","dict_itemiterator","dict_reverseitemiterator","odict_iterator","itertools.zip_longest","itertools.pairwise"].contains n&&vs[0]? ==some (rawInt _))=true then _ else _) Q E s
          rw[if_neg (by intro h;rw[hn,Bool.false_and]at h;cases h)]
          exact wpAny_pure hQ))
noncomputable def ka(K:PySem.W.Frag)(a:Addr):It:=
 ⟨fun i H=>∃xs x,aN K H a xs∧xs[i]? =some x,fun i H x H'=>H'=H∧∀xs,aN K H a xs→xs[i]? =some x,fun i H=>∃xs,aN K H a xs∧xs.length≤i⟩
noncomputable def jU(K:PySem.W.Frag)(a:Addr):It:=
 ⟨fun i H=>∃xs x,aW K H a xs∧xs[i]? =some x,fun i H x H'=>H'=H∧∀xs,aW K H a xs→xs[i]? =some x,fun i H=>∃xs,aW K H a xs∧xs.length≤i⟩
noncomputable def br(lo:Int)(n:Nat):It:=⟨fun i _=>i<n,fun i H x H'=>H'=H∧x=.int (lo+i),fun i _=>n≤i⟩
theorem AV{P:Program}{w:World}{K:PySem.W.Frag}{tg:Expr}(a it:Addr):Turn P w K tg (ka K a) [it] it (fun i h=>h.IsListIter it a i) where
 mem:=by simp
 obj:=fun i h st b hb=>by
   have e:b=it:=by simpa using hb
   subst e
   obtain⟨o,e,c,d⟩:=st
   exact⟨o,e,fun v z=>by rw[d]at z;cases z⟩
 keep:=fun i h h' st k=>st.at fun o e=>k it (by simp) o e
 item:=by
   intro X hP hw hK hc i pins s σ H E I hf st hg
   subst hP hw hK
   obtain⟨xs,x,hq,hx⟩:=hg
   obtain⟨its,rv,p,hz⟩:=I.list hq
   obtain⟨u,hu,ru⟩:=rv.get hx
   obtain⟨f0,f1,f2,f3,f4,f5⟩:=hf it (by simp)
   refine wpAny_pyNext_list_item st p.isList (x:=u) (by simpa using hu) fun h' st' sb=>?_
   have I1:Inv X pins σ H {s with heap:=h'}:=I.turned (t':=s.toks) (fun b o hb e=>(sb.2 b hb).trans e) f0 f1 f3 f4 f5
   obtain⟨o,e,c,d⟩:=id st'
   exact⟨u,rfl,iZ (s:={s with heap:=h'}) e c d (by decide) ⟨x,H,I1,ru,⟨rfl,fun ys hy=>by rw[I.qF hy hq];exact hx⟩,st',fun b hb=>(hf b hb).1⟩⟩
 done:=by
   intro X hP hw hK hc i pins s σ H E I hf st hg
   subst hP hw hK
   obtain⟨xs,hq,hx⟩:=hg
   obtain⟨its,rv,p,hz⟩:=I.list hq
   obtain⟨f0,f1,f2,f3,f4,f5⟩:=hf it (by simp)
   have hl:=rv.length
   exact wpAny_pyNext_list_end (I.ok.hd hc) st p.isList (by simp;omega) fun h' eb=>⟨rfl,I.turned (t':=s.toks) (fun b o hb e=>eb b o hb e) f0 f1 f3 f4 f5⟩
 self:=fun _ _ _ _ _ st h=>wpAny_pyIter_listiter st h
theorem x6{P:Program}{w:World}{K:PySem.W.Frag}{tg:Expr}(a it:Addr):Turn P w K tg (jU K a) [it] it (fun i h=>h.IsTupleIter it a i) where
 mem:=by simp
 obj:=fun i h st b hb=>by
   have e:b=it:=by simpa using hb
   subst e
   obtain⟨o,e,c,d⟩:=st
   exact⟨o,e,fun v z=>by rw[d]at z;cases z⟩
 keep:=fun i h h' st k=>st.at fun o e=>k it (by simp) o e
 item:=by
   intro X hP hw hK hc i pins s σ H E I hf st hg
   subst hP hw hK
   obtain⟨xs,x,hq,hx⟩:=hg
   obtain⟨its,rv,p,hz⟩:=I.tuple hq
   obtain⟨u,hu,ru⟩:=rv.get hx
   obtain⟨f0,f1,f2,f3,f4,f5⟩:=hf it (by simp)
   refine wpAny_pyNext_tuple_item st (show s.heap.IsTuple a its.toArray from p) (x:=u) (by simpa using hu) fun h' st' sb=>?_
   have I1:Inv X pins σ H {s with heap:=h'}:=I.turned (t':=s.toks) (fun b o hb e=>(sb.2 b hb).trans e) f0 f1 f3 f4 f5
   obtain⟨o,e,c,d⟩:=id st'
   exact⟨u,rfl,iZ (s:={s with heap:=h'}) e c d (by decide) ⟨x,H,I1,ru,⟨rfl,fun ys hy=>by rw[I.rn hy hq];exact hx⟩,st',fun b hb=>(hf b hb).1⟩⟩
 done:=by
   intro X hP hw hK hc i pins s σ H E I hf st hg
   subst hP hw hK
   obtain⟨xs,hq,hx⟩:=hg
   obtain⟨its,rv,p,hz⟩:=I.tuple hq
   obtain⟨f0,f1,f2,f3,f4,f5⟩:=hf it (by simp)
   have hl:=rv.length
   exact wpAny_pyNext_tuple_end (I.ok.hd hc) st (show s.heap.IsTuple a its.toArray from p) (by simp;omega) fun h' eb=>⟨rfl,I.turned (t':=s.toks) (fun b o hb e=>eb b o hb e) f0 f1 f3 f4 f5⟩
 self:=fun _ _ _ _ _ st h=>wpAny_pyIter_tupleiter st h
theorem GO{P:Program}{w:World}{K:PySem.W.Frag}{tg:Expr}(it:Addr)(lo:Int)(n:Nat):Turn P w K tg (br lo n) [it] it (fun i h=>IsRangeIter h it (lo+(i:Nat)*1) ((n:Int) - (i:Nat)) 1) where
 mem:=by simp
 obj:=fun i h st b hb=>by
   have e:b=it:=by simpa using hb
   subst e
   exact⟨_,st,fun v z=>by
     have z':Data.fields _=Data.cell v:=z
     cases z'⟩
 keep:=fun i h h' st k=>k it (by simp) _ st
 item:=by
   intro X hP hw hK hc i pins s σ H E I hf st hg
   subst hP hw hK
   obtain⟨f0,f1,f2,f3,f4,f5⟩:=hf it (by simp)
   have W:=Walks.range (prog:=X.prog) (w:=X.w) (I.ok.hd hc) it lo 1 n
   refine W.item i s _ _ hg st fun v h' tk hv st' kk=>?_
   obtain⟨t,rfl⟩:=hv
   have I1:Inv X pins σ H {s with heap:=h',toks:=tk}:=I.turned (fun b o hb e=>kk b o (by simpa using hb) e) f0 f1 f3 f4 f5
   refine⟨_,rfl,iZ (s:={s with heap:=h',toks:=tk}) (n:="range_iterator") st' rfl rfl (by decide) ⟨.int (lo+i),H,I1,⟨t,?_⟩,⟨rfl,rfl⟩,st',fun b hb=>(hf b hb).1⟩⟩
   rw[Int.mul_one]
 done:=by
   intro X hP hw hK hc i pins s σ H E I hf st hg
   subst hP hw hK
   obtain⟨f0,f1,f2,f3,f4,f5⟩:=hf it (by simp)
   exact wpAny_pyNext_range_end (I.ok.hd hc) st (by have:n≤i:=hg;omega) fun h' eb=>⟨rfl,I.turned (t':=s.toks) (fun b o hb e=>eb b o hb e) f0 f1 f3 f4 f5⟩
 self:=fun _ _ _ _ _ st h=>wpAny_pyIter_rangeiter st h
end L2
namespace L2
open PySem PySem.Spec PyProof.Rows
section
variable{X:Cx}{tg:Expr}
theorem Dl{pins:List (Addr×Obj)}{σ:St}{H:Hp}{s:Shared}{R:It→Hp→Prop}{E:Value→Shared→Prop}{lo hi:Int}{t u v:Tok}{tk:Nat}(I:Inv X pins σ H s)(h1: -(2 ^ 62)≤lo)(h2:lo<2 ^ 62)(h3: -(2 ^ 62)≤hi)(h4:hi<2 ^ 62)
   (q:R (br lo (hi - lo).toNat) H):wpAny (model X.prog X.w) X.A (pyIter (.ref s.heap.objs.size)) (lO X pins σ tg R) E {s with heap:=s.heap.push {cls:=.type "range",data:=.fields #[.int lo t,.int hi u,.int 1 v]},toks:=tk}:=by
 refine wpAny_pyIter_range (IsRange.new ..) (small_one h1 h2 h3 h4) ?_
 have I1:Inv X pins σ H {s with heap:=s.heap.push {cls:=.type "range",data:=.fields #[.int lo t,.int hi u,.int 1 v]},toks:=tk}:=I.kept fun b o e=>Heap.get?_push_of_some _ e
 refine⟨(s.heap.push {cls:=.type "range",data:=.fields #[.int lo t,.int hi u,.int 1 v]}).objs.size,[(s.heap.push {cls:=.type "range",data:=.fields #[.int lo t,.int hi u,.int 1 v]}).objs.size],_,_,H,rfl,
   I1.kept (t':=tk) fun b o e=>Heap.get?_push_of_some _ e,GO _ lo (hi - lo).toNat,?_,fun b hb=>?_,q⟩
 · have e1:lo+((0:Nat):Int)*1=lo:=by simp
   have e2:(((hi - lo).toNat:Nat):Int) - ((0:Nat):Int)=Builtin.Range.rangeSize lo hi 1:=by rw[rangeSize_one];split<;>omega
   show IsRangeIter _ _ (lo+((0:Nat):Int)*1) ((((hi - lo).toNat:Nat):Int) - ((0:Nat):Int)) 1
   rw[e1,e2]
   exact Heap.get?_push_size _ rfl
 · have e:b=(s.heap.push {cls:=.type "range",data:=.fields #[.int lo t,.int hi u,.int 1 v]}).objs.size:=by simpa using hb
   subst e
   exact I1.gA (Nat.le_refl _) (I1.au.fresh (Nat.le_refl _))
noncomputable def e4(ta:TA):TI:=fun σ H R=>ta σ H fun vs H1=>∃j:Int,vs=[.int j]∧ -(2 ^ 62)≤j∧j<2 ^ 62∧R (br 0 j.toNat) H1
theorem BB{a:Expr}{ta:TA}{p pos:Pos}(hg:Gl X "range")(hm:X.mg "range"=none)(ha:PA X [a] ta)(hs:starEach [a] X.env=[(false,eval a X.env)]:=by rfl):PI X tg (.Call (.Name "range" p) [a] [] pos) (e4 ta):=by
 intro pins s σ H R I h
 refine Call_ (eM I hg hm boot_range (PyProof.Rows.callWith_type1 (ar (ha pos pins s σ H _ I h) fun us s1 ⟨vs,H1,I1,r1,q1⟩=>?_) hs rfl))
 obtain⟨j,e,q1,q2,q⟩:=q1
 subst e
 cases r1 with
 | cons r rr=>
   cases rr
   obtain⟨t,rfl⟩:=r
   exact call_range_1 (Dl I1 (by omega) (by omega) q1 q2 (by simpa using q))
noncomputable def vn(wi:TI)(g:TG)(tb:TS):TS:=fun D σ H=>wi σ H fun J H1=>∃W:Nat→Nat→St→Hp→Prop,(∃m,W 0 m σ H1)∧∀i m σ H,W i m σ H→
 (J.stop i H∧D.nx σ H)∨(J.go i H∧∃N:St→Hp→Prop,(∀σ' H',N σ' H'→∃m',m'<m∧W (i+1) m' σ' H')∧∀x H',J.i9 i H x H'→g x σ H' fun σ2 H2=>tb {D with nx:=N,ct:=N,bk:=D.nx} σ2 H2)
noncomputable def jk(fp:List Addr)(h:Heap):List (Addr×Obj):=fp.filterMap fun b=>(h.get? b).map fun o=>(b,o)
theorem lB{fp:List Addr}{h:Heap}{b:Addr}{o:Obj}(hb:b∈fp)(e:h.get? b=some o):(b,o)∈jk fp h:=List.mem_filterMap.mpr ⟨b,hb,by rw[e];rfl⟩
theorem vU{fp:List Addr}{h:Heap}{p:Addr×Obj}(hp:p∈jk fp h):p.1∈fp∧h.get? p.1=some p.2:=by
 obtain⟨b,hb,e⟩:=List.mem_filterMap.mp hp
 cases q:h.get? b with
 |none=>rw[q]at e;cases e
 | some o=>
   rw[q]at e
   have e':(b,o)=p:=Option.some.inj e
   subst e'
   exact⟨hb,q⟩
theorem Inv.pinned{pins:List (Addr×Obj)}{σ:St}{H:Hp}{s:Shared}{fp:List Addr}(I:Inv X pins σ H s)(hf:∀b∈fp,cz X pins H b)(ho:∀b∈fp,∃o,s.heap.get? b=some o∧∀v,o.data≠.cell v):Inv X (pins++jk fp s.heap) σ H s:=
 I.pW fun p hp=>(List.mem_append.mp hp).elim (fun z=>I.pin p (List.mem_append_right _ z)) fun z=>by
   obtain⟨hb,e⟩:=vU z
   obtain⟨f0,f1,f2,_⟩:=hf p.1 hb
   obtain⟨o,e',d⟩:=ho p.1 hb
   rw[e]at e';cases e'
   exact⟨e,f0,f1,f2,d⟩
theorem Inv.kT{pins pl:List (Addr×Obj)}{σ:St}{H:Hp}{s:Shared}(I:Inv X (pins++pl) σ H s):Inv X pins σ H s:=I.pW fun p hp=>I.pin p (List.mem_append_right _ (List.mem_append_left _ hp))
theorem tN{iter:Expr}{body:List Stmt}{wi:TI}{g:TG}{tb:TS}{pos:Pos}(hp:PassesOwn (model X.prog X.w) X.A X.env X.xe)(hc:X.calm=true)(hi:PI X tg iter wi)(hg:PG X tg g)(hb:bJ X body tb)
   (hs:∀x,foldedSetIterable iter X.env x=pure x:=by intro _;rfl):PS X (.For tg iter body [] pos) (vn wi g tb):=by
 intro pins s σ H D I h
 refine wpAny_For (ar (hi pins s σ H _ I h) fun v s1 h1=>ar h1 fun itv s2 h2=>?_) hs
 obtain⟨it,fp,tn,J,H2,e,I2,T,st2,f2,W,⟨m0,w0⟩,turn⟩:=h2
 subst e
 have stat:∀ {H':Hp},(∀b∈fp,H' b=none)→∀b∈fp,cz X pins H' b:=fun hn b hb=>⟨hn b hb,(f2 b hb).2⟩
 refine codeAny_forLoop_any (fun n s'=>∃i σ' H',Inv X pins σ' H' s'∧tn i s'.heap∧(∀b∈fp,H' b=none)∧W i n σ' H') ?_ m0 ⟨0,σ,H2,I2,st2,fun b hb=>(f2 b hb).1,w0⟩
 rintro n s3 ⟨i,σ3,H3,I3,st3,fr3,w3⟩
 rcases turn i n σ3 H3 w3 with⟨stop,qn⟩|⟨go,N,hN,step⟩
 · refine wpAny_passesOwn hp (ar (T.done X rfl rfl rfl hc i pins s3 σ3 H3 X.xe I3 (stat fr3) st3 stop) fun r s4 ⟨hr,I4⟩=>?_)
   subst hr
   exact wpAny_execs_nil ⟨σ3,H3,I4,qn⟩
 · refine wpAny_passesOwn hp (ar (T.item X rfl rfl rfl hc i pins s3 σ3 H3 X.xe I3 (stat fr3) st3 go) fun r s4 ⟨u,hr,h4⟩=>?_)
   subst hr
   refine wpAny_passesOwn hp (ar h4 fun _ s5 ⟨x,H5,I5,r5,y5,st5,fr5⟩=>?_)
   have I5':=I5.pinned (stat fr5) (T.obj _ _ st5)
   refine wpAny_passesOwn hp (ar (hg _ s5 σ3 H5 x u _ I5' r5 (step x H5 y5)) fun _ s6 ⟨σ6,H6,I6,q6⟩=>?_)
   refine wpAny_passesOwn hp (ar (hb _ s6 σ6 H6 _ I6 q6) fun f s7 q7=>?_)
   have again:∀ {σ7:St} {H7:Hp},Inv X (pins++jk fp s5.heap) σ7 H7 s7→N σ7 H7→∃m,m<n∧∃i σ' H',Inv X pins σ' H' s7∧tn i s7.heap∧(∀b∈fp,H' b=none)∧W i m σ' H':=fun {σ7 H7} I7 n7=>by
     obtain⟨m',hm,w7⟩:=hN σ7 H7 n7
     refine⟨m',hm,i+1,σ7,H7,I7.kT,T.keep _ _ _ st5 fun b hb o e=>(I7.pin (b,o) (List.mem_append_right _ (List.mem_append_right _ (lB hb e)))).1,fun b hb=>?_,w7⟩
     obtain⟨o,e,d⟩:=T.obj _ _ st5 b hb
     exact(I7.pin (b,o) (List.mem_append_right _ (List.mem_append_right _ (lB hb e)))).2.1
   cases f with
   |next=>obtain⟨σ7,H7,I7,n7⟩:=q7;exact again I7 n7
   |cont=>obtain⟨σ7,H7,I7,n7⟩:=q7;exact again I7 n7
   |brk=>obtain⟨σ7,H7,I7,q7⟩:=q7;exact⟨σ7,H7,I7.kT,q7⟩
   |ret v=>obtain⟨x7,σ7,H7,I7,r7,q7⟩:=q7;exact⟨x7,σ7,H7,I7.kT,r7,q7⟩
end
end L2
namespace L2
open PySem PySem.Spec PyProof.Rows
noncomputable abbrev R2:=V→V→Hp→VK→Prop
noncomputable def aD(X:Cx)(f:Value→Value→Sem Value)(r:R2):Prop:=
 ∀(pins:List (Addr×Obj)) (s:Shared) (σ:St) (H:Hp) (x y:V) (v u:Value) (Q:VK),Inv X pins σ H s→RelV x v→RelV y u→r x y H Q→
   wpAny (model X.prog X.w) X.A (f v u) (EP X pins σ Q) X.xe s
noncomputable def eY(X:Cx)(f:Value→Sem Value)(r:V→Hp→VK→Prop):Prop:=
 ∀(pins:List (Addr×Obj)) (s:Shared) (σ:St) (H:Hp) (x:V) (v:Value) (Q:VK),Inv X pins σ H s→RelV x v→r x H Q→
   wpAny (model X.prog X.w) X.A (f v) (EP X pins σ Q) X.xe s
noncomputable def bp(X:Cx)(f:Value)(r:List V→Hp→VK→Prop):Prop:=
 ∀(pins:List (Addr×Obj)) (s:Shared) (σ:St) (H:Hp) (xs:List V) (us:List Value) (Q:VK),Inv X pins σ H s→Vals xs us→r xs H Q→
   wpAny (model X.prog X.w) X.A (call f us) (EP X pins σ Q) X.xe s
noncomputable def vV(X:Cx)(r:V→Hp→(Bool→Hp→Prop)→Prop):Prop:=
 ∀(pins:List (Addr×Obj)) (s:Shared) (σ:St) (H:Hp) (x:V) (v:Value) (Q:Bool→Hp→Prop),Inv X pins σ H s→RelV x v→r x H Q→
   wpAny (model X.prog X.w) X.A (truthy v) (TP X pins σ Q) X.xe s
noncomputable def iy(r:R2)(ta tb:TE):TE:=fun σ H Q=>ta σ H fun x H1=>tb σ H1 fun y H2=>r x y H2 Q
noncomputable def rI(C:Int→Int→Prop)(g:Int→Int→V):R2:=fun x y H Q=>∃i j,x=.int i∧y=.int j∧C i j∧Q (g i j) H
noncomputable def dy(g:Int→Int→V):R2:=fun x y H Q=>∃i j,x=.int i∧y=.int j∧Q (g i j) H
section
variable{X:Cx}{a b c:Expr}{ta tb tc:TE}{pos:Pos}
theorem pD(ha:PE X a ta)(hb:PE X b tb){pins:List (Addr×Obj)}{s:Shared}{σ:St}{H:Hp}{R:V→V→Hp→Prop}(I:Inv X pins σ H s)
   (h:ta σ H fun x H1=>tb σ H1 fun y H2=>R x y H2) {Q:Value→Shared→Prop} {f:Value→Value→Sem Value}
   (hf:∀v u s2 x y H2,Inv X pins σ H2 s2→RelV x v→RelV y u→R x y H2→wpAny (model X.prog X.w) X.A (f v u) Q X.xe s2):
   wpAny (model X.prog X.w) X.A (eval a X.env) (fun v s₁=>wpAny (model X.prog X.w) X.A (eval b X.env) (fun u s₂=>wpAny (model X.prog X.w) X.A (f v u) Q X.xe s₂) X.xe s₁) X.xe s:=by
 refine ar (ha pins s σ H _ I h) fun v s1 ⟨x,H1,I1,r1,q1⟩=>?_
 refine ar (hb pins s1 σ H1 _ I1 q1) fun u s2 ⟨y,H2,I2,r2,q2⟩=>?_
 exact hf v u s2 x y H2 I2 r1 r2 q2
theorem rT{op:Operator}{r:R2}(ho:aD X (binaryOp op) r)(ha:PE X a ta)(hb:PE X b tb):PE X (.BinOp a op b pos) (iy r ta tb):=by
 intro pins s σ H Q I h
 exact wpAny_BinOp (pD ha hb I h fun v u s2 x y H2 I2 rx ry q=>ho pins s2 σ H2 x y v u Q I2 rx ry q)
theorem lS{f:Value→Value→Sem Value}{C:Int→Int→Prop}{g:Int→Int→Int}
   (rule:∀(i j:Int) (t u:Tok) (s:Shared) (Q:Value→Shared→Prop) (E:Value→Shared→Prop),C i j→Q (.int (g i j) s.toks) {s with toks:=s.toks+1}→wpAny (model X.prog X.w) X.A (f (.int i t) (.int j u)) Q E s):
   aD X f (rI C fun i j=>.int (g i j)):=by
 intro pins s σ H x y v u Q I rx ry h
 obtain⟨i,j,rfl,rfl,hc,q⟩:=h
 obtain⟨t,rfl⟩:=rx
 obtain⟨t',rfl⟩:=ry
 exact rule i j t t' s _ _ hc ⟨.int (g i j),H,I.tok _,⟨_,rfl⟩,q⟩
theorem t9{f:Value→Value→Sem Value}{g:Int→Int→Int}
   (rule:∀(i j:Int) (t u:Tok) (s:Shared) (Q:Value→Shared→Prop) (E:Value→Shared→Prop),Q (.int (g i j) s.toks) {s with toks:=s.toks+1}→wpAny (model X.prog X.w) X.A (f (.int i t) (.int j u)) Q E s):
   aD X f (dy fun i j=>.int (g i j)):=by
 intro pins s σ H x y v u Q I rx ry h
 obtain⟨i,j,rfl,rfl,q⟩:=h
 obtain⟨t,rfl⟩:=rx
 obtain⟨t',rfl⟩:=ry
 exact rule i j t t' s _ _ ⟨.int (g i j),H,I.tok _,⟨_,rfl⟩,q⟩
theorem kI{f:Value→Value→Sem Value}{g:Int→Int→Bool}
   (rule:∀(i j:Int) (t u:Tok) (s:Shared) (Q:Value→Shared→Prop) (E:Value→Shared→Prop),Q (.bool (g i j)) s→wpAny (model X.prog X.w) X.A (f (.int i t) (.int j u)) Q E s):
   aD X f (dy fun i j=>.bl (g i j)):=by
 intro pins s σ H x y v u Q I rx ry h
 obtain⟨i,j,rfl,rfl,q⟩:=h
 obtain⟨t,rfl⟩:=rx
 obtain⟨t',rfl⟩:=ry
 exact rule i j t t' s _ _ ⟨.bl (g i j),H,I,rfl,q⟩
noncomputable def tG(i j:Int):Prop:=(-(2 ^ 64)<i∧i<2 ^ 64)∨(-(2 ^ 64)<j∧j<2 ^ 64)
theorem tG.ok{i j:Int}(h:tG i j):IntMulOk i j:=by
 rcases h with⟨h1,h2⟩|⟨h1,h2⟩
 ·exact .of_left (intBits_le_64 h1 h2)
 ·exact .of_right (intBits_le_64 h1 h2)
theorem bL:aD X (binaryOp .Add) (dy fun i j=>.int (i+j)):=t9 fun _ _ _ _ _ _ _ q=>add_int q
theorem kC:aD X (binaryOp .Sub) (dy fun i j=>.int (i - j)):=t9 fun _ _ _ _ _ _ _ q=>sub_int q
theorem uG:aD X (binaryOp .Mod) (rI (fun _ j=>0<j) fun i j=>.int (i % j)):=lS fun i j _ _ _ _ _ hc q=>by
 have h1:(0:Int)<j:=hc
 exact mod_int' (by omega) (by rw[Int.fmod_eq_emod_of_nonneg i (by omega)];exact q)
end
section
variable{X:Cx}{a b c:Expr}{ta tb tc:TE}{pos:Pos}
theorem j1:aD X (compareOp .Lt) (dy fun i j=>.bl (decide (i<j))):=kI fun _ _ _ _ _ _ _ q=>lt_int q
theorem kc:aD X (compareOp .LtE) (dy fun i j=>.bl (decide (i≤j))):=kI fun _ _ _ _ _ _ _ q=>le_int q
theorem kn:aD X (compareOp .Gt) (dy fun i j=>.bl (decide (j<i))):=kI fun _ _ _ _ _ _ _ q=>gt_int q
theorem yU:aD X (compareOp .GtE) (dy fun i j=>.bl (decide (j≤i))):=kI fun _ _ _ _ _ _ _ q=>ge_int q
theorem aD.or{f:Value→Value→Sem Value}{r r':R2}(h:aD X f r)(h':aD X f r'):aD X f (fun x y H Q=>r x y H Q∨r' x y H Q):=by
 intro pins s σ H x y v u Q I rx ry q
 rcases q with q|q
 ·exact h pins s σ H x y v u Q I rx ry q
 ·exact h' pins s σ H x y v u Q I rx ry q
theorem qz(b:Expr){op:CmpOp}(h:op≠.In:=by decide)(h2:op≠.NotIn:=by decide):behindInMarks op b=false:=by
 have e1:(op==CmpOp.In)=false:=by cases op<;>first|rfl|exact absurd rfl h
 have e2:(op==CmpOp.NotIn)=false:=by cases op<;>first|rfl|exact absurd rfl h2
 cases b<;>simp[behindInMarks,e1,e2]
theorem GV{op:CmpOp}{r:R2}(ho:aD X (compareOp op) r)(ha:PE X a ta)(hb:PE X b tb)(hm:behindInMarks op b=false):PE X (.Compare a [op] [b] pos) (iy r ta tb):=by
 intro pins s σ H Q I h
 exact wpAny_Compare1 (pD ha hb I h fun v u s2 x y H2 I2 rx ry q=>ho pins s2 σ H2 x y v u Q I2 rx ry q) hm
noncomputable def sE(t:TE):TT:=fun σ H Q=>t σ H fun x H'=>∃k,x=.bl k∧Q k H'
theorem sX{op:CmpOp}{r:R2}(ho:aD X (compareOp op) r)(ha:PE X a ta)(hb:PE X b tb)(hm:behindInMarks op b=false):PT X (.Compare a [op] [b] pos) (sE (iy r ta tb)):=by
 intro pins s σ H Q I h
 refine wpAny_isTrue_Compare1 (ar (ha pins s σ H _ I h) fun v s1 ⟨x,H1,I1,r1,q1⟩=>ar (hb pins s1 σ H1 _ I1 q1) fun u s2 ⟨y,H2,I2,r2,q2⟩=>
   ar (ho pins s2 σ H2 x y v u _ I2 r1 r2 q2) fun c s3 ⟨z,H3,I3,r3,k,e,q3⟩=>?_) hm
 subst e
 cases r3
 exact wpAny_truthy_bool ⟨H3,I3,q3⟩
noncomputable def so(r r':R2)(ta tb tc:TE):TE:=fun σ H Q=>ta σ H fun x H1=>tb σ H1 fun y H2=>r x y H2 fun z H3=>∃k,z=.bl k∧
 (if k=true then tc σ H3 fun w' H4=>r' y w' H4 Q else Q (.bl false) H3)
theorem Et{op op':CmpOp}{r r':R2}(ho:aD X (compareOp op) r)(ho':aD X (compareOp op') r')(ha:PE X a ta)(hb:PE X b tb)(hc:PE X c tc)
   (hm:lastMarks [op,op'] [b,c]=false:=by with_unfolding_all rfl):PE X (.Compare a [op,op'] [b,c] pos) (so r r' ta tb tc):=by
 intro pins s σ H Q I h
 refine Compare_chain (ar (ha pins s σ H _ I h) fun v s1 ⟨x,H1,I1,r1,q1⟩=>chain_link (ar (hb pins s1 σ H1 _ I1 q1) fun u s2 ⟨y,H2,I2,r2,q2⟩=>
   ar (ho pins s2 σ H2 x y v u _ I2 r1 r2 q2) fun d s3 ⟨z,H3,I3,r3,k,e,q3⟩=>?_)) hm
 subst e
 cases r3
 refine wpAny_truthy_bool ?_
 cases k with
 |false=>exact ite_ff ⟨.bl false,H3,I3,rfl,q3⟩
 |true=>exact ite_tt (chain_last (ar (hc pins s3 σ H3 _ I3 q3) fun w' s4 ⟨z',H4,I4,r4,q4⟩=>ho' pins s4 σ H4 y z' u w' Q I4 r2 r4 q4))
theorem CF{op op':CmpOp}{r r':R2}(ho:aD X (compareOp op) r)(ho':aD X (compareOp op') r')(ha:PE X a ta)(hb:PE X b tb)(hc:PE X c tc)
   (hm:lastMarks [op,op'] [b,c]=false:=by with_unfolding_all rfl):PT X (.Compare a [op,op'] [b,c] pos) (sE (so r r' ta tb tc)):=by
 intro pins s σ H Q I h
 refine isTrue_chain (ar (ha pins s σ H _ I h) fun v s1 ⟨x,H1,I1,r1,q1⟩=>test_link (ar (hb pins s1 σ H1 _ I1 q1) fun u s2 ⟨y,H2,I2,r2,q2⟩=>
   ar (ho pins s2 σ H2 x y v u _ I2 r1 r2 q2) fun d s3 ⟨z,H3,I3,r3,k,e,q3⟩=>?_)) hm
 subst e
 cases r3
 refine wpAny_truthy_bool ?_
 cases k with
 | false=>
   obtain⟨k',e',q'⟩:=q3
   cases e'
   exact ite_ff ⟨H3,I3,q'⟩
 | true=>
   refine ite_tt (test_last (ar (hc pins s3 σ H3 _ I3 q3) fun w' s4 ⟨z',H4,I4,r4,q4⟩=>ar (ho' pins s4 σ H4 y z' u w' _ I4 r2 r4 q4) fun d' s5 ⟨z2,H5,I5,r5,k2,e2,q5⟩=>?_))
   subst e2
   cases r5
   exact wpAny_truthy_bool ⟨H5,I5,q5⟩
noncomputable def mS(K:PySem.W.Frag)(x:V)(H:Hp)(k:Bool):Prop:=
 match x with
 |.av=>k=false
 |.bl b=>k=b
 |.int i=>k=(i != 0)
 |.str y=>y.length≤sizeLine∧k=((y.length:Int) != 0)
 |.iN y=>y.size≤sizeLine∧k=((y.size:Int) != 0)
 |.ref p=>(∃xs,aN K H p xs∧k= !xs.isEmpty)∨(∃xs,aW K H p xs∧k= !xs.isEmpty)∨∃kvs,H p=some (.dK kvs)∧k= !kvs.isEmpty
 |_=>False
theorem B7{κ:Type}{kvs:List (κ×V)}{vs:List (κ×Value)}(r:KV kvs vs):(!vs.isEmpty)= !kvs.isEmpty:=by
 cases r<;>rfl
theorem sk{xs:List V}{its:List Value}(r:Vals xs its):(!its.toArray.isEmpty)= !xs.isEmpty:=by
 cases r<;>simp
theorem gW:(sizeLine:Nat)<2 ^ 63:=by rw[sizeLine_eq];decide
theorem vO:vV X (fun x H Q=>∃k,mS X.K x H k∧Q k H):=by
 intro pins s σ H x v Q I rx h
 obtain⟨k,e,q⟩:=h
 have hl:=gW
 have hs:sizeLine=16777216:=sizeLine_eq
 cases x with
 | av=>
   cases rx
   have e':k=false:=e
   subst e'
   exact truthy_none ⟨H,I,q⟩
 | bl b=>
   cases rx
   have e':k=b:=e
   subst e'
   exact wpAny_truthy_bool ⟨H,I,q⟩
 | int i=>
   obtain⟨t,rfl⟩:=rx
   have e':k=(i != 0):=e
   subst e'
   exact PySem.P.truthy_int ⟨H,I,q⟩
 | str y=>
   obtain⟨t,rfl⟩:=rx
   obtain⟨hy,e'⟩:y.length≤sizeLine∧k=((y.length:Int) != 0):=e
   subst e'
   exact PySem.P.truthy_str (by omega) ⟨H,I.tok _,q⟩
 | iN y=>
   obtain⟨t,rfl⟩:=rx
   obtain⟨hy,e'⟩:y.size≤sizeLine∧k=((y.size:Int) != 0):=e
   subst e'
   exact PySem.W.truthy_bytes (by omega) ⟨H,I.tok _,q⟩
 | ref p=>
   cases rx
   have e':(∃xs,aN X.K H p xs∧k= !xs.isEmpty)∨(∃xs,aW X.K H p xs∧k= !xs.isEmpty)∨∃kvs,H p=some (.dK kvs)∧k= !kvs.isEmpty:=e
   rcases e' with⟨xs,hx,e'⟩|⟨xs,hx,e'⟩|⟨kvs,hx,e'⟩
   · subst e'
     obtain⟨its,r,pl,hz⟩:=I.list hx
     have hlen:=r.length
     exact wpAny_truthy_list pl.isList (by simp only[List.size_toArray];omega) ⟨H,I.tok _,by rw[sk r];exact q⟩
   · subst e'
     obtain⟨its,r,pl,hz⟩:=I.tuple hx
     have hlen:=r.length
     exact truthy_tuple pl (by simp only[List.size_toArray];omega) ⟨H,I.tok _,by rw[sk r];exact q⟩
   · subst e'
     obtain⟨hz,hS,vs,r,m⟩:kvs.length≤sizeLine∧(p==sysModules)=false∧∃vs,KV kvs vs∧s.heap.DictOf (bt X.prog X.w) p vs:=I.au p _ hx
     have hlen:kvs.length=vs.length:=Paired.length r
     exact wpAny_truthy_dict hS m (by omega) ⟨H,I.tok _,by rw[B7 r];exact q⟩
 |_=>exact(show False from e).elim
theorem Ah(ha:PE X a ta)(he:∀whole,isTrue a X.env whole=(do let v ←whole;standAt a.pos;holding [v] (truthy v))):
   PT X a (fun σ H Q=>ta σ H fun x H'=>∃k,mS X.K x H' k∧Q k H'):=by
 intro pins s σ H Q I h
 exact isTrue_plain (ar (ha pins s σ H _ I h) fun v s1 ⟨x,H1,I1,r1,q1⟩=>vO pins s1 σ H1 x v Q I1 r1 q1) (he _)
theorem BS:aD X (binaryOp .Add) (fun x y H Q=>∃i j,x=.str i∧y=.str j∧i.length+j.length≤sizeLine∧Q (.str (i++j)) H):=by
 intro pins s σ H x y v u Q I rx ry h
 obtain⟨i,j,rfl,rfl,hz,q⟩:=h
 obtain⟨t,rfl⟩:=rx
 obtain⟨t',rfl⟩:=ry
 exact add_str (fun t' tk=>⟨.str (i++j),H,I.tok _,⟨_,rfl⟩,q⟩) hz
theorem vals1{x:V}{us:List Value}(r:Vals [x] us):∃u,us=[u]∧RelV x u:=by
 cases r with
 |cons r1 r2=>cases r2;exact⟨_,rfl,r1⟩
theorem vals2{x y:V}{us:List Value}(r:Vals [x,y] us):∃u w',us=[u,w']∧RelV x u∧RelV y w':=by
 cases r with
 | cons r1 r2=>
   cases r2 with
   |cons r3 r4=>cases r4;exact⟨_,_,rfl,r1,r3⟩
theorem zj:bp X (.type "int") (fun xs H Q=>(∃i,xs=[.int i]∧Q (.int i) H)∨∃k,xs=[.bl k]∧Q (.int (if k then 1 else 0)) H):=by
 intro pins s σ H xs us Q I r h
 rcases h with⟨i,rfl,q⟩|⟨k,rfl,q⟩
 · obtain⟨u,rfl,t,rfl⟩:=vals1 r
   exact call_int_int ⟨.int i,H,I,⟨_,rfl⟩,q⟩
 · obtain⟨u,rfl,r1⟩:=vals1 r
   cases r1
   exact call_int_bool ⟨.int (if k then 1 else 0),H,I.tok _,⟨_,rfl⟩,q⟩
end
end L2
namespace L2
open PySem PySem.Spec PyProof.Rows
section
variable{prog:Program}{w:World}{A:Around}{E:Value→Shared→Prop}{s:Shared}{K:PySem.W.Frag}{x dx C f:Addr}{mA:Str→Option Value}{name:Str}{v:Value}
end
theorem cI.some_of{v:V}{o:Option Value}(r:cI (some v) o):∃u,o=some u∧RelV v u:=by
 cases o with
 |none=>exact(show False from r).elim
 |some u=>exact⟨u,rfl,r⟩
theorem cI.none_of{o:Option Value}(r:cI none o):o=none:=by
 cases o with
 |none=>rfl
 |some u=>exact(show False from r).elim
section
variable{P:Program}{w:World}{H H':Hp}{h h':Heap}{a C dx:Addr}{fs fs':List (Str×V)}
end
structure rY(K:PySem.W.Frag)(C:Addr):Prop where
 pg:PySem.W.plainGet K C Str.empty=true
 hd:PySem.W.hasDictIn K C=true
 po:PySem.W.plainOver K C=true
 sa:PySem.W.findIn K (.ref C) "__setattr__"=some (some (.builtin "object.__setattr__"))
theorem rY.get{K:PySem.W.Frag}{C:Addr}(c:rY K C)(f:Str):PySem.W.plainGet K C f=true:=c.pg
section
variable{X:Cx}{pins:List (Addr×Obj)}{σ:St}{H:Hp}{s:Shared}{a C dx:Addr}{fs:List (Str×V)}{f:Str}{v:V}{A:Around}{E:Value→Shared→Prop}
end
section
variable{X:Cx}{o e value:Expr}{f:Str}{pos pos' tpos:Pos}{ta tv:TE}
end
section
variable{X:Cx}{pins:List (Addr×Obj)}{σ:St}{H:Hp}{s:Shared}{A:Around}{E:Value→Shared→Prop}{Q:Value→Shared→Prop}{c:Value}{b:Bool}
end
end L2
namespace L2
open PySem PySem.Spec PyProof.Rows
structure bq(k:Nat)(A:Around):Prop where
 hd:A.handled=none
 dp:A.depth+3*k+5<recursionLimit
 un:A.units+16*k+200<cLine
theorem bq.mono{j k:Nat}{A:Around}(r:bq k A)(h:j≤k):bq j A:=⟨r.hd,by have:=r.dp;omega,by have:=r.un;omega⟩
theorem bq.deeper{k:Nat}{A:Around}(r:bq (k+1) A)(env:Env):bq k (A.deeper env):=
 ⟨r.hd,by have:=r.dp;show A.depth+1+3*k+5<_;omega,by have:=r.un;show A.units+3+16*k+200<_;omega⟩
theorem bq.in1{k:Nat}{A:Around}(r:bq (k+1) A):bq k A.in1:=
 ⟨r.hd,by have:=r.dp;show A.depth+3*k+5<_;omega,by have:=r.un;show A.units+1+16*k+200<_;omega⟩
theorem bq.depth{k:Nat}{A:Around}(r:bq k A):A.depth<recursionLimit:=by have:=r.dp;omega
theorem bq.units{k:Nat}{A:Around}(r:bq k A):A.units+64<cLine:=by have:=r.un;omega
noncomputable def q8:TA:=fun _ H Q=>Q [] H
noncomputable def yk(ta:TE)(tr:TA):TA:=fun σ H Q=>ta σ H fun x H1=>tr σ H1 fun xs H2=>Q (x::xs) H2
section
variable{X:Cx}{e:Expr}{es:List Expr}{te:TE}{t:TA}{pos:Pos}
theorem ic:PA X [] q8:=fun _ _ _ _ H Q I h=>Calls.spliced_nil ⟨[],H,I,.nil,h⟩
theorem gx(ha:PE X e te)(hr:PA X es t)(hs:starEach (e::es) X.env=(false,eval e X.env)::starEach es X.env:=by rfl):PA X (e::es) (yk te t):=by
 intro pos pins s σ H Q I h
 rw[hs]
 show wpAny _ _ (spliced ((false,eval e X.env)::backTo pos (starEach es X.env))) _ _ s
 refine Calls.spliced_cons (ar (ha pins s σ H _ I h) fun u s1 ⟨x,H1,I1,r1,q1⟩=>?_)
 exact ar (hr pos pins s1 σ H1 _ I1 q1) fun us s2 ⟨xs,H2,I2,r2,q2⟩=>⟨x::xs,H2,I2,.cons r1 r2,q2⟩
noncomputable def yC(t:TA):TE:=fun σ H Q=>t σ H fun xs H1=>xs.length≤sizeLine∧∀p,H1 p=none→Q (.ref p) (upd H1 p (.tup xs))
noncomputable def zg(t:TA):TE:=fun σ H Q=>t σ H fun xs H1=>xs.length≤sizeLine∧∀p,H1 p=none→Q (.ref p) (upd H1 p (.lst xs))
theorem vp{x1}(h:PA X es t):PE X (.Tuple es x1 pos) (yC t):=by
 intro pins s σ H Q I hq
 refine wpAny_Tuple_spliced (ar (h pos pins s σ H _ I hq) fun us s1 ⟨xs,H1,I1,r,z,q⟩=>⟨by rw[←r.length];exact z,?_⟩)
 have hf:H1 s1.heap.objs.size=none:=I1.au.fresh (Nat.le_refl _)
 refine⟨.ref s1.heap.objs.size,upd H1 s1.heap.objs.size (.tup xs),I1.laid (t':=s1.toks) (fun b u e=>Heap.get?_push_of_some _ e) (Nat.le_refl _) ?_,rfl,q _ hf⟩
 exact⟨z,us,r,⟨_,Heap.get?_push_size _ rfl,rfl,_,rfl⟩⟩
theorem rD(h:PA X es t):PE X (.List es pos) (zg t):=by
 intro pins s σ H Q I hq
 refine wpAny_List_spliced (ar (h pos pins s σ H _ I hq) fun us s1 ⟨xs,H1,I1,r,z,q⟩=>⟨by rw[←r.length];exact z,?_⟩)
 have hf:H1 s1.heap.objs.size=none:=I1.au.fresh (Nat.le_refl _)
 refine⟨.ref s1.heap.objs.size,upd H1 s1.heap.objs.size (.lst xs),I1.laid (t':=s1.toks) (fun b u e=>Heap.get?_push_of_some _ e) (Nat.le_refl _) ?_,rfl,q _ hf⟩
 exact⟨z,us,0,r,Heap.get?_push_size _ rfl⟩
end
noncomputable abbrev Sp:=List V→Hp→VK→XK→Prop
noncomputable abbrev dR:=List Env→Hp→Shared→XK→Value→Shared→Prop
structure gZ(P:Program)(w:World)(K:PySem.W.Frag)(mg:Str→Option Value)(base:Heap)(A:Around)(outer:List Env)(s:Shared)(H:Hp):Prop where
 frames:A.frames=some outer
 mod:Mod K mg base
 bs:∀b o,base.get? b=some o→s.heap.get? b=some o∧H b=none
 e6:base.objs.size≤s.heap.objs.size
 dX:s.heap.FunFrames base outer
 ip:∀b∈b8 outer,H b=none
 au:bc P w H s.heap
 bare:AllBare s.gens
noncomputable def CE(outer:List Env)(P:Program)(w:World)(H:Hp)(s:Shared)(Q:VK)(u:Value)(s':Shared):Prop:=
 ∃v H',s'.os=s.os∧AllBare s'.gens∧Un (b8 outer) [] H H' s.heap s'.heap∧bc P w H' s'.heap∧RelV v u∧Q v H'
noncomputable def CR(CX:dR)(outer:List Env)(P:Program)(w:World)(H:Hp)(s:Shared)(Q:VK)(E:XK)(r:Result)(s':Shared):Prop:=
 match r with
 |.ok (.ret u)=>CE outer P w H s Q u s'
 |.ok _=>False
 |.error e=>CX outer H s E e s'
structure cf(P:Program)(w:World)(K:PySem.W.Frag)(mg:Str→Option Value)(base:Heap)(CX:dR)(k:Nat)(f:Addr)(fd:FuncData)(ps:List Str)(sp:Sp):Prop where
 len:∀vs H Q E,sp vs H Q E→vs.length=ps.length
 run:∀(A:Around) (outer:List Env) (s:Shared) (H:Hp) (args:Args) (us:List Value) (vs:List V) (Q:VK) (E:XK),bq k A→gZ P w K mg base A outer s H→BindsTo s fd args (ps.zip us)→Vals vs us→sp vs H Q E→
   codeAny (model P w) A (.call (.ref f) args) (CR CX outer P w H s Q E) s
theorem cf.mono{P:Program}{w:World}{K:PySem.W.Frag}{mg:Str→Option Value}{base:Heap}{CX:dR}{j k:Nat}{f:Addr}{fd:FuncData}{ps:List Str}{sp:Sp}(F:cf P w K mg base CX j f fd ps sp)(h:j≤k):
   cf P w K mg base CX k f fd ps sp:=⟨F.len,fun A outer s H args us vs Q E hr=>F.run A outer s H args us vs Q E (hr.mono h)⟩
theorem cf.imp{P:Program}{w:World}{K:PySem.W.Frag}{mg:Str→Option Value}{base:Heap}{CX:dR}{k:Nat}{f:Addr}{fd:FuncData}{ps:List Str}{sp sp':Sp}(F:cf P w K mg base CX k f fd ps sp)
   (h:∀vs H Q E,sp' vs H Q E→sp vs H Q E):cf P w K mg base CX k f fd ps sp':=
 ⟨fun vs H Q E q=>F.len vs H Q E (h _ _ _ _ q),fun A outer s H args us vs Q E hr he hb hv hs=>F.run A outer s H args us vs Q E hr he hb hv (h _ _ _ _ hs)⟩
theorem gZ.in1{P:Program}{w:World}{K:PySem.W.Frag}{mg:Str→Option Value}{base:Heap}{A:Around}{outer:List Env}{s:Shared}{H:Hp}(e:gZ P w K mg base A outer s H):
   gZ P w K mg base A.in1 outer s H:=⟨e.frames,e.mod,e.bs,e.e6,e.dX,e.ip,e.au,e.bare⟩
section
variable{X:Cx}{pins:List (Addr×Obj)}{σ:St}{H:Hp}{s s':Shared}
theorem Inv.FN(I:Inv X pins σ H s):gZ X.prog X.w X.K X.mg X.base X.A X.stack s H:=
 ⟨I.ok.frames,I.ok.mod,I.bs,Nat.le_trans I.ok.e6 I.sz,I.stack,I.qd,I.au,I.bare⟩
theorem Inv.after{Q:VK}{u:Value}(I:Inv X pins σ H s)(h:CE X.stack X.prog X.w H s Q u s'):EP X pins σ Q u s':=by
 obtain⟨v,H',os,bare,un,au,r,q⟩:=h
 obtain⟨hh,g,d,t,os'⟩:=s'
 obtain rfl:os'=s.os:=os
 exact⟨v,H',I.call (h':=hh) (g':=g) (d':=d) (t':=t) (ch:=[]) un au bare (fun b z=>absurd z (by simp)),r,q⟩
end
noncomputable def mh(sp:Sp)(dvs:List V)(E:XK)(t:TA):TE:=fun σ H Q=>t σ H fun vs H1=>sp (vs++dvs) H1 Q E
noncomputable def Binds(K:PySem.W.Frag)(fd:FuncData)(ps:List Str)(ds:List Value):Prop:=
 ∀(s:Shared) (us:List Value),K.In s.heap→(us++ds).length=ps.length→BindsTo s fd ⟨us,[]⟩ (ps.zip (us++ds))
theorem Binds.all{K:PySem.W.Frag}{fd:FuncData}{ps:List Str}(h:∀us:List Value,us.length=ps.length→bindArgs fd ⟨us,[]⟩=pure (ps.zip us)):Binds K fd ps []:=fun s us _ hl=>by
 rw[List.append_nil]at hl ⊢
 exact .of_eq (h us hl)
noncomputable def Passes(CX:dR)(X:Cx)(E:XK):Prop:=∀(pins:List (Addr×Obj)) (σ:St) (H:Hp) (s:Shared) (e:Value) (s':Shared),Inv X pins σ H s→CX X.stack H s E e s'→X.xe e s'
section
variable{X:Cx}{CX:dR}{k:Nat}{f C:Addr}{fd:FuncData}{ps:List Str}{sp:Sp}{dvs:List V}{ds:List Value}{E:XK}{x m:Str}{p pos apos:Pos}{e o:Expr}{es:List Expr}{ta:TE}{t:TA}
theorem qj{pins:List (Addr×Obj)}{σ:St}{H:Hp}{s:Shared}{Q:VK}{us:List Value}{vs:List V}(F:cf X.prog X.w X.K X.mg X.base CX k f fd ps sp)(hr:bq k X.A)(hb:Binds X.K fd ps ds)(hd:Vals dvs ds)(hx:Passes CX X E)
   (I:Inv X pins σ H s) (r:Vals vs us) (h:sp (vs++dvs) H Q E):wpAny (model X.prog X.w) X.A (call (.ref f) us) (EP X pins σ Q) X.xe s:=by
 have r2:Vals (vs++dvs) (us++ds):=r.append hd
 have hl:(us++ds).length=ps.length:=by rw[←r2.length];exact F.len _ _ _ _ h
 refine wpAny_call (codeAny_mono (F.run X.A X.stack s H ⟨us,[]⟩ (us++ds) (vs++dvs) Q E hr I.FN (hb s us I.cx hl) r2 h) fun r s' hq=>?_)
 cases r with
 |error e=>exact hx pins σ H s e s' I hq
 | ok fl=>
   cases fl with
   |ret u=>exact I.after hq
   |next=>exact False.elim hq
   |brk=>exact False.elim hq
   |cont=>exact False.elim hq
theorem rO(F:cf X.prog X.w X.K X.mg X.base CX k f fd ps sp)(hr:bq k X.A)(hg:Gl X x)(hm:X.mg x=some (.ref f))(hk:PySem.W.keepIn X.K (.ref f)=true)(hb:Binds X.K fd ps ds)(hd:Vals dvs ds)(hx:Passes CX X E)
   (ha:PA X (e::es) t) (hdb:(x==("__debug__":Str))=false:=by decide) (he:starEach (e::es) X.env=(false,eval e X.env)::starEach es X.env:=by rfl) (hpl:(backTo pos (starEach es X.env)).any (·.1)=false:=by rfl):
   PE X (.Call (.Name x p) (e::es) [] pos) (mh sp dvs E t):=by
 intro pins s σ H Q I h
 refine wpAny_Call_Name_kw (pI I hg hm ?_ hdb)
 refine PySem.W.callWith_K (h₀:=X.base) I.ok.mod.nU hk (ar (ha pos pins s σ H _ I h) fun us s1 ⟨vs,H1,I1,r,q⟩=>⟨I1.cx,?_⟩) he hpl
 exact qj F hr hb hd hx I1 r q
theorem zY(F:cf X.prog X.w X.K X.mg X.base CX k f fd ps sp)(hr:bq k X.A)(hg:Gl X x)(hm:X.mg x=some (.ref f))(hk:PySem.W.keepIn X.K (.ref f)=true)(hb:Binds X.K fd ps ds)(hd:Vals dvs ds)(hx:Passes CX X E)
   (hdb:(x==("__debug__":Str))=false:=by decide):PE X (.Call (.Name x p) [] [] pos) (mh sp dvs E q8):=by
 intro pins s σ H Q I h
 refine wpAny_Call_Name_kw (pI I hg hm ?_ hdb)
 exact PySem.W.callWith_K0 I.cx hk (qj (us:=[]) F hr hb hd hx I .nil h)
end
section
variable{X:Cx}{CX:dR}{k:Nat}{f C:Addr}{fd:FuncData}{ps ks:List Str}{sp:Sp}{E:XK}{x m:Str}{p pos apos kpos:Pos}{e o:Expr}{es:List Expr}{kws:List Keyword}{te ta:TE}{t tk:TA}{nm:Option Str}
variable{g:List Value→List Value→List Value}{gV:List V→List V→List V}
end
structure aT(N P:List Str)(sc:Scope):Prop where
 kind:sc.kind=.function
 co:sc.isCoroutine=false
 gen:sc.isGenerator=false
 nd:N.Nodup
 pre:N.take P.length=P
 par:∀x∈P,sc.names.lookup x=some .local∨sc.names.lookup x=some .cell
 yT:∀y∈sc.names,y.2≠.free
theorem q9{kindOf:Str→Option NameKind}{x:Str}:∀ {binds:List (Str×Value)} {m:Str→Option Value},(∀v,(x,v)∉binds)→bindL kindOf binds m x=m x
 |[],_,_=>rfl
 | (n,v)::r,m,h=>by
   unfold bindL
   rw[q9 fun w hw=>h w (List.mem_cons_of_mem _ hw)]
   split
   · have:x≠n:=by rintro rfl;exact h v List.mem_cons_self
     simp[this]
   ·rfl
theorem sg{kindOf:Str→Option NameKind}{x:Str}:∀ {binds:List (Str×Value)} {m:Str→Option Value},(∀v,(x,v)∉binds)→bindC kindOf binds m x=m x
 |[],_,_=>rfl
 | (n,v)::r,m,h=>by
   unfold bindC
   rw[sg fun w hw=>h w (List.mem_cons_of_mem _ hw)]
   split
   ·rfl
   · have:x≠n:=by rintro rfl;exact h v List.mem_cons_self
     simp[this]
theorem sj{kindOf:Str→Option NameKind}{x:Str}{v:Value}:∀ {P:List Str} {vs:List Value} {i:Nat} {m:Str→Option Value},P.Nodup→P[i]? =some x→vs[i]? =some v→kindOf x=some .local→
   bindL kindOf (P.zip vs) m x=some v
 |[],_,_,_,_,h,_,_=>by simp at h
 |_::_,[],_,_,_,_,h,_=>by simp at h
 | p::P,w::vs,0,m,nd,h1,h2,hk=>by
   simp at h1 h2;subst h1;subst h2
   show bindL kindOf ((p,w)::P.zip vs) m p=_
   unfold bindL
   rw[q9 fun v hv=>(List.nodup_cons.mp nd).1 (List.of_mem_zip hv).1,if_pos hk]
   simp
 | p::P,w::vs,i+1,m,nd,h1,h2,hk=>by
   show bindL kindOf ((p,w)::P.zip vs) m x=_
   unfold bindL
   exact sj (i:=i) (List.nodup_cons.mp nd).2 (by simpa using h1) (by simpa using h2) hk
theorem rR{kindOf:Str→Option NameKind}{x:Str}{v:Value}:∀ {P:List Str} {vs:List Value} {i:Nat} {m:Str→Option Value},P.Nodup→P[i]? =some x→vs[i]? =some v→kindOf x≠some .local→
   bindC kindOf (P.zip vs) m x=some v
 |[],_,_,_,_,h,_,_=>by simp at h
 |_::_,[],_,_,_,_,h,_=>by simp at h
 | p::P,w::vs,0,m,nd,h1,h2,hk=>by
   simp at h1 h2;subst h1;subst h2
   show bindC kindOf ((p,w)::P.zip vs) m p=_
   unfold bindC
   rw[sg fun v hv=>(List.nodup_cons.mp nd).1 (List.of_mem_zip hv).1,if_neg hk]
   simp
 | p::P,w::vs,i+1,m,nd,h1,h2,hk=>by
   show bindC kindOf ((p,w)::P.zip vs) m x=_
   unfold bindC
   exact rR (i:=i) (List.nodup_cons.mp nd).2 (by simpa using h1) (by simpa using h2) hk
noncomputable def start(N:List Str)(vs:List V):St:=vs.map some++List.replicate (N.length - vs.length) none
noncomputable def eX(CX:dR)(P:Program)(w:World)(K:PySem.W.Frag)(mg:Str→Option Value)(base:Heap)(N:List Str)(qual:Str)(scope:Scope)(f:Addr)(cd:Value)(A:Around)(outer:List Env)(s:Shared)(H:Hp)(E:XK):Cx where
 prog:=P
 w:=w
 K:=K
 mg:=mg
 base:=base
 A:=A.deeper (envOfC qual scope s.heap.objs.size f cd)
 N:=N
 bX:=s
 cY:=H
 env:=envOfC qual scope s.heap.objs.size f cd
 outer:=outer
 stack:=envOfC qual scope s.heap.objs.size f cd::outer
 ex:=[]
 calm:=true
 fn:=fun _=>true
 pn:=[]
 xe:=fun e s'=>wpAny (model P w) (A.deeper (envOfC qual scope s.heap.objs.size f cd)) (leaving (envOfC qual scope s.heap.objs.size f cd) e) (fun _ s''=>CX outer H s E e s'') (fun e' s''=>CX outer H s E e' s'') s'
theorem qb{sc:Scope}{n:Nat}{x:Str}(h:sc.names.lookup x=some .cell):∃c,(cellsFrom n sc.names []).lookup x=some c:=by
 have q:=PySem.W.cellsFrom_some sc.names n [] (.inl h)
 exact Option.isSome_iff_exists.mp q
theorem Fh{CX:dR}{P:Program}{w:World}{K:PySem.W.Frag}{mg:Str→Option Value}{base:Heap}{N ps:List Str}{qual:Str}{scope:Scope}{f:Addr}{cd:Value}{A:Around}{outer:List Env}{s s1:Shared}{H:Hp}{E:XK}{us:List Value}{vs:List V}
   (S:aT N ps scope) (hd:A.handled=none) (e0:gZ P w K mg base A outer s H) (hl:vs.length=ps.length) (r:Vals vs us)
   (x:InCallC s s.heap.objs.size (bindL (envOfC qual scope s.heap.objs.size f cd).kindOf (ps.zip us) fun _=>none) (cellsFrom (s.heap.objs.size+1) scope.names []) (bindC (envOfC qual scope s.heap.objs.size f cd).kindOf (ps.zip us) fun _=>none) s1):
   Inv (eX CX P w K mg base N qual scope f cd A outer s H E) [] (start N vs) H s1:=by
 have hpl:ps.length≤N.length:=by have:=congrArg List.length S.pre;rw[List.length_take]at this;omega
 obtain⟨h1,tk,rfl,hk⟩:=x.done
 have noA:∀b:Addr,b∉(eX CX P w K mg base N qual scope f cd A outer s H E).ex:=fun b z=>absurd (show b∈([]:List Addr)from z) (by simp)
 refine⟨⟨e0.mod,S.kind,rfl,rfl,Nat.le_refl _,fun y z c h1 h2=>?_,fun y hy=>?_,fun y c _ h=>?_,fun _=>hd,Around.frames_deeper e0.frames,.inr ⟨rfl,rfl⟩,fun b z=>absurd z (noA b),e0.bs,e0.e6,fun b _ _=>noA b,fun b z=>absurd z (noA b),e0.dX,e0.ip⟩,
   rfl,e0.bare,Un.kept hk,⟨_,x.toInCall.ns,fun i y v h1 h2 h3=>?_⟩,fun y c h=>⟨_,x.cell y c h⟩,e0.au.fresh (Nat.le_refl _),fun y c h=>?_,fun p hp=>absurd (show p∈([]:List (Addr×Obj))from hp) (by simp),e0.au.kept hk,?_⟩
 ·exact name_of_addr x.apart (PySem.mem_of_lookup h1) (PySem.mem_of_lookup h2)
 · have hy:scope.names.lookup y=some .cell∨scope.names.lookup y=some .free:=hy
   rcases hy with hy|hy
   ·exact qb hy
   ·exact absurd rfl (S.yT _ (PySem.mem_of_lookup hy))
 ·exact Nat.le_of_lt (x.above y c (PySem.mem_of_lookup h))
 · have hi:i<vs.length:=by
     unfold start at h2
     by_cases hi:i<vs.length
     ·exact hi
     · rw[List.getElem?_append_right (by simpa using hi)]at h2
       rw[List.getElem?_replicate]at h2
       split at h2<;>cases h2
   have ha:vs[i]? =some v:=by
     unfold start at h2
     rw[List.getElem?_append_left (by simpa using hi),List.getElem?_map]at h2
     cases e:vs[i]? with
     |none=>rw[e]at h2;cases h2
     |some a=>rw[e]at h2;cases h2;rfl
   obtain⟨u,hu,rv⟩:=r.get ha
   have hp:ps[i]? =some y:=by
     rw[←S.pre,List.getElem?_take_of_lt (by omega)];exact h1
   have ndP:ps.Nodup:=by rw[←S.pre];exact S.nd.sublist (List.take_sublist _ _)
   refine⟨u,rv,?_⟩
   rcases S.par y (List.mem_of_getElem? hp)with k|k
   ·exact .inl ⟨k,sj ndP hp hu k⟩
   · obtain⟨c,e⟩:=qb (n:=s.heap.objs.size+1) k
     refine .inr ⟨.inl k,c,e,?_⟩
     have q:=x.cell y c e
     rw[rR ndP hp hu (by show scope.names.lookup y≠_;rw[k];decide)]at q
     exact q
 ·exact e0.au.fresh (Nat.le_of_lt (x.above y c (PySem.mem_of_lookup h)))
 · unfold start
   show _=N.length
   rw[List.length_append,List.length_map,List.length_replicate]
   omega
theorem yQ{CX:dR}{P:Program}{w:World}{K:PySem.W.Frag}{mg:Str→Option Value}{base:Heap}{k:Nat}{f:Addr}{name qual:Str}{params:Arguments}{body:List Stmt}{scope:Scope}{dV kV doc pm cdv ct oc:Value}{an od:Option Addr}
   {osl:Array (Option Value)} {N ps:List Str} {sp:Sp} (lk:K.lookup f=some ⟨oc,od,.func (PySem.W.fnOf name qual params body scope dV kV doc pm an cdv ct),osl⟩) (hcd:PySem.W.codeIn K cdv qual=true) (S:aT N ps scope)
   (len:∀vs H Q E,sp vs H Q E→vs.length=ps.length)
   (hbody:∀(A:Around) (outer:List Env) (s:Shared) (H:Hp) (vs:List V) (Q:VK) (E:XK),bq k (A.deeper (envOfC qual scope s.heap.objs.size f cdv))→sp vs H Q E→
     ∃t,bJ (eX CX P w K mg base N qual scope f cdv A outer s H E) body t∧t {nx:=fun _ H'=>Q .av H',rt:=Q} (start N vs) H):
   cf P w K mg base CX (k+1) f (PySem.W.fnOf name qual params body scope dV kV doc pm an cdv ct) ps sp:=by
 refine⟨len,fun A outer s H args us vs Q E hr e0 hb r hsp=>?_⟩
 have hl:=len _ _ _ _ hsp
 have KX:K.In s.heap:=e0.mod.nU.keeps fun b o e=>(e0.bs b o e).1
 have lim:s.heap.NoLimit:=e0.mod.nolimit.keeps fun b o e=>(e0.bs b o e).1
 have hkind:∀y∈ps.zip us,scope.names.lookup y.1=some .local∨(scope.names.lookup y.1=some .cell∧((cellsFrom (s.heap.objs.size+1) scope.names []).lookup y.1).isSome=true):=fun⟨n,v⟩ hy=>by
   rcases S.par n (List.of_mem_zip hy).1 with q|q
   ·exact .inl q
   ·exact .inr ⟨q,PySem.W.cellsFrom_some _ _ _ (.inl q)⟩
 refine codeAny_call_function hr.depth (KX _ _ lk) rfl S.co S.gen rfl (PySem.W.codeRec_of KX hcd) (hb _ _ _ _ ?_)
 refine wpAny_newFunctionEnv_cells S.kind hkind fun env he s1 x=>?_
 subst he
 refine⟨lim.keeps x.toInCall.keep,codeAny_func ?_⟩
 obtain⟨t,ht,hq⟩:=hbody A outer s H vs Q E (hr.deeper _) hsp
 have I:Inv (eX CX P w K mg base N qual scope f cdv A outer s H E) [] (start N vs) H s1:=Fh S hr.hd e0 hl r x
 refine wpAny_mono (ht [] s1 (start N vs) H _ I hq) (fun fl s' hs=>?_) fun e s' hs=>hs
 have fin:∀ {σ':St} {H':Hp} {v:V} {u:Value},Inv (eX CX P w K mg base N qual scope f cdv A outer s H E) [] σ' H' s'→RelV v u→Q v H'→CE outer P w H s Q u s':=
   fun {σ' H' v u} J rv q=>⟨v,H',J.os,J.bare,J.base,J.au,rv,q⟩
 cases fl with
 | ret u=>
   obtain⟨v,σ',H',J,rv,q⟩:=hs
   exact fin J rv q
 | next=>
   obtain⟨σ',H',J,q⟩:=hs
   exact fin (v:=V.av) (u:=Value.none) J rfl q
 | brk=>
   obtain⟨_,_,_,q⟩:=hs
   exact False.elim q
 | cont=>
   obtain⟨_,_,_,q⟩:=hs
   exact False.elim q
end L2
namespace L2
open PySem PySem.Spec PyProof.Rows
section
variable{X:Cx}{x:Str}{p pos:Pos}{e:Expr}{es:List Expr}{t:TA}{id T:String}{r:List V→Hp→VK→Prop}
noncomputable def m8(r:List V→Hp→VK→Prop)(t:TA):TE:=fun σ H Q=>t σ H fun vs H1=>r vs H1 Q
theorem jT(hc:bp X (.builtin id) r)(hg:Gl X x)(hm:X.mg x=none)(hv:bootBuiltins x=some (.builtin id))(ha:PA X (e::es) t)(hn:x≠"__name__":=by decide)(hdb:(x==("__debug__":Str))=false:=by decide)
   (he:starEach (e::es) X.env=(false,eval e X.env)::starEach es X.env:=by rfl) (hpl:(backTo pos (starEach es X.env)).any (·.1)=false:=by rfl):PE X (.Call (.Name x p) (e::es) [] pos) (m8 r t):=by
 intro pins s σ H Q I h
 refine wpAny_Call_Name_kw (eM I hg hm hv ?_ hn hdb)
 exact PyProof.Rows.callWith_builtin1 (ar (ha pos pins s σ H _ I h) fun us s1 ⟨vs,H1,I1,r1,q1⟩=>hc pins s1 σ H1 vs us Q I1 r1 q1) he hpl
theorem kd(hc:bp X (.type T) r)(hg:Gl X x)(hm:X.mg x=none)(hv:bootBuiltins x=some (.type T))(ha:PA X (e::es) t)(hn:x≠"__name__":=by decide)(hdb:(x==("__debug__":Str))=false:=by decide)
   (he:starEach (e::es) X.env=(false,eval e X.env)::starEach es X.env:=by rfl) (hpl:(backTo pos (starEach es X.env)).any (·.1)=false:=by rfl):PE X (.Call (.Name x p) (e::es) [] pos) (m8 r t):=by
 intro pins s σ H Q I h
 refine wpAny_Call_Name_kw (eM I hg hm hv ?_ hn hdb)
 exact PyProof.Rows.callWith_type1 (ar (ha pos pins s σ H _ I h) fun us s1 ⟨vs,H1,I1,r1,q1⟩=>hc pins s1 σ H1 vs us Q I1 r1 q1) he hpl
end
end L2
namespace HT
open PySem PyProof.Rows
section
open PySem.SeqAt
open PySem.AutoSeq1 (wpAny_loadPart')
open PySem.MeetsSeq PySem.MeetsSeq2 PySem.MeetsSeq3
end
section
variable{prog:Program}{w:World}{A:Around}{E:Value→Shared→Prop}{s:Shared}
theorem yS{t b:Addr}{vs ws:List Value}{Q:Value→Shared→Prop}(ht:IsTup s.heap t vs.toArray)(hb:IsTup s.heap b ws.toArray)(hv:vs≠[])
   (h1:ws=[]→Q (.ref t) s) (h2:ws≠[]→Q (.ref s.heap.objs.size) {s with heap:=s.heap.push {cls:=.type "tuple",data:=.seq (vs++ws).toArray} })
   (hsz:vs.length+ws.length≤sizeLine):wpAny (model prog w) A (binaryOp .Add (.ref t) (.ref b)) Q E s:=by
 obtain⟨⟨cls,dd,data,sl⟩,ho,hc,n,hd⟩:=id ht
 obtain⟨⟨cls2,dd2,data2,sl2⟩,ho2,hc2,n2,hd2⟩:=id hb
 simp only at hc hd hc2 hd2
 subst hc hd hc2 hd2
 have e:vs.toArray++ws.toArray=(vs++ws).toArray:=by simp
 by_cases hw:ws=[]
 · exact concat_meets ⟨_,ho,rfl⟩ ⟨_,ho2,rfl⟩ noFill_tuple_add seq_tuple_add PySem.F.slot_tuple_add PySem.F.entry_tuple_add (PySem.F.args_tuple_add_2 _ _)
     (tuple_addW1 t b vs.toArray ws.toArray n n2 dd dd2 sl sl2 (by simpa using hv) (by simp[hw])) ⟨ho,ho2,h1 hw⟩
 · refine concat_meets ⟨_,ho,rfl⟩ ⟨_,ho2,rfl⟩ noFill_tuple_add seq_tuple_add PySem.F.slot_tuple_add PySem.F.entry_tuple_add (PySem.F.args_tuple_add_2 _ _)
     (tuple_addW2 t b vs.toArray ws.toArray n n2 dd dd2 sl sl2 (by simpa using hv) (by simpa using hw) (by rw[List.size_toArray,List.size_toArray];exact hsz)) ⟨ho,ho2,?_⟩
   rw[e]
   exact h2 hw
noncomputable def aF(n d:Nat):Option Int→Nat
 |none=>d
 |some v=>if v<0 then(v+(n:Int)).toNat else min v.toNat n
theorem Fm(n d:Nat)(hd:d≤n)(o:Option Int):aF n d o≤n:=by
 cases o with
 |none=>exact hd
 | some v=>
   show(if v<0 then(v+(n:Int)).toNat else min v.toNat n)≤n
   by_cases hv:v<0
   ·rw[if_pos hv];omega
   ·rw[if_neg hv];exact Nat.min_le_right _ _
theorem qp(v:Int)(n d:Nat):(if v<0 then max (v+(n:Int)) 0 else min v (n:Int))=((aF n d (some v):Nat):Int):=by
 show(if v<0 then max (v+(n:Int)) 0 else min v (n:Int))=(((if v<0 then(v+(n:Int)).toNat else min v.toNat n):Nat):Int)
 by_cases hv:v<0
 ·simp only[if_pos hv];omega
 ·simp only[if_neg hv];omega
theorem BJ(lo hi:Option Int)(n:Nat):Builtin.Slice.sliceAdjust lo hi 1 (n:Int)=(((aF n 0 lo:Nat):Int),((aF n n hi:Nat):Int)):=by
 have h1:¬((1:Int)<0):=by omega
 unfold Builtin.Slice.sliceAdjust
 simp only[h1,if_false]
 refine Prod.ext ?_ ?_
 · cases lo with
   |none=>rfl
   |some v=>exact qp v n 0
 · cases hi with
   |none=>rfl
   |some v=>exact qp v n n
theorem wz(i j:Nat):Builtin.Slice.slicePlaces (i:Int) (j:Int) 1=j - i:=by
 unfold Builtin.Slice.slicePlaces
 have h1:(1:Int)>0:=by omega
 simp only[h1,if_true,Int.ediv_one]
 split<;>omega
theorem sR{v:Value}{o:Option Int}{Q:Option Int→Shared→Prop}(p:IsPart v o)(h:Q o s):wpAny (model prog w) A (Builtin.Slice.slicePartIndex v) Q E s:=by
 cases p with
 |none=>exact slicePart_none h
 |int i t=>exact slicePart_int h
theorem An{sl:Addr}{vl vu:Value}{lo hi:Option Int}{n:Nat}{Q:Int×Int×Nat→Shared→Prop}(hs:s.heap.IsSliceOf sl vl vu .none)(pl:IsPart vl lo)(pu:IsPart vu hi)
   (h:Q (((aF n 0 lo:Nat):Int),1,aF n n hi - aF n 0 lo) s):wpAny (model prog w) A (Builtin.Slice.sliceApplied (.ref sl) (pure (n:Int))) Q E s:=by
 obtain⟨os,hos,hcs,hds⟩:=id hs
 unfold Builtin.Slice.sliceApplied Builtin.Slice.sliceFields
 refine wpAny_bind (wpAny_bind (wpAny_field hos hds (x:=vl) rfl (wpAny_bind (wpAny_field hos hds (x:=vu) rfl (wpAny_bind (wpAny_field hos hds (x:=.none) rfl (wpAny_pure ?_)))))))
 refine wpAny_bind (slicePart_none ?_)
 show wpAny _ _ (if((1:Int)==0)=true then _ else _) _ _ s
 rw[if_neg (by decide)]
 refine wpAny_bind (sR pl (wpAny_bind (sR pu (wpAny_bind (wpAny_pure ?_)))))
 show wpAny _ _ (match Builtin.Slice.sliceAdjust lo hi 1 (n:Int)with|(lo,hi)=>pure (lo,(1:Int),Builtin.Slice.slicePlaces lo hi 1)) _ _ s
 rw[BJ lo hi n]
 show wpAny _ _ (pure (((aF n 0 lo:Nat):Int),(1:Int),Builtin.Slice.slicePlaces ((aF n 0 lo:Nat):Int) ((aF n n hi:Nat):Int) 1)) _ _ s
 rw[wz]
 exact wpAny_pure h
theorem zJ(xs:Array Value)(i k:Nat):((List.range k).filterMap fun(m:Nat)=>xs[((i:Int)+(m:Int)*1).toNat]?).toArray=((xs.toList.drop i).take k).toArray:=by
 have e:(fun(m:Nat)=>xs[((i:Int)+(m:Int)*1).toNat]?)=fun m=>xs[i+m]? :=by
   funext m
   have:((i:Int)+(m:Int)*1).toNat=i+m:=by omega
   rw[this]
 rw[e]
 have:=pick_run xs i k
 rw[List.filterMap_map]at this
 have e2:((fun x=>xs[x]?)∘fun x=>i+x)=fun m=>xs[i+m]? :=rfl
 rw[e2]at this
 rw[this]
theorem va{t sl:Addr}{items:Array Value}{vl vu:Value}{lo hi:Option Int}{Q:Value→Shared→Prop}(ht:IsTup s.heap t items)(hs:s.heap.IsSliceOf sl vl vu .none)(pl:IsPart vl lo)(pu:IsPart vu hi)
   (hw:¬(aF items.size 0 lo=0∧aF items.size items.size hi=items.size))
   (h:Q (.ref s.heap.objs.size) {s with heap:=s.heap.push {cls:=.type "tuple",data:=.seq ((items.toList.drop (aF items.size 0 lo)).take (aF items.size items.size hi - aF items.size 0 lo)).toArray} })
   (hsz:items.size≤sizeLine):wpAny (model prog w) A (getItem (.ref t) (.ref sl)) Q E s:=by
 have htake:sizeOk (.seq ((items.toList.drop (aF items.size 0 lo)).take (aF items.size items.size hi - aF items.size 0 lo)).toArray):=by
   show((items.toList.drop (aF items.size 0 lo)).take (aF items.size items.size hi - aF items.size 0 lo)).toArray.size≤sizeLine
   rw[List.size_toArray,List.length_take,List.length_drop,Array.length_toList]
   omega
 have hj:aF items.size items.size hi≤items.size:=Fm _ _ (Nat.le_refl _) hi
 obtain⟨os,hos,hcs,hds⟩:=id hs
 have hTs:s.TypeIs (.ref sl) "slice":=⟨os,hos,hcs⟩
 unfold getItem
 try with_reducible refine wpAny_holding ?_
 first|refine wpAny_bind (wpAny_pure ?_)|skip
 refine wpAny_bind (wpAny_sequenceKey ht.typeIs (by decide) ?_)
 refine wpAny_bind (wpAny_callSpecial?_slot (name:=Str.ofString "__getitem__") ht.typeIs PyProof.Rows.slot_tuple_getitem
   (wpAny_call_entry PyProof.Rows.slot_tuple_getitem ht.typeIs entry_tuple_getitem ?_ (args_tuple_getitem _ _)))
 show wpAny _ _ (Builtin.Tuple.tupleItemsOf (.ref t) >>= _) _ _ s
 refine wpAny_bind (tupleItemsOf_ ht ?_)
 refine wpAny_bind (wpAny_typeOf hTs ?_)
 rw[if_pos (by decide)]
 refine wpAny_bind (An hs pl pu ?_)
 have hno:¬((((aF items.size 0 lo:Nat):Int)==0&&(1:Int)==1&&(aF items.size items.size hi - aF items.size 0 lo)==items.size)=true):=by
   intro q
   rw[Bool.and_eq_true,Bool.and_eq_true]at q
   have q1:((aF items.size 0 lo:Nat):Int)=0:=eq_of_beq q.1.1
   have q2:aF items.size items.size hi - aF items.size 0 lo=items.size:=eq_of_beq q.2
   exact hw ⟨by omega,by omega⟩
 show wpAny _ _ (if(((aF items.size 0 lo:Nat):Int)==0&&(1:Int)==1&&(aF items.size items.size hi - aF items.size 0 lo)==items.size)=true then _ else _) _ _ s
 rw[if_neg hno,zJ]
 first
   |exact wpAny_bind (m:=Builtin.Tuple.tupleExact _) (wpAny_newObj_type (wpAny_pure ⟨_,rfl,wpAny_pure h⟩) htake)
   |exact wpAny_bind (m:=Builtin.Tuple.tupleExact _) (wpAny_newObj_type (wpAny_bind (wpAny_pure (wpAny_pure ⟨_,rfl,wpAny_pure h⟩))) htake)
   |exact wpAny_bind (wpAny_bind (m:=Builtin.Tuple.tupleExact _) (wpAny_newObj_type (wpAny_pure (wpAny_pure ⟨_,rfl,wpAny_pure h⟩)) htake))
   |exact wpAny_bind (wpAny_bind (m:=Builtin.Tuple.tupleExact _) (wpAny_newObj_type (wpAny_pure ⟨_,rfl,wpAny_pure h⟩) htake))
end
end HT
namespace L2
open PySem PySem.Spec PyProof.Rows
noncomputable abbrev TO:=St→Hp→(Option Int→Hp→Prop)→Prop
noncomputable def PO(X:Cx)(e:Option Expr)(t:TO):Prop:=
 ∀(pins:List (Addr×Obj)) (s:Shared) (σ:St) (H:Hp) (Q:Option Int→Hp→Prop),Inv X pins σ H s→t σ H Q→
   wpAny (model X.prog X.w) X.A (evalPart e X.env) (fun u s'=>∃o H',Inv X pins σ H' s'∧IsPart u o∧Q o H') X.xe s
noncomputable def C6:TO:=fun _ H Q=>Q none H
noncomputable def wM(t:TE):TO:=fun σ H Q=>t σ H fun x H1=>∃i,x=.int i∧Q (some i) H1
section
variable{X:Cx}{e:Expr}{te:TE}{lo hi:Option Expr}{tl th:TO}{pos p2:Pos}
theorem Ej:PO X none C6:=by
 intro pins s σ H Q I h
 rw[evalPart_none]
 exact wpAny_pure ⟨none,H,I,.none,h⟩
theorem yY(h:PE X e te):PO X (some e) (wM te):=by
 intro pins s σ H Q I hw
 rw[evalPart_some]
 refine ar (h pins s σ H _ I hw) fun u s1 ⟨x,H1,I1,r1,q1⟩=>?_
 obtain⟨i,rfl,q⟩:=q1
 obtain⟨t,rfl⟩:=r1
 exact⟨some i,H1,I1,.int i t,q⟩
noncomputable def gb(X:Cx)(r:V→Option Int→Option Int→Hp→VK→Prop):Prop:=
 ∀(pins:List (Addr×Obj)) (s:Shared) (σ:St) (H:Hp) (x:V) (v vl vu:Value) (lo hi:Option Int) (sl:Addr) (Q:VK),Inv X pins σ H s→RelV x v→s.heap.IsSliceOf sl vl vu .none→IsPart vl lo→IsPart vu hi→r x lo hi H Q→
   ∃T id,typeLookup (.type T) "__getitem__"=pure (some (.builtin id))∧s.TypeIs v T∧wpAny (model X.prog X.w) X.A (getItem v (.ref sl)) (EP X pins σ Q) X.xe s
theorem gb.or{r r':V→Option Int→Option Int→Hp→VK→Prop}(h:gb X r)(h':gb X r'):gb X (fun x lo hi H Q=>r x lo hi H Q∨r' x lo hi H Q):=by
 intro pins s σ H x v vl vu lo hi sl Q I rx hs pl pu q
 rcases q with q|q
 ·exact h pins s σ H x v vl vu lo hi sl Q I rx hs pl pu q
 ·exact h' pins s σ H x v vl vu lo hi sl Q I rx hs pl pu q
noncomputable def w5(r:V→Option Int→Option Int→Hp→VK→Prop)(te:TE)(tl th:TO):TE:=fun σ H Q=>te σ H fun x H1=>tl σ H1 fun l H2=>th σ H2 fun u H3=>r x l u H3 Q
theorem z7{r:V→Option Int→Option Int→Hp→VK→Prop}(hr:gb X r)(he:PE X e te)(hl:PO X lo tl)(hu:PO X hi th):PE X (.Subscript e (.Slice lo hi none p2) pos) (w5 r te tl th):=by
 intro pins s σ H Q I h
 refine Subscript_ (ar (he pins s σ H _ I h) fun v s1 ⟨x,H1,I1,r1,q1⟩=>?_)
 refine wpAny_Slice (ar (hl pins s1 σ H1 _ I1 q1) fun vl s2 ⟨l,H2,I2,pl,q2⟩=>ar (hu pins s2 σ H2 _ I2 q2) fun vu s3 ⟨u,H3,I3,pu,q3⟩=>?_)
 rw[evalPart_none]
 refine wpAny_pure ?_
 have I4:Inv X pins σ H3 {s3 with heap:=s3.heap.push {cls:=.type "slice",data:=.fields #[vl,vu,.none]} }:=I3.kept (t':=s3.toks) fun b ob q=>Heap.get?_push_of_some _ q
 obtain⟨T,id,hT,ht,hg⟩:=hr pins {s3 with heap:=s3.heap.push {cls:=.type "slice",data:=.fields #[vl,vu,.none]} } σ H3 x v vl vu l u s3.heap.objs.size Q I4 r1 (Heap.IsSliceOf.new ..) pl pu q3
 show wpAny (model X.prog X.w) X.A (subscriptTail e (.Slice lo hi none p2) v (.ref s3.heap.objs.size)) (EP X pins σ Q) X.xe {s3 with heap:=s3.heap.push {cls:=.type "slice",data:=.fields #[vl,vu,.none]} }
 exact tail_any (ops:=[.ref s3.heap.objs.size,v]) ht hT hg (by with_unfolding_all rfl)
noncomputable def fA(xs:List V)(lo hi:Option Int):List V:=(xs.drop (HT.aF xs.length 0 lo)).take (HT.aF xs.length xs.length hi - HT.aF xs.length 0 lo)
theorem pO(xs:List V)(lo hi:Option Int):(fA xs lo hi).length≤xs.length:=by
 unfold fA
 rw[List.length_take,List.length_drop]
 omega
noncomputable def uy(K:PySem.W.Frag):V→Option Int→Option Int→Hp→VK→Prop:=fun x lo hi H Q=>∃a xs,x=.ref a∧aW K H a xs∧
 ¬(HT.aF xs.length 0 lo=0∧HT.aF xs.length xs.length hi=xs.length)∧∀p,H p=none→Q (.ref p) (upd H p (.tup (fA xs lo hi)))
theorem uT:gb X (uy X.K):=by
 intro pins s σ H x v vl vu lo hi sl Q I rx hs pl pu h
 obtain⟨a,xs,rfl,hx,hw,q⟩:=h
 cases rx
 obtain⟨its,r,ht,hz⟩:=I.tuple hx
 have hlen:its.toArray.size=xs.length:=by rw[List.size_toArray];exact r.length.symm
 refine⟨"tuple",_,PyProof.Rows.slot_tuple_getitem.lookup,ht.typeIs,?_⟩
 refine HT.va ht hs pl pu (by rw[hlen];exact hw) ?_ (by rw[hlen];exact hz)
 rw[hlen]
 refine⟨.ref s.heap.objs.size,_,I.laid (t':=s.toks) (o:=.tup (fA xs lo hi)) (fun b ob q=>Heap.get?_push_of_some _ q) (Nat.le_refl _) ?_,rfl,q _ (I.au.fresh (Nat.le_refl _))⟩
 exact⟨Nat.le_trans (pO xs lo hi) hz,_,(r.drop (HT.aF xs.length 0 lo)).take (HT.aF xs.length xs.length hi - HT.aF xs.length 0 lo),IsTup.new _ _⟩
noncomputable def qX(K:PySem.W.Frag):R2:=fun x y H Q=>∃a b xs ys,x=.ref a∧y=.ref b∧aW K H a xs∧aW K H b ys∧xs≠[]∧xs.length+ys.length≤sizeLine∧
 (ys=[]→Q (.ref a) H)∧(ys≠[]→∀p,H p=none→Q (.ref p) (upd H p (.tup (xs++ys))))
theorem Vals.nA{xs:List V}{us:List Value}(r:Vals xs us):us=[]↔xs=[]:=by
 cases r with
 |nil=>simp
 |cons _ _=>simp
theorem ET:aD X (binaryOp .Add) (qX X.K):=by
 intro pins s σ H x y v u Q I rx ry h
 obtain⟨a,b,xs,ys,rfl,rfl,ha,hb,hx,hz,q1,q2⟩:=h
 cases rx
 cases ry
 obtain⟨its,r1,p1,_⟩:=I.tuple ha
 obtain⟨its2,r2,p2,_⟩:=I.tuple hb
 refine HT.yS p1 p2 (fun z=>hx (r1.nA.mp z)) (fun z=>⟨.ref a,H,I,rfl,q1 (r2.nA.mp z)⟩) (fun z=>?_) (by rw[←r1.length, ←r2.length];exact hz)
 refine⟨.ref s.heap.objs.size,_,I.laid (t':=s.toks) (o:=.tup (xs++ys)) (fun b ob q=>Heap.get?_push_of_some _ q) (Nat.le_refl _) ?_,rfl,q2 (fun w=>z (r2.nA.mpr w)) _ (I.au.fresh (Nat.le_refl _))⟩
 exact⟨by rw[List.length_append];exact hz,_,r1.append r2,IsTup.new _ _⟩
end
end L2
namespace L2
open PySem PySem.Spec PyProof.Rows
noncomputable def dm(n:Nat)(i:Int):Option Nat:=if 0≤i then(if i<n then some i.toNat else none)else if -(n:Int)≤i then some (i+n).toNat else none
noncomputable def dz{α:Type}(xs:List α)(i:Int):Option α:=(dm xs.length i).bind fun j=>xs[j]?
theorem pU{n:Nat}{i:Int}{j:Nat}(h:dm n i=some j):seqIndex? i n=some j∧j<n∧ -(n:Int)≤i∧i<n:=by
 unfold dm at h
 by_cases h0:0≤i
 · rw[if_pos h0]at h
   by_cases h1:i<n
   · rw[if_pos h1]at h
     have e:i.toNat=j:=Option.some.inj h
     exact⟨by rw[seqIndex_of h0 h1,e],by omega,by omega,h1⟩
   ·rw[if_neg h1]at h;cases h
 · rw[if_neg h0]at h
   by_cases h1: -(n:Int)≤i
   · rw[if_pos h1]at h
     have e:(i+n).toNat=j:=Option.some.inj h
     exact⟨by rw[seqIndex_neg (by omega) h1,e],by omega,h1,by omega⟩
   ·rw[if_neg h1]at h;cases h
theorem nO{α:Type}{xs:List α}{i:Int}{v:α}(h:dz xs i=some v):∃j,seqIndex? i xs.length=some j∧xs[j]? =some v∧j<xs.length∧ -(xs.length:Int)≤i∧i<xs.length:=by
 unfold dz at h
 cases e:dm xs.length i with
 |none=>rw[e]at h;cases h
 | some j=>
   rw[e]at h
   obtain⟨h1,h2,h3,h4⟩:=pU e
   exact⟨j,h1,h,h2,h3,h4⟩
noncomputable def ja(b:Expr):Prop:=∀o i,subscripted b false o i=operate [o,i] (getItem o i)
noncomputable def eJ(X:Cx)(r:R2):Prop:=
 ∀(value slice:Expr) (pins:List (Addr×Obj)) (s:Shared) (σ:St) (H:Hp) (x y:V) (v u:Value) (Q:VK),Inv X pins σ H s→RelV x v→RelV y u→r x y H Q→
   subscripted slice false v u=operate [v,u] (getItem v u)→wpAny (model X.prog X.w) X.A (subscriptTail value slice v u) (EP X pins σ Q) X.xe s
noncomputable def i3(X:Cx)(id:String)(r:V→List V→Hp→VK→Prop):Prop:=
 ∀(pins:List (Addr×Obj)) (s:Shared) (σ:St) (H:Hp) (x:V) (xs:List V) (v:Value) (us:List Value) (Q:VK),Inv X pins σ H s→RelV x v→Vals xs us→r x xs H Q→
   wpAny (model X.prog X.w) X.A (call (.builtin id) (v::us)) (EP X pins σ Q) X.xe s
section
variable{X:Cx}{a b:Expr}{ta tb:TE}{pos:Pos}
theorem eJ.or{r r':R2}(h:eJ X r)(h':eJ X r'):eJ X (fun x y H Q=>r x y H Q∨r' x y H Q):=by
 intro value slice pins s σ H x y v u Q I rx ry q hs
 rcases q with q|q
 ·exact h value slice pins s σ H x y v u Q I rx ry q hs
 ·exact h' value slice pins s σ H x y v u Q I rx ry q hs
theorem i3.or{id:String}{r r':V→List V→Hp→VK→Prop}(h:i3 X id r)(h':i3 X id r'):i3 X id (fun x xs H Q=>r x xs H Q∨r' x xs H Q):=by
 intro pins s σ H x xs v us Q I rx rs q
 rcases q with q|q
 ·exact h pins s σ H x xs v us Q I rx rs q
 ·exact h' pins s σ H x xs v us Q I rx rs q
theorem sN{r:R2}(hr:eJ X r)(ha:PE X a ta)(hb:PE X b tb)(hs:ja b):PE X (.Subscript a b pos) (iy r ta tb):=by
 intro pins s σ H Q I h
 exact Subscript_ (pD ha hb I h fun v u s2 x y H2 I2 rx ry q=>hr a b pins s2 σ H2 x y v u Q I2 rx ry q (hs _ _))
noncomputable def qP(K:PySem.W.Frag):R2:=fun x y H Q=>∃p xs i v,x=.ref p∧y=.int i∧aN K H p xs∧dz xs i=some v∧Q v H
noncomputable def sS(K:PySem.W.Frag):R2:=fun x y H Q=>∃p xs i v,x=.ref p∧y=.int i∧aW K H p xs∧dz xs i=some v∧Q v H
noncomputable def sC:R2:=fun x y H Q=>∃z i c,x=.str z∧y=.int i∧z.length≤sizeLine∧dz z.cps.toList i=some c∧Q (.str ⟨#[c]⟩) H
theorem Ed:eJ X (qP X.K):=by
 intro value slice pins s σ H x y v u Q I rx ry h hs
 obtain⟨p,xs,i,z,rfl,rfl,hq,he,q⟩:=h
 cases rx
 obtain⟨t,rfl⟩:=ry
 obtain⟨its,r,pl,hz⟩:=I.list hq
 obtain⟨j,h1,h2,h3,h4,h5⟩:=nO he
 obtain⟨w,ew,rw'⟩:=r.get h2
 have hl:=r.length
 have hn:=gW
 have fin:EP X pins σ Q w s:=⟨z,H,I,rw',q⟩
 by_cases h0:0≤i
 · have hj:i.toNat=j:=by
     rw[seqIndex_of h0 h5]at h1
     exact Option.some.inj h1
   exact item_listR pl.isList h0 (by omega) (by rw[hj];simpa using ew) fin hs
 · have hj:(i+(its.toArray.size:Int)).toNat=j:=by
     rw[seqIndex_neg (by omega) h4]at h1
     rw[List.size_toArray, ←hl]
     exact Option.some.inj h1
   exact subscriptTail_builtinR (x:=w) pl.isList.typeIs slot_list_getitem.lookup
     (wpAny_getItem_list_neg (Q:=fun r s'=>r=w∧EP X pins σ Q r s') pl.isList (by omega) (by rw[List.size_toArray]<;>omega) (by omega) (by rw[hj];simpa using ew) ⟨rfl,fin⟩) hs
theorem Dx:eJ X (sS X.K):=by
 intro value slice pins s σ H x y v u Q I rx ry h hs
 obtain⟨p,xs,i,z,rfl,rfl,hq,he,q⟩:=h
 cases rx
 obtain⟨t,rfl⟩:=ry
 obtain⟨its,r,pl,hz⟩:=I.tuple hq
 obtain⟨j,h1,h2,h3,h4,h5⟩:=nO he
 obtain⟨w,ew,rw'⟩:=r.get h2
 have hl:=r.length
 have hn:=gW
 have fin:EP X pins σ Q w s:=⟨z,H,I,rw',q⟩
 exact subscriptTail_builtinR (x:=w) pl.typeIs slot_tuple_getitem.lookup
   (getItem_tuple (j:=j) (Q:=fun r s'=>r=w∧EP X pins σ Q r s') pl (by omega) (by omega) (by rw[List.size_toArray, ←hl];exact h1) (by simpa using ew) ⟨rfl,fin⟩) hs
theorem vc:eJ X sC:=by
 intro value slice pins s σ H x y v u Q I rx ry h hs
 obtain⟨z,i,c,rfl,rfl,hz,he,q⟩:=h
 obtain⟨t,rfl⟩:=rx
 obtain⟨t',rfl⟩:=ry
 obtain⟨j,h1,h2,h3,h4,h5⟩:=nO he
 have hl:z.cps.toList.length=z.length:=by simp[Str.length]
 rw[hl]at h1 h4 h5
 have hn:=gW
 exact tail_any (typeIs_str s z t) slot_str_getitem.lookup (getItem_str (c:=c) (by
   have e1:decide (i< -(2 ^ 63:Int))=false:=decide_eq_false (by omega)
   have e2:decide (i≥2 ^ 63)=false:=decide_eq_false (by omega)
   rw[e1,e2,Bool.or_false]) (by rw[h1];simpa using h2) ⟨.str ⟨#[c]⟩,H,I.tok _,⟨_,rfl⟩,q⟩) hs
noncomputable def oG(K:PySem.W.Frag):R2:=fun x y H Q=>qP K x y H Q∨sS K x y H Q∨sC x y H Q
theorem sA:eJ X (oG X.K):=Ed.or (Dx.or vc)
theorem Av(its:List Value)(n j:Nat)(u:Value):Obj.mapSeq (·.setIfInBounds j u) {cls:=.type "list",data:=.seq its.toArray n}={cls:=.type "list",data:=.seq (its.set j u).toArray n}:=by
 simp[Obj.mapSeq]
theorem Inv.lst{pins:List (Addr×Obj)}{σ:St}{H:Hp}{s:Shared}{p:Addr}{xs:List V}(I:Inv X pins σ H s)(h:H p=some (.lst xs)):
   ∃(its:List Value) (n:Nat),Vals xs its∧s.heap.get? p=some {cls:=.type "list",data:=.seq its.toArray n}∧xs.length≤sizeLine:=by
 obtain⟨z,its,n,r,e⟩:=I.au p _ h
 exact⟨its,n,r,e,z⟩
theorem Inv.Gz{pins:List (Addr×Obj)}{σ:St}{H:Hp}{s:Shared}{p:Addr}{xs ys:List V}{its its':List Value}{n n':Nat}{f:Obj→Obj}(I:Inv X pins σ H s)(h:H p=some (.lst xs))
   (ho:s.heap.get? p=some {cls:=.type "list",data:=.seq its.toArray n}) (hf:f {cls:=.type "list",data:=.seq its.toArray n}={cls:=.type "list",data:=.seq its'.toArray n'}) (r:Vals ys its') (hz:ys.length≤sizeLine) (t:Nat):
   Inv X pins σ (upd H p (.lst ys)) {s with heap:=s.heap.update p f,toks:=t}:=by
 have e:(s.heap.update p f).get? p=some {cls:=.type "list",data:=.seq its'.toArray n'}:=by
   rw[Heap.get?_update_self f ho (by rw[hf]<;>rfl),hf]
 refine I.write (x:=p) (e:=p) (by rw[h];trivial) (.inl rfl) (fun b u hb q=>(Heap.get?_update_other _ _ (Ne.symm hb)).trans q) ⟨_,e⟩ ?_
 exact⟨hz,its',n',r,e⟩
noncomputable def GA:V→V→V→Hp→(Hp→Prop)→Prop:=fun o i v H Q=>∃p xs k j,o=.ref p∧i=.int k∧H p=some (.lst xs)∧dm xs.length k=some j∧Q (upd H p (.lst (xs.set j v)))
theorem set_list:tM X GA:=by
 intro pins s σ H o i v ov iv u Q I ro ri rv h
 obtain⟨p,xs,k,j,rfl,rfl,hp,hj,q⟩:=h
 cases ro
 obtain⟨t,rfl⟩:=ri
 obtain⟨its,n,r,ho,hz⟩:=I.lst hp
 obtain⟨h1,h2,h3,h4⟩:=pU hj
 have hl:=r.length
 have hn:=gW
 have I':Inv X pins σ (upd H p (.lst (xs.set j v))) {s with heap:=s.heap.update p (Obj.mapSeq (·.setIfInBounds j u))}:=
   I.Gz hp ho (Av its n j u) (r.set rv j) (by rw[List.length_set];exact hz) s.toks
 by_cases h0:0≤k
 · have hk:k.toNat=j:=by
     rw[seqIndex_of h0 h4]at h1
     exact Option.some.inj h1
   exact PySem.W.ki_setAt ho h0 (by omega) (by rw[List.size_toArray, ←hl];exact h4) (by rw[hk];exact⟨_,I',q⟩)
 · have hk:(k+(its.toArray.size:Int)).toNat=j:=by
     rw[seqIndex_neg (by omega) h3]at h1
     rw[List.size_toArray, ←hl]
     exact Option.some.inj h1
   exact PySem.W.ki_setBack ho (by omega) (by rw[List.size_toArray, ←hl];exact h3) (by omega) (by rw[hk];exact⟨_,I',q⟩)
theorem yN(lo hi:Option Int)(n:Nat):(sliceBounds lo hi none n).1=((HT.aF n 0 lo:Nat):Int)∧(sliceBounds lo hi none n).2.1=((HT.aF n n hi:Nat):Int)∧(sliceBounds lo hi none n).2.2=1:=by
 refine⟨?_,?_,rfl⟩
 · cases lo with
   |none=>simp[sliceBounds,HT.aF]
   | some i=>
     simp only[sliceBounds,HT.aF,Option.getD_none,show(1:Int)>0 by decide,if_true]
     by_cases h:i<0
     ·simp only[h,if_true]<;>omega
     ·simp only[h,if_false]<;>omega
 · cases hi with
   |none=>simp[sliceBounds,HT.aF]
   | some i=>
     simp only[sliceBounds,HT.aF,Option.getD_none,show(1:Int)>0 by decide,if_true]
     by_cases h:i<0
     ·simp only[h,if_true]<;>omega
     ·simp only[h,if_false]<;>omega
theorem xC(its:List Value)(lo hi:Option Int):slicePick its.toArray lo hi none=((its.drop (HT.aF its.length 0 lo)).take (HT.aF its.length its.length hi - HT.aF its.length 0 lo)).toArray:=by
 obtain⟨h1,h2,h3⟩:=yN lo hi its.toArray.size
 unfold slicePick
 rw[h1,h2,h3]
 simp only[sliceRange_one,pick_run,List.size_toArray]<;>rfl
noncomputable def Fe(K:PySem.W.Frag):V→Option Int→Option Int→Hp→VK→Prop:=fun x lo hi H Q=>∃a xs,x=.ref a∧aN K H a xs∧∀p,H p=none→Q (.ref p) (upd H p (.lst (fA xs lo hi)))
theorem vk:gb X (Fe X.K):=by
 intro pins s σ H x v vl vu lo hi sl Q I rx hs pl pu h
 obtain⟨a,xs,rfl,hx,q⟩:=h
 cases rx
 obtain⟨its,r,ht,hz⟩:=I.list hx
 have hlen:=r.length
 refine⟨"list",_,slot_list_getitem.lookup,ht.isList.typeIs,?_⟩
 refine wpAny_getItem_list_slice ht.isList hs pl pu .none (by simp) ?_ (by rw[List.size_toArray]<;>omega)
 rw[xC, ←hlen]
 refine⟨.ref s.heap.objs.size,_,I.laid (t':=s.toks) (o:=.lst (fA xs lo hi)) (fun b ob q=>Heap.get?_push_of_some _ q) (Nat.le_refl _) ?_,rfl,q _ (I.au.fresh (Nat.le_refl _))⟩
 exact⟨Nat.le_trans (pO xs lo hi) hz,_,0,(r.drop (HT.aF xs.length 0 lo)).take (HT.aF xs.length xs.length hi - HT.aF xs.length 0 lo),Heap.get?_push_size _ rfl⟩
noncomputable def fj:V→Bool
 |.av=>true
 |.bl _=>true
 |.int _=>true
 |.str _=>true
 |_=>false
noncomputable def eN:V→V→Bool
 |.av,.av=>true
 |.bl a,.bl b=>a==b
 |.bl a,.int b=>(if a then 1 else 0)==b
 |.int a,.bl b=>a==(if b then 1 else 0)
 |.int a,.int b=>a==b
 |.str a,.str b=>a==b
 |_,_=>false
theorem Dm{A:Around}{s:Shared}{y x:V}{u v:Value}(ry:RelV y u)(rx:RelV x v)(fy:fj y=true)(fx:fj x=true):SeqAt.EqAt A s u v (eN y x):=by
 cases y with
 | av=>
   cases ry
   cases x with
   |av=>cases rx;exact SeqAt.EqAt.same _
   |bl b=>cases rx;exact SeqAt.EqAt.none_bool b
   |int b=>obtain⟨t,rfl⟩:=rx;exact SeqAt.EqAt.none_int b t
   |str b=>obtain⟨t,rfl⟩:=rx;exact SeqAt.EqAt.none_str b t
   |_=>exact absurd (show false=true from fx) Bool.false_ne_true
 | bl a=>
   cases ry
   cases x with
   |av=>cases rx;exact SeqAt.EqAt.bool_none a
   |bl b=>cases rx;exact SeqAt.EqAt.bool_bool a b
   |int b=>obtain⟨t,rfl⟩:=rx;exact SeqAt.EqAt.bool_int a b t
   |str b=>obtain⟨t,rfl⟩:=rx;exact SeqAt.EqAt.bool_str a b t
   |_=>exact absurd (show false=true from fx) Bool.false_ne_true
 | int a=>
   obtain⟨t',rfl⟩:=ry
   cases x with
   |av=>cases rx;exact SeqAt.EqAt.int_none a t'
   |bl b=>cases rx;exact SeqAt.EqAt.int_bool a t' b
   |int b=>obtain⟨t,rfl⟩:=rx;exact SeqAt.EqAt.int_int a t' b t
   |str b=>obtain⟨t,rfl⟩:=rx;exact SeqAt.EqAt.int_str a t' b t
   |_=>exact absurd (show false=true from fx) Bool.false_ne_true
 | str a=>
   obtain⟨t',rfl⟩:=ry
   cases x with
   |av=>cases rx;exact SeqAt.EqAt.str_none a t'
   |bl b=>cases rx;exact SeqAt.EqAt.str_bool a t' b
   |int b=>obtain⟨t,rfl⟩:=rx;exact SeqAt.EqAt.str_int a t' b t
   |str b=>obtain⟨t,rfl⟩:=rx;exact SeqAt.EqAt.str_str a t' b t
   |_=>exact absurd (show false=true from fx) Bool.false_ne_true
 |_=>exact absurd (show false=true from fy) Bool.false_ne_true
noncomputable def dg(x:V)(u:Value):Bool:=match u with
 |.none=>eN .av x
 |.bool b=>eN (.bl b) x
 |.int i _=>eN (.int i) x
 |.str z _=>eN (.str z) x
 |_=>false
theorem qu{x y:V}{u:Value}(r:RelV y u)(f:fj y=true):dg x u=eN y x:=by
 cases y with
 |av=>cases r;rfl
 |bl b=>cases r;rfl
 |int i=>obtain⟨t,rfl⟩:=r;rfl
 |str z=>obtain⟨t,rfl⟩:=r;rfl
 |_=>exact absurd (show false=true from f) Bool.false_ne_true
theorem j5{x:V}:∀ {xs:List V} {us:List Value},Vals xs us→xs.all fj=true→us.any (dg x)=xs.any fun y=>eN y x
 |_,_,.nil,_=>rfl
 | y::xs,u::us,.cons r t,f=>by
   rw[List.all_cons,Bool.and_eq_true]at f
   rw[List.any_cons,List.any_cons,qu r f.1,j5 t f.2]
theorem j2{A:Around}{s:Shared}{x:V}{v:Value}(rx:RelV x v)(fx:fj x=true):∀ {xs:List V} {us:List Value},Vals xs us→xs.all fj=true→∀u∈us,SeqAt.EqAt A s u v (dg x u)
 |_,_,.nil,_=>fun u hu=>by cases hu
 | y::xs,u::us,.cons r t,f=>fun u' hu=>by
   rw[List.all_cons,Bool.and_eq_true]at f
   rcases List.mem_cons.mp hu with rfl|hu
   ·rw[qu r f.1];exact Dm r rx f.1 fx
   ·exact j2 rx fx t f.2 u' hu
noncomputable def lY(x:V)(xs:List V):Bool:=xs.any fun y=>eN y x
noncomputable def tu(K:PySem.W.Frag)(neg:Bool):R2:=fun x y H Q=>∃p xs,y=.ref p∧(aN K H p xs∨aW K H p xs)∧fj x=true∧xs.all fj=true∧Q (.bl (if neg then !lY x xs else lY x xs)) H
theorem wD:aD X (compareOp .In) (tu X.K false):=by
 intro pins s σ H x y v u Q I rx ry h
 obtain⟨p,xs,rfl,hq,fx,fs,q⟩:=h
 cases ry
 rcases hq with hq|hq
 · obtain⟨its,r,pl,hz⟩:=I.list hq
   refine SeqAt.in_listAt (dg x) pl.isList (fun w hw=>j2 rx fx r fs w (by simpa using hw)) ⟨.bl _,H,I,rfl,?_⟩
   rw[show its.toArray.any (dg x)=its.any (dg x) by simp,j5 r fs]
   exact q
 · obtain⟨its,r,pl,hz⟩:=I.tuple hq
   refine SeqAt.in_tupleAt (dg x) pl (fun w hw=>j2 rx fx r fs w (by simpa using hw)) ⟨.bl _,H,I,rfl,?_⟩
   rw[show its.toArray.any (dg x)=its.any (dg x) by simp,j5 r fs]
   exact q
theorem F6:aD X (compareOp .NotIn) (tu X.K true):=by
 intro pins s σ H x y v u Q I rx ry h
 obtain⟨p,xs,rfl,hq,fx,fs,q⟩:=h
 cases ry
 rcases hq with hq|hq
 · obtain⟨its,r,pl,hz⟩:=I.list hq
   refine SeqAt.notIn_listAt (dg x) pl.isList (fun w hw=>j2 rx fx r fs w (by simpa using hw)) ⟨.bl _,H,I,rfl,?_⟩
   rw[show its.toArray.any (dg x)=its.any (dg x) by simp,j5 r fs]
   exact q
 · obtain⟨its,r,pl,hz⟩:=I.tuple hq
   refine SeqAt.notIn_tupleAt (dg x) pl (fun w hw=>j2 rx fx r fs w (by simpa using hw)) ⟨.bl _,H,I,rfl,?_⟩
   rw[show its.toArray.any (dg x)=its.any (dg x) by simp,j5 r fs]
   exact q
theorem tF:bp X (.builtin "len") (fun xs H Q=>∃p ys,xs=[.ref p]∧(aN X.K H p ys∨aW X.K H p ys)∧Q (.int ys.length) H):=by
 intro pins s σ H xs us Q I r h
 obtain⟨p,ys,rfl,hq,q⟩:=h
 obtain⟨u,rfl,rx⟩:=vals1 r
 cases rx
 have hn:=gW
 rcases hq with hq|hq
 · obtain⟨its,r',pl,hz⟩:=I.list hq
   have hlen:=r'.length
   exact Calls.call_len_list pl.isList (by simp only[List.size_toArray]<;>omega) ⟨.int ys.length,H,I.tok _,⟨s.toks+1,by rw[List.size_toArray,hlen]⟩,q⟩
 · obtain⟨its,r',pl,hz⟩:=I.tuple hq
   have hlen:=r'.length
   exact len_tuple pl (by simp only[List.size_toArray]<;>omega) ⟨.int ys.length,H,I.tok _,⟨s.toks+1,by rw[List.size_toArray,hlen]⟩,q⟩
theorem vN:bp X (.builtin "len") (fun xs H Q=>∃z,xs=[.str z]∧z.length≤sizeLine∧Q (.int z.length) H):=by
 intro pins s σ H xs us Q I r h
 obtain⟨z,rfl,hz,q⟩:=h
 obtain⟨u,rfl,t,rfl⟩:=vals1 r
 have hn:=gW
 exact len_str (by omega) ⟨.int z.length,H,I.tok _,⟨_,rfl⟩,q⟩
theorem bp.or{f:Value}{r r':List V→Hp→VK→Prop}(h:bp X f r)(h':bp X f r'):bp X f (fun xs H Q=>r xs H Q∨r' xs H Q):=by
 intro pins s σ H xs us Q I rs q
 rcases q with q|q
 ·exact h pins s σ H xs us Q I rs q
 ·exact h' pins s σ H xs us Q I rs q
theorem mq:bp X (.type "list") (fun xs H Q=>∃p ys,xs=[.ref p]∧(aN X.K H p ys∨aW X.K H p ys)∧∀l,H l=none→Q (.ref l) (upd H l (.lst ys))):=by
 intro pins s σ H xs us Q I r h
 obtain⟨p,ys,rfl,hq,q⟩:=h
 obtain⟨u,rfl,rx⟩:=vals1 r
 cases rx
 have fin:∀(its:List Value),Vals ys its→ys.length≤sizeLine→∀(h':Heap) (c':Nat),(∀b o',s.heap.get? b=some o'→h'.get? b=some o')→
     h'.get? s.heap.objs.size=some {cls:=.type "list",dict:=none,data:=.seq its.toArray c',slots:= #[]}→EP X pins σ Q (.ref s.heap.objs.size) {s with heap:=h'}:=fun its r' hz h' c' kp e=>
   ⟨.ref s.heap.objs.size,_,I.laid (t':=s.toks) kp (Nat.le_refl _) (show bT X.prog X.w _ h' _ (.lst ys)from⟨hz,its,c',r',e⟩),rfl,q _ (I.au.fresh (Nat.le_refl _))⟩
 rcases hq with hq|hq
 · obtain⟨its,r',pl,hz⟩:=I.list hq
   have hlen:=r'.length
   obtain⟨o,ho,hc,n,hd⟩:=pl.isList
   exact call_list_seq p (.inl rfl) ho hc hd (fun h' c' kp e=>fin its r' hz h' c' kp e) (by simp only[List.size_toArray]<;>omega)
 · obtain⟨its,r',pl,hz⟩:=I.tuple hq
   have hlen:=r'.length
   obtain⟨o,ho,hc,n,hd⟩:=pl
   exact call_list_seq p (.inr rfl) ho hc hd (fun h' c' kp e=>fin its r' hz h' c' kp e) (by simp only[List.size_toArray]<;>omega)
theorem pK:bp X (.type "tuple") (fun xs H Q=>∃p ys,xs=[.ref p]∧((aN X.K H p ys∧∀l,H l=none→Q (.ref l) (upd H l (.tup ys)))∨(aW X.K H p ys∧Q (.ref p) H))):=by
 intro pins s σ H xs us Q I r h
 obtain⟨p,ys,rfl,h⟩:=h
 obtain⟨u,rfl,rx⟩:=vals1 r
 cases rx
 rcases h with⟨hq,q⟩|⟨hq,q⟩
 · obtain⟨its,r',pl,hz⟩:=I.list hq
   have hlen:=r'.length
   refine call_tuple_list pl.isList (fun h' kp=>?_) (by simp only[List.size_toArray]<;>omega)
   have I1:Inv X pins σ H {s with heap:=h'}:=I.kept (t':=s.toks) kp
   have I2:Inv X pins σ (upd H h'.objs.size (.tup ys)) {s with heap:=h'.push {cls:=.type "tuple",data:=.seq its.toArray} }:=
     I1.laid (t':=s.toks) (fun b o e=>Heap.get?_push_of_some _ e) (Nat.le_refl _) (show bT X.prog X.w _ _ _ (.tup ys)from⟨hz,its,r',IsTup.new _ _⟩)
   exact⟨.ref h'.objs.size,_,I2,rfl,q _ (I1.au.fresh (Nat.le_refl _))⟩
 · obtain⟨its,r',pl,hz⟩:=I.tuple hq
   exact call_tuple_same pl ⟨.ref p,H,I,rfl,q⟩
noncomputable def nc(K:PySem.W.Frag)(T:String)(x:V)(H:Hp):Prop:=match x with
 |.str _=>T="str"
 |.int _=>T="int"
 |.ref p=>(T="list"∧∃xs,aN K H p xs)∨(T="tuple"∧∃o,K.lookup p=some o∧o.cls=.type "tuple"∧o.dict=none)∨
     (T="dict"∧((∃kvs,H p=some (.dK kvs))∨∃kvs,H p=some (.dT kvs)))∨(T="set"∧∃S n,H p=some (.set S n))
 |_=>False
theorem sy{pins:List (Addr×Obj)}{σ:St}{H:Hp}{s:Shared}{T:String}{x:V}{v:Value}(I:Inv X pins σ H s)(r:RelV x v)(ty:nc X.K T x H):
   s.TypeIs v T∧∀a,v=.ref a→∃ob,s.heap.get? a=some ob∧ob.dict=none:=by
 cases x with
 | str z=>
   obtain⟨t,rfl⟩:=r
   cases (show T="str" from ty)
   exact⟨typeIs_str s z t,fun _ e=>nomatch e⟩
 | int i=>
   obtain⟨t,rfl⟩:=r
   cases (show T="int" from ty)
   exact⟨typeIs_int s i t,fun _ e=>nomatch e⟩
 | ref p=>
   cases r
   rcases ty with⟨rfl,xs,hq⟩|⟨rfl,o,hk,hc,hd⟩|⟨rfl,hk⟩|⟨rfl,S,n,hk⟩
   · obtain⟨its,_,pl,_⟩:=I.list hq
     refine⟨pl.isList.typeIs,fun a e=>?_⟩
     cases e
     obtain⟨o,n,e,c,hd,_⟩:=pl
     exact⟨o,e,hd⟩
   · refine⟨⟨o,I.cx p o hk,hc⟩,fun a e=>?_⟩
     cases e
     exact⟨o,I.cx _ o hk,hd⟩
   · have z:∃o,s.heap.get? p=some o∧o.ExactDict:=by
       rcases hk with⟨kvs,hk⟩|⟨kvs,hk⟩
       · obtain⟨_,_,_,_,o,_,_,e,ex,_⟩:=I.au p _ hk
         exact⟨o,e,ex⟩
       · obtain⟨_,_,_,_,o,_,_,e,ex,_⟩:=I.au p _ hk
         exact⟨o,e,ex⟩
     obtain⟨o,e,ex⟩:=z
     refine⟨⟨o,e,ex.1⟩,fun a e2=>?_⟩
     cases e2
     exact⟨o,e,ex.2.1⟩
   · obtain⟨o,_,_,_,e,ex,_⟩:=I.au p _ hk
     refine⟨⟨o,e,ex.1⟩,fun a e2=>?_⟩
     cases e2
     exact⟨o,e,ex.2.1⟩
 |_=>exact False.elim ty
noncomputable def GS(K:PySem.W.Frag)(T:String)(r:V→List V→Hp→VK→Prop)(to:TE):TE:=fun σ H Q=>to σ H fun x H1=>nc K T x H1∧r x [] H1 Q
noncomputable def AH(K:PySem.W.Frag)(T:String)(r:V→List V→Hp→VK→Prop)(to:TE)(t:TA):TE:=fun σ H Q=>to σ H fun x H1=>nc K T x H1∧t σ H1 fun xs H2=>r x xs H2 Q
variable{o e:Expr}{es:List Expr}{to:TE}{t:TA}{name:Str}{apos cpos:Pos}{T id:String}{r:V→List V→Hp→VK→Prop}
theorem Dv(pa:PlainAttrs T)(slot:Slot T name id)(hty:typeOf (.builtin id)=pure (.type "method_descriptor"))(hm:i3 X id r)(ho:PE X o to)
   (hbase:attributeBase o name X.env (eval o X.env)=eval o X.env:=by rfl) (hline:(apos.endLine==cpos.line)=true:=by rfl):PE X (.Call (.Attribute o name apos) [] [] cpos) (GS X.K T r to):=by
 intro pins s σ H Q I h
 refine wpAny_Call_method0_late hbase hline (ar (ho pins s σ H _ I h) fun v s1 ⟨x,H1,I1,r1,ty,q1⟩=>?_)
 obtain⟨h1,h2⟩:=sy I1 r1 ty
 exact⟨T,id,pa,slot,hty,h1,h2,Calls.callWith_builtin rfl (PySem.evalArgs_none (hm pins s1 σ H1 x [] v [] Q I1 r1 .nil q1))⟩
theorem tL(pa:PlainAttrs T)(slot:Slot T name id)(hty:typeOf (.builtin id)=pure (.type "method_descriptor"))(hm:i3 X id r)(ho:PE X o to)(ha:PA X (e::es) t)
   (hbase:attributeBase o name X.env (eval o X.env)=eval o X.env:=by rfl)
   (hfew:((backTo cpos (starEach (e::es) X.env)).all (fun x=> !x.1)&&(backToKw cpos (keywordEach [] X.env)).all (fun x=>x.1.isSome)
     &&decide ((e::es).length+([]:List Keyword).length+(if([]:List Keyword).isEmpty then 0 else 1)<30))=true:=by rfl)
   (hline:(apos.endLine==cpos.line)=true:=by rfl) (hs:starEach (e::es) X.env=(false,eval e X.env)::starEach es X.env:=by rfl) (hplain:(backTo cpos (starEach es X.env)).any (·.1)=false:=by rfl):
   PE X (.Call (.Attribute o name apos) (e::es) [] cpos) (AH X.K T r to t):=by
 intro pins s σ H Q I h
 refine wpAny_Call_method_late hbase hfew hline rfl (ar (ho pins s σ H _ I h) fun v s1 ⟨x,H1,I1,r1,ty,q1⟩=>?_)
 obtain⟨h1,h2⟩:=sy I1 r1 ty
 refine⟨T,id,pa,slot,hty,h1,h2,?_⟩
 have hA:=ha cpos pins s1 σ H1 _ I1 q1
 rw[hs]at hA ⊢
 refine Calls.callWith_builtin (by show(false||(backTo cpos (starEach es X.env)).any (·.1))=false;rw[hplain]<;>rfl) (Calls.evalArgs_plain ?_)
 exact ar hA fun us s2 ⟨vs,H2,I2,r2,q2⟩=>hm pins s2 σ H2 x vs v us Q I2 r1 r2 q2
end
end L2
namespace L2
open PySem PySem.Spec PyProof.Rows
noncomputable def lL(X:Cx)(id:String)(r:V→List V→Hp→VK→Prop):Prop:=
 ∀(pins:List (Addr×Obj)) (s:Shared) (σ:St) (H:Hp) (x:V) (xs:List V) (v:Value) (us:List Value) (Q:VK),Inv X pins σ H s→RelV x v→Vals xs us→r x xs H Q→
   wpAny (model X.prog X.w) X.A (call (.builtin id) (v::us)) (EP X pins σ Q) X.xe s
theorem Vals.one:∀ {x:V} {us:List Value},Vals [x] us→∃u,us=[u]∧RelV x u
 |_,_,.cons r .nil=>⟨_,rfl,r⟩
theorem Vals.two:∀ {x y:V} {us:List Value},Vals [x,y] us→∃u v,us=[u,v]∧RelV x u∧RelV y v
 |_,_,_,.cons r (.cons q .nil)=>⟨_,_,rfl,r,q⟩
theorem Vals.zero:∀ {us:List Value},Vals [] us→us=[]
 |_,.nil=>rfl
theorem Vals.dropLast{xs:List V}{us:List Value}(h:Vals xs us):Vals xs.dropLast us.dropLast:=by
 induction h with
 |nil=>exact .nil
 | cons r t ih=>
   cases t with
   |nil=>exact .nil
   |cons q t'=>exact .cons r ih
theorem Vals.eraseIdx:∀ {xs:List V} {us:List Value} (i:Nat),Vals xs us→Vals (xs.eraseIdx i) (us.eraseIdx i)
 |_,_,_,.nil=>.nil
 |_,_,0,.cons _ t=>t
 |_,_,i+1,.cons r t=>.cons r (Vals.eraseIdx i t)
theorem Vals.reverse{xs:List V}{us:List Value}(h:Vals xs us):Vals xs.reverse us.reverse:=by
 induction h with
 |nil=>exact .nil
 |cons r t ih=>rw[List.reverse_cons,List.reverse_cons];exact Vals.append ih (.cons r .nil)
theorem Vals.rep{xs:List V}{us:List Value}(h:Vals xs us):∀k:Nat,Vals (List.replicate k xs).flatten (List.replicate k us).flatten
 |0=>.nil
 | k+1=>by
   rw[List.replicate_succ,List.replicate_succ,List.flatten_cons,List.flatten_cons]
   exact Vals.append h (Vals.rep h k)
theorem uQ{α:Type}(l:List α):l.eraseIdx (l.length - 1)=l.dropLast:=by
 induction l with
 |nil=>rfl
 | cons a r ih=>
   cases r with
   |nil=>rfl
   | cons b r=>
     have e:(a::b::r).length - 1=((b::r).length - 1)+1:=by
       have h1:(a::b::r).length=r.length+2:=rfl
       have h2:(b::r).length=r.length+1:=rfl
       omega
     rw[e,List.eraseIdx_cons_succ,ih]
     all_goals rfl
section
variable{X:Cx}{pins:List (Addr×Obj)}{σ:St}{H:Hp}{s:Shared}{l b:Addr}{xs ys zs:List V}
theorem Inv.nS{its its':List Value}{n:Nat}{f:Array Value→Array Value}{t':Nat}(I:Inv X pins σ H s)(hH:H l=some (.lst xs))
   (e:s.heap.get? l=some {cls:=.type "list",data:=.seq its.toArray n}) (hf:f its.toArray=its'.toArray) (hv:Vals ys its') (hz:ys.length≤sizeLine):
   Inv X pins σ (upd H l (.lst ys)) {s with heap:=s.heap.update l (Obj.mapSeq f),toks:=t'}:=by
 have q:=PySem.IsL.update e f
 rw[hf]at q
 refine I.write (x:=l) (e:=l) (by rw[hH];exact trivial) (.inl rfl) (fun b' u hb hu=>(Heap.get?_update_other s.heap (Obj.mapSeq f) (Ne.symm hb)).trans hu) ⟨_,q⟩ ?_
 exact⟨hz,its',_,hv,q⟩
theorem Inv.pE{its:List Value}{t':Nat}(I:Inv X pins σ H s)(hv:Vals ys its)(hz:ys.length≤sizeLine):
   Inv X pins σ (upd H s.heap.objs.size (.lst ys)) {s with heap:=s.heap.push {cls:=.type "list",data:=.seq its.toArray},toks:=t'}:=
 I.laid (fun _ _ q=>Heap.get?_push_of_some _ q) (Nat.le_refl _) ⟨hz,its,0,hv,Heap.get?_push_size _ rfl⟩
theorem Inv.fresh(I:Inv X pins σ H s):H s.heap.objs.size=none:=I.au.fresh (Nat.le_refl _)
theorem Inv.kW(I:Inv X pins σ H s)(hH:H l=some (.lst xs)):xs.length≤sizeLine∧∃(its:List Value) (n:Nat),Vals xs its∧xs.length=its.length∧s.heap.get? l=some {cls:=.type "list",data:=.seq its.toArray n}:=by
 obtain⟨z,its,n,r,e⟩:=I.au l _ hH
 exact⟨z,its,n,r,r.length,e⟩
theorem uB{n:Nat}(h:n≤sizeLine):Builtin.List.listTooLong n=false:=by
 unfold Builtin.List.listTooLong
 exact decide_eq_false (by omega)
end
section
variable{X:Cx}
noncomputable def xJ:V→List V→Hp→VK→Prop:=fun x vs H Q=>∃l xs y,x=.ref l∧vs=[y]∧H l=some (.lst xs)∧xs.length<sizeLine∧Q .av (upd H l (.lst (xs++[y])))
theorem xR:lL X "list.append" xJ:=by
 intro pins s σ H x vs v us Q I rx rv h
 obtain⟨l,xs,y,rfl,rfl,hH,hz,q⟩:=h
 cases rx
 obtain⟨u,rfl,ru⟩:=rv.one
 obtain⟨z,its,n,r,hl,e⟩:=I.kW hH
 refine call_meets F.slot_list_append ⟨_,e,rfl⟩ F.entry_list_append (F.args_list_append_2 _ _) (PySem.list_append l its.toArray n u (by rw[List.size_toArray];omega)) ⟨e,?_⟩
 refine⟨.av,_,I.nS (its':=its++[u]) hH e (by simp) (r.append (.cons ru .nil)) ?_,rfl,q⟩
 rw[List.length_append,List.length_singleton]
 omega
noncomputable def BQ:V→List V→Hp→VK→Prop:=fun x vs H Q=>∃l b xs zs,x=.ref l∧vs=[.ref b]∧H l=some (.lst xs)∧H b=some (.lst zs)∧xs.length+zs.length≤sizeLine∧Q .av (upd H l (.lst (xs++zs)))
theorem Ak:lL X "list.extend" BQ:=by
 intro pins s σ H x vs v us Q I rx rv h
 obtain⟨l,b,xs,zs,rfl,rfl,hH,hB,hz,q⟩:=h
 cases rx
 obtain⟨u,rfl,ru⟩:=rv.one
 cases ru
 obtain⟨z,its,n,r,hl,e⟩:=I.kW hH
 obtain⟨z2,its2,n2,r2,hl2,e2⟩:=I.kW hB
 have hsz:its.toArray.size+its2.toArray.size≤sizeLine:=by rw[List.size_toArray,List.size_toArray];omega
 have hlong:¬(!its.toArray.isEmpty&&Builtin.List.listTooLong (its.toArray.size+its2.toArray.size))=true:=by
   rw[uB hsz,Bool.and_false]
   exact Bool.false_ne_true
 refine call_meets F.slot_list_extend ⟨_,e,rfl⟩ F.entry_list_extend (F.args_list_extend_2 _ _)
   (AutoSeq1.list_extend_list_list_0 l its.toArray n b its2.toArray n2 hlong (by rw[List.size_toArray];omega) (by omega)) ⟨e,e2,?_⟩
 refine⟨.av,_,I.nS (its':=its++its2) hH e (by simp) (r.append r2) ?_,rfl,q⟩
 rw[List.length_append]
 omega
noncomputable def BW:V→List V→Hp→VK→Prop:=fun x vs H Q=>∃l xs y,x=.ref l∧vs=[]∧H l=some (.lst xs)∧xs[xs.length - 1]? =some y∧Q y (upd H l (.lst xs.dropLast))
theorem vi:lL X "list.pop" BW:=by
 intro pins s σ H x vs v us Q I rx rv h
 obtain⟨l,xs,y,rfl,rfl,hH,hy,q⟩:=h
 cases rx
 have hus:=rv.zero
 subst hus
 obtain⟨z,its,n,r,hl,e⟩:=I.kW hH
 obtain⟨u,hu,ru⟩:=r.get hy
 have hy':its.toArray[its.toArray.size - 1]? =some u:=by
   show its.toArray[its.length - 1]? =some u
   rw[←Array.getElem?_toList, ←hl]
   exact hu
 refine call_meets F.slot_list_pop ⟨_,e,rfl⟩ F.entry_list_pop (F.args_list_pop_1 _) (MeetsSeq.list_pop_last l its.toArray n u hy' (by rw[List.size_toArray];omega)) ⟨e,?_⟩
 refine⟨y,_,I.nS (its':=its.dropLast) hH e ?_ r.dropLast ?_,ru,q⟩
 · show its.toArray.eraseIdxIfInBounds (its.toArray.size - 1)=its.dropLast.toArray
   rw[List.size_toArray,List.eraseIdxIfInBounds_toArray,uQ]
 · rw[List.length_dropLast]
   omega
theorem len_rep{α:Type}(xs:List α)(k:Nat):(List.replicate k xs).flatten.length=k*xs.length:=by
 induction k with
 |zero=>simp
 |succ k ih=>rw[List.replicate_succ,List.flatten_cons,List.length_append,ih,Nat.succ_mul,Nat.add_comm]
end
section
variable{prog:Program}{w:World}{A:Around}{E:Value→Shared→Prop}{s:Shared}
end
section
variable{X:Cx}
end
end L2
namespace L2
open PySem PySem.Spec PyProof.Rows
section
variable{κ:Type} [DecidableEq κ]
noncomputable def b7(kvs:List (κ×V))(k:κ):Option V:=(kvs.find? fun kv=>decide (kv.1=k)).map (·.2)
noncomputable def putK(kvs:List (κ×V))(k:κ)(v:V):List (κ×V):=
 if(kvs.any fun kv=>decide (kv.1=k))=true then kvs.map (fun kv=>if kv.1=k then(kv.1,v)else kv)else kvs++[(k,v)]
noncomputable def qN(kvs:List (κ×V))(k:κ):List (κ×V):=kvs.filter fun kv=>decide (kv.1≠k)
theorem mN{p:κ×V}{r:List (κ×V)}{k:κ}(e:p.1=k):b7 (p::r) k=some p.2:=by simp[b7,List.find?_cons,e]
theorem nv{p:κ×V}{r:List (κ×V)}{k:κ}(e:¬p.1=k):b7 (p::r) k=b7 r k:=by simp[b7,List.find?_cons,e]
theorem rj(k:κ):∀kvs:List (κ×V),(kvs.any fun kv=>decide (kv.1=k))=(b7 kvs k).isSome
 |[]=>rfl
 | p::r=>by
   rw[List.any_cons]
   by_cases e:p.1=k
   ·simp only[mN e,decide_eq_true e,Bool.true_or,Option.isSome_some]
   ·rw[nv e,decide_eq_false e,Bool.false_or];exact rj k r
theorem oM(kvs:List (κ×V))(k:κ)(v:V):(putK kvs k v).length≤kvs.length+1:=by
 unfold putK
 split
 ·rw[List.length_map];omega
 ·rw[List.length_append,List.length_cons,List.length_nil];omega
theorem cI.DO{o:Option V}{u:Option Value}(r:cI o u):o.isSome=u.isSome:=by
 cases o with
 | none=>cases u with
   |none=>rfl
   |some _=>exact(show False from r).elim
 | some _=>cases u with
   |none=>exact(show False from r).elim
   |some _=>rfl
theorem cI.getD{o:Option V}{u:Option Value}{d:V}{d':Value}(r:cI o u)(rd:RelV d d'):RelV (o.getD d) (u.getD d'):=by
 cases o with
 | none=>cases u with
   |none=>exact rd
   |some _=>exact(show False from r).elim
 | some _=>cases u with
   |none=>exact(show False from r).elim
   |some _=>exact r
theorem KV.val{kvs:List (κ×V)}{vs:List (κ×Value)}(r:KV kvs vs)(k:κ):cI (b7 kvs k) (valueAt vs k):=by
 unfold KV at r
 induction r with
 |nil=>exact True.intro
 | @cons p q ps qs h t ih=>
   obtain⟨h1,h2⟩:=h
   by_cases e:p.1=k
   · have e':q.1=k:=h1.symm.trans e
     have b:valueAt (q::qs) k=some q.2:=by simp[valueAt,List.find?_cons,e']
     rw[mN e,b];exact h2
   · have e':¬q.1=k:=fun z=>e (h1.trans z)
     have b:valueAt (q::qs) k=valueAt qs k:=by simp[valueAt,List.find?_cons,e']
     rw[nv e,b];exact ih
theorem KV.any{kvs:List (κ×V)}{vs:List (κ×Value)}(r:KV kvs vs)(k:κ):(kvs.any fun kv=>decide (kv.1=k))=vs.any fun kv=>decide (kv.1=k):=by
 unfold KV at r
 induction r with
 |nil=>rfl
 |cons h t ih=>rw[List.any_cons,List.any_cons,ih,h.1]
theorem KV.ou{kvs:List (κ×V)}{vs:List (κ×Value)}(r:KV kvs vs)(k:κ){y:V}{u:Value}(ry:RelV y u):
   KV (kvs.map fun kv=>if kv.1=k then(kv.1,y)else kv) (vs.map fun kv=>if kv.1=k then(kv.1,u)else kv):=by
 unfold KV at r ⊢
 induction r with
 |nil=>exact .nil
 | @cons p q ps qs h t ih=>
   rw[List.map_cons,List.map_cons]
   refine .cons ?_ ih
   obtain⟨h1,h2⟩:=h
   by_cases e:p.1=k
   ·rw[if_pos e,if_pos (h1.symm.trans e)];exact⟨h1,ry⟩
   ·rw[if_neg e,if_neg (fun z=>e (h1.trans z))];exact⟨h1,h2⟩
theorem KV.put{kvs:List (κ×V)}{vs:List (κ×Value)}(r:KV kvs vs)(k:κ){y:V}{u:Value}(ry:RelV y u):KV (putK kvs k y) (stored vs k u):=by
 unfold putK stored
 rw[r.any k]
 by_cases e:(vs.any fun kv=>decide (kv.1=k))=true
 ·rw[if_pos e,if_pos e];exact r.ou k ry
 ·rw[if_neg e,if_neg e];exact Paired.snoc r ⟨rfl,ry⟩
theorem KV.drop{kvs:List (κ×V)}{vs:List (κ×Value)}(r:KV kvs vs)(k:κ):KV (qN kvs k) (without vs k):=by
 unfold KV at r ⊢
 unfold qN without
 induction r with
 |nil=>exact .nil
 | @cons p q ps qs h t ih=>
   obtain⟨h1,h2⟩:=h
   rw[List.filter_cons,List.filter_cons]
   by_cases e:p.1=k
   · have a:¬decide (p.1≠k)=true:=by simp[e]
     have b:¬decide (q.1≠k)=true:=by simp[h1.symm.trans e]
     rw[if_neg a,if_neg b];exact ih
   · have e':¬q.1=k:=fun z=>e (h1.trans z)
     have a:decide (p.1≠k)=true:=by simp[e]
     have b:decide (q.1≠k)=true:=by simp[e']
     rw[if_pos a,if_pos b];exact .cons ⟨h1,h2⟩ ih
theorem KV.length{kvs:List (κ×V)}{vs:List (κ×Value)}(r:KV kvs vs):kvs.length=vs.length:=Paired.length r
end
theorem gk{P:Program}{w:World}{k:Key}{u:Value}(r:RelV (kV k) u):(bt P w).is k u=true:=by
 cases k with
 |inl i=>obtain⟨t,e⟩:=(show ∃t,u=Value.int i t from r);subst e;exact A2 P w i t
 |inr x=>obtain⟨t,e⟩:=(show ∃t,u=Value.str x t from r);subst e;exact wR P w x t
theorem tT{P:Program}{w:World}:∀ {ks:List Key} {us:List Value},Vals (ks.map kV) us→ItemsAre (bt P w) ks us
 |[],_,r=>by rw[List.map_nil]at r;cases r;exact .nil
 | k::ks,_,r=>by
   rw[List.map_cons]at r
   cases r with
   |cons h t=>exact .cons (gk h) (tT t)
noncomputable abbrev KT(H:Hp):List (List Key×V)→List (List Key×Addr×Value)→Prop:=Paired fun p q=>p.1=q.1∧H q.2.1=some (.tup (p.1.map kV))∧RelV p.2 q.2.2
theorem KT.val{H:Hp}{kvs:List (List Key×V)}{xs:List (List Key×Addr×Value)}(r:KT H kvs xs)(k:List Key):cI (b7 kvs k) ((atKey xs k).map (·.2)):=by
 induction r with
 |nil=>exact True.intro
 | @cons p q ps qs h t ih=>
   obtain⟨h1,_,h2⟩:=h
   by_cases e:p.1=k
   · have e':q.1=k:=h1.symm.trans e
     have b:atKey (q::qs) k=some q.2:=by simp[atKey,List.find?_cons,e']
     rw[mN e,b];exact h2
   · have e':¬q.1=k:=fun z=>e (h1.trans z)
     have b:atKey (q::qs) k=atKey qs k:=by simp[atKey,List.find?_cons,e']
     rw[nv e,b];exact ih
theorem KT.ou{H:Hp}{kvs:List (List Key×V)}{xs:List (List Key×Addr×Value)}(r:KT H kvs xs)(k:List Key){y:V}{u:Value}(ry:RelV y u):
   KT H (kvs.map fun kv=>if kv.1=k then(kv.1,y)else kv) (xs.map (putAt k u)):=by
 induction r with
 |nil=>exact .nil
 | @cons p q ps qs h t ih=>
   rw[List.map_cons,List.map_cons]
   refine .cons ?_ ih
   obtain⟨h1,h2,h3⟩:=h
   unfold putAt
   by_cases e:p.1=k
   ·rw[if_pos e,if_pos (h1.symm.trans e)];exact⟨h1,h2,ry⟩
   ·rw[if_neg e,if_neg (fun z=>e (h1.trans z))];exact⟨h1,h2,h3⟩
theorem KT.put{H:Hp}{kvs:List (List Key×V)}{xs:List (List Key×Addr×Value)}(r:KT H kvs xs)(k:List Key){b:Addr}{y:V}{u:Value}(hb:H b=some (.tup (k.map kV)))(ry:RelV y u):
   KT H (putK kvs k y) (storedH xs k b u):=by
 have e:(kvs.any fun kv=>decide (kv.1=k))=(atKey xs k).isSome:=by
   rw[rj,(r.val k).DO,Option.isSome_map]
 unfold putK storedH
 rw[e]
 by_cases q:(atKey xs k).isSome=true
 ·rw[if_pos q,if_pos q];exact r.ou k ry
 ·rw[if_neg q,if_neg q];exact Paired.snoc r ⟨rfl,hb,ry⟩
theorem KT.keeps{H H':Hp}{kvs:List (List Key×V)}{xs:List (List Key×Addr×Value)}(r:KT H kvs xs)(ht:∀b ys,H b=some (.tup ys)→H' b=some (.tup ys)):KT H' kvs xs:=
 Paired.o5 r fun _ _ z=>⟨z.1,ht _ _ z.2.1,z.2.2⟩
section
variable{P:Program}{w:World}{H:Hp}{h:Heap}{a:Addr}
theorem pQ{u:HO}(ok:bc P w H h)(e:Rd H a u):bT P w H h a u:=e.ok ok
theorem oW{kvs:List (Key×V)}(ok:bc P w H h)(e:Rd H a (.dK kvs)):kvs.length≤sizeLine∧(a==sysModules)=false∧∃vs,KV kvs vs∧h.DictOf (bt P w) a vs:=
 show bT P w H h a (.dK kvs)from pQ ok e
theorem kP{kvs:List (Key×V)}(ok:bc P w H h)(e:H a=some (.dK kvs)):kvs.length≤sizeLine∧(a==sysModules)=false∧∃vs,KV kvs vs∧h.DictOf (bt P w) a vs:=oW ok (.inl e)
theorem qH{ks:List Key}(ok:bc P w H h)(e:H a=some (.tup (ks.map kV))):(tupleKind (bt P w)).is h ks a:=by
 obtain⟨_,its,r,o,h1,h2,n,h3⟩:=(show bT P w H h a (.tup (ks.map kV))from ok a _ e)
 exact⟨o,its.toArray,n,h1,h2,h3,by simpa using tT r⟩
theorem CG{kvs:List (List Key×V)}(ok:bc P w H h)(e:Rd H a (.dT kvs)):kvs.length≤sizeLine∧(a==sysModules)=false∧
   ∃xs,KT H kvs xs∧h.DictOfH (tupleKind (bt P w)) a xs:=by
 obtain⟨z,y,xs,r,o,es,ep,h1,h2,h3,h4,h5⟩:=(show bT P w H h a (.dT kvs)from pQ ok e)
 refine⟨z,y,xs,r,o,es,ep,h1,h2,h3,h4,fun x hx=>?_,h5⟩
 have all:∀ {l:List (List Key×V)} {m:List (List Key×Addr×Value)},KT H l m→∀x∈m,(tupleKind (bt P w)).is h x.1 x.2.1:=by
   intro l m q
   induction q with
   |nil=>intro x hx;exact nomatch hx
   | @cons p q ps qs hq t ih=>
     intro x hx
     rcases List.mem_cons.mp hx with e|hx
     · subst e
       exact qH ok (by rw[←hq.1];exact hq.2.1)
     ·exact ih x hx
 exact all r x hx
theorem uH{kvs:List (List Key×V)}(ok:bc P w H h)(e:H a=some (.dT kvs)):kvs.length≤sizeLine∧(a==sysModules)=false∧
   ∃xs,KT H kvs xs∧h.DictOfH (tupleKind (bt P w)) a xs:=CG ok (.inl e)
end
noncomputable def lP(H:Hp)(a:Addr)(y:V)(r:Option V):Prop:=
 (∃kvs k,Rd H a (.dK kvs)∧y=kV k∧r=b7 kvs k)∨∃kvs k b,Rd H a (.dT kvs)∧y=.ref b∧H b=some (.tup (k.map kV))∧r=b7 kvs k
noncomputable def ia(H:Hp)(a:Addr)(y v:V)(H':Hp):Prop:=
 (∃kvs k,H a=some (.dK kvs)∧y=kV k∧kvs.length<sizeLine∧H'=upd H a (.dK (putK kvs k v)))∨
 ∃kvs k b,H a=some (.dT kvs)∧y=.ref b∧H b=some (.tup (k.map kV))∧kvs.length<sizeLine∧H'=upd H a (.dT (putK kvs k v))
theorem lP.k{H:Hp}{a:Addr}{kvs:List (Key×V)}{k:Key}(e:H a=some (.dK kvs)):lP H a (kV k) (b7 kvs k):=.inl ⟨kvs,k,.inl e,rfl,rfl⟩
theorem lP.t{H:Hp}{a b:Addr}{kvs:List (List Key×V)}{k:List Key}(e:H a=some (.dT kvs))(eb:H b=some (.tup (k.map kV))):lP H a (.ref b) (b7 kvs k):=.inr ⟨kvs,k,b,.inl e,rfl,eb,rfl⟩
theorem ia.k{H:Hp}{a:Addr}{kvs:List (Key×V)}{k:Key}{v:V}(e:H a=some (.dK kvs))(hl:kvs.length<sizeLine):ia H a (kV k) v (upd H a (.dK (putK kvs k v))):=.inl ⟨kvs,k,e,rfl,hl,rfl⟩
theorem ia.t{H:Hp}{a b:Addr}{kvs:List (List Key×V)}{k:List Key}{v:V}(e:H a=some (.dT kvs))(eb:H b=some (.tup (k.map kV)))(hl:kvs.length<sizeLine):
   ia H a (.ref b) v (upd H a (.dT (putK kvs k v))):=.inr ⟨kvs,k,b,e,rfl,eb,hl,rfl⟩
section
variable{X:Cx}{pins:List (Addr×Obj)}{σ:St}{H:Hp}{s:Shared}{a:Addr}{y v:V}{u r:Value}{o:Option V}{A:Around}{E:Value→Shared→Prop}
theorem Inv.big(I:Inv X pins σ H s):sysModules<s.heap.objs.size:=by
 have h:mainGlobals<s.heap.objs.size:=(I.mod.glob.keeps I.bk).lt
 exact Nat.lt_trans (by decide) h
theorem lD{h':Heap}{t':Nat}{ob:HO}(I:Inv X pins σ H s)(mu:jM (H a))(hs:Heap.SameBut a s.heap h')(he:∃q,h'.get? a=some q)(new:bT X.prog X.w (upd H a ob) h' a ob):
   Inv X pins σ (upd H a ob) {s with heap:=h',toks:=t'}:=
 I.write (x:=a) (e:=a) mu (.inl rfl) (fun b q hb z=>(hs.2 b hb).trans z) he new
theorem mj{P:Program}{w:World}{H':Hp}{h':Heap}{kvs:List (Key×V)}{vs:List (Key×Value)}(z:kvs.length≤sizeLine)(hd:(a==sysModules)=false)(rel:KV kvs vs)(dd:h'.DictOf (bt P w) a vs):
   bT P w H' h' a (.dK kvs):=⟨z,hd,vs,rel,dd⟩
theorem Fy{H':Hp}{Q:Unit→Shared→Prop}(hu:A.units+1<cLine)(I:Inv X pins σ H s)(g:ia H a y v H')(ry:RelV y u)(rv:RelV v r)(h:∀s',Inv X pins σ H' s'→Q () s'):
   wpAny (model X.prog X.w) A (setItem (.ref a) u r) Q E s:=by
 rcases g with⟨kvs,k,e,ey,l,eH⟩|⟨kvs,k,b,e,ey,eb,l,eH⟩
 · subst ey eH
   obtain⟨z,hd,vs,rel,dd⟩:=kP I.au e
   have hz:vs.length≤sizeLine:=by rw[←rel.length];exact z
   have hl:(putK kvs k v).length≤sizeLine:=by have:=oM kvs k v;omega
   refine wpAny_setItem_pairs (hsz:=hz) (gk ry) dd fun h' dd' hs=>h _ ?_
   have he:∃q,h'.get? a=some q:=let⟨q,_,_,hq,_⟩:=dd';⟨q,hq⟩
   exact lD I (by rw[e];exact True.intro) hs he (mj hl hd (rel.put k rv) dd')
 · subst ey eH
   cases (show u=Value.ref b from ry)
   obtain⟨z,hd,xs,rel,dd⟩:=uH I.au e
   have hz:xs.length≤sizeLine:=by rw[←Paired.length rel];exact z
   have hl:(putK kvs k v).length≤sizeLine:=by have:=oM kvs k v;omega
   refine wpAny_setItem_heap (hsz:=hz) (tupleKind_room_in1 hu) (qH I.au eb) dd fun h' dd' hs=>h _ ?_
   obtain⟨q,es,ep,hq,h2,h3,h4,_,h5⟩:=dd'
   refine lD I (by rw[e];exact True.intro) hs ⟨q,hq⟩ ⟨hl,hd,_,(rel.put k eb rv).keeps fun c ys ec=>?_,q,es,ep,hq,h2,h3,h4,h5⟩
   rw[aA (Dy ec e (fun z=>nomatch z))]
   exact ec
end
section
variable{X:Cx}{pins:List (Addr×Obj)}{σ:St}{H:Hp}{s:Shared}{a:Addr}{kvs:List (Key×V)}{k:Key}{u:Value}{A:Around}{E:Value→Shared→Prop}
end
noncomputable def D6(td ty tv:TE):TS:=fun D σ H=>tv σ H fun v H1=>td σ H1 fun x H2=>ty σ H2 fun y H3=>∃a H4,x=.ref a∧ia H3 a y v H4∧D.nx σ H4
section
variable{X:Cx}{o i e value:Expr}{pos pos' tpos:Pos}{td ty tv:TE}
theorem vv(hu:X.A.units+1<cLine)(ho:PE X o td)(hi:PE X i ty)(hv:PE X value tv)(hs:swapsWith value (some (.Subscript o i pos')) pos.line X.env=pure false):
   PS X (.Assign [.Subscript o i pos'] value pos) (D6 td ty tv):=by
 intro pins s σ H D I h
 refine wpAny_Assign_Subscript (ar (hv pins s σ H _ I h) fun r s1 ⟨v,H1,I1,rv,q1⟩=>ar (ho pins s1 σ H1 _ I1 q1) fun u s2 ⟨x,H2,I2,rx,q2⟩=>ar (hi pins s2 σ H2 _ I2 q2) fun iv s3 ⟨y,H3,I3,ry,a,H4,ex,g,q3⟩=>?_) hs
 subst ex
 obtain rfl:u=Value.ref a:=rx
 exact Fy hu I3 g ry rv fun s4 I4=>⟨σ,H4,I4,q3⟩
end
theorem rl{P:Program}{w:World}{H:Hp}(h:Heap)(hb:sysModules<h.objs.size):bT P w H (h.push {cls:=.type "dict",data:=.dict #[]}) h.objs.size (.dK []):=
 ⟨Nat.zero_le _,beq_eq_false_iff_ne.mpr (Ne.symm (Nat.ne_of_lt hb)),[],.nil,Heap.DictOf.new h⟩
noncomputable def EI:TE:=fun _ H Q=>∀p,H p=none→Q (.ref p) (upd H p (.dK []))
section
variable{X:Cx}{pos:Pos}
theorem rW:PE X (.Dict [] [] pos) EI:=fun pins s σ H Q I h=>
 wpAny_Dict_empty ⟨.ref s.heap.objs.size,_,I.laid (a:=s.heap.objs.size) (o:=.dK []) (t':=s.toks) (fun _ _ q=>Heap.get?_push_of_some _ q) (Nat.le_refl _) (rl s.heap I.big),rfl,h _ (I.au.fresh (Nat.le_refl _))⟩
end
noncomputable def lC:List (TE×TE)→St→Hp→(List (V×V)→Hp→Prop)→Prop
 |[],_,H,Q=>Q [] H
 |(tk,tv)::r,σ,H,Q=>tk σ H fun x H1=>tv σ H1 fun y H2=>lC r σ H2 fun ps H3=>Q ((x,y)::ps) H3
noncomputable abbrev VV:List (V×V)→List (Value×Value)→Prop:=Paired fun p q=>RelV p.1 q.1∧RelV p.2 q.2
noncomputable def jP(X:Cx)(pos:Pos)(keys:List (Option Expr))(values:List Expr)(trs:List (TE×TE)):Prop:=
 ∀(pins:List (Addr×Obj)) (s:Shared) (σ:St) (H:Hp) (Q:List (V×V)→Hp→Prop),Inv X pins σ H s→lC trs σ H Q→
   wpAny (model X.prog X.w) X.A (evalPairs (pairTrees keys values X.env pos)) (fun vs s'=>∃ps H',Inv X pins σ H' s'∧VV ps vs∧Q ps H') X.xe s
theorem AJ{X:Cx}{pos:Pos}:jP X pos [] [] []:=fun pins s σ H Q I h=>pairTrees_nil_walk ⟨[],H,I,.nil,h⟩
theorem Bz{X:Cx}{pos:Pos}{k v:Expr}{ks:List (Option Expr)}{vs:List Expr}{tk tv:TE}{trs:List (TE×TE)}(hk:PE X k tk)(hv:PE X v tv)(hr:jP X pos ks vs trs):
   jP X pos (some k::ks) (v::vs) ((tk,tv)::trs):=fun pins s σ H Q I h=>
 pairTrees_cons_walk (ar (hk pins s σ H _ I h) fun u s1 ⟨x,H1,I1,rx,q1⟩=>ar (hv pins s1 σ H1 _ I1 q1) fun w2 s2 ⟨y,H2,I2,ry,q2⟩=>
   ar (hr pins s2 σ H2 _ I2 q2) fun ws s3 ⟨ps,H3,I3,rel,q3⟩=>⟨(x,y)::ps,H3,I3,.cons ⟨rx,ry⟩ rel,q3⟩)
noncomputable def cV(kvs more:List (Key×V)):List (Key×V):=more.foldl (fun acc kv=>putK acc kv.1 kv.2) kvs
theorem KV.merge:∀ {more:List (Key×V)} {rs:List (Key×Value)} {kvs:List (Key×V)} {vs:List (Key×Value)},KV more rs→KV kvs vs→KV (cV kvs more) (merged vs rs):=by
 intro more rs kvs vs r
 unfold KV at r
 induction r generalizing kvs vs with
 |nil=>intro q;exact q
 | @cons p q ps qs h t ih=>
   intro r0
   have e:KV (putK kvs p.1 p.2) (stored vs q.1 q.2):=by
     have:=r0.put p.1 h.2
     rw[←h.1];exact this
   exact ih e
theorem kN:∀(more kvs:List (Key×V)),(cV kvs more).length≤kvs.length+more.length
 |[],kvs=>by show kvs.length≤kvs.length+0;omega
 | p::r,kvs=>by
   have h1:=kN r (putK kvs p.1 p.2)
   have h2:=oM kvs p.1 p.2
   show(cV (putK kvs p.1 p.2) r).length≤_
   rw[List.length_cons];omega
theorem sG{P:Program}{w:World}:∀ {kvs:List (Key×V)} {ws:List (Value×Value)},VV (kvs.map fun kv=>(kV kv.1,kv.2)) ws→∃rs,Carries (bt P w) ws rs∧KV kvs rs
 |[],_,r=>by rw[List.map_nil]at r;cases r;exact⟨[],True.intro,.nil⟩
 | p::kvs,_,r=>by
   rw[List.map_cons]at r
   cases r with
   | @cons a b as bs h t=>
     obtain⟨rs,c,q⟩:=sG (P:=P) (w:=w) t
     obtain⟨b1,b2⟩:=b
     exact⟨(p.1,b2)::rs,⟨gk h.1,rfl,c⟩,.cons ⟨rfl,h.2⟩ q⟩
noncomputable def zH(trs:List (TE×TE)):TE:=fun σ H Q=>∀p,H p=none→lC trs σ (upd H p (.dK [])) fun ps H2=>H2 p=some (.dK [])∧∃kvs:List (Key×V),ps=kvs.map (fun kv=>(kV kv.1,kv.2))∧kvs.length≤15∧Q (.ref p) (upd H2 p (.dK (cV [] kvs)))
theorem BP{X:Cx}{pos:Pos}{keys:List (Option Expr)}{values:List Expr}{trs:List (TE×TE)}(h:jP X pos keys values trs)(hall:keys.all (·.isSome)=true)(hl:keys.length=values.length)(h0:keys≠[])
   (h15:keys.length≤15):PE X (.Dict keys values pos) (zH trs):=by
 intro pins s σ H Q I q
 have hn:=I.au.fresh (Nat.le_refl s.heap.objs.size)
 have I1:=I.laid (a:=s.heap.objs.size) (o:=.dK []) (h':=s.heap.push {cls:=.type "dict",data:=.dict #[]}) (t':=s.toks) (fun _ _ q=>Heap.get?_push_of_some _ q) (Nat.le_refl _) (rl s.heap I.big)
 refine wpAny_Dict_walk (knd:=bt X.prog X.w) hall hl h0 h15 (ar (h pins _ σ _ _ I1 (q _ hn)) fun ws s2 ⟨ps,H2,I2,rel,e,kvs,ep,lk,q2⟩=>?_)
 subst ep
 obtain⟨rs,c,rk⟩:=sG (P:=X.prog) (w:=X.w) rel
 obtain⟨z,hd,vs0,r0,dd⟩:=kP I2.au e
 cases r0
 refine⟨rs,c,dd,fun h' dd' hs=>⟨.ref s.heap.objs.size,_,?_,rfl,q2⟩⟩
 have hz:(cV [] kvs).length≤sizeLine:=by
   have h1:=kN kvs []
   rw[List.length_nil]at h1
   rw[sizeLine_eq];omega
 have he:∃q,h'.get? s.heap.objs.size=some q:=let⟨q,_,_,hq,_⟩:=dd';⟨q,hq⟩
 exact lD I2 (by rw[e];exact True.intro) hs he (mj hz hd (rk.merge .nil) dd')
section
variable{X:Cx}{pins:List (Addr×Obj)}{σ:St}{H:Hp}{s:Shared}{a:Addr}{y d:V}{u r:Value}{o:Option V}{A:Around}{E:Value→Shared→Prop}
end
section
variable{X:Cx}{o e f:Expr}{apos cpos:Pos}{td ty tx:TE}
end
section
variable{X:Cx}{pins:List (Addr×Obj)}{σ:St}{H:Hp}{s:Shared}{a:Addr}{kvs:List (Key×V)}{A:Around}{E:Value→Shared→Prop}
end
section
variable{X:Cx}{pins:List (Addr×Obj)}{σ:St}{H:Hp}{s:Shared}{a:Addr}{y:V}{u:Value}{A:Around}{E:Value→Shared→Prop}
end
end L2
namespace ud
open PySem PySem.W PySem.Calls PyProof.Rows
theorem GL{P:Params}{h:Heap}:∀(ns:List Int) (vs:List Value),WellAll P h vs (ns.map WData.int)→IntsAre vs ns:=by
 intro ns
 induction ns with
 | nil=>
   intro vs w
   rw[List.map_nil]at w
   cases w
   exact .nil
 | cons n ns ih=>
   intro vs w
   rw[List.map_cons]at w
   cases w with
   | cons a b=>
     cases a
     exact .cons _ _ (ih _ b)
theorem Ek{l:OpenLaw}{n:Nat}(hn:l.most=some n){P:Params}{h:Heap}{args:List WData}{vals:List Value}
   (hpre:l.row.toRowW.claim.pre args=true) (hwl:WellAll P h vals args):
   ∃a vs ns,vals=[Value.ref a]∧args=[WData.list (ns.map WData.int)]∧h.get? a=some {cls:=.type "list",data:=.seq vs.toArray}∧IntsAre vs ns∧ns.length≤n:=by
 have hsh:WShape.hasAll [] args [.list .int]=true:=(pre_splitW hpre).1
 have hc:l.pre.holds [] {args:=args}=true:=(pre_splitW hpre).2
 obtain⟨d,r,rfl,h1,h2⟩:=hasAllW_cons hsh
 obtain rfl:=hasAllW_nil h2
 obtain⟨xs,rfl,h3⟩:=hasW_list h1
 obtain⟨ns,rfl⟩:=items_int h3
 have hlen:ns.length≤n:=by
   unfold OpenLaw.pre at hc
   have h4:(WTm.not (.lt (.lit (.int (n:Int))) (.len (.arg 0)))).holds [] {args:=[.list (ns.map .int)]}=true:=by
     have h4:=(holds_andW hc).1
     rw[hn]at h4
     exact h4
   have h5:=condW_of h4 (w_not (w_lt w_lit (w_len_list (w_arg rfl))))
   rw[List.length_map]at h5
   refine Nat.le_of_not_lt fun q=>?_
   have q':(n:Int)<((ns.length:Nat):Int):=by omega
   first
     |(rw[decide_eq_true q']at h5;exact absurd h5 (by decide))
     |(simp at h5;omega)
 cases hwl with
 | cons w1 w2=>
   cases w2
   cases w1 with
   |list ho hall=>exact⟨_,_,ns,rfl,rfl,ho,GL ns _ hall,hlen⟩
theorem zw(l:OpenLaw)(args:List WData):l.row.toRowW.claim.post args (.bool true) args=true:=
 postW_of (r:=l.row.toRowW) (X:=(true==true))
   (show WShape.has [] (.bool true) .bool=true by first|rfl|decide|simp[WShape.has,WShape.arms,WShape.armsAll])
   (show(WTm.eq .res (.lit (.bool true))).value [] {args:=args,res:=some (.bool true),after:=args}=some (.bool (true==true))from w_eq_bool (w_res rfl) w_lit) rfl
theorem Gr{l:OpenLaw}{n:Nat}{q:Program}{loose:List Str}{XP:(Str→Option Value)→Heap→Prop}{YP:World→Heap→Prop}{d:DefRec}
   (hn:l.most=some n) (hdf:d.params.defaults=[])
   (call:∀(w:World) (bX s₁:Shared) (mg mb:Str→Option Value) (fa:Addr) (o:Obj) (pm cd doc:Value) (a:Addr) (vs:List Value) (ns:List Int),
     Ground q loose [] XP w bX mg mb s₁.heap→YP w s₁.heap→
     s₁.heap.get? fa=some o→o.data=.func (docDef d.name d.params d.body d.scope pm cd doc)→s₁.heap.CodeRec cd d.name→mg d.name=some (.ref fa)→
     s₁.heap.get? a=some {cls:=.type "list",data:=.seq vs.toArray}→IntsAre vs ns→ns.length≤n→s₁.gens= #[]→
     codeAny (model l.prog w) callerA (.call (.ref fa) ⟨[.ref a],[]⟩) (fun r s'=>r=.ok (.ret (.bool true))∧OldK s₁.heap s'.heap∧s'.os=s₁.os∧AllBare s'.gens) s₁):
   WalkO q loose XP YP l.row.toRowW d [] (fun f vs=>PySem.call f vs):=by
 intro w bX s₁ mg mb G Y fa o pm cd doc dV kV ho hd hcd hD hmg hg args vals as hpre hlay hrd hwl hlo
 obtain rfl:dV=.none:=Dflts.none hD hdf
 obtain rfl:kV=.none:=Dflts.noKw hD
 obtain⟨a,vs,ns,rfl,rfl,hobj,hints,hlen⟩:=Ek hn hpre hwl
 refine enter_call (codeAny_mono (call w bX s₁ mg mb fa o pm cd doc a vs ns G Y ho (fd_plain hd) hcd hmg hobj hints hlen hg) fun r s' hq=>?_)
 obtain⟨rfl,h2,h3,h4⟩:=hq
 exact⟨.inl ⟨.bool true,.bool true,[],rfl,fun _=>rfl,.bool true,zw l _,fun _=>⟨List.Pairwise.nil,fun _ hm=>(nomatch hm)⟩⟩,h2,h3,h4⟩
section
variable{prog:Program}{w:World}{A:Around}{E:Value→Shared→Prop}{s:Shared}{K:Frag}
end
end ud
namespace L2
open PySem PySem.Spec PyProof.Rows
theorem p4:∀ {vs:List Value} {ns:List Int},IntsAre vs ns→Vals (ns.map V.int) vs
 |_,_,.nil=>.nil
 |_,_,.cons n t h=>.cons ⟨t,rfl⟩ (p4 h)
noncomputable def oo(H:Hp):Prop:=∀b,H b=none∨∃o xs,H b=some (.frz o (.lst xs))
theorem uI{P:Program}{w:World}{K:PySem.W.Frag}{mg mb:Str→Option Value}{CX:dR}{k:Nat}{fa a:Addr}{fd:FuncData}{x:Str}{sp:Sp}{s₁:Shared}{vs:List Value}{ns:List Int}
   (KX:K.In s₁.heap) (hns:s₁.heap.Ns mainGlobals mg) (hb:s₁.heap.Ns builtinsNs mb) (hbb:∀x:Str,x≠"__name__"→mb x=bootBuiltins x) (hlim:s₁.heap.NoLimit) (hg:s₁.gens= #[])
   (ha:s₁.heap.get? a=some {cls:=.type "list",data:=.seq vs.toArray}) (hi:IntsAre vs ns) (hl:ns.length≤sizeLine) (hr:bq k callerA)
   (F:∀base:Heap,K.In base→base.Ns mainGlobals mg→cf P w K mg base CX k fa fd [x] sp) (hbind:∀(s:Shared) (u:Value),BindsTo s fd ⟨[u],[]⟩ [(x,u)])
   (hsp:∀H:Hp,oo H→aN K H a (ns.map V.int)→sp [.ref a] H (fun v _=>v=.bl true) fun _ _ _=>False)
   (hCX:∀H e s',CX [] H s₁ (fun _ _ _=>False) e s'→False):
   codeAny (model P w) callerA (.call (.ref fa) ⟨[.ref a],[]⟩) (fun r s'=>r=.ok (.ret (.bool true))∧OldK s₁.heap s'.heap∧s'.os=s₁.os∧AllBare s'.gens) s₁:=by
 have rv:=p4 hi
 have lenV:=hi.length
 have core:∀H:Hp,oo H→aN K H a (ns.map V.int)→bc P w H s₁.heap→(∀b,H b≠none→b=a)→(H a≠none→K.lookup a=none)→
     codeAny (model P w) callerA (.call (.ref fa) ⟨[.ref a],[]⟩) (fun r s'=>r=.ok (.ret (.bool true))∧OldK s₁.heap s'.heap∧s'.os=s₁.os∧AllBare s'.gens) s₁:=by
   intro H hO hS au hA hK
   have base_of:∀ {b:Addr} {o:Obj},s₁.heap.get? b=some o→H b=none→(fE s₁.heap H).get? b=some o:=fun e n=>Bb e n
   have noA:∀ {b:Addr} {o:Obj} {es:Array DictEntry} {ep:Nat},s₁.heap.get? b=some o→o.data=.dict es ep→H b=none:=fun {b o es ep} e d=>by
     cases q:H b with
     |none=>rfl
     | some u=>
       have e':b=a:=hA b (by rw[q];simp)
       subst e'
       rw[ha]at e;cases e
       have d':Data.seq vs.toArray _=Data.dict es ep:=d
       cases d'
   have nsK:∀ {b:Addr} {m:Str→Option Value},s₁.heap.Ns b m→(fE s₁.heap H).Ns b m:=fun {b m} ⟨o,es,ep,e,d,r⟩=>⟨o,es,ep,base_of e (noA e d),d,r⟩
   have hKb:K.In (fE s₁.heap H):=fun b o e=>base_of (KX b o e) (by
     cases q:H b with
     |none=>rfl
     | some u=>
       have e':b=a:=hA b (by rw[q];simp)
       subst e'
       rw[hK (by rw[q];simp)]at e;cases e)
   have hM:Mod K mg (fE s₁.heap H):=⟨hKb,nsK hns,⟨mb,nsK hb,hbb⟩,let⟨mc,h1,h2⟩:=hlim;⟨mc,nsK h1,h2⟩⟩
   have e0:gZ P w K mg (fE s₁.heap H) callerA [] s₁ H:=⟨rfl,hM,fun b o e=>yt e,Nat.le_of_eq (BI _ _),trivial,fun b hb=>absurd (show b∈([]:List Addr)from hb) (by simp),au,.of_eq hg⟩
   refine codeAny_mono ((F _ hKb (nsK hns)).run callerA [] s₁ H ⟨[.ref a],[]⟩ [.ref a] [.ref a] _ _ hr e0 (hbind s₁ (.ref a)) (.cons rfl .nil) (hsp H hO hS)) fun r s' h=>?_
   cases r with
   |error e=>exact(hCX H e s' h).elim
   | ok fl=>
     cases fl with
     |next=>exact False.elim h
     |brk=>exact False.elim h
     |cont=>exact False.elim h
     | ret u=>
       obtain⟨v,H',os,bare,un,hok',r',q⟩:=h
       have q':v=.bl true:=q
       subst q'
       obtain rfl:u=Value.bool true:=r'
       refine⟨rfl,OldK.of_keep fun b o e=>?_,os,bare⟩
       cases q:H b with
       |none=>exact un.keep b o e q (by intro z;exact absurd (show b∈([]:List Addr)from z) (by simp)) (by simp)
       | some u=>
         rcases hO b with z|⟨ob,xs,z⟩
         ·rw[q]at z;cases z
         · have z2:=un.cQ b ob _ z
           obtain⟨e1,_⟩:=au b _ z
           obtain⟨e2,_⟩:=hok' b _ z2
           rw[e]at e1;cases e1
           exact e2
 cases hk:K.lookup a with
 | some o=>
   have e:=KX a o hk
   rw[ha]at e
   cases e
   refine core (fun _=>none) (fun _=>.inl rfl) (.inr ⟨_,vs.toArray,_,hk,rfl,rfl,rfl,by rw[List.size_toArray,lenV];exact hl,by simpa using rv⟩) (fun b u z=>by have z':(none:Option HO)=some u:=z;cases z') (fun b z=>absurd rfl z) fun z=>absurd rfl z
 | none=>
   refine core (fun b=>if b=a then some (.frz {cls:=.type "list",data:=.seq vs.toArray} (.lst (ns.map V.int)))else none) (fun b=>?_) (.inl (.inr ⟨{cls:=.type "list",data:=.seq vs.toArray},if_pos rfl⟩)) (fun b u z=>?_) (fun b z=>?_) fun _=>hk
   · by_cases hb:b=a
     ·exact .inr ⟨_,_,if_pos hb⟩
     ·exact .inl (if_neg hb)
   · by_cases hb:b=a
     · have z':=(if_pos hb).symm.trans z
       cases z'
       subst hb
       exact⟨ha,by rw[List.length_map];exact hl,vs,_,rv,ha⟩
     · have z':=(if_neg hb).symm.trans z
       cases z'
   · by_cases hb:b=a
     ·exact hb
     ·exact absurd (if_neg hb) z
end L2
namespace L2
open PySem PySem.Spec PyProof.Rows
noncomputable abbrev Hu{K:PySem.W.Frag}{h:Heap}(_:K.In h):PySem.W.Frag:=K
theorem uR{l:PySem.W.OpenLaw}{n k:Nat}{q:Program}{loose:List Str}{XP:(Str→Option Value)→Heap→Prop}{YP:World→Heap→Prop}{d:DefRec}{K:Params→PySem.W.Frag}{CX:World→dR}{sp:World→Sp}{x:Str}
   (hn:l.most=some n) (hn2:n≤sizeLine) (hdf:d.params.defaults=[]) (hr:bq k callerA)
   (hY:∀(w:World) (h:Heap),YP w h→(K w.params).In h)
   (F:∀(w:World) (mg:Str→Option Value) (fa:Addr) (h:Heap),(K w.params).In h→h.Ns mainGlobals mg→mg d.name=some (.ref fa)→
     ∃fd:FuncData,(∀(s:Shared) (u:Value),BindsTo s fd ⟨[u],[]⟩ [(x,u)])∧
       ∀base:Heap,(K w.params).In base→base.Ns mainGlobals mg→cf l.prog w (K w.params) mg base (CX w) k fa fd [x] (sp w))
   (hsp:∀(w:World) (H:Hp) (a:Addr) (ns:List Int),ns.length≤n→oo H→aN (K w.params) H a (ns.map V.int)→sp w [.ref a] H (fun v _=>v=.bl true) fun _ _ _=>False)
   (hCX:∀(w:World) (H:Hp) (s:Shared) (e:Value) (s':Shared),CX w [] H s (fun _ _ _=>False) e s'→False):
   PySem.W.WalkO q loose XP YP l.row.toRowW d [] (fun f vs=>PySem.call f vs):=by
 refine ud.Gr hn hdf fun w bX s₁ mg mb fa o pm cd doc a vs ns G Y ho hd hcd hmg hobj hints hlen hg=>?_
 have KX:=hY w _ Y
 obtain⟨fd,hb,hF⟩:=F w mg fa _ KX G.T.g hmg
 exact uI KX G.T.g G.T.b G.T.builtins G.T.nolimit hg hobj hints (Nat.le_trans hlen hn2) hr hF hb (fun H hO hS=>hsp w H a ns hlen hO hS) fun H e s'=>hCX w H s₁ e s'
end L2
namespace L2
open PySem PySem.Spec PyProof.Rows
noncomputable def aX(s:Stmt):Arguments:=match s with
 |.FunctionDef _ a _ _ _ _ _ _ _ _=>a
 |_=>{posonlyargs:=[],args:=[],vararg:=none,kwonlyargs:=[],kw_defaults:=[],kwarg:=none,defaults:=[]}
noncomputable def aQ(s:Stmt):List Stmt:=match s with
 |.FunctionDef _ _ b _ _ _ _ _ _ _=>b
 |_=>[]
noncomputable def ai(s:Stmt):Scope:=match s with
 |.FunctionDef _ _ _ _ _ _ sc _ _ _=>sc
 |_=>{kind:=.function,names:=[],isGenerator:=false,isCoroutine:=false}
noncomputable abbrev df:dR:=fun _ _ _ _ _ _=>False
noncomputable abbrev E0:XK:=fun _ _ _=>False
theorem nK{X:Cx}:Passes df X E0:=fun _ _ _ _ _ _ _ h=>h.elim
structure aR(K:PySem.W.Frag)(x qual:Str)(st:Stmt)(f:Addr)(fd:FuncData):Prop where
 ex:∃(oc:Value) (od:Option Addr) (kV doc pm:Value) (an:Option Addr) (cdv ct:Value) (osl:Array (Option Value)),
   fd=PySem.W.fnOf x qual (aX st) (aQ st) (ai st) .none kV doc pm an cdv ct∧K.lookup f=some ⟨oc,od,.func fd,osl⟩∧PySem.W.codeIn K cdv qual=true
 kp:PySem.W.keepIn K (.ref f)=true
section
variable{P:Program}{w:World}{K:PySem.W.Frag}{mg:Str→Option Value}{base:Heap}
theorem aR.ok{x qual:Str}{st:Stmt}{f:Addr}{fd:FuncData}{N ps:List Str}{k:Nat}{sp:Sp}(F:aR K x qual st f fd)(S:aT N ps (ai st))(len:∀vs H Q E,sp vs H Q E→vs.length=ps.length)
   (hbody:∀(cdv:Value) (A:Around) (outer:List Env) (s:Shared) (H:Hp) (vs:List V) (Q:VK) (E:XK),bq k (A.deeper (envOfC qual (ai st) s.heap.objs.size f cdv))→sp vs H Q E→
     ∃t,bJ (eX df P w K mg base N qual (ai st) f cdv A outer s H E).dU (aQ st) t∧t {nx:=fun _ H'=>Q .av H',rt:=Q} (start N vs) H):cf P w K mg base df (k+1) f fd ps sp:=by
 obtain⟨oc,od,kV,doc,pm,an,cdv,ct,osl,rfl,lk,hcd⟩:=F.ex
 refine yQ lk hcd S len fun A outer s H vs Q E hr hsp=>?_
 obtain⟨t,h,q⟩:=hbody cdv A outer s H vs Q E hr hsp
 exact⟨t,h.dU,q⟩
theorem aR.binds{x qual:Str}{st:Stmt}{f:Addr}{fd:FuncData}{ps:List Str}(F:aR K x qual st f fd)
   (h:∀(kV doc pm:Value) (an:Option Addr) (cdv ct:Value) (us:List Value),us.length=ps.length→bindArgs (PySem.W.fnOf x qual (aX st) (aQ st) (ai st) .none kV doc pm an cdv ct) ⟨us,[]⟩=pure (ps.zip us)):Binds K fd ps []:=by
 obtain⟨oc,od,kV,doc,pm,an,cdv,ct,osl,rfl,lk,hcd⟩:=F.ex
 exact .all (h kV doc pm an cdv ct)
theorem bf{x qual:Str}{st:Stmt}{f:Addr}{oc:Value}{od an:Option Addr}{osl:Array (Option Value)}{kV doc pm cdv ct:Value}(l:K.lookup f=some ⟨oc,od,.func (PySem.W.fnOf x qual (aX st) (aQ st) (ai st) .none kV doc pm an cdv ct),osl⟩)
   (c:PySem.W.codeIn K cdv qual=true) (k:PySem.W.keepIn K (.ref f)=true):aR K x qual st f (PySem.W.fnOf x qual (aX st) (aQ st) (ai st) .none kV doc pm an cdv ct):=⟨⟨oc,od,kV,doc,pm,an,cdv,ct,osl,rfl,l,c⟩,k⟩
end
section
variable{X:Cx}
theorem pv(i:Nat){x:Str}{pos:Pos}(hN:X.N[i]? =some x:=by rfl)(hv:bS X.env.scope x:=by first|exact Or.inl rfl|exact Or.inr (Or.inl rfl)|exact Or.inr (Or.inr rfl))(hd:(x==("__debug__":Str))=false:=by decide)
   (hcd:(x==("__classdict__":Str))=false:=by decide):PE X (.Name x pos) (pd i):=vq hN hv hd hcd
end
noncomputable def af(H H':Hp):Prop:=∀b o,H b=some o→H' b=some o
theorem af.refl(H:Hp):af H H:=fun _ _ h=>h
theorem af.trans{H H1 H2:Hp}(a:af H H1)(b:af H1 H2):af H H2:=fun c o h=>b c o (a c o h)
theorem af.free{H H':Hp}(e:af H H'){l:Addr}(h:H' l=Option.none):H l=Option.none:=by
 cases q:H l with
 |none=>rfl
 | some o=>
   rw[e l o q]at h
   cases h
theorem af.seq{K:PySem.W.Frag}{H H':Hp}{a:Addr}{xs:List V}(e:af H H')(h:aN K H a xs):aN K H' a xs:=by
 rcases h with(h|⟨o,h⟩)|h
 ·exact .inl (.inl (e _ _ h))
 ·exact .inl (.inr ⟨o,e _ _ h⟩)
 ·exact .inr h
end L2
namespace PL
open PySem PySem.Spec PySem.W
section
variable{prog:Program}{w:World}{A:Around}{E:Value→Shared→Prop}{h:Heap}{g:Array GenState}{d:Drawn}{t:Nat}{os:OsState}{a C:Addr}{o:Obj}{K:PySem.W.Frag}
end
end PL
namespace PL
open PySem
noncomputable abbrev Ky:=Sum Int Str
inductive D where
 |av|bl (b:Bool)|int (i:Int)|str (x:Str)
 |tup (xs:List D)|lst (xs:List D)|aC (ks:List Ky) (vs:List D)|cm (c:Str) (ns:List Str) (vs:List D)
 deriving Inhabited
inductive R(α:Type) where
 |ok (a:α)|exc (x:D)|bad
namespace R
noncomputable def bind{α β:Type}:R α→(α→R β)→R β
 |.ok a,f=>f a
 |.exc x,_=>.exc x
 |.bad,_=>.bad
@[simp] theorem bg{α β:Type}(a:α)(f:α→R β):(R.ok a).bind f=f a:=rfl
@[simp] theorem Hs{α β:Type}(x:D)(f:α→R β):(R.exc x).bind f=.exc x:=rfl
@[simp] theorem HD{α β:Type}(f:α→R β):(R.bad:R α).bind f=.bad:=rfl
end R
inductive Slot where
 |un|sh (d:D)|ol (xs:List D)|od (ks:List Ky) (vs:List D)|on (xss:List (List D))
 deriving Inhabited
noncomputable abbrev En:=List Slot
noncomputable abbrev Ex:=En→R D
noncomputable abbrev aG:=En→R Bool
noncomputable abbrev dW:Nat:=16777216
mutual
@[simp] noncomputable def bw:D→D→Bool
 |.av,.av=>true
 |.bl a,.bl b=>a==b
 |.bl a,.int b=>(if a then 1 else 0)==b
 |.int a,.bl b=>a==(if b then 1 else 0)
 |.int a,.int b=>a==b
 |.str a,.str b=>decide (a=b)
 |.tup a,.tup b=>gR a b
 |.lst a,.lst b=>gR a b
 |_,_=>false
@[simp] noncomputable def gR:List D→List D→Bool
 |[],[]=>true
 |a::as,b::bs=>bw a b&&gR as bs
 |_,_=>false
end
@[simp] noncomputable def flat:D→Bool
 |.av=>true
 |.bl _=>true
 |.int _=>true
 |.str _=>true
 |_=>false
mutual
noncomputable def lay:D→Bool
 |.av=>true
 |.bl _=>true
 |.int _=>true
 |.str x=>x.cps.all (· <0x110000)
 |.tup xs=>cJ xs
 |.lst xs=>cJ xs
 |_=>false
noncomputable def cJ:List D→Bool
 |[]=>true
 |x::xs=>lay x&&cJ xs
end
mutual
noncomputable def dep:D→Nat
 |.tup xs=>gi xs+1
 |.lst xs=>gi xs+1
 |_=>0
noncomputable def gi:List D→Nat
 |[]=>0
 |x::xs=>max (dep x) (gi xs)
end
@[simp] noncomputable def qO:D→D→Bool
 |.aC _ _,.str _=>true
 |_,_=>false
@[simp] noncomputable def mW:D→D→Bool
 |.tup _,.tup []=>true
 |_,_=>false
noncomputable def dM(a b:D):Bool:=(flat a&&flat b)||mW a b||(lay a&&lay b&&decide (min (dep a) (dep b)≤60))
noncomputable def cR(a b:D):Bool:=dM a b||qO a b
theorem mx{a b:D}(ha:flat a=true)(hb:flat b=true):dM a b=true:=by unfold dM;rw[ha,hb];rfl
theorem gH{a b:D}(ha:flat a=true)(hb:flat b=true):cR a b=true:=by unfold cR;rw[mx ha hb];rfl
@[simp] theorem Hg(a b:Bool):dM (.bl a) (.bl b)=true:=mx rfl rfl
@[simp] theorem Hk(a b:Int):dM (.int a) (.int b)=true:=mx rfl rfl
@[simp] theorem He(a b:Str):dM (.str a) (.str b)=true:=mx rfl rfl
@[simp] theorem HG(a:List Ky)(c:List D)(b:Str):cR (.aC a c) (.str b)=true:=by unfold cR;simp
@[simp] theorem Hm:cR .av .av=true:=gH rfl rfl
@[simp] theorem G7(a b:Bool):cR (.bl a) (.bl b)=true:=gH rfl rfl
@[simp] theorem vh(a b:Int):cR (.int a) (.int b)=true:=gH rfl rfl
@[simp] theorem G4(a b:Str):cR (.str a) (.str b)=true:=gH rfl rfl
@[simp] theorem HA(b:Str):cR .av (.str b)=true:=gH rfl rfl
@[simp] theorem HE(a:Int)(b:Str):cR (.int a) (.str b)=true:=gH rfl rfl
@[simp] theorem Ha(a:Bool)(b:Str):cR (.bl a) (.str b)=true:=gH rfl rfl
@[simp] theorem Hc(a:List D):cR (.tup a) (.tup [])=true:=by unfold cR dM;simp
@[simp] noncomputable def truth:D→R Bool
 |.av=>.ok false
 |.bl b=>.ok b
 |.int i=>.ok (i != 0)
 |.str x=>if x.length≤dW then .ok (x.length != 0)else .bad
 |.tup xs=>.ok (!xs.isEmpty)
 |.lst xs=>.ok (!xs.isEmpty)
 |.aC _ _=>.bad
 |.cm _ _ _=>.bad
noncomputable def dm(n:Nat)(i:Int):Option Nat:=if 0≤i then(if i<n then some i.toNat else none)else if -(n:Int)≤i then some (i+n).toNat else none
noncomputable def dz{α:Type}(xs:List α)(i:Int):Option α:=(dm xs.length i).bind fun j=>xs[j]?
noncomputable def aF(n d:Nat):Option Int→Nat
 |none=>d
 |some v=>if v<0 then(v+(n:Int)).toNat else min v.toNat n
noncomputable def cut{α:Type}(xs:List α)(lo hi:Option Int):List α:=(xs.drop (aF xs.length 0 lo)).take (aF xs.length xs.length hi - aF xs.length 0 lo)
noncomputable def inR(j:Int):Bool:=decide (-4611686018427387904≤j)&&decide (j<4611686018427387904)
noncomputable def vb(j:Int):Bool:=decide (0<j)&&decide (j<340282366920938463463374607431768211456)
noncomputable def xG(j:Int):Bool:=decide (0≤j)&&decide (j≤1000)
noncomputable def small(i:Int):Bool:=decide (-18446744073709551616<i)&&decide (i<18446744073709551616)
@[simp] noncomputable def aV:D→D→R D
 |.int i,.int j=>.ok (.int (i+j))
 |.str x,.str y=>if x.length+y.length≤dW then .ok (.str (x++y))else .bad
 |.lst x,.lst y=>if x.length+y.length≤dW then .ok (.lst (x++y))else .bad
 |.tup x,.tup y=>if x.isEmpty=false∧x.length+y.length≤dW then .ok (.tup (x++y))else .bad
 |_,_=>.bad
@[simp] noncomputable def fX:D→D→R D
 |.int i,.int j=>.ok (.int (i - j))
 |_,_=>.bad
@[simp] noncomputable def GZ:D→D→R D
 |.int i,.int j=>if(small i||small j)=true then .ok (.int (i*j))else .bad
 |_,_=>.bad
@[simp] noncomputable def fO:D→D→R D
 |.lst x,.int j=>if 0≤j∧j<1000∧x.length≤1000 then .ok (.lst (List.replicate j.toNat x).flatten)else .bad
 |_,_=>.bad
@[simp] noncomputable def oDiv:D→D→R D
 |.int i,.int j=>if vb j=true then .ok (.int (i / j))else .bad
 |_,_=>.bad
@[simp] noncomputable def oMod:D→D→R D
 |.int i,.int j=>if 0<j then .ok (.int (i % j))else .bad
 |_,_=>.bad
@[simp] noncomputable def G0:D→D→R D
 |.int i,.int j=>if(xG j&&small i)=true then .ok (.int (i ^ j.toNat))else .bad
 |_,_=>.bad
@[simp] noncomputable def Ho:D→R D
 |.int i=>.ok (.int (-i))
 |_=>.bad
@[simp] noncomputable def oEq(x y:D):R D:=if cR x y=true then .ok (.bl (bw x y))else .bad
@[simp] noncomputable def bz(x y:D):R D:=if dM x y=true then .ok (.bl (!bw x y))else .bad
@[simp] noncomputable def oLt:D→D→R D
 |.int i,.int j=>.ok (.bl (decide (i<j)))
 |_,_=>.bad
@[simp] noncomputable def oLe:D→D→R D
 |.int i,.int j=>.ok (.bl (decide (i≤j)))
 |_,_=>.bad
@[simp] noncomputable def eS:D→D→R D
 |.int i,.int j=>.ok (.bl (decide (j<i)))
 |_,_=>.bad
@[simp] noncomputable def o6:D→D→R D
 |.int i,.int j=>.ok (.bl (decide (j≤i)))
 |_,_=>.bad
@[simp] noncomputable def pV:D→Bool
 |.av=>true
 |_=>false
@[simp] noncomputable def Hf(b:Bool):D→Bool
 |.bl c=>b==c
 |_=>false
@[simp] noncomputable def mG(d:D):R D:=.ok (.bl (pV d))
@[simp] noncomputable def jm(d:D):R D:=.ok (.bl (!pV d))
@[simp] noncomputable def G8(b:Bool):D→R D
 |.bl c=>.ok (.bl (c==b))
 |_=>.bad
@[simp] noncomputable def Ht(b:Bool):D→R D
 |.bl c=>.ok (.bl (!(c==b)))
 |_=>.bad
noncomputable def keyOf:D→Option Ky
 |.int i=>some (.inl i)
 |.str x=>some (.inr x)
 |_=>none
noncomputable def bZ(k:Ky):List Ky→List D→Option D
 |a::ks,v::vs=>if a=k then some v else bZ k ks vs
 |_,_=>none
@[simp] noncomputable def dB:D→D→R D
 |.str _,.str _=>.bad
 |x,.lst ys=>if flat x=true∧ys.all flat=true then .ok (.bl (ys.any fun y=>bw y x))else .bad
 |x,.tup ys=>if flat x=true∧ys.all flat=true then .ok (.bl (ys.any fun y=>bw y x))else .bad
 | x,.aC ks vs=>match keyOf x with
   |some k=>.ok (.bl (bZ k ks vs).isSome)
   |none=>.bad
 |_,_=>.bad
@[simp] noncomputable def kq:D→R D
 |.bl b=>.ok (.bl (!b))
 |_=>.bad
@[simp] noncomputable def jN(x y:D):R D:=(dB x y).bind kq
@[simp] noncomputable def fF:D→D→R D
 | .lst xs,.int i=>match dz xs i with
   |some v=>.ok v
   |none=>.bad
 | .tup xs,.int i=>match dz xs i with
   |some v=>.ok v
   |none=>.bad
 | .str x,.int i=>if x.length≤dW then match dz x.cps.toList i with
   |some c=>.ok (.str ⟨#[c]⟩)
   |none=>.bad else .bad
 |_,_=>.bad
@[simp] noncomputable def lK:D→D→R D
 | .aC ks vs,k=>match keyOf k with
   | some q=>match bZ q ks vs with
     |some v=>.ok v
     |none=>.bad
   |none=>.bad
 |_,_=>.bad
@[simp] noncomputable def bO:D→D→R D
 |.lst xs,k=>fF (.lst xs) k
 |.tup xs,k=>fF (.tup xs) k
 |.str x,k=>fF (.str x) k
 |.aC ks vs,k=>lK (.aC ks vs) k
 |_,_=>.bad
@[simp] noncomputable def pJ(lo hi:Option Int):D→R D
 |.lst xs=>.ok (.lst (cut xs lo hi))
 |.tup xs=>if aF xs.length 0 lo=0∧aF xs.length xs.length hi=xs.length then .bad else .ok (.tup (cut xs lo hi))
 |_=>.bad
@[simp] noncomputable def cg:D→R D
 |.lst xs=>.ok (.int xs.length)
 |.tup xs=>.ok (.int xs.length)
 |.str x=>if x.length≤dW then .ok (.int x.length)else .bad
 |_=>.bad
inductive Ty where
 |int|bool|str|tuple|list|dict
@[simp] noncomputable def dh:Ty→D→R D
 |.int,.int _=>.ok (.bl true)
 |.int,.bl _=>.ok (.bl true)
 |.bool,.bl _=>.ok (.bl true)
 |.str,.str _=>.ok (.bl true)
 |.tuple,.tup _=>.ok (.bl true)
 |.list,.lst _=>.ok (.bl true)
 |.dict,.aC _ _=>.ok (.bl true)
 |_,.cm _ _ _=>.bad
 |_,_=>.ok (.bl false)
@[simp] noncomputable def eB:D→R D
 |.lst xs=>.ok (.lst xs)
 |.tup xs=>.ok (.lst xs)
 |_=>.bad
@[simp] noncomputable def ko:D→R D
 |.lst xs=>.ok (.tup xs)
 |.tup xs=>.ok (.tup xs)
 |_=>.bad
noncomputable def allB:List D→R D
 |[]=>.ok (.bl true)
 | .bl b::r=>(allB r).bind fun z=>match z with
   |.bl k=>.ok (.bl (b&&k))
   |_=>.bad
 |_=>.bad
@[simp] noncomputable def fz:D→R D
 |.lst xs=>allB xs
 |_=>.bad
@[simp] noncomputable def pk:D→R D
 |.int i=>.ok (.int i)
 |.bl b=>.ok (.int (if b then 1 else 0))
 |_=>.bad
@[simp] noncomputable def Hz:D→R D
 |.int i=>if 0≤i∧i<10 ^ 100 then .ok (.str (Str.ofString (toString i)))else .bad
 |_=>.bad
@[simp] noncomputable def G9:D→D→R D
 |.int i,.int j=>.ok (.int (if j<i then j else i))
 |_,_=>.bad
noncomputable def findS(x:List Nat):Nat→List Nat→Option Nat
 |k,[]=>if x=[]then some k else none
 |k,c::r=>if(c::r).take x.length=x then some k else findS x (k+1) r
@[simp] noncomputable def Hl:D→D→R D
 | .str y,.str x=>.ok (.int (match findS x.cps.toList 0 y.cps.toList with
   |some k=>(k:Int)
   |none=> -1))
 |_,_=>.bad
noncomputable def oF(x:D):Nat→List D→R D
 |_,[]=>.bad
 |k,y::r=>if bw y x=true then .ok (.int k)else oF x (k+1) r
@[simp] noncomputable def Hi:D→D→R D
 |.tup ys,x=>if flat x=true∧ys.all flat=true then oF x 0 ys else .bad
 |.lst ys,x=>if flat x=true∧ys.all flat=true then oF x 0 ys else .bad
 |_,_=>.bad
noncomputable def strsOf:List D→Option (List Str)
 |[]=>some []
 |.str x::r=>(strsOf r).map (x:: ·)
 |_=>none
@[simp] noncomputable def G6:D→D→R D
 | .str x,.lst ys=>match strsOf ys with
   |some zs=>if(Str.join x zs).length≤dW then .ok (.str (Str.join x zs))else .bad
   |none=>.bad
 |_,_=>.bad
@[simp] noncomputable def aa(i:Nat):Ex:=fun ρ=>match ρ[i]? with
 |some (.sh d)=>.ok d
 |_=>.bad
@[simp] noncomputable def eC(d:D):Ex:=fun _=>.ok d
@[simp] noncomputable def e1(g:D→R D)(a:Ex):Ex:=fun ρ=>(a ρ).bind g
@[simp] noncomputable def e2(g:D→D→R D)(a b:Ex):Ex:=fun ρ=>(a ρ).bind fun x=>(b ρ).bind fun y=>g x y
@[simp] noncomputable def fJ(a b:Ex):Ex:=fun ρ=>(a ρ).bind fun x=>match x with
 |.bl true=>b ρ
 |.bl false=>.ok (.bl false)
 |_=>.bad
@[simp] noncomputable def G1(a b:Ex):Ex:=fun ρ=>(a ρ).bind fun x=>match x with
 |.bl true=>.ok (.bl true)
 |.bl false=>b ρ
 |_=>.bad
@[simp] noncomputable def g8(c:aG)(a b:Ex):Ex:=fun ρ=>(c ρ).bind fun t=>if t=true then a ρ else b ρ
@[simp] noncomputable def eList:List Ex→En→R (List D)
 |[],_=>.ok []
 |e::es,ρ=>(e ρ).bind fun x=>(eList es ρ).bind fun xs=>.ok (x::xs)
@[simp] noncomputable def en(es:List Ex):Ex:=fun ρ=>(eList es ρ).bind fun xs=>.ok (.tup xs)
@[simp] noncomputable def bH(es:List Ex):Ex:=fun ρ=>(eList es ρ).bind fun xs=>.ok (.lst xs)
@[simp] noncomputable def ao(f:List D→R D)(es:List Ex):Ex:=fun ρ=>(eList es ρ).bind f
@[simp] noncomputable def eG(g h:D→D→R D)(a b c:Ex):Ex:=fun ρ=>(a ρ).bind fun x=>(b ρ).bind fun y=>(g x y).bind fun z=>match z with
 |.bl true=>(c ρ).bind fun w=>h y w
 |.bl false=>.ok (.bl false)
 |_=>.bad
@[simp] noncomputable def gm(ks:List Ky)(es:List Ex):Ex:=fun ρ=>(eList es ρ).bind fun xs=>.ok (.aC ks xs)
@[simp] noncomputable def gL:Option Ex→En→R (Option Int)
 |none,_=>.ok none
 | some e,ρ=>(e ρ).bind fun x=>match x with
   |.int i=>.ok (some i)
   |_=>.bad
@[simp] noncomputable def b6(a:Ex)(lo hi:Option Ex):Ex:=fun ρ=>(a ρ).bind fun x=>(gL lo ρ).bind fun l=>(gL hi ρ).bind fun u=>pJ l u x
@[simp] noncomputable def tV(a:Ex):aG:=fun ρ=>(a ρ).bind truth
@[simp] noncomputable def HH(a b:aG):aG:=fun ρ=>(a ρ).bind fun t=>if t=true then b ρ else .ok false
@[simp] noncomputable def bY(a b:aG):aG:=fun ρ=>(a ρ).bind fun t=>if t=true then .ok true else b ρ
@[simp] noncomputable def bV(a:aG):aG:=fun ρ=>(a ρ).bind fun t=>.ok (!t)
@[simp] noncomputable def Hd(i:Nat):Ex:=fun ρ=>match ρ[i]? with
 |some (.ol xs)=>.ok (.int xs.length)
 |some (.od ks _)=>.ok (.int ks.length)
 |_=>.bad
@[simp] noncomputable def Hx(i:Nat)(e:Ex):Ex:=fun ρ=>(e ρ).bind fun x=>match ρ[i]? with
 |some (.ol xs)=>bO (.lst xs) x
 |some (.od ks vs)=>lK (.aC ks vs) x
 |_=>.bad
@[simp] noncomputable def iC(i:Nat):Ex:=fun ρ=>match ρ[i]? with
 |some (.ol xs)=>.ok (.int xs.length)
 |_=>.bad
@[simp] noncomputable def lA(i:Nat)(e:Ex):Ex:=fun ρ=>(e ρ).bind fun x=>match ρ[i]? with
 |some (.ol xs)=>fF (.lst xs) x
 |_=>.bad
noncomputable abbrev br:=En→R (List D)
@[simp] noncomputable def items:D→R (List D)
 |.lst xs=>.ok xs
 |.tup xs=>.ok xs
 |.str x=>.ok (x.cps.toList.map fun c=>.str ⟨#[c]⟩)
 |_=>.bad
@[simp] noncomputable def bM(a:Ex):br:=fun ρ=>(a ρ).bind items
noncomputable def cD(i j:Int):List D:=(List.range (j - i).toNat).map fun(k:Nat)=>.int (i+(k:Int))
@[simp] noncomputable def e4(a:Ex):br:=fun ρ=>(a ρ).bind fun x=>match x with
 |.int j=>if inR j=true then .ok (cD 0 j)else .bad
 |_=>.bad
@[simp] noncomputable def Hw(a b:Ex):br:=fun ρ=>(a ρ).bind fun x=>(b ρ).bind fun y=>match x,y with
 |.int i,.int j=>if(inR i&&inR j)=true then .ok (cD i j)else .bad
 |_,_=>.bad
@[simp] noncomputable def je:List D→List D→List D
 |x::xs,y::ys=>.tup [x,y]::je xs ys
 |_,_=>[]
@[simp] noncomputable def nX(a b:Ex):br:=fun ρ=>(a ρ).bind fun x=>(b ρ).bind fun y=>(items x).bind fun xs=>(items y).bind fun ys=>.ok (je xs ys)
@[simp] noncomputable def sT:Nat→List D→List D
 |_,[]=>[]
 |k,x::xs=>.tup [.int k,x]::sT (k+1) xs
@[simp] noncomputable def Hy(a:Ex):br:=fun ρ=>(a ρ).bind fun x=>(items x).bind fun xs=>.ok (sT 0 xs)
noncomputable abbrev bN:=D→En→R En
@[simp] noncomputable def aB(i:Nat):bN:=fun d ρ=>.ok (ρ.set i (.sh d))
@[simp] noncomputable def cK:List Nat→List D→En→R En
 |[],[],ρ=>.ok ρ
 |i::is,d::ds,ρ=>cK is ds (ρ.set i (.sh d))
 |_,_,_=>.bad
@[simp] noncomputable def cW(is:List Nat):bN:=fun d ρ=>match d with
 |.tup ds=>cK is ds ρ
 |_=>.bad
@[simp] noncomputable def p0:Option Slot→Slot
 |some (.sh d)=>.sh d
 |_=>.un
@[simp] noncomputable def frees(ρ:En)(fv:List Nat):En:=fv.map fun i=>p0 ρ[i]?
noncomputable def dP(tg:bN)(cs:List aG)(el:Ex)(ρ:En):List D→R (List D)
 |[]=>.ok []
 | d::ds=>(tg d ρ).bind fun ρ1=>(lp cs ρ1).bind fun t=>
   if t=true then(el ρ1).bind fun y=>(dP tg cs el ρ ds).bind fun ys=>.ok (y::ys)else dP tg cs el ρ ds
where lp:List aG→En→R Bool
 |[],_=>.ok true
 |c::cs,ρ=>(c ρ).bind fun t=>if t=true then lp cs ρ else .ok false
@[simp] noncomputable def bE(it:br)(n:Nat)(fv:List Nat)(tg:bN)(cs:List aG)(el:Ex):Ex:=fun ρ=>(it ρ).bind fun ds=>
 if ds.length≤dW then(dP tg cs el (List.replicate n .un++frees ρ fv) ds).bind fun ys=>.ok (.lst ys)else .bad
inductive Fl where
 |next (ρ:En)|ret (d:D)|brk (ρ:En)|cont (ρ:En)|cq (d:D)
noncomputable abbrev Sm:=En→R Fl
@[simp] noncomputable def ba:Sm:=fun ρ=>.ok (.next ρ)
@[simp] noncomputable def oY(a b:Sm):Sm:=fun ρ=>(a ρ).bind fun f=>match f with
 |.next ρ'=>b ρ'
 |f=>.ok f
@[simp] noncomputable def aJ:List Sm→Sm
 |[]=>ba
 |a::r=>oY a (aJ r)
@[simp] noncomputable def aZ(c:aG)(a b:Sm):Sm:=fun ρ=>(c ρ).bind fun t=>if t=true then a ρ else b ρ
@[simp] noncomputable def bQ(g:bN)(e:Ex):Sm:=fun ρ=>(e ρ).bind fun d=>(g d ρ).bind fun ρ'=>.ok (.next ρ')
@[simp] noncomputable def az(e:Ex):Sm:=fun ρ=>(e ρ).bind fun d=>.ok (.ret d)
@[simp] noncomputable def G3:Sm:=fun _=>.ok (.ret .av)
@[simp] noncomputable def G5(e:Ex):Sm:=fun ρ=>(e ρ).bind fun _=>.ok (.next ρ)
@[simp] noncomputable def mX:Sm:=fun _=>.bad
@[simp] noncomputable def dj(i:Nat)(e:Ex):Sm:=fun ρ=>(e ρ).bind fun d=>match d with
 |.lst xs=>.ok (.next (ρ.set i (.ol xs)))
 |_=>.bad
@[simp] noncomputable def gu(i:Nat)(e:Ex):Sm:=fun ρ=>(e ρ).bind fun d=>match d with
 |.aC ks vs=>.ok (.next (ρ.set i (.od ks vs)))
 |_=>.bad
@[simp] noncomputable def eP(i:Nat):Sm:=fun ρ=>match ρ[i]? with
 |some (.ol xs)=>.ok (.next (ρ.set i (.sh (.lst xs))))
 |some (.od ks vs)=>.ok (.next (ρ.set i (.sh (.aC ks vs))))
 |_=>.bad
@[simp] noncomputable def Hn(i:Nat)(e:Ex):Sm:=fun ρ=>(e ρ).bind fun d=>match ρ[i]? with
 |some (.ol xs)=>if xs.length<dW then .ok (.next (ρ.set i (.ol (xs++[d]))))else .bad
 |_=>.bad
@[simp] noncomputable def gT(i:Nat)(k e:Ex):Sm:=fun ρ=>(e ρ).bind fun d=>(k ρ).bind fun q=>match ρ[i]?,q with
 | some (.ol xs),.int j=>match dm xs.length j with
   |some m=>.ok (.next (ρ.set i (.ol (xs.set m d))))
   |none=>.bad
 |_,_=>.bad
noncomputable def putK(k:Ky)(d:D):List Ky→List D→List Ky×List D
 |a::ks,v::vs=>if a=k then(a::ks,d::vs)else((a::(putK k d ks vs).1),(v::(putK k d ks vs).2))
 |_,_=>([k],[d])
@[simp] noncomputable def Hv(i:Nat)(k e:Ex):Sm:=fun ρ=>(e ρ).bind fun d=>(k ρ).bind fun q=>match ρ[i]?,keyOf q with
 |some (.od ks vs),some y=>if ks.length<1000 then .ok (.next (ρ.set i (.od (putK y d ks vs).1 (putK y d ks vs).2)))else .bad
 |_,_=>.bad
noncomputable def forL(tg:bN)(body:Sm):List D→En→R Fl
 |[],ρ=>.ok (.next ρ)
 | d::ds,ρ=>(tg d ρ).bind fun ρ1=>(body ρ1).bind fun f=>match f with
   |.next ρ2=>forL tg body ds ρ2
   |.cont ρ2=>forL tg body ds ρ2
   |.brk ρ2=>.ok (.next ρ2)
   |.ret d=>.ok (.ret d)
   |.cq d=>.ok (.cq d)
@[simp] noncomputable def cA(it:br)(tg:bN)(body:Sm):Sm:=fun ρ=>(it ρ).bind fun ds=>forL tg body ds ρ
@[simp] noncomputable def fn(n:Nat)(body:Sm):List D→R D:=fun ds=>(body (ds.map .sh++List.replicate (n - ds.length) .un)).bind fun f=>match f with
 |.ret d=>.ok d
 |.next _=>.ok .av
 |_=>.bad
@[simp] noncomputable def lh(i:Nat):Sm:=fun ρ=>match ρ[i]? with
 |some (.ol xs)=>.ok (.cq (.lst xs))
 |_=>.bad
@[simp] noncomputable def fo(n:Nat)(body:Sm):List D→R D:=fun ds=>(body (ds.map .sh++List.replicate (n - ds.length) .un)).bind fun f=>match f with
 |.cq (.lst xs)=>.ok (.lst xs)
 |_=>.bad
end PL
namespace PL
open PySem PySem.Spec
open L2 (V Hp HO Cx PE PT PW PA PS bJ St VK TE TT TA TS TI Inv RelV Vals Rd aN aW upd af Key XK Ends)
structure Md where
 K:PySem.W.Frag
 P:Program
 w:World
noncomputable abbrev aj(X:Cx):Md:=⟨X.K,X.prog,X.w⟩
noncomputable def dO(M:Md)(H:Hp)(F:Addr→Prop)(a:Addr)(xs:List V):Prop:=
 (¬F a∧Rd H a (.lst xs))∨∃(o:Obj) (its:Array Value) (n:Nat),M.K.lookup a=some o∧o.cls=.type "list"∧o.dict=none∧o.data=.seq its n∧its.size≤sizeLine∧Vals xs its.toList
noncomputable def cF(M:Md)(H:Hp)(F:Addr→Prop)(a:Addr)(xs:List V):Prop:=
 (¬F a∧Rd H a (.tup xs))∨∃(o:Obj) (its:Array Value) (n:Nat),M.K.lookup a=some o∧o.cls=.type "tuple"∧o.data=.seq its n∧its.size≤sizeLine∧Vals xs its.toList
noncomputable def fU(M:Md)(H:Hp)(F:Addr→Prop)(a:Addr)(kvs:List (Key×V)):Prop:=
 (¬F a∧∃ob,H a=some (.frz ob (.dK kvs)))∨∃(o:Obj) (es:Array DictEntry) (ep:Nat) (vs:List (Key×Value)),M.K.lookup a=some o∧o.ExactDict∧o.data=.dict es ep∧KeysOf (L2.bt M.P M.w) es∧Pairs (L2.bt M.P M.w) es.toList vs∧
   (vs.map (·.1)).Nodup∧L2.KV kvs vs∧kvs.length≤sizeLine∧(a==sysModules)=false
theorem dO.sq{M:Md}{H:Hp}{F:Addr→Prop}{a:Addr}{xs:List V}(h:dO M H F a xs):aN M.K H a xs:=h.elim (fun h=>.inl h.2) .inr
theorem cF.sq{M:Md}{H:Hp}{F:Addr→Prop}{a:Addr}{xs:List V}(h:cF M H F a xs):aW M.K H a xs:=h.elim (fun h=>.inl h.2) .inr
noncomputable def xr(a C:Addr):HO:=.ext fun h=>∃o,h.get? a=some o∧o.cls=.ref C∧∃vs,o.data=.fields vs
mutual
noncomputable def Rep(M:Md)(H:Hp)(F:Addr→Prop):D→V→Prop
 |.av,v=>v=.av
 |.bl b,v=>v=.bl b
 |.int i,v=>v=.int i
 |.str x,v=>v=.str x
 |.tup ds,v=>∃a xs,v=.ref a∧cF M H F a xs∧ae M H F ds xs
 |.lst ds,v=>∃a xs,v=.ref a∧dO M H F a xs∧ae M H F ds xs
 |.aC ks ds,v=>∃a xs,v=.ref a∧fU M H F a (ks.zip xs)∧ks.length=xs.length∧ae M H F ds xs
 |.cm c ns ds,v=>∃(a:Addr) (_u:Unit),v=.ref a∧¬F a∧((ns=[]∧∃C,H a=some (xr a C)∧PySem.W.nsIn M.K mainGlobals c=some (some (.ref C)))∨(ns≠[]∧∃o xs,H a=some (.frz o (.tup xs))∧o.dict=none∧ae M H F ds xs))
noncomputable def ae(M:Md)(H:Hp)(F:Addr→Prop):List D→List V→Prop
 |[],xs=>xs=[]
 |d::ds,xs=>∃x r,xs=x::r∧Rep M H F d x∧ae M H F ds r
end
noncomputable def Mv(F:Addr→Prop)(H:Hp)(F':Addr→Prop)(H':Hp):Prop:=∀a o,¬F a→H a=some o→¬F' a∧H' a=some o
theorem Mv.same{F:Addr→Prop}{H H':Hp}(h:af H H'):Mv F H F H':=fun a o n e=>⟨n,h a o e⟩
theorem Mv.trans{F F1 F2:Addr→Prop}{H H1 H2:Hp}(a:Mv F H F1 H1)(b:Mv F1 H1 F2 H2):Mv F H F2 H2:=fun c o n e=>b c o (a c o n e).1 (a c o n e).2
section
variable{M:Md}{H H':Hp}{F F':Addr→Prop}{a:Addr}{xs:List V}
theorem rH(m:Mv F H F' H'){u:HO}(n:¬F a)(h:Rd H a u):¬F' a∧Rd H' a u:=by
 rcases h with h|⟨o,h⟩
 ·exact⟨(m _ _ n h).1,.inl (m _ _ n h).2⟩
 ·exact⟨(m _ _ n h).1,.inr ⟨o,(m _ _ n h).2⟩⟩
theorem dO.mv(m:Mv F H F' H')(h:dO M H F a xs):dO M H' F' a xs:=by
 rcases h with⟨n,h⟩|h
 ·exact .inl (rH m n h)
 ·exact .inr h
theorem cF.mv(m:Mv F H F' H')(h:cF M H F a xs):cF M H' F' a xs:=by
 rcases h with⟨n,h⟩|h
 ·exact .inl (rH m n h)
 ·exact .inr h
theorem fU.mv{kvs:List (Key×V)}(m:Mv F H F' H')(h:fU M H F a kvs):fU M H' F' a kvs:=by
 rcases h with⟨n,ob,h⟩|h
 ·exact .inl ⟨(m _ _ n h).1,ob,(m _ _ n h).2⟩
 ·exact .inr h
mutual
theorem Rep.mv(m:Mv F H F' H'):∀ {d:D} {v:V},Rep M H F d v→Rep M H' F' d v
 |.av,_,h=>by simp only[Rep]at h ⊢;exact h
 |.bl _,_,h=>by simp only[Rep]at h ⊢;exact h
 |.int _,_,h=>by simp only[Rep]at h ⊢;exact h
 |.str _,_,h=>by simp only[Rep]at h ⊢;exact h
 | .tup ds,_,h=>by
   simp only[Rep]at h ⊢
   obtain⟨a,xs,e,t,r⟩:=h
   exact⟨a,xs,e,t.mv m,ae.mv m r⟩
 | .lst ds,_,h=>by
   simp only[Rep]at h ⊢
   obtain⟨a,xs,e,t,r⟩:=h
   exact⟨a,xs,e,t.mv m,ae.mv m r⟩
 | .aC ks ds,_,h=>by
   simp only[Rep]at h ⊢
   obtain⟨a,xs,e,t,l,r⟩:=h
   exact⟨a,xs,e,t.mv m,l,ae.mv m r⟩
 | .cm _ _ _,_,h=>by
   simp only[Rep]at h ⊢
   obtain⟨a,_,e,n,h⟩:=h
   rcases h with⟨z,C,q,k⟩|⟨z,o,xs,q,hd,r⟩
   ·exact⟨a,(),e,(m _ _ n q).1,.inl ⟨z,C,(m _ _ n q).2,k⟩⟩
   ·exact⟨a,(),e,(m _ _ n q).1,.inr ⟨z,o,xs,(m _ _ n q).2,hd,ae.mv m r⟩⟩
theorem ae.mv(m:Mv F H F' H'):∀ {ds:List D} {xs:List V},ae M H F ds xs→ae M H' F' ds xs
 |[],_,h=>by simp only[ae]at h ⊢;exact h
 | d::ds,_,h=>by
   simp only[ae]at h ⊢
   obtain⟨x,r,e,h1,h2⟩:=h
   exact⟨x,r,e,Rep.mv m h1,ae.mv m h2⟩
end
theorem ae.length:∀ {ds:List D} {xs:List V},ae M H F ds xs→ds.length=xs.length
 |[],_,h=>by simp only[ae]at h;subst h;rfl
 | d::ds,_,h=>by
   simp only[ae]at h
   obtain⟨x,r,rfl,_,h2⟩:=h
   simp[ae.length h2]
theorem ae.get:∀ {ds:List D} {xs:List V} {i:Nat} {d:D},ae M H F ds xs→ds[i]? =some d→∃x,xs[i]? =some x∧Rep M H F d x
 |[],_,_,_,_,e=>by simp at e
 | d::ds,_,0,_,h,e=>by
   simp only[ae]at h
   obtain⟨x,r,rfl,h1,_⟩:=h
   simp at e;subst e
   exact⟨x,rfl,h1⟩
 | d::ds,_,i+1,_,h,e=>by
   simp only[ae]at h
   obtain⟨x,r,rfl,_,h2⟩:=h
   obtain⟨y,e1,h3⟩:=ae.get h2 (by simpa using e)
   exact⟨y,by simpa using e1,h3⟩
theorem ae.append:∀ {ds es:List D} {xs ys:List V},ae M H F ds xs→ae M H F es ys→ae M H F (ds++es) (xs++ys)
 |[],_,_,_,h,g=>by simp only[ae]at h;subst h;exact g
 | d::ds,_,_,_,h,g=>by
   simp only[ae]at h
   obtain⟨x,r,rfl,h1,h2⟩:=h
   simp only[List.cons_append,ae]
   exact⟨x,_,rfl,h1,ae.append h2 g⟩
theorem ae.take:∀ {ds:List D} {xs:List V} (n:Nat),ae M H F ds xs→ae M H F (ds.take n) (xs.take n)
 |_,_,0,_=>by simp[ae]
 |[],_,n+1,h=>by simp only[ae]at h;subst h;simp[ae]
 | d::ds,_,n+1,h=>by
   simp only[ae]at h
   obtain⟨x,r,rfl,h1,h2⟩:=h
   simp only[List.take_succ_cons,ae]
   exact⟨x,_,rfl,h1,ae.take n h2⟩
theorem ae.drop:∀ {ds:List D} {xs:List V} (n:Nat),ae M H F ds xs→ae M H F (ds.drop n) (xs.drop n)
 |_,_,0,h=>h
 |[],_,n+1,h=>by simp only[ae]at h;subst h;simp[ae]
 | d::ds,_,n+1,h=>by
   simp only[ae]at h
   obtain⟨x,r,rfl,h1,h2⟩:=h
   exact ae.drop n h2
theorem ae.nil:ae M H F [] []:=by simp[ae]
theorem ae.cons{d:D}{x:V}{ds:List D}(h:Rep M H F d x)(t:ae M H F ds xs):ae M H F (d::ds) (x::xs):=by
 simp only[ae];exact⟨_,_,rfl,h,t⟩
theorem ae.set:∀ {ds:List D} {xs:List V} {d:D} {x:V} (i:Nat),Rep M H F d x→ae M H F ds xs→ae M H F (ds.set i d) (xs.set i x)
 |[],_,_,_,_,_,h=>by simp only[ae]at h;subst h;exact ae.nil
 | d::ds,_,_,_,0,g,h=>by
   simp only[ae]at h
   obtain⟨y,r,rfl,_,h2⟩:=h
   exact ae.cons g h2
 | d::ds,_,_,_,i+1,g,h=>by
   simp only[ae]at h
   obtain⟨y,r,rfl,h1,h2⟩:=h
   exact ae.cons h1 (ae.set i g h2)
end
noncomputable def bx(ρ:En)(i:Nat):Prop:=(∃ds,ρ[i]? =some (.ol ds))∨∃ks ds,ρ[i]? =some (.od ks ds)
noncomputable def fK(H:Hp)(σ:St)(i:Nat)(b:Addr):Prop:=∃a vs,σ[i]? =some (some (.ref a))∧H a=some (.lst vs)∧(b=a∨V.ref b∈vs)
noncomputable def aY(M:Md)(H:Hp)(F:Addr→Prop):List Addr→List (List D)→Prop
 |[],[]=>True
 |b::bs,ds::dss=>F b∧(∃xs,H b=some (.lst xs)∧ae M H F ds xs)∧aY M H F bs dss
 |_,_=>False
noncomputable def dN(M:Md)(H:Hp)(F:Addr→Prop)(σ:St)(ρ:En):Prop:=∀i xss,ρ[i]? =some (.on xss)→
 (∃a bs,σ[i]? =some (some (.ref a))∧F a∧H a=some (.lst (bs.map V.ref))∧(a::bs).Nodup∧aY M H F bs xss)∧
 (∀b,fK H σ i b→∀j,bx ρ j→σ[j]? ≠some (some (.ref b)))∧∀j yss,ρ[j]? =some (.on yss)→j=i
theorem dN.no{M:Md}{H:Hp}{F:Addr→Prop}{σ:St}{ρ:En}(h:∀(i:Nat) xss,ρ[i]? ≠some (.on xss)):dN M H F σ ρ:=fun i xss e=>absurd e (h i xss)
theorem aY.mv{M:Md}{H H':Hp}{F F':Addr→Prop}(m:Mv F H F' H'):∀ {bs:List Addr} {xss:List (List D)},(∀b∈bs,∀u,F b→H b=some u→F' b∧H' b=some u)→aY M H F bs xss→aY M H' F' bs xss
 |[],[],_,_=>by simp only[aY]
 | b::bs,ds::dss,k,h=>by
   simp only[aY]at h ⊢
   obtain⟨f,⟨xs,e,r⟩,t⟩:=h
   obtain⟨f',e'⟩:=k b List.mem_cons_self _ f e
   exact⟨f',⟨xs,e',r.mv m⟩,aY.mv m (fun c hc=>k c (List.mem_cons_of_mem _ hc)) t⟩
 |[],_::_,_,h=>by simp only[aY]at h
 |_::_,[],_,h=>by simp only[aY]at h
theorem dN.mv{M:Md}{H H':Hp}{F F':Addr→Prop}{σ σ':St}{ρ ρ':En}(r:dN M H F σ ρ)(m:Mv F H F' H')(hρ:∀(j:Nat) xss,ρ'[j]? =some (.on xss)→ρ[j]? =some (.on xss)∧σ'[j]? =σ[j]?)
   (hk:∀(j:Nat) xss b u,ρ'[j]? =some (.on xss)→fK H σ j b→F b→H b=some u→F' b∧H' b=some u)
   (ho:∀(j:Nat) xss b,ρ'[j]? =some (.on xss)→fK H σ j b→∀k:Nat,bx ρ' k→σ'[k]? ≠some (some (.ref b))):dN M H' F' σ' ρ':=fun i xss e=>by
 obtain⟨e0,es⟩:=hρ i xss e
 obtain⟨⟨a,bs,h1,fa,ha,nd,inn⟩,h2,h3⟩:=r i xss e0
 obtain⟨fa',ha'⟩:=hk i xss a _ e ⟨a,_,h1,ha,.inl rfl⟩ fa ha
 refine⟨⟨a,bs,by rw[es];exact h1,fa',ha',nd,inn.mv m fun b hb u f eb=>hk i xss b u e ⟨a,_,h1,ha,.inr (List.mem_map_of_mem hb)⟩ f eb⟩,fun b hb k ok=>?_,fun j yss ej=>h3 j yss (hρ j yss ej).1⟩
 refine ho i xss b e ?_ k ok
 obtain⟨a',vs,g1,g2,g3⟩:=hb
 rw[es,h1]at g1
 cases g1
 rw[ha']at g2
 cases g2
 exact⟨a,_,h1,ha,g3⟩
theorem dN.back{M:Md}{H H':Hp}{F:Addr→Prop}{σ σ':St}{ρ:En}{i:Nat}{xss:List (List D)}{b:Addr}(r:dN M H F σ ρ)(e:ρ[i]? =some (.on xss))(hs:σ'[i]? =σ[i]?)
   (hk:∀a u,fK H σ i a→F a→H a=some u→H' a=some u) (h:fK H' σ' i b):fK H σ i b:=by
 obtain⟨⟨a,bs,h1,fa,ha,_,_⟩,_⟩:=r i xss e
 obtain⟨a',vs,g1,g2,g3⟩:=h
 rw[hs,h1]at g1
 cases g1
 rw[hk a _ ⟨a,_,h1,ha,.inl rfl⟩ fa ha]at g2
 cases g2
 exact⟨a,_,h1,ha,g3⟩
theorem aY.fs{M:Md}{H:Hp}{F:Addr→Prop}:∀ {bs:List Addr} {xss:List (List D)},aY M H F bs xss→∀b∈bs,F b∧∃xs,H b=some (.lst xs)
 |[],[],_,_,hb=>by cases hb
 | b::bs,ds::dss,h,c,hc=>by
   simp only[aY]at h
   obtain⟨f,⟨xs,e,_⟩,t⟩:=h
   rcases List.mem_cons.mp hc with rfl|hc
   ·exact⟨f,xs,e⟩
   ·exact aY.fs t c hc
 |[],_::_,h,_,_=>by simp only[aY]at h
 |_::_,[],h,_,_=>by simp only[aY]at h
theorem dN.f{M:Md}{H:Hp}{F:Addr→Prop}{σ:St}{ρ:En}{i:Nat}{xss:List (List D)}{b:Addr}(r:dN M H F σ ρ)(e:ρ[i]? =some (.on xss))(h:fK H σ i b):F b∧∃xs,H b=some (.lst xs):=by
 obtain⟨⟨a,bs,h1,fa,ha,_,inn⟩,_⟩:=r i xss e
 obtain⟨a',vs,g1,g2,g3⟩:=h
 rw[h1]at g1
 cases g1
 rw[ha]at g2
 cases g2
 rcases g3 with rfl|g3
 ·exact⟨fa,_,ha⟩
 · obtain⟨c,hc,z⟩:=List.mem_map.mp g3
   cases z
   exact inn.fs _ hc
structure bb(M:Md)(H:Hp)(F:Addr→Prop)(σ:St)(ρ:En):Prop where
 len:ρ.length=σ.length
 aM:∀a,F a→∃o,H a=some o
 sh:∀(i:Nat) d,ρ[i]? =some (.sh d)→∃v,σ[i]? =some (some v)∧Rep M H F d v
 ol:∀(i:Nat) ds,ρ[i]? =some (.ol ds)→∃a xs,σ[i]? =some (some (.ref a))∧F a∧H a=some (.lst xs)∧ae M H F ds xs
 od:∀(i:Nat) ks ds,ρ[i]? =some (.od ks ds)→∃a xs,σ[i]? =some (some (.ref a))∧F a∧H a=some (.dK (ks.zip xs))∧ks.length=xs.length∧ae M H F ds xs
 cw:∀(i j:Nat) a,bx ρ i→bx ρ j→σ[i]? =some (some (.ref a))→σ[j]? =some (some (.ref a))→i=j
 on:dN M H F σ ρ
section
variable{M:Md}{H H':Hp}{F F':Addr→Prop}{σ:St}{ρ:En}
theorem bb.same(r:bb M H F σ ρ)(h:af H H'):bb M H' F σ ρ where
 len:=r.len
 aM a f:=let⟨o,e⟩:=r.aM a f;⟨o,h _ _ e⟩
 sh i d e:=let⟨v,e1,q⟩:=r.sh i d e;⟨v,e1,q.mv (.same h)⟩
 ol i ds e:=let⟨a,xs,e1,f,e2,q⟩:=r.ol i ds e;⟨a,xs,e1,f,h _ _ e2,q.mv (.same h)⟩
 od i ks ds e:=let⟨a,xs,e1,f,e2,l,q⟩:=r.od i ks ds e;⟨a,xs,e1,f,h _ _ e2,l,q.mv (.same h)⟩
 cw:=r.cw
 on:=r.on.mv (.same h) (fun j xss e=>⟨e,rfl⟩) (fun j xss b u e hb f hu=>⟨f,h _ _ hu⟩) fun j xss b e hb k ok=>(r.on j xss e).2.1 b hb k ok
theorem get_set{α:Type}{l:List α}{i j:Nat}{x y:α}(h:(l.set i x)[j]? =some y):(i=j∧x=y∧i<l.length)∨(i≠j∧l[j]? =some y):=by
 by_cases e:i=j
 · subst e
   rw[List.getElem?_set_self']at h
   cases q:l[i]? with
   |none=>rw[q]at h;cases h
   | some z=>
     rw[q]at h
     obtain⟨hl,_⟩:=List.getElem?_eq_some_iff.mp q
     simp at h
     exact .inl ⟨rfl,h,hl⟩
 · rw[List.getElem?_set_ne e]at h
   exact .inr ⟨e,h⟩
theorem bb.iF{i:Nat}{d:D}{v:V}(r:bb M H F σ ρ)(h:Rep M H F d v):bb M H F (σ.set i (some v)) (ρ.set i (.sh d)) where
 len:=by simp[r.len]
 aM:=r.aM
 sh j e q:=by
   rcases get_set q with⟨rfl,hx,hl⟩|⟨hne,q⟩
   · cases hx
     exact⟨v,by rw[List.getElem?_set_self (by rw[←r.len];exact hl)],h⟩
   · obtain⟨w,e1,g⟩:=r.sh j e q
     exact⟨w,by rw[List.getElem?_set_ne hne];exact e1,g⟩
 ol j e q:=by
   rcases get_set q with⟨rfl,x,hl⟩|⟨hne,q⟩
   ·cases x
   · obtain⟨a,xs,e1,g⟩:=r.ol j e q
     exact⟨a,xs,by rw[List.getElem?_set_ne hne];exact e1,g⟩
 od j k e q:=by
   rcases get_set q with⟨rfl,x,hl⟩|⟨hne,q⟩
   ·cases x
   · obtain⟨a,xs,e1,g⟩:=r.od j k e q
     exact⟨a,xs,by rw[List.getElem?_set_ne hne];exact e1,g⟩
 cw j k a oj ok ej ek:=by
   have nj:i≠j:=by
     rintro rfl
     rcases oj with⟨ds,q⟩|⟨ks,ds,q⟩
     · rcases get_set q with⟨_,x,_⟩|⟨hne,_⟩
       ·cases x
       ·exact hne rfl
     · rcases get_set q with⟨_,x,_⟩|⟨hne,_⟩
       ·cases x
       ·exact hne rfl
   have nk:i≠k:=by
     rintro rfl
     rcases ok with⟨ds,q⟩|⟨ks,ds,q⟩
     · rcases get_set q with⟨_,x,_⟩|⟨hne,_⟩
       ·cases x
       ·exact hne rfl
     · rcases get_set q with⟨_,x,_⟩|⟨hne,_⟩
       ·cases x
       ·exact hne rfl
   rw[List.getElem?_set_ne nj]at ej
   rw[List.getElem?_set_ne nk]at ek
   refine r.cw j k a ?_ ?_ ej ek
   ·unfold bx at oj;simp only[List.getElem?_set_ne nj]at oj;exact oj
   ·unfold bx at ok;simp only[List.getElem?_set_ne nk]at ok;exact ok
 on := r.on.mv (fun _ _ n e=>⟨n,e⟩) (fun j xss e=>by
     rcases get_set e with⟨_,x,_⟩|⟨hne,e⟩
     ·cases x
     ·exact⟨e,List.getElem?_set_ne hne⟩) (fun j xss b u e hb f hu=>⟨f,hu⟩) fun j xss b e hb k ok=>by
   have e0:ρ[j]? =some (.on xss):=by
     rcases get_set e with⟨_,x,_⟩|⟨hne,e⟩
     ·cases x
     ·exact e
   have nk:i≠k:=by
     rintro rfl
     rcases ok with⟨ds,q⟩|⟨ks,ds,q⟩
     · rcases get_set q with⟨_,x,_⟩|⟨hne,_⟩
       ·cases x
       ·exact hne rfl
     · rcases get_set q with⟨_,x,_⟩|⟨hne,_⟩
       ·cases x
       ·exact hne rfl
   rw[List.getElem?_set_ne nk]
   refine(r.on j xss e0).2.1 b hb k ?_
   unfold bx at ok;simp only[List.getElem?_set_ne nk]at ok;exact ok
end
open L2 (aD eY bp R2 EP)
theorem ah{α β:Type}{x:R α}{f:α→R β}{b:β}:x.bind f=.ok b↔∃a,x=.ok a∧f a=.ok b:=by
 cases x with
 |ok a=>simp
 |exc y=>simp
 |bad=>simp
noncomputable def tP(M:Md)(f:Ex):TE:=fun σ H Q=>∃ρ F d,bb M H F σ ρ∧f ρ=.ok d∧∀v H',af H H'→Rep M H' F d v→Q v H'
noncomputable def sO(M:Md)(c:aG):TT:=fun σ H Q=>∃ρ F b,bb M H F σ ρ∧c ρ=.ok b∧∀H',af H H'→Q b H'
noncomputable def me(M:Md)(f:En→R (List D)):TA:=fun σ H Q=>∃ρ F ds,bb M H F σ ρ∧f ρ=.ok ds∧∀vs H',af H H'→ae M H' F ds vs→Q vs H'
noncomputable abbrev JE(X:Cx)(e:Expr)(f:Ex):Prop:=PE X e (tP (aj X) f)
noncomputable abbrev JT(X:Cx)(e:Expr)(c:aG):Prop:=PT X e (sO (aj X) c)
noncomputable abbrev JA(X:Cx)(es:List Expr)(f:En→R (List D)):Prop:=PA X es (me (aj X) f)
theorem bj{X:Cx}{e:Expr}{t t':TE}(h:PE X e t')(hi:∀σ H Q,t σ H Q→t' σ H Q):PE X e t:=fun pins s σ H Q I q=>h pins s σ H Q I (hi σ H Q q)
theorem jr{X:Cx}{e:Expr}{t t':TT}(h:PT X e t')(hi:∀σ H Q,t σ H Q→t' σ H Q):PT X e t:=fun pins s σ H Q I q=>h pins s σ H Q I (hi σ H Q q)
theorem sv{X:Cx}{e:List Expr}{t t':TA}(h:PA X e t')(hi:∀σ H Q,t σ H Q→t' σ H Q):PA X e t:=fun pos pins s σ H Q I q=>h pos pins s σ H Q I (hi σ H Q q)
theorem yL{X:Cx}{e:Expr}{t t':TT}(h:PW X e t')(hi:∀σ H Q,t σ H Q→t' σ H Q):PW X e t:=fun wh pins s σ H Q I q=>h wh pins s σ H Q I (hi σ H Q q)
theorem af.bI{H:Hp}{p:Addr}(h:H p=none)(o:HO):af H (upd H p o):=fun b u q=>by rw[L2.aA (L2.cP q h)];exact q
section
variable{X:Cx}{M:Md}{H H':Hp}{F:Addr→Prop}{σ:St}{ρ:En}{pos:Pos}
theorem C2{i:Nat}{d:D}(h:aa i ρ=.ok d):ρ[i]? =some (.sh d):=by
 unfold aa at h
 split at h
 ·rename_i e;cases h;exact e
 ·cases h
theorem Aw(i:Nat){x:Str}(hN:X.N[i]? =some x:=by rfl)(hv:L2.bS X.env.scope x:=by first|exact Or.inl rfl|exact Or.inr (Or.inl rfl)|exact Or.inr (Or.inr rfl))(hd:(x==("__debug__":Str))=false:=by decide)
   (hcd:(x==("__classdict__":Str))=false:=by decide):JE X (.Name x pos) (aa i):=
 bj (L2.pv i hN hv hd hcd) fun σ H Q ⟨ρ,F,d,r,e,q⟩=>by
   obtain⟨v,e1,rv⟩:=r.sh i d (C2 e)
   exact⟨v,e1,q v H (af.refl H) rv⟩
theorem Ay{i:Int}{j:Nat}:JE X (.Constant (.int i) j pos) (eC (.int i)):=
 bj L2.Ca fun σ H Q ⟨ρ,F,d,r,e,q⟩=>by cases e;exact q _ H (af.refl H) (by simp[Rep])
theorem E1{b:Bool}{j:Nat}:JE X (.Constant (.bool b) j pos) (eC (.bl b)):=
 bj L2.xw fun σ H Q ⟨ρ,F,d,r,e,q⟩=>by cases e;exact q _ H (af.refl H) (by simp[Rep])
theorem GC{j:Nat}:JE X (.Constant .none j pos) (eC .av):=
 bj L2.F4 fun σ H Q ⟨ρ,F,d,r,e,q⟩=>by cases e;exact q _ H (af.refl H) (by simp[Rep])
theorem Gn{x:Str}{j:Nat}:JE X (.Constant (.str x) j pos) (eC (.str x)):=
 bj L2.CP fun σ H Q ⟨ρ,F,d,r,e,q⟩=>by cases e;exact q _ H (af.refl H) (by simp[Rep])
theorem FT{x:Str}{d:D}{v:V}{u:Value}(hg:L2.Gl X x)(hm:X.mg x=some u)(r:RelV v u)(hr:∀H F,Rep (aj X) H F d v)(hd:(x==("__debug__":Str))=false:=by decide):JE X (.Name x pos) (eC d):=
 bj (L2.CS hg hm r hd) fun σ H Q ⟨ρ,F,d',r,e,q⟩=>by cases e;exact q _ H (af.refl H) (hr H F)
noncomputable def bh(M:Md)(g:D→D→R D)(r:R2):Prop:=∀(F:Addr→Prop) (H:Hp) (x y:V) (a b d:D) (Q:VK),(∀p,F p→∃o,H p=some o)→Rep M H F a x→Rep M H F b y→g a b=.ok d→
 (∀v H',af H H'→Rep M H' F d v→Q v H')→r x y H Q
noncomputable def eE(M:Md)(g:List D→R D)(r:List V→Hp→VK→Prop):Prop:=∀(F:Addr→Prop) (H:Hp) (xs:List V) (as:List D) (d:D) (Q:VK),(∀p,F p→∃o,H p=some o)→ae M H F as xs→g as=.ok d→
 (∀v H',af H H'→Rep M H' F d v→Q v H')→r xs H Q
theorem lV{g:D→D→R D}{r:R2}(hg:bh M g r){fa fb:Ex}{Q:VK}(h:tP M (e2 g fa fb) σ H Q):L2.iy r (tP M fa) (tP M fb) σ H Q:=by
 obtain⟨ρ,F,d,hr,e,q⟩:=h
 obtain⟨a,ea,e⟩:=ah.mp e
 obtain⟨b,eb,e⟩:=ah.mp e
 refine⟨ρ,F,a,hr,ea,fun x H1 s1 rx=>⟨ρ,F,b,hr.same s1,eb,fun y H2 s2 ry=>?_⟩⟩
 exact hg F H2 x y a b d Q ((hr.same s1).same s2).aM (rx.mv (.same s2)) ry e fun v H3 s3 rv=>q v H3 (s1.trans (s2.trans s3)) rv
theorem ye{op:Operator}{g:D→D→R D}{r:R2}{a b:Expr}{fa fb:Ex}(ho:aD X (binaryOp op) r)(hg:bh (aj X) g r)(ha:JE X a fa)(hb:JE X b fb):JE X (.BinOp a op b pos) (e2 g fa fb):=
 bj (L2.rT ho ha hb) fun σ H Q h=>lV hg h
theorem Fi{op:CmpOp}{g:D→D→R D}{r:R2}{a b:Expr}{fa fb:Ex}(ho:aD X (compareOp op) r)(hg:bh (aj X) g r)(ha:JE X a fa)(hb:JE X b fb)(hm:behindInMarks op b=false):JE X (.Compare a [op] [b] pos) (e2 g fa fb):=
 bj (L2.GV ho ha hb hm) fun σ H Q h=>lV hg h
theorem aU{i:Int}{v:V}(h:Rep M H F (.int i) v):v=.int i:=by simpa only[Rep] using h
theorem cS{i:Bool}{v:V}(h:Rep M H F (.bl i) v):v=.bl i:=by simpa only[Rep] using h
theorem dG{i:Str}{v:V}(h:Rep M H F (.str i) v):v=.str i:=by simpa only[Rep] using h
theorem nz{v:V}(h:Rep M H F .av v):v=.av:=by simpa only[Rep] using h
theorem cv{i:Int}:Rep M H F (.int i) (.int i):=by simp only[Rep]
theorem bW{i:Bool}:Rep M H F (.bl i) (.bl i):=by simp only[Rep]
theorem ki{i:Str}:Rep M H F (.str i) (.str i):=by simp only[Rep]
theorem qG:Rep M H F .av .av:=by simp only[Rep]
theorem jB:bh M fX (L2.dy fun i j=>.int (i - j)):=by
 intro F H x y a b d Q tr ra rb e q
 unfold fX at e
 split at e
 · cases e
   exact⟨_,_,aU ra,aU rb,q _ _ (af.refl _) cv⟩
 ·cases e
theorem jW:bh M oLt (L2.dy fun i j=>.bl (decide (i<j))):=by
 intro F H x y a b d Q tr ra rb e q
 unfold oLt at e
 split at e
 · cases e
   exact⟨_,_,aU ra,aU rb,q _ _ (af.refl _) bW⟩
 ·cases e
theorem jX:bh M oLe (L2.dy fun i j=>.bl (decide (i≤j))):=by
 intro F H x y a b d Q tr ra rb e q
 unfold oLe at e
 split at e
 · cases e
   exact⟨_,_,aU ra,aU rb,q _ _ (af.refl _) bW⟩
 ·cases e
theorem jI:bh M eS (L2.dy fun i j=>.bl (decide (j<i))):=by
 intro F H x y a b d Q tr ra rb e q
 unfold eS at e
 split at e
 · cases e
   exact⟨_,_,aU ra,aU rb,q _ _ (af.refl _) bW⟩
 ·cases e
theorem De:bh M o6 (L2.dy fun i j=>.bl (decide (j≤i))):=by
 intro F H x y a b d Q tr ra rb e q
 unfold o6 at e
 split at e
 · cases e
   exact⟨_,_,aU ra,aU rb,q _ _ (af.refl _) bW⟩
 ·cases e
theorem zk:bh M oMod (L2.rI (fun _ j=>0<j) fun i j=>.int (i % j)):=by
 intro F H x y a b d Q tr ra rb e q
 unfold oMod at e
 split at e
 · split at e
   · cases e
     exact⟨_,_,aU ra,aU rb,by assumption,q _ _ (af.refl _) cv⟩
   ·cases e
 ·cases e
end
section
variable{X:Cx}{M:Md}{H H':Hp}{F:Addr→Prop}{σ:L2.St}{ρ:En}{pos:Pos}{pins:List (Addr×Obj)}{s:Shared}
theorem jn{a:Addr}{xs:List V}(I:Inv X pins σ H s)(h:dO (aj X) H F a xs):∃(its:List Value) (n:Nat) (sl:Array (Option Value)),Vals xs its∧s.heap.get? a=some {cls:=.type "list",data:=.seq its.toArray n,slots:=sl}∧xs.length≤sizeLine:=by
 rcases h with⟨_,h⟩|⟨o,its,n,hk,h1,h2,h3,hz,r⟩
 · obtain⟨z,its,n,r,e⟩:=h.ok I.au
   exact⟨its,n, #[],r,e,z⟩
 · obtain⟨c,dd,dt,sl⟩:=o
   simp only at h1 h2 h3
   subst h1 h2 h3
   refine⟨its.toList,n,sl,r,by simpa using I.cx a _ hk,?_⟩
   have e:=r.length
   simp only[Array.length_toList]at e
   omega
theorem EB(l:Addr)(items:Array Value)(n:Nat)(sl:Array (Option Value))(b:Addr)(items2:Array Value)(n2:Nat)(sl2:Array (Option Value))(hc0:items.size+items2.size≤sizeLine):
   Meets (Builtin.«list.__add__» ⟨[.ref l,.ref b],[]⟩) (fun _ R s=>s.heap.get? l=some {cls:=.type "list",dict:=none,data:=.seq items n,slots:=sl}∧s.heap.get? b=some {cls:=.type "list",dict:=none,data:=.seq items2 n2,slots:=sl2}∧R (.ok (.ret (Value.ref s.heap.objs.size))) {s with heap:=s.heap.push {cls:=Value.type "list",data:=Data.seq (items++items2)},toks:=s.toks}):=
 .of_wp fun prog w A R s h=>by obtain⟨hp,g,d,tk,os⟩:=s;obtain⟨hl,hb,h⟩:=h;have f1:=AutoSeq1.idx_int;have f2:=AutoSeq1.sub_tuple_tuple;have f3:=AutoSeq1.sub_list_list;have f4:=AutoSeq1.sub_tuple_list;have f5:=AutoSeq1.sub_list_tuple;wp_walk using AutoSeq1.wpAny_loadPart' hl,AutoSeq1.wpAny_loadPart' hb;exact⟨_,rfl,h⟩
theorem hW{a:Addr}{xs:List V}(I:Inv X pins σ H s)(h:cF (aj X) H F a xs):∃its:List Value,Vals xs its∧PyProof.Rows.IsTup s.heap a its.toArray∧xs.length≤sizeLine:=I.tuple h.sq
noncomputable def qk(M:Md):R2:=fun x y H Q=>∃F l b xs zs,x=.ref l∧y=.ref b∧dO M H F l xs∧dO M H F b zs∧xs.length+zs.length≤sizeLine∧∀p,H p=none→Q (.ref p) (upd H p (.lst (xs++zs)))
theorem DB:aD X (binaryOp .Add) (qk (aj X)):=by
 intro pins s σ H x y v u Q I rx ry h
 obtain⟨F,l,b,xs,zs,rfl,rfl,hH,hB,hz,q⟩:=h
 cases rx
 cases ry
 obtain⟨its,n,sl,r,e,z⟩:=jn I hH
 obtain⟨its2,n2,sl2,r2,e2,z2⟩:=jn I hB
 have h1:=r.length
 have h2:=r2.length
 refine concat_meets ⟨_,e,rfl⟩ ⟨_,e2,rfl⟩ noFill_list_add seq_list_add PySem.F.slot_list_add PySem.F.entry_list_add (PySem.F.args_list_add_2 _ _) (EB l its.toArray n sl b its2.toArray n2 sl2 (by rw[List.size_toArray,List.size_toArray];omega)) ⟨e,e2,?_⟩
 have ea:its.toArray++its2.toArray=(its++its2).toArray:=by simp
 rw[ea]
 exact⟨.ref _,_,I.pE (t':=s.toks) (r.append r2) (by rw[List.length_append];omega),rfl,q _ I.fresh⟩
noncomputable def sM(M:Md):R2:=fun x y H Q=>(L2.dy fun i j=>.int (i+j)) x y H Q∨(∃i j,x=.str i∧y=.str j∧i.length+j.length≤sizeLine∧Q (.str (i++j)) H)∨qk M x y H Q∨L2.qX M.K x y H Q
theorem bL:aD X (binaryOp .Add) (sM (aj X)):=L2.aD.or L2.bL (L2.aD.or L2.BS (L2.aD.or DB L2.ET))
theorem kg{p:Addr}(tr:∀p,F p→∃o,H p=some o)(h:H p=none):¬F p:=fun f=>by obtain⟨o,e⟩:=tr p f;rw[h]at e;cases e
theorem gp{p:Addr}{ds:List D}{xs:List V}(tr:∀p,F p→∃o,H p=some o)(h:H p=none)(r:ae M H F ds xs):Rep M (upd H p (.lst xs)) F (.lst ds) (.ref p):=by
 simp only[Rep]
 exact⟨p,xs,rfl,.inl ⟨kg tr h,.inl L2.bC⟩,r.mv (.same (af.bI h _))⟩
theorem gI{p:Addr}{ds:List D}{xs:List V}(tr:∀p,F p→∃o,H p=some o)(h:H p=none)(r:ae M H F ds xs):Rep M (upd H p (.tup xs)) F (.tup ds) (.ref p):=by
 simp only[Rep]
 exact⟨p,xs,rfl,.inl ⟨kg tr h,.inl L2.bC⟩,r.mv (.same (af.bI h _))⟩
theorem bP:bh M aV (sM M):=by
 intro F H x y a b d Q tr ra rb e q
 unfold aV at e
 split at e
 · cases e
   exact .inl ⟨_,_,aU ra,aU rb,q _ _ (af.refl _) cv⟩
 · split at e
   · cases e
     exact .inr (.inl ⟨_,_,dG ra,dG rb,by assumption,q _ _ (af.refl _) ki⟩)
   ·cases e
 · split at e
   · rename_i hz
     cases e
     simp only[Rep]at ra rb
     obtain⟨l,xs,rfl,h1,r1⟩:=ra
     obtain⟨m,zs,rfl,h2,r2⟩:=rb
     refine .inr (.inr (.inl ⟨F,l,m,xs,zs,rfl,rfl,h1,h2,by rw[←r1.length, ←r2.length];exact hz,fun p hp=>q _ _ (af.bI hp _) (gp tr hp (r1.append r2))⟩))
   ·cases e
 · split at e
   · rename_i hz
     cases e
     simp only[Rep]at ra rb
     obtain⟨l,xs,rfl,h1,r1⟩:=ra
     obtain⟨m,zs,rfl,h2,r2⟩:=rb
     have l1:=r1.length
     have l2:=r2.length
     refine .inr (.inr (.inr ⟨l,m,xs,zs,rfl,rfl,h1.sq,h2.sq,?_,by rw[←l1, ←l2];exact hz.2,fun e0=>?_,fun _ p hp=>q _ _ (af.bI hp _) (gI tr hp (r1.append r2))⟩))
     · intro e0
       subst e0
       have:=hz.1
       rename_i as bs
       cases as with
       |nil=>cases this
       |cons _ _=>simp at l1
     · subst e0
       rename_i as bs
       cases bs with
       |cons _ _=>simp at l2
       | nil=>
         refine q _ _ (af.refl _) ?_
         rw[List.append_nil]
         simp only[Rep]
         exact⟨l,xs,rfl,h1,r1⟩
   ·cases e
 ·cases e
theorem FJ{j:Nat}{p2:Pos}{a:Expr}{fa:Ex}(ha:JE X a fa):JE X (.Compare a [.Is] [.Constant .none j p2] pos) (e1 mG fa):=
 bj (L2.CT (L2.Fb ha)) fun σ H Q ⟨ρ,F,d,hr,e,q⟩=>by
   obtain⟨a,ea,e⟩:=ah.mp e
   refine⟨ρ,F,a,hr,ea,fun x H1 s1 rx=>?_⟩
   cases e
   refine q _ _ s1 ?_
   cases a<;>simp only[Rep]at rx
   all_goals first
     |(subst rx;exact bW)
     |(obtain⟨p,xs,rfl,_⟩:=rx;exact bW)
theorem zA{op:BoolOp}{a:Expr}{fa:Ex}(h:JE X a fa):JE X (.BoolOp op [a] pos) fa:=L2.wB h
theorem yE{a b:Expr}{rest:List Expr}{fa fb:Ex}(ha:JE X a fa)(hb:JE X (.BoolOp .And (b::rest) pos) fb):JE X (.BoolOp .And (a::b::rest) pos) (fJ fa fb):=
 bj (L2.By ha hb) fun σ H Q ⟨ρ,F,d,hr,e,q⟩=>by
   obtain⟨a,ea,e⟩:=ah.mp e
   refine⟨ρ,F,a,hr,ea,fun x H1 s1 rx=>?_⟩
   split at e
   ·exact⟨true,cS rx,by rw[if_pos rfl];exact⟨ρ,F,d,hr.same s1,e,fun v H2 s2 rv=>q v H2 (s1.trans s2) rv⟩⟩
   · cases e
     exact⟨false,cS rx,by rw[if_neg (by decide)];exact q _ _ s1 bW⟩
   ·cases e
theorem CN{op op':CmpOp}{g g':D→D→R D}{r r':R2}{a b c:Expr}{fa fb fc:Ex}(ho:aD X (compareOp op) r)(ho':aD X (compareOp op') r')(hg:bh (aj X) g r)(hg':bh (aj X) g' r')
   (ha:JE X a fa) (hb:JE X b fb) (hc:JE X c fc) (hm:lastMarks [op,op'] [b,c]=false:=by with_unfolding_all rfl):JE X (.Compare a [op,op'] [b,c] pos) (eG g g' fa fb fc):=
 bj (L2.Et ho ho' ha hb hc hm) fun σ H Q ⟨ρ,F,d,hr,e,q⟩=>by
   obtain⟨a,ea,e⟩:=ah.mp e
   obtain⟨b,eb,e⟩:=ah.mp e
   obtain⟨z,ez,e⟩:=ah.mp e
   refine⟨ρ,F,a,hr,ea,fun x H1 s1 rx=>⟨ρ,F,b,hr.same s1,eb,fun y H2 s2 ry=>?_⟩⟩
   refine hg F H2 x y a b z _ ((hr.same s1).same s2).aM (rx.mv (.same s2)) ry ez fun v H3 s3 rv=>?_
   split at e
   · obtain⟨w,ew,e⟩:=ah.mp e
     refine⟨true,cS rv,?_⟩
     rw[if_pos rfl]
     refine⟨ρ,F,w,((hr.same s1).same s2).same s3,ew,fun u H4 s4 ru=>?_⟩
     exact hg' F H4 y u b w d Q ((((hr.same s1).same s2).same s3).same s4).aM (ry.mv (.same (s3.trans s4))) ru e fun v H5 s5 rv=>q v H5 (s1.trans (s2.trans (s3.trans (s4.trans s5)))) rv
   · cases e
     exact⟨false,cS rv,by rw[if_neg (by decide)];exact q _ _ (s1.trans (s2.trans s3)) bW⟩
   ·cases e
theorem GI{a:D}{x:V}{t:Bool}(r:Rep M H F a x)(e:truth a=.ok t):L2.mS M.K x H t:=by
 cases a with
 |av=>cases e;cases nz r;rfl
 |bl b=>cases e;cases cS r;rfl
 |int i=>cases e;cases aU r;rfl
 | str z=>
   unfold truth at e
   dsimp only at e
   split at e
   · rename_i hz
     cases e;cases dG r
     refine⟨hz,?_⟩
     rw[Bool.eq_iff_iff]
     simp
   ·cases e
 | tup ds=>
   cases e
   simp only[Rep]at r
   obtain⟨p,xs,rfl,h,rs⟩:=r
   refine .inr (.inl ⟨xs,h.sq,?_⟩)
   have:=rs.length
   cases ds<;>cases xs<;>simp at this ⊢
 | lst ds=>
   cases e
   simp only[Rep]at r
   obtain⟨p,xs,rfl,h,rs⟩:=r
   refine .inl ⟨xs,h.sq,?_⟩
   have:=rs.length
   cases ds<;>cases xs<;>simp at this ⊢
 |aC ks ds=>cases e
 |cm _ _ _=>cases e
theorem ym{a:Expr}{fa:Ex}(ha:JE X a fa)(he:∀whole,isTrue a X.env whole=(do let v ←whole;standAt a.pos;holding [v] (truthy v)):=by intro _;rfl):JT X a (tV fa):=
 jr (L2.Ah ha he) fun σ H Q ⟨ρ,F,b,hr,e,q⟩=>by
   obtain⟨a,ea,e⟩:=ah.mp e
   exact⟨ρ,F,a,hr,ea,fun x H1 s1 rx=>⟨b,GI rx e,q H1 s1⟩⟩
noncomputable def d6(g:D→D→R D):Prop:=∀a b d,g a b=.ok d→∃k,d=.bl k
theorem ze{op:CmpOp}{g:D→D→R D}{r:R2}{a b:Expr}{fa fb:Ex}(ho:aD X (compareOp op) r)(hg:bh (aj X) g r)(hB:d6 g)(ha:JE X a fa)(hb:JE X b fb)(hm:behindInMarks op b=false):JT X (.Compare a [op] [b] pos) (tV (e2 g fa fb)):=
 jr (L2.sX ho ha hb hm) fun σ H Q ⟨ρ,F,t,hr,e,q⟩=>by
   obtain⟨d,ed,e⟩:=ah.mp e
   refine lV hg ⟨ρ,F,d,hr,ed,fun v H1 s1 rv=>?_⟩
   obtain⟨a,ea,ed⟩:=ah.mp ed
   obtain⟨b,eb,ed⟩:=ah.mp ed
   obtain⟨k,rfl⟩:=hB _ _ _ ed
   cases e
   exact⟨_,cS rv,q H1 s1⟩
theorem Ei{j:Nat}{p2:Pos}{a:Expr}{fa:Ex}(ha:JE X a fa):JT X (.Compare a [.IsNot] [.Constant .none j p2] pos) (tV (e1 jm fa)):=
 jr (L2.D3 (L2.zr ha)) fun σ H Q ⟨ρ,F,t,hr,e,q⟩=>by
   obtain⟨d,ed,e⟩:=ah.mp e
   obtain⟨a,ea,ed⟩:=ah.mp ed
   refine⟨ρ,F,a,hr,ea,fun x H1 s1 rx=>⟨t,?_,q H1 s1⟩⟩
   cases ed
   cases e
   cases a<;>simp only[Rep]at rx
   all_goals first
     |(subst rx;rfl)
     |(obtain⟨p,xs,rfl,_⟩:=rx;rfl)
theorem xW{op op':CmpOp}{g g':D→D→R D}{r r':R2}{a b c:Expr}{fa fb fc:Ex}(ho:aD X (compareOp op) r)(ho':aD X (compareOp op') r')(hg:bh (aj X) g r)(hg':bh (aj X) g' r')(hB:d6 g')
   (ha:JE X a fa) (hb:JE X b fb) (hc:JE X c fc) (hm:lastMarks [op,op'] [b,c]=false:=by with_unfolding_all rfl):JT X (.Compare a [op,op'] [b,c] pos) (tV (eG g g' fa fb fc)):=
 jr (L2.CF ho ho' ha hb hc hm) fun σ H Q ⟨ρ,F,t,hr,e,q⟩=>by
   obtain⟨d,e,et⟩:=ah.mp e
   obtain⟨a,ea,e⟩:=ah.mp e
   obtain⟨b,eb,e⟩:=ah.mp e
   obtain⟨z,ez,e⟩:=ah.mp e
   refine⟨ρ,F,a,hr,ea,fun x H1 s1 rx=>⟨ρ,F,b,hr.same s1,eb,fun y H2 s2 ry=>?_⟩⟩
   refine hg F H2 x y a b z _ ((hr.same s1).same s2).aM (rx.mv (.same s2)) ry ez fun v H3 s3 rv=>?_
   split at e
   · obtain⟨w,ew,e⟩:=ah.mp e
     obtain⟨k,rfl⟩:=hB _ _ _ e
     refine⟨true,cS rv,?_⟩
     rw[if_pos rfl]
     refine⟨ρ,F,w,((hr.same s1).same s2).same s3,ew,fun u H4 s4 ru=>?_⟩
     refine hg' F H4 y u b w _ _ ((((hr.same s1).same s2).same s3).same s4).aM (ry.mv (.same (s3.trans s4))) ru e fun v H5 s5 rv=>?_
     cases et
     exact⟨_,cS rv,q H5 (s1.trans (s2.trans (s3.trans (s4.trans s5))))⟩
   · cases e
     cases et
     exact⟨false,cS rv,by rw[if_neg (by decide)];exact⟨_,rfl,q _ (s1.trans (s2.trans s3))⟩⟩
   ·cases e
theorem El{a:Expr}{c:aG}(ha:JT X a c):JT X (.UnaryOp .Not a pos) (bV c):=
 jr (L2.EZ ha) fun σ H Q ⟨ρ,F,t,hr,e,q⟩=>by
   obtain⟨b,eb,e⟩:=ah.mp e
   cases e
   exact⟨ρ,F,b,hr,eb,fun H1 s1=>q H1 s1⟩
noncomputable abbrev JW(X:Cx)(e:Expr)(c:aG):Prop:=PW X e (sO (aj X) c)
theorem wF{a:Expr}{c:aG}(ha:JT X a c):JW X (.BoolOp .Or [a] pos) c:=L2.Bj ha
theorem yl{a b:Expr}{rest:List Expr}{c c':aG}(ha:JT X a c)(hb:JW X (.BoolOp .Or (b::rest) pos) c'):JW X (.BoolOp .Or (a::b::rest) pos) (bY c c'):=
 yL (L2.uV ha hb) fun σ H Q ⟨ρ,F,t,hr,e,q⟩=>by
   obtain⟨b,eb,e⟩:=ah.mp e
   refine⟨ρ,F,b,hr,eb,fun H1 s1=>?_⟩
   split at e
   ·rename_i h;rw[if_pos h];cases e;exact q H1 s1
   ·rename_i h;rw[if_neg h];exact⟨ρ,F,t,hr.same s1,e,fun H2 s2=>q H2 (s1.trans s2)⟩
theorem EO{e:Expr}{c:aG}(h:JW X e c):JT X e c:=L2.PW.pt h
theorem xH{a:Expr}{fa:Ex}(ha:JE X a fa):JE X (.UnaryOp .Not a pos) (e1 kq fa):=
 bj (L2.FY ha) fun σ H Q ⟨ρ,F,d,hr,e,q⟩=>by
   obtain⟨a,ea,e⟩:=ah.mp e
   refine⟨ρ,F,a,hr,ea,fun x H1 s1 rx=>?_⟩
   unfold kq at e
   split at e
   ·cases e;exact⟨_,cS rx,q _ _ s1 bW⟩
   ·cases e
theorem xi{c a b:Expr}{fc:aG}{fa fb:Ex}(hc:JT X c fc)(ha:JE X a fa)(hb:JE X b fb):JE X (.IfExp c a b pos) (g8 fc fa fb):=
 bj (L2.wa hc ha hb) fun σ H Q ⟨ρ,F,d,hr,e,q⟩=>by
   obtain⟨t,et,e⟩:=ah.mp e
   refine⟨ρ,F,t,hr,et,fun H1 s1=>?_⟩
   split at e
   ·rename_i h;rw[if_pos h];exact⟨ρ,F,d,hr.same s1,e,fun v H2 s2 rv=>q v H2 (s1.trans s2) rv⟩
   ·rename_i h;rw[if_neg h];exact⟨ρ,F,d,hr.same s1,e,fun v H2 s2 rv=>q v H2 (s1.trans s2) rv⟩
theorem dF:JA X [] (eList []):=sv L2.ic fun σ H Q ⟨ρ,F,ds,hr,e,q⟩=>by cases e;exact q [] H (af.refl H) ae.nil
theorem cy{e:Expr}{es:List Expr}{f:Ex}{fs:List Ex}(ha:JE X e f)(hr:JA X es (eList fs))(hs:starEach (e::es) X.env=(false,eval e X.env)::starEach es X.env:=by rfl):JA X (e::es) (eList (f::fs)):=
 sv (L2.gx ha hr hs) fun σ H Q ⟨ρ,F,ds,hr,e,q⟩=>by
   obtain⟨a,ea,e⟩:=ah.mp e
   obtain⟨as,eas,e⟩:=ah.mp e
   cases e
   exact⟨ρ,F,a,hr,ea,fun x H1 s1 rx=>⟨ρ,F,as,hr.same s1,eas,fun xs H2 s2 rs=>q _ H2 (s1.trans s2) (ae.cons (rx.mv (.same s2)) rs)⟩⟩
theorem ir:∀ {fs:List Ex} {ρ:En} {ds:List D},eList fs ρ=.ok ds→ds.length=fs.length
 |[],_,_,h=>by cases h;rfl
 | f::fs,_,_,h=>by
   obtain⟨a,_,h⟩:=ah.mp h
   obtain⟨as,h2,h⟩:=ah.mp h
   cases h
   simp[ir h2]
theorem CK{es:List Expr}{fs:List Ex}{k:Nat}(h:JA X es (eList fs))(hl:fs.length≤1000:=by decide):JE X (.Tuple es k pos) (en fs):=
 bj (L2.vp h) fun σ H Q ⟨ρ,F,d,hr,e,q⟩=>by
   obtain⟨as,ea,e⟩:=ah.mp e
   cases e
   refine⟨ρ,F,as,hr,ea,fun xs H1 s1 rs=>⟨?_,fun p hp=>q _ _ (s1.trans (af.bI hp _)) (gI (hr.same s1).aM hp rs)⟩⟩
   rw[←rs.length,ir ea]
   exact Nat.le_trans hl (by decide)
theorem Bu{es:List Expr}{fs:List Ex}(h:JA X es (eList fs))(hl:fs.length≤1000:=by decide):JE X (.List es pos) (bH fs):=
 bj (L2.rD h) fun σ H Q ⟨ρ,F,d,hr,e,q⟩=>by
   obtain⟨as,ea,e⟩:=ah.mp e
   cases e
   refine⟨ρ,F,as,hr,ea,fun xs H1 s1 rs=>⟨?_,fun p hp=>q _ _ (s1.trans (af.bI hp _)) (gp (hr.same s1).aM hp rs)⟩⟩
   rw[←rs.length,ir ea]
   exact Nat.le_trans hl (by decide)
theorem pq{pins:List (Addr×Obj)}{s:Shared}{p:Addr}{kvs:List (Key×V)}(I:Inv X pins σ H s)(e:H p=some (.dK kvs)):∃ob,Inv X pins σ (upd H p (.frz ob (.dK kvs))) s:=by
 obtain⟨z,y,vs,r,ob,es,ep,eo,c⟩:=I.au p _ e
 exact⟨ob,I.write (h':=s.heap) (t':=s.toks) (by rw[e];trivial) (.inl rfl) (fun _ _ _ q=>q) ⟨ob,eo⟩ ⟨eo,z,y,vs,r,ob,es,ep,eo,c⟩⟩
theorem mL{e:Expr}{t t':TE}(h:PE X e t')(hi:∀σ H Q,t σ H Q→t' σ H fun v H'=>∃p kvs,v=.ref p∧H' p=some (.dK kvs)∧∀ob,Q v (upd H' p (.frz ob (.dK kvs)))):PE X e t:=by
 intro pins s σ H Q I q
 refine L2.ar (h pins s σ H _ I (hi σ H Q q)) fun u s1 ⟨x,H1,I1,rx,p,kvs,ex,e1,q1⟩=>?_
 obtain⟨ob,I2⟩:=pq I1 e1
 exact⟨x,_,I2,rx,q1 ob⟩
theorem xj:JE X (.Dict [] [] pos) (gm [] []):=
 mL L2.rW fun σ H Q ⟨ρ,F,d,hr,e,q⟩=>by
   cases e
   intro p hp
   refine⟨p,[],rfl,L2.bC,fun ob=>?_⟩
   rw[L2.o8]
   refine q _ _ (af.bI hp _) ?_
   simp only[Rep]
   exact⟨p,[],rfl,.inl ⟨kg hr.aM hp,ob,L2.bC⟩,rfl,ae.nil⟩
end
section
variable{X:Cx}{M:Md}{H H':Hp}{F:Addr→Prop}{σ:L2.St}{ρ:En}{pos:Pos}{pins:List (Addr×Obj)}{s:Shared}
theorem m5{α β:Type}{xs:List α}{ys:List β}{i:Int}{x:α}(hl:xs.length=ys.length)(h:dz xs i=some x):∃j y,dm ys.length i=some j∧xs[j]? =some x∧ys[j]? =some y∧dz ys i=some y:=by
 unfold dz at h ⊢
 rw[hl]at h
 cases e:dm ys.length i with
 |none=>rw[e]at h;cases h
 | some j=>
   rw[e]at h
   have hx:xs[j]? =some x:=h
   obtain⟨hj,_⟩:=List.getElem?_eq_some_iff.mp hx
   have hy:j<ys.length:=by omega
   exact⟨j,ys[j],rfl,hx,List.getElem?_eq_getElem hy,by simp[hy]⟩
theorem nV:bh M fF (L2.oG M.K):=by
 intro F H x y a b d Q tr ra rb e q
 unfold fF at e
 split at e
 · split at e
   · rename_i xs i _ v hv
     cases e
     simp only[Rep]at ra
     obtain⟨p,ys,rfl,h,rs⟩:=ra
     obtain⟨j,y,_,h1,h2,h3⟩:=m5 rs.length hv
     obtain⟨z,hz,rz⟩:=rs.get h1
     rw[h2]at hz
     cases hz
     exact .inl ⟨p,ys,_,y,rfl,aU rb,h.sq,h3,q _ _ (af.refl _) rz⟩
   ·cases e
 · split at e
   · rename_i xs i _ v hv
     cases e
     simp only[Rep]at ra
     obtain⟨p,ys,rfl,h,rs⟩:=ra
     obtain⟨j,y,_,h1,h2,h3⟩:=m5 rs.length hv
     obtain⟨z,hz,rz⟩:=rs.get h1
     rw[h2]at hz
     cases hz
     exact .inr (.inl ⟨p,ys,_,y,rfl,aU rb,h.sq,h3,q _ _ (af.refl _) rz⟩)
   ·cases e
 · split at e
   · split at e
     · rename_i hz _ c hc
       cases e
       exact .inr (.inr ⟨_,_,c,dG ra,aU rb,hz,hc,q _ _ (af.refl _) ki⟩)
     ·cases e
   ·cases e
 ·cases e
theorem oQ(n d:Nat)(o:Option Int):HT.aF n d o=aF n d o:=by cases o<;>rfl
theorem rB(xs:List V)(lo hi:Option Int):L2.fA xs lo hi=cut xs lo hi:=by unfold L2.fA cut;simp only[oQ]
theorem ae.cut{ds:List D}{xs:List V}(lo hi:Option Int)(r:ae M H F ds xs):ae M H F (cut ds lo hi) (PL.cut xs lo hi):=by
 unfold PL.cut
 rw[r.length]
 exact(r.drop _).take _
noncomputable def GR(M:Md)(f:En→R (Option Int)):L2.TO:=fun σ H Q=>∃ρ F o,bb M H F σ ρ∧f ρ=.ok o∧∀H',af H H'→Q o H'
noncomputable abbrev JO(X:Cx)(e:Option Expr)(f:Option Ex):Prop:=L2.PO X e (GR (aj X) (gL f))
theorem AZ:JO X none none:=fun pins s σ H Q I ⟨ρ,F,o,hr,e,q⟩=>by
 cases e
 exact L2.Ej pins s σ H Q I (q H (af.refl H))
theorem xQ{e:Expr}{f:Ex}(h:JE X e f):JO X (some e) (some f):=fun pins s σ H Q I ⟨ρ,F,o,hr,e,q⟩=>by
 obtain⟨a,ea,e⟩:=ah.mp e
 refine L2.yY h pins s σ H Q I ⟨ρ,F,a,hr,ea,fun x H1 s1 rx=>?_⟩
 split at e
 ·cases e;exact⟨_,aU rx,q H1 s1⟩
 ·cases e
theorem Di{a:Expr}{lo hi:Option Expr}{fa:Ex}{fl fh:Option Ex}{p2:Pos}(ha:JE X a fa)(hl:JO X lo fl)(hh:JO X hi fh):JE X (.Subscript a (.Slice lo hi none p2) pos) (b6 fa fl fh):=
 bj (L2.z7 (L2.gb.or L2.vk L2.uT) ha hl hh) fun σ H Q ⟨ρ,F,d,hr,e,q⟩=>by
   obtain⟨a,ea,e⟩:=ah.mp e
   obtain⟨l,el,e⟩:=ah.mp e
   obtain⟨h,eh,e⟩:=ah.mp e
   refine⟨ρ,F,a,hr,ea,fun x H1 s1 rx=>⟨ρ,F,l,hr.same s1,el,fun H2 s2=>⟨ρ,F,h,(hr.same s1).same s2,eh,fun H3 s3=>?_⟩⟩⟩
   have rx':=rx.mv (.same (s2.trans s3))
   have tr:=(((hr.same s1).same s2).same s3).aM
   have s123:=s1.trans (s2.trans s3)
   unfold pJ at e
   split at e
   · cases e
     simp only[Rep]at rx'
     obtain⟨p,xs,rfl,h1,rs⟩:=rx'
     refine .inl ⟨p,xs,rfl,h1.sq,fun b hb=>?_⟩
     rw[rB]
     exact q _ _ (s123.trans (af.bI hb _)) (gp tr hb (rs.cut _ _))
   · split at e
     ·cases e
     · rename_i hw
       cases e
       simp only[Rep]at rx'
       obtain⟨p,xs,rfl,h1,rs⟩:=rx'
       refine .inr ⟨p,xs,rfl,h1.sq,?_,fun b hb=>?_⟩
       ·rw[oQ,oQ, ←rs.length];exact hw
       · rw[rB]
         exact q _ _ (s123.trans (af.bI hb _)) (gI tr hb (rs.cut _ _))
   ·cases e
theorem qa{g:List D→R D}{r:List V→Hp→VK→Prop}(hg:eE M g r){fs:List Ex}{Q:VK}(h:tP M (ao g fs) σ H Q):L2.m8 r (me M (eList fs)) σ H Q:=by
 obtain⟨ρ,F,d,hr,e,q⟩:=h
 obtain⟨as,ea,e⟩:=ah.mp e
 exact⟨ρ,F,as,hr,ea,fun xs H1 s1 rs=>hg F H1 xs as d Q (hr.same s1).aM rs e fun v H2 s2 rv=>q v H2 (s1.trans s2) rv⟩
@[simp] noncomputable def g1(g:D→R D):List D→R D
 |[a]=>g a
 |_=>.bad
@[simp] noncomputable def g2(g:D→D→R D):List D→R D
 |[a,b]=>g a b
 |_=>.bad
theorem tf(g:D→R D)(f:Ex):e1 g f=ao (g1 g) [f]:=by
 funext ρ
 show(f ρ).bind g=((f ρ).bind fun x=>R.bind (R.ok []) fun xs=>R.ok (x::xs)).bind (g1 g)
 cases f ρ<;>rfl
theorem ae.one{d:D}{xs:List V}(r:ae M H F [d] xs):∃x,xs=[x]∧Rep M H F d x:=by
 simp only[ae]at r
 obtain⟨x,t,rfl,h,rfl⟩:=r
 exact⟨x,rfl,h⟩
theorem ae.two{d e:D}{xs:List V}(r:ae M H F [d,e] xs):∃x y,xs=[x,y]∧Rep M H F d x∧Rep M H F e y:=by
 simp only[ae]at r
 obtain⟨x,t,rfl,h,y,u,rfl,h2,rfl⟩:=r
 exact⟨x,y,rfl,h,h2⟩
theorem xf{g:D→R D}{r:List V→Hp→VK→Prop}{x:Str}{id:String}{a:Expr}{fa:Ex}{p:Pos}(hc:bp X (.builtin id) r)(hg:eE (aj X) (g1 g) r)(hgl:L2.Gl X x)(hm:X.mg x=none)(hv:bootBuiltins x=some (.builtin id))(ha:JE X a fa)
   (hs:starEach [a] X.env=(false,eval a X.env)::starEach [] X.env:=by rfl) (hn:x≠"__name__":=by decide) (hdb:(x==("__debug__":Str))=false:=by decide):JE X (.Call (.Name x p) [a] [] pos) (e1 g fa):=by
 rw[tf]
 exact bj (L2.jT hc hgl hm hv (cy ha dF hs) hn hdb hs) fun σ H Q h=>qa hg h
theorem EC{g:D→R D}{r:List V→Hp→VK→Prop}{x:Str}{T:String}{a:Expr}{fa:Ex}{p:Pos}(hc:bp X (.type T) r)(hg:eE (aj X) (g1 g) r)(hgl:L2.Gl X x)(hm:X.mg x=none)(hv:bootBuiltins x=some (.type T))(ha:JE X a fa)
   (hs:starEach [a] X.env=(false,eval a X.env)::starEach [] X.env:=by rfl) (hn:x≠"__name__":=by decide) (hdb:(x==("__debug__":Str))=false:=by decide):JE X (.Call (.Name x p) [a] [] pos) (e1 g fa):=by
 rw[tf]
 exact bj (L2.kd hc hgl hm hv (cy ha dF hs) hn hdb hs) fun σ H Q h=>qa hg h
noncomputable def tO(M:Md):List V→Hp→VK→Prop:=fun xs H Q=>(∃p ys,xs=[.ref p]∧(aN M.K H p ys∨aW M.K H p ys)∧Q (.int ys.length) H)∨(∃z,xs=[.str z]∧z.length≤sizeLine∧Q (.int z.length) H)
theorem di:bp X (.builtin "len") (tO (aj X)):=L2.bp.or L2.tF L2.vN
theorem dC:eE M (g1 cg) (tO M):=by
 intro F H xs as d Q tr rs e q
 unfold g1 at e
 split at e
 · obtain⟨x,rfl,r⟩:=rs.one
   unfold cg at e
   split at e
   · cases e
     simp only[Rep]at r
     obtain⟨p,ys,rfl,h,rs⟩:=r
     exact .inl ⟨p,ys,rfl,.inl h.sq,q _ _ (af.refl _) (by rw[←rs.length];exact cv)⟩
   · cases e
     simp only[Rep]at r
     obtain⟨p,ys,rfl,h,rs⟩:=r
     exact .inl ⟨p,ys,rfl,.inr h.sq,q _ _ (af.refl _) (by rw[←rs.length];exact cv)⟩
   · split at e
     · cases e
       exact .inr ⟨_,by rw[dG r],by assumption,q _ _ (af.refl _) cv⟩
     ·cases e
   ·cases e
 ·cases e
theorem GJ:eE M (g1 pk) (fun xs H Q=>(∃i,xs=[.int i]∧Q (.int i) H)∨∃k,xs=[.bl k]∧Q (.int (if k then 1 else 0)) H):=by
 intro F H xs as d Q tr rs e q
 unfold g1 at e
 split at e
 · obtain⟨x,rfl,r⟩:=rs.one
   unfold pk at e
   split at e
   ·cases e;exact .inl ⟨_,by rw[aU r],q _ _ (af.refl _) cv⟩
   ·cases e;exact .inr ⟨_,by rw[cS r],q _ _ (af.refl _) cv⟩
   ·cases e
 ·cases e
theorem oA:eE M (g1 eB) (fun xs H Q=>∃p ys,xs=[.ref p]∧(aN M.K H p ys∨aW M.K H p ys)∧∀l,H l=none→Q (.ref l) (upd H l (.lst ys))):=by
 intro F H xs as d Q tr rs e q
 unfold g1 at e
 split at e
 · obtain⟨x,rfl,r⟩:=rs.one
   unfold eB at e
   split at e
   · cases e
     simp only[Rep]at r
     obtain⟨p,ys,rfl,h,rs⟩:=r
     exact⟨p,ys,rfl,.inl h.sq,fun l hl=>q _ _ (af.bI hl _) (gp tr hl rs)⟩
   · cases e
     simp only[Rep]at r
     obtain⟨p,ys,rfl,h,rs⟩:=r
     exact⟨p,ys,rfl,.inr h.sq,fun l hl=>q _ _ (af.bI hl _) (gp tr hl rs)⟩
   ·cases e
 ·cases e
theorem oR:eE M (g1 ko) (fun xs H Q=>∃p ys,xs=[.ref p]∧((aN M.K H p ys∧∀l,H l=none→Q (.ref l) (upd H l (.tup ys)))∨(aW M.K H p ys∧Q (.ref p) H))):=by
 intro F H xs as d Q tr rs e q
 unfold g1 at e
 split at e
 · obtain⟨x,rfl,r⟩:=rs.one
   unfold ko at e
   split at e
   · cases e
     simp only[Rep]at r
     obtain⟨p,ys,rfl,h,rs⟩:=r
     exact⟨p,ys,rfl,.inl ⟨h.sq,fun l hl=>q _ _ (af.bI hl _) (gI tr hl rs)⟩⟩
   · cases e
     have r':=r
     simp only[Rep]at r
     obtain⟨p,ys,rfl,h,rs⟩:=r
     exact⟨p,ys,rfl,.inr ⟨h.sq,q _ _ (af.refl _) r'⟩⟩
   ·cases e
 ·cases e
end
section
variable{X:Cx}{M:Md}{H H':Hp}{F:Addr→Prop}{σ:L2.St}{ρ:En}{pos:Pos}{pins:List (Addr×Obj)}{s:Shared}
mutual
noncomputable def pyd:D→PyData
 |.av=>.none
 |.bl b=>.bool b
 |.int i=>.int i
 |.str x=>.str x
 |.tup xs=>.tuple (dv xs)
 |.lst xs=>.list (dv xs)
 |.aC _ _=>.dict []
 |.cm _ _ _=>.dict []
noncomputable def dv:List D→List PyData
 |[]=>[]
 |x::xs=>pyd x::dv xs
end
mutual
theorem o7:∀(a b:D),lay a=true→lay b=true→PyData.eqv (pyd a) (pyd b)=bw a b
 |.av,b,_,hb=>by cases b<;>first|rfl|(simp[lay]at hb)
 |.bl _,b,_,hb=>by cases b<;>first|rfl|(simp[lay]at hb)
 |.int _,b,_,hb=>by cases b<;>first|rfl|(simp[lay]at hb)
 | .str x,b,_,hb=>by
   cases b with
   |str y=>show(x==y)=decide (x=y);rw[Bool.eq_iff_iff,beq_iff_eq,decide_eq_true_eq]
   |_=>first|rfl|(simp[lay]at hb)
 | .tup xs,b,ha,hb=>by
   cases b with
   |tup ys=>simp only[lay]at ha hb;exact o9 xs ys ha hb
   |_=>first|rfl|(simp[lay]at hb)
 | .lst xs,b,ha,hb=>by
   cases b with
   |lst ys=>simp only[lay]at ha hb;exact o9 xs ys ha hb
   |_=>first|rfl|(simp[lay]at hb)
 |.aC _ _,_,ha,_=>by simp[lay]at ha
 |.cm _ _ _,_,ha,_=>by simp[lay]at ha
theorem o9:∀(a b:List D),cJ a=true→cJ b=true→PyData.eqvAll (dv a) (dv b)=gR a b
 |[],[],_,_=>rfl
 |[],_::_,_,_=>rfl
 |_::_,[],_,_=>rfl
 | x::xs,y::ys,ha,hb=>by
   simp only[cJ,Bool.and_eq_true]at ha hb
   show(PyData.eqv (pyd x) (pyd y)&&PyData.eqvAll (dv xs) (dv ys))=(bw x y&&gR xs ys)
   rw[o7 x y ha.1 hb.1,o9 xs ys ha.2 hb.2]
end
mutual
theorem ky:∀a:D,lay a=true→(pyd a).canLay0=true
 |.av,_=>rfl
 |.bl _,_=>rfl
 |.int _,_=>rfl
 |.str x,h=>by simp only[lay]at h;exact h
 |.tup xs,h=>by simp only[lay]at h;exact nq xs h
 |.lst xs,h=>by simp only[lay]at h;exact nq xs h
 |.aC _ _,h=>by simp[lay]at h
 |.cm _ _ _,h=>by simp[lay]at h
theorem nq:∀a:List D,cJ a=true→PyData.canLayAll0 (dv a)=true
 |[],_=>rfl
 | x::xs,h=>by
   simp only[cJ,Bool.and_eq_true]at h
   show((pyd x).canLay0&&PyData.canLayAll0 (dv xs))=true
   rw[ky x h.1,nq xs h.2];rfl
end
mutual
theorem kH:∀a:D,lay a=true→(pyd a).depth=dep a
 |.av,_=>rfl
 |.bl _,_=>rfl
 |.int _,_=>rfl
 |.str _,_=>rfl
 |.tup xs,h=>by simp only[lay]at h;show PyData.depthAll (dv xs)+1=_;rw[mV xs h];simp only[dep]
 |.lst xs,h=>by simp only[lay]at h;show PyData.depthAll (dv xs)+1=_;rw[mV xs h];simp only[dep]
 |.aC _ _,h=>by simp[lay]at h
 |.cm _ _ _,h=>by simp[lay]at h
theorem mV:∀a:List D,cJ a=true→PyData.depthAll (dv a)=gi a
 |[],_=>rfl
 | x::xs,h=>by
   simp only[cJ,Bool.and_eq_true]at h
   show max (pyd x).depth (PyData.depthAll (dv xs))=_
   rw[kH x h.1,mV xs h.2];simp only[gi]
end
mutual
theorem jG(I:Inv X pins σ H s):∀ {a:D} {x:V} {u:Value},lay a=true→Rep (aj X) H F a x→RelV x u→∃as,Reads s.heap u (pyd a) as
 |.av,_,_,_,r,rx=>by cases nz r;cases rx;exact⟨_,.none⟩
 |.bl b,_,_,_,r,rx=>by cases cS r;cases rx;exact⟨_,.bool b⟩
 |.int i,_,_,_,r,rx=>by cases aU r;obtain⟨t,rfl⟩:=rx;exact⟨_,.int i t⟩
 |.str z,_,_,_,r,rx=>by cases dG r;obtain⟨t,rfl⟩:=rx;exact⟨_,.str z t⟩
 | .tup ds,_,_,h,r,rx=>by
   simp only[lay]at h
   simp only[Rep]at r
   obtain⟨p,xs,rfl,t,rs⟩:=r
   cases rx
   obtain⟨its,rv,⟨o,e,c,n,d⟩,_⟩:=hW I t
   obtain⟨as,ra⟩:=pj I h rs rv
   exact⟨_,.tuple e c d (by simpa using ra)⟩
 | .lst ds,_,_,h,r,rx=>by
   simp only[lay]at h
   simp only[Rep]at r
   obtain⟨p,xs,rfl,t,rs⟩:=r
   cases rx
   obtain⟨its,n,sl,rv,e,_⟩:=jn I t
   obtain⟨as,ra⟩:=pj I h rs rv
   exact⟨_,.list e rfl rfl (by simpa using ra)⟩
 |.aC _ _,_,_,h,_,_=>by simp[lay]at h
 |.cm _ _ _,_,_,h,_,_=>by simp[lay]at h
theorem pj(I:Inv X pins σ H s):∀ {as:List D} {xs:List V} {us:List Value},cJ as=true→ae (aj X) H F as xs→Vals xs us→∃bs,ReadsAll s.heap us (dv as) bs
 |[],_,_,_,r,rv=>by simp only[ae]at r;subst r;cases rv;exact⟨_,.nil⟩
 | a::as,_,_,h,r,rv=>by
   simp only[cJ,Bool.and_eq_true]at h
   simp only[ae]at r
   obtain⟨x,t,rfl,r1,r2⟩:=r
   cases rv with
   | cons q w=>
     obtain⟨bs,h1⟩:=jG I h.1 r1 q
     obtain⟨cs,h2⟩:=pj I h.2 r2 w
     exact⟨_,.cons h1 h2⟩
end
theorem Cc(l:Addr)(es:Array DictEntry)(n:Nat)(dd:Option Addr)(sl:Array (Option Value))(b:Str)(u:Tok):
   Meets (Builtin.«dict.__eq__» ⟨[.ref l,.str b u],[]⟩) (fun _ R s=>s.heap.get? l=some {cls:=.type "dict",dict:=dd,data:=.dict es n,slots:=sl}∧R (.ok (.ret .notImplemented)) s):=
 .of_wp fun prog w A R s h=>by obtain⟨hp,g,d,tk,os⟩:=s;obtain⟨hl,h⟩:=h;have f1:=F.sub_str_dict;wp_walk;exact⟨_,rfl,h⟩
theorem wU(b:Str)(u:Tok)(l:Addr)(es:Array DictEntry)(n:Nat)(dd:Option Addr)(sl:Array (Option Value)):
   Meets (Builtin.«str.__eq__» ⟨[.str b u,.ref l],[]⟩) (fun _ R s=>s.heap.get? l=some {cls:=.type "dict",dict:=dd,data:=.dict es n,slots:=sl}∧R (.ok (.ret .notImplemented)) s):=
 .of_wp fun prog w A R s h=>by obtain⟨hp,g,d,tk,os⟩:=s;obtain⟨hl,h⟩:=h;wp_walk using AutoSeq1.wpAny_loadPart' hl,wpAny_load hl;exact⟨_,rfl,h⟩
theorem CQ{A:Around}{l:Addr}{o:Obj}{es:Array DictEntry}{n:Nat}(b:Str)(u:Tok)(ho:s.heap.get? l=some o)(hc:o.cls=.type "dict")(hd:o.data=.dict es n)(hu:A.units<cLine):SeqAt.RcAt A s (.ref l) (.str b u) false:=fun prog w E Q h=>by
 obtain⟨cls,dd,data,sl⟩:=o
 simp only at hc hd
 subst hc hd
 exact SeqAt.rc_eq_decline_or (k:=false) ⟨_,ho,rfl⟩ (typeIs_str s b u) (by decide) F.sub_str_dict F.slot_dict_eq F.slot_str_eq_refl
   (fun _ hq=>call_meets F.slot_dict_eq ⟨_,ho,rfl⟩ F.entry_dict_eq (F.args_dict_eq_2 _ _) (Cc l es n dd sl b u) ⟨ho,hq⟩)
   (fun _ hq=>call_meets F.slot_str_eq_refl (typeIs_str s b u) F.entry_str_eq (F.args_str_eq_2 _ _) (wU b u l es n dd sl) ⟨ho,hq⟩)
   (fun _ hq=>wpAny_of_eq (rfl:isSame (.ref l) (.str b u)=pure false) hq) (.inr hu) h
theorem gY{a:Addr}{kvs:List (Key×V)}(I:Inv X pins σ H s)(h:fU (aj X) H F a kvs):kvs.length≤sizeLine∧(a==sysModules)=false∧∃vs,L2.KV kvs vs∧s.heap.DictOf (L2.bt X.prog X.w) a vs:=by
 rcases h with⟨_,ob,h⟩|⟨o,es,ep,vs,h1,h2,h3,h4,h5,h6,h7,h8,h9⟩
 ·exact L2.oW I.au (.inr ⟨ob,h⟩)
 ·exact⟨h8,h9,vs,h7,o,es,ep,I.cx a o h1,h2,h3,h4,h5,h6⟩
noncomputable def ui(M:Md):R2:=fun x y H Q=>∃F a b,Rep M H F a x∧Rep M H F b y∧cR a b=true∧Q (.bl (bw a b)) H
noncomputable def tm(M:Md):R2:=fun x y H Q=>∃F a b,Rep M H F a x∧Rep M H F b y∧dM a b=true∧Q (.bl (!bw a b)) H
theorem str_beq(a b:Str):(a==b)=decide (a=b):=by rw[Bool.eq_iff_iff,beq_iff_eq,decide_eq_true_eq]
theorem zi{A:Around}{a b:D}{x y:V}{u v:Value}(fa:flat a=true)(fb:flat b=true)(ra:Rep M H F a x)(rb:Rep M H F b y)(rx:RelV x u)(ry:RelV y v):SeqAt.RcAt A s u v (bw a b):=by
 cases a<;>(try cases fa)<;>cases b<;>(try cases fb)<;>simp only[Rep]at ra rb<;>subst ra<;>subst rb
 ·cases rx;cases ry;exact SeqAt.RcAt.none_none
 ·cases rx;cases ry;exact SeqAt.RcAt.none_bool _
 ·cases rx;obtain⟨t,rfl⟩:=ry;exact SeqAt.RcAt.none_int _ _
 ·cases rx;obtain⟨t,rfl⟩:=ry;exact SeqAt.RcAt.none_str _ _
 ·cases rx;cases ry;exact SeqAt.RcAt.bool_none _
 ·cases rx;cases ry;exact SeqAt.RcAt.bool_bool _ _
 ·cases rx;obtain⟨t,rfl⟩:=ry;exact SeqAt.RcAt.bool_int _ _ _
 ·cases rx;obtain⟨t,rfl⟩:=ry;exact SeqAt.RcAt.bool_str _ _ _
 ·obtain⟨t,rfl⟩:=rx;cases ry;exact SeqAt.RcAt.int_none _ _
 ·obtain⟨t,rfl⟩:=rx;cases ry;exact SeqAt.RcAt.int_bool _ _ _
 ·obtain⟨t,rfl⟩:=rx;obtain⟨t,rfl⟩:=ry;exact SeqAt.RcAt.int_int _ _ _ _
 ·obtain⟨t,rfl⟩:=rx;obtain⟨t,rfl⟩:=ry;exact SeqAt.RcAt.int_str _ _ _ _
 ·obtain⟨t,rfl⟩:=rx;cases ry;exact SeqAt.RcAt.str_none _ _
 ·obtain⟨t,rfl⟩:=rx;cases ry;exact SeqAt.RcAt.str_bool _ _ _
 ·obtain⟨t,rfl⟩:=rx;obtain⟨t,rfl⟩:=ry;exact SeqAt.RcAt.str_int _ _ _ _
 ·obtain⟨t,rfl⟩:=rx;obtain⟨t,rfl⟩:=ry;simp only[bw];rw[←str_beq];exact SeqAt.RcAt.str_str _ _ _ _
theorem y8{A:Around}{a b:D}{x y:V}{u v:Value}(fa:flat a=true)(fb:flat b=true)(ra:Rep M H F a x)(rb:Rep M H F b y)(rx:RelV x u)(ry:RelV y v):SeqAt.RcNeAt A s u v (!bw a b):=by
 cases a<;>(try cases fa)<;>cases b<;>(try cases fb)<;>simp only[Rep]at ra rb<;>subst ra<;>subst rb
 ·cases rx;cases ry;exact SeqAt.RcNeAt.none_none
 ·cases rx;cases ry;exact SeqAt.RcNeAt.none_bool _
 ·cases rx;obtain⟨t,rfl⟩:=ry;exact SeqAt.RcNeAt.none_int _ _
 ·cases rx;obtain⟨t,rfl⟩:=ry;exact SeqAt.RcNeAt.none_str _ _
 ·cases rx;cases ry;exact SeqAt.RcNeAt.bool_none _
 ·cases rx;cases ry;exact SeqAt.RcNeAt.bool_bool _ _
 ·cases rx;obtain⟨t,rfl⟩:=ry;exact SeqAt.RcNeAt.bool_int _ _ _
 ·cases rx;obtain⟨t,rfl⟩:=ry;exact SeqAt.RcNeAt.bool_str _ _ _
 ·obtain⟨t,rfl⟩:=rx;cases ry;exact SeqAt.RcNeAt.int_none _ _
 ·obtain⟨t,rfl⟩:=rx;cases ry;exact SeqAt.RcNeAt.int_bool _ _ _
 ·obtain⟨t,rfl⟩:=rx;obtain⟨t,rfl⟩:=ry;exact SeqAt.RcNeAt.int_int _ _ _ _
 ·obtain⟨t,rfl⟩:=rx;obtain⟨t,rfl⟩:=ry;exact SeqAt.RcNeAt.int_str _ _ _ _
 ·obtain⟨t,rfl⟩:=rx;cases ry;exact SeqAt.RcNeAt.str_none _ _
 ·obtain⟨t,rfl⟩:=rx;cases ry;exact SeqAt.RcNeAt.str_bool _ _ _
 ·obtain⟨t,rfl⟩:=rx;obtain⟨t,rfl⟩:=ry;exact SeqAt.RcNeAt.str_int _ _ _ _
 ·obtain⟨t,rfl⟩:=rx;obtain⟨t,rfl⟩:=ry;simp only[bw];rw[←str_beq];exact SeqAt.RcNeAt.str_str _ _ _ _
theorem AI(ds:List D):((List.range (min ds.length 0)).all (fun _=>true)&&(ds.length==0))=bw (.tup ds) (.tup []):=by
 cases ds<;>simp
theorem pX{A:Around}{ds:List D}{x y:V}{u v:Value}(I:Inv X pins σ H s)(hu:A.units<cLine)(ra:Rep (aj X) H F (.tup ds) x)(rb:Rep (aj X) H F (.tup []) y)(rx:RelV x u)(ry:RelV y v):
   SeqAt.RcAt A s u v (bw (.tup ds) (.tup []))∧SeqAt.RcNeAt A s u v (!bw (.tup ds) (.tup [])):=by
 simp only[Rep]at ra rb
 obtain⟨p,xs,rfl,h,rs⟩:=ra
 obtain⟨p2,xs2,rfl,h2,rs2⟩:=rb
 cases rx
 cases ry
 simp only[ae]at rs2
 subst rs2
 obtain⟨its,rv,⟨o,e,c,n,d⟩,_⟩:=hW I h
 obtain⟨its2,rv2,⟨o2,e2,c2,n2,d2⟩,_⟩:=hW I h2
 cases rv2
 have hl:its.toArray.size=ds.length:=by rw[List.size_toArray, ←rv.length, ←rs.length]
 have z1:=SeqAt.RcAt.tuples (A:=A) (s:=s) (e:=fun _=>true) (l:=p) (b:=p2) ⟨o,e,c,n,d⟩ ⟨o2,e2,c2,n2,d2⟩ hu (fun j _ h2=>by simp at h2)
 have z2:=SeqAt.RcNeAt.tuples (A:=A) (s:=s) (e:=fun _=>true) (l:=p) (b:=p2) ⟨o,e,c,n,d⟩ ⟨o2,e2,c2,n2,d2⟩ hu (fun j _ h2=>by simp at h2)
 rw[←AI]
 rw[hl]at z1 z2
 exact⟨z1,z2⟩
theorem de(hu:X.A.units+64<cLine):aD X (compareOp .NotEq) (tm (aj X)):=by
 intro pins s σ H x y v u Q I rx ry h
 obtain⟨F,a,b,ra,rb,ok,q⟩:=h
 have fin:EP X pins σ Q (.bool (!bw a b)) s:=⟨.bl _,H,I,rfl,q⟩
 unfold dM at ok
 rw[Bool.or_eq_true,Bool.or_eq_true,Bool.and_eq_true]at ok
 rcases ok with(⟨fa,fb⟩|t)|l
 ·exact y8 fa fb ra rb rx ry _ _ _ _ fin
 · unfold mW at t
   split at t
   ·exact(pX I (by omega) ra rb rx ry).2 _ _ _ _ fin
   ·cases t
 · rw[Bool.and_eq_true,Bool.and_eq_true,decide_eq_true_eq]at l
   obtain⟨⟨la,lb⟩,hd⟩:=l
   obtain⟨as,h1⟩:=jG I la ra rx
   obtain⟨bs,h2⟩:=jG I lb rb ry
   refine SeqAt.compareNe_reads h1 h2 (ky a la) (ky b lb) (by rw[kH a la,kH b lb];omega) ?_
   rw[o7 a b la lb]
   exact fin
theorem fq(hu:X.A.units+64<cLine):aD X (compareOp .Eq) (ui (aj X)):=by
 intro pins s σ H x y v u Q I rx ry h
 obtain⟨F,a,b,ra,rb,ok,q⟩:=h
 have fin:EP X pins σ Q (.bool (bw a b)) s:=⟨.bl _,H,I,rfl,q⟩
 unfold cR at ok
 rw[Bool.or_eq_true]at ok
 rcases ok with ok|dc
 · unfold dM at ok
   rw[Bool.or_eq_true,Bool.or_eq_true,Bool.and_eq_true]at ok
   rcases ok with(⟨fa,fb⟩|t)|l
   ·exact zi fa fb ra rb rx ry _ _ _ _ fin
   · unfold mW at t
     split at t
     ·exact(pX I (by omega) ra rb rx ry).1 _ _ _ _ fin
     ·cases t
   · rw[Bool.and_eq_true,Bool.and_eq_true,decide_eq_true_eq]at l
     obtain⟨⟨la,lb⟩,hd⟩:=l
     obtain⟨as,h1⟩:=jG I la ra rx
     obtain⟨bs,h2⟩:=jG I lb rb ry
     refine SeqAt.compareEq_reads h1 h2 (ky a la) (ky b lb) (by rw[kH a la,kH b lb];omega) ?_
     rw[o7 a b la lb]
     exact fin
 · unfold qO at dc
   split at dc
   · cases dG rb
     obtain⟨t,rfl⟩:=ry
     simp only[Rep]at ra
     obtain⟨p,xs,rfl,h,_⟩:=ra
     cases rx
     obtain⟨_,_,vs,_,o,es,ep,e1,e2,e3,_⟩:=gY I h
     exact CQ _ t e1 e2.1 e3 (by omega) _ _ _ _ fin
   ·cases dc
theorem fP:bh M oEq (ui M):=by
 intro F H x y a b d Q tr ra rb e q
 unfold oEq at e
 split at e
 ·cases e;exact⟨F,a,b,ra,rb,by assumption,q _ _ (af.refl _) bW⟩
 ·cases e
theorem cX:bh M bz (tm M):=by
 intro F H x y a b d Q tr ra rb e q
 unfold bz at e
 split at e
 ·cases e;exact⟨F,a,b,ra,rb,by assumption,q _ _ (af.refl _) bW⟩
 ·cases e
theorem iP:d6 oEq:=fun a b d h=>by unfold oEq at h;split at h<;>cases h;exact⟨_,rfl⟩
theorem dq:d6 bz:=fun a b d h=>by unfold bz at h;split at h<;>cases h;exact⟨_,rfl⟩
theorem sF:d6 oLt:=fun a b d h=>by unfold oLt at h;split at h<;>cases h;exact⟨_,rfl⟩
theorem pR:d6 oLe:=fun a b d h=>by unfold oLe at h;split at h<;>cases h;exact⟨_,rfl⟩
theorem jY:d6 eS:=fun a b d h=>by unfold eS at h;split at h<;>cases h;exact⟨_,rfl⟩
theorem BE:bootBuiltins "isinstance"=some (.builtin "isinstance"):=by decide+kernel
theorem cG:bootBuiltins "len"=some (.builtin "len"):=by decide+kernel
theorem lT:bootBuiltins "all"=some (.builtin "all"):=by decide+kernel
theorem nW:bootBuiltins "int"=some (.type "int"):=by decide+kernel
theorem rK:bootBuiltins "bool"=some (.type "bool"):=by decide+kernel
theorem gf:bootBuiltins "list"=some (.type "list"):=by decide+kernel
theorem jE:bootBuiltins "tuple"=some (.type "tuple"):=by decide+kernel
theorem wq:bootBuiltins "dict"=some (.type "dict"):=by decide+kernel
noncomputable def jx:Ty→String
 |.int=>"int"|.bool=>"bool"|.str=>"str"|.tuple=>"tuple"|.list=>"list"|.dict=>"dict"
theorem wN:bp X (.builtin "isinstance") (fun xs H Q=>∃F d x b ty,xs=[x,.ty (jx ty)]∧Rep (aj X) H F d x∧dh ty d=.ok (.bl b)∧(∀c ns vs,d≠.cm c ns vs)∧Q (.bl b) H):=by
 intro pins s σ H xs us Q I r h
 obtain⟨F,d,x,b,ty,rfl,rd,e,ne,q⟩:=h
 obtain⟨u,w,rfl,ru,rw'⟩:=L2.vals2 r
 cases (show w=Value.type (jx ty)from rw')
 have fin:∀tk,EP X pins σ Q (.bool b) {s with toks:=tk}:=fun tk=>⟨.bl _,H,I.tok tk,rfl,q⟩
 cases d with
 |av=>cases nz rd;cases ru;cases ty<;>cases e<;>exact PySem.W.kia_one PySem.W.kitx_none I.cx True.intro rfl (fun z=>nomatch z) fin
 |bl y=>cases cS rd;cases ru;cases ty<;>cases e<;>exact PySem.W.kia_one PySem.W.kitx_bool I.cx True.intro rfl (fun z=>nomatch z) fin
 |int i=>cases aU rd;obtain⟨t,rfl⟩:=ru;cases ty<;>cases e<;>exact PySem.W.kia_one PySem.W.kitx_int I.cx True.intro rfl (fun z=>nomatch z) fin
 |str z=>cases dG rd;obtain⟨t,rfl⟩:=ru;cases ty<;>cases e<;>exact PySem.W.kia_one PySem.W.kitx_str I.cx True.intro rfl (fun z=>nomatch z) fin
 | tup ds=>
   simp only[Rep]at rd
   obtain⟨p,xs,rfl,h,_⟩:=rd
   cases ru
   obtain⟨its,_,⟨o,h1,h2,_⟩,_⟩:=hW I h
   cases ty<;>cases e<;>exact PySem.W.kia_one PySem.W.kitx_tuple I.cx ⟨o,h1,h2⟩ rfl (fun z=>nomatch z) fin
 | lst ds=>
   simp only[Rep]at rd
   obtain⟨p,xs,rfl,h,_⟩:=rd
   cases ru
   obtain⟨its,n,sl,_,h1,_⟩:=jn I h
   cases ty<;>cases e<;>exact PySem.W.kia_one PySem.W.kitx_list I.cx ⟨_,h1,rfl⟩ rfl (fun z=>nomatch z) fin
 | aC ks ds=>
   simp only[Rep]at rd
   obtain⟨p,xs,rfl,h,_⟩:=rd
   cases ru
   obtain⟨_,_,vs,_,o,es,ep,e1,e2,e3,_⟩:=gY I h
   cases ty<;>cases e<;>exact PySem.W.kia_one PySem.W.kitx_dict I.cx ⟨o,e1,e2.1⟩ rfl (fun z=>nomatch z) fin
 |cm c ns vs=>exact absurd rfl (ne _ _ _)
theorem FW{ty:Ty}{d r:D}(h:dh ty d=.ok r):∃b,r=.bl b:=by
 unfold dh at h
 split at h<;>cases h<;>exact⟨_,rfl⟩
theorem ya(ty:Ty){a:Expr}{fa:Ex}{p p2:Pos}{T:Str}(ha:JE X a fa)(hg:L2.Gl X "isinstance")(hm:X.mg "isinstance"=none)(hgT:L2.Gl X T)(hmT:X.mg T=none)(hvT:bootBuiltins T=some (.type (jx ty)))
   (hs:starEach [a,.Name T p2] X.env=(false,eval a X.env)::starEach [.Name T p2] X.env:=by rfl) (hs2:starEach [.Name T p2] X.env=(false,eval (.Name T p2) X.env)::starEach [] X.env:=by rfl)
   (hnT:T≠"__name__":=by decide) (hdT:(T==("__debug__":Str))=false:=by decide):JE X (.Call (.Name "isinstance" p) [a,.Name T p2] [] pos) (e1 (dh ty) fa):=
 bj (L2.jT wN hg hm BE (L2.gx ha (L2.gx (L2.Dh (v:=.ty (jx ty)) hgT hmT hvT rfl hnT hdT) L2.ic hs2) hs) (by decide) (by decide) hs (by rw[hs2];rfl)) fun σ H Q ⟨ρ,F,d,hr,e,q⟩=>by
   obtain⟨a,ea,e⟩:=ah.mp e
   obtain⟨b,rfl⟩:=FW e
   refine⟨ρ,F,a,hr,ea,fun x H1 s1 rx=>⟨F,a,x,b,ty,rfl,rx,e,?_,q _ _ s1 bW⟩⟩
   intro c ns vs h
   subst h
   cases ty<;>cases e
end
open L2 (PG cB TG)
structure aP(M:Md)(G:Hp)(F0:Addr→Prop)(H:Hp)(F:Addr→Prop)(σ:L2.St)(ρ:En):Prop where
 rs:bb M H F σ ρ
 sm:af G H
 sub:∀a,F0 a→F a
 d7:∀a,F0 a→∃o,G a=some o
 own:∀(i:Nat) a,bx ρ i→σ[i]? =some (some (.ref a))→G a=none
 fV:∀(i:Nat) xss b,ρ[i]? =some (.on xss)→fK H σ i b→G b=none
noncomputable def jR(M:Md)(G:Hp)(F0:Addr→Prop)(H:Hp)(F:Addr→Prop)(D:Ends):Fl→Prop
 |.next ρ'=>∀σ' H' F',Mv F H F' H'→aP M G F0 H' F' σ' ρ'→D.nx σ' H'
 |.brk ρ'=>∀σ' H' F',Mv F H F' H'→aP M G F0 H' F' σ' ρ'→D.bk σ' H'
 |.cont ρ'=>∀σ' H' F',Mv F H F' H'→aP M G F0 H' F' σ' ρ'→D.ct σ' H'
 |.ret d=>∀v H' F',Mv F H F' H'→af G H'→(∀a,F0 a→F' a)→Rep M H' F' d v→D.rt v H'
 |.cq d=>∀p H' F' xs ds,d=.lst ds→Mv F H F' H'→af G H'→(∀a,F0 a→F' a)→H' p=none→ae M H' F' ds xs→D.rt (.ref p) (upd H' p (.lst xs))
noncomputable def dS(M:Md)(G:Hp)(F0:Addr→Prop)(f:Sm):TS:=fun D σ H=>∃ρ F fl,aP M G F0 H F σ ρ∧f ρ=.ok fl∧jR M G F0 H F D fl
noncomputable abbrev JS(X:Cx)(st:Stmt)(f:Sm):Prop:=∀F0,PS X st (dS (aj X) X.cY F0 f)
noncomputable abbrev cT(X:Cx)(sts:List Stmt)(f:Sm):Prop:=∀F0,bJ X sts (dS (aj X) X.cY F0 f)
theorem cb{X:Cx}{e:Stmt}{t t':TS}(h:PS X e t')(hi:∀D σ H,t D σ H→t' D σ H):PS X e t:=fun pins s σ H Q I q=>h pins s σ H Q I (hi Q σ H q)
theorem lN{X:Cx}{e:List Stmt}{t t':TS}(h:bJ X e t')(hi:∀D σ H,t D σ H→t' D σ H):bJ X e t:=fun pins s σ H Q I q=>h pins s σ H Q I (hi Q σ H q)
theorem Mv.refl{F:Addr→Prop}{H:Hp}:Mv F H F H:=fun _ _ n e=>⟨n,e⟩
section
variable{X:Cx}{M:Md}{G H H':Hp}{F0 F F':Addr→Prop}{σ:L2.St}{ρ:En}{pos:Pos}{DE:Ends}
theorem aP.same(r:aP M G F0 H F σ ρ)(h:af H H'):aP M G F0 H' F σ ρ:=⟨r.rs.same h,r.sm.trans h,r.sub,r.d7,r.own,fun i xss b e hb=>r.fV i xss b e (r.rs.on.back e rfl (fun a u _ _ hu=>h _ _ hu) hb)⟩
theorem jR.mv(m:Mv F H F' H'):∀ {fl:Fl},jR M G F0 H F DE fl→jR M G F0 H' F' DE fl
 |.next _,h=>fun σ' H2 F2 m2 r=>h σ' H2 F2 (m.trans m2) r
 |.brk _,h=>fun σ' H2 F2 m2 r=>h σ' H2 F2 (m.trans m2) r
 |.cont _,h=>fun σ' H2 F2 m2 r=>h σ' H2 F2 (m.trans m2) r
 |.ret _,h=>fun σ' H2 F2 m2 a b r=>h σ' H2 F2 (m.trans m2) a b r
 |.cq _,h=>fun p H2 F2 xs ds e m2 a b c r=>h p H2 F2 xs ds e (m.trans m2) a b c r
theorem qJ:cT X [] (aJ []):=fun F0=>lN L2.p9 fun D σ H ⟨ρ,F,fl,r,e,q⟩=>by
 cases e
 exact q σ H F Mv.refl r
theorem BK:cT X [] ba:=qJ
theorem AY{f g:Sm}{t u:TS}(hf:∀D σ H,dS M G F0 f D σ H→t D σ H)(hg:∀D σ H,dS M G F0 g D σ H→u D σ H)(D:Ends)(σ:L2.St)(H:Hp)(h:dS M G F0 (oY f g) D σ H):L2.sx t u D σ H:=by
 obtain⟨ρ,F,fl,r,e,q⟩:=h
 obtain⟨f1,e1,e⟩:=ah.mp e
 refine hf _ _ _ ⟨ρ,F,f1,r,e1,?_⟩
 cases f1 with
 |next ρ1=>exact fun σ1 H1 F1 m1 r1=>hg D σ1 H1 ⟨ρ1,F1,fl,r1,e,q.mv m1⟩
 |ret d=>cases e;exact q
 |brk d=>cases e;exact q
 |cont d=>cases e;exact q
 |cq d=>cases e;exact q
theorem vH{st:Stmt}{rest:List Stmt}{f:Sm}{fs:List Sm}(h1:JS X st f)(h2:cT X rest (aJ fs)):cT X (st::rest) (aJ (f::fs)):=fun F0=>
 lN (L2.qV (h1 F0) (h2 F0)) fun D σ H h=>AY (fun _ _ _ h=>h) (fun _ _ _ h=>h) D σ H h
theorem EA{st:Stmt}{f:Sm}(h:JS X st f):cT X [st] f:=fun F0=>L2.uj (h F0)
theorem yn{c:Expr}{a b:List Stmt}{fc:aG}{fa fb:Sm}(hc:JT X c fc)(ha:cT X a fa)(hb:cT X b fb):JS X (.If c a b pos) (aZ fc fa fb):=fun F0=>
 cb (L2.rF hc (ha F0) (hb F0)) fun D σ H ⟨ρ,F,fl,r,e,q⟩=>by
   obtain⟨t,et,e⟩:=ah.mp e
   refine⟨ρ,F,t,r.rs,et,fun H1 s1=>?_⟩
   split at e
   ·rename_i h;rw[if_pos h];exact⟨ρ,F,fl,r.same s1,e,q.mv (.same s1)⟩
   ·rename_i h;rw[if_neg h];exact⟨ρ,F,fl,r.same s1,e,q.mv (.same s1)⟩
theorem CB{a:Expr}{fa:Ex}(ha:JE X a fa):JS X (.Return (some a) pos) (az fa):=fun F0=>
 cb (L2.kL ha) fun D σ H ⟨ρ,F,fl,r,e,q⟩=>by
   obtain⟨d,ed,e⟩:=ah.mp e
   cases e
   exact⟨ρ,F,d,r.rs,ed,fun v H1 s1 rv=>q v H1 F (.same s1) (r.sm.trans s1) r.sub rv⟩
theorem FE{st:Stmt}:JS X st mX:=fun F0=>cb L2.Cg fun D σ H ⟨ρ,F,fl,r,e,q⟩=>by cases e
noncomputable def oE(M:Md)(G:Hp)(F0:Addr→Prop)(g:bN):TG:=fun v σ H Q=>∃ρ F d ρ',aP M G F0 H F σ ρ∧Rep M H F d v∧g d ρ=.ok ρ'∧∀σ',aP M G F0 H F σ' ρ'→Q σ' H
noncomputable def nB(M:Md)(G:Hp)(F0:Addr→Prop)(g:List D→En→R En):L2.e8:=fun vs σ H Q=>∃ρ F ds ρ',aP M G F0 H F σ ρ∧ae M H F ds vs∧g ds ρ=.ok ρ'∧∀σ',aP M G F0 H F σ' ρ'→Q σ' H
noncomputable abbrev JG(X:Cx)(e:Expr)(g:bN):Prop:=∀F0,PG X e (oE (aj X) X.cY F0 g)
noncomputable abbrev jL(X:Cx)(es:List Expr)(g:List D→En→R En):Prop:=∀F0,cB X es (nB (aj X) X.cY F0 g)
theorem pS{X:Cx}{e:Expr}{t t':TG}(h:PG X e t')(hi:∀v σ H Q,t v σ H Q→t' v σ H Q):PG X e t:=fun pins s σ H x u Q I rx q=>h pins s σ H x u Q I rx (hi x σ H Q q)
theorem sJ{X:Cx}{e:List Expr}{t t':L2.e8}(h:cB X e t')(hi:∀v σ H Q,t v σ H Q→t' v σ H Q):cB X e t:=fun pins s σ H x u Q I rx q=>h pins s σ H x u Q I rx (hi x σ H Q q)
theorem bx.eA{ρ:En}{i j:Nat}{d:D}(h:bx (ρ.set i (.sh d)) j):i≠j∧bx ρ j:=by
 rcases h with⟨ds,q⟩|⟨ks,ds,q⟩
 · rcases get_set q with⟨_,x,_⟩|⟨hne,q⟩
   ·cases x
   ·exact⟨hne,.inl ⟨ds,q⟩⟩
 · rcases get_set q with⟨_,x,_⟩|⟨hne,q⟩
   ·cases x
   ·exact⟨hne,.inr ⟨ks,ds,q⟩⟩
theorem aP.iF{i:Nat}{d:D}{v:V}(r:aP M G F0 H F σ ρ)(h:Rep M H F d v):aP M G F0 H F (σ.set i (some v)) (ρ.set i (.sh d)) where
 rs:=r.rs.iF h
 sm:=r.sm
 sub:=r.sub
 d7:=r.d7
 own j a o e:=by
   obtain⟨ne,o⟩:=o.eA
   rw[List.getElem?_set_ne ne]at e
   exact r.own j a o e
 fV j xss b e hb:=by
   rcases get_set e with⟨_,x,_⟩|⟨hne,e⟩
   ·cases x
   ·exact r.fV j xss b e (r.rs.on.back e (List.getElem?_set_ne hne) (fun a u _ _ hu=>hu) hb)
theorem EX(i:Nat){x:Str}(hN:X.N.Nodup)(hi:X.N[i]? =some x:=by rfl)(hx:L2.Loc X.env.scope x:=by exact Or.inl rfl)(hf:X.fn x=true∨X.env.scope.names.lookup x=some .local:=by first|exact .inl rfl|exact .inr rfl):JG X (.Name x pos) (aB i):=fun F0=>
 pS (L2.tZ hN hi hx hf) fun v σ H Q ⟨ρ,F,d,ρ',r,rv,e,q⟩=>by
   cases e
   exact q _ (r.iF rv)
theorem Fx:jL X [] (cK []):=fun F0=>
 sJ L2.BY fun vs σ H Q ⟨ρ,F,ds,ρ',r,rv,e,q⟩=>by
   cases ds with
   |nil=>cases e;simp only[ae]at rv;exact⟨rv,q _ r⟩
   |cons _ _=>cases e
theorem u7{is:List Nat}{i:Nat}{t:TG}{u:L2.e8}(ht:∀v σ H Q,oE M G F0 (aB i) v σ H Q→t v σ H Q)(hu:∀v σ H Q,nB M G F0 (cK is) v σ H Q→u v σ H Q)(vs:List V)(σ:L2.St)(H:Hp)(Q:L2.St→Hp→Prop)
   (h:nB M G F0 (cK (i::is)) vs σ H Q):L2.qK t u vs σ H Q:=by
 obtain⟨ρ,F,ds,ρ',r,rv,e,q⟩:=h
 cases ds with
 |nil=>cases e
 | cons d ds=>
   simp only[ae]at rv
   obtain⟨x,xs,rfl,rx,rxs⟩:=rv
   refine⟨x,xs,rfl,ht _ _ _ _ ⟨ρ,F,d,_,r,rx,rfl,fun σ1 r1=>hu _ _ _ _ ⟨_,F,ds,ρ',r1,rxs,e,q⟩⟩⟩
theorem wc(i:Nat){is:List Nat}{e:Expr}{es:List Expr}(h1:JG X e (aB i))(h2:jL X es (cK is))(hs:(assignEach (e::es) X.env).map (·.2)=assign e X.env::(assignEach es X.env).map (·.2):=by rfl):jL X (e::es) (cK (i::is)):=fun F0=>
 sJ (L2.zp (h1 F0) (h2 F0) hs) fun vs σ H Q h=>u7 (fun _ _ _ _ h=>h) (fun _ _ _ _ h=>h) vs σ H Q h
theorem qS:∀ {is:List Nat} {ds:List D} {ρ ρ':En},cK is ds ρ=.ok ρ'→ds.length=is.length
 |[],[],_,_,_=>rfl
 |_::_,_::_,_,_,h=>by simp only[cK]at h;simp[qS h]
 |[],_::_,_,_,h=>by cases h
 |_::_,[],_,_,h=>by cases h
theorem GG{is:List Nat}{es:List Expr}{k:Nat}(hc:X.calm=true)(h:jL X es (cK is))(hn:(assignEach es X.env).length=is.length:=by rfl)(hst:(assignEach es X.env).findIdx? (·.1)=none:=by rfl):JG X (.Tuple es k pos) (cW is):=fun F0=>
 pS (L2.uA hc (h F0) hn hst) fun v σ H Q ⟨ρ,F,d,ρ',r,rv,e,q⟩=>by
   unfold cW at e
   split at e
   · rename_i ds
     simp only[Rep]at rv
     obtain⟨a,xs,rfl,h1,rs⟩:=rv
     exact⟨a,xs,rfl,h1.sq,by rw[←rs.length];exact qS e,ρ,F,ds,ρ',r,rs,e,q⟩
   ·cases e
theorem yg{tg e:Expr}{fa:Ex}{g:bN}(ha:JE X e fa)(hg:JG X tg g)(hs:swapsWithSole [tg] e pos.line X.env=pure false:=by rfl)(hw:swappedStores [tg] e X.env=pure none:=by rfl)(h1:(assignEach [tg] X.env).map (·.2)=[assign tg X.env]:=by rfl):JS X (.Assign [tg] e pos) (bQ g fa):=fun F0=>
 cb (L2.rC ha (hg F0) hs hw h1) fun D σ H ⟨ρ,F,fl,r,e,q⟩=>by
   obtain⟨d,ed,e⟩:=ah.mp e
   obtain⟨ρ',eg,e⟩:=ah.mp e
   cases e
   exact⟨ρ,F,d,r.rs,ed,fun v H1 s1 rv=>⟨ρ,F,d,ρ',r.same s1,rv,eg,fun σ' r'=>q σ' H1 F (.same s1) r'⟩⟩
noncomputable def Gives(M:Md)(J:L2.It)(H1:Hp)(F1:Addr→Prop)(ds:List D):Prop:=∀H F,Mv F1 H1 F H→(∀p,F p→∃o,H p=some o)→
 (∀i d,ds[i]? =some d→J.go i H∧∀x H',J.i9 i H x H'→af H H'∧Rep M H' F d x)∧J.stop ds.length H
noncomputable def z9(M:Md)(f:En→R (List D)):TI:=fun σ H Rr=>∃ρ F ds,bb M H F σ ρ∧f ρ=.ok ds∧∀J H',af H H'→Gives M J H' F ds→Rr J H'
noncomputable abbrev JI(X:Cx)(tg e:Expr)(f:br):Prop:=L2.PI X tg e (z9 (aj X) f)
theorem kK{X:Cx}{tg e:Expr}{t t':TI}(h:L2.PI X tg e t')(hi:∀σ H Q,t σ H Q→t' σ H Q):L2.PI X tg e t:=fun pins s σ H Q I q=>h pins s σ H Q I (hi σ H Q q)
theorem vG{J:L2.It}{tg:bN}{body:Sm}{g:TG}{tb:TS}(hg:∀v σ H Q,oE M G F0 tg v σ H Q→g v σ H Q)(hb:∀D σ H,dS M G F0 body D σ H→tb D σ H)
   {H1:Hp} {F1:Addr→Prop} {ds:List D} (gv:Gives M J H1 F1 ds) {ρ:En} (r:aP M G F0 H1 F1 σ ρ) {fl:Fl} (e:forL tg body ds ρ=.ok fl) (q:jR M G F0 H1 F1 DE fl):
   ∃W:Nat→Nat→L2.St→Hp→Prop,(∃m,W 0 m σ H1)∧∀i m σ H,W i m σ H→
     (J.stop i H∧DE.nx σ H)∨(J.go i H∧∃N:L2.St→Hp→Prop,(∀σ' H',N σ' H'→∃m',m'<m∧W (i+1) m' σ' H')∧∀x H',J.i9 i H x H'→g x σ H' fun σ2 H2=>tb {DE with nx:=N,ct:=N,bk:=DE.nx} σ2 H2):=by
 refine⟨fun i m σ H=>m=ds.length - i∧i≤ds.length∧∃ρ F,Mv F1 H1 F H∧aP M G F0 H F σ ρ∧forL tg body (ds.drop i) ρ=.ok fl,⟨ds.length,by simp,Nat.zero_le _,ρ,F1,Mv.refl,r,e⟩,?_⟩
 rintro i m σ H ⟨rfl,hi,ρ,F,mv,r,e⟩
 obtain⟨g1,g2⟩:=gv H F mv r.rs.aM
 by_cases hlt:i<ds.length
 · refine .inr ⟨(g1 i ds[i] (by simp[hlt])).1,fun σ' H'=>i+1≤ds.length∧∃ρ F,Mv F1 H1 F H'∧aP M G F0 H' F σ' ρ∧forL tg body (ds.drop (i+1)) ρ=.ok fl,fun σ' H' p'=>⟨ds.length - (i+1),by omega,rfl,p'.1,p'.2⟩,fun x H' y=>?_⟩
   obtain⟨s1,rx⟩:=(g1 i ds[i] (by simp[hlt])).2 x H' y
   rw[List.drop_eq_getElem_cons hlt]at e
   unfold forL at e
   obtain⟨ρ1,e1,e⟩:=ah.mp e
   obtain⟨f,e2,e⟩:=ah.mp e
   refine hg _ _ _ _ ⟨ρ,F,ds[i],ρ1,r.same s1,rx,e1,fun σ2 r2=>hb _ _ _ ⟨ρ1,F,f,r2,e2,?_⟩⟩
   have mv1:Mv F1 H1 F H':=mv.trans (.same s1)
   cases f with
   |next ρ2=>exact fun σ3 H3 F3 m3 r3=>⟨hlt,ρ2,F3,mv1.trans m3,r3,e⟩
   |cont ρ2=>exact fun σ3 H3 F3 m3 r3=>⟨hlt,ρ2,F3,mv1.trans m3,r3,e⟩
   |brk ρ2=>cases e;exact fun σ3 H3 F3 m3 r3=>q σ3 H3 F3 (mv1.trans m3) r3
   |ret d=>cases e;exact fun v H3 F3 m3 a b rv=>q v H3 F3 (mv1.trans m3) a b rv
   |cq d=>cases e;exact fun p H3 F3 xs ds e m3 a b c rv=>q p H3 F3 xs ds e (mv1.trans m3) a b c rv
 · have ei:i=ds.length:=by omega
   subst ei
   rw[List.drop_length]at e
   cases e
   exact .inl ⟨g2,q σ H F mv r⟩
theorem Bw{tg iter:Expr}{body:List Stmt}{it:br}{g:bN}{f:Sm}(hp:PassesOwn (model X.prog X.w) X.A X.env X.xe)(hc:X.calm=true)(hi:JI X tg iter it)(hg:JG X tg g)(hb:cT X body f)
   (hs:∀x,foldedSetIterable iter X.env x=pure x:=by intro _;rfl):JS X (.For tg iter body [] pos) (cA it g f):=fun F0=>
 cb (L2.tN hp hc hi (hg F0) (hb F0) hs) fun D σ H ⟨ρ,F,fl,r,e,q⟩=>by
   obtain⟨ds,ed,e⟩:=ah.mp e
   exact⟨ρ,F,ds,r.rs,ed,fun J H1 s1 gv=>vG (fun _ _ _ _ h=>h) (fun _ _ _ h=>h) gv (r.same s1) e (q.mv (.same s1))⟩
theorem DV{a:Addr}{xs:List V}{ds:List D}(h:dO M H F a xs)(rs:ae M H F ds xs):Gives M (L2.ka M.K a) H F ds:=by
 intro H' F' mv tr
 have h':=h.mv mv
 have rs':=rs.mv mv
 refine⟨fun i d hd=>?_,?_⟩
 · obtain⟨x,hx,rx⟩:=rs'.get hd
   refine⟨⟨xs,x,h'.sq,hx⟩,fun y H2 hy=>?_⟩
   obtain⟨rfl,hy⟩:=hy
   have:=hy xs h'.sq
   rw[hx]at this
   cases this
   exact⟨af.refl _,rx⟩
 ·exact⟨xs,h'.sq,by rw[rs.length];exact Nat.le_refl _⟩
theorem EF{a:Addr}{xs:List V}{ds:List D}(h:cF M H F a xs)(rs:ae M H F ds xs):Gives M (L2.jU M.K a) H F ds:=by
 intro H' F' mv tr
 have h':=h.mv mv
 have rs':=rs.mv mv
 refine⟨fun i d hd=>?_,?_⟩
 · obtain⟨x,hx,rx⟩:=rs'.get hd
   refine⟨⟨xs,x,h'.sq,hx⟩,fun y H2 hy=>?_⟩
   obtain⟨rfl,hy⟩:=hy
   have:=hy xs h'.sq
   rw[hx]at this
   cases this
   exact⟨af.refl _,rx⟩
 ·exact⟨xs,h'.sq,by rw[rs.length];exact Nat.le_refl _⟩
theorem uY{lo hi:Int}:Gives M (L2.br lo (hi - lo).toNat) H F (cD lo hi):=by
 intro H' F' mv tr
 refine⟨fun i d hd=>?_,?_⟩
 · unfold cD at hd
   rw[List.getElem?_map]at hd
   cases e:(List.range (hi - lo).toNat)[i]? with
   |none=>rw[e]at hd;cases hd
   | some k=>
     rw[e]at hd
     obtain⟨hlt,hk⟩:=List.getElem?_eq_some_iff.mp e
     simp at hk hlt hd
     subst hk hd
     refine⟨show i<(hi - lo).toNat by omega,fun y H2 hy=>?_⟩
     obtain⟨rfl,rfl⟩:=hy
     exact⟨af.refl _,cv⟩
 · show(hi - lo).toNat≤(cD lo hi).length
   unfold cD;simp
@[simp] noncomputable def HF:D→R (List D)
 |.tup xs=>.ok xs
 |_=>.bad
theorem pC{j:Int}(h:inR j=true): -(2 ^ 62)≤j∧j<2 ^ 62:=by
 unfold inR at h
 rw[Bool.and_eq_true,decide_eq_true_eq,decide_eq_true_eq]at h
 exact⟨by omega,by omega⟩
theorem xZ{tg a:Expr}{fa:Ex}{p:Pos}(hg:L2.Gl X "range")(hm:X.mg "range"=none)(ha:JE X a fa)(hs:starEach [a] X.env=(false,eval a X.env)::starEach [] X.env:=by rfl):JI X tg (.Call (.Name "range" p) [a] [] pos) (e4 fa):=
 kK (L2.BB hg hm (cy ha dF hs) hs) fun σ H Q ⟨ρ,F,ds,r,e,q⟩=>by
   obtain⟨d,ed,e⟩:=ah.mp e
   refine⟨ρ,F,[d],r,by show(fa ρ).bind _=_;rw[ed];rfl,fun vs H1 s1 rv=>?_⟩
   obtain⟨x,rfl,rx⟩:=rv.one
   split at e
   · split at e
     · rename_i j hj
       cases e
       have hj:=pC hj
       have:=q (L2.br 0 j.toNat) H1 s1 (by have:=uY (M:=aj X) (H:=H1) (F:=F) (lo:=0) (hi:=j);rwa[Int.sub_zero]at this)
       exact⟨j,by rw[aU rx],hj.1,hj.2,this⟩
     ·cases e
   ·cases e
noncomputable def fS(M:Md)(m:List D→R D)(n:Nat):L2.Sp:=fun vs H Q _=>∃F ds d,(∀p,F p→∃o,H p=some o)∧ae M H F ds vs∧ds.length=n∧m ds=.ok d∧∀v H',af H H'→Rep M H' F d v→Q v H'
theorem Rep.sub(hs:∀a,F a→F' a){d:D}{v:V}(h:Rep M H F' d v):Rep M H F d v:=h.mv fun a o n e=>⟨fun f=>n (hs a f),e⟩
theorem sI{N:List Str}{n:Nat}{ds:List D}{vs:List V}(tr:∀p,F p→∃o,G p=some o)(rs:ae M G F ds vs)(hl:ds.length=n)(hn:n≤N.length):aP M G F G F (L2.start N vs) (ds.map Slot.sh++List.replicate (N.length - ds.length) .un):=by
 have hl2:=rs.length
 have no:∀i,¬bx (ds.map Slot.sh++List.replicate (N.length - ds.length) .un) i:=by
   intro i hi
   have:∀s,(ds.map Slot.sh++List.replicate (N.length - ds.length) Slot.un)[i]? =some s→(∃d,s=.sh d)∨s=.un:=by
     intro s hs
     rw[List.getElem?_append]at hs
     split at hs
     · rw[List.getElem?_map]at hs
       cases e1:ds[i]? with
       |none=>rw[e1]at hs;cases hs
       |some d'=>rw[e1]at hs;cases hs;exact .inl ⟨_,rfl⟩
     · rw[List.getElem?_replicate]at hs
       split at hs<;>cases hs
       exact .inr rfl
   rcases hi with⟨x,hx⟩|⟨k,x,hx⟩
   ·rcases this _ hx with⟨_,h⟩|h<;>cases h
   ·rcases this _ hx with⟨_,h⟩|h<;>cases h
 have av:∀(i:Nat) xss,(ds.map Slot.sh++List.replicate (N.length - ds.length) Slot.un)[i]? ≠some (.on xss):=by
   intro i xss hs
   rw[List.getElem?_append]at hs
   split at hs
   · rw[List.getElem?_map]at hs
     cases e1:ds[i]? with
     |none=>rw[e1]at hs;cases hs
     |some d'=>rw[e1]at hs;cases hs
   · rw[List.getElem?_replicate]at hs
     split at hs<;>cases hs
 refine⟨⟨?_,tr,?_,?_,?_,?_,.no av⟩,af.refl _,fun _ h=>h,tr,?_,fun i xss b e=>absurd e (av i xss)⟩
 ·unfold L2.start;simp[hl2]
 · intro i d hd
   rw[List.getElem?_append]at hd
   split at hd
   · rw[List.getElem?_map]at hd
     cases e1:ds[i]? with
     |none=>rw[e1]at hd;cases hd
     | some d'=>
       rw[e1]at hd;cases hd
       obtain⟨v,ev,rv⟩:=rs.get e1
       refine⟨v,?_,rv⟩
       unfold L2.start
       rw[List.getElem?_append_left (by obtain⟨h,_⟩:=List.getElem?_eq_some_iff.mp ev;simpa using h),List.getElem?_map,ev];rfl
   · rw[List.getElem?_replicate]at hd
     split at hd<;>cases hd
 · intro i d hd
   rw[List.getElem?_append]at hd
   split at hd
   · rw[List.getElem?_map]at hd
     cases e1:ds[i]? with
     |none=>rw[e1]at hd;cases hd
     |some d'=>rw[e1]at hd;cases hd
   · rw[List.getElem?_replicate]at hd
     split at hd<;>cases hd
 · intro i k d hd
   rw[List.getElem?_append]at hd
   split at hd
   · rw[List.getElem?_map]at hd
     cases e1:ds[i]? with
     |none=>rw[e1]at hd;cases hd
     |some d'=>rw[e1]at hd;cases hd
   · rw[List.getElem?_replicate]at hd
     split at hd<;>cases hd
 · intro i j a oi
   exact absurd oi (no i)
 · intro i a oi
   exact absurd oi (no i)
theorem vw{N:List Str}{n:Nat}{body:Sm}{vs:List V}{Q:VK}{E:XK}{t:TS}(ht:∀F0 D σ H,dS M G F0 body D σ H→t D σ H)(h:fS M (fn N.length body) n vs G Q E)(hn:n≤N.length):t {nx:=fun _ H'=>Q .av H',rt:=Q} (L2.start N vs) G:=by
 obtain⟨F,ds,d,tr,rs,hl,e,q⟩:=h
 obtain⟨f,ef,e⟩:=ah.mp e
 refine ht F _ _ _ ⟨_,F,f,sI tr rs hl hn,ef,?_⟩
 cases f with
 |next ρ'=>cases e;exact fun σ' H' F' mv r'=>q _ _ r'.sm qG
 |ret d'=>cases e;exact fun v H' F' mv sm sub rv=>q _ _ sm (rv.sub sub)
 |brk _=>cases e
 |cont _=>cases e
 |cq _=>cases e
noncomputable def jD(M:Md)(m:List D→R D)(n:Nat):L2.Sp:=fun vs H Q _=>∃F ds d,(∀p,F p→∃o,H p=some o)∧ae M H F ds vs∧ds.length=n∧m ds=.ok (.lst d)∧∀p H' xs,af H H'→H' p=none→ae M H' F d xs→Q (.ref p) (upd H' p (.lst xs))
theorem ae.sub(hs:∀a,F a→F' a){d:List D}{v:List V}(h:ae M H F' d v):ae M H F d v:=h.mv fun a o n e=>⟨fun f=>n (hs a f),e⟩
theorem za{N:List Str}{n:Nat}{body:Sm}{vs:List V}{Q:VK}{E:XK}{t:TS}(ht:∀F0 D σ H,dS M G F0 body D σ H→t D σ H)(h:jD M (fo N.length body) n vs G Q E)(hn:n≤N.length):t {nx:=fun _ H'=>Q .av H',rt:=Q} (L2.start N vs) G:=by
 obtain⟨F,ds,d,tr,rs,hl,e,q⟩:=h
 obtain⟨f,ef,e⟩:=ah.mp e
 refine ht F _ _ _ ⟨_,F,f,sI tr rs hl hn,ef,?_⟩
 cases f with
 | cq d'=>
   cases d' with
   |lst xs=>cases e;exact fun p H' F' ys ds e mv sm sub hp rv=>by cases e;exact q _ _ _ sm hp (rv.sub sub)
   |_=>cases e
 |_=>cases e
theorem Ar(i:Nat){x:Str}{p2:Pos}(hN:X.N[i]? =some x:=by rfl)(hv:L2.bS X.env.scope x:=by first|exact Or.inl rfl|exact Or.inr (Or.inl rfl)|exact Or.inr (Or.inr rfl))(hd:(x==("__debug__":Str))=false:=by decide)
   (hcd:(x==("__classdict__":Str))=false:=by decide):JS X (.Return (some (.Name x p2)) pos) (lh i):=fun F0=>
 cb (L2.kL (L2.pv i hN hv hd hcd)) fun D σ H ⟨ρ,F,fl,r,e,q⟩=>by
   unfold lh at e
   split at e
   · rename_i xs q1
     cases e
     obtain⟨a,ys,ea,fa,ha,rs⟩:=r.rs.ol i _ q1
     have hG:=r.own i a (.inl ⟨_,q1⟩) ea
     refine⟨_,ea,?_⟩
     have mv:Mv F H (fun b=>F b∧b≠a) (fun b=>if b=a then none else H b):=fun b o n e=>⟨fun h=>n h.1,by
       have hb:b≠a:=fun z=>by subst z;exact n fa
       simp only[if_neg hb];exact e⟩
     have key:=q a (fun b=>if b=a then none else H b) (fun b=>F b∧b≠a) ys xs rfl mv (fun b o e=>by
       have hb:b≠a:=fun z=>by subst z;rw[hG]at e;cases e
       simp only[if_neg hb];exact r.sm b o e) (fun b f=>⟨r.sub b f,fun z=>by subst z;obtain⟨o,e⟩:=r.d7 _ f;rw[hG]at e;cases e⟩) (by simp) (rs.mv mv)
     have e2:upd (fun b=>if b=a then none else H b) a (.lst ys)=H:=by
       funext b
       unfold upd
       by_cases hb:b=a
       ·simp only[if_pos hb];rw[hb];exact ha.symm
       ·simp only[if_neg hb]
     rw[e2]at key
     exact key
   ·cases e
end
section
variable{X:Cx}{M:Md}{G H H':Hp}{F0 F F':Addr→Prop}{σ:L2.St}{ρ:En}{pos:Pos}{DE:Ends}
noncomputable def Own(M:Md)(H:Hp)(F:Addr→Prop)(s:Slot)(o:HO):Prop:=
 (∃ds xs,s=.ol ds∧o=.lst xs∧ae M H F ds xs)∨∃ks ds xs,s=.od ks ds∧o=.dK (ks.zip xs)∧ks.length=xs.length∧ae M H F ds xs
theorem Own.mv{s:Slot}{o:HO}(m:Mv F H F' H')(h:Own M H F s o):Own M H' F' s o:=by
 rcases h with⟨ds,xs,e1,e2,r⟩|⟨ks,ds,xs,e1,e2,l,r⟩
 ·exact .inl ⟨ds,xs,e1,e2,r.mv m⟩
 ·exact .inr ⟨ks,ds,xs,e1,e2,l,r.mv m⟩
theorem bb.ownAt(r:bb M H F σ ρ){i:Nat}(o:bx ρ i):∃a s u,ρ[i]? =some s∧σ[i]? =some (some (.ref a))∧F a∧H a=some u∧Own M H F s u:=by
 rcases o with⟨ds,q⟩|⟨ks,ds,q⟩
 · obtain⟨a,xs,h1,h2,h3,h4⟩:=r.ol i ds q
   exact⟨a,_,_,q,h1,h2,h3,.inl ⟨ds,xs,rfl,rfl,h4⟩⟩
 · obtain⟨a,xs,h1,h2,h3,h4,h5⟩:=r.od i ks ds q
   exact⟨a,_,_,q,h1,h2,h3,.inr ⟨ks,ds,xs,rfl,rfl,h4,h5⟩⟩
theorem fu{i j:Nat}{s:Slot}(h:bx (ρ.set i s) j):j=i∨(i≠j∧bx ρ j):=by
 rcases h with⟨ds,q⟩|⟨ks,ds,q⟩
 · rcases get_set q with⟨h,_,_⟩|⟨hne,q⟩
   ·exact .inl h.symm
   ·exact .inr ⟨hne,.inl ⟨ds,q⟩⟩
 · rcases get_set q with⟨h,_,_⟩|⟨hne,q⟩
   ·exact .inl h.symm
   ·exact .inr ⟨hne,.inr ⟨ks,ds,q⟩⟩
theorem bb.put{i:Nat}{a:Addr}{s:Slot}{o:HO}(r:bb M H F σ ρ)(mv:Mv F H F' H')(hF:∀b,F b→F' b)(ha:F' a)(ho:H' a=some o)(hk:∀b u,F b→b≠a→H b=some u→H' b=some u)(htr:∀b,F' b→F b∨b=a)
   (hn:∀j,j≠i→bx ρ j→σ[j]? ≠some (some (.ref a))) (hon:∀(j:Nat) xss b,j≠i→ρ[j]? =some (.on xss)→fK H σ j b→b≠a) (own:Own M H' F' s o):bb M H' F' (σ.set i (some (.ref a))) (ρ.set i s) where
 len:=by simp[r.len]
 aM b f:=by
   by_cases e:b=a
   ·subst e;exact⟨o,ho⟩
   · rcases htr b f with f|f
     · obtain⟨u,hu⟩:=r.aM b f
       exact⟨u,hk b u f e hu⟩
     ·exact absurd f e
 sh j d q:=by
   rcases get_set q with⟨rfl,hx,hl⟩|⟨hne,q⟩
   ·rcases own with⟨ds,xs,rfl,_⟩|⟨ks,ds,xs,rfl,_⟩<;>cases hx
   · obtain⟨w,e1,g⟩:=r.sh j d q
     exact⟨w,by rw[List.getElem?_set_ne hne];exact e1,g.mv mv⟩
 ol j d q:=by
   rcases get_set q with⟨rfl,x,hl⟩|⟨hne,q⟩
   · rcases own with⟨ds,xs,rfl,rfl,rs⟩|⟨ks,ds,xs,rfl,_⟩
     · cases x
       exact⟨a,xs,by rw[List.getElem?_set_self (by rw[←r.len];exact hl)],ha,ho,rs⟩
     ·cases x
   · obtain⟨b,xs,e1,f,e2,g⟩:=r.ol j d q
     refine⟨b,xs,by rw[List.getElem?_set_ne hne];exact e1,hF _ f,hk _ _ f ?_ e2,g.mv mv⟩
     rintro rfl
     exact hn j (Ne.symm hne) (.inl ⟨_,q⟩) e1
 od j k d q:=by
   rcases get_set q with⟨rfl,x,hl⟩|⟨hne,q⟩
   · rcases own with⟨ds,xs,rfl,_⟩|⟨ks,ds,xs,rfl,rfl,l,rs⟩
     ·cases x
     · cases x
       exact⟨a,xs,by rw[List.getElem?_set_self (by rw[←r.len];exact hl)],ha,ho,l,rs⟩
   · obtain⟨b,xs,e1,f,e2,l,g⟩:=r.od j k d q
     refine⟨b,xs,by rw[List.getElem?_set_ne hne];exact e1,hF _ f,hk _ _ f ?_ e2,l,g.mv mv⟩
     rintro rfl
     exact hn j (Ne.symm hne) (.inr ⟨_,_,q⟩) e1
 cw j k b oj ok ej ek:=by
   have self:∀c,(σ.set i (some (.ref a)))[i]? =some (some (.ref c))→c=a:=fun c h=>by
     rw[List.getElem?_set_self']at h
     cases hq:σ[i]? with
     |none=>rw[hq]at h;cases h
     |some z=>rw[hq]at h;cases h;rfl
   rcases fu oj with hj|⟨nj,oj⟩
   · rcases fu ok with hk2|⟨nk,ok⟩
     ·rw[hj,hk2]
     · rw[hj]at ej
       rw[List.getElem?_set_ne nk]at ek
       cases self _ ej
       exact absurd ek (hn k (Ne.symm nk) ok)
   · rw[List.getElem?_set_ne nj]at ej
     rcases fu ok with hk2|⟨nk,ok⟩
     · rw[hk2]at ek
       cases self _ ek
       exact absurd ej (hn j (Ne.symm nj) oj)
     · rw[List.getElem?_set_ne nk]at ek
       exact r.cw j k b oj ok ej ek
 on:=by
   have old:∀(j:Nat) xss,(ρ.set i s)[j]? =some (.on xss)→i≠j∧ρ[j]? =some (.on xss):=fun j xss e=>by
     rcases get_set e with⟨_,x,_⟩|⟨hne,e⟩
     ·rcases own with⟨ds,xs,rfl,_⟩|⟨ks,ds,xs,rfl,_⟩<;>cases x
     ·exact⟨hne,e⟩
   refine r.on.mv mv (fun j xss e=>⟨(old j xss e).2,List.getElem?_set_ne (old j xss e).1⟩) (fun j xss b u e hb f hu=>⟨hF b f,hk b u f (hon j xss b (Ne.symm (old j xss e).1) (old j xss e).2 hb) hu⟩) fun j xss b e hb k ok=>?_
   obtain⟨hne,e0⟩:=old j xss e
   rcases fu ok with rfl|⟨nk,ok⟩
   · intro h
     rw[List.getElem?_set_self']at h
     cases hq:σ[k]? with
     |none=>rw[hq]at h;cases h
     |some z=>rw[hq]at h;cases h;exact hon j xss _ (Ne.symm hne) e0 hb rfl
   · rw[List.getElem?_set_ne nk]
     exact(r.on j xss e0).2.1 b hb k ok
theorem aP.new{i:Nat}{p:Addr}{s:Slot}{o:HO}(r:aP M G F0 H F σ ρ)(hp:H p=none)(own:Own M H F s o):
   Mv F H (fun b=>F b∨b=p) (upd H p o)∧aP M G F0 (upd H p o) (fun b=>F b∨b=p) (σ.set i (some (.ref p))) (ρ.set i s):=by
 have ne:∀b u,H b=some u→b≠p:=fun b u e z=>by subst z;rw[hp]at e;cases e
 have mv:Mv F H (fun b=>F b∨b=p) (upd H p o):=fun b u n e=>⟨fun h=>h.elim n (ne b u e),by rw[L2.aA (ne b u e)];exact e⟩
 have hG:G p=none:=r.sm.free hp
 refine⟨mv,⟨r.rs.put mv (fun _ h=>.inl h) (.inr rfl) L2.bC (fun b u _ n e=>by rw[L2.aA n];exact e) (fun _ h=>h) (fun j _ oj e=>?_) (fun j xss b _ e hb z=>by
     obtain⟨_,xs,hx⟩:=r.rs.on.f e hb
     exact ne b _ hx z) (own.mv mv),fun b u e=>by rw[L2.aA (ne b u (r.sm b u e))];exact r.sm b u e,fun b h=>.inl (r.sub b h),r.d7,fun j a oj e=>?_,fun j xss b e hb=>?_⟩⟩
 · obtain⟨a,_,u,_,e1,_,e2,_⟩:=r.rs.ownAt oj
   rw[e1]at e;cases e
   exact ne _ _ e2 rfl
 · rcases fu oj with rfl|⟨nj,oj⟩
   · rw[List.getElem?_set]at e
     split at e
     · split at e
       ·cases e;exact hG
       ·cases e
     ·rename_i h;exact absurd rfl h
   · rw[List.getElem?_set_ne nj]at e
     exact r.own j a oj e
 · rcases get_set e with⟨_,x,_⟩|⟨hne,e⟩
   ·rcases own with⟨ds,xs,rfl,_⟩|⟨ks,ds,xs,rfl,_⟩<;>cases x
   ·exact r.fV j xss b e (r.rs.on.back e (List.getElem?_set_ne hne) (fun a u _ _ hu=>by rw[L2.aA (ne a u hu)];exact hu) hb)
theorem aP.chg{i:Nat}{a:Addr}{s:Slot}{o:HO}(r:aP M G F0 H F σ ρ)(oi:bx ρ i)(ei:σ[i]? =some (some (.ref a)))(own:Own M H F s o):
   Mv F H F (upd H a o)∧aP M G F0 (upd H a o) F σ (ρ.set i s):=by
 obtain⟨a',_,u,_,e1,fa,e2,_⟩:=r.rs.ownAt oi
 rw[ei]at e1;cases e1
 have mv:Mv F H F (upd H a o):=fun b v n e=>⟨n,by rw[L2.aA (fun z=>by subst z;exact n fa)];exact e⟩
 have hG:=r.own i a oi ei
 have hs:σ.set i (some (.ref a))=σ:=by
   obtain⟨hl,h⟩:=List.getElem?_eq_some_iff.mp ei
   rw[←h];exact List.set_getElem_self hl
 have key:=r.rs.put (i:=i) mv (fun _ h=>h) fa L2.bC (fun b u _ n e=>by rw[L2.aA n];exact e) (fun _ h=>.inl h) (fun j nj oj e=>nj (r.rs.cw j i a oj oi e ei)) (fun j xss b _ e hb z=>by subst z;exact(r.rs.on j xss e).2.1 _ hb i oi ei) (own.mv mv)
 rw[hs]at key
 refine⟨mv,⟨key,fun b u e=>by rw[L2.aA (fun z=>by subst z;rw[hG]at e;cases e)];exact r.sm b u e,r.sub,r.d7,fun j b oj e=>?_,fun j xss b e hb=>?_⟩⟩
 · rcases fu oj with rfl|⟨nj,oj⟩
   ·rw[ei]at e;cases e;exact hG
   ·exact r.own j b oj e
 · rcases get_set e with⟨_,x,_⟩|⟨hne,e⟩
   ·rcases own with⟨ds,xs,rfl,_⟩|⟨ks,ds,xs,rfl,_⟩<;>cases x
   · refine r.fV j xss b e (r.rs.on.back e rfl (fun c u hc _ hu=>?_) hb)
     rw[L2.aA (fun z=>by subst z;exact(r.rs.on j xss e).2.1 _ hc i oi ei)];exact hu
theorem tY{i:Nat}{a:Addr}{d:D}(r:dN M H F σ ρ)(oi:bx ρ i)(ei:σ[i]? =some (some (.ref a)))(mv:Mv F H F' H)(hF:∀b,F b→b≠a→F' b):dN M H F' σ (ρ.set i (.sh d)):=by
 have old:∀(j:Nat) xss,(ρ.set i (.sh d))[j]? =some (.on xss)→ρ[j]? =some (.on xss):=fun j xss e=>by
   rcases get_set e with⟨_,x,_⟩|⟨hne,e⟩
   ·cases x
   ·exact e
 refine r.mv mv (fun j xss e=>⟨old j xss e,rfl⟩) (fun j xss b u e hb f hu=>⟨hF b f fun z=>?_,hu⟩) fun j xss b e hb k ok=>(r j xss (old j xss e)).2.1 b hb k ok.eA.2
 subst z
 exact(r j xss (old j xss e)).2.1 _ hb i oi ei
theorem aP.sr{i:Nat}{a:Addr}{s:Slot}{d:D}(r:aP M G F0 H F σ ρ)(oi:bx ρ i)(es:ρ[i]? =some s)(ei:σ[i]? =some (some (.ref a)))(hd:∃ds,s=.ol ds∧d=.lst ds):
   ∃F',(F'=fun b=>F b∧b≠a)∧Mv F H F' H∧aP M G F0 H F' σ (ρ.set i (.sh d)):=by
 obtain⟨a',s',u,es',e1,fa,e2,ow⟩:=r.rs.ownAt oi
 rw[ei]at e1;cases e1
 rw[es]at es';cases es'
 have hG:=r.own i a oi ei
 have mv:Mv F H (fun b=>F b∧b≠a) H:=fun b v n e=>⟨fun h=>n h.1,e⟩
 have hrep:Rep M H (fun b=>F b∧b≠a) d (.ref a):=by
   obtain⟨ds,rfl,rfl⟩:=hd
   rcases ow with⟨ds',xs,h1,rfl,rs⟩|⟨ks,ds,xs,h1,_⟩
   · cases h1
     simp only[Rep]
     exact⟨a,xs,rfl,.inl ⟨fun h=>h.2 rfl,.inl e2⟩,rs.mv mv⟩
   ·cases h1
 refine⟨fun b=>F b∧b≠a,rfl,mv,⟨⟨by simp[r.rs.len],fun b h=>r.rs.aM b h.1,?_,?_,?_,?_,?_⟩,r.sm,fun b h=>⟨r.sub b h,fun z=>by subst z;obtain⟨o,e⟩:=r.d7 _ h;rw[hG]at e;cases e⟩,r.d7,?_,?_⟩⟩
 · intro j e q
   rcases get_set q with⟨rfl,hx,hl⟩|⟨hne,q⟩
   · cases hx
     exact⟨_,ei,hrep⟩
   · obtain⟨w,e1,g⟩:=r.rs.sh j e q
     exact⟨w,e1,g.mv mv⟩
 · intro j e q
   rcases get_set q with⟨rfl,x,hl⟩|⟨hne,q⟩
   ·cases x
   · obtain⟨b,xs,e1,f,e3,g⟩:=r.rs.ol j e q
     exact⟨b,xs,e1,⟨f,fun z=>by subst z;exact hne (r.rs.cw i j _ oi (.inl ⟨_,q⟩) ei e1)⟩,e3,g.mv mv⟩
 · intro j k e q
   rcases get_set q with⟨rfl,x,hl⟩|⟨hne,q⟩
   ·cases x
   · obtain⟨b,xs,e1,f,e3,l,g⟩:=r.rs.od j k e q
     exact⟨b,xs,e1,⟨f,fun z=>by subst z;exact hne (r.rs.cw i j _ oi (.inr ⟨_,_,q⟩) ei e1)⟩,e3,l,g.mv mv⟩
 · intro j k b oj ok ej ek
   exact r.rs.cw j k b oj.eA.2 ok.eA.2 ej ek
 ·exact tY r.rs.on oi ei mv (fun b f n=>⟨f,n⟩)
 · intro j b oj e
   exact r.own j b oj.eA.2 e
 · intro j xss b e hb
   rcases get_set e with⟨_,x,_⟩|⟨_,e⟩
   ·cases x
   ·exact r.fV j xss b e hb
theorem aP.frz{i:Nat}{a:Addr}{s:Slot}{u:HO}{d:D}(r:aP M G F0 H F σ ρ)(oi:bx ρ i)(es:ρ[i]? =some s)(ei:σ[i]? =some (some (.ref a)))(hd:∃ds,s=.ol ds∧d=.lst ds):
   ∃F',Mv F H F' H∧aP M G F0 H F' σ (ρ.set i (.sh d)):=let⟨F',_,m,h⟩:=r.sr oi es ei hd;⟨F',m,h⟩
theorem aP.oz{i:Nat}{ks:List Ky}{ds:List D}(r:aP M G F0 H F σ ρ)(es:ρ[i]? =some (.od ks ds)):∃a kvs,H a=some (.dK kvs)∧∀ob,∃F',(F'=fun b=>F b∧b≠a)∧Mv F H F' (upd H a (.frz ob (.dK kvs)))∧aP M G F0 (upd H a (.frz ob (.dK kvs))) F' σ (ρ.set i (.sh (.aC ks ds))):=by
 have oi:bx ρ i:=.inr ⟨_,_,es⟩
 obtain⟨a,xs,ei,fa,e2,hl,rs⟩:=r.rs.od i ks ds es
 refine⟨a,ks.zip xs,e2,fun ob=>?_⟩
 have hG:=r.own i a oi ei
 have ne:∀b,¬F b→b≠a:=fun b n z=>by subst z;exact n fa
 have mv:Mv F H (fun b=>F b∧b≠a) (upd H a (.frz ob (.dK (ks.zip xs)))):=fun b v n e=>⟨fun h=>n h.1,by rw[L2.aA (ne b n)];exact e⟩
 refine⟨fun b=>F b∧b≠a,rfl,mv,⟨⟨by simp[r.rs.len],fun b h=>?_,?_,?_,?_,?_,?_⟩,fun b u e=>by rw[L2.aA (fun z=>by subst z;rw[hG]at e;cases e)];exact r.sm b u e,fun b h=>⟨r.sub b h,fun z=>by subst z;obtain⟨o,e⟩:=r.d7 _ h;rw[hG]at e;cases e⟩,r.d7,?_,?_⟩⟩
 · obtain⟨o,e⟩:=r.rs.aM b h.1
   exact⟨o,by rw[L2.aA h.2];exact e⟩
 · intro j e q
   rcases get_set q with⟨rfl,hx,hl⟩|⟨hne,q⟩
   · cases hx
     refine⟨_,ei,?_⟩
     simp only[Rep]
     exact⟨a,xs,rfl,.inl ⟨fun h=>h.2 rfl,ob,L2.bC⟩,by assumption,rs.mv mv⟩
   · obtain⟨w,e1,g⟩:=r.rs.sh j e q
     exact⟨w,e1,g.mv mv⟩
 · intro j e q
   rcases get_set q with⟨rfl,x,hl⟩|⟨hne,q⟩
   ·cases x
   · obtain⟨b,ys,e1,f,e3,g⟩:=r.rs.ol j e q
     have hb:b≠a:=fun z=>by subst z;exact hne (r.rs.cw i j _ oi (.inl ⟨_,q⟩) ei e1)
     exact⟨b,ys,e1,⟨f,hb⟩,by rw[L2.aA hb];exact e3,g.mv mv⟩
 · intro j k e q
   rcases get_set q with⟨rfl,x,hl⟩|⟨hne,q⟩
   ·cases x
   · obtain⟨b,ys,e1,f,e3,l,g⟩:=r.rs.od j k e q
     have hb:b≠a:=fun z=>by subst z;exact hne (r.rs.cw i j _ oi (.inr ⟨_,_,q⟩) ei e1)
     exact⟨b,ys,e1,⟨f,hb⟩,by rw[L2.aA hb];exact e3,l,g.mv mv⟩
 · intro j k b oj ok ej ek
   exact r.rs.cw j k b oj.eA.2 ok.eA.2 ej ek
 · have old:∀(j:Nat) xss,(ρ.set i (.sh (.aC ks ds)))[j]? =some (.on xss)→ρ[j]? =some (.on xss):=fun j xss e=>by
     rcases get_set e with⟨_,x,_⟩|⟨hne,e⟩
     ·cases x
     ·exact e
   refine r.rs.on.mv mv (fun j xss e=>⟨old j xss e,rfl⟩) (fun j xss b u e hb f hu=>?_) fun j xss b e hb k ok=>(r.rs.on j xss (old j xss e)).2.1 b hb k ok.eA.2
   have hba:b≠a:=fun z=>by subst z;exact(r.rs.on j xss (old j xss e)).2.1 _ hb i oi ei
   exact⟨⟨f,hba⟩,by rw[L2.aA hba];exact hu⟩
 · intro j b oj e
   exact r.own j b oj.eA.2 e
 · intro j xss b e hb
   rcases get_set e with⟨_,x,_⟩|⟨_,e⟩
   ·cases x
   · refine r.fV j xss b e (r.rs.on.back e rfl (fun c u hc _ hu=>?_) hb)
     rw[L2.aA (fun z=>by subst z;exact(r.rs.on j xss e).2.1 _ hc i oi ei)];exact hu
theorem GF(i:Nat){rest:List Stmt}{fs:List Sm}(h:cT X rest (aJ fs)):cT X rest (aJ (eP i::fs)):=fun F0 pins s σ H D I ⟨ρ,F,fl,r,e,q⟩=>by
 obtain⟨f1,e1,e⟩:=ah.mp e
 unfold eP at e1
 split at e1
 · rename_i xs q1
   cases e1
   have oi:bx ρ i:=.inl ⟨_,q1⟩
   obtain⟨a,_,_,_,ea,_⟩:=r.rs.ownAt oi
   obtain⟨F',mv,r'⟩:=r.frz (u:=.lst []) oi q1 ea ⟨_,rfl,rfl⟩
   exact h F0 pins s σ H D I ⟨_,F',fl,r',e,q.mv mv⟩
 · rename_i ks vs q1
   cases e1
   obtain⟨a,kvs,ha,k⟩:=r.oz q1
   obtain⟨ob,I'⟩:=pq I ha
   obtain⟨F',_,mv,r'⟩:=k ob
   exact h F0 pins s σ _ D I' ⟨_,F',fl,r',e,q.mv mv⟩
 ·cases e1
noncomputable def lX(M:Md)(f:Ex):TE:=fun σ H Q=>∃ρ F ds,bb M H F σ ρ∧f ρ=.ok (.lst ds)∧∀p H' xs,af H H'→H' p=none→ae M H' F ds xs→Q (.ref p) (upd H' p (.lst xs))
noncomputable abbrev JF(X:Cx)(e:Expr)(f:Ex):Prop:=PE X e (lX (aj X) f)
theorem Cn{es:List Expr}{fs:List Ex}(h:JA X es (eList fs))(hl:fs.length≤1000:=by decide):JF X (.List es pos) (bH fs):=
 bj (L2.rD h) fun σ H Q ⟨ρ,F,d,hr,e,q⟩=>by
   obtain⟨as,ea,e⟩:=ah.mp e
   cases e
   refine⟨ρ,F,_,hr,ea,fun xs H1 s1 rs=>⟨?_,fun p hp=>q p H1 xs s1 hp rs⟩⟩
   rw[←rs.length,ir ea]
   exact Nat.le_trans hl (by decide)
theorem uw(i:Nat){x:Str}{e:Expr}{f:Ex}{p2:Pos}(hN:X.N.Nodup)(he:JF X e f)(hi:X.N[i]? =some x:=by rfl)(hx:L2.Loc X.env.scope x:=by exact Or.inl rfl)(hf:X.fn x=true∨X.env.scope.names.lookup x=some .local:=by first|exact .inl rfl|exact .inr rfl)
   (hs:swapsWith e (some (.Name x p2)) pos.line X.env=pure false:=by rfl):JS X (.Assign [.Name x p2] e pos) (dj i f):=fun F0=>
 cb (L2.mH hN hi hx he hs hf) fun D σ H ⟨ρ,F,fl,r,e,q⟩=>by
   obtain⟨d,ed,e⟩:=ah.mp e
   split at e
   · cases e
     refine⟨ρ,F,_,r.rs,ed,fun p H1 xs s1 hp rs=>?_⟩
     obtain⟨mv,r'⟩:=(r.same s1).new (i:=i) (s:=.ol _) hp (.inl ⟨_,xs,rfl,rfl,rs⟩)
     exact q _ _ _ (Mv.trans (.same s1) mv) r'
   ·cases e
theorem w8(i:Nat){x:Str}{p p2:Pos}(hg:L2.Gl X "len")(hm:X.mg "len"=none)(hN:X.N[i]? =some x:=by rfl)(hv:L2.bS X.env.scope x:=by first|exact Or.inl rfl|exact Or.inr (Or.inl rfl)|exact Or.inr (Or.inr rfl))(hd:(x==("__debug__":Str))=false:=by decide)
   (hcd:(x==("__classdict__":Str))=false:=by decide) (hs:starEach [.Name x p2] X.env=(false,eval (.Name x p2) X.env)::starEach [] X.env:=by rfl):JE X (.Call (.Name "len" p) [.Name x p2] [] pos) (iC i):=
 bj (L2.jT L2.tF hg hm cG (L2.gx (L2.pv i hN hv hd hcd) L2.ic hs) (by decide) (by decide) hs) fun σ H Q ⟨ρ,F,d,hr,e,q⟩=>by
   unfold iC at e
   split at e
   · rename_i xs q1
     cases e
     obtain⟨a,ys,ea,fa,ha,rs⟩:=hr.ol i _ q1
     refine⟨_,ea,a,ys,rfl,.inl (aN.of ha),q _ _ (af.refl _) ?_⟩
     rw[←rs.length];exact cv
   ·cases e
theorem EH(i:Nat){x:Str}{b:Expr}{fb:Ex}{p2:Pos}(hb:JE X b fb)(hN:X.N[i]? =some x:=by rfl)(hv:L2.bS X.env.scope x:=by first|exact Or.inl rfl|exact Or.inr (Or.inl rfl)|exact Or.inr (Or.inr rfl))(hd:(x==("__debug__":Str))=false:=by decide)
   (hcd:(x==("__classdict__":Str))=false:=by decide) (hs:L2.ja b:=by exact fun _ _=>rfl):JE X (.Subscript (.Name x p2) b pos) (lA i fb):=
 bj (L2.sN L2.sA (L2.pv i hN hv hd hcd) hb hs) fun σ H Q ⟨ρ,F,d,hr,e,q⟩=>by
   obtain⟨y,ey,e⟩:=ah.mp e
   split at e
   · rename_i xs q1
     obtain⟨a,ys,ea,fa,ha,rs⟩:=hr.ol i _ q1
     refine⟨_,ea,ρ,F,y,hr,ey,fun z H1 s1 rz=>?_⟩
     cases y with
     | int k=>
       simp only[fF]at e
       split at e
       · rename_i v hv
         cases e
         have rs1:=rs.mv (M:=aj X) (F':=F) (.same s1)
         obtain⟨j,w,_,h1,h2,h3⟩:=m5 rs1.length hv
         obtain⟨z',hz,rz'⟩:=rs1.get h1
         rw[h2]at hz
         cases hz
         exact .inl ⟨a,ys,_,w,rfl,aU rz,aN.of (s1 _ _ ha),h3,q _ _ s1 rz'⟩
       ·cases e
     |_=>cases e
   ·cases e
structure Df(P:Program)(w:World)(K:PySem.W.Frag)(mg:Str→Option Value)(base:Heap)(x:Str)(k n:Nat)(m:List D→R D):Prop where
 ex:∃f fd ps,L2.cf P w K mg base L2.df k f fd ps (fS ⟨K,P,w⟩ m n)∧L2.Binds K fd ps []∧PySem.W.keepIn K (.ref f)=true∧mg x=some (.ref f)
theorem GW{m:List D→R D}{n:Nat}{fs:List Ex}{Q:VK}{E:XK}(hn:fs.length=n)(h:tP M (ao m fs) σ H Q):L2.mh (fS M m n) [] E (me M (eList fs)) σ H Q:=by
 obtain⟨ρ,F,d,hr,e,q⟩:=h
 obtain⟨ds,eds,e⟩:=ah.mp e
 refine⟨ρ,F,ds,hr,eds,fun vs H1 s1 rs=>?_⟩
 show fS M m n (vs++[]) H1 Q E
 rw[List.append_nil]
 exact⟨F,ds,d,(hr.same s1).aM,rs,by rw[ir eds];exact hn,e,fun v H2 s2 rv=>q v H2 (s1.trans s2) rv⟩
theorem AK{x:Str}{k j n:Nat}{m:List D→R D}{e:Expr}{es:List Expr}{fs:List Ex}{p:Pos}(d:Df X.prog X.w X.K X.mg X.base x k n m)(hr:L2.bq j X.A)(hg:L2.Gl X x)(ha:JA X (e::es) (eList fs))(hk:k≤j:=by decide)(hn:fs.length=n:=by rfl)
   (hdb:(x==("__debug__":Str))=false:=by decide) (he:starEach (e::es) X.env=(false,eval e X.env)::starEach es X.env:=by rfl) (hpl:(backTo pos (starEach es X.env)).any (·.1)=false:=by rfl):JE X (.Call (.Name x p) (e::es) [] pos) (ao m fs):=by
 obtain⟨f,fd,ps,h1,h2,h3,h4⟩:=d.ex
 exact bj (L2.rO h1 (hr.mono hk) hg h4 h3 h2 .nil L2.nK ha hdb he hpl) fun σ H Q h=>GW hn h
theorem wu{x:Str}{k j:Nat}{m:List D→R D}{p:Pos}(d:Df X.prog X.w X.K X.mg X.base x k 0 m)(hr:L2.bq j X.A)(hg:L2.Gl X x)(hk:k≤j:=by decide)(hdb:(x==("__debug__":Str))=false:=by decide):JE X (.Call (.Name x p) [] [] pos) (ao m []):=by
 obtain⟨f,fd,ps,h1,h2,h3,h4⟩:=d.ex
 refine bj (L2.zY h1 (hr.mono hk) hg h4 h3 h2 .nil L2.nK hdb) fun σ H Q ⟨ρ,F,d,hr,e,q⟩=>?_
 exact⟨F,[],d,hr.aM,ae.nil,rfl,e,q⟩
theorem ub{P:Program}{w:World}{K:PySem.W.Frag}{mg:Str→Option Value}{base:Heap}{x qual:Str}{st:Stmt}{f:Addr}{fd:FuncData}{N ps:List Str}{k n:Nat}{body:Sm}(Fu:L2.aR K x qual st f fd)(S:L2.aT N ps (L2.ai st))
   (h:∀(cdv:Value) (A:Around) (outer:List Env) (s:Shared) (H:Hp) (E:XK),L2.bq k (A.deeper (PyProof.Rows.envOfC qual (L2.ai st) s.heap.objs.size f cdv))→cT (L2.eX L2.df P w K mg base N qual (L2.ai st) f cdv A outer s H E).dU (L2.aQ st) body)
   (hn:ps.length=n:=by rfl):L2.cf P w K mg base L2.df (k+1) f fd ps (fS ⟨K,P,w⟩ (fn N.length body) n):=by
 refine Fu.ok S (fun vs H Q E h=>?_) (fun cdv A outer s H vs Q E hr hsp=>?_)
 · obtain⟨F,ds,d,_,rs,hl,_⟩:=h
   rw[←rs.length,hl,hn]
 · refine⟨fun D σ H'=>∃F0,dS ⟨K,P,w⟩ H F0 body D σ H',fun pins s' σ H' D I ⟨F0,q⟩=>h cdv A outer s H E hr F0 pins s' σ H' D I q,?_⟩
   refine vw (G:=H) (t:=fun D σ H'=>∃F0,dS ⟨K,P,w⟩ H F0 body D σ H') (fun F0 D σ H' h=>⟨F0,h⟩) hsp ?_
   have:=congrArg List.length S.pre
   rw[List.length_take]at this
   omega
theorem bu{P:Program}{w:World}{K:PySem.W.Frag}{mg:Str→Option Value}{base:Heap}{x qual:Str}{st:Stmt}{f:Addr}{fd:FuncData}{N ps:List Str}{k n:Nat}{body:Sm}(Fu:L2.aR K x qual st f fd)(hm:mg x=some (.ref f))(S:L2.aT N ps (L2.ai st))(hb:L2.Binds K fd ps [])
   (h:∀(cdv:Value) (A:Around) (outer:List Env) (s:Shared) (H:Hp) (E:XK),L2.bq k (A.deeper (PyProof.Rows.envOfC qual (L2.ai st) s.heap.objs.size f cdv))→cT (L2.eX L2.df P w K mg base N qual (L2.ai st) f cdv A outer s H E).dU (L2.aQ st) body)
   (hn:ps.length=n:=by rfl):Df P w K mg base x (k+1) n (fn N.length body):=⟨f,fd,ps,ub Fu S h hn,hb,Fu.kp,hm⟩
end
open L2 (It Turn cz)
section
variable{X:Cx}{M:Md}{G H H':Hp}{F0 F F':Addr→Prop}{σ:L2.St}{ρ:En}{pos:Pos}{DE:Ends}
noncomputable def iR(x:Str):It:=⟨fun i _=>i<x.cps.size,fun i H v H'=>H'=H∧∃c,x.cps[i]? =some c∧v=.str ⟨#[c]⟩,fun i _=>x.cps.size≤i⟩
theorem wH{P:Program}{w:World}{K:PySem.W.Frag}{tg:Expr}(x:Str)(t:Tok)(it:Addr):Turn P w K tg (iR x) [it] it (fun i h=>h.IsStrIter it "str_ascii_iterator" x t i) where
 mem:=by simp
 obj:=fun i h st b hb=>by
   have e:b=it:=by simpa using hb
   subst e
   obtain⟨o,e,c,d⟩:=st
   exact⟨o,e,fun v z=>by rw[d]at z;cases z⟩
 keep:=fun i h h' st k=>let⟨o,e,r⟩:=st;⟨o,k it (by simp) o e,r⟩
 item:=by
   intro X hP hw hK hc i pins s σ H E I hf st hg
   subst hP hw hK
   obtain⟨f0,f1,f2,f3,f4,f5⟩:=hf it (by simp)
   have hg:i<x.cps.size:=hg
   refine wpAny_pyNext_ascii_item st (c:=x.cps[i]) (by simp[hg]) fun h' st' sb=>?_
   have I1:Inv X pins σ H {s with heap:=h',toks:=s.toks+1}:=I.turned (t':=s.toks+1) (fun b o hb e=>(sb.2 b hb).trans e) f0 f1 f3 f4 f5
   obtain⟨o,e,c,d⟩:=id st'
   exact⟨_,rfl,L2.iZ (s:={s with heap:=h',toks:=s.toks+1}) e c d (by decide) ⟨.str ⟨#[x.cps[i]]⟩,H,I1,⟨_,rfl⟩,⟨rfl,_,by simp[hg],rfl⟩,st',fun b hb=>(hf b hb).1⟩⟩
 done:=by
   intro X hP hw hK hc i pins s σ H E I hf st hg
   subst hP hw hK
   have hg:x.cps.size≤i:=hg
   obtain⟨f0,f1,f2,f3,f4,f5⟩:=hf it (by simp)
   exact wpAny_pyNext_ascii_end (I.ok.hd hc) st (by simp[hg]) fun h' eb=>⟨rfl,I.turned (t':=s.toks) (fun b o hb e=>eb b o hb e) f0 f1 f3 f4 f5⟩
 self:=fun _ _ _ _ _ st h=>wpAny_pyIter_striter_ascii st h
theorem BD{P:Program}{w:World}{K:PySem.W.Frag}{tg:Expr}(x:Str)(t:Tok)(it:Addr):Turn P w K tg (iR x) [it] it (fun i h=>h.IsStrIter it "str_iterator" x t i) where
 mem:=by simp
 obj:=fun i h st b hb=>by
   have e:b=it:=by simpa using hb
   subst e
   obtain⟨o,e,c,d⟩:=st
   exact⟨o,e,fun v z=>by rw[d]at z;cases z⟩
 keep:=fun i h h' st k=>let⟨o,e,r⟩:=st;⟨o,k it (by simp) o e,r⟩
 item:=by
   intro X hP hw hK hc i pins s σ H E I hf st hg
   subst hP hw hK
   obtain⟨f0,f1,f2,f3,f4,f5⟩:=hf it (by simp)
   have hg:i<x.cps.size:=hg
   refine wpAny_pyNext_wide_item st (c:=x.cps[i]) (by simp[hg]) fun h' st' sb=>?_
   have I1:Inv X pins σ H {s with heap:=h',toks:=s.toks+1}:=I.turned (t':=s.toks+1) (fun b o hb e=>(sb.2 b hb).trans e) f0 f1 f3 f4 f5
   obtain⟨o,e,c,d⟩:=id st'
   exact⟨_,rfl,L2.iZ (s:={s with heap:=h',toks:=s.toks+1}) e c d (by decide) ⟨.str ⟨#[x.cps[i]]⟩,H,I1,⟨_,rfl⟩,⟨rfl,_,by simp[hg],rfl⟩,st',fun b hb=>(hf b hb).1⟩⟩
 done:=by
   intro X hP hw hK hc i pins s σ H E I hf st hg
   subst hP hw hK
   have hg:x.cps.size≤i:=hg
   obtain⟨f0,f1,f2,f3,f4,f5⟩:=hf it (by simp)
   exact wpAny_pyNext_wide_end (I.ok.hd hc) st (by simp[hg]) fun h' eb=>⟨rfl,I.turned (t':=s.toks) (fun b o hb e=>eb b o hb e) f0 f1 f3 f4 f5⟩
 self:=fun _ _ _ _ _ st h=>wpAny_pyIter_striter_wide st h
noncomputable def uE(K:PySem.W.Frag)(tl:TE):TI:=fun σ H R=>tl σ H fun x H1=>(∃a,x=.ref a∧(∃xs,aN K H1 a xs)∧R (L2.ka K a) H1)∨(∃a,x=.ref a∧(∃xs,aW K H1 a xs)∧R (L2.jU K a) H1)∨∃z,x=.str z∧R (iR z) H1
theorem wm{tg:Expr}{pins:List (Addr×Obj)}{R:It→Hp→Prop}{s1:Shared}{x:V}{v:Value}(I1:Inv X pins σ H s1)(r1:RelV x v)
   (q1:(∃a,x=.ref a∧(∃xs,aN X.K H a xs)∧R (L2.ka X.K a) H)∨(∃a,x=.ref a∧(∃xs,aW X.K H a xs)∧R (L2.jU X.K a) H)∨∃z,x=.str z∧R (iR z) H):
   wpAny (model X.prog X.w) X.A (pyIter v) (L2.lO X pins σ tg R) X.xe s1:=by
 have fp:∀b∈[s1.heap.objs.size],cz X pins H b:=fun b hb=>by
   have e:b=s1.heap.objs.size:=by simpa using hb
   subst e
   exact I1.gA (Nat.le_refl _) (I1.au.fresh (Nat.le_refl _))
 rcases q1 with⟨a,rfl,⟨xs,hq⟩,q⟩|⟨a,rfl,⟨xs,hq⟩,q⟩|⟨z,rfl,q⟩
 · cases r1
   obtain⟨its,rv,p,hz⟩:=I1.list hq
   refine wpAny_pyIter_list p.isList ?_
   exact⟨s1.heap.objs.size,[s1.heap.objs.size],_,_,H,rfl,I1.kept (t':=s1.toks) fun b o e=>Heap.get?_push_of_some _ e,L2.AV a _,⟨_,Heap.get?_push_size _ rfl,rfl,rfl⟩,fp,q⟩
 · cases r1
   obtain⟨its,rv,p,hz⟩:=I1.tuple hq
   refine wpAny_pyIter_tuple (show s1.heap.IsTuple a its.toArray from p) ?_
   exact⟨s1.heap.objs.size,[s1.heap.objs.size],_,_,H,rfl,I1.kept (t':=s1.toks) fun b o e=>Heap.get?_push_of_some _ e,L2.x6 a _,⟨_,Heap.get?_push_size _ rfl,rfl,rfl⟩,fp,q⟩
 · obtain⟨t,rfl⟩:=r1
   cases ha:z.cps.all (· <128)
   · refine wpAny_pyIter_wide ha ?_
     exact⟨s1.heap.objs.size,[s1.heap.objs.size],_,_,H,rfl,I1.kept (t':=s1.toks) fun b o e=>Heap.get?_push_of_some _ e,BD z t _,⟨_,Heap.get?_push_size _ rfl,rfl,rfl⟩,fp,q⟩
   · refine wpAny_pyIter_ascii ha ?_
     exact⟨s1.heap.objs.size,[s1.heap.objs.size],_,_,H,rfl,I1.kept (t':=s1.toks) fun b o e=>Heap.get?_push_of_some _ e,wH z t _,⟨_,Heap.get?_push_size _ rfl,rfl,rfl⟩,fp,q⟩
theorem Cz{tg l:Expr}{tl:TE}(hl:PE X l tl):L2.PI X tg l (uE X.K tl):=fun pins s σ H R I h=>
 L2.ar (hl pins s σ H _ I h) fun v s1 ⟨x,H1,I1,r1,q1⟩=>wm I1 r1 q1
theorem CJ{x:Str}:Gives M (iR x) H F (x.cps.toList.map fun c=>.str ⟨#[c]⟩):=by
 intro H' F' mv tr
 refine⟨fun i d hd=>?_,?_⟩
 · rw[List.getElem?_map]at hd
   cases e:x.cps.toList[i]? with
   |none=>rw[e]at hd;cases hd
   | some c=>
     rw[e]at hd
     cases hd
     have e':x.cps[i]? =some c:=by simpa using e
     refine⟨show i<x.cps.size from(Array.getElem?_eq_some_iff.mp e').1,fun y H2 hy=>?_⟩
     obtain⟨rfl,c',hc',rfl⟩:=hy
     rw[e']at hc'
     cases hc'
     exact⟨af.refl _,ki⟩
 · show x.cps.size≤_
   simp
theorem x3{K:PySem.W.Frag}{d:D}{ds:List D}{x:V}{R:It→Hp→Prop}(e:items d=.ok ds)(rv:Rep M H F d x)(q:∀J,Gives M J H F ds→R J H):
   (∃a,x=.ref a∧(∃xs,aN M.K H a xs)∧R (L2.ka M.K a) H)∨(∃a,x=.ref a∧(∃xs,aW M.K H a xs)∧R (L2.jU M.K a) H)∨∃z,x=.str z∧R (iR z) H:=by
 unfold items at e
 split at e
 · cases e
   simp only[Rep]at rv
   obtain⟨a,xs,rfl,h,rs⟩:=rv
   exact .inl ⟨a,rfl,⟨xs,h.sq⟩,q _ (DV h rs)⟩
 · cases e
   simp only[Rep]at rv
   obtain⟨a,xs,rfl,h,rs⟩:=rv
   exact .inr (.inl ⟨a,rfl,⟨xs,h.sq⟩,q _ (EF h rs)⟩)
 · cases e
   exact .inr (.inr ⟨_,dG rv,q _ CJ⟩)
 ·cases e
theorem Am{tg l:Expr}{fa:Ex}(ha:JE X l fa):JI X tg l (bM fa):=
 kK (Cz ha) fun σ H Q ⟨ρ,F,ds,r,e,q⟩=>by
   obtain⟨d,ed,e⟩:=ah.mp e
   exact⟨ρ,F,d,r,ed,fun v H1 s1 rv=>x3 (K:=X.K) (M:=aj X) e rv fun J g=>q J H1 s1 g⟩
end
structure bo(P:Program)(w:World)(K:PySem.W.Frag)(mg:Str→Option Value)(x:Str)(d:D):Prop where
 ex:∃v u,mg x=some u∧RelV v u∧∀H F,Rep ⟨K,P,w⟩ H F d v
theorem uK{X:Cx}{pos:Pos}{x:Str}{d:D}(g:bo X.prog X.w X.K X.mg x d)(hg:L2.Gl X x)(hd:(x==("__debug__":Str))=false:=by decide):JE X (.Name x pos) (eC d):=by
 obtain⟨v,u,h1,h2,h3⟩:=g.ex
 exact FT hg h1 h2 h3 hd
noncomputable def iM:Expr→Bool
 |.Starred .. =>false
 |_=>true
theorem aS{e:Expr}{es:List Expr}{env:Env}(h:iM e=true):starEach (e::es) env=(false,eval e env)::starEach es env:=by cases e<;>first|rfl|cases h
theorem lH{pos:Pos}{env:Env}:∀ {es:List Expr},es.all iM=true→(backTo pos (starEach es env)).any (·.1)=false
 |[],_=>rfl
 | e::es,h=>by
   rw[List.all_cons,Bool.and_eq_true]at h
   rw[aS h.1]
   show(false||(backTo pos (starEach es env)).any (·.1))=false
   rw[Bool.false_or]
   exact lH h.2
theorem tj{pos:Pos}{env:Env}:∀ {es:List Expr},es.all iM=true→(backTo pos (starEach es env)).all (fun x=> !x.1)=true
 |[],_=>rfl
 | e::es,h=>by
   rw[List.all_cons,Bool.and_eq_true]at h
   rw[aS h.1]
   show(true&&(backTo pos (starEach es env)).all (fun x=> !x.1))=true
   rw[Bool.true_and]
   exact tj h.2
theorem tK{cpos:Pos}{env:Env}{e:Expr}{es:List Expr}(h:(e::es).all iM=true)(hl:(e::es).length<30):((backTo cpos (starEach (e::es) env)).all (fun x=> !x.1)&&(backToKw cpos (keywordEach [] env)).all (fun x=>x.1.isSome)
     &&decide ((e::es).length+([]:List Keyword).length+(if([]:List Keyword).isEmpty then 0 else 1)<30))=true:=by
 rw[tj h,Bool.true_and]
 show(true&&decide ((e::es).length+0+0<30))=true
 rw[Bool.true_and,decide_eq_true_eq]
 exact hl
noncomputable def sH:Expr→Bool
 |.ListComp .. =>false
 |.SetComp .. =>false
 |.DictComp .. =>false
 |_=>true
theorem gC{e:Expr}{t:Option Expr}{l:Nat}{env:Env}(h:sH e=true):swapsWith e t l env=pure false:=by cases e<;>first|rfl|cases h
theorem qQ{e tg:Expr}{l:Nat}{env:Env}(h:sH e=true):swapsWithSole [tg] e l env=pure false:=gC h
noncomputable def zX:Expr→Bool
 |.Tuple .. =>false
 |_=>true
theorem pZ{e tg:Expr}{env:Env}(h:zX e=true):swappedStores [tg] e env=pure none:=by
 cases tg<;>first|rfl|(cases e<;>first|rfl|cases h)
noncomputable def vD:Expr→Bool
 |.Tuple .. =>false
 |.List .. =>false
 |_=>true
theorem B3{e tg:Expr}{env:Env}(h:vD tg=true):swappedStores [tg] e env=pure none:=by
 cases tg<;>first|rfl|cases h
theorem nI{e:Expr}{es:List Expr}{env:Env}(h:iM e=true):(assignEach (e::es) env).map (·.2)=assign e env::(assignEach es env).map (·.2):=by cases e<;>first|rfl|cases h
theorem gj{env:Env}:∀ {es:List Expr},(assignEach es env).length=es.length
 |[]=>rfl
 | e::es=>by
   have:=gj (env:=env) (es:=es)
   cases e<;>(show(assignEach es env).length+1=_;rw[this];rfl)
theorem qy{env:Env}:∀ {es:List Expr},es.all iM=true→(assignEach es env).findIdx? (·.1)=none
 |[],_=>rfl
 | e::es,h=>by
   rw[List.all_cons,Bool.and_eq_true]at h
   have ih:=qy (env:=env) h.2
   have:∃t,assignEach (e::es) env=(false,t)::assignEach es env:=by
     have h1:=h.1
     cases e<;>first|exact⟨_,rfl⟩|cases h1
   obtain⟨t,e1⟩:=this
   rw[e1,List.findIdx?_cons,ih];rfl
noncomputable def FU:Expr→Bool
 |.Set .. =>false
 |_=>true
theorem lJ{e:Expr}{env:Env}(h:FU e=true):∀x,foldedSetIterable e env x=pure x:=by intro x;cases e<;>first|rfl|cases h
noncomputable def plainT:Expr→Bool
 |.UnaryOp .Not _ _=>false
 |.BoolOp .. =>false
 |.IfExp .. =>false
 |.Compare .. =>false
 |_=>true
theorem uM{e:Expr}{env:Env}(h:plainT e=true):∀whole,isTrue e env whole=(do let v ←whole;standAt e.pos;holding [v] (truthy v)):=by
 intro w
 cases e with
 |UnaryOp op _ _=>cases op<;>first|rfl|cases h
 |_=>first|rfl|cases h
theorem pF{x:Str}{p:Pos}{a:Str}{env:Env}{w:Sem Value}:attributeBase (.Name x p) a env w=w:=rfl
noncomputable def DW:Expr→Bool
 |.Slice .. =>false
 |_=>true
theorem ql{b:Expr}(h:DW b=true):L2.ja b:=by intro o i;cases b<;>first|rfl|cases h
theorem walk{l:PySem.W.OpenLaw}{q:Program}{loose:List Str}{XP:(Str→Option Value)→Heap→Prop}{YP:World→Heap→Prop}{d:DefRec}{K:Params→PySem.W.Frag}{k:Nat}{x:Str}{m:List D→R D}(hn:l.most=some 63)(hdf:d.params.defaults=[])(hr:L2.bq k PySem.callerA)
   (hY:∀(w:World) (h:Heap),YP w h→(K w.params).In h)
   (F:∀(w:World) (mg:Str→Option Value) (fa:Addr) (h:Heap),(K w.params).In h→h.Ns mainGlobals mg→mg d.name=some (.ref fa)→
     ∃fd:FuncData,(∀(s:Shared) (u:Value),BindsTo s fd ⟨[u],[]⟩ [(x,u)])∧∀base:Heap,(K w.params).In base→base.Ns mainGlobals mg→L2.cf l.prog w (K w.params) mg base L2.df k fa fd [x] (fS ⟨K w.params,l.prog,w⟩ m 1))
   (hT:∀ns:List Int,ns.length≤63→m [.lst (ns.map .int)]=.ok (.bl true)):
   PySem.W.WalkO q loose XP YP l.row.toRowW d [] (fun f vs=>PySem.call f vs):=
 L2.uR (n:=63) (k:=k) (x:=x) (CX:=fun _=>L2.df) (sp:=fun w=>fS ⟨K w.params,l.prog,w⟩ m 1) hn (by decide) hdf hr hY F (fun w H a ns hl _ hS=>by
   refine⟨fun _=>False,[.lst (ns.map .int)],.bl true,fun p h=>h.elim,ae.cons ?_ ae.nil,rfl,hT ns hl,fun v H' _ rv=>cS rv⟩
   have rints:∀(ns:List Int) (M:Md) (H:Hp),ae M H (fun _=>False) (ns.map D.int) (ns.map V.int):=by
     intro ns M H
     induction ns with
     |nil=>exact ae.nil
     |cons n r ih=>exact ae.cons cv ih
   simp only[Rep]
   refine⟨a,ns.map V.int,rfl,?_,rints ns _ H⟩
   rcases hS with h|h
   ·exact .inl ⟨fun h=>h,h⟩
   ·exact .inr h) fun _ _ _ _ _ z=>z
open L2 (Un)
section
variable{prog:Program}{w:World}{A:Around}{R:Result→Shared→Prop}{s:Shared}
theorem y4{elt target iter:Expr}{ifs:List Expr}{scope:Scope}{pos:Pos}{it acc:Value}{env:Env}(I:Nat→Shared→Prop)
   (turn:∀n s,I n s→wpAny (model prog w) A (pyNext it) (fun r s₁=>match r with
     |none=>R (.ok .next) s₁
     |some v=>wpAny (model prog w) A (letOwnedTupleGo target it v) (fun _ s₁'=>wpAny (model prog w) A (assign target env v) (fun _ s₂=>
         wpAny (model prog w) A (forIn ifs true fun c r=>if r=true then do let ok ←isTrue c env (eval c env);pure (ForInStep.yield ok)else pure (ForInStep.yield r)) (fun ok s₃=>
           if ok=true then wpAny (model prog w) A (eval elt env) (fun x s₄=>
             wpAny (model prog w) A (call (.builtin "list.append") [acc,x]) (fun _ s₅=>∃m,m<n∧I m s₅) (notedBy (model prog w) A env fun e s'=>R (.error e) s') s₄) (notedBy (model prog w) A env fun e s'=>R (.error e) s') s₃
           else ∃m,m<n∧I m s₃) (notedBy (model prog w) A env fun e s'=>R (.error e) s') s₂) (notedBy (model prog w) A env fun e s'=>R (.error e) s') s₁') (notedBy (model prog w) A env fun e s'=>R (.error e) s') s₁) (notedBy (model prog w) A env fun e s'=>R (.error e) s') s)
   (n:Nat) (h:I n s):codeAny (model prog w) A (.compLoop (.ListComp elt [⟨target,iter,ifs,0⟩] scope pos) 0 it acc env) R s:=by
 refine codeAny_loop rfl I (fun n s hI=>?_) n h
 show wpAny _ A ((compTurn (.ListComp elt [⟨target,iter,ifs,0⟩] scope pos) 0 it acc env).onRaise (fun x=>do noteFrame x env;theTreesLotGoes x)) _ _ s
 refine wpAny_noted ?_
 rw[compTurn_list]
 refine wpAny_bind (wpAny_standAt (wpAny_bind (wpAny_mono (turn n s hI) (fun r s₁ h₁=>?_) fun _ _ h'=>h')))
 cases r with
 |none=>exact wpAny_pure h₁
 | some v=>
   refine wpAny_bind (wpAny_mono h₁ (fun _ s₁' h₁'=>?_) fun _ _ h'=>h')
   refine wpAny_bind (wpAny_mono h₁' (fun _ s₂ h₂=>wpAny_bind (wpAny_mono h₂ (fun ok s₃ h₃=>?_) fun _ _ h'=>h')) fun _ _ h'=>h')
   cases ok with
   |false=>exact wpAny_pure ⟨rfl,h₃⟩
   | true=>
     exact wpAny_bind (wpAny_bind (wpAny_mono h₃ (fun x s₄ h₄=>wpAny_bind (wpAny_mono h₄ (fun _ s₅ h₅=>wpAny_pure (wpAny_pure ⟨rfl,h₅⟩)) fun _ _ h'=>h')) fun _ _ h'=>h'))
end
noncomputable def cH(X:Cx)(scope:Scope)(cl:List (Str×Addr))(C:Addr)(N:List Str)(s:Shared)(H:Hp)(fp:List Addr):Cx where
 prog:=X.prog
 w:=X.w
 K:=X.K
 mg:=X.mg
 base:=X.base
 A:=X.A
 N:=N
 bX:=s
 cY:=H
 env:=compEnvC scope cl C X.env
 outer:=X.stack
 stack:=X.stack
 ex:=fp
 fn:=fun _=>false
 calm:=X.calm
 pn:=[]
 xe:=X.xe
noncomputable abbrev jO(X:Cx)(ifs:List Expr)(cs:List aG):Prop:=Paired (fun e c=>JT X e c) ifs cs
theorem sf{X:Cx}{M:Md}(hM:M=aj X){pins:List (Addr×Obj)}{σ:L2.St}{ρ:En}{F:Addr→Prop}{E:Value→Shared→Prop}(hE:∀e s,X.xe e s→E e s):
   ∀ {ifs:List Expr} {cs:List aG},jO X ifs cs→∀ {s:Shared} {H:Hp} {t:Bool} {Q:Bool→Hp→Prop},Inv X pins σ H s→bb M H F σ ρ→dP.lp cs ρ=.ok t→(∀H',af H H'→Q t H')→
     wpAny (model X.prog X.w) X.A (forIn ifs true fun c r=>if r=true then do let ok ←isTrue c X.env (eval c X.env);pure (ForInStep.yield ok)else pure (ForInStep.yield r)) (fun ok s'=>∃H',Inv X pins σ H' s'∧Q ok H') E s
 | [],_,.nil,s,H,t,Q,I,r,e,q=>by
   cases e
   exact wpAny_tests_nil ⟨H,I,q H (af.refl H)⟩
 | c::ifs,_,.cons h hs,s,H,t,Q,I,r,e,q=>by
   unfold dP.lp at e
   obtain⟨b,eb,e⟩:=ah.mp e
   rw[List.forIn_cons]
   simp only[if_true]
   refine wpAny_bind (wpAny_bind (wpAny_mono (h pins s σ H (fun b' H'=>b'=b∧af H H') I ⟨ρ,F,b,hM▸r,eb,fun H' s'=>⟨rfl,s'⟩⟩) (fun b' s1 h1=>wpAny_pure ?_) hE))
   obtain⟨H1,I1,rfl,s1'⟩:=h1
   dsimp only
   cases b' with
   | true=>
     rw[if_pos rfl]at e
     exact sf hM hE hs I1 (r.same s1') e fun H2 s2=>q H2 (s1'.trans s2)
   | false=>
     rw[if_neg (by decide)]at e
     cases e
     have pass:∀(l:List Expr) (s:Shared),(∃H',Inv X pins σ H' s∧Q false H')→wpAny (model X.prog X.w) X.A (forIn l false fun c r=>if r=true then do let ok ←isTrue c X.env (eval c X.env);pure (ForInStep.yield ok)else pure (ForInStep.yield r)) (fun ok s'=>∃H',Inv X pins σ H' s'∧Q ok H') E s:=by
       intro l
       induction l with
       |nil=>intro s h;exact wpAny_pure h
       | cons a l ih=>
         intro s h
         rw[List.forIn_cons]
         exact wpAny_bind (wpAny_pure (ih s h))
     exact pass ifs _ ⟨H1,I1,q H1 s1'⟩
theorem nM{env:Env}:∀(names:List (Str×NameKind)) (cs:List (Str×Addr)),(∀y∈names,y.2=.free→∃c,env.cells.lookup y.1=some c)→(∀x c,cs.lookup x=some c→env.cells.lookup x=some c)→
   ∃cl,(forIn names cs fun(x:Str×NameKind) r=>(if(x.2==.free)=true then do let c ←cellOf env x.1;pure (ForInStep.yield ((x.1,c)::r))else pure (ForInStep.yield r):Sem (ForInStep (List (Str×Addr)))))=(pure cl:Sem _)∧
     (∀x c,cl.lookup x=some c→env.cells.lookup x=some c)∧(∀x,(∃c,cs.lookup x=some c)∨(x,NameKind.free)∈names→∃c,cl.lookup x=some c)
 |[],cs,_,hc=>⟨cs,rfl,hc,fun x h=>h.elim (fun h=>h) fun h=>nomatch h⟩
 | (n,k)::names,cs,hn,hc=>by
   rw[List.forIn_cons]
   by_cases hk:k=.free
   · subst hk
     obtain⟨c,ec⟩:=hn _ List.mem_cons_self rfl
     obtain⟨cl,e,h1,h2⟩:=nM names ((n,c)::cs) (fun y hy=>hn y (List.mem_cons_of_mem _ hy)) (fun x d h=>by
       rw[List.lookup_cons]at h
       cases hx:x==n with
       |true=>rw[hx]at h;cases h;rw[beq_iff_eq.mp hx];exact ec
       |false=>rw[hx]at h;exact hc x d h)
     refine⟨cl,?_,h1,fun x h=>h2 x ?_⟩
     · have:cellOf env n=pure c:=by unfold cellOf;rw[show List.lookup n env.cells=some c from ec]
       simp only[beq_self_eq_true,if_true,this]
       exact e
     · rcases h with⟨d,h⟩|h
       · left
         rw[List.lookup_cons]
         cases x==n with
         |true=>exact⟨c,rfl⟩
         |false=>exact⟨d,h⟩
       · rcases List.mem_cons.mp h with h|h
         · cases h
           left
           rw[List.lookup_cons,beq_self_eq_true]
           exact⟨c,rfl⟩
         ·exact .inr h
   · obtain⟨cl,e,h1,h2⟩:=nM names cs (fun y hy=>hn y (List.mem_cons_of_mem _ hy)) hc
     refine⟨cl,?_,h1,fun x h=>h2 x (h.imp (fun h=>h) fun h=>?_)⟩
     · have:(k==NameKind.free)=false:=by cases k<;>first|rfl|exact absurd rfl hk
       simp only[this,Bool.false_eq_true,if_false]
       exact e
     · rcases List.mem_cons.mp h with h|h
       ·cases h;exact absurd rfl hk
       ·exact h
theorem DC{scope:Scope}{env:Env}(hn:∀y∈scope.names,y.2=.free→∃c,env.cells.lookup y.1=some c):
   ∃cl,closureFor scope env=pure cl∧(∀x c,cl.lookup x=some c→env.cells.lookup x=some c)∧∀x,(x,NameKind.free)∈scope.names→∃c,cl.lookup x=some c:=by
 obtain⟨cl,e,h1,h2⟩:=nM scope.names [] hn (fun x c h=>nomatch h)
 refine⟨cl,?_,h1,fun x h=>h2 x (.inr h)⟩
 unfold closureFor
 have:∀(l:List (Str×NameKind)) (cs:List (Str×Addr)),(forIn l cs fun(x:Str×NameKind) (r:List (Str×Addr))=>(match x with|(name,kind)=>do
     if(kind==.free)=true then
       let c ←cellOf env name
       pure (ForInStep.yield ((name,c)::r))
     else pure (ForInStep.yield r):Sem (ForInStep (List (Str×Addr)))))=forIn l cs fun(x:Str×NameKind) r=>(if(x.2==.free)=true then do let c ←cellOf env x.1;pure (ForInStep.yield ((x.1,c)::r))else pure (ForInStep.yield r):Sem (ForInStep (List (Str×Addr)))):=fun _ _=>rfl
 show(forIn scope.names [] _ >>= fun r=>pure r)=_
 first
   |(rw[show(forIn scope.names ([]:List (Str×Addr)) _:Sem (List (Str×Addr)))=pure cl from e];rfl)
   |(erw [e];rfl)
set_option maxHeartbeats 1000000
section
variable{X:Cx}{M:Md}{G H H':Hp}{F0 F F':Addr→Prop}{σ:L2.St}{ρ:En}{pos:Pos}
noncomputable def gG(n:Nat)(tg:bN):Prop:=∀d ρ ρ',tg d ρ=.ok ρ'→ρ'.length=ρ.length∧∀j:Nat,n≤j→ρ'[j]? =ρ[j]?
theorem qq{n i:Nat}(h:i<n):gG n (aB i):=fun d ρ ρ' e=>by
 cases e
 exact⟨by simp,fun j hj=>List.getElem?_set_ne (by omega)⟩
theorem qB{n:Nat}:∀ {is:List Nat} {ds:List D} {ρ ρ':En},is.all (· <n)=true→cK is ds ρ=.ok ρ'→ρ'.length=ρ.length∧∀j:Nat,n≤j→ρ'[j]? =ρ[j]?
 |[],[],_,_,_,e=>by cases e;exact⟨rfl,fun _ _=>rfl⟩
 | i::is,d::ds,ρ,ρ',h,e=>by
   rw[List.all_cons,Bool.and_eq_true,decide_eq_true_eq]at h
   simp only[cK]at e
   obtain⟨h1,h2⟩:=qB h.2 e
   exact⟨by rw[h1];simp,fun j hj=>by rw[h2 j hj];exact List.getElem?_set_ne (by omega)⟩
 |[],_::_,_,_,_,e=>by cases e
 |_::_,[],_,_,_,e=>by cases e
theorem w9{n:Nat}{is:List Nat}(h:is.all (· <n)=true):gG n (cW is):=fun d ρ ρ' e=>by
 unfold cW at e
 split at e
 ·exact qB h e
 ·cases e
theorem bb.less{ρ':En}(r:bb M H F σ ρ)(hl:ρ'.length=ρ.length)(h:∀(j:Nat) s,ρ'[j]? =some s→s=.un∨((∃d,s=.sh d)∧ρ[j]? =some s)):bb M H F σ ρ' where
 len:=by rw[hl,r.len]
 aM:=r.aM
 sh i d e:=by
   rcases h i _ e with z|⟨_,z⟩
   ·cases z
   ·exact r.sh i d z
 ol i d e:=by
   rcases h i _ e with z|⟨⟨_,z⟩,_⟩<;>cases z
 od i k d e:=by
   rcases h i _ e with z|⟨⟨_,z⟩,_⟩<;>cases z
 cw i j a oi:=by
   rcases oi with⟨_,e⟩|⟨_,_,e⟩
   ·rcases h i _ e with z|⟨⟨_,z⟩,_⟩<;>cases z
   ·rcases h i _ e with z|⟨⟨_,z⟩,_⟩<;>cases z
 on:=.no fun i xss e=>by rcases h i _ e with z|⟨⟨_,z⟩,_⟩<;>cases z
theorem fW{ρ:En}(h:∀(j:Nat) s,ρ[j]? =some s→s=.un∨∃d,s=.sh d){i:Nat}(o:bx ρ i):False:=by
 rcases o with⟨_,e⟩|⟨_,_,e⟩
 ·rcases h i _ e with z|⟨_,z⟩<;>cases z
 ·rcases h i _ e with z|⟨_,z⟩<;>cases z
noncomputable def ent(n:Nat)(ρ:En)(fv:List Nat):En:=List.replicate n .un++frees ρ fv
theorem hJ{n:Nat}{fv:List Nat}{j:Nat}{s:Slot}(h:(ent n ρ fv)[j]? =some s):s=.un∨((∃d,s=.sh d)∧n≤j∧∃i,fv[j - n]? =some i∧ρ[i]? =some s):=by
 unfold ent at h
 rw[List.getElem?_append,List.length_replicate]at h
 split at h
 · rename_i hn
   rw[List.getElem?_replicate,if_pos hn]at h
   cases h
   exact .inl rfl
 · rename_i hn
   unfold frees at h
   rw[List.getElem?_map]at h
   cases e:fv[j - n]? with
   |none=>rw[e]at h;cases h
   | some i=>
     rw[e]at h
     have hs:p0 ρ[i]? =s:=by simpa using h
     subst hs
     cases hρ:ρ[i]? with
     |none=>exact .inl rfl
     | some z=>
       cases z with
       |sh d=>exact .inr ⟨⟨d,rfl⟩,by omega,i,rfl,hρ⟩
       |_=>exact .inl rfl
noncomputable def stC(n:Nat)(σ:L2.St)(fv:List Nat):L2.St:=List.replicate n none++fv.map fun i=>(σ[i]?).getD none
theorem wJ{n:Nat}{fv:List Nat}(r:bb M H F σ ρ):bb M H F (stC n σ fv) (ent n ρ fv) where
 len:=by unfold stC ent frees;simp
 aM:=r.aM
 sh j d e:=by
   rcases hJ e with z|⟨_,hn,i,hi,z⟩
   ·cases z
   · obtain⟨v,ev,rv⟩:=r.sh i d z
     refine⟨v,?_,rv⟩
     unfold stC
     rw[List.getElem?_append_right (by simpa using hn),List.length_replicate,List.getElem?_map,hi]
     simp[ev]
 ol j d e:=by rcases hJ e with z|⟨⟨_,z⟩,_⟩<;>cases z
 od j k d e:=by rcases hJ e with z|⟨⟨_,z⟩,_⟩<;>cases z
 cw j k a oj:=by
   exact(fW (fun j s e=>(hJ e).imp (fun h=>h) fun h=>h.1) oj).elim
 on:=.no fun j xss e=>by rcases hJ e with z|⟨⟨_,z⟩,_⟩<;>cases z
theorem pw{scope:Scope}{env:Env}:∀ {names:List (Str×NameKind)} {x:Str} {k:NameKind},(names.map fun(n,k)=>if(k==NameKind.free&&env.scope.kind==.function&&env.kindOf n==some .cell)then(n,NameKind.cell)else(n,k)).lookup x=some k→
   (k=.cell∨k=.free)→(∀y∈names,y.2≠.cell)→(x,NameKind.free)∈names
 |[],_,_,h,_,_=>by simp at h
 | (n,q)::r,x,k,h,hk,hc=>by
   have ih:=@pw scope env r x k
   have hcr:∀y∈r,y.2≠.cell:=fun y hy=>hc y (List.mem_cons_of_mem _ hy)
   have hq:q≠.cell:=hc _ List.mem_cons_self
   have h':List.lookup x ((if(q==NameKind.free&&env.scope.kind==.function&&env.kindOf n==some .cell)=true then(n,NameKind.cell)else(n,q))::r.map fun(n,k)=>if(k==NameKind.free&&env.scope.kind==.function&&env.kindOf n==some .cell)then(n,NameKind.cell)else(n,k))=some k:=h
   cases hx:x==n with
   | true=>
     have:=beq_iff_eq.mp hx
     subst this
     by_cases hcnd:(q==NameKind.free&&env.scope.kind==.function&&env.kindOf x==some .cell)=true
     · have:q=.free:=by
         rw[Bool.and_eq_true,Bool.and_eq_true]at hcnd
         have:=hcnd.1.1
         cases q<;>first|rfl|cases this
       subst this
       exact List.mem_cons_self
     · rw[if_neg hcnd,List.lookup_cons,beq_self_eq_true]at h'
       cases h'
       rcases hk with rfl|rfl
       ·exact absurd rfl hq
       ·exact List.mem_cons_self
   | false=>
     refine List.mem_cons_of_mem _ (ih ?_ hk hcr)
     by_cases hcnd:(q==NameKind.free&&env.scope.kind==.function&&env.kindOf n==some .cell)=true
     ·rw[if_pos hcnd,List.lookup_cons,hx]at h';exact h'
     ·rw[if_neg hcnd,List.lookup_cons,hx]at h';exact h'
theorem n0{env:Env}:∀ {names:List (Str×NameKind)} {x:Str},names.lookup x=some .free→(names.map fun(n,k)=>if(k==NameKind.free&&env.scope.kind==.function&&env.kindOf n==some .cell)then(n,NameKind.cell)else(n,k)).lookup x=some .cell∨
   (names.map fun(n,k)=>if(k==NameKind.free&&env.scope.kind==.function&&env.kindOf n==some .cell)then(n,NameKind.cell)else(n,k)).lookup x=some .free
 |[],_,h=>by simp at h
 | (n,q)::r,x,h=>by
   show List.lookup x ((if(q==NameKind.free&&env.scope.kind==.function&&env.kindOf n==some .cell)=true then(n,NameKind.cell)else(n,q))::r.map fun(n,k)=>if(k==NameKind.free&&env.scope.kind==.function&&env.kindOf n==some .cell)then(n,NameKind.cell)else(n,k))=_∨
     List.lookup x ((if(q==NameKind.free&&env.scope.kind==.function&&env.kindOf n==some .cell)=true then(n,NameKind.cell)else(n,q))::r.map fun(n,k)=>if(k==NameKind.free&&env.scope.kind==.function&&env.kindOf n==some .cell)then(n,NameKind.cell)else(n,k))=_
   rw[List.lookup_cons]at h
   by_cases hcnd:(q==NameKind.free&&env.scope.kind==.function&&env.kindOf n==some .cell)=true
   · rw[if_pos hcnd,List.lookup_cons]
     cases hx:x==n with
     |true=>exact .inl rfl
     |false=>rw[hx]at h;exact n0 h
   · rw[if_neg hcnd,List.lookup_cons]
     cases hx:x==n with
     |true=>rw[hx]at h;exact .inr h
     |false=>rw[hx]at h;exact n0 h
structure i5(X:Cx)(scope:Scope)(tn fv:List Str)(fvi:List Nat):Prop where
 kind:scope.kind=.function
 oa:∀y∈scope.names,y.2≠.cell
 names:∀y∈scope.names,y.2=.local→scope.names.lookup y.1=some .local
 free:∀y∈scope.names,y.2=.free→X.env.scope.names.lookup y.1=some .cell
 CY:∀y∈scope.names,y.2=.free→scope.names.lookup y.1=some .free
 Ai:∀(j:Nat) i,fvi[j]? =some i→∃x,fv[j]? =some x∧X.N[i]? =some x∧(x,NameKind.free)∈scope.names
 len:fv.length=fvi.length
theorem si (tn fv:List Str) (fvi:List Nat) {elt iter target:Expr} {ifs:List Expr} {scope:Scope} {it:br} {tg:bN} {cs:List aG} {el:Ex} (hxe:∀e s,¬X.xe e s) (hc:X.calm=true) (ok:i5 X scope tn fv fvi) (hi:JI X target iter it) (low:gG tn.length tg)
   (ht:∀cl C s H fp,JG (cH X scope cl C (tn++fv) s H fp) target tg) (hcs:∀cl C s H fp,jO (cH X scope cl C (tn++fv) s H fp) ifs cs) (hel:∀cl C s H fp,JE (cH X scope cl C (tn++fv) s H fp) elt el)
   (hs:∀x,foldedSetIterable iter X.env x=pure x) {use:Option (Value→Sem Unit)} {Qc:Value→Shared→Prop} {pins:List (Addr×Obj)} {s:Shared} {all:List D} {p1:Pos} (I:Inv X pins σ H s) (hr:bb (aj X) H F σ ρ) (e:bE it tn.length fvi tg cs el ρ=.ok (.lst all))
   (hend:∀D C s4 H' vs Hq f,(∃m,s4.heap.Ns C m)→Inv X pins σ H' s4→cz X pins H' C→af H Hq→Hq D=none→ae (aj X) Hq F all vs→upd Hq D (.lst vs)=H'→compPost (model X.prog X.w) X.A X.xe use Qc (.ref D) C (.ok f) s4):
   wpAny (model X.prog X.w) X.A (comprehension (.ListComp elt [⟨target,iter,ifs,0⟩] scope pos) scope X.env p1 (newList []) false (eval iter X.env) use) Qc X.xe s:=by
 obtain⟨ds,ed,e⟩:=ah.mp e
 have hlen:ds.length≤sizeLine:=by
   by_cases h:ds.length≤dW
   ·exact h
   ·rw[if_neg h]at e;cases e
 rw[if_pos (show ds.length≤dW from hlen)]at e
 obtain⟨ys,ey,e⟩:=ah.mp e
 have ey:dP tg cs el (ent tn.length ρ fvi) ds=.ok ys:=ey
 cases e
 obtain⟨cl,hclos,hsub,hhas⟩:=DC (scope:=scope) (env:=X.env) (fun y hy hf=>I.ok.has y.1 (.inl (ok.free y hy hf)))
 refine wpAny_comprehension_free (gs:=[]) rfl hs hclos ok.kind ok.names ?_
 refine L2.ar (hi pins s σ H _ I ⟨ρ,F,ds,hr,ed,fun J H' sm gv=>(⟨sm,gv⟩:af H H'∧Gives (aj X) J H' F ds)⟩) fun v s1 h1=>L2.ar h1 fun itv s2 h2=>?_
 obtain⟨ita,fp,tn',J,H2,rfl,I2,T,st2,f2,sm2,gv⟩:=h2
 have r2:=hr.same sm2
 refine wpAny_newObj_type (wpAny_newFunctionEnv ok.oa (by intro y hy;simp at hy) (fun h₁ hns₁ hsb₁=>?_) ok.kind)
 dsimp only at hns₁ hsb₁ ⊢
 generalize hD:s2.heap.objs.size=D at hns₁ hsb₁ ⊢
 generalize hP:s2.heap.push {cls:=.type "list",dict:=none,data:=.seq ([]:List Value).toArray}=HP at hns₁ hsb₁ ⊢
 have hC:HP.objs.size=D+1:=by rw[←hP,Heap.size_push,hD]
 generalize hCC:HP.objs.size=C at hns₁ hsb₁ hC ⊢
 have lt2:∀b,b<s2.heap.objs.size→b≠C∧b≠D:=fun b hb=>by rw[hD]at hb;exact⟨by omega,by omega⟩
 have old:∀b o,s2.heap.get? b=some o→h₁.get? b=some o:=fun b o e=>hsb₁.extBut b o (lt2 b (Heap.lt_size e)).1 (Heap.get?_push_of_some _ (hP▸Heap.get?_push_of_some _ e))
 have hDC:D≠C:=by omega
 have hacc:h₁.get? D=some {cls:=.type "list",data:=.seq ([]:List Value).toArray}:=hsb₁.extBut _ _ hDC (Heap.get?_push_of_some _ (hP▸(by rw[←hD];exact Heap.get?_push_size _ rfl)))
 have nD:H2 D=none:=I2.au.fresh (Nat.le_of_eq hD)
 have nC:H2 C=none:=I2.au.fresh (by omega)
 have sub1:af H2 (upd H2 D (.lst [])):=af.bI nD _
 let X':Cx:=cH X scope cl C (tn++fv) s2 H2 fp
 have e1:newEnv scope C X.env.globals cl X.env.qual none Value.none (some X.env) X.env.builtins=newEnv scope C X.env.globals cl X.env.qual none Value.none (some X.env) X.env.builtins:=rfl
 have okX:X'.Ok:=by
   have hmod:=I2.ok.mod
   refine⟨hmod,ok.kind,I2.ok.glob,I2.ok.blt,(show s2.heap.objs.size≤C by rw[hD];omega),fun x y c hx hy=>I2.ok.inj x y c (hsub x c hx) (hsub y c hy),fun x hx=>?_,fun x c hf=>(nomatch hf),fun h=>I2.ok.hd h,I2.ok.frames,.inl rfl,fun b hb=>?_,fun b o hb=>I2.bs b o hb,Nat.le_trans I2.ok.e6 I2.sz,fun b o hb hx=>?_,fun b hb hf=>?_,I2.stack,I2.qd⟩
   · have hx':(relabel scope X.env).names.lookup x=some .cell∨(relabel scope X.env).names.lookup x=some .free:=hx
     refine hhas x ?_
     rcases hx' with h|h
     ·exact pw (scope:=scope) h (.inl rfl) ok.oa
     ·exact pw (scope:=scope) h (.inr rfl) ok.oa
   · obtain⟨o,ho,_⟩:=T.obj _ _ st2 b hb
     exact⟨(lt2 b (Heap.lt_size ho)).1,fun x c hx=>(f2 b hb).2.2.2.2.1 x c (hsub x c hx)⟩
   · obtain⟨_,_,_,h4,_⟩:=f2 b hx
     rcases h4 with h4|h4
     ·exact I2.ok.j7 b o hb h4
     ·exact absurd (Nat.lt_of_lt_of_le (Heap.lt_size hb) (Nat.le_trans I2.ok.e6 h4)) (Nat.lt_irrefl _)
   · obtain⟨_,h1,h2,_⟩:=f2 b hb
     exact(List.mem_cons.mp (I2.lM b hf)).elim h1 h2
 have fpX:∀ {H':Hp},(∀b∈fp,H' b=none)→∀b∈fp,cz X' [] H' b:=fun hn b hb=>by
   obtain⟨o,ho,_⟩:=T.obj _ _ st2 b hb
   refine⟨hn b hb,(lt2 b (Heap.lt_size ho)).1,fun hf=>?_,.inl hb,fun x c hx=>(f2 b hb).2.2.2.2.1 x c (hsub x c hx),fun p hp=>nomatch hp⟩
   obtain⟨_,h1,h2,_⟩:=f2 b hb
   exact(List.mem_cons.mp (I2.lM b hf)).elim h1 h2
 have I3:Inv X' [] (stC tn.length σ fvi) (upd H2 D (.lst [])) {s2 with heap:=h₁,toks:=s2.toks+([]:List (Str×Value)).length}:=by
   refine⟨okX,rfl,I2.bare,Un.laid old (Nat.le_of_eq hD) nD,⟨_,hns₁,fun i x v hx hv vis=>?_⟩,fun x c hx=>?_,?_,fun x c hx=>?_,fun p hp=>(nomatch hp),I2.au.laid old (Nat.le_of_eq hD) ⟨Nat.zero_le _,[],0,.nil,hacc⟩,?_⟩
   · have hx:(tn++fv)[i]? =some x:=hx
     by_cases hn:i<tn.length
     · unfold stC at hv
       rw[List.getElem?_append_left (by simpa using hn),List.getElem?_replicate,if_pos hn]at hv
       cases hv
     · have hn':tn.length≤i:=by omega
       rw[List.getElem?_append_right hn']at hx
       unfold stC at hv
       rw[List.getElem?_append_right (by simpa using hn'),List.length_replicate,List.getElem?_map]at hv
       cases ei:fvi[i - tn.length]? with
       |none=>rw[ei]at hv;cases hv
       | some k=>
         rw[ei]at hv
         obtain⟨x',hx',hN,hf⟩:=ok.Ai _ _ ei
         rw[hx]at hx'
         cases hx'
         have hv':σ[k]? =some (some v):=by
           have hv2:(σ[k]?).getD none=some v:=by simpa using hv
           cases ek:σ[k]? with
           |none=>rw[ek]at hv2;cases hv2
           |some z=>rw[ek]at hv2;exact congrArg some hv2
         obtain⟨m,hm,hl⟩:=I2.loc
         have hcell:X.env.scope.names.lookup x=some .cell:=ok.free _ hf rfl
         obtain⟨u,ru,lk⟩:=hl k x v hN hv' (.inr (.inl hcell))
         refine⟨u,ru,.inr ⟨?_,?_⟩⟩
         ·exact n0 (env:=X.env) (ok.CY _ hf rfl)
         · rcases lk with⟨h1,_⟩|⟨_,c,hcc,cc⟩
           ·rw[show X.env.kindOf x=X.env.scope.names.lookup x from rfl,hcell]at h1;cases h1
           · obtain⟨c',hc'⟩:=hhas x hf
             have:=hsub x c' hc'
             rw[hcc]at this
             cases this
             exact⟨c,hc',cc.keeps old⟩
   · obtain⟨v,cc⟩:=I2.cell x c (hsub x c hx)
     exact⟨v,cc.keeps old⟩
   · show upd H2 D (.lst []) C=none
     rw[L2.aA (Ne.symm hDC)];exact nC
   · have h0:=I2.eF x c (hsub x c hx)
     show upd H2 D (.lst []) c=none
     obtain⟨v,cc⟩:=I2.cell x c (hsub x c hx)
     rw[L2.aA (lt2 c cc.lt).2];exact h0
   · show(stC tn.length σ fvi).length=(tn++fv).length
     unfold stC;simp[ok.len]
 have hM:aj X'=aj X:=rfl
 let F':Addr→Prop:=fun b=>F b∨b=D
 have ent_un:∀(j:Nat) z,(ent tn.length ρ fvi)[j]? =some z→z=.un∨∃d,z=.sh d:=fun j z h=>(hJ h).imp (fun h=>h) fun h=>h.1
 have ent_on:∀(j:Nat) xss,(ent tn.length ρ fvi)[j]? ≠some (.on xss):=fun j xss e=>by rcases ent_un j _ e with z|⟨_,z⟩<;>cases z
 have mvD:∀ {H'':Hp},af H2 H''→Mv F H2 F' H'':=fun sm b o n e=>⟨fun h=>h.elim n (fun z=>by subst z;rw[nD]at e;cases e),sm b o e⟩
 have r3:bb (aj X) (upd H2 D (.lst [])) F' (stC tn.length σ fvi) (ent tn.length ρ fvi):=by
   have r0:=(wJ (n:=tn.length) (fv:=fvi) r2)
   exact⟨r0.len,fun b f=>by
       by_cases hb:b=D
       ·subst hb;exact⟨_,L2.bC⟩
       · obtain⟨o,ho⟩:=r0.aM b (f.resolve_right hb)
         exact⟨o,sub1 _ _ ho⟩,fun i d e=>let⟨v,h1,h2⟩:=r0.sh i d e;⟨v,h1,h2.mv (mvD sub1)⟩,fun i d e=>(fW ent_un (.inl ⟨_,e⟩)).elim,fun i k d e=>(fW ent_un (.inr ⟨_,_,e⟩)).elim,fun i j a o=>(fW ent_un o).elim,.no ent_on⟩
 let R0:Result→Shared→Prop:=compPost (model X.prog X.w) X.A X.xe use Qc (.ref D) C
 have loop:codeAny (model X.prog X.w) X.A (.compLoop (.ListComp elt [⟨target,iter,ifs,0⟩] scope pos) 0 (.ref ita) (.ref D) X'.env) R0 {s2 with heap:=h₁,toks:=s2.toks+([]:List (Str×Value)).length}:=by
   refine y4 (fun n s'=>∃i σ' H' vs as,n=ds.length - i∧i≤ds.length∧Inv X' [] σ' H' s'∧tn' i s'.heap∧(∀b∈fp,H' b=none)∧af H2 H'∧H' D=some (.lst vs)∧vs.length≤i∧ae (aj X) H' F' as vs∧
       bb (aj X) H' F' σ' (ent tn.length ρ fvi)∧∃rest,dP tg cs el (ent tn.length ρ fvi) (ds.drop i)=.ok rest∧as++rest=all) ?_ ds.length
     ⟨0,_,_,[],[],rfl,Nat.zero_le _,I3,T.keep _ _ _ st2 fun b _ o e=>old b o e,fun b hb=>?_,sub1,L2.bC,Nat.zero_le _,ae.nil,r3,all,ey,rfl⟩
   · rintro n s' ⟨i,σ',H',vs,as,rfl,hi',I',st',fr',sm',eD,hvs,ras,rS,rest,erest,eall⟩
     obtain⟨g1,g2⟩:=gv H' F' (mvD sm') rS.aM
     by_cases hlt:i<ds.length
     · obtain ⟨go,gy⟩:=g1 i ds[i] (by simp[hlt])
       refine L2.ar (T.item X' rfl rfl rfl hc i [] s' σ' H' _ I' (fpX fr') st' go) fun r s4 ⟨u,hr',h4⟩=>?_
       subst hr'
       refine L2.ar h4 fun _ s5 ⟨x,H5,I5,r5,y5,st5,fr5⟩=>?_
       obtain⟨s5',rx⟩:=gy x H5 y5
       rw[List.drop_eq_getElem_cons hlt]at erest
       unfold dP at erest
       obtain⟨ρ1,eg,erest⟩:=ah.mp erest
       obtain⟨t,et,erest⟩:=ah.mp erest
       have rS5:=rS.same s5'
       have rG:aP (aj X) H2 (fun _=>False) H5 F' σ' (ent tn.length ρ fvi):=⟨rS5,sm'.trans s5',fun _ h=>h.elim,fun _ h=>h.elim,fun j a o=>(fW ent_un o).elim,fun j xss _ e=>absurd e (ent_on j xss)⟩
       have I5':Inv X' ([]++L2.jk fp s5.heap) σ' H5 s5:=I5.pinned (fpX fr5) (T.obj _ _ st5)
       refine wpAny_mono (ht cl C s2 H2 fp (fun _=>False) _ s5 σ' H5 x u (fun σ6 H6=>H6=H5∧aP (aj X) H2 (fun _=>False) H5 F' σ6 ρ1) I5' r5 ⟨ent tn.length ρ fvi,F',ds[i],ρ1,rG,rx,eg,fun σ6 r6=>⟨rfl,r6⟩⟩) (fun _ s6 ⟨σ6,H6,I6,h6,r6⟩=>?_) (fun e s f=>(hxe e s f).elim)
       subst h6
       refine wpAny_mono (sf (X:=X') (M:=aj X) (E:=X.xe) rfl (fun _ _ h=>h) (hcs cl C s2 H2 fp) (Q:=fun b H7=>b=t∧af H6 H7) I6 r6.rs et (fun H7 s7=>⟨rfl,s7⟩)) (fun b s7 ⟨H7,I7,hb,s7'⟩=>?_) (fun e s f=>(hxe e s f).elim)
       subst hb
       have sm7:af H2 H7:=(sm'.trans s5').trans s7'
       have D7:H7 D=some (.lst vs):=s7' _ _ (s5' _ _ eD)
       have lowr:=low _ _ _ eg
       have back:∀ {H'':Hp},bb (aj X) H'' F' σ6 ρ1→bb (aj X) H'' F' σ6 (ent tn.length ρ fvi):=fun r=>r.less lowr.1.symm fun j z hz=>by
         rcases hJ hz with h|⟨h,hn,_⟩
         ·exact .inl h
         ·exact .inr ⟨h,by rw[lowr.2 j hn];exact hz⟩
       have again:∀ {s8:Shared} {H8:Hp},Inv X' ([]++L2.jk fp s5.heap) σ6 H8 s8→Inv X' [] σ6 H8 s8∧tn' (i+1) s8.heap∧∀b∈fp,H8 b=none:=fun {s8 H8} I8=>by
         refine⟨I8.kT,T.keep _ _ _ st5 fun b hb o e=>(I8.pin (b,o) (List.mem_append_right _ (List.mem_append_right _ (L2.lB hb e)))).1,fun b hb=>?_⟩
         obtain⟨o,e,d⟩:=T.obj _ _ st5 b hb
         exact(I8.pin (b,o) (List.mem_append_right _ (List.mem_append_right _ (L2.lB hb e)))).2.1
       cases b with
       | false=>
         rw[if_neg (by decide)]at erest
         rw[if_neg (by decide)]
         obtain⟨a1,a2,a3⟩:=again I7
         exact⟨ds.length - (i+1),by omega,i+1,σ6,H7,vs,as,rfl,hlt,a1,a2,a3,sm7,D7,by omega,ras.mv (.same (s5'.trans s7')),back (r6.rs.same s7'),rest,erest,eall⟩
       | true=>
         rw[if_pos rfl]at erest
         rw[if_pos rfl]
         obtain⟨y,ey1,erest⟩:=ah.mp erest
         obtain⟨ys1,ey2,erest⟩:=ah.mp erest
         cases erest
         refine wpAny_mono (hel cl C s2 H2 fp _ s7 σ6 H7 (fun v H8=>af H7 H8∧Rep (aj X) H8 F' y v) I7 ⟨ρ1,F',y,r6.rs.same s7',ey1,fun v H8 s8 rv=>⟨s8,rv⟩⟩) (fun u2 s8 ⟨v,H8,I8,rv8,s8',rep8⟩=>?_) (fun e s f=>(hxe e s f).elim)
         have D8:H8 D=some (.lst vs):=s8' _ _ D7
         refine wpAny_mono (L2.xR (X:=X') _ s8 σ6 H8 (.ref D) [v] (.ref D) [u2] (fun _ H9=>H9=upd H8 D (.lst (vs++[v]))) I8 rfl (.cons rv8 .nil) ⟨D,vs,v,rfl,rfl,D8,by omega,rfl⟩) (fun _ s9 ⟨_,H9,I9,_,h9⟩=>?_) (fun e s f=>(hxe e s f).elim)
         subst h9
         obtain⟨a1,a2,a3⟩:=again I9
         have mv9:Mv F' H8 F' (upd H8 D (.lst (vs++[v]))):=fun b o n e=>⟨n,by rw[L2.aA (fun z=>n (.inr z))];exact e⟩
         have mvA:Mv F' H' F' (upd H8 D (.lst (vs++[v]))):=Mv.trans (.same (s5'.trans (s7'.trans s8'))) mv9
         have r8:=back ((r6.rs.same s7').same s8')
         refine⟨ds.length - (i+1),by omega,i+1,σ6,_,vs++[v],as++[y],rfl,hlt,a1,a2,a3,fun b o e=>?_,L2.bC,by simp;omega,(ras.mv mvA).append (ae.cons (rep8.mv mv9) ae.nil),?_,ys1,ey2,by rw[List.append_assoc];exact eall⟩
         ·rw[L2.aA (fun z=>by subst z;rw[nD]at e;cases e)];exact s8' _ _ (sm7 _ _ e)
         · exact⟨r8.len,fun b f=>by
             by_cases hb:b=D
             ·subst hb;exact⟨_,L2.bC⟩
             · obtain⟨o,ho⟩:=r8.aM b f
               exact⟨o,by rw[L2.aA hb];exact ho⟩,fun i d e=>let⟨v,h1,h2⟩:=r8.sh i d e;⟨v,h1,h2.mv mv9⟩,fun i d e=>(fW ent_un (.inl ⟨_,e⟩)).elim,fun i k d e=>(fW ent_un (.inr ⟨_,_,e⟩)).elim,fun i j a o=>(fW ent_un o).elim,.no ent_on⟩
     · have ei:i=ds.length:=by omega
       subst ei
       rw[List.drop_length]at erest
       cases erest
       rw[List.append_nil]at eall
       subst eall
       refine L2.ar (T.done X' rfl rfl rfl hc _ [] s' σ' H' _ I' (fpX fr') st' g2) fun r s4 ⟨hr',I4⟩=>?_
       subst hr'
       obtain⟨m,hm,_⟩:=I4.loc
       have C4:H' C=none:=I4.free
       have u4:Un (L2.b8 X.stack) fp H2 H' s2.heap s4.heap:=I4.base
       have I5:Inv X pins σ H' s4:=I2.lQ (s':=s4) (ch:=fp) I4.os u4 I4.au I4.bare fun b hb=>by
         obtain⟨_,a1,a2,a3,a4,a5⟩:=f2 b hb
         exact⟨a3,a1,a4,a5⟩
       have fC:cz X pins H' C:=I2.gA (by omega) C4
       have hH:∃Hq:Hp,af H Hq∧Hq D=none∧ae (aj X) Hq F as vs∧upd Hq D (.lst vs)=H':=by
         refine⟨fun b=>if b=D then none else H' b,fun b o e=>?_,by simp,?_,?_⟩
         · have hb:b≠D:=fun z=>by subst z;have:=sm2 _ _ e;rw[nD]at this;cases this
           simp only[if_neg hb]
           exact sm' _ _ (sm2 _ _ e)
         · refine ras.mv fun b o n e=>⟨fun f=>n (.inl f),?_⟩
           have hb:b≠D:=fun z=>n (.inr z)
           simp only[if_neg hb]
           exact e
         · funext b
           unfold upd
           by_cases hb:b=D
           ·simp only[if_pos hb];rw[hb];exact eD.symm
           ·simp only[if_neg hb]
       obtain⟨Hq,q1,q2,q3,q4⟩:=hH
       exact hend D C s4 H' vs Hq _ ⟨m,hm⟩ I5 fC q1 q2 q3 q4
   · show upd H2 D (.lst []) b=none
     obtain⟨o,ho,_⟩:=T.obj _ _ st2 b hb
     rw[L2.aA (lt2 b (Heap.lt_size ho)).2]
     exact(f2 b hb).1
 exact codeAny_compStart_list loop (T.self _ 0 _ _ _ (T.keep _ _ _ st2 fun b _ o e=>old b o e) loop)
theorem wQ(tn fv:List Str)(fvi:List Nat){elt iter target:Expr}{ifs:List Expr}{scope:Scope}{it:br}{tg:bN}{cs:List aG}{el:Ex}(hxe:∀e s,¬X.xe e s)(hc:X.calm=true)(ok:i5 X scope tn fv fvi)(hi:JI X target iter it)(low:gG tn.length tg)
   (ht:∀cl C s H fp,JG (cH X scope cl C (tn++fv) s H fp) target tg) (hcs:∀cl C s H fp,jO (cH X scope cl C (tn++fv) s H fp) ifs cs) (hel:∀cl C s H fp,JE (cH X scope cl C (tn++fv) s H fp) elt el)
   (hs:∀x,foldedSetIterable iter X.env x=pure x):JF X (.ListComp elt [⟨target,iter,ifs,0⟩] scope pos) (bE it tn.length fvi tg cs el):=by
 intro pins s σ H Q I ⟨ρ,F,all,hr,e,q⟩
 show wpAny _ _ (comprehension (.ListComp elt [⟨target,iter,ifs,0⟩] scope pos) scope X.env _ (newList []) false (eval iter X.env) none) _ _ s
 refine si tn fv fvi hxe hc ok hi low ht hcs hel hs I hr e fun D C s4 H' vs Hq f hm I5 fC q1 q2 q3 q4=>?_
 obtain⟨m,hm⟩:=hm
 refine⟨m,hm,fun h' hsb=>⟨.ref D,H',I5.turned (t':=s4.toks) (fun b o n e=>by rw[hsb.2 b n];exact e) fC.1 fC.2.1 fC.2.2.2.1 fC.2.2.2.2.1 fC.2.2.2.2.2,rfl,?_⟩⟩
 rw[←q4]
 exact q D Hq vs q1 q2 q3
theorem AX(i:Nat){y:Str}{py spos:Pos}(tn fv:List Str)(fvi:List Nat){elt iter target:Expr}{ifs:List Expr}{scope:Scope}{it:br}{tg:bN}{cs:List aG}{el:Ex}(hxe:∀e s,¬X.xe e s)(hc:X.calm=true)(ok:i5 X scope tn fv fvi)(hi:JI X target iter it)(low:gG tn.length tg)
   (ht:∀cl C s H fp,JG (cH X scope cl C (tn++fv) s H fp) target tg) (hcs:∀cl C s H fp,jO (cH X scope cl C (tn++fv) s H fp) ifs cs) (hel:∀cl C s H fp,JE (cH X scope cl C (tn++fv) s H fp) elt el)
   (hs:∀x,foldedSetIterable iter X.env x=pure x) (hN:X.N.Nodup) (hy:X.N[i]? =some y) (hx:L2.Loc X.env.scope y) (hf:X.fn y=true∨X.env.scope.names.lookup y=some .local)
   (hsw:swapsWith (.ListComp elt [⟨target,iter,ifs,0⟩] scope pos) (some (.Name y py)) spos.line X.env=pure true):PS X (.Assign [.Name y py] (.ListComp elt [⟨target,iter,ifs,0⟩] scope pos) spos) (L2.mI (lX (aj X) (bE it tn.length fvi tg cs el)) (L2.aB i)):=by
 intro pins s σ H D I ⟨ρ,F,all,hr,e,q⟩
 rw[exec_Assign_Name_used _ _ _ _ hsw]
 refine wpAny_bind (wpAny_standAt (wpAny_bind ?_))
 show wpAny _ _ (do let _ ←comprehension (.ListComp elt [⟨target,iter,ifs,0⟩] scope pos) scope X.env _ (newList []) false (eval iter X.env) (some (assign (.Name y py) X.env))) _ _ s
 refine wpAny_bind (L2.ar (si (Qc:=fun _ s'=>L2.SP X pins D .next s') tn fv fvi hxe hc ok hi low ht hcs hel hs I hr e fun D1 C s4 H' vs Hq f hm I5 fC q1 q2 q3 q4=>?_) fun _ s' hq=>wpAny_pure (wpAny_pure hq))
 obtain⟨m,hm⟩:=hm
 show wpAny _ _ (assign (.Name y py) X.env (.ref D1)) _ _ _
 refine wpAny_assign_Name (L2.qI (v:=.ref D1) I5 hN hy hx rfl (fun s5 I6 hsb=>?_) hf)
 obtain⟨a,hsb,ha⟩:=hsb
 have hCa:C≠a:=by
   rcases ha with z|z
   ·rw[z];exact fC.2.1
   ·exact fun e=>fC.2.2.2.2.1 _ _ z e.symm
 refine⟨m,hm.sameBut hsb hCa,fun h' hsb2=>⟨_,H',I6.turned (t':=s5.toks) (fun b o n e=>by rw[hsb2.2 b n];exact e) fC.1 fC.2.1 fC.2.2.2.1 fC.2.2.2.2.1 fC.2.2.2.2.2,?_⟩⟩
 rw[←q4]
 exact q D1 Hq vs q1 q2 q3
end
section
variable{X:Cx}{M:Md}{G H H':Hp}{F0 F F':Addr→Prop}{σ:L2.St}{ρ:En}{pos:Pos}{pins:List (Addr×Obj)}{s:Shared}
theorem ny{e:Expr}{f:Ex}(h:JF X e f)(hl:∀ρ d,f ρ=.ok d→∃ds,d=.lst ds):JE X e f:=
 bj h fun σ H Q ⟨ρ,F,d,hr,e,q⟩=>by
   obtain⟨ds,rfl⟩:=hl _ _ e
   exact⟨ρ,F,ds,hr,e,fun p H' xs sm hp rs=>q _ _ (sm.trans (af.bI hp _)) (gp (hr.same sm).aM hp rs)⟩
theorem se{it:br}{n:Nat}{fv:List Nat}{tg:bN}{cs:List aG}{el:Ex}(ρ:En)(d:D)(h:bE it n fv tg cs el ρ=.ok d):∃ds,d=.lst ds:=by
 obtain⟨ds,_,h⟩:=ah.mp h
 split at h
 · obtain⟨ys,_,h⟩:=ah.mp h
   cases h
   exact⟨_,rfl⟩
 ·cases h
noncomputable def rA(sc0:Scope)(N0:List Str)(scope:Scope)(fv:List Str)(fvi:List Nat):Bool:=
 decide (scope.kind=.function)&&scope.names.all (fun y=>decide (y.2≠.cell)&&(decide (y.2≠.local)||decide (scope.names.lookup y.1=some .local))&&(decide (y.2≠.free)||(decide (sc0.names.lookup y.1=some .cell)&&decide (scope.names.lookup y.1=some .free))))
   &&decide (fv.length=fvi.length)&&(fvi.zip fv).all (fun p=>decide (N0[p.1]? =some p.2)&&decide ((p.2,NameKind.free)∈scope.names))
theorem cN{scope:Scope}{tn fv:List Str}{fvi:List Nat}(sc0:Scope)(N0:List Str)(h1:X.env.scope=sc0)(h2:X.N=N0)(h:rA sc0 N0 scope fv fvi=true):i5 X scope tn fv fvi:=by
 subst h1 h2
 unfold rA at h
 rw[Bool.and_eq_true,Bool.and_eq_true,Bool.and_eq_true,decide_eq_true_eq,decide_eq_true_eq,List.all_eq_true,List.all_eq_true]at h
 obtain⟨⟨⟨hk,hn⟩,hl⟩,hf⟩:=h
 have hn':∀y∈scope.names,y.2≠.cell∧(y.2≠.local∨scope.names.lookup y.1=some .local)∧(y.2≠.free∨(X.env.scope.names.lookup y.1=some .cell∧scope.names.lookup y.1=some .free)):=fun y hy=>by
   have:=hn y hy
   simp only[Bool.and_eq_true,Bool.or_eq_true,decide_eq_true_eq]at this
   exact⟨this.1.1,this.1.2,this.2⟩
 refine⟨hk,fun y hy=>(hn' y hy).1,fun y hy hl=>(hn' y hy).2.1.resolve_left (fun h=>h hl),fun y hy hl=>((hn' y hy).2.2.resolve_left (fun h=>h hl)).1,fun y hy hl=>((hn' y hy).2.2.resolve_left (fun h=>h hl)).2,fun j i hj=>?_,hl⟩
 obtain⟨hjl,_⟩:=List.getElem?_eq_some_iff.mp hj
 have hx:fv[j]? =some (fv[j]'(by omega)):=List.getElem?_eq_getElem (by omega)
 have hm:(i,fv[j]'(by omega))∈fvi.zip fv:=by
   refine List.mem_iff_getElem?.mpr ⟨j,?_⟩
   rw[List.getElem?_zip_eq_some]
   exact⟨hj,hx⟩
 have:=hf _ hm
 simp only[Bool.and_eq_true,decide_eq_true_eq]at this
 exact⟨_,hx,this.1,this.2⟩
theorem nJ{d:D}{v:V}(f:flat d=true)(r:Rep M H F d v):L2.fj v=true:=by
 cases d<;>first|(simp only[Rep]at r;subst r;rfl)|(cases f)
theorem o4:∀ {ds:List D} {vs:List V},ds.all flat=true→ae M H F ds vs→vs.all L2.fj=true
 |[],_,_,r=>by simp only[ae]at r;subst r;rfl
 | d::ds,_,f,r=>by
   rw[List.all_cons,Bool.and_eq_true]at f
   simp only[ae]at r
   obtain⟨x,t,rfl,r1,r2⟩:=r
   rw[List.all_cons,nJ f.1 r1,o4 f.2 r2];rfl
theorem E8{a b:D}{x y:V}(fa:flat a=true)(fb:flat b=true)(ra:Rep M H F a x)(rb:Rep M H F b y):L2.eN x y=bw a b:=by
 cases a<;>(try cases fa)<;>cases b<;>(try cases fb)<;>simp only[Rep]at ra rb<;>subst ra<;>subst rb<;>first|rfl|(simp only[L2.eN,bw];exact str_beq _ _)
theorem ph:∀ {ds:List D} {vs:List V} {b:D} {y:V},ds.all flat=true→flat b=true→ae M H F ds vs→Rep M H F b y→L2.lY y vs=ds.any fun d=>bw d b
 |[],_,_,_,_,_,r,_=>by simp only[ae]at r;subst r;rfl
 | d::ds,_,b,y,f,fb,r,rb=>by
   rw[List.all_cons,Bool.and_eq_true]at f
   simp only[ae]at r
   obtain⟨x,t,rfl,r1,r2⟩:=r
   show(L2.eN x y||L2.lY y t)=(bw d b||ds.any fun d=>bw d b)
   rw[E8 f.1 fb r1 rb,ph f.2 fb r2 rb]
theorem nN{ks:List Ky}{xs:List V}{ds:List D}:∀(k:Ky),ks.length=xs.length→ae M H F ds xs→(bZ k ks ds=none→L2.b7 (ks.zip xs) k=none)∧∀d,bZ k ks ds=some d→∃v,L2.b7 (ks.zip xs) k=some v∧Rep M H F d v:=by
 induction ks generalizing xs ds with
 | nil=>
   intro k hl r
   cases xs with
   |nil=>exact⟨fun _=>rfl,fun d h=>by simp[bZ]at h⟩
   |cons _ _=>simp at hl
 | cons a ks ih=>
   intro k hl r
   cases xs with
   |nil=>simp at hl
   | cons x xs=>
     cases ds with
     |nil=>simp only[ae]at r;cases r
     | cons d0 ds=>
       simp only[ae]at r
       obtain⟨x',t,e,r1,r2⟩:=r
       cases e
       have ih:=ih (xs:=xs) (ds:=ds) k (by simpa using hl) r2
       have hz:(a::ks).zip (x::xs)=(a,x)::ks.zip xs:=rfl
       rw[hz]
       by_cases hk:a=k
       · subst hk
         have h1:L2.b7 ((a,x)::ks.zip xs) a=some x:=by simp[L2.b7]
         refine⟨fun h=>by simp[bZ]at h,fun d h=>⟨x,h1,?_⟩⟩
         simp[bZ]at h
         subst h
         exact r1
       · have h1:L2.b7 ((a,x)::ks.zip xs) k=L2.b7 (ks.zip xs) k:=by simp[L2.b7,hk]
         rw[h1]
         refine⟨fun h=>ih.1 (by simpa[bZ,hk] using h),fun d h=>ih.2 d (by simpa[bZ,hk] using h)⟩
theorem i7{d:D}{k:Ky}{v:V}(h:keyOf d=some k)(r:Rep M H F d v):v=L2.kV k:=by
 cases d with
 |int i=>cases h;exact aU r
 |str x=>cases h;exact dG r
 |_=>cases h
theorem pf{a:Addr}{ks:List Ky}{ds:List D}{xs:List V}(I:Inv X pins σ H s)(h:fU (aj X) H F a (ks.zip xs))(hl:ks.length=xs.length)(rs:ae (aj X) H F ds xs)(k:Ky):
   ∃vs,s.heap.DictOf (L2.bt X.prog X.w) a vs∧(a==sysModules)=false∧(bZ k ks ds=none→valueAt vs k=none)∧∀d,bZ k ks ds=some d→∃v u,valueAt vs k=some u∧RelV v u∧Rep (aj X) H F d v:=by
 obtain⟨z,hd,vs,rel,dd⟩:=gY I h
 obtain⟨f1,f2⟩:=nN (M:=aj X) (H:=H) (F:=F) k hl rs
 refine⟨vs,dd,hd,fun hn=>?_,fun d hdd=>?_⟩
 ·exact L2.cI.none_of (by rw[←f1 hn];exact L2.KV.val rel k)
 · obtain⟨v,hv,rv⟩:=f2 d hdd
   obtain⟨u,hu,ru⟩:=L2.cI.some_of (v:=v) (o:=valueAt vs k) (by rw[←hv];exact L2.KV.val rel k)
   exact⟨v,u,hu,ru,rv⟩
noncomputable def qY(M:Md):R2:=fun x y H Q=>L2.oG M.K x y H Q∨∃F a b d,Rep M H F a x∧Rep M H F b y∧lK a b=.ok d∧∀v,Rep M H F d v→Q v H
theorem CI:L2.eJ X (qY (aj X)):=by
 refine L2.eJ.or L2.sA ?_
 intro value slice pins s σ H x y v u Q I rx ry h hs
 obtain⟨F,a,b,d,ra,rb,e,q⟩:=h
 unfold lK at e
 split at e
 · rename_i ks vs
   split at e
   · rename_i k hk
     split at e
     · rename_i d' hf
       cases e
       simp only[Rep]at ra
       obtain⟨p,xs,rfl,h1,hl,rs⟩:=ra
       cases rx
       cases i7 hk rb
       obtain⟨ws,dd,hd,f1,f2⟩:=pf I h1 hl rs k
       obtain⟨w,w',hw,rw',rd⟩:=f2 _ hf
       exact PyProof.Rows.tail_any dd.typeIs PySem.F.slot_dict_getitem.lookup (wpAny_getItem_of (L2.gk ry) dd.mapOf hw ⟨w,H,I.tok _,rw',q w rd⟩) hs
     ·cases e
   ·cases e
 ·cases e
theorem GY:bh M bO (qY M):=by
 intro F H x y a b d Q tr ra rb e q
 cases a with
 |lst xs=>exact .inl (nV F H x y _ b d Q tr ra rb e q)
 |tup xs=>exact .inl (nV F H x y _ b d Q tr ra rb e q)
 |str z=>exact .inl (nV F H x y _ b d Q tr ra rb e q)
 |aC ks vs=>exact .inr ⟨F,_,b,d,ra,rb,e,fun v rv=>q v H (af.refl H) rv⟩
 |_=>cases e
theorem DH{a b:Expr}{fa fb:Ex}(ha:JE X a fa)(hb:JE X b fb)(hs:L2.ja b:=by exact fun _ _=>rfl):JE X (.Subscript a b pos) (e2 bO fa fb):=
 bj (L2.sN CI ha hb hs) fun σ H Q h=>lV GY h
noncomputable def mi(M:Md)(neg:Bool):R2:=fun x y H Q=>∃F a b k,Rep M H F a x∧Rep M H F b y∧dB a b=.ok (.bl k)∧Q (.bl (if neg then !k else k)) H
theorem sZ{a b:D}{k:Bool}(h:dB a b=.ok (.bl k)):(∃ys,(b=.lst ys∨b=.tup ys)∧flat a=true∧ys.all flat=true∧k=ys.any fun y=>bw y a)∨∃ks vs q,b=.aC ks vs∧keyOf a=some q∧k=(bZ q ks vs).isSome:=by
 cases b with
 | lst ys=>
   have h':(if flat a=true∧ys.all flat=true then(R.ok (D.bl (ys.any fun y=>bw y a)):R D)else .bad)=.ok (.bl k):=by cases a<;>exact h
   split at h'
   ·rename_i c;cases h';exact .inl ⟨ys,.inl rfl,c.1,c.2,rfl⟩
   ·cases h'
 | tup ys=>
   have h':(if flat a=true∧ys.all flat=true then(R.ok (D.bl (ys.any fun y=>bw y a)):R D)else .bad)=.ok (.bl k):=by cases a<;>exact h
   split at h'
   ·rename_i c;cases h';exact .inl ⟨ys,.inr rfl,c.1,c.2,rfl⟩
   ·cases h'
 | aC ks vs=>
   cases hq:keyOf a with
   |none=>cases a<;>simp[hq]at h
   | some q=>
     refine .inr ⟨ks,vs,q,rfl,rfl,?_⟩
     cases a<;>simp[hq]at h<;>exact h.symm
 |str y=>cases a<;>simp at h
 |_=>cases a<;>simp at h
theorem mM(hu:X.A.units+64<cLine):aD X (compareOp .In) (mi (aj X) false):=by
 intro pins s σ H x y v u Q I rx ry h
 obtain⟨F,a,b,k,ra,rb,e,q⟩:=h
 rcases sZ e with⟨ys,hb,fa,fs,rfl⟩|⟨ks,vs,q',rfl,hq,rfl⟩
 · have:∃p xs,y=.ref p∧(aN X.K H p xs∨aW X.K H p xs)∧ae (aj X) H F ys xs:=by
     rcases hb with rfl|rfl
     ·simp only[Rep]at rb;obtain⟨p,xs,e,h1,h2⟩:=rb;exact⟨p,xs,e,.inl h1.sq,h2⟩
     ·simp only[Rep]at rb;obtain⟨p,xs,e,h1,h2⟩:=rb;exact⟨p,xs,e,.inr h1.sq,h2⟩
   obtain⟨p,xs,rfl,hs,rs⟩:=this
   refine L2.wD pins s σ H x (.ref p) v u Q I rx ry ⟨p,xs,rfl,hs,nJ fa ra,o4 fs rs,?_⟩
   rw[ph fs fa rs ra]
   exact q
 · simp only[Rep]at rb
   obtain⟨p,xs,rfl,h1,hl,rs⟩:=rb
   cases ry
   cases i7 hq ra
   obtain⟨ws,dd,hd,f1,f2⟩:=pf I h1 hl rs q'
   refine wpAny_in_of (L2.gk rx) hd dd.mapOf ?_
   cases hf:bZ q' ks vs with
   |none=>rw[f1 hf];rw[hf]at q;exact⟨.bl _,H,I.tok _,rfl,q⟩
   |some d=>obtain⟨_,w,hw,_⟩:=f2 d hf;rw[hw];rw[hf]at q;exact⟨.bl _,H,I.tok _,rfl,q⟩
theorem rq(hu:X.A.units+64<cLine):aD X (compareOp .NotIn) (mi (aj X) true):=by
 intro pins s σ H x y v u Q I rx ry h
 obtain⟨F,a,b,k,ra,rb,e,q⟩:=h
 rcases sZ e with⟨ys,hb,fa,fs,rfl⟩|⟨ks,vs,q',rfl,hq,rfl⟩
 · have:∃p xs,y=.ref p∧(aN X.K H p xs∨aW X.K H p xs)∧ae (aj X) H F ys xs:=by
     rcases hb with rfl|rfl
     ·simp only[Rep]at rb;obtain⟨p,xs,e,h1,h2⟩:=rb;exact⟨p,xs,e,.inl h1.sq,h2⟩
     ·simp only[Rep]at rb;obtain⟨p,xs,e,h1,h2⟩:=rb;exact⟨p,xs,e,.inr h1.sq,h2⟩
   obtain⟨p,xs,rfl,hs,rs⟩:=this
   refine L2.F6 pins s σ H x (.ref p) v u Q I rx ry ⟨p,xs,rfl,hs,nJ fa ra,o4 fs rs,?_⟩
   rw[ph fs fa rs ra]
   exact q
 · simp only[Rep]at rb
   obtain⟨p,xs,rfl,h1,hl,rs⟩:=rb
   cases ry
   cases i7 hq ra
   obtain⟨ws,dd,hd,f1,f2⟩:=pf I h1 hl rs q'
   refine wpAny_notIn_of (L2.gk rx) hd dd.mapOf ?_
   cases hf:bZ q' ks vs with
   |none=>rw[f1 hf];rw[hf]at q;exact⟨.bl _,H,I.tok _,rfl,q⟩
   |some d=>obtain⟨_,w,hw,_⟩:=f2 d hf;rw[hw];rw[hf]at q;exact⟨.bl _,H,I.tok _,rfl,q⟩
theorem lU{a b d:D}(h:dB a b=.ok d):∃k,d=.bl k:=by
 cases b with
 | lst ys=>
   have h':(if flat a=true∧ys.all flat=true then(R.ok (D.bl (ys.any fun y=>bw y a)):R D)else .bad)=.ok d:=by cases a<;>exact h
   split at h'<;>cases h'
   exact⟨_,rfl⟩
 | tup ys=>
   have h':(if flat a=true∧ys.all flat=true then(R.ok (D.bl (ys.any fun y=>bw y a)):R D)else .bad)=.ok d:=by cases a<;>exact h
   split at h'<;>cases h'
   exact⟨_,rfl⟩
 | aC ks vs=>
   cases hq:keyOf a with
   |none=>cases a<;>simp[hq]at h
   |some q=>cases a<;>simp[hq]at h<;>exact⟨_,h.symm⟩
 |str y=>cases a<;>simp at h
 |_=>cases a<;>simp at h
theorem rh:d6 dB:=fun a b d h=>lU h
theorem nY:bh M dB (mi M false):=by
 intro F H x y a b d Q tr ra rb e q
 obtain⟨k,rfl⟩:=lU e
 exact⟨F,a,b,k,ra,rb,e,q _ _ (af.refl _) bW⟩
theorem rg{a b d:D}(h:jN a b=.ok d):∃k,dB a b=.ok (.bl k)∧d=.bl (!k):=by
 obtain⟨r,hr,h⟩:=ah.mp h
 obtain⟨k,rfl⟩:=lU hr
 cases h
 exact⟨k,hr,rfl⟩
theorem x8:d6 jN:=fun a b d h=>let⟨k,_,e⟩:=rg h;⟨_,e⟩
theorem p5:bh M jN (mi M true):=by
 intro F H x y a b d Q tr ra rb e q
 obtain⟨k,hk,rfl⟩:=rg e
 exact⟨F,a,b,k,ra,rb,hk,q _ _ (af.refl _) bW⟩
end
section
variable{X:Cx}{M:Md}{G H H':Hp}{F0 F F':Addr→Prop}{σ:L2.St}{ρ:En}{pos:Pos}{pins:List (Addr×Obj)}{s:Shared}
theorem qC:∀ {ds:List D} {d:D},allB ds=.ok d→∃bs:List Bool,ds=bs.map D.bl∧d=.bl (bs.all id)
 |[],d,h=>by cases h;exact⟨[],rfl,rfl⟩
 | x::ds,d,h=>by
   cases x with
   | bl b=>
     obtain⟨z,hz,h⟩:=ah.mp h
     obtain⟨bs,rfl,rfl⟩:=qC hz
     cases h
     exact⟨b::bs,rfl,rfl⟩
   |_=>cases h
theorem oP:∀ {bs:List Bool} {xs:List V},ae M H F (bs.map D.bl) xs→xs=bs.map V.bl
 |[],_,r=>by simpa[ae] using r
 | b::bs,_,r=>by
   simp only[List.map_cons,ae]at r
   obtain⟨x,t,rfl,h1,h2⟩:=r
   rw[oP h2,cS h1];rfl
theorem mQ:∀ {bs:List Bool} {us:List Value},Vals (bs.map V.bl) us→us=bs.map Value.bool
 |[],_,.nil=>rfl
 |b::bs,_,.cons r t=>by cases r;rw[mQ t];rfl
theorem all_range(bs:List Bool):((List.range bs.length).drop 0).all (fun i=>bs.getD i false)=bs.all id:=by
 rw[List.drop_zero]
 induction bs with
 |nil=>rfl
 | cons b bs ih=>
   rw[List.length_cons,List.range_succ_eq_map,List.all_cons,List.all_map,List.all_cons, ←ih]
   rfl
theorem lF(hc:X.calm=true):bp X (.builtin "all") (fun xs H Q=>∃(F:Addr→Prop) (p:Addr) (bs:List Bool),xs=[.ref p]∧Rep (aj X) H F (.lst (bs.map D.bl)) (.ref p)∧Q (.bl (bs.all id)) H):=by
 intro pins s σ H xs us Q I r h
 obtain⟨F,p,bs,rfl,rp,q⟩:=h
 obtain⟨u,rfl,ru⟩:=L2.vals1 r
 cases ru
 simp only[Rep]at rp
 obtain⟨p',xs,e,hl,rs⟩:=rp
 cases e
 obtain⟨its,rv,pl,hz⟩:=I.list hl.sq
 cases oP rs
 cases mQ rv
 have hh:X.A.in1.in1.handled=none:=I.ok.hd hc
 have hlt:p<s.heap.objs.size:=by obtain⟨o,n,e,_⟩:=pl;exact Heap.lt_size e
 refine call_function_tree PySem.F.kind_all PySem.F.plain_all PySem.F.entry_all (PySem.F.args_all1 _) ?_
 show wpAny _ _ (pyIter (.ref p) >>= _) _ _ s
 refine wpAny_bind (wpAny_pyIter_list pl.isList (wpAny_pure ⟨plainId_quiet PySem.F.plain_all_loop _,?_⟩))
 have hsz:((bs.map Value.bool).toArray).size=bs.length:=by simp
 have W:=Walks.list (prog:=X.prog) (w:=X.w) (A:=X.A.in1) (I.ok.hd hc) s.heap.objs.size p (Nat.ne_of_lt hlt) (bs.map Value.bool).toArray
 rw[hsz]at W
 refine codeAny_all_loop (A:=X.A) W (fun i=>bs.getD i false) (fun i v s' Q' E' hP hQ=>?_) (bs.length - 0) 0 _ rfl (Nat.zero_le _) ⟨⟨_,Heap.get?_push_size _ rfl,rfl,rfl⟩,Heap.IsList.push pl.isList _⟩ (fun h' tk hk=>?_)
 · have hP:(bs.map Value.bool).toArray[i]? =some v:=hP
   have hQ:Q' (bs.getD i false) s':=hQ
   have:∃b,v=.bool b∧bs.getD i false=b:=by
     rw[List.getElem?_toArray,List.getElem?_map]at hP
     cases e:bs[i]? with
     |none=>rw[e]at hP;cases hP
     |some b=>rw[e]at hP;cases hP;exact⟨b,rfl,by simp[e]⟩
   obtain⟨b,rfl,hb⟩:=this
   rw[hb]at hQ
   exact wpAny_truthy_bool hQ
 · show EP X pins σ Q _ _
   rw[all_range]
   have I1:Inv X pins σ H {s with heap:=s.heap.push {cls:=.type "list_iterator",data:=.fields #[.ref p,.int 0 0]} }:=I.kept (t':=s.toks) fun b o e=>Heap.get?_push_of_some _ e
   have fp:=I.gA (H':=H) (b:=s.heap.objs.size) (Nat.le_refl _) (I.au.fresh (Nat.le_refl _))
   obtain⟨f0,f1,f2,f3,f4,f5⟩:=fp
   exact⟨.bl _,H,I1.turned (it:=s.heap.objs.size) (t':=tk) (fun b o hb e=>hk b o (by simpa using hb) e) f0 f1 f3 f4 f5,rfl,q⟩
theorem kS:eE M (g1 fz) (fun xs H Q=>∃(F:Addr→Prop) (p:Addr) (bs:List Bool),xs=[.ref p]∧Rep M H F (.lst (bs.map D.bl)) (.ref p)∧Q (.bl (bs.all id)) H):=by
 intro F H xs as d Q tr rs e q
 unfold g1 at e
 split at e
 · obtain⟨x,rfl,r⟩:=rs.one
   unfold fz at e
   split at e
   · obtain⟨bs,rfl,rfl⟩:=qC e
     have r':=r
     simp only[Rep]at r
     obtain⟨p,ys,rfl,_⟩:=r
     exact⟨F,p,bs,rfl,r',q _ _ (af.refl _) bW⟩
   ·cases e
 ·cases e
end
section
variable{prog:Program}{w:World}{A:Around}{E:Value→Shared→Prop}{s:Shared}
theorem wb{it t:Addr}{i:Nat}{items:Array Value}{x:Value}{Q:Value→Shared→Prop}(hit:s.heap.IsTupleIter it t i)(ht:s.heap.IsTuple t items)(hx:items[i]? =some x)
   (hQ:∀h',h'.IsTupleIter it t (i+1)→Heap.SameBut it s.heap h'→Q x {s with heap:=h'}):wpAny (model prog w) A (Builtin.SmallTypes.nextOf (.ref it)) Q E s:=by
 obtain⟨oi,hoi,hci,hdi⟩:=id hit
 obtain⟨ot,hot,_,nt,hdt⟩:=ht
 unfold Builtin.SmallTypes.nextOf
 refine wpAny_bind (wpAny_callSpecial?_slot (name:=Str.ofString "__next__") hit.typeIs PySem.F.slot_tuple_iterator_next (wpAny_call_entry PySem.F.slot_tuple_iterator_next hit.typeIs PySem.F.entry_tuple_iterator_next ?_ (PySem.F.args_tuple_iterator_next_1 _)))
 show wpAny _ _ (PySem.field (.ref it) 0 >>= _) _ _ s;refine wpAny_bind (wpAny_field hoi hdi (x:=.ref t) rfl ?_)
 show wpAny _ _ (if(Value.ref t==Value.none)=true then _ else _) _ _ s;rw[if_neg (show ¬((Value.ref t==Value.none)=true)from Bool.false_ne_true)]
 show wpAny _ _ (PySem.field (.ref it) 1 >>= _) _ _ s;refine wpAny_bind (wpAny_field hoi hdi (x:=.int i 0) rfl ?_)
 show wpAny _ _ (seqItems? (.ref t) >>= _) _ _ s;refine wpAny_bind (wpAny_seqItems hot hdt ?_)
 simp only[Int.toNat_natCast,hx]
 exact wpAny_bind (wpAny_setField hoi hdi (by simp) (wpAny_pure ⟨x,rfl,wpAny_pure (hQ _ ⟨_,Heap.get?_update_self _ hoi (Obj.isFreed_of_fields (Obj.data_mapFields hdi _)),(Obj.cls_mapFields ..).trans hci,by rw[Obj.data_mapFields hdi];simp[rawInt]⟩ (Heap.SameBut.update ..))⟩))
theorem zm{it t:Addr}{i:Nat}{items:Array Value}{Q:Value→Shared→Prop}(hh:A.handled=none)(hit:s.heap.IsTupleIter it t i)(ht:s.heap.IsTuple t items)(hx:items[i]? =none)
   (hE:∀h' e,Heap.ExtBut it s.heap h'→(∃o,h'.get? e=some o∧o.cls=.type "StopIteration")→E (.ref e) {s with heap:=h'}):wpAny (model prog w) A (Builtin.SmallTypes.nextOf (.ref it)) Q E s:=by
 obtain⟨oi,hoi,hci,hdi⟩:=id hit
 obtain⟨ot,hot,_,nt,hdt⟩:=ht
 unfold Builtin.SmallTypes.nextOf
 refine wpAny_bind (wpAny_callSpecial?_slot (name:=Str.ofString "__next__") hit.typeIs PySem.F.slot_tuple_iterator_next (wpAny_call_entry PySem.F.slot_tuple_iterator_next hit.typeIs PySem.F.entry_tuple_iterator_next ?_ (PySem.F.args_tuple_iterator_next_1 _)))
 show wpAny _ _ (PySem.field (.ref it) 0 >>= _) _ _ s;refine wpAny_bind (wpAny_field hoi hdi (x:=.ref t) rfl ?_)
 show wpAny _ _ (if(Value.ref t==Value.none)=true then _ else _) _ _ s;rw[if_neg (show ¬((Value.ref t==Value.none)=true)from Bool.false_ne_true)]
 show wpAny _ _ (PySem.field (.ref it) 1 >>= _) _ _ s;refine wpAny_bind (wpAny_field hoi hdi (x:=.int i 0) rfl ?_)
 show wpAny _ _ (seqItems? (.ref t) >>= _) _ _ s;refine wpAny_bind (wpAny_seqItems hot hdt ?_)
 simp only[Int.toNat_natCast,hx]
 refine wpAny_bind (wpAny_rule (wpAny_bind (wpAny_setField hoi hdi (by simp) ?_)))
 show wpAny _ _ (newExc (.type "StopIteration") [] >>= _) _ _ _;refine wpAny_bind ?_
 simp only[newExc,newTuple]
 refine wpAny_bind (wpAny_newObj_type (wpAny_bind (m:=firstArgMember _ _) (wpAny_of_eq (a:=Value.none) (by first|rfl|(simp only[firstArgMember];rfl)) (wpAny_newObj_type ?_ (by size_fits)))) (by size_fits))
 simp only[raiseNew]
 refine wpAny_bind (wpAny_handled ?_)
 first|rw[show A.in1.handled=none from hh]|rw[hh]
 exact wpAny_bind (wpAny_pure (wpAny_throw (hE _ _ (((Heap.SameBut.update ..).extBut.push _).push _) ⟨_,Heap.get?_push_size _ rfl,rfl⟩)))
end
theorem yb{prog:Program}{w:World}{A:Around}(hh:A.handled=none)(it l:Addr)(hne:l≠it)(items:Array Value):
   Draws prog w A it [it,l] items.size (fun i v=>items[i]? =some v) (fun i h=>h.IsTupleIter it l i∧h.IsTuple l items) where
 live _ _ st:=let⟨o,ho,_⟩:=st.1;⟨o,ho⟩
 frame _ _ _ st hk:=⟨let⟨o,ho,r⟩:=st.1;⟨o,hk it (by simp) o ho,r⟩,let⟨o,ho,r⟩:=st.2;⟨o,hk l (by simp) o ho,r⟩⟩
 item i s Q E hi st hQ:=wb st.1 st.2 (x:=items[i]) (by simp[hi]) fun h' hit' hs'=>hQ _ h' s.toks (by simp[hi]) ⟨hit',let⟨o,ho,r⟩:=st.2;⟨o,hs'.extBut l o hne ho,r⟩⟩ hs'
 done s Q E st hE:=zm hh st.1 st.2 (by simp) hE
structure md(z TI TO i1 i2:Addr)(f1 f2:List Addr):Prop where
 TIz:TI≠z
 TOz:TO≠z
 i1z:i1≠z
 i2z:i2≠z
 TITO:TI≠TO
 TIi1:TI≠i1
 TIi2:TI≠i2
 TOi1:TO≠i1
 TOi2:TO≠i2
 i12:i1≠i2
 mF:z∉f1
 tQ:TO∉f1
 Cy:i2∉f1
 nZ:z∉f2
 oI:TO∉f2
 rL:i1∉f2
section
variable{prog:Program}{w:World}{A:Around}{E:Value→Shared→Prop}{s:Shared}{z TI TO i1 i2:Addr}{f1 f2:List Addr}{n1 n2 k:Nat}{P1 P2:Nat→Value→Prop}{S1 S2:Nat→Heap→Prop}{a b:Value}
theorem fr_but{prog:Program}{w:World}{A:Around}{it:Addr}{fp:List Addr}{n:Nat}{P:Nat→Value→Prop}{St:Nat→Heap→Prop}(D:Draws prog w A it fp n P St){i:Nat}{c:Addr}{h h':Heap}(st:St i h)(hc:c∉fp)(hs:Heap.SameBut c h h'):St i h':=
 D.frame i h h' st fun b hb o e=>hs.extBut b o (fun q=>hc (by rw[←q];exact hb)) e
theorem yd(D1:Draws prog w A i1 f1 n1 P1 S1)(D2:Draws prog w A i2 f2 n2 P2 S2)(ap:md z TI TO i1 i2 f1 f2)(hz:IsZip s.heap z TI TO .none)(hTI:IsPair s.heap TI (.ref i1) (.ref i2))(hTO:IsPair s.heap TO a b)
   (aS:S1 k s.heap) (st2:S2 k s.heap) (h1:k<n1) (h2:k<n2) {Q:Value→Shared→Prop}
   (hQ:∀x y h' tk,P1 k x→P2 k y→IsZip h' z TI TO (rawInt s.heap.objs.size)→IsPair h' TO x y→S1 (k+1) h'→S2 (k+1) h'→IsPair h' s.heap.objs.size x y→
     (∀c o,c≠z→c≠TO→c≠i1→c≠i2→s.heap.get? c=some o→h'.get? c=some o)→Q (.ref s.heap.objs.size) {s with heap:=h',toks:=tk}):
   wpAny (model prog w) A (Builtin.«zip.__next__» ⟨[.ref z],[]⟩) (fun fin s'=>∃v,fin=.done (.ret v)∧Q v s') E s:=by
 show wpAny _ _ (PySem.field (.ref z) 2 >>= _) _ _ _;refine wpAny_bind (wpAny_field hz rfl (x:=.bool false) rfl ?_)
 show wpAny _ _ (PySem.field (.ref z) 3 >>= _) _ _ _;refine wpAny_bind (wpAny_field hz rfl (x:=.ref TI) rfl (wpAny_bind (wpAny_seqItems hTI rfl ?_)))
 show wpAny _ _ (Builtin.SmallTypes.ownedTupleIsFree (.ref z) >>= _) _ _ _;refine wpAny_bind ?_
 unfold Builtin.SmallTypes.ownedTupleIsFree
 refine wpAny_bind (wpAny_field hz rfl (x:=.none) rfl (wpAny_pure ?_));simp only[if_true]
 refine wpAny_bind (wpAny_rule (wpAny_bind (wpAny_field hz rfl (x:=.ref TO) rfl (wpAny_bind (wpAny_setField_rec hz (by simp) fun ha hza hsa=>?_)))))
 replace hza:IsZip ha z TI TO .ellipsis:=hza
 refine wpAny_bind ?_
 simp only[List.zipIdx_cons,List.zipIdx_nil,List.forIn_cons,List.forIn_nil]
 refine wpAny_bind (wpAny_bind (wpAny_onRaise ?_));show wpAny _ _ (Builtin.SmallTypes.nextOf (.ref i1) >>= _) _ _ _
 refine wpAny_bind (D1.item k _ _ _ h1 (fr_but D1 aS ap.mF hsa) fun x hb tb px sb1 hsb=>wpAny_pure ?_)
 have hTOb:IsPair hb TO a b:=hsb.extBut _ _ ap.TOi1 (hsa.extBut _ _ ap.TOz hTO)
 refine wpAny_bind (wpAny_seqItems hTOb rfl (wpAny_bind (wpAny_updateSeq_pair hTOb fun hc hTOc hsc=>?_)))
 replace hTOc:IsPair hc TO x b:=hTOc
 refine wpAny_bind (wpAny_letGo (wpAny_pure (wpAny_bind (wpAny_bind (wpAny_onRaise ?_)))));show wpAny _ _ (Builtin.SmallTypes.nextOf (.ref i2) >>= _) _ _ _
 refine wpAny_bind (D2.item k _ _ _ h2 (fr_but D2 (fr_but D2 (fr_but D2 st2 ap.nZ hsa) ap.rL hsb) ap.oI hsc) fun y hd td py sd2 hsd=>wpAny_pure ?_)
 have hTOd:IsPair hd TO x b:=hsd.extBut _ _ ap.TOi2 hTOc
 refine wpAny_bind (wpAny_seqItems hTOd rfl (wpAny_bind (wpAny_updateSeq_pair hTOd fun he hTOe hse=>?_)))
 replace hTOe:IsPair he TO x y:=hTOe
 refine wpAny_bind (wpAny_letGo (wpAny_pure (wpAny_pure (wpAny_bind (wpAny_seqItems hTOe rfl (wpAny_bind (wpAny_newTuple ?_)))))))
 have hsz:he.objs.size=s.heap.objs.size:=by rw[hse.1,hsd.1,hsc.1,hsb.1,hsa.1]
 have hze:IsZip he z TI TO .ellipsis:=hse.extBut _ _ ap.TOz.symm (hsd.extBut _ _ ap.i2z.symm (hsc.extBut _ _ ap.TOz.symm (hsb.extBut _ _ ap.i1z.symm hza)))
 have hke:∀c o,c≠z→c≠TO→c≠i1→c≠i2→s.heap.get? c=some o→he.get? c=some o:=fun c o c1 c2 c3 c4 e=>hse.extBut _ _ c2 (hsd.extBut _ _ c4 (hsc.extBut _ _ c2 (hsb.extBut _ _ c3 (hsa.extBut _ _ c1 e))))
 have s1e:S1 (k+1) he:=fr_but D1 (fr_but D1 (fr_but D1 sb1 ap.tQ hsc) ap.Cy hsd) ap.tQ hse
 have s2e:S2 (k+1) he:=fr_but D2 sd2 ap.oI hse
 have hzlt:z<he.objs.size:=Heap.lt_size hze
 show wpAny _ _ (Builtin.SmallTypes.ownedTupleHandOut (.ref z) (.ref he.objs.size) >>= _) _ _ _
 refine wpAny_bind ?_
 unfold Builtin.SmallTypes.ownedTupleHandOut
 have hzf:IsZip (he.push {cls:=.type "tuple",data:=.seq #[x,y]}) z TI TO .ellipsis:=Heap.get?_push_of_some _ hze
 refine wpAny_bind (wpAny_setField_rec hzf (by simp) fun hg hzg hsg=>?_)
 replace hzg:IsZip hg z TI TO (rawInt he.objs.size):=hzg
 refine wpAny_setField_rec hzg (by simp) fun hi hzi hsi=>?_
 replace hzi:IsZip hi z TI TO (rawInt he.objs.size):=hzi
 have up:∀c o,c≠z→he.get? c=some o→hi.get? c=some o:=fun c o c1 e=>hsi.extBut _ _ c1 (hsg.extBut _ _ c1 (Heap.get?_push_of_some _ e))
 have hTi:IsPair hi he.objs.size x y:=hsi.extBut _ _ (Nat.ne_of_gt hzlt) (hsg.extBut _ _ (Nat.ne_of_gt hzlt) (Heap.get?_push_size _ rfl))
 rw[hsz]at hzi hTi
 refine wpAny_pure ⟨_,rfl,?_⟩
 show Q (.ref he.objs.size) _
 rw[hsz]
 exact hQ x y hi td px py hzi (up _ _ ap.TOz hTOe) (D1.frame _ _ _ s1e fun c hc' o e=>up c o (fun q=>ap.mF (by rw[←q];exact hc')) e) (D2.frame _ _ _ s2e fun c hc' o e=>up c o (fun q=>ap.nZ (by rw[←q];exact hc')) e) hTi
   fun c o c1 c2 c3 c4 e=>up c o c1 (hke c o c1 c2 c3 c4 e)
theorem zQ(D1:Draws prog w A i1 f1 n1 P1 S1)(D2:Draws prog w A i2 f2 n2 P2 S2)(ap:md z TI TO i1 i2 f1 f2)(hz:IsZip s.heap z TI TO .none)(hTI:IsPair s.heap TI (.ref i1) (.ref i2))(hTO:IsPair s.heap TO a b)
   (aS:S1 k s.heap) (st2:S2 k s.heap) (hend:k=n1∨(k<n1∧k=n2)) {Q:Fin→Shared→Prop}
   (hE:∀h' tk e,(∀c o,c≠z→c≠TO→c≠i1→c≠i2→s.heap.get? c=some o→h'.get? c=some o)→(∃o,h'.get? e=some o∧o.cls=.type "StopIteration")→E (.ref e) {s with heap:=h',toks:=tk}):
   wpAny (model prog w) A (Builtin.«zip.__next__» ⟨[.ref z],[]⟩) Q E s:=by
 show wpAny _ _ (PySem.field (.ref z) 2 >>= _) _ _ _;refine wpAny_bind (wpAny_field hz rfl (x:=.bool false) rfl ?_)
 show wpAny _ _ (PySem.field (.ref z) 3 >>= _) _ _ _;refine wpAny_bind (wpAny_field hz rfl (x:=.ref TI) rfl (wpAny_bind (wpAny_seqItems hTI rfl ?_)))
 show wpAny _ _ (Builtin.SmallTypes.ownedTupleIsFree (.ref z) >>= _) _ _ _;refine wpAny_bind ?_
 unfold Builtin.SmallTypes.ownedTupleIsFree
 refine wpAny_bind (wpAny_field hz rfl (x:=.none) rfl (wpAny_pure ?_));simp only[if_true]
 refine wpAny_bind (wpAny_rule (wpAny_bind (wpAny_field hz rfl (x:=.ref TO) rfl (wpAny_bind (wpAny_setField_rec hz (by simp) fun ha hza hsa=>?_)))))
 replace hza:IsZip ha z TI TO .ellipsis:=hza
 refine wpAny_bind ?_
 simp only[List.zipIdx_cons,List.zipIdx_nil,List.forIn_cons,List.forIn_nil]
 refine wpAny_bind (wpAny_bind (wpAny_onRaise ?_));show wpAny _ _ (Builtin.SmallTypes.nextOf (.ref i1) >>= _) _ _ _
 rcases hend with rfl|⟨h1,rfl⟩
 · refine wpAny_bind (D1.done _ _ _ (fr_but D1 aS ap.mF hsa) fun hb e hsb he=>?_)
   obtain⟨oe,hoe,hce⟩:=he
   have hzb:IsZip hb z TI TO .ellipsis:=hsb _ _ ap.i1z.symm hza
   have hez:e≠z:=fun x=>by subst x;rw[hzb]at hoe;cases hoe;simp at hce
   exact wpAny_setField_rec hzb (by simp) fun hc _ hsc=>hE hc _ e (fun c o c1 _ c3 _ x=>hsc.extBut _ _ c1 (hsb _ _ c3 (hsa.extBut _ _ c1 x))) ⟨oe,hsc.extBut _ _ hez hoe,hce⟩
 · refine wpAny_bind (D1.item k _ _ _ h1 (fr_but D1 aS ap.mF hsa) fun x hb tb px sb1 hsb=>wpAny_pure ?_)
   have hTOb:IsPair hb TO a b:=hsb.extBut _ _ ap.TOi1 (hsa.extBut _ _ ap.TOz hTO)
   refine wpAny_bind (wpAny_seqItems hTOb rfl (wpAny_bind (wpAny_updateSeq_pair hTOb fun hc hTOc hsc=>?_)))
   refine wpAny_bind (wpAny_letGo (wpAny_pure (wpAny_bind (wpAny_bind (wpAny_onRaise ?_)))));show wpAny _ _ (Builtin.SmallTypes.nextOf (.ref i2) >>= _) _ _ _
   refine wpAny_bind (D2.done _ _ _ (fr_but D2 (fr_but D2 (fr_but D2 st2 ap.nZ hsa) ap.rL hsb) ap.oI hsc) fun hd e hsd he=>?_)
   obtain⟨oe,hoe,hce⟩:=he
   have hzd:IsZip hd z TI TO .ellipsis:=hsd _ _ ap.i2z.symm (hsc.extBut _ _ ap.TOz.symm (hsb.extBut _ _ ap.i1z.symm hza))
   have hez:e≠z:=fun x=>by subst x;rw[hzd]at hoe;cases hoe;simp at hce
   exact wpAny_setField_rec hzd (by simp) fun hf _ hsf=>hE hf _ e (fun c o c1 c2 c3 c4 x=>hsf.extBut _ _ c1 (hsd _ _ c4 (hsc.extBut _ _ c2 (hsb.extBut _ _ c3 (hsa.extBut _ _ c1 x))))) ⟨oe,hsf.extBut _ _ hez hoe,hce⟩
end
inductive Sd where
 |l (a:Addr)|t (a:Addr)|s (z:Str)
noncomputable def Sd.at(K:PySem.W.Frag)(H:Hp):Sd→List V→Prop
 |.l a,xs=>aN K H a xs
 |.t a,xs=>aW K H a xs
 |.s z,xs=>xs=z.cps.toList.map fun c=>.str ⟨#[c]⟩
noncomputable def Sd.val:Sd→Tok→Value
 |.l a,_=>.ref a
 |.t a,_=>.ref a
 |.s z,tk=>.str z tk
noncomputable def Sd.obj:Sd→Tok→Obj
 |.l a,_=>{cls:=.type "list_iterator",data:=.fields #[.ref a,.int 0 0]}
 |.t a,_=>{cls:=.type "tuple_iterator",data:=.fields #[.ref a,.int 0 0]}
 |.s z,tk=>{cls:=.type (if z.cps.all (· <128)then "str_ascii_iterator" else "str_iterator"),data:=.fields #[.str z tk,.int 0 0]}
noncomputable def Sd.eO(it:Addr)(i:Nat)(h:Heap)(tk:Tok):Sd→Prop
 |.l a=>h.IsListIter it a i
 |.t a=>h.IsTupleIter it a i
 |.s z=>h.IsStrIter it (if z.cps.all (· <128)then "str_ascii_iterator" else "str_iterator") z tk i
section
variable{X:Cx}{pins:List (Addr×Obj)}{σ:L2.St}{H:Hp}{s:Shared}{d:Sd}{xs:List V}
theorem Sd.inj(I:Inv X pins σ H s){ys:List V}(h:d.at X.K H xs)(h':d.at X.K H ys):xs=ys:=by
 cases d with
 |l a=>exact I.qF h h'
 |t a=>exact I.rn h h'
 |s z=>exact h.trans h'.symm
theorem Sd.draws{it:Addr}{tk:Tok}{A:Around}(I:Inv X pins σ H s)(hh:A.handled=none)(h:d.at X.K H xs)(hn:H it=none)(hK:X.K.lookup it=none):
   ∃(fp:List Addr) (P:Nat→Value→Prop) (St:Nat→Heap→Prop),Draws X.prog X.w A it fp xs.length P St∧(∀i x,P i x→∃v,xs[i]? =some v∧RelV v x)∧(∀i h',St i h'→d.eO it i h' tk)∧(∀i,d.eO it i s.heap tk→St i s.heap)∧
     (∀c∈fp,c=it∨(H c≠none∨∃o,X.K.lookup c=some o)):=by
 have nl:∀a:Addr,(H a≠none∨∃o,X.K.lookup a=some o)→a≠it:=fun a h z=>by
   subst z
   rcases h with h|⟨o,h⟩
   ·exact h hn
   ·rw[hK]at h;cases h
 cases d with
 | l a=>
   obtain⟨its,rv,pl,hz⟩:=I.list h
   have tr:H a≠none∨∃o,X.K.lookup a=some o:=by
     rcases h with(h|⟨o,h⟩)|⟨o,_,_,h,_⟩
     ·exact .inl (by rw[h];simp)
     ·exact .inl (by rw[h];simp)
     ·exact .inr ⟨o,h⟩
   have D:=Draws.list (prog:=X.prog) (w:=X.w) (A:=A) hh it a (nl a tr) its.toArray
   rw[List.size_toArray, ←rv.length]at D
   refine⟨_,_,_,D,fun i x hx=>?_,fun i h' st=>st.1,fun i st=>⟨st,pl.isList⟩,fun c hc=>?_⟩
   · have hx:its[i]? =some x:=by simpa using hx
     have hi:i<xs.length:=by rw[rv.length];exact(List.getElem?_eq_some_iff.mp hx).1
     obtain⟨u,hu,ru⟩:=rv.get (List.getElem?_eq_getElem hi)
     rw[hx]at hu;cases hu
     exact⟨_,List.getElem?_eq_getElem hi,ru⟩
   · simp only[List.mem_cons,List.not_mem_nil,or_false]at hc
     rcases hc with rfl|rfl
     ·exact .inl rfl
     ·exact .inr tr
 | t a=>
   obtain⟨its,rv,pl,hz⟩:=I.tuple h
   have tr:H a≠none∨∃o,X.K.lookup a=some o:=by
     rcases h with(h|⟨o,h⟩)|⟨o,_,_,h,_⟩
     ·exact .inl (by rw[h];simp)
     ·exact .inl (by rw[h];simp)
     ·exact .inr ⟨o,h⟩
   have D:=yb (prog:=X.prog) (w:=X.w) (A:=A) hh it a (nl a tr) its.toArray
   rw[List.size_toArray, ←rv.length]at D
   refine⟨_,_,_,D,fun i x hx=>?_,fun i h' st=>st.1,fun i st=>⟨st,pl⟩,fun c hc=>?_⟩
   · have hx:its[i]? =some x:=by simpa using hx
     have hi:i<xs.length:=by rw[rv.length];exact(List.getElem?_eq_some_iff.mp hx).1
     obtain⟨u,hu,ru⟩:=rv.get (List.getElem?_eq_getElem hi)
     rw[hx]at hu;cases hu
     exact⟨_,List.getElem?_eq_getElem hi,ru⟩
   · simp only[List.mem_cons,List.not_mem_nil,or_false]at hc
     rcases hc with rfl|rfl
     ·exact .inl rfl
     ·exact .inr tr
 | s z=>
   have h:xs=z.cps.toList.map fun c=>.str ⟨#[c]⟩:=h
   subst h
   have key:∀(i:Nat) (x:Value),(∃c u,z.cps[i]? =some c∧x=.str ⟨#[c]⟩ u)→∃v,(z.cps.toList.map fun c=>V.str ⟨#[c]⟩)[i]? =some v∧RelV v x:=by
     rintro i x ⟨c,u,hc,rfl⟩
     exact⟨.str ⟨#[c]⟩,by simp[hc],⟨u,rfl⟩⟩
   cases ha:z.cps.all (· <128)with
   | true=>
     have D:=Draws.strAscii (prog:=X.prog) (w:=X.w) (A:=A) hh it z tk
     refine⟨_,_,_,by simpa using D,key,fun i h' st=>?_,fun i st=>?_,fun c hc=>.inl (by simpa using hc)⟩
     · show h'.IsStrIter it (if z.cps.all (· <128)then "str_ascii_iterator" else "str_iterator") z tk i
       rw[ha];exact st
     · have st:s.heap.IsStrIter it (if z.cps.all (· <128)then "str_ascii_iterator" else "str_iterator") z tk i:=st
       rw[ha]at st;exact st
   | false=>
     have D:=Draws.strWide (prog:=X.prog) (w:=X.w) (A:=A) hh it z tk
     refine⟨_,_,_,by simpa using D,key,fun i h' st=>?_,fun i st=>?_,fun c hc=>.inl (by simpa using hc)⟩
     · show h'.IsStrIter it (if z.cps.all (· <128)then "str_ascii_iterator" else "str_iterator") z tk i
       rw[ha];exact st
     · have st:s.heap.IsStrIter it (if z.cps.all (· <128)then "str_ascii_iterator" else "str_iterator") z tk i:=st
       rw[ha]at st;exact st
end
theorem Sd.jq{d:Sd}{it:Addr}{i:Nat}{h h':Heap}{t:Tok}(st:d.eO it i h t)(k:∀o,h.get? it=some o→h'.get? it=some o):d.eO it i h' t:=by
 cases d with
 |l a=>obtain⟨o,e,r⟩:=st;exact⟨o,k o e,r⟩
 |t a=>obtain⟨o,e,r⟩:=st;exact⟨o,k o e,r⟩
 |s z=>obtain⟨o,e,r⟩:=st;exact⟨o,k o e,r⟩
theorem Sd.iE{d:Sd}{it:Addr}{i:Nat}{h:Heap}{t:Tok}(st:d.eO it i h t):∃o,h.get? it=some o∧∀v,o.data≠.cell v:=by
 cases d with
 |l a=>obtain⟨o,e,c,r⟩:=st;exact⟨o,e,fun v z=>by rw[r]at z;cases z⟩
 |t a=>obtain⟨o,e,c,r⟩:=st;exact⟨o,e,fun v z=>by rw[r]at z;cases z⟩
 |s z=>obtain⟨o,e,c,r⟩:=st;exact⟨o,e,fun v z=>by rw[r]at z;cases z⟩
noncomputable def oO(K:PySem.W.Frag)(d e:Sd):It where
 go i H:=∃xs ys,d.at K H xs∧e.at K H ys∧i<xs.length∧i<ys.length
 i9 i H v H':=∃t x y,v=.ref t∧H t=none∧(∀xs,d.at K H xs→xs[i]? =some x)∧(∀ys,e.at K H ys→ys[i]? =some y)∧H'=upd H t (.tup [x,y])
 stop i H:=∃xs ys,d.at K H xs∧e.at K H ys∧(i=xs.length∨(i<xs.length∧i=ys.length))
noncomputable def Gm(d e:Sd)(td te:Tok)(z TI TO i1 i2:Addr)(i:Nat)(h:Heap):Prop:=
 IsZip h z TI TO .none∧IsPair h TI (.ref i1) (.ref i2)∧(∃a b,IsPair h TO a b)∧d.eO i1 i h td∧e.eO i2 i h te
theorem y6{P:Program}{w:World}{K:PySem.W.Frag}{elts:List Expr}{k:Nat}{tp:Pos}(d e:Sd)(td te:Tok)(z TI TO i1 i2:Addr)(ne:[z,TI,TO,i1,i2].Nodup)(hK:∀b∈[z,TI,TO,i1,i2],K.lookup b=none):
   Turn P w K (.Tuple elts k tp) (oO K d e) [z,TI,TO,i1,i2] z (Gm d e td te z TI TO i1 i2) where
 mem:=by simp
 obj i h st b hb:=by
   obtain⟨hz,hTI,⟨a,b',hTO⟩,h1,h2⟩:=st
   simp only[List.mem_cons,List.not_mem_nil,or_false]at hb
   rcases hb with rfl|rfl|rfl|rfl|rfl
   ·exact⟨_,hz,fun v q=>by cases q⟩
   ·exact⟨_,hTI,fun v q=>by cases q⟩
   ·exact⟨_,hTO,fun v q=>by cases q⟩
   ·exact Sd.iE h1
   ·exact Sd.iE h2
 keep i h h' st kk:=by
   obtain⟨hz,hTI,⟨a,b',hTO⟩,h1,h2⟩:=st
   exact⟨kk z (by simp) _ hz,kk TI (by simp) _ hTI,⟨a,b',kk TO (by simp) _ hTO⟩,Sd.jq h1 fun o q=>kk i1 (by simp) o q,Sd.jq h2 fun o q=>kk i2 (by simp) o q⟩
 item := by
   intro X hP hw hKX hc i pins s σ H E I hf st hg
   subst hP hw hKX
   obtain⟨xs,ys,ax,ay,hx,hy⟩:=hg
   obtain⟨hz,hTI,⟨a,b,hTO⟩,h1,h2⟩:=st
   have hh:X.A.in1.handled=none:=I.ok.hd hc
   have un:∀b∈[z,TI,TO,i1,i2],H b=none:=fun b hb=>(hf b hb).1
   obtain⟨f1,P1,S1,D1,p1,s1,s1',q1⟩:=Sd.draws (it:=i1) (tk:=td) (A:=X.A.in1) I hh ax (un i1 (by simp)) (hK i1 (by simp))
   obtain⟨f2,P2,S2,D2,p2,s2,s2',q2⟩:=Sd.draws (it:=i2) (tk:=te) (A:=X.A.in1) I hh ay (un i2 (by simp)) (hK i2 (by simp))
   have out:∀ {fp:List Addr} {it:Addr},(∀c∈fp,c=it∨(H c≠none∨∃o,X.K.lookup c=some o))→∀b∈[z,TI,TO,i1,i2],b≠it→b∉fp:=fun q b hb hne hm=>by
     rcases q b hm with h|h|⟨o,h⟩
     ·exact hne h
     ·exact h (un b hb)
     ·rw[hK b hb]at h;cases h
   simp only[List.nodup_cons,List.mem_cons,List.not_mem_nil,or_false,not_or,List.nodup_nil,and_true,not_false_eq_true]at ne
   obtain⟨⟨n1,n2,n3,n4⟩,⟨n5,n6,n7⟩,⟨n8,n9⟩,n10⟩:=ne
   have ap:md z TI TO i1 i2 f1 f2:=⟨Ne.symm n1,Ne.symm n2,Ne.symm n3,Ne.symm n4,n5,n6,n7,n8,n9,n10,out q1 z (by simp) n3,out q1 TO (by simp) n8,out q1 i2 (by simp) (Ne.symm n10),out q2 z (by simp) n4,out q2 TO (by simp) n9,out q2 i1 (by simp) n10⟩
   have hT:s.TypeIs (.ref z) "zip":=⟨_,hz,rfl⟩
   unfold pyNext
   refine wpAny_bind (wpAny_attempt (wpAny_callSpecial?_slot (name:=Str.ofString "__next__") hT PySem.F.slot_zip_next (wpAny_call_entry PySem.F.slot_zip_next hT PySem.F.entry_zip_next (yd D1 D2 ap hz hTI hTO (s1' i h1) (s2' i h2) hx hy fun x y h' tk px py hz' hTO' aS st2 hp hk=>wpAny_pure ?_) (PySem.F.args_zip_next_1 _))))
   obtain⟨v1,e1,r1⟩:=p1 i x px
   obtain⟨v2,e2,r2⟩:=p2 i y py
   refine⟨_,rfl,wpAny_letOwnedTupleGo_zip hz' fun h2' hz2 hs2=>?_⟩
   have hzlt:z<s.heap.objs.size:=Heap.lt_size hz
   have Tz:s.heap.objs.size≠z:=Nat.ne_of_gt hzlt
   have hk2:∀c o,c≠z→c≠TO→c≠i1→c≠i2→s.heap.get? c=some o→h2'.get? c=some o:=fun c o c1 c2 c3 c4 q=>hs2.extBut _ _ c1 (hk c o c1 c2 c3 c4 q)
   have hp2:IsPair h2' s.heap.objs.size x y:=hs2.extBut _ _ Tz hp
   have nT:H s.heap.objs.size=none:=I.au.fresh (Nat.le_refl _)
   have aM:∀c u,H c=some u→c≠z∧c≠TO∧c≠i1∧c≠i2:=fun c u q=>by refine⟨?_,?_,?_,?_⟩<;>(intro w;rw[w,un _ (by simp)]at q;cases q)
   have nch:∀c,c∉[z,TO,i1,i2]→c≠z∧c≠TO∧c≠i1∧c≠i2:=fun c hc'=>by simpa[not_or] using hc'
   have u:Un (L2.b8 X.stack) [z,TO,i1,i2] H (upd H s.heap.objs.size (.tup [v1,v2])) s.heap h2':=
     ⟨fun b o q n hf' hx'=>let m:=nch b hx';hk2 b o m.1 m.2.1 m.2.2.1 m.2.2.2 q,fun b o q n hf' hx'=>let m:=nch b hx';⟨o.slots,hk2 b o m.1 m.2.1 m.2.2.1 m.2.2.2 q⟩,fun b o q n hx'=>by rw[L2.aA (Nat.ne_of_lt (Heap.lt_size q))];exact n,
       fun b o q hx'=>let m:=nch b hx';⟨o,hk2 b o m.1 m.2.1 m.2.2.1 m.2.2.2 q⟩,fun b zs q=>by rw[L2.aA (L2.cP q nT)];exact q,fun b o zs q=>by rw[L2.aA (L2.cP q nT)];exact q,fun b ps q=>⟨#[],by rw[L2.aA (L2.cP q nT),q];simp⟩⟩
   have au:L2.bc X.prog X.w (upd H s.heap.objs.size (.tup [v1,v2])) h2':=fun b ob q=>by
     by_cases hb:b=s.heap.objs.size
     · subst hb
       rw[L2.bC]at q
       cases q
       exact⟨show 2≤sizeLine by decide,[x,y],.cons r1 (.cons r2 .nil),⟨_,hp2,rfl,_,rfl⟩⟩
     · rw[L2.aA hb]at q
       refine(I.au b ob q).fg (fun c v hcv w=>?_) (fun c w=>by rw[L2.aA (L2.cP w nT)];exact w) fun c zs w=>by rw[L2.aA (L2.cP w nT)];exact w
       have tc:∃u,H c=some u:=by
         rcases hcv with rfl|hcv
         ·exact⟨_,q⟩
         ·exact⟨_,hcv⟩
       obtain⟨u',hu'⟩:=tc
       have m:=aM c u' hu'
       exact hk2 c v m.1 m.2.1 m.2.2.1 m.2.2.2 w
   have I2:Inv X pins σ (upd H s.heap.objs.size (.tup [v1,v2])) {s with heap:=h2',toks:=tk}:=I.lQ (s':={s with heap:=h2',toks:=tk}) (ch:=[z,TO,i1,i2]) rfl u au I.bare fun b hb=>by
     have hb':b∈[z,TI,TO,i1,i2]:=by
       simp only[List.mem_cons,List.not_mem_nil,or_false]at hb ⊢
       rcases hb with h|h|h|h<;>simp[h]
     obtain⟨_,a1,a2,a3,a4,a5⟩:=hf b hb'
     exact⟨a3,a1,a4,a5⟩
   have ltb:∀b∈[z,TI,TO,i1,i2],b≠s.heap.objs.size:=fun b hb=>by
     have:∃o,s.heap.get? b=some o:=by
       simp only[List.mem_cons,List.not_mem_nil,or_false]at hb
       rcases hb with rfl|rfl|rfl|rfl|rfl
       ·exact⟨_,hz⟩
       ·exact⟨_,hTI⟩
       ·exact⟨_,hTO⟩
       ·exact let⟨o,q,_⟩:=Sd.iE h1;⟨o,q⟩
       ·exact let⟨o,q,_⟩:=Sd.iE h2;⟨o,q⟩
     obtain⟨o,q⟩:=this
     exact Nat.ne_of_lt (Heap.lt_size q)
   refine⟨.ref s.heap.objs.size,_,I2,rfl,⟨_,v1,v2,rfl,nT,fun xs' hx'=>by rw[Sd.inj I hx' ax];exact e1,fun ys' hy'=>by rw[Sd.inj I hy' ay];exact e2,rfl⟩,⟨hz2,?_,⟨_,_,hs2.extBut _ _ (Ne.symm n2) hTO'⟩,Sd.jq (s1 _ _ aS) fun o q=>hs2.extBut _ _ (Ne.symm n3) q,Sd.jq (s2 _ _ st2) fun o q=>hs2.extBut _ _ (Ne.symm n4) q⟩,fun b hb=>?_⟩
   ·exact hk2 TI _ (Ne.symm n1) n5 n6 n7 hTI
   · show upd H _ _ b=none
     rw[L2.aA (ltb b hb)];exact un b hb
 done := by
   intro X hP hw hKX hc i pins s σ H E I hf st hg
   subst hP hw hKX
   obtain⟨xs,ys,ax,ay,hend⟩:=hg
   obtain⟨hz,hTI,⟨a,b,hTO⟩,h1,h2⟩:=st
   have hh:X.A.in1.handled=none:=I.ok.hd hc
   have un:∀b∈[z,TI,TO,i1,i2],H b=none:=fun b hb=>(hf b hb).1
   obtain⟨f1,P1,S1,D1,p1,s1,s1',q1⟩:=Sd.draws (it:=i1) (tk:=td) (A:=X.A.in1) I hh ax (un i1 (by simp)) (hK i1 (by simp))
   obtain⟨f2,P2,S2,D2,p2,s2,s2',q2⟩:=Sd.draws (it:=i2) (tk:=te) (A:=X.A.in1) I hh ay (un i2 (by simp)) (hK i2 (by simp))
   have out:∀ {fp:List Addr} {it:Addr},(∀c∈fp,c=it∨(H c≠none∨∃o,X.K.lookup c=some o))→∀b∈[z,TI,TO,i1,i2],b≠it→b∉fp:=fun q b hb hne hm=>by
     rcases q b hm with h|h|⟨o,h⟩
     ·exact hne h
     ·exact h (un b hb)
     ·rw[hK b hb]at h;cases h
   simp only[List.nodup_cons,List.mem_cons,List.not_mem_nil,or_false,not_or,List.nodup_nil,and_true,not_false_eq_true]at ne
   obtain⟨⟨n1,n2,n3,n4⟩,⟨n5,n6,n7⟩,⟨n8,n9⟩,n10⟩:=ne
   have ap:md z TI TO i1 i2 f1 f2:=⟨Ne.symm n1,Ne.symm n2,Ne.symm n3,Ne.symm n4,n5,n6,n7,n8,n9,n10,out q1 z (by simp) n3,out q1 TO (by simp) n8,out q1 i2 (by simp) (Ne.symm n10),out q2 z (by simp) n4,out q2 TO (by simp) n9,out q2 i1 (by simp) n10⟩
   have hT:s.TypeIs (.ref z) "zip":=⟨_,hz,rfl⟩
   unfold pyNext
   refine wpAny_bind (wpAny_attempt (wpAny_callSpecial?_slot (name:=Str.ofString "__next__") hT PySem.F.slot_zip_next (wpAny_call_entry PySem.F.slot_zip_next hT PySem.F.entry_zip_next (zQ D1 D2 ap hz hTI hTO (s1' i h1) (s2' i h2) hend fun h' tk e' hk he=>?_) (PySem.F.args_zip_next_1 _))))
   obtain⟨o,ho,hce⟩:=he
   refine wpAny_bind (wpAny_isInstance (T:="StopIteration") (b:=true) ⟨o,ho,hce⟩ isSubtype_stop (wpAny_pure ⟨rfl,?_⟩))
   have nch:∀c,c∉[z,TO,i1,i2]→c≠z∧c≠TO∧c≠i1∧c≠i2:=fun c hc'=>by simpa[not_or] using hc'
   have aM:∀c u,H c=some u→c≠z∧c≠TO∧c≠i1∧c≠i2:=fun c u q=>by refine⟨?_,?_,?_,?_⟩<;>(intro w;rw[w,un _ (by simp)]at q;cases q)
   have u:Un (L2.b8 X.stack) [z,TO,i1,i2] H H s.heap h':=
     ⟨fun b o q n hf' hx'=>let m:=nch b hx';hk b o m.1 m.2.1 m.2.2.1 m.2.2.2 q,fun b o q n hf' hx'=>let m:=nch b hx';⟨o.slots,hk b o m.1 m.2.1 m.2.2.1 m.2.2.2 q⟩,fun b o q n hx'=>n,
       fun b o q hx'=>let m:=nch b hx';⟨o,hk b o m.1 m.2.1 m.2.2.1 m.2.2.2 q⟩,fun b zs q=>q,fun b o zs q=>q,fun b ps q=>⟨#[],by rw[q];simp⟩⟩
   exact I.lQ (s':={s with heap:=h',toks:=tk}) (ch:=[z,TO,i1,i2]) rfl u (fun b ob q=>(I.au b ob q).fg (fun c v hcv w=>by
       have tc:∃u,H c=some u:=by
         rcases hcv with rfl|hcv
         ·exact⟨_,q⟩
         ·exact⟨_,hcv⟩
       obtain⟨u',hu'⟩:=tc
       have m:=aM c u' hu'
       exact hk c v m.1 m.2.1 m.2.2.1 m.2.2.2 w) (fun _ w=>w) fun _ _ w=>w) I.bare fun b hb=>by
     have hb':b∈[z,TI,TO,i1,i2]:=by
       simp only[List.mem_cons,List.not_mem_nil,or_false]at hb ⊢
       rcases hb with h|h|h|h<;>simp[h]
     obtain⟨_,a1,a2,a3,a4,a5⟩:=hf b hb'
     exact⟨a3,a1,a4,a5⟩
 self _ _ _ _ _ st h:=wpAny_pyIter_zip st.1 h
noncomputable def Sd.is(h:Heap):Sd→Prop
 |.l a=>∃xs,h.IsList a xs
 |.t a=>∃xs,h.IsTuple a xs
 |.s _=>True
theorem Sd.EW{h:Heap}{d:Sd}(o:Obj)(x:d.is h):d.is (h.push o):=by
 cases d with
 |l a=>obtain⟨xs,ob,e,r⟩:=x;exact⟨xs,ob,Heap.get?_push_of_some _ e,r⟩
 |t a=>obtain⟨xs,ob,e,r⟩:=x;exact⟨xs,ob,Heap.get?_push_of_some _ e,r⟩
 |s z=>trivial
theorem Sd.iter{prog:Program}{w:World}{A:Around}{E:Value→Shared→Prop}{s:Shared}{d:Sd}{tk:Tok}{Q:Value→Shared→Prop}(x:d.is s.heap)(h:Q (.ref s.heap.objs.size) {s with heap:=s.heap.push (d.obj tk)}):
   wpAny (model prog w) A (pyIter (d.val tk)) Q E s:=by
 cases d with
 |l a=>obtain⟨xs,x⟩:=x;exact wpAny_pyIter_list x h
 |t a=>obtain⟨xs,x⟩:=x;exact wpAny_pyIter_tuple x h
 | s z=>
   have h:Q (.ref s.heap.objs.size) {s with heap:=s.heap.push {cls:=.type (if z.cps.all (· <128)then "str_ascii_iterator" else "str_iterator"),data:=.fields #[.str z tk,.int 0 0]} }:=h
   cases ha:z.cps.all (· <128)with
   |true=>rw[ha]at h;exact wpAny_pyIter_ascii ha h
   |false=>rw[ha]at h;exact wpAny_pyIter_wide ha h
noncomputable abbrev kU(h:Heap)(d:Sd)(td:Tok):Heap:=h.push (d.obj td)
noncomputable abbrev lG(h:Heap)(d e:Sd)(td te:Tok):Heap:=(kU h d td).push (e.obj te)
noncomputable abbrev lq(h:Heap)(d e:Sd)(td te:Tok):Heap:=(lG h d e td te).push {cls:=.type "tuple",data:=.seq #[.ref h.objs.size,.ref (kU h d td).objs.size]}
noncomputable abbrev lW(h:Heap)(d e:Sd)(td te:Tok):Heap:=(lq h d e td te).push {cls:=.type "tuple",data:=.seq #[.none,.none]}
noncomputable abbrev gc(h:Heap)(d e:Sd)(td te:Tok):Heap:=(lW h d e td te).push {cls:=.type "zip",data:=.fields #[.none,.bool false,.bool false,.ref (lG h d e td te).objs.size,.ref (lq h d e td te).objs.size]}
theorem CV(d e:Sd)(td te:Tok):Meets (Builtin.«zip.__new__» ⟨[.type "zip",d.val td,e.val te],[]⟩) (fun _ R s=>d.is s.heap∧e.is s.heap∧R (.ok (.ret (.ref (lW s.heap d e td te).objs.size))) {s with heap:=gc s.heap d e td te}):=
 .of_wp fun prog w A R s h=>by
   obtain⟨hp,g,dr,tk,os⟩:=s;obtain⟨h1,h2,h⟩:=h
   have hsub:=sub_zip
   have a1:d.is (Shared.heap ⟨hp,g,dr,tk,os⟩):=h1
   have a2:e.is (Shared.heap ⟨hp.push (d.obj td),g,dr,tk,os⟩):=Sd.EW _ h2
   wp_walk using Sd.iter a1,Sd.iter a2
   exact⟨_,rfl,h⟩
section
variable{X:Cx}{M:Md}{G H H':Hp}{F0 F F':Addr→Prop}{σ:L2.St}{ρ:En}{pos:Pos}{pins:List (Addr×Obj)}{s:Shared}
theorem Sd.oU{d:Sd}{xs:List V}(I:Inv X pins σ H s)(h:d.at X.K H xs):d.is s.heap:=by
 cases d with
 |l a=>obtain⟨its,_,pl,_⟩:=I.list h;exact⟨_,pl.isList⟩
 |t a=>obtain⟨its,_,pl,_⟩:=I.tuple h;exact⟨_,pl⟩
 |s z=>trivial
noncomputable def Dd(K:PySem.W.Frag)(ta:TA):TI:=fun σ H R=>ta σ H fun vs H1=>∃(x y:V) (d e:Sd) (xs ys:List V),vs=[x,y]∧(∀u,RelV x u→∃tk,u=d.val tk)∧(∀u,RelV y u→∃tk,u=e.val tk)∧d.at K H1 xs∧e.at K H1 ys∧R (oO K d e) H1
theorem t5:bootBuiltins "zip"=some (.type "zip"):=by decide+kernel
theorem Ab{elts:List Expr}{k:Nat}{tp:Pos}{a b:Expr}{ta:TA}{p:Pos}(hg:L2.Gl X "zip")(hm:X.mg "zip"=none)(ha:PA X [a,b] ta)(hs:starEach [a,b] X.env=(false,eval a X.env)::starEach [b] X.env)(hs2:starEach [b] X.env=(false,eval b X.env)::starEach [] X.env):
   L2.PI X (.Tuple elts k tp) (.Call (.Name "zip" p) [a,b] [] pos) (Dd X.K ta):=by
 intro pins s σ H R I h
 refine PyProof.Rows.Call_ (L2.eM I hg hm t5 (PyProof.Rows.callWith_type1 (L2.ar (ha pos pins s σ H _ I h) fun us s1 ⟨vs,H1,I1,r1,q1⟩=>?_) hs (by rw[hs2];rfl)))
 obtain⟨x,y,d,e,xs,ys,rfl,hx,hy,ax,ay,q⟩:=q1
 obtain⟨u1,u2,rfl,ru1,ru2⟩:=L2.vals2 r1
 obtain⟨td,rfl⟩:=hx u1 ru1
 obtain⟨te,rfl⟩:=hy u2 ru2
 refine callType_new PySem.F.called_zip (by decide) (PySem.F.typeCall_zip_2 _ _) (PySem.F.newCall_zip_2 _ _) (fun obj=>PySem.F.args_object_init_3 obj _ _) PySem.F.entry_zip_new (CV d e td te) ⟨Sd.oU I1 ax,Sd.oU I1 ay,?_⟩
 have z1:(kU s1.heap d td).objs.size=s1.heap.objs.size+1:=Heap.size_push ..
 have z2:(lG s1.heap d e td te).objs.size=s1.heap.objs.size+2:=by rw[Heap.size_push,z1]
 have z3:(lq s1.heap d e td te).objs.size=s1.heap.objs.size+3:=by rw[Heap.size_push,z2]
 have z4:(lW s1.heap d e td te).objs.size=s1.heap.objs.size+4:=by rw[Heap.size_push,z3]
 have nf:∀(d:Sd) tk,(d.obj tk).isFreed=false:=fun d tk=>by cases d<;>rfl
 have g5:(gc s1.heap d e td te).get? (lW s1.heap d e td te).objs.size=some _:=Heap.get?_push_size _ rfl
 have g4:(gc s1.heap d e td te).get? (lq s1.heap d e td te).objs.size=some _:=Heap.get?_push_of_some _ (Heap.get?_push_size _ rfl)
 have g3:(gc s1.heap d e td te).get? (lG s1.heap d e td te).objs.size=some _:=Heap.get?_push_of_some _ (Heap.get?_push_of_some _ (Heap.get?_push_size _ rfl))
 have g2:(gc s1.heap d e td te).get? (kU s1.heap d td).objs.size=some (e.obj te):=Heap.get?_push_of_some _ (Heap.get?_push_of_some _ (Heap.get?_push_of_some _ (Heap.get?_push_size _ (nf e te))))
 have g1:(gc s1.heap d e td te).get? s1.heap.objs.size=some (d.obj td):=Heap.get?_push_of_some _ (Heap.get?_push_of_some _ (Heap.get?_push_of_some _ (Heap.get?_push_of_some _ (Heap.get?_push_size _ (nf d td)))))
 have old:∀c o,s1.heap.get? c=some o→(gc s1.heap d e td te).get? c=some o:=fun c o x=>Heap.get?_push_of_some _ (Heap.get?_push_of_some _ (Heap.get?_push_of_some _ (Heap.get?_push_of_some _ (Heap.get?_push_of_some _ x))))
 rw[z2,z3,z4]at g5
 rw[z1,z2]at g3
 rw[z3]at g4
 rw[z1]at g2
 show _∧_
 rw[z4]
 refine⟨⟨_,g5,rfl⟩,wpAny_pyIter_zip g5 ?_⟩
 have I2:Inv X pins σ H1 {s1 with heap:=gc s1.heap d e td te}:=I1.kept (t':=s1.toks) old
 have hK:∀b,s1.heap.objs.size≤b→X.K.lookup b=none:=fun b hb=>by
   cases q:X.K.lookup b with
   |none=>rfl
   |some o=>exact absurd (Nat.lt_of_lt_of_le (Heap.lt_size (I1.cx b o q)) hb) (Nat.lt_irrefl _)
 have itr0:∀ {d:Sd} {it:Addr} {tk:Tok} {h:Heap},h.get? it=some (d.obj tk)→d.eO it 0 h tk:=fun {d it tk h} q=>by
   cases d with
   |l a=>exact⟨_,q,rfl,rfl⟩
   |t a=>exact⟨_,q,rfl,rfl⟩
   |s z=>exact⟨_,q,rfl,rfl⟩
 refine⟨s1.heap.objs.size+4,[s1.heap.objs.size+4,s1.heap.objs.size+2,s1.heap.objs.size+3,s1.heap.objs.size,s1.heap.objs.size+1],_,_,H1,rfl,I2,y6 d e td te _ _ _ _ _ ?_ ?_,⟨g5,g3,⟨_,_,g4⟩,itr0 g1,itr0 g2⟩,fun b hb=>?_,q⟩
 ·simp
 · intro b hb
   refine hK b ?_
   simp only[List.mem_cons,List.not_mem_nil,or_false]at hb
   rcases hb with rfl|rfl|rfl|rfl|rfl<;>omega
 · have hb':s1.heap.objs.size≤b:=by
     simp only[List.mem_cons,List.not_mem_nil,or_false]at hb
     rcases hb with rfl|rfl|rfl|rfl|rfl<;>omega
   exact I1.gA hb' (I1.au.fresh hb')
theorem pe{d:D}{ds:List D}{x:V}(e:items d=.ok ds)(r:Rep M H F d x):∃(q:Sd) (xs:List V),(∀u,RelV x u→∃tk,u=q.val tk)∧ae M H F ds xs∧∀H' F',Mv F H F' H'→q.at M.K H' xs:=by
 unfold items at e
 split at e
 · cases e
   simp only[Rep]at r
   obtain⟨a,xs,rfl,h,rs⟩:=r
   exact⟨.l a,xs,fun u ru=>⟨0,ru⟩,rs,fun H' F' m=>(h.mv m).sq⟩
 · cases e
   simp only[Rep]at r
   obtain⟨a,xs,rfl,h,rs⟩:=r
   exact⟨.t a,xs,fun u ru=>⟨0,ru⟩,rs,fun H' F' m=>(h.mv m).sq⟩
 · rename_i z
   cases e
   cases dG r
   refine⟨.s z,z.cps.toList.map fun c=>.str ⟨#[c]⟩,fun u ⟨tk,ru⟩=>⟨tk,ru⟩,?_,fun _ _ _=>rfl⟩
   generalize z.cps.toList=l
   induction l with
   |nil=>exact ae.nil
   |cons c l ih=>exact ae.cons ki ih
 ·cases e
theorem sY:∀ {xs ys:List D},(je xs ys).length=min xs.length ys.length
 |[],_=>by simp
 |_::_,[]=>by simp
 |x::xs,y::ys=>by simp[sY (xs:=xs) (ys:=ys)]
theorem qW:∀ {xs ys:List D} {i:Nat} {d:D},(je xs ys)[i]? =some d→∃x y,d=.tup [x,y]∧xs[i]? =some x∧ys[i]? =some y
 |[],_,_,_,h=>by simp at h
 |_::_,[],_,_,h=>by simp at h
 |x::xs,y::ys,0,d,h=>by simp at h;exact⟨x,y,h.symm,rfl,rfl⟩
 | x::xs,y::ys,i+1,d,h=>by
   have h:(je xs ys)[i]? =some d:=by simpa using h
   obtain⟨a,b,h1,h2,h3⟩:=qW h
   exact⟨a,b,h1,by simpa using h2,by simpa using h3⟩
theorem vP{q r:Sd}{xs ys:List V}{ds es:List D}(h1:∀H' F',Mv F H F' H'→q.at M.K H' xs)(h2:∀H' F',Mv F H F' H'→r.at M.K H' ys)(rs:ae M H F ds xs)(ss:ae M H F es ys)
   (inj1:∀H' F' zs,Mv F H F' H'→q.at M.K H' zs→True):Gives M (oO M.K q r) H F (je ds es):=by
 intro H' F' mv tr
 have a1:=h1 H' F' mv
 have a2:=h2 H' F' mv
 have rs':=rs.mv mv
 have ss':=ss.mv mv
 refine⟨fun i d hd=>?_,?_⟩
 · obtain⟨x,y,rfl,hx,hy⟩:=qW hd
   obtain⟨vx,ex,rx⟩:=rs'.get hx
   obtain⟨vy,ey,ry⟩:=ss'.get hy
   refine⟨⟨xs,ys,a1,a2,(List.getElem?_eq_some_iff.mp ex).1,(List.getElem?_eq_some_iff.mp ey).1⟩,fun v H2 hv=>?_⟩
   obtain⟨t,wx,wy,rfl,ht,g1,g2,rfl⟩:=hv
   have q1:=g1 xs a1
   have q2:=g2 ys a2
   rw[ex]at q1
   rw[ey]at q2
   cases q1
   cases q2
   exact⟨af.bI ht _,gI tr ht (ae.cons rx (ae.cons ry ae.nil))⟩
 · refine⟨xs,ys,a1,a2,?_⟩
   rw[sY,rs.length,ss.length]
   omega
theorem yq{elts:List Expr}{k:Nat}{tp:Pos}{a b:Expr}{fa fb:Ex}{p:Pos}(hg:L2.Gl X "zip")(hm:X.mg "zip"=none)(ha:JE X a fa)(hb:JE X b fb)(hs:starEach [a,b] X.env=(false,eval a X.env)::starEach [b] X.env)(hs2:starEach [b] X.env=(false,eval b X.env)::starEach [] X.env):
   JI X (.Tuple elts k tp) (.Call (.Name "zip" p) [a,b] [] pos) (nX fa fb):=
 kK (Ab hg hm (cy ha (cy hb dF hs2) hs) hs hs2) fun σ H Q ⟨ρ,F,ds,r,e,q⟩=>by
   obtain⟨d1,ed1,e⟩:=ah.mp e
   obtain⟨d2,ed2,e⟩:=ah.mp e
   obtain⟨xs,exs,e⟩:=ah.mp e
   obtain⟨ys,eys,e⟩:=ah.mp e
   cases e
   refine⟨ρ,F,[d1,d2],r,by show(fa ρ).bind _=_;rw[ed1];show((fb ρ).bind _).bind _=_;rw[ed2];rfl,fun vs H1 s1 rv=>?_⟩
   obtain⟨x,y,rfl,rx,ry⟩:=rv.two
   obtain⟨sd1,vx,u1,rr1,at1⟩:=pe exs rx
   obtain⟨sd2,vy,u2,rr2,at2⟩:=pe eys ry
   exact⟨x,y,sd1,sd2,vx,vy,rfl,u1,u2,at1 H1 F Mv.refl,at2 H1 F Mv.refl,q _ H1 s1 (vP (M:=aj X) at1 at2 rr1 rr2 fun _ _ _ _ _=>trivial)⟩
end
noncomputable def rV:D→Value→Prop
 |.av,u=>u=.none
 |.bl b,u=>u=.bool b
 |.int i,u=>∃t,u=.int i t
 |.str x,u=>∃t,u=.str x t
 |_,_=>False
theorem Cw{d:D}{u:Value}(h:rV d u):∃v,RelV v u∧∀(M:Md) H F,Rep M H F d v:=by
 cases d with
 |av=>exact⟨.av,h,fun _ _ _=>qG⟩
 |bl b=>exact⟨.bl b,h,fun _ _ _=>bW⟩
 |int i=>exact⟨.int i,h,fun _ _ _=>cv⟩
 |str x=>exact⟨.str x,h,fun _ _ _=>ki⟩
 |_=>exact h.elim
section
variable{P:Program}{w:World}{K:PySem.W.Frag}{h:Heap}{mg:Str→Option Value}{x:Str}
theorem fB{u:Value}{d:D}(X:K.In h)(G:h.Ns mainGlobals mg)(e1:PySem.W.nsIn K mainGlobals x=some (some u))(hm:rV d u):bo P w K mg x d:=by
 obtain⟨v,rv,hv⟩:=Cw hm
 exact⟨v,u,PySem.W.mg_of X G e1,rv,fun H F=>hv _ H F⟩
end
end PL
namespace PL
open PySem
end PL
set_option maxHeartbeats 1000000
namespace PL
open PySem PySem.Spec
open L2 (V Hp HO Cx PE PT PW PA PS bJ PG cB VK TE TT TA TS TI TG Inv RelV Vals Rd aN aW upd af Key XK Ends aD eY bp R2 EP It Turn cz Un)
section
variable{X:Cx}{M:Md}{G H H':Hp}{F0 F F':Addr→Prop}{σ:L2.St}{ρ:En}{pos:Pos}{pins:List (Addr×Obj)}{s:Shared}
theorem bb.fresh{p:Addr}{o:HO}(r:bb M H F σ ρ)(hp:H p=none):bb M (upd H p o) (fun b=>F b∨b=p) σ ρ:=by
 have ne:∀b u,H b=some u→b≠p:=fun b u e z=>by subst z;rw[hp]at e;cases e
 have mv:Mv F H (fun b=>F b∨b=p) (upd H p o):=fun b u n e=>⟨fun h=>h.elim n (ne b u e),by rw[L2.aA (ne b u e)];exact e⟩
 have sm:af H (upd H p o):=af.bI hp _
 exact⟨r.len,fun b f=>by
   by_cases hb:b=p
   ·subst hb;exact⟨_,L2.bC⟩
   ·obtain⟨u,hu⟩:=r.aM b (f.resolve_right hb);exact⟨u,sm _ _ hu⟩,
   fun i d e=>let⟨v,h1,h2⟩:=r.sh i d e;⟨v,h1,h2.mv mv⟩,
   fun i ds e=>let⟨a,xs,e1,f,e2,q⟩:=r.ol i ds e;⟨a,xs,e1,.inl f,sm _ _ e2,q.mv mv⟩,
   fun i ks ds e=>let⟨a,xs,e1,f,e2,l,q⟩:=r.od i ks ds e;⟨a,xs,e1,.inl f,sm _ _ e2,l,q.mv mv⟩,
   r.cw,r.on.mv mv (fun j xss e=>⟨e,rfl⟩) (fun j xss b u e hb f hu=>⟨.inl f,sm _ _ hu⟩) fun j xss b e hb k ok=>(r.on j xss e).2.1 b hb k ok⟩
noncomputable def JP(X:Cx)(pos:Pos)(keys:List (Option Expr))(values:List Expr)(ks:List Ky)(fs:List Ex):Prop:=
 ∃trs,L2.jP X pos keys values trs∧∀(F:Addr→Prop) (σ:L2.St) (H:Hp) (ρ:En) (ds:List D) (Q:List (V×V)→Hp→Prop),bb (aj X) H F σ ρ→eList fs ρ=.ok ds→
   (∀xs H',af H H'→ae (aj X) H' F ds xs→Q ((ks.zip xs).map fun kv=>(L2.kV kv.1,kv.2)) H')→L2.lC trs σ H Q
end
section
variable{X:Cx}{M:Md}{G H H':Hp}{F0 F F':Addr→Prop}{σ:L2.St}{ρ:En}{pos:Pos}{pins:List (Addr×Obj)}{s:Shared}
end
section
variable{X:Cx}{M:Md}{G H H':Hp}{F0 F F':Addr→Prop}{σ:L2.St}{ρ:En}{pos:Pos}{pins:List (Addr×Obj)}{s:Shared}
end
section
variable{X:Cx}{M:Md}{G H H':Hp}{F0 F F':Addr→Prop}{σ:L2.St}{ρ:En}{pos:Pos}{pins:List (Addr×Obj)}{s:Shared}
theorem DF(i:Nat){st:Stmt}{f:Ex}(h:PS X st (L2.mI (lX (aj X) f) (L2.aB i)))(hl:∀ρ d,f ρ=.ok d→∃ds,d=.lst ds):JS X st (bQ (aB i) f):=fun F0=>
 cb h fun D σ H ⟨ρ,F,fl,r,e,q⟩=>by
   obtain⟨d,ed,e⟩:=ah.mp e
   obtain⟨ds,rfl⟩:=hl _ _ ed
   cases e
   refine⟨ρ,F,ds,r.rs,ed,fun p H1 xs s1 hp rs=>?_⟩
   have s2:af H1 (upd H1 p (.lst xs)):=af.bI hp _
   refine q _ _ F (.same (s1.trans s2)) (((r.same s1).same s2).iF ?_)
   simp only[Rep]
   refine⟨p,xs,rfl,.inl ⟨fun f=>?_,.inl L2.bC⟩,rs.mv (.same s2)⟩
   obtain⟨o,e⟩:=(r.same s1).rs.aM p f
   rw[hp]at e;cases e
end
noncomputable def eL(i:Int):Bool:=decide (i.natAbs.log2<100000)
@[simp] noncomputable def eT:D→D→R D
 |.int i,.int j=>if(eL i&&eL j)=true then .ok (.int (i*j))else .bad
 |_,_=>.bad
@[simp] noncomputable def er:D→D→R D
 |.int i,.int j=>if 0<j∧j.natAbs.log2<9000 then .ok (.int (i / j))else .bad
 |_,_=>.bad
@[simp] noncomputable def jF:D→D→R D
 |.int i,.int j=>if 0≤j∧j≤1000∧eL i=true then .ok (.int (i ^ j.toNat))else .bad
 |_,_=>.bad
@[simp] noncomputable def Hr:D→D→R D
 |.int i,.int j=>.ok (.int (if j>i then j else i))
 |_,_=>.bad
noncomputable def frz(i:Nat)(ρ:En):En:=match ρ[i]? with
 |some (.ol xs)=>ρ.set i (.sh (.lst xs))
 |_=>ρ
mutual
noncomputable def bA:D→Bool
 |.av=>true
 |.bl _=>true
 |.int _=>true
 |.str _=>true
 |.tup xs=>eR xs
 |_=>false
noncomputable def eR:List D→Bool
 |[]=>true
 |x::xs=>bA x&&eR xs
end
@[simp] noncomputable def nE(i:Nat)(f:Ex):Ex:=fun ρ=>(f (frz i ρ)).bind fun d=>if bA d=true then .ok d else .bad
@[simp] noncomputable def jV(i:Nat)(f:Ex):Ex:=fun ρ=>(f (frz i ρ)).bind fun d=>match d with
 |.lst ds=>if eR ds=true then .ok (.lst ds)else .bad
 |_=>.bad
@[simp] noncomputable def dZ(i:Nat)(f:aG):aG:=fun ρ=>f (frz i ρ)
@[simp] noncomputable def gO(i:Nat)(e:Ex):Sm:=fun ρ=>(e ρ).bind fun d=>match d,ρ[i]? with
 |.lst ys,some (.ol xs)=>if xs.length+ys.length≤dW then .ok (.next (ρ.set i (.ol (xs++ys))))else .bad
 |_,_=>.bad
section
variable{X:Cx}{M:Md}{G H H':Hp}{F0 F F':Addr→Prop}{σ:L2.St}{ρ:En}{pos:Pos}{pins:List (Addr×Obj)}{s:Shared}
theorem mR{i:Int}(h:eL i=true):Builtin.Int.intBits i≤100000:=by
 unfold eL at h
 rw[decide_eq_true_eq]at h
 unfold Builtin.Int.intBits
 split<;>omega
theorem gz:aD X (binaryOp .Mult) (L2.rI (fun i j=>eL i=true∧eL j=true) fun i j=>.int (i*j)):=L2.lS fun i j t u s Q E c q=>PyProof.Rows.mul_int q (IntMulOk.of_bits (Nat.le_trans (mR c.1) (by decide)) (Nat.le_trans (mR c.2) (by decide)))
theorem gE:bh M eT (L2.rI (fun i j=>eL i=true∧eL j=true) fun i j=>.int (i*j)):=by
 intro F H x y a b d Q tr ra rb e q
 unfold eT at e
 split at e
 · split at e
   · rename_i h
     cases e
     rw[Bool.and_eq_true]at h
     exact⟨_,_,aU ra,aU rb,h,q _ _ (af.refl _) cv⟩
   ·cases e
 ·cases e
theorem gM:aD X (binaryOp .FloorDiv) (L2.rI (fun i j=>0<j∧j.natAbs.log2<9000) fun i j=>.int (i / j)):=by
 refine L2.lS fun i j t u s Q E c h=>?_
 have e:i / j=i.fdiv j:=(Int.fdiv_eq_ediv_of_nonneg _ (Int.le_of_lt c.1)).symm
 rw[e]at h
 exact PyProof.Rows.floordiv_int (by have:=c.1;omega) h (Or.inl (PyProof.noPylong_of_log2 c.2))
theorem gQ:bh M er (L2.rI (fun i j=>0<j∧j.natAbs.log2<9000) fun i j=>.int (i / j)):=by
 intro F H x y a b d Q tr ra rb e q
 unfold er at e
 split at e
 · split at e
   · rename_i h
     cases e
     exact⟨_,_,aU ra,aU rb,h,q _ _ (af.refl _) cv⟩
   ·cases e
 ·cases e
theorem Ew:aD X (binaryOp .Pow) (L2.rI (fun i j=>0≤j∧j≤1000∧eL i=true) fun i j=>.int (i ^ j.toNat)):=by
 refine L2.lS fun i j t u s Q E c q=>PyProof.Rows.pow_int c.1 ?_ q
 have h:=mR c.2.2
 have h2:(Builtin.Int.intBits i:Int)*j≤100000*1000:=Int.mul_le_mul (by omega) c.2.1 c.1 (by omega)
 have h3:(2:Int) ^ 27=134217728:=by decide
 omega
theorem Bh:bh M jF (L2.rI (fun i j=>0≤j∧j≤1000∧eL i=true) fun i j=>.int (i ^ j.toNat)):=by
 intro F H x y a b d Q tr ra rb e q
 unfold jF at e
 split at e
 · split at e
   · rename_i h
     cases e
     exact⟨_,_,aU ra,aU rb,h,q _ _ (af.refl _) cv⟩
   ·cases e
 ·cases e
theorem ae.lz{ds:List D}{xs:List V}(h:ae M H F ds xs):∀k:Nat,ae M H F (List.replicate k ds).flatten (List.replicate k xs).flatten
 |0=>by simp[ae]
 | k+1=>by
   rw[List.replicate_succ,List.replicate_succ,List.flatten_cons,List.flatten_cons]
   exact h.append (ae.lz h k)
noncomputable def tW(M:Md):R2:=fun x y H Q=>∃F l k xs,x=.ref l∧y=.int k∧dO M H F l xs∧0≤k∧k<1000∧xs.length≤1000∧∀p,H p=none→Q (.ref p) (upd H p (.lst (List.replicate k.toNat xs).flatten))
theorem lx:aD X (binaryOp .Mult) (tW (aj X)):=by
 intro pins s σ H x y v u Q I rx ry h
 obtain⟨F,l,k,xs,rfl,rfl,hH,h1,h2,hz,q⟩:=h
 cases rx
 obtain⟨t,rfl⟩:=ry
 obtain⟨its,n,sl,r,e,z⟩:=jn I hH
 have hl:=r.length
 have hm2:its.length*k.toNat≤1000*1000:=Nat.mul_le_mul (by omega) (by omega)
 have hm:its.toArray.size*k.toNat≤1000*1000:=by rw[List.size_toArray];exact hm2
 refine wpAny_binaryOp_repeat_ref (T:="list") (U:="int") (by decide) ⟨_,e,rfl⟩ (fun s'=>typeIs_int s' k t) noFill_list_mul PySem.F.fills_int_mul PySem.F.slot_int_rmul repeat_list PySem.F.slot_int_index.lookup
   (call_meets PySem.F.slot_int_rmul (typeIs_int s k t) PySem.F.entry_int_rmul (PySem.F.args_int_rmul_2 _ _) (lm_int_rmul_list_any k t l its.toArray n none sl)
     ⟨e,rfl,⟨_,e,rfl⟩,call_meets PySem.F.slot_list_mul ⟨_,e,rfl⟩ PySem.F.entry_list_mul (PySem.F.args_list_mul_2 _ _)
       (lm_list_mul_any l its.toArray n none sl k t (by simp[Builtin.List.listFitsIndex];omega) (by omega) (by simp[Builtin.List.listTooLong,sizeLine];omega)) ⟨e,?_⟩⟩)
 rw[PyProof.Rows.listMul_foldl_if]
 refine⟨.ref _,_,I.pE (t':=s.toks) (r.rep k.toNat) (by rw[L2.len_rep,Nat.mul_comm,hl];have:(sizeLine:Nat)=16777216:=sizeLine_eq;omega),rfl,q _ I.fresh⟩
theorem mP:bh M fO (tW M):=by
 intro F H x y a b d Q tr ra rb e q
 unfold fO at e
 split at e
 · split at e
   · rename_i h
     cases e
     simp only[Rep]at ra
     obtain⟨l,xs,rfl,h1,r1⟩:=ra
     exact⟨F,l,_,xs,rfl,aU rb,h1,h.1,h.2.1,by rw[←r1.length];exact h.2.2,fun p hp=>q _ _ (af.bI hp _) (gp tr hp (r1.lz _))⟩
   ·cases e
 ·cases e
theorem bb.frz(r:bb M H F σ ρ)(i:Nat):∃F',(∀b,F b→F' b∨∃u,H b=some u∧((∃xs,u=.lst xs)∨∃kvs,u=.dK kvs))∧bb M H F' σ (frz i ρ):=by
 by_cases ol:∃ds,ρ[i]? =some (.ol ds)
 · obtain⟨ds,q0⟩:=ol
   have oi:bx ρ i:=.inl ⟨_,q0⟩
   obtain⟨a,xs,ei,fa,e2,rs⟩:=r.ol i ds q0
   have mv:Mv F H (fun b=>F b∧b≠a) H:=fun b v n e=>⟨fun h=>n h.1,e⟩
   have hrep:Rep M H (fun b=>F b∧b≠a) (.lst ds) (.ref a):=by
     simp only[Rep]
     exact⟨a,xs,rfl,.inl ⟨fun h=>h.2 rfl,.inl e2⟩,rs.mv mv⟩
   refine⟨fun b=>F b∧b≠a,fun b h=>?_,?_⟩
   · by_cases hb:b=a
     · subst hb
       exact .inr ⟨_,e2,.inl ⟨_,rfl⟩⟩
     ·exact .inl ⟨h,hb⟩
   unfold PL.frz
   rw[q0]
   refine⟨by simp[r.len],fun b h=>r.aM b h.1,?_,?_,?_,?_,tY r.on oi ei mv (fun b f n=>⟨f,n⟩)⟩
   · intro j e q
     rcases get_set q with⟨rfl,hx,hl⟩|⟨hne,q⟩
     · cases hx
       exact⟨_,ei,hrep⟩
     · obtain⟨w,e1,g⟩:=r.sh j e q
       exact⟨w,e1,g.mv mv⟩
   · intro j e q
     rcases get_set q with⟨rfl,x,hl⟩|⟨hne,q⟩
     ·cases x
     · obtain⟨b,xs,e1,f,e3,g⟩:=r.ol j e q
       exact⟨b,xs,e1,⟨f,fun z=>by subst z;exact hne (r.cw i j _ oi (.inl ⟨_,q⟩) ei e1)⟩,e3,g.mv mv⟩
   · intro j k e q
     rcases get_set q with⟨rfl,x,hl⟩|⟨hne,q⟩
     ·cases x
     · obtain⟨b,xs,e1,f,e3,l,g⟩:=r.od j k e q
       exact⟨b,xs,e1,⟨f,fun z=>by subst z;exact hne (r.cw i j _ oi (.inr ⟨_,_,q⟩) ei e1)⟩,e3,l,g.mv mv⟩
   · intro j k b oj ok ej ek
     exact r.cw j k b oj.eA.2 ok.eA.2 ej ek
 · refine⟨F,fun _ h=>.inl h,?_⟩
   unfold PL.frz
   cases q:ρ[i]? with
   |none=>exact r
   | some s=>
     cases s with
     |ol xs=>exact absurd ⟨_,q⟩ ol
     |_=>exact r
noncomputable def Out(F F':Addr→Prop)(H:Hp):Prop:=∀b,F b→F' b∨∃u,H b=some u∧((∃xs,u=.lst xs)∨∃kvs,u=.dK kvs)
theorem Out.tup{a:Addr}{xs:List V}(o:Out F F' H)(h:cF M H F' a xs):cF M H F a xs:=by
 rcases h with⟨n,h⟩|h
 · refine .inl ⟨fun f=>?_,h⟩
   rcases o a f with f'|⟨u,hu,z⟩
   ·exact n f'
   · rcases h with h|⟨ob,h⟩
     ·rw[hu]at h;cases h;rcases z with⟨_,z⟩|⟨_,z⟩<;>cases z
     ·rw[hu]at h;cases h;rcases z with⟨_,z⟩|⟨_,z⟩<;>cases z
 ·exact .inr h
mutual
theorem Rep.bA(o:Out F F' H):∀ {d:D} {v:V},bA d=true→Rep M H F' d v→Rep M H F d v
 |.av,_,_,h=>by simp only[Rep]at h ⊢;exact h
 |.bl _,_,_,h=>by simp only[Rep]at h ⊢;exact h
 |.int _,_,_,h=>by simp only[Rep]at h ⊢;exact h
 |.str _,_,_,h=>by simp only[Rep]at h ⊢;exact h
 | .tup ds,_,n,h=>by
   simp only[Rep]at h ⊢
   obtain⟨a,xs,e,t,r⟩:=h
   exact⟨a,xs,e,o.tup t,ae.bA o (by unfold PL.bA at n;exact n) r⟩
 |.lst _,_,n,_=>by unfold PL.bA at n;cases n
 |.aC _ _,_,n,_=>by unfold PL.bA at n;cases n
 |.cm _ _ _,_,n,_=>by unfold PL.bA at n;cases n
theorem ae.bA(o:Out F F' H):∀ {ds:List D} {xs:List V},eR ds=true→ae M H F' ds xs→ae M H F ds xs
 |[],_,_,h=>by simp only[ae]at h ⊢;exact h
 | d::ds,_,n,h=>by
   unfold eR at n
   rw[Bool.and_eq_true]at n
   simp only[ae]at h ⊢
   obtain⟨x,r,e,h1,h2⟩:=h
   exact⟨x,r,e,Rep.bA o n.1 h1,ae.bA o n.2 h2⟩
end
theorem Out.same(o:Out F F' H)(s:af H H'):Out F F' H':=fun b f=>(o b f).imp (fun h=>h) fun⟨u,hu,z⟩=>⟨u,s _ _ hu,z⟩
theorem Dc(i:Nat){e:Expr}{f:Ex}(h:JE X e f):JE X e (nE i f):=
 bj h fun σ H Q ⟨ρ,F,d,hr,e,q⟩=>by
   obtain⟨d',ed,e⟩:=ah.mp e
   by_cases hf:PL.bA d'=true
   · rw[if_pos hf]at e
     cases e
     obtain⟨F',out,r'⟩:=hr.frz i
     exact⟨_,F',_,r',ed,fun v H1 s1 rv=>q v H1 s1 (Rep.bA (Out.same out s1) hf rv)⟩
   ·rw[if_neg hf]at e;cases e
theorem Fv(i:Nat){e:Expr}{f:Ex}(h:JF X e f):JF X e (jV i f):=
 bj h fun σ H Q ⟨ρ,F,ds,hr,e,q⟩=>by
   obtain⟨d',ed,e⟩:=ah.mp e
   split at e
   · rename_i ds'
     by_cases hf:eR ds'=true
     · rw[if_pos hf]at e
       cases e
       obtain⟨F',out,r'⟩:=hr.frz i
       exact⟨_,F',_,r',ed,fun p H1 xs s1 hp rv=>q p H1 xs s1 hp (ae.bA (Out.same out s1) hf rv)⟩
     ·rw[if_neg hf]at e;cases e
   ·cases e
theorem vt{i:Nat}{f:Ex}(ρ:En)(d:D)(h:jV i f ρ=.ok d):∃ds,d=.lst ds:=by
 obtain⟨d',_,e⟩:=ah.mp h
 split at e
 · split at e
   ·cases e;exact⟨_,rfl⟩
   ·cases e
 ·cases e
theorem Ct(i:Nat){e:Expr}{f:aG}(h:JT X e f):JT X e (dZ i f):=by
 intro pins s σ H Q I ⟨ρ,F,b,hr,e,q⟩
 obtain⟨F',sub,r'⟩:=hr.frz i
 exact h pins s σ H Q I ⟨_,F',b,r',e,q⟩
noncomputable def kl(env:Env)(o k:Expr)(p3:Pos):Prop:=∀v,assign (.Subscript o k p3) env v=(do
     let ov ←holding [v] (eval o env)
     let iv ←holding [v,ov] (eval k env)
     standAt p3
     holding [v,ov,iv] (setItem ov iv v)
     release [v,ov,iv] [])
theorem wI(i:Nat){x:Str}{e k:Expr}{f g:Ex}{p2 p3:Pos}(he:JE X e f)(hk:JE X k g)(hN:X.N[i]? =some x:=by rfl)(hv:L2.bS X.env.scope x:=by first|exact Or.inl rfl|exact Or.inr (Or.inl rfl)|exact Or.inr (Or.inr rfl))(hd:(x==("__debug__":Str))=false:=by decide)
   (hcd:(x==("__classdict__":Str))=false:=by decide)
   (ha:kl X.env (.Name x p2) k p3)
   (hs:swapsWithSole [.Subscript (.Name x p2) k p3] e pos.line X.env=pure false:=by rfl) (hw:swappedStores [.Subscript (.Name x p2) k p3] e X.env=pure none:=by rfl) (h1:(assignEach [.Subscript (.Name x p2) k p3] X.env).map (·.2)=[assign (.Subscript (.Name x p2) k p3) X.env]:=by rfl):
   JS X (.Assign [.Subscript (.Name x p2) k p3] e pos) (gT i g f):=fun F0=>
 cb (L2.rC he (L2.u3 (L2.pv i hN hv hd hcd) hk L2.set_list ha) hs hw h1) fun D σ H ⟨ρ,F,fl,r,e,q⟩=>by
   obtain⟨d,ed,e⟩:=ah.mp e
   obtain⟨y,ey,e⟩:=ah.mp e
   split at e
   · rename_i xs j q1
     split at e
     · rename_i m hm
       cases e
       have oi:bx ρ i:=.inl ⟨_,q1⟩
       obtain⟨a,ys,ea,fa,haa,rs⟩:=r.rs.ol i _ q1
       refine⟨ρ,F,d,r.rs,ed,fun v H1 s1 rv=>⟨_,ea,ρ,F,_,(r.same s1).rs,ey,fun z H2 s2 rz=>?_⟩⟩
       have r2:=(r.same s1).same s2
       refine⟨a,ys,j,m,rfl,aU rz,s2 _ _ (s1 _ _ haa),by rw[←rs.length];exact hm,?_⟩
       obtain⟨mv,r'⟩:=r2.chg (s:=.ol (xs.set m d)) oi ea (.inl ⟨_,ys.set m v,rfl,rfl,ae.set m (rv.mv (.same s2)) (rs.mv (.same (s1.trans s2)))⟩)
       exact q _ _ _ (Mv.trans (.same (s1.trans s2)) mv) r'
     ·cases e
   ·cases e
theorem FX(i:Nat){x:Str}{e:Expr}{f:Ex}{p2 apos cpos:Pos}(he:JF X e f)(hN:X.N[i]? =some x:=by rfl)(hv:L2.bS X.env.scope x:=by first|exact Or.inl rfl|exact Or.inr (Or.inl rfl)|exact Or.inr (Or.inr rfl))(hd:(x==("__debug__":Str))=false:=by decide)
   (hcd:(x==("__classdict__":Str))=false:=by decide) (hbase:attributeBase (.Name x p2) "extend" X.env (eval (.Name x p2) X.env)=eval (.Name x p2) X.env:=by rfl)
   (hfew:((backTo cpos (starEach [e] X.env)).all (fun x=> !x.1)&&(backToKw cpos (keywordEach [] X.env)).all (fun x=>x.1.isSome)
     &&decide (([e]:List Expr).length+([]:List Keyword).length+(if([]:List Keyword).isEmpty then 0 else 1)<30))=true:=by rfl)
   (hline:(apos.endLine==cpos.line)=true:=by rfl) (hs:starEach [e] X.env=(false,eval e X.env)::starEach [] X.env:=by rfl)
   (hsw:swapsWith (.Call (.Attribute (.Name x p2) "extend" apos) [e] [] cpos) none pos.line X.env=pure false:=by rfl):
   JS X (.Expr (.Call (.Attribute (.Name x p2) "extend" apos) [e] [] cpos) pos) (gO i f):=fun F0=>
 cb (L2.tq (L2.tL PySem.F.plainAttrs_list PySem.F.slot_list_extend PySem.F.type_list_extend L2.Ak (L2.pv i hN hv hd hcd) (L2.gx he L2.ic hs) hbase hfew hline hs) hsw) fun D σ H ⟨ρ,F,fl,r,e,q⟩=>by
   obtain⟨d,ed,e⟩:=ah.mp e
   split at e
   · rename_i ds xs q1
     split at e
     · rename_i hlt
       cases e
       have oi:bx ρ i:=.inl ⟨_,q1⟩
       obtain⟨a,ys,ea,fa,ha,rs⟩:=r.rs.ol i _ q1
       refine⟨_,ea,.inl ⟨rfl,ys,aN.of ha⟩,ρ,F,ds,r.rs,ed,fun p H1 zs s1 hp rz=>?_⟩
       have s2:af H1 (upd H1 p (.lst zs)):=af.bI hp _
       have r1:=(r.same s1).same s2
       have ha2:=s2 _ _ (s1 _ _ ha)
       refine⟨a,p,ys,zs,rfl,rfl,ha2,L2.bC,by rw[←rs.length, ←rz.length];exact hlt,?_⟩
       obtain⟨mv,r'⟩:=r1.chg (s:=.ol (xs++ds)) oi ea (.inl ⟨_,ys++zs,rfl,rfl,(rs.mv (.same (s1.trans s2))).append (rz.mv (.same s2))⟩)
       exact q _ _ _ (Mv.trans (.same (s1.trans s2)) mv) r'
     ·cases e
   ·cases e
end
section
variable{X:Cx}{M:Md}{G H H':Hp}{F0 F F':Addr→Prop}{σ:L2.St}{ρ:En}{pos:Pos}{pins:List (Addr×Obj)}{s:Shared}
theorem Ac{a:Expr}{fa:Ex}{p:Pos}(hgl:L2.Gl X "list")(hm:X.mg "list"=none)(ha:JE X a fa)(hs:starEach [a] X.env=(false,eval a X.env)::starEach [] X.env:=by rfl):JF X (.Call (.Name "list" p) [a] [] pos) (e1 eB fa):=
 bj (L2.kd L2.mq hgl hm gf (cy ha dF hs) (by decide) (by decide) hs) fun σ H Q ⟨ρ,F,ds,hr,e,q⟩=>by
   obtain⟨d,ed,e⟩:=ah.mp e
   refine⟨ρ,F,[d],hr,by show(fa ρ).bind _=_;rw[ed];rfl,fun vs H1 s1 rv=>?_⟩
   obtain⟨y,rfl,ry⟩:=rv.one
   unfold eB at e
   split at e
   · cases e
     simp only[Rep]at ry
     obtain⟨p,ys,rfl,h,rs⟩:=ry
     exact⟨p,ys,rfl,.inl h.sq,fun l hl=>q l H1 ys s1 hl rs⟩
   · cases e
     simp only[Rep]at ry
     obtain⟨p,ys,rfl,h,rs⟩:=ry
     exact⟨p,ys,rfl,.inr h.sq,fun l hl=>q l H1 ys s1 hl rs⟩
   ·cases e
structure fD(P:Program)(w:World)(K:PySem.W.Frag)(mg:Str→Option Value)(base:Heap)(x:Str)(k n:Nat)(m:List D→R D):Prop where
 ex:∃f fd ps,L2.cf P w K mg base L2.df k f fd ps (jD ⟨K,P,w⟩ m n)∧L2.Binds K fd ps []∧PySem.W.keepIn K (.ref f)=true∧mg x=some (.ref f)
theorem GH{m:List D→R D}{n:Nat}{fs:List Ex}{Q:VK}{E:XK}(hn:fs.length=n)(h:lX M (ao m fs) σ H Q):L2.mh (jD M m n) [] E (me M (eList fs)) σ H Q:=by
 obtain⟨ρ,F,d,hr,e,q⟩:=h
 obtain⟨ds,eds,e⟩:=ah.mp e
 refine⟨ρ,F,ds,hr,eds,fun vs H1 s1 rs=>?_⟩
 show jD M m n (vs++[]) H1 Q E
 rw[List.append_nil]
 exact⟨F,ds,d,(hr.same s1).aM,rs,by rw[ir eds];exact hn,e,fun p H2 xs s2 hp rv=>q p H2 xs (s1.trans s2) hp rv⟩
theorem sP{x:Str}{k j n:Nat}{m:List D→R D}{e:Expr}{es:List Expr}{fs:List Ex}{p:Pos}(d:fD X.prog X.w X.K X.mg X.base x k n m)(hr:L2.bq j X.A)(hg:L2.Gl X x)(ha:JA X (e::es) (eList fs))(hk:k≤j:=by decide)(hn:fs.length=n:=by rfl)
   (hdb:(x==("__debug__":Str))=false:=by decide) (he:starEach (e::es) X.env=(false,eval e X.env)::starEach es X.env:=by rfl) (hpl:(backTo pos (starEach es X.env)).any (·.1)=false:=by rfl):JF X (.Call (.Name x p) (e::es) [] pos) (ao m fs):=by
 obtain⟨f,fd,ps,h1,h2,h3,h4⟩:=d.ex
 exact bj (L2.rO h1 (hr.mono hk) hg h4 h3 h2 .nil L2.nK ha hdb he hpl) fun σ H Q h=>GH hn h
theorem pY{n:Nat}{body:Sm}{ds:List D}{d:D}(h:fo n body ds=.ok d):∃xs,d=.lst xs:=by
 obtain⟨f,_,e⟩:=ah.mp h
 split at e
 ·cases e;exact⟨_,rfl⟩
 ·cases e
theorem xg{x:Str}{k j n N:Nat}{body:Sm}{m:List D→R D}{e:Expr}{es:List Expr}{fs:List Ex}{p:Pos}(d:fD X.prog X.w X.K X.mg X.base x k n m)(hm:m=fo N body)(hr:L2.bq j X.A)(hg:L2.Gl X x)(ha:JA X (e::es) (eList fs))(hk:k≤j:=by decide)(hn:fs.length=n:=by rfl)
   (hdb:(x==("__debug__":Str))=false:=by decide) (he:starEach (e::es) X.env=(false,eval e X.env)::starEach es X.env:=by rfl) (hpl:(backTo pos (starEach es X.env)).any (·.1)=false:=by rfl):JE X (.Call (.Name x p) (e::es) [] pos) (ao m fs):=
 ny (sP d hr hg ha hk hn hdb he hpl) fun ρ d h=>by
   obtain⟨ds,_,e⟩:=ah.mp h
   rw[hm]at e
   exact pY e
theorem Bk{P:Program}{w:World}{K:PySem.W.Frag}{mg:Str→Option Value}{base:Heap}{x qual:Str}{st:Stmt}{f:Addr}{fd:FuncData}{N ps:List Str}{k n:Nat}{body:Sm}(Fu:L2.aR K x qual st f fd)(S:L2.aT N ps (L2.ai st))
   (h:∀(cdv:Value) (A:Around) (outer:List Env) (s:Shared) (H:Hp) (E:XK),L2.bq k (A.deeper (PyProof.Rows.envOfC qual (L2.ai st) s.heap.objs.size f cdv))→cT (L2.eX L2.df P w K mg base N qual (L2.ai st) f cdv A outer s H E).dU (L2.aQ st) body)
   (hn:ps.length=n:=by rfl):L2.cf P w K mg base L2.df (k+1) f fd ps (jD ⟨K,P,w⟩ (fo N.length body) n):=by
 refine Fu.ok S (fun vs H Q E h=>?_) (fun cdv A outer s H vs Q E hr hsp=>?_)
 · obtain⟨F,ds,d,_,rs,hl,_⟩:=h
   rw[←rs.length,hl,hn]
 · refine⟨fun D σ H'=>∃F0,dS ⟨K,P,w⟩ H F0 body D σ H',fun pins s' σ H' D I ⟨F0,q⟩=>h cdv A outer s H E hr F0 pins s' σ H' D I q,?_⟩
   refine za (G:=H) (t:=fun D σ H'=>∃F0,dS ⟨K,P,w⟩ H F0 body D σ H') (fun F0 D σ H' h=>⟨F0,h⟩) hsp ?_
   have:=congrArg List.length S.pre
   rw[List.length_take]at this
   omega
theorem qE{P:Program}{w:World}{K:PySem.W.Frag}{mg:Str→Option Value}{base:Heap}{x qual:Str}{st:Stmt}{f:Addr}{fd:FuncData}{N ps:List Str}{k n:Nat}{body:Sm}(Fu:L2.aR K x qual st f fd)(hm:mg x=some (.ref f))(S:L2.aT N ps (L2.ai st))(hb:L2.Binds K fd ps [])
   (h:∀(cdv:Value) (A:Around) (outer:List Env) (s:Shared) (H:Hp) (E:XK),L2.bq k (A.deeper (PyProof.Rows.envOfC qual (L2.ai st) s.heap.objs.size f cdv))→cT (L2.eX L2.df P w K mg base N qual (L2.ai st) f cdv A outer s H E).dU (L2.aQ st) body)
   (hn:ps.length=n:=by rfl):fD P w K mg base x (k+1) n (fo N.length body):=⟨f,fd,ps,Bk Fu S h hn,hb,Fu.kp,hm⟩
end
noncomputable def intsOf:List D→Option (List Int)
 |[]=>some []
 |.int i::r=>(intsOf r).map (i:: ·)
 |_=>none
@[simp] noncomputable def HB:D→R D
 | .lst xs=>match intsOf xs with
   |some ns=>.ok (.int ns.sum)
   |none=>.bad
 | .tup xs=>match intsOf xs with
   |some ns=>.ok (.int ns.sum)
   |none=>.bad
 |_=>.bad
noncomputable def kh:List D→Option (List Bool)
 |[]=>some []
 |.bl i::r=>(kh r).map (i:: ·)
 |_=>none
@[simp] noncomputable def lI:D→R D
 | .lst xs=>match kh xs with
   |some ns=>.ok (.bl (ns.any id))
   |none=>.bad
 |_=>.bad
noncomputable def unlike(ns:List Int):Nat:=(PyProof.Rows.firstMet (fun i=>ns.getD i 0) ns.length).length
@[simp] noncomputable def mD:D→R D
 | .lst xs=>match intsOf xs with
   |some ns=>if ns.length≤4000 then .ok (.int (unlike ns))else .bad
   |none=>.bad
 |_=>.bad
@[simp] noncomputable def pL:D→D→R D
 |.tup x,.int j=>if 1<j∧j<1000∧x.length≤1000∧x.isEmpty=false then .ok (.tup (List.replicate j.toNat x).flatten)else .bad
 |_,_=>.bad
@[simp] noncomputable def ft:D→D→R D
 |.int i,.int j=>if inR i=true∧inR j=true∧j - i≤16777216 then .ok (.lst (cD i j))else .bad
 |_,_=>.bad
section
variable{X:Cx}{M:Md}{G H H':Hp}{F0 F F':Addr→Prop}{σ:L2.St}{ρ:En}{pos:Pos}{pins:List (Addr×Obj)}{s:Shared}
theorem rm:∀ {ds:List D} {ns:List Int},intsOf ds=some ns→ds=ns.map D.int
 |[],_,h=>by cases h;rfl
 | d::ds,ns,h=>by
   cases d with
   | int i=>
     unfold intsOf at h
     cases e:intsOf ds with
     |none=>rw[e]at h;cases h
     | some ms=>
       rw[e]at h;cases h
       rw[rm e];rfl
   |_=>cases h
theorem rM:∀ {ds:List D} {ns:List Bool},kh ds=some ns→ds=ns.map D.bl
 |[],_,h=>by cases h;rfl
 | d::ds,ns,h=>by
   cases d with
   | bl i=>
     unfold kh at h
     cases e:kh ds with
     |none=>rw[e]at h;cases h
     | some ms=>
       rw[e]at h;cases h
       rw[rM e];rfl
   |_=>cases h
theorem qU:∀ {ns:List Int} {xs:List V},ae M H F (ns.map D.int) xs→xs=ns.map V.int
 |[],_,r=>by simpa[ae] using r
 | b::bs,_,r=>by
   simp only[List.map_cons,ae]at r
   obtain⟨x,t,rfl,h1,h2⟩:=r
   rw[qU h2,aU h1];rfl
theorem rE:∀ {ns:List Int} {us:List Value},Vals (ns.map V.int) us→PyProof.Rows.IntsAre us ns
 |[],_,.nil=>.nil
 |b::bs,_,.cons r t=>by obtain⟨tk,rfl⟩:=r;exact .cons _ _ (rE t)
theorem tw:bootBuiltins "any"=some (.builtin "any"):=by with_unfolding_all rfl
theorem sd:bootBuiltins "set"=some (.type "set"):=by with_unfolding_all rfl
theorem any_range(bs:List Bool):(List.range bs.length).any (fun i=>bs.getD i false)=bs.any id:=by
 induction bs with
 |nil=>rfl
 | cons b bs ih=>
   rw[List.length_cons,List.range_succ_eq_map,List.any_cons,List.any_map,List.any_cons, ←ih]
   rfl
theorem sV(hc:X.calm=true):bp X (.builtin "any") (fun xs H Q=>∃(F:Addr→Prop) (p:Addr) (bs:List Bool),xs=[.ref p]∧Rep (aj X) H F (.lst (bs.map D.bl)) (.ref p)∧Q (.bl (bs.any id)) H):=by
 intro pins s σ H xs us Q I r h
 obtain⟨F,p,bs,rfl,rp,q⟩:=h
 obtain⟨u,rfl,ru⟩:=L2.vals1 r
 cases ru
 simp only[Rep]at rp
 obtain⟨p',xs,e,hl,rs⟩:=rp
 cases e
 obtain⟨its,rv,pl,hz⟩:=I.list hl.sq
 cases oP rs
 cases mQ rv
 have hh:X.A.in1.handled=none:=I.ok.hd hc
 have hlt:p<s.heap.objs.size:=by obtain⟨o,n,e,_⟩:=pl;exact Heap.lt_size e
 have hsz:((bs.map Value.bool).toArray).size=bs.length:=by simp
 have W:=Walks.list (prog:=X.prog) (w:=X.w) (A:=X.A.in1) (I.ok.hd hc) s.heap.objs.size p (Nat.ne_of_lt hlt) (bs.map Value.bool).toArray
 rw[hsz]at W
 refine call_any_walk (wpAny_pyIter_list pl.isList ⟨s.heap.objs.size,_,_,_,_,_,fun i=>bs.getD i false,rfl,W,⟨⟨_,Heap.get?_push_size _ rfl,rfl,rfl⟩,Heap.IsList.push pl.isList _⟩,(fun i v s' Q' E' hP hQ=>?_),fun h' tk hk=>?_⟩)
 · have hP:(bs.map Value.bool).toArray[i]? =some v:=hP
   have hQ:Q' (bs.getD i false) s':=hQ
   have:∃b,v=.bool b∧bs.getD i false=b:=by
     rw[List.getElem?_toArray,List.getElem?_map]at hP
     cases e:bs[i]? with
     |none=>rw[e]at hP;cases hP
     |some b=>rw[e]at hP;cases hP;exact⟨b,rfl,by simp[e]⟩
   obtain⟨b,rfl,hb⟩:=this
   rw[hb]at hQ
   exact wpAny_truthy_bool hQ
 · show EP X pins σ Q _ _
   rw[any_range]
   have I1:Inv X pins σ H {s with heap:=s.heap.push {cls:=.type "list_iterator",data:=.fields #[.ref p,.int 0 0]} }:=I.kept (t':=s.toks) fun b o e=>Heap.get?_push_of_some _ e
   have fp:=I.gA (H':=H) (b:=s.heap.objs.size) (Nat.le_refl _) (I.au.fresh (Nat.le_refl _))
   obtain⟨f0,f1,f2,f3,f4,f5⟩:=fp
   exact⟨.bl _,H,I1.turned (it:=s.heap.objs.size) (t':=tk) (fun b o hb e=>hk b o (by simpa using hb) e) f0 f1 f3 f4 f5,rfl,q⟩
theorem su:eE M (g1 lI) (fun xs H Q=>∃(F:Addr→Prop) (p:Addr) (bs:List Bool),xs=[.ref p]∧Rep M H F (.lst (bs.map D.bl)) (.ref p)∧Q (.bl (bs.any id)) H):=by
 intro F H xs as d Q tr rs e q
 unfold g1 at e
 split at e
 · obtain⟨x,rfl,r⟩:=rs.one
   unfold lI at e
   split at e
   · split at e
     · rename_i ns hn
       cases e
       cases rM hn
       have r':=r
       simp only[Rep]at r'
       obtain⟨p,ys,rfl,_⟩:=r'
       exact⟨F,p,ns,rfl,r,q _ _ (af.refl _) bW⟩
     ·cases e
   ·cases e
 ·cases e
theorem tR(hc:X.calm=true):bp X (.type "set") (fun xs H Q=>∃p ns,xs=[.ref p]∧aN X.K H p (ns.map V.int)∧ns.length≤4000∧∀l,H l=none→Q (.ref l) (upd H l (.set (fun k=>(PyProof.Rows.firstMet (fun i=>ns.getD i 0) ns.length).any (· ==k)) (unlike ns)))):=by
 intro pins s σ H xs us Q I r h
 obtain⟨p,ns,rfl,hq,hn,q⟩:=h
 obtain⟨u,rfl,ru⟩:=L2.vals1 r
 cases ru
 have hh:X.A.handled=none:=I.ok.hd hc
 obtain⟨its,rv,pl,hz⟩:=I.list hq
 have hi:=rE rv
 have hl:its.length=ns.length:=hi.length
 refine call_set_list (items:=its.toArray) (ns:=ns) hh pl.isList (by simpa using hi) (by rw[List.size_toArray,hl];unfold scanBound;omega) fun h' tk hS hk=>?_
 have e1:its.toArray.size=ns.length:=by rw[List.size_toArray];exact hl
 rw[e1]at hS
 refine⟨.ref s.heap.objs.size,_,I.laid (o:=.set (fun k=>(PyProof.Rows.firstMet (fun i=>ns.getD i 0) ns.length).any (· ==k)) (unlike ns)) (t':=tk) (fun b o e=>hk b o (Heap.lt_size e) e) (Nat.le_refl _) hS,rfl,q _ I.fresh⟩
theorem Dp:bp X (.builtin "len") (fun xs H Q=>∃p S n,xs=[.ref p]∧H p=some (.set S n)∧n≤4000∧Q (.int n) H):=by
 intro pins s σ H xs us Q I r h
 obtain⟨p,S,n,rfl,hq,hn,q⟩:=h
 obtain⟨u,rfl,ru⟩:=L2.vals1 r
 cases ru
 have hS:s.heap.SetOf (intKind X.prog X.w) p S n:=I.au p _ hq
 obtain⟨o,es,ep,t,ho,hex,hd,_,_,_,hf,rfl⟩:=hS
 exact call_len_set ho hex hd hf (Int.lt_of_le_of_lt (show(es.size:Int)≤4000 by omega) (by decide)) ⟨.int _,H,I.kept (t':=_) (fun b o e=>e),⟨_,rfl⟩,q⟩
theorem FV(ns:List Int):unlike ns≤ns.length:=PyProof.Rows.firstMet_length_le _ _
theorem Dz{a:Expr}{fa:Ex}{p p2 pos2:Pos}(hc:X.calm=true)(hg:L2.Gl X "len")(hm:X.mg "len"=none)(hg2:L2.Gl X "set")(hm2:X.mg "set"=none)(ha:JE X a fa)(hs:starEach [.Call (.Name "set" p2) [a] [] pos2] X.env=(false,eval (.Call (.Name "set" p2) [a] [] pos2) X.env)::starEach [] X.env:=by rfl)(hs2:starEach [a] X.env=(false,eval a X.env)::starEach [] X.env:=by rfl):
   JE X (.Call (.Name "len" p) [.Call (.Name "set" p2) [a] [] pos2] [] pos) (e1 mD fa):=
 bj (L2.jT Dp hg hm cG (L2.gx (L2.kd (tR hc) hg2 hm2 sd (cy ha dF hs2) (by decide) (by decide) hs2) L2.ic hs) (by decide) (by decide) hs) fun σ H Q ⟨ρ,F,d,hr,e,q⟩=>by
   obtain⟨d1,ed,e⟩:=ah.mp e
   unfold mD at e
   split at e
   · split at e
     · rename_i ns hn
       split at e
       · rename_i hlen
         cases e
         cases rm hn
         refine⟨ρ,F,[.lst (ns.map .int)],hr,by show(fa ρ).bind _=_;rw[ed];rfl,fun vs H1 s1 rv=>?_⟩
         obtain⟨y,rfl,ry⟩:=rv.one
         simp only[Rep]at ry
         obtain⟨a,xs,rfl,h1,rs⟩:=ry
         cases qU rs
         exact⟨a,ns,rfl,h1.sq,hlen,fun l hl=>⟨l,_,_,rfl,L2.bC,Nat.le_trans (FV ns) hlen,q _ _ (s1.trans (af.bI hl _)) cv⟩⟩
       ·cases e
     ·cases e
   ·cases e
end
@[simp] noncomputable def oZ(e:Ex):Sm:=fun ρ=>(e ρ).bind fun d=>.ok (.cq d)
section
variable{X:Cx}{M:Md}{G H H':Hp}{F0 F F':Addr→Prop}{σ:L2.St}{ρ:En}{pos:Pos}{pins:List (Addr×Obj)}{s:Shared}
theorem Fo{a:Expr}{fa:Ex}(ha:JF X a fa)(hl:∀ρ d,fa ρ=.ok d→∃ds,d=.lst ds):JS X (.Return (some a) pos) (oZ fa):=fun F0=>
 cb (L2.kL ha) fun D σ H ⟨ρ,F,fl,r,e,q⟩=>by
   obtain⟨d,ed,e⟩:=ah.mp e
   cases e
   obtain⟨ds,rfl⟩:=hl _ _ ed
   exact⟨ρ,F,ds,r.rs,ed,fun p H1 xs s1 hp rv=>q p H1 F xs ds rfl (.same s1) (r.sm.trans s1) r.sub hp rv⟩
theorem EE{m:List D→R D}{N:Nat}{body:Sm}{fs:List Ex}(hm:m=fo N body)(ρ:En)(d:D)(h:ao m fs ρ=.ok d):∃ds,d=.lst ds:=by
 obtain⟨ds,_,e⟩:=ah.mp h
 rw[hm]at e
 exact pY e
theorem wW{i:Int}{n:Nat}{acc:Array Value}(h:ItemsOf (fun k v=>∃t,v=.int (i+k*1) t) acc n):Vals ((List.range n).map fun(k:Nat)=>V.int (i+(k:Int))) acc.toList:=by
 obtain⟨hn,hg⟩:=h
 have key:∀(l:List Value) (m:Nat) (j:Int),l.length=m→(∀(k:Nat) v,l[k]? =some v→∃t,v=.int (j+k) t)→Vals ((List.range m).map fun(k:Nat)=>V.int (j+(k:Int))) l:=by
   intro l
   induction l with
   |nil=>intro m j hm _;cases hm;exact .nil
   | cons v l ih=>
     intro m j hm hg
     cases hm
     rw[List.length_cons,List.range_succ_eq_map,List.map_cons,List.map_map]
     obtain⟨t,ht⟩:=hg 0 v rfl
     refine .cons ⟨t,by rw[ht]⟩ ?_
     have:=ih l.length (j+1) rfl (fun k w hk=>by
       obtain⟨t,e⟩:=hg (k+1) w (by simpa using hk)
       exact⟨t,by rw[e];congr 1;omega⟩)
     refine(Eq.mp (congrArg (fun z=>Vals z l) ?_) this)
     apply List.map_congr_left
     intro k _
     show V.int (j+1+(k:Int))=V.int (j+((k+1:Nat):Int))
     congr 1;omega
 refine key acc.toList n i (by simpa using hn) fun k v hk=>?_
 have hk':acc[k]? =some v:=by simpa using hk
 obtain⟨t,e⟩:=hg k v hk'
 exact⟨t,by rw[e];congr 1;omega⟩
theorem qt(i:Int):∀l:List Nat,ae M H F (l.map fun(k:Nat)=>D.int (i+(k:Int))) (l.map fun(k:Nat)=>V.int (i+(k:Int)))
 |[]=>ae.nil
 |k::l=>ae.cons cv (qt i l)
theorem Dr{a b:Expr}{fa fb:Ex}{p p2 pos2:Pos}(hc:X.calm=true)(hg:L2.Gl X "list")(hm:X.mg "list"=none)(hg2:L2.Gl X "range")(hm2:X.mg "range"=none)(ha:JE X a fa)(hb:JE X b fb)
   (hs0:starEach [.Call (.Name "range" p2) [a,b] [] pos2] X.env=(false,eval (.Call (.Name "range" p2) [a,b] [] pos2) X.env)::starEach [] X.env:=by rfl) (hs:starEach [a,b] X.env=(false,eval a X.env)::starEach [b] X.env:=by rfl) (hs2:starEach [b] X.env=(false,eval b X.env)::starEach [] X.env:=by rfl):
   JF X (.Call (.Name "list" p) [.Call (.Name "range" p2) [a,b] [] pos2] [] pos) (e2 ft fa fb):=by
 intro pins s σ H Q I ⟨ρ,F,ds,hr,e,q⟩
 obtain⟨x,ex,e⟩:=ah.mp e
 obtain⟨y,ey,e⟩:=ah.mp e
 cases x with
 | int i=>
  cases y with
  |int j=>
   replace e:(if inR i=true∧inR j=true∧j - i≤16777216 then R.ok (D.lst (cD i j))else R.bad)=R.ok (D.lst ds):=e
   by_cases h:inR i=true∧inR j=true∧j - i≤16777216
   · rw[if_pos h]at e
     cases e
     obtain⟨hi,hj,hd⟩:=h
     unfold inR at hi hj
     rw[Bool.and_eq_true,decide_eq_true_eq,decide_eq_true_eq]at hi hj
     refine wpAny_Call_Name_kw (L2.eM I hg hm gf ?_ (by decide) (by decide))
     refine PyProof.Rows.callWith_type1 ?_ hs0 (by rfl)
     rw[hs0]
     show wpAny _ _ (spliced ((false,eval (.Call (.Name "range" p2) [a,b] [] pos2) X.env)::backTo pos (starEach [] X.env))) _ _ s
     refine Calls.spliced_cons (wpAny_Call_Name_kw (L2.eM I hg2 hm2 PyProof.Rows.boot_range (PyProof.Rows.callWith_type1 (L2.ar ((cy ha (cy hb dF hs2) hs) pos2 pins s σ H _ I ⟨ρ,F,[.int i,.int j],hr,by show(fa ρ).bind _=_;rw[ex];show((fb ρ).bind _).bind _=_;rw[ey];rfl,fun vs H1 s1 rv=>(⟨s1,rv⟩:af H H1∧ae (aj X) H1 F [.int i,.int j] vs)⟩) fun us s1 ⟨vs,H1,I1,r1,sm1,rv⟩=>?_) hs (by rw[hs2];rfl)) (by decide) (by decide)))
     obtain⟨v1,v2,rfl,rx,ry⟩:=rv.two
     cases aU rx
     cases aU ry
     obtain⟨u1,u2,rfl,ru1,ru2⟩:=L2.vals2 r1
     obtain⟨t1,rfl⟩:=ru1
     obtain⟨t2,rfl⟩:=ru2
     refine call_range_2 (Calls.spliced_nil ?_)
     have hh:X.A.handled=none:=I.ok.hd hc
     have hsz:Builtin.Range.rangeSize i j 1=(((j - i).toNat:Nat):Int):=by rw[PySem.rangeSize_one];split<;>omega
     have I2:Inv X pins σ H1 {s1 with heap:=s1.heap.push {cls:=.type "range",data:=.fields #[.int i t1,.int j t2,.int 1 s1.toks]},toks:=s1.toks+1}:=I1.kept (t':=s1.toks+1) fun b o e=>Heap.get?_push_of_some _ e
     refine call_list_range hh (IsRange.new ..) (small_one (by omega) (by omega) (by omega) (by omega)) hsz (by omega) fun h' tk acc c' hk hS' hacc=>?_
     have hv:=wW hacc
     have hlen:((List.range (j - i).toNat).map fun(k:Nat)=>V.int (i+(k:Int))).length≤sizeLine:=by rw[List.length_map,List.length_range,sizeLine_eq];omega
     have I3:=I2.laid (o:=.lst ((List.range (j - i).toNat).map fun(k:Nat)=>V.int (i+(k:Int)))) (h':=h') (t':=tk) hk (Nat.le_refl _) ⟨hlen,acc.toList,c',hv,by simpa using hS'⟩
     exact⟨.ref _,_,I3,rfl,q _ H1 _ sm1 (I2.fresh) (qt i _)⟩
   ·rw[if_neg h]at e;cases e
  |_=>cases e
 |_=>cases e
end
section
variable{prog:Program}{w:World}{A:Around}{E:Value→Shared→Prop}{s:Shared}{e it:Addr}{fp:List Addr}{n i:Nat}{c:Int}{P:Nat→Value→Prop}{St:Nat→Heap→Prop}{old:Value}
theorem FP(D:Draws prog w A it fp n P St)(he:IsEnum s.heap e it c old)(hst:St i s.heap)(hlt:i<n)(hne:e≠it)(hef:e∉fp){Q:Value→Shared→Prop}
   (hQ:∀x h' tk,P i x→IsEnumOut h' e it (c+1) x s.heap.objs.size→St (i+1) h'→h'.get? s.heap.objs.size=some {cls:=.type "tuple",data:=.seq #[.int c tk,x]}→
     (∀b o,b≠e→b≠it→s.heap.get? b=some o→h'.get? b=some o)→Q (.ref s.heap.objs.size) {s with heap:=h',toks:=tk+1}):
   wpAny (model prog w) A (Builtin.«enumerate.__next__» ⟨[.ref e],[]⟩) (fun fin s'=>∃v,fin=.done (.ret v)∧Q v s') E s:=by
 obtain⟨hp,g,dd,tk₀,os⟩:=s
 show wpAny _ _ (PySem.field (.ref e) 2 >>= _) _ _ _;refine wpAny_bind (wpAny_field he rfl (x:=.ref it) rfl (wpAny_bind (D.item i _ _ _ hlt hst fun x h1 tk px aS hs1=>?_)))
 replace hs1:Heap.SameBut it hp h1:=hs1
 have a1:IsEnum h1 e it c old:=(hs1.2 e hne).trans he
 show wpAny _ _ (PySem.field (.ref e) 3 >>= _) _ _ ⟨h1,g,dd,tk,os⟩;refine wpAny_bind (wpAny_field a1 rfl (x:=rawInt c) rfl ?_)
 show wpAny _ _ (PySem.field (.ref e) 4 >>= _) _ _ ⟨h1,g,dd,tk,os⟩;refine wpAny_bind (wpAny_field a1 rfl (x:=.none) rfl ?_)
 show wpAny _ _ (mkInt c >>= _) _ _ ⟨h1,g,dd,tk,os⟩;refine wpAny_bind (wpAny_mkInt ?_)
 show wpAny _ _ (setField (.ref e) 3 (rawInt (c+1)) >>= _) _ _ ⟨h1,g,dd,tk+1,os⟩;refine wpAny_bind (wpAny_setField_rec a1 (by simp) fun h2 a2 hs2=>?_)
 replace hs2:Heap.SameBut e h1 h2:=hs2;replace a2:IsEnum h2 e it (c+1) old:=a2
 show wpAny _ _ (setField (.ref e) 4 .none >>= _) _ _ ⟨h2,g,dd,tk+1,os⟩;refine wpAny_bind (wpAny_setField_rec a2 (by simp) fun h3 a3 hs3=>?_)
 replace hs3:Heap.SameBut e h2 h3:=hs3;replace a3:IsEnum h3 e it (c+1) old:=a3
 show wpAny _ _ (newTuple [.int c tk,x] >>= _) _ _ ⟨h3,g,dd,tk+1,os⟩;refine wpAny_bind (wpAny_newTuple ?_)
 have a4:IsEnum (h3.push {cls:=.type "tuple",data:=.seq #[.int c tk,x]}) e it (c+1) old:=Heap.get?_push_of_some _ a3
 generalize hh4:h3.push {cls:=.type "tuple",data:=.seq #[.int c tk,x]}=h4 at a4
 have hsz:h3.objs.size=hp.objs.size:=by rw[hs3.1,hs2.1,hs1.1]
 have hel:e<hp.objs.size:=Heap.lt_size he
 have t4:h4.get? hp.objs.size=some {cls:=.type "tuple",data:=.seq #[.int c tk,x]}:=by rw[←hh4, ←hsz];exact Heap.get?_push_size _ rfl
 have k4:∀b o,b≠e→b≠it→hp.get? b=some o→h4.get? b=some o:=fun b o hbe hbi q=>by rw[←hh4];exact Heap.get?_push_of_some _ (hs3.extBut b o hbe (hs2.extBut b o hbe (hs1.extBut b o hbi q)))
 have ne_e:∀b∈fp,b≠e:=fun b hb q=>hef (q▸hb)
 have st4:St (i+1) h4:=D.frame _ _ _ aS fun b hb o y=>by rw[←hh4];exact Heap.get?_push_of_some _ (hs3.extBut b o (ne_e b hb) (hs2.extBut b o (ne_e b hb) y))
 rw[hsz]
 show wpAny _ _ (Builtin.SmallTypes.ownedTupleIsFree (.ref e) >>= _) _ _ ⟨h4,g,dd,tk+1,os⟩
 refine wpAny_bind ?_
 unfold Builtin.SmallTypes.ownedTupleIsFree
 refine wpAny_bind (wpAny_field a4 rfl (x:=.none) rfl (wpAny_pure ?_));simp only[if_true]
 refine wpAny_bind (wpAny_rule (wpAny_bind (wpAny_field a4 rfl (x:=old) rfl (wpAny_bind (wpAny_setField_rec a4 (by simp) fun h5 a5 hs5=>?_)))))
 replace hs5:Heap.SameBut e h4 h5:=hs5;replace a5:IsEnum h5 e it (c+1) x:=a5
 show wpAny _ _ (Builtin.SmallTypes.ownedTupleHandOut (.ref e) (.ref hp.objs.size) >>= _) _ _ ⟨h5,g,dd,tk+1,os⟩
 refine wpAny_bind ?_
 unfold Builtin.SmallTypes.ownedTupleHandOut
 refine wpAny_bind (wpAny_setField_rec a5 (by simp) fun h6 a6 hs6=>?_)
 replace hs6:Heap.SameBut e h5 h6:=hs6;replace a6:IsEnumOut h6 e it (c+1) x hp.objs.size:=a6
 refine wpAny_setField_rec a6 (by simp) fun h7 a7 hs7=>?_
 replace hs7:Heap.SameBut e h6 h7:=hs7;replace a7:IsEnumOut h7 e it (c+1) x hp.objs.size:=a7
 have up:∀b o,b≠e→h4.get? b=some o→h7.get? b=some o:=fun b o hb y=>hs7.extBut b o hb (hs6.extBut b o hb (hs5.extBut b o hb y))
 exact wpAny_bind (wpAny_letGo (wpAny_pure ⟨_,rfl,hQ x h7 tk px a7 (D.frame _ _ _ st4 fun b hb o y=>up b o (ne_e b hb) y) (up _ _ (Nat.ne_of_gt hel) t4) fun b o hbe hbi q=>up b o hbe (k4 b o hbe hbi q)⟩))
end
noncomputable def mC(K:PySem.W.Frag)(c0:Int)(d:Sd):It where
 go i H:=∃xs,d.at K H xs∧i<xs.length
 i9 i H v H':=∃t x,v=.ref t∧H t=none∧(∀xs,d.at K H xs→xs[i]? =some x)∧H'=upd H t (.tup [.int (c0+(i:Int)),x])
 stop i H:=∃xs,d.at K H xs∧i=xs.length
noncomputable def kx(c0:Int)(d:Sd)(td:Tok)(e it:Addr)(i:Nat)(h:Heap):Prop:=(∃old,IsEnum h e it (c0+(i:Int)) old)∧d.eO it i h td
theorem wK{P:Program}{w:World}{K:PySem.W.Frag}{elts:List Expr}{k:Nat}{tp:Pos}(c0:Int)(d:Sd)(td:Tok)(e it:Addr)(ne:e≠it)(hK:∀b∈[e,it],K.lookup b=none):
   Turn P w K (.Tuple elts k tp) (mC K c0 d) [e,it] e (kx c0 d td e it) where
 mem:=by simp
 obj i h st b hb:=by
   obtain⟨⟨old,he⟩,h1⟩:=st
   simp only[List.mem_cons,List.not_mem_nil,or_false]at hb
   rcases hb with rfl|rfl
   ·exact⟨_,he,fun v q=>by cases q⟩
   ·exact Sd.iE h1
 keep i h h' st kk:=by
   obtain⟨⟨old,he⟩,h1⟩:=st
   exact⟨⟨old,kk e (by simp) _ he⟩,Sd.jq h1 fun o q=>kk it (by simp) o q⟩
 item := by
   intro X hP hw hKX hc i pins s σ H E I hf st hg
   subst hP hw hKX
   obtain⟨xs,ax,hx⟩:=hg
   obtain⟨⟨old,he⟩,h1⟩:=st
   have hh:X.A.in1.handled=none:=I.ok.hd hc
   have un:∀b∈[e,it],H b=none:=fun b hb=>(hf b hb).1
   obtain⟨f1,P1,S1,D1,p1,s1,s1',q1⟩:=Sd.draws (it:=it) (tk:=td) (A:=X.A.in1) I hh ax (un it (by simp)) (hK it (by simp))
   have hef:e∉f1:=fun hm=>by
     rcases q1 e hm with h|h|⟨o,h⟩
     ·exact ne h
     ·exact h (un e (by simp))
     ·rw[hK e (by simp)]at h;cases h
   have hT:s.TypeIs (.ref e) "enumerate":=⟨_,he,rfl⟩
   unfold pyNext
   refine wpAny_bind (wpAny_attempt (wpAny_callSpecial?_slot (name:=Str.ofString "__next__") hT PySem.F.slot_enumerate_next (wpAny_call_entry PySem.F.slot_enumerate_next hT PySem.F.entry_enumerate_next (FP D1 he (s1' i h1) hx ne hef fun x h' tk px ho aS hp hk=>wpAny_pure ?_) (PySem.F.args_enumerate_next_1 _))))
   obtain⟨v1,e1,r1⟩:=p1 i x px
   refine⟨_,rfl,wpAny_letOwnedTupleGo_enum ho fun h2 he2 hs2=>?_⟩
   have helt:e<s.heap.objs.size:=Heap.lt_size he
   have Te:s.heap.objs.size≠e:=Nat.ne_of_gt helt
   have hk2:∀b o,b≠e→b≠it→s.heap.get? b=some o→h2.get? b=some o:=fun b o c1 c2 q=>hs2.extBut _ _ c1 (hk b o c1 c2 q)
   have hp2:h2.get? s.heap.objs.size=some {cls:=.type "tuple",data:=.seq #[.int (c0+(i:Int)) tk,x]}:=hs2.extBut _ _ Te hp
   have nT:H s.heap.objs.size=none:=I.au.fresh (Nat.le_refl _)
   have aM:∀c u,H c=some u→c≠e∧c≠it:=fun c u q=>by refine⟨?_,?_⟩<;>(intro w;rw[w,un _ (by simp)]at q;cases q)
   have nch:∀c,c∉[e,it]→c≠e∧c≠it:=fun c hc'=>by simpa[not_or] using hc'
   have u:Un (L2.b8 X.stack) [e,it] H (upd H s.heap.objs.size (.tup [.int (c0+(i:Int)),v1])) s.heap h2:=
     ⟨fun b o q n hf' hx'=>let m:=nch b hx';hk2 b o m.1 m.2 q,fun b o q n hf' hx'=>let m:=nch b hx';⟨o.slots,hk2 b o m.1 m.2 q⟩,fun b o q n hx'=>by rw[L2.aA (Nat.ne_of_lt (Heap.lt_size q))];exact n,
       fun b o q hx'=>let m:=nch b hx';⟨o,hk2 b o m.1 m.2 q⟩,fun b zs q=>by rw[L2.aA (L2.cP q nT)];exact q,fun b o zs q=>by rw[L2.aA (L2.cP q nT)];exact q,fun b ps q=>⟨#[],by rw[L2.aA (L2.cP q nT),q];simp⟩⟩
   have au:L2.bc X.prog X.w (upd H s.heap.objs.size (.tup [.int (c0+(i:Int)),v1])) h2:=fun b ob q=>by
     by_cases hb:b=s.heap.objs.size
     · subst hb
       rw[L2.bC]at q
       cases q
       exact⟨show 2≤sizeLine by decide,[.int (c0+(i:Int)) tk,x],.cons ⟨_,rfl⟩ (.cons r1 .nil),⟨_,hp2,rfl,_,rfl⟩⟩
     · rw[L2.aA hb]at q
       refine(I.au b ob q).fg (fun c v hcv w=>?_) (fun c w=>by rw[L2.aA (L2.cP w nT)];exact w) fun c zs w=>by rw[L2.aA (L2.cP w nT)];exact w
       have tc:∃u,H c=some u:=by
         rcases hcv with rfl|hcv
         ·exact⟨_,q⟩
         ·exact⟨_,hcv⟩
       obtain⟨u',hu'⟩:=tc
       have m:=aM c u' hu'
       exact hk2 c v m.1 m.2 w
   have I2:Inv X pins σ (upd H s.heap.objs.size (.tup [.int (c0+(i:Int)),v1])) {s with heap:=h2,toks:=tk+1}:=I.lQ (s':={s with heap:=h2,toks:=tk+1}) (ch:=[e,it]) rfl u au I.bare fun b hb=>by
     obtain⟨_,a1,a2,a3,a4,a5⟩:=hf b hb
     exact⟨a3,a1,a4,a5⟩
   have ltb:∀b∈[e,it],b≠s.heap.objs.size:=fun b hb=>by
     have:∃o,s.heap.get? b=some o:=by
       simp only[List.mem_cons,List.not_mem_nil,or_false]at hb
       rcases hb with rfl|rfl
       ·exact⟨_,he⟩
       ·exact let⟨o,q,_⟩:=Sd.iE h1;⟨o,q⟩
     obtain⟨o,q⟩:=this
     exact Nat.ne_of_lt (Heap.lt_size q)
   have cn:c0+(i:Int)+1=c0+((i+1:Nat):Int):=by omega
   rw[cn]at he2
   refine⟨.ref s.heap.objs.size,_,I2,rfl,⟨_,v1,rfl,nT,fun xs' hx'=>by rw[Sd.inj I hx' ax];exact e1,rfl⟩,⟨⟨_,he2⟩,Sd.jq (s1 _ _ aS) fun o q=>hs2.extBut _ _ (Ne.symm ne) q⟩,fun b hb=>?_⟩
   show upd H _ _ b=none
   rw[L2.aA (ltb b hb)];exact un b hb
 done:=by
   intro X hP hw hKX hc i pins s σ H E I hf st hg
   subst hP hw hKX
   obtain⟨xs,ax,hend⟩:=hg
   obtain⟨⟨old,he⟩,h1⟩:=st
   have hh:X.A.in1.handled=none:=I.ok.hd hc
   have un:∀b∈[e,it],H b=none:=fun b hb=>(hf b hb).1
   obtain⟨f1,P1,S1,D1,p1,s1,s1',q1⟩:=Sd.draws (it:=it) (tk:=td) (A:=X.A.in1) I hh ax (un it (by simp)) (hK it (by simp))
   refine wpAny_pyNext_enum_endD D1 he (by rw[←hend];exact s1' i h1) fun h' hk=>⟨rfl,?_⟩
   have fpi:=hf it (by simp)
   obtain⟨b0,b1,b2,b3,b4,b5⟩:=fpi
   exact I.turned (it:=it) (t':=s.toks) (fun b o hb q=>hk b o hb q) b0 b1 b3 b4 b5
 self _ _ _ _ _ st h:=let⟨old,he⟩:=st.1;wpAny_pyIter_enum he h
noncomputable abbrev jK(h:Heap)(d:Sd)(td:Tok):Heap:=h.push (d.obj td)
noncomputable abbrev il(h:Heap)(d:Sd)(td:Tok)(c:Int):Heap:=(jK h d td).push {cls:=.type "enumerate",data:=.fields #[.none,.bool false,.ref h.objs.size,rawInt c,.none,.none]}
theorem CM(d:Sd)(td:Tok):Meets (Builtin.«enumerate.__new__» ⟨[.type "enumerate",d.val td],[]⟩) (fun _ R s=>d.is s.heap∧R (.ok (.ret (.ref (jK s.heap d td).objs.size))) {s with heap:=il s.heap d td 0}):=
 .of_wp fun prog w A R s h=>by
   obtain⟨hp,g,dr,tk,os⟩:=s;obtain⟨h1,h⟩:=h
   have hsub:=sub_enumerate
   have a1:d.is (Shared.heap ⟨hp,g,dr,tk,os⟩):=h1
   wp_walk
   refine wpAny_stack_any fun st=>wpAny_pure ?_
   split
   · rename_i c _ _ _ _ _
     cases (c==Value.type "enumerate")
     ·wp_walk using Sd.iter a1;exact⟨_,rfl,h⟩
     ·wp_walk using Sd.iter a1;exact⟨_,rfl,h⟩
   ·wp_walk using Sd.iter a1;exact⟨_,rfl,h⟩
section
variable{X:Cx}{M:Md}{G H H':Hp}{F0 F F':Addr→Prop}{σ:L2.St}{ρ:En}{pos:Pos}{pins:List (Addr×Obj)}{s:Shared}
theorem Af{elts:List Expr}{k:Nat}{tp:Pos}{d:Sd}{td:Tok}{xs:List V}{c:Int}{R:It→Hp→Prop}(I:Inv X pins σ H s)(ax:d.at X.K H xs)(q:R (mC X.K c d) H):
   wpAny (model X.prog X.w) X.A (pyIter (.ref (jK s.heap d td).objs.size)) (L2.lO X pins σ (.Tuple elts k tp) R) X.xe {s with heap:=il s.heap d td c}:=by
 have z1:(jK s.heap d td).objs.size=s.heap.objs.size+1:=Heap.size_push ..
 have nf:(d.obj td).isFreed=false:=by cases d<;>rfl
 have g2:(il s.heap d td c).get? (jK s.heap d td).objs.size=some _:=Heap.get?_push_size _ rfl
 have g1:(il s.heap d td c).get? s.heap.objs.size=some (d.obj td):=Heap.get?_push_of_some _ (Heap.get?_push_size _ nf)
 have old:∀b o,s.heap.get? b=some o→(il s.heap d td c).get? b=some o:=fun b o x=>Heap.get?_push_of_some _ (Heap.get?_push_of_some _ x)
 rw[z1]at g2
 rw[z1]
 refine wpAny_pyIter_enum g2 ?_
 have I2:Inv X pins σ H {s with heap:=il s.heap d td c}:=I.kept (t':=s.toks) old
 have hK:∀b,s.heap.objs.size≤b→X.K.lookup b=none:=fun b hb=>by
   cases q:X.K.lookup b with
   |none=>rfl
   |some o=>exact absurd (Nat.lt_of_lt_of_le (Heap.lt_size (I.cx b o q)) hb) (Nat.lt_irrefl _)
 have itr0:d.eO s.heap.objs.size 0 (il s.heap d td c) td:=by
   cases d with
   |l a=>exact⟨_,g1,rfl,rfl⟩
   |t a=>exact⟨_,g1,rfl,rfl⟩
   |s z=>exact⟨_,g1,rfl,rfl⟩
 have ge:∀b∈[s.heap.objs.size+1,s.heap.objs.size],s.heap.objs.size≤b:=fun b hb=>by
   simp only[List.mem_cons,List.not_mem_nil,or_false]at hb
   rcases hb with rfl|rfl
   ·exact Nat.le_succ _
   ·exact Nat.le_refl _
 refine⟨s.heap.objs.size+1,[s.heap.objs.size+1,s.heap.objs.size],_,_,H,rfl,I2,wK c d td _ _ (Nat.succ_ne_self _) (fun b hb=>hK b (ge b hb)),⟨⟨.none,?_⟩,itr0⟩,fun b hb=>I.gA (ge b hb) (I.au.fresh (ge b hb)),q⟩
 have:c+((0:Nat):Int)=c:=by simp
 rw[this]
 exact g2
noncomputable def Du(K:PySem.W.Frag)(c:Int)(ta:TA):TI:=fun σ H R=>ta σ H fun vs H1=>∃(x:V) (d:Sd) (xs:List V),vs=[x]∧(∀u,RelV x u→∃tk,u=d.val tk)∧d.at K H1 xs∧R (mC K c d) H1
theorem B0:bootBuiltins "enumerate"=some (.type "enumerate"):=by decide+kernel
theorem vQ{elts:List Expr}{k:Nat}{tp:Pos}{a:Expr}{ta:TA}{p:Pos}(hg:L2.Gl X "enumerate")(hm:X.mg "enumerate"=none)(ha:PA X [a] ta)(hs:starEach [a] X.env=(false,eval a X.env)::starEach [] X.env):
   L2.PI X (.Tuple elts k tp) (.Call (.Name "enumerate" p) [a] [] pos) (Du X.K 0 ta):=by
 intro pins s σ H R I h
 refine PyProof.Rows.Call_ (L2.eM I hg hm B0 (PyProof.Rows.callWith_type1 (L2.ar (ha pos pins s σ H _ I h) fun us s1 ⟨vs,H1,I1,r1,q1⟩=>?_) hs (by rfl)))
 obtain⟨x,d,xs,rfl,hx,ax,q⟩:=q1
 obtain⟨u1,rfl,ru1⟩:=L2.vals1 r1
 obtain⟨td,rfl⟩:=hx u1 ru1
 refine callType_new PySem.F.called_enumerate (by decide) (PySem.F.typeCall_enumerate_1 _) (PySem.F.newCall_enumerate_1 _) (fun obj=>PySem.F.args_object_init_2 obj _) PySem.F.entry_enumerate_new (CM d td) ⟨Sd.oU I1 ax,?_⟩
 exact⟨⟨_,Heap.get?_push_size _ rfl,rfl⟩,Af I1 ax q⟩
noncomputable def d4:Int→List D→List D
 |_,[]=>[]
 |k,x::xs=>.tup [.int k,x]::d4 (k+1) xs
theorem qo:∀(k:Int) (xs:List D),(d4 k xs).length=xs.length
 |_,[]=>rfl
 |k,x::xs=>by unfold d4;simp[qo (k+1) xs]
theorem pN:∀ {k:Int} {xs:List D} {i:Nat} {d:D},(d4 k xs)[i]? =some d→∃x,d=.tup [.int (k+(i:Int)),x]∧xs[i]? =some x
 |_,[],_,_,h=>by simp[d4]at h
 | k,x::xs,0,d,h=>by
   unfold d4 at h
   simp at h
   exact⟨x,by rw[←h];simp,rfl⟩
 | k,x::xs,i+1,d,h=>by
   unfold d4 at h
   have h:(d4 (k+1) xs)[i]? =some d:=by simpa using h
   obtain⟨a,h1,h2⟩:=pN h
   refine⟨a,?_,by simpa using h2⟩
   rw[h1]
   congr 2
   congr 1
   omega
@[simp] noncomputable def lu(c:Int)(a:Ex):br:=fun ρ=>(a ρ).bind fun x=>(items x).bind fun xs=>.ok (d4 c xs)
theorem DK{c:Int}{q:Sd}{xs:List V}{ds:List D}(h1:∀H' F',Mv F H F' H'→q.at M.K H' xs)(rs:ae M H F ds xs):Gives M (mC M.K c q) H F (d4 c ds):=by
 intro H' F' mv tr
 have a1:=h1 H' F' mv
 have rs':=rs.mv mv
 refine⟨fun i d hd=>?_,?_⟩
 · obtain⟨x,rfl,hx⟩:=pN hd
   obtain⟨vx,ex,rx⟩:=rs'.get hx
   refine⟨⟨xs,a1,(List.getElem?_eq_some_iff.mp ex).1⟩,fun v H2 hv=>?_⟩
   obtain⟨t,wx,rfl,ht,g1,rfl⟩:=hv
   have q1:=g1 xs a1
   rw[ex]at q1
   cases q1
   exact⟨af.bI ht _,gI tr ht (ae.cons cv (ae.cons rx ae.nil))⟩
 ·exact⟨xs,a1,by rw[qo,rs.length]⟩
theorem xV{elts:List Expr}{k:Nat}{tp:Pos}{a:Expr}{fa:Ex}{p:Pos}(hg:L2.Gl X "enumerate")(hm:X.mg "enumerate"=none)(ha:JE X a fa)(hs:starEach [a] X.env=(false,eval a X.env)::starEach [] X.env):
   JI X (.Tuple elts k tp) (.Call (.Name "enumerate" p) [a] [] pos) (lu 0 fa):=
 kK (vQ hg hm (cy ha dF hs) hs) fun σ H Q ⟨ρ,F,ds,r,e,q⟩=>by
   obtain⟨d1,ed1,e⟩:=ah.mp e
   obtain⟨xs,exs,e⟩:=ah.mp e
   cases e
   refine⟨ρ,F,[d1],r,by show(fa ρ).bind _=_;rw[ed1];rfl,fun vs H1 s1 rv=>?_⟩
   obtain⟨x,rfl,rx⟩:=rv.one
   obtain⟨sd1,vx,u1,rr1,at1⟩:=pe exs rx
   exact⟨x,sd1,vx,rfl,u1,at1 H1 F Mv.refl,q _ H1 s1 (DK (M:=aj X) at1 rr1)⟩
end
section
variable{prog:Program}{w:World}{A:Around}{E:Value→Shared→Prop}{s:Shared}
end
section
variable{X:Cx}{M:Md}{G H H':Hp}{F0 F F':Addr→Prop}{σ:L2.St}{ρ:En}{pos:Pos}{pins:List (Addr×Obj)}{s:Shared}
noncomputable def tD(M:Md):R2:=fun x y H Q=>∃l k xs,x=.ref l∧y=.int k∧aW M.K H l xs∧1<k∧k<1000∧xs.length≤1000∧xs≠[]∧∀p,H p=none→Q (.ref p) (upd H p (.tup (List.replicate k.toNat xs).flatten))
theorem BF:fillsNumberSlot (.type "tuple") "mul"=pure false:=fillsNumberSlot_seq (id:="tuple.__mul__") (r:=some (.builtin "tuple.__rmul__")) PySem.F.slot_tuple_mul.lookup (by decide+kernel) PySem.F.slot_tuple_rmul.lookup (by decide+kernel)
theorem Gy:seqRepeat? (.type "tuple")=pure (some (.builtin "tuple.__mul__")):=by
 unfold seqRepeat?
 rw[seqSlot_of (T:="tuple") (name:="__mul__") (id:="tuple.__mul__") PySem.F.slot_tuple_mul.lookup (by decide+kernel),seqSlot_of (T:="tuple") (name:="__rmul__") (id:="tuple.__rmul__") PySem.F.slot_tuple_rmul.lookup (by decide+kernel)];rfl
theorem xy(a:Int)(t:Tok)(l:Addr)(its:Array Value)(n:Nat)(dc:Option Addr)(sl:Array (Option Value)):
   Meets (Builtin.«int.__rmul__» ⟨[.int a t,.ref l],[]⟩) (fun _ R s=>s.heap.get? l=some {cls:=.type "tuple",dict:=dc,data:=.seq its n,slots:=sl}∧R (.ok (.ret Value.notImplemented)) s):=
 .of_wp fun prog w A R s h=>by obtain⟨hp,g,d,tk,os⟩:=s;obtain⟨hl,h⟩:=h;wp_walk;exact⟨_,rfl,h⟩
theorem B4(k:Int)(t:Tok)(l:Addr)(its:Array Value)(n:Nat)(dc:Option Addr)(sl:Array (Option Value))(h1:1<k)(h2:k<1000)(h3:its.size≤1000)(h4:its.isEmpty=false):
   Meets (Builtin.«tuple.__mul__» ⟨[.ref l,.int k t],[]⟩) (fun _ R s=>s.heap.get? l=some {cls:=.type "tuple",dict:=dc,data:=.seq its n,slots:=sl}∧
     R (.ok (.ret (.ref s.heap.objs.size))) {s with heap:=s.heap.push {cls:=.type "tuple",data:=.seq ((List.replicate k.toNat its).foldl (· ++ ·) #[])} }):=
 .of_wp fun prog w A R s h=>by
   obtain⟨hp,g,d,tk,os⟩:=s;obtain⟨hl,h⟩:=h
   have c1:(decide (k< -(2 ^ 63))||decide (k≥2 ^ 63))=false:=by rw[decide_eq_false (by omega),decide_eq_false (by omega)];rfl
   have c2:(its.isEmpty||k==1)=false:=by rw[h4];simp;omega
   have c3:(decide (k≤0)||its.isEmpty)=false:=by rw[h4,decide_eq_false (by omega)];rfl
   have c4:¬((its.size:Int)*k>(2 ^ 63 - 1) / 8):=by
     have:(its.size:Int)*k≤1000*1000:=Int.mul_le_mul (by omega) (by omega) (by omega) (by omega)
     have e:((2:Int) ^ 63 - 1) / 8=1152921504606846975:=by decide
     rw[e];omega
   have c5:Builtin.Tuple.tupleTooMany ((its.size:Int)*k)=false:=by
     have:(its.size:Int)*k≤1000*1000:=Int.mul_le_mul (by omega) (by omega) (by omega) (by omega)
     unfold Builtin.Tuple.tupleTooMany
     have e:(sizeLine:Int)=16777216:=by rw[sizeLine_eq];rfl
     rw[e];exact decide_eq_false (by omega)
   have c6:((List.replicate k.toNat its).foldl (· ++ ·) #[]).size≤sizeLine:=by
     have e:(List.replicate k.toNat its).foldl (· ++ ·) #[]=(List.replicate k.toNat its.toList).flatten.toArray:=by
       have:=PyProof.Rows.listMul_foldl_if its k.toNat
       rw[h4]at this
       simpa using this
     rw[e,List.size_toArray,L2.len_rep,sizeLine_eq,Array.length_toList]
     have:k.toNat*its.size≤1000*1000:=Nat.mul_le_mul (by omega) h3
     omega
   wp_walk
   rw[if_neg (by rw[c1];decide)]
   wp_walk
   rw[if_neg (by rw[c2];decide)]
   dsimp only
   rw[if_neg (by rw[c3];decide),if_neg c4,if_neg (by rw[c5];decide)]
   wp_walk
   exact⟨_,rfl,h⟩
theorem yD:aD X (binaryOp .Mult) (tD (aj X)):=by
 intro pins s σ H x y v u Q I rx ry h
 obtain⟨l,k,xs,rfl,rfl,hH,h1,h2,hz,hne,q⟩:=h
 cases rx
 obtain⟨t,rfl⟩:=ry
 obtain⟨its,r,pl,z⟩:=I.tuple hH
 obtain⟨⟨c,dc,da,sl⟩,e,hc,n,hd⟩:=pl
 simp only at hc hd
 subst hc hd
 have hl:=r.length
 have he:its.toArray.isEmpty=false:=by
   cases its with
   |nil=>cases r;exact absurd rfl hne
   |cons a b=>rfl
 refine wpAny_binaryOp_repeat_ref (T:="tuple") (U:="int") (by decide) ⟨_,e,rfl⟩ (fun s'=>typeIs_int s' k t) BF PySem.F.fills_int_mul PySem.F.slot_int_rmul Gy PySem.F.slot_int_index.lookup
   (call_meets PySem.F.slot_int_rmul (typeIs_int s k t) PySem.F.entry_int_rmul (PySem.F.args_int_rmul_2 _ _) (xy k t l its.toArray n dc sl)
     ⟨e,rfl,⟨_,e,rfl⟩,call_meets PySem.F.slot_tuple_mul ⟨_,e,rfl⟩ PySem.F.entry_tuple_mul (PySem.F.args_tuple_mul_2 _ _) (B4 k t l its.toArray n dc sl h1 h2 (by rw[List.size_toArray];omega) he) ⟨e,?_⟩⟩)
 have ee:(List.replicate k.toNat its.toArray).foldl (· ++ ·) #[]=(List.replicate k.toNat its).flatten.toArray:=by
   have:=PyProof.Rows.listMul_foldl_if its.toArray k.toNat
   rw[he]at this
   simpa using this
 rw[ee]
 have hlen:(List.replicate k.toNat xs).flatten.length≤sizeLine:=by
   rw[L2.len_rep,sizeLine_eq]
   have:k.toNat*xs.length≤1000*1000:=Nat.mul_le_mul (by omega) hz
   omega
 exact⟨.ref _,_,I.laid (o:=.tup (List.replicate k.toNat xs).flatten) (t':=s.toks) (fun _ _ q=>Heap.get?_push_of_some _ q) (Nat.le_refl _) ⟨hlen,(List.replicate k.toNat its).flatten,r.rep k.toNat,⟨_,Heap.get?_push_size _ rfl,rfl,_,rfl⟩⟩,rfl,q _ I.fresh⟩
theorem Bg:bh M pL (tD M):=by
 intro F H x y a b d Q tr ra rb e q
 unfold pL at e
 split at e
 · split at e
   · rename_i h
     cases e
     simp only[Rep]at ra
     obtain⟨l,xs,rfl,h1,r1⟩:=ra
     refine⟨l,_,xs,rfl,aU rb,h1.sq,h.1,h.2.1,by rw[←r1.length];exact h.2.2.1,fun z=>?_,fun p hp=>q _ _ (af.bI hp _) (gI tr hp (r1.lz _))⟩
     subst z
     have:=r1.length
     have h4:=h.2.2.2
     rw[List.length_nil,List.length_eq_zero_iff]at this
     rw[this]at h4
     cases h4
   ·cases e
 ·cases e
end
end PL
namespace PL
open PySem PySem.Spec PySem.W
open L2 (V Hp HO Cx PE PT PW PA PS bJ PG cB VK TE TT TA TS TI TG Inv RelV Vals Rd aN aW upd af Key XK Ends aD eY bp R2 EP It Turn cz Un bc bT b8)
theorem yv{P:Program}{w:World}{H:Hp}{h:Heap}{a:Addr}{o:HO}(x:bT P w H h a o):∃ob,h.get? a=some ob:=by
 cases o with
 |lst xs=>obtain⟨_,_,_,_,e⟩:=x;exact⟨_,e⟩
 |tup xs=>obtain⟨_,_,_,ob,e,_⟩:=x;exact⟨_,e⟩
 |dK kvs=>obtain⟨_,_,_,_,o,_,_,e,_⟩:=x;exact⟨_,e⟩
 |dT kvs=>obtain⟨_,_,_,_,o,_,_,e,_⟩:=x;exact⟨_,e⟩
 |set S n=>obtain⟨o,_,_,_,e,_⟩:=x;exact⟨_,e⟩
 |ins C dx fs=>obtain⟨_,_,_,e,_⟩:=x;exact⟨_,e⟩
 |own y=>obtain⟨_,e⟩:=x;exact⟨_,e⟩
 |xd fs=>obtain⟨_,⟨_,_,_,e,_⟩,_⟩:=x;exact⟨_,e⟩
 |lR lo hi=>obtain⟨_,_,_,e⟩:=x;exact⟨_,e⟩
 |frz ob u=>obtain⟨e,_⟩:=x;exact⟨_,e⟩
 |gg ps=>exact⟨_,show h.get? a=some _ from x⟩
 |met f y=>exact⟨_,show h.get? a=some _ from x⟩
 |ext φ=>obtain⟨_,⟨_,e⟩,_⟩:=x;exact⟨_,e⟩
theorem ED{P:Program}{w:World}{H:Hp}{h h':Heap}(x:bc P w H h)(k:∀b o,H b≠none→h.get? b=some o→h'.get? b=some o):bc P w H h':=fun a o e=>
 (x a o e).fg (fun b u hb q=>k b u (by rcases hb with rfl|hb<;>simp_all) q) (fun _ q=>q) fun _ _ q=>q
section
variable{P:Program}{w:World}{K:PySem.W.Frag}{mg:Str→Option Value}{base:Heap}{N:List Str}{qual:Str}{scope:Scope}{f:Addr}{cdv:Value}{A:Around}{outer:List Env}{s:Shared}{H:Hp}{E:XK}
noncomputable def rz(n:Nat)(c:Str)(t:aG):List D→R D:=fun ds=>match t (ds.map Slot.sh++List.replicate (n - ds.length) .un)with
 |.ok true=>.exc (.cm c [] [])
 |_=>.bad
end
section
variable{M:Model}{A:Around}{E:Value→Shared→Prop}{K:PySem.W.Frag}{h:Heap}{g:Array GenState}{d:Drawn}{t:Nat}{os:OsState}{e C U:Addr}{oe:Obj}
end
section
variable{X:Cx}{pins:List (Addr×Obj)}{σ:L2.St}{H:Hp}{s:Shared}
end
structure ke(P:Program)(w:World)(C:Addr)(l:List Env)(H1 H':Hp)(h1:Heap)(a t:Addr)(B:Heap)(h:Heap):Prop where
 un:Un (b8 l) [] H1 H' h1 h
 au:bc P w H' h
 fl:Heap.FlyingW B l a (.ref C) (.ref t) h
 jZ:∀b o,h.get? b=some o→(H' b≠none∨((∃o',h1.get? b=some o')∧b∉b8 l))→B.get? b=some o
section
variable{P:Program}{w:World}{C:Addr}{l:List Env}{H1 H':Hp}{h1 h h5:Heap}{a t:Addr}{B:Heap}
theorem ke.step(x:ke P w C l H1 H' h1 a t B h)(st:B.StaysIn h5)(sm:h.UpToSlots h5):Un (b8 l) [] H1 H' h1 h5∧bc P w H' h5∧∀b o,h5.get? b=some o→(H' b≠none∨((∃o',h1.get? b=some o')∧b∉b8 l))→B.get? b=some o:=by
 have sl:∀b o,h.get? b=some o→b∈b8 l→∃sl,h5.get? b=some {o with slots:=sl}:=fun b o e hb=>by
   obtain⟨_,o',ho',hnf⟩:=x.fl.2.2.1.mem hb
   rw[e]at ho';cases ho'
   exact sm b o e hnf
 refine⟨⟨fun b o e n hb hx'=>st _ _ (x.jZ b o (x.un.keep b o e n hb hx') (.inr ⟨⟨o,e⟩,hb⟩)),fun b o e n hb hx'=>?_,x.un.free,fun b o e hx'=>?_,x.un.dk,x.un.cQ,x.un.dD⟩,ED x.au fun b o hb q=>st _ _ (x.jZ b o q (.inl hb)),fun b o eo hc=>?_⟩
 · obtain⟨s2,e2⟩:=x.un.slot b o e n hb hx'
   obtain⟨s3,e3⟩:=sl b _ e2 hb
   exact⟨s3,e3⟩
 · obtain⟨o',e'⟩:=x.un.there b o e hx'
   by_cases hb:b∈b8 l
   · obtain⟨s3,e3⟩:=sl b _ e' hb
     exact⟨_,e3⟩
   ·exact⟨o',st _ _ (x.jZ b o' e' (.inr ⟨⟨o,e⟩,hb⟩))⟩
 · rcases hc with hb|⟨⟨o',e'⟩,hb⟩
   · cases q:H' b with
     |none=>exact absurd q hb
     | some u=>
       obtain⟨ob,z⟩:=yv (x.au _ _ q)
       have z2:=x.jZ b ob z (.inl hb)
       have z3:=st _ _ z2
       rw[z3]at eo;cases eo
       exact z2
   · obtain⟨o2,e2⟩:=x.un.there b o' e' (by intro z;cases z)
     have z2:=x.jZ b o2 e2 (.inr ⟨⟨o',e'⟩,hb⟩)
     have z3:=st _ _ z2
     rw[z3]at eo;cases eo
     exact z2
theorem ke.on(x:ke P w C l H1 H' h1 a t B h)(f5:Heap.FlyingW B l a (.ref C) (.ref t) h5)(sm:h.UpToSlots h5):ke P w C l H1 H' h1 a t B h5:=
 let⟨u,k,c⟩:=x.step f5.1 sm
 ⟨u,k,f5,c⟩
end
section
variable{X:Cx}{pins:List (Addr×Obj)}{σ:L2.St}{H:Hp}{s:Shared}{a:Addr}
end
section
variable{X:Cx}
end
section
variable{X:Cx}{pos:Pos}
end
end PL
namespace PL
open PySem PySem.Spec
open L2 (V Hp HO Cx PE PT PW PA PS bJ PG cB VK TE TT TA TS TI TG Inv RelV Vals Rd aN aW upd af Key XK Ends aD eY bp R2 EP It Turn cz Un fA)
noncomputable abbrev dT(xs:List D):D:=.cm ⟨#[]⟩ [⟨#[116]⟩] xs
@[simp] noncomputable def Au:D→R D
 |.tup xs=>.ok (dT xs)
 |_=>.bad
@[simp] noncomputable def Hb:D→R D
 |.cm _ (_::_) xs=>.ok (.tup xs)
 |_=>.bad
@[simp] noncomputable def Hj:D→D→R D
 | .cm _ (_::_) xs,.int k=>match intsOf xs with
   |some ns=>.ok (.int (ns.count k:Nat))
   |none=>.bad
 |_,_=>.bad
@[simp] noncomputable def G2(a:Ex)(lo hi:Option Ex):Ex:=e1 Au (b6 a lo hi)
section
variable{X:Cx}{M:Md}{G H H':Hp}{F0 F F':Addr→Prop}{σ:L2.St}{ρ:En}{pos:Pos}{pins:List (Addr×Obj)}{s:Shared}
end
section
variable{X:Cx}{M:Md}
end
section
variable{X:Cx}{M:Md}{G H H':Hp}{F0 F F':Addr→Prop}{σ:L2.St}{ρ:En}{pos:Pos}{pins:List (Addr×Obj)}{s:Shared}
@[simp] noncomputable def Hh(a:Ex):br:=fun ρ=>(a ρ).bind fun x=>match x with
 |.lst xs=>.ok xs.reverse
 |_=>.bad
end
end PL
set_option maxHeartbeats 2000000
namespace PL
open PySem PySem.Spec PySem.W
section
variable{prog:Program}{w:World}{A:Around}{E:Value→Shared→Prop}{s:Shared}
noncomputable def kG(h:Heap)(a l:Addr)(i:Int):Prop:=∃o,h.get? a=some o∧o.cls=.type "reversed"∧o.data=.fields #[.ref l,rawInt i]
theorem kG.typeIs{a l:Addr}{i:Int}(x:kG s.heap a l i):s.TypeIs (.ref a) "reversed":=let⟨o,ho,hc,_⟩:=x;⟨o,ho,hc⟩
theorem kG.at{h h':Heap}{a l:Addr}{i:Int}(x:kG h a l i)(e:∀o,h.get? a=some o→h'.get? a=some o):kG h' a l i:=let⟨o,ho,r⟩:=x;⟨o,e _ ho,r⟩
end
section
open L2 (V Hp HO Cx PE PT PW PA PS bJ PG cB VK TE TT TA TS TI TG Inv RelV Vals Rd aN aW upd af Key XK Ends aD eY bp R2 EP It Turn cz Un)
variable{X:Cx}{M:Md}{G H H':Hp}{F0 F F':Addr→Prop}{σ:L2.St}{ρ:En}{pos:Pos}{pins:List (Addr×Obj)}{s:Shared}
@[simp] noncomputable def HC(a:Ex):br:=fun ρ=>(a ρ).bind fun x=>match x with
 |.lst xs=>.ok xs.reverse
 |.tup xs=>.ok xs.reverse
 |_=>.bad
end
end PL
namespace PL
open PySem PySem.Spec
open L2 (V Hp HO Cx PE PT PW PA PS bJ PG cB VK TE TT TA TS TI TG Inv RelV Vals Rd aN aW upd af Key XK Ends aD eY bp R2 EP)
section
variable{X:Cx}{M:Md}{G H H':Hp}{F0 F F':Addr→Prop}{σ:L2.St}{ρ:En}{pos:Pos}{DE:Ends}
theorem aY.len:∀ {bs:List Addr} {xss:List (List D)},aY M H F bs xss→bs.length=xss.length
 |[],[],_=>rfl
 | b::bs,ds::dss,h=>by
   simp only[aY]at h
   simp[aY.len h.2.2]
 |[],_::_,h=>by simp only[aY]at h
 |_::_,[],h=>by simp only[aY]at h
theorem aY.get:∀ {bs:List Addr} {xss:List (List D)} {m:Nat} {b:Addr},aY M H F bs xss→bs[m]? =some b→∃xs,F b∧H b=some (.lst xs)∧ae M H F (xss.getD m []) xs
 |[],[],_,_,_,e=>by simp at e
 | b::bs,ds::dss,0,_,h,e=>by
   simp only[aY]at h
   simp at e;subst e
   obtain⟨f,⟨xs,q,r⟩,_⟩:=h
   exact⟨xs,f,q,by simpa using r⟩
 | b::bs,ds::dss,m+1,c,h,e=>by
   simp only[aY]at h
   obtain⟨xs,f,q,r⟩:=aY.get (m:=m) h.2.2 (by simpa using e)
   exact⟨xs,f,q,by simpa using r⟩
 |[],_::_,_,_,h,_=>by simp only[aY]at h
 |_::_,[],_,_,h,_=>by simp only[aY]at h
theorem aY.put{zs:List V}{es:List D}{c:Addr}(mv:Mv F H F (upd H c (.lst zs)))(rz:ae M (upd H c (.lst zs)) F es zs):∀ {bs:List Addr} {xss:List (List D)} {m:Nat},aY M H F bs xss→bs.Nodup→bs[m]? =some c→aY M (upd H c (.lst zs)) F bs (xss.set m es)
 |[],[],_,_,_,e=>by simp at e
 | b::bs,ds::dss,0,h,nd,e=>by
   simp only[aY]at h
   simp at e;subst e
   simp only[List.set_cons_zero,aY]
   obtain⟨nb,nd⟩:=List.nodup_cons.mp nd
   exact⟨h.1,⟨zs,L2.bC,rz⟩,h.2.2.mv mv fun d hd u f q=>⟨f,by rw[L2.aA (fun z=>by subst z;exact nb hd)];exact q⟩⟩
 | b::bs,ds::dss,m+1,h,nd,e=>by
   simp only[aY]at h
   simp only[List.set_cons_succ,aY]
   obtain⟨nb,nd⟩:=List.nodup_cons.mp nd
   have e':bs[m]? =some c:=by simpa using e
   have hc:b≠c:=fun z=>by subst z;exact nb (List.mem_of_getElem? e')
   obtain⟨f,⟨xs,q,r⟩,t⟩:=h
   exact⟨f,⟨xs,by rw[L2.aA hc];exact q,r.mv mv⟩,aY.put mv rz t nd e'⟩
 |[],_::_,_,h,_,_=>by simp only[aY]at h
 |_::_,[],_,h,_,_=>by simp only[aY]at h
end
end PL
namespace PL
open PySem PySem.Spec
open PyProof.Rows (assign_Tuple)
open L2 (V Hp HO Cx PE PT PW PA PS bJ PG cB VK TE TT TA TS TI TG Inv RelV Vals Rd aN aW upd af Key XK Ends aD eY bp R2 EP)
section
variable{prog:Program}{w:World}{A:Around}{E:Value→Shared→Prop}{s:Shared}
end
section
variable{X:Cx}{M:Md}{G H H':Hp}{F0 F F':Addr→Prop}{σ:L2.St}{ρ:En}{pos:Pos}{DE:Ends}
noncomputable def g7(M:Md):(Addr→Prop)→Hp→List Addr→List (List D)→(Addr→Prop)→Hp→Prop
 |F,H,[],[],F',H'=>F'=F∧H'=H
 |F,H,b::bs,ds::dss,F',H'=>∃H1 xs,af H H1∧H1 b=none∧ae M H1 F ds xs∧g7 M (fun c=>F c∨c=b) (upd H1 b (.lst xs)) bs dss F' H'
 |_,_,_,_,_,_=>False
theorem g7.len{M:Md}:∀ {bs:List Addr} {dss:List (List D)} {F F':Addr→Prop} {H H':Hp},g7 M F H bs dss F' H'→bs.length=dss.length
 |[],[],_,_,_,_,_=>rfl
 | b::bs,ds::dss,_,_,_,_,h=>by
   unfold g7 at h
   obtain⟨_,_,_,_,_,h⟩:=h
   simp[g7.len h]
 |[],_::_,_,_,_,_,h=>by unfold g7 at h;exact h.elim
 |_::_,[],_,_,_,_,h=>by unfold g7 at h;exact h.elim
end
end PL
set_option maxHeartbeats 1000000
namespace PL
open PySem PySem.Spec
open L2 (V Hp HO Cx PE PT PW PA PS bJ PG cB VK TE TT TA TS TI TG Inv RelV Vals Rd aN aW upd af Key XK Ends aD eY bp R2 EP It Turn cz Un)
section
variable{X:Cx}{M:Md}{G H H':Hp}{F0 F F':Addr→Prop}{σ:L2.St}{ρ:En}{pos:Pos}{pins:List (Addr×Obj)}{s:Shared}
noncomputable def isNone:Value→Bool
 |.none=>true
 |_=>false
theorem fY{v:Value}(h:isNone v=true):v=.none:=by cases v<;>first|rfl|cases h
theorem yw{prog:Program}{w:World}{A:Around}{E:Value→Shared→Prop}{s:Shared}{Q:Int→Shared→Prop}(h:Q (reduceHash 0xFCA86420) {s with toks:=s.toks+1}):wpAny (model prog w) A (PySem.pyHash .none) Q E s:=
 PySem.W.pyHash_slot (T:="NoneType") rfl PySem.F.slot_NoneType_hash PySem.F.entry_NoneType_hash (PySem.F.args_NoneType_hash_1 _) (beq_builtin_none _) (.inl rfl) (wpAny_bind (wpAny_pure (wpAny_bind (wpAny_mkInt (wpAny_pure ⟨_,_,rfl,h⟩)))))
theorem Fq{prog:Program}{w:World}{A:Around}{E:Value→Shared→Prop}{s:Shared}{Q:Bool→Shared→Prop}(h:Q true s):wpAny (model prog w) A (PySem.eqBool .none .none) Q E s:=by
 unfold PySem.eqBool
 refine wpAny_holding ?_
 rw[if_pos (by rfl)]
 exact wpAny_bind (wpAny_rule (wpAny_pure h))
end
section
variable{X:Cx}{M:Md}{G H H':Hp}{F0 F F':Addr→Prop}{σ:L2.St}{ρ:En}{pos:Pos}{pins:List (Addr×Obj)}{s:Shared}
end
noncomputable def putL(k:Ky)(d:D)(ks:List Ky)(vs:List D):List Ky×List D:=if(ks.any fun a=>decide (a=k))=true then(ks,List.zipWith (fun a v=>if a=k then d else v) ks vs)else(ks++[k],vs++[d])
noncomputable def iA(i:Nat)(k e:Ex):Sm:=fun ρ=>(e ρ).bind fun d=>(k ρ).bind fun q=>match ρ[i]?,keyOf q with
 |some (.od ks vs),some y=>if ks.length<1000 then .ok (.next (ρ.set i (.od (putL y d ks vs).1 (putL y d ks vs).2)))else .bad
 |_,_=>.bad
section
variable{X:Cx}{M:Md}{G H H':Hp}{F0 F F':Addr→Prop}{σ:L2.St}{ρ:En}{pos:Pos}{pins:List (Addr×Obj)}{s:Shared}
theorem wk(i:Nat){x:Str}{p1 p2:Pos}(hN:X.N.Nodup)(hi:X.N[i]? =some x:=by rfl)(hx:L2.Loc X.env.scope x:=by exact Or.inl rfl)(hf:X.fn x=true∨X.env.scope.names.lookup x=some .local:=by first|exact .inl rfl|exact .inr rfl)
   (hs:swapsWith (.Dict [] [] p1) (some (.Name x p2)) pos.line X.env=pure false:=by rfl):JS X (.Assign [.Name x p2] (.Dict [] [] p1) pos) (gu i (gm [] [])):=fun F0=>
 cb (L2.mH hN hi hx L2.rW hs hf) fun D σ H ⟨ρ,F,fl,r,e,q⟩=>by
   obtain⟨d,ed,e⟩:=ah.mp e
   cases ed
   cases e
   intro p hp
   obtain⟨mv,r'⟩:=r.new (i:=i) (s:=.od [] []) hp (.inr ⟨[],[],[],rfl,rfl,rfl,ae.nil⟩)
   exact q _ _ _ mv r'
theorem qc{ks:List Ky}{xs:List V}(k:Ky)(v:V)(hl:ks.length=xs.length):
   L2.putK (ks.zip xs) k v=(if(ks.any fun a=>decide (a=k))=true then ks.zip (List.zipWith (fun a x=>if a=k then v else x) ks xs)else(ks++[k]).zip (xs++[v])):=by
 have hany:∀ {ks:List Ky} {xs:List V},ks.length=xs.length→((ks.zip xs).any fun kv=>decide (kv.1=k))=(ks.any fun a=>decide (a=k)):=by
   intro ks
   induction ks with
   |nil=>intro xs _;simp
   | cons a ks ih=>
     intro xs hl
     cases xs with
     |nil=>simp at hl
     |cons x xs=>rw[List.zip_cons_cons,List.any_cons,List.any_cons,ih (by simpa using hl)]
 unfold L2.putK
 rw[hany hl]
 by_cases h:(ks.any fun a=>decide (a=k))=true
 · rw[if_pos h,if_pos h]
   have e:∀ {ks:List Ky} {xs:List V},ks.length=xs.length→(ks.zip xs).map (fun kv=>if kv.1=k then(kv.1,v)else kv)=ks.zip (List.zipWith (fun a x=>if a=k then v else x) ks xs):=by
     intro ks
     induction ks with
     |nil=>intro xs _;simp
     | cons a ks ih=>
       intro xs hl
       cases xs with
       |nil=>simp at hl
       | cons x xs=>
         rw[List.zip_cons_cons,List.map_cons,ih (by simpa using hl),List.zipWith_cons_cons,List.zip_cons_cons]
         by_cases h:a=k
         ·simp[h]
         ·simp[h]
   exact e hl
 · rw[if_neg h,if_neg h,List.zip_append hl]
   rfl
theorem pA{k:Ky}{d:D}{v:V}(rd:Rep M H F d v):∀ {ks:List Ky} {ds:List D} {xs:List V},ae M H F ds xs→ae M H F (List.zipWith (fun a y=>if a=k then d else y) ks ds) (List.zipWith (fun a x=>if a=k then v else x) ks xs)
 |[],_,_,_=>by simpa using ae.nil
 | a::ks,[],xs,r=>by
   simp only[ae]at r;subst r
   simpa using ae.nil
 | a::ks,y::ds,xs,r=>by
   simp only[ae]at r
   obtain⟨x,xs',rfl,r1,r2⟩:=r
   rw[List.zipWith_cons_cons,List.zipWith_cons_cons]
   refine ae.cons ?_ (pA rd r2)
   by_cases h:a=k
   ·rw[if_pos h,if_pos h];exact rd
   ·rw[if_neg h,if_neg h];exact r1
theorem zG(i:Nat){x:Str}{e k:Expr}{f g:Ex}{p2 p3:Pos}(hu:X.A.units+64<cLine)(hk:JE X k g)(he:JE X e f)(hN:X.N[i]? =some x:=by rfl)(hv:L2.bS X.env.scope x:=by first|exact Or.inl rfl|exact Or.inr (Or.inl rfl)|exact Or.inr (Or.inr rfl))(hd:(x==("__debug__":Str))=false:=by decide)
   (hcd:(x==("__classdict__":Str))=false:=by decide) (hs:swapsWith e (some (.Subscript (.Name x p2) k p3)) pos.line X.env=pure false:=by rfl):
   JS X (.Assign [.Subscript (.Name x p2) k p3] e pos) (iA i g f):=fun F0=>
 cb (L2.vv (by omega) (L2.pv i hN hv hd hcd) hk he hs) fun D σ H ⟨ρ,F,fl,r,e,q⟩=>by
   obtain⟨d,ed,e⟩:=ah.mp e
   obtain⟨y,ey,e⟩:=ah.mp e
   have ⟨ks,vs,z,q1,hk,e9⟩:∃ks vs z,ρ[i]? =some (.od ks vs)∧keyOf y=some z∧(if ks.length<1000 then R.ok (Fl.next (ρ.set i (.od (putL z d ks vs).1 (putL z d ks vs).2)))else .bad)=.ok fl:=by
     cases hq:ρ[i]? with
     |none=>rw[hq]at e;cases e
     | some s=>
       rw[hq]at e
       cases s with
       | od ks vs=>
         cases hz:keyOf y with
         |none=>rw[hz]at e;cases e
         |some z=>rw[hz]at e;exact⟨ks,vs,z,rfl,rfl,e⟩
       |_=>cases e
   by_cases hlt:ks.length<1000
   · rw[if_pos hlt]at e9
     cases e9
     have oi:bx ρ i:=.inr ⟨_,_,q1⟩
     obtain⟨a,xs,ea,fa,ha,hl,rs⟩:=r.rs.od i _ _ q1
     refine⟨ρ,F,d,r.rs,ed,fun v H1 s1 rv=>⟨_,ea,ρ,F,y,(r.same s1).rs,ey,fun w H2 s2 rw'=>?_⟩⟩
     have r2:=(r.same s1).same s2
     have ha2:=s2 _ _ (s1 _ _ ha)
     cases i7 hk rw'
     have rv2:=rv.mv (M:=aj X) (F':=F) (.same s2)
     have rs2:=rs.mv (M:=aj X) (F':=F) (.same (s1.trans s2))
     have hzl:(ks.zip xs).length<sizeLine:=by
       have:(sizeLine:Nat)=16777216:=sizeLine_eq
       rw[List.length_zip];omega
     refine⟨a,_,rfl,L2.ia.k ha2 hzl,?_⟩
     rw[qc z v hl]
     unfold putL at q
     by_cases hm:(ks.any fun a=>decide (a=z))=true
     · rw[if_pos hm]at q ⊢
       obtain⟨mv,r'⟩:=r2.chg (s:=.od ks (List.zipWith (fun a y=>if a=z then d else y) ks vs)) oi ea (.inr ⟨_,_,_,rfl,rfl,by rw[List.length_zipWith];omega,pA rv2 rs2⟩)
       exact q _ _ _ (Mv.trans (.same (s1.trans s2)) mv) r'
     · rw[if_neg hm]at q ⊢
       obtain⟨mv,r'⟩:=r2.chg (s:=.od (ks++[z]) (vs++[d])) oi ea (.inr ⟨_,_,_,rfl,rfl,by rw[List.length_append,List.length_append,hl];rfl,rs2.append (ae.cons rv2 ae.nil)⟩)
       exact q _ _ _ (Mv.trans (.same (s1.trans s2)) mv) r'
   ·rw[if_neg hlt]at e9;cases e9
end
noncomputable def wC:Option Key→Value→Bool
 |none,v=>isNone v
 |some k,v=>L2.fM k v
noncomputable def Gj(w:World):Option Key→Int
 |none=>reduceHash 0xFCA86420
 |some k=>L2.qr w k
theorem oq{k:Key}(h:L2.fM k .none=true):False:=by
 rcases L2.d5 h with⟨i,t,_,e⟩|⟨x,t,_,e⟩<;>cases e
noncomputable def optKind(prog:Program)(w:World):KeyKind prog w (Option Key) where
 is:=wC
 hash:=Gj w
 inj:=fun v a b ha hb=>by
   cases a with
   | none=>
     cases b with
     |none=>rfl
     |some b=>have e:=fY ha;subst e;exact(oq hb).elim
   | some a=>
     cases b with
     |none=>have e:=fY hb;subst e;exact(oq ha).elim
     |some b=>rw[(L2.bt prog w).inj v a b ha hb]
 byValue:=fun k v h=>by
   cases k with
   |none=>rw[fY h];rfl
   |some k=>exact(L2.bt prog w).byValue k v h
 pyHash:=fun {A E s k v Q} hv h=>by
   cases k with
   |none=>rw[fY hv];exact yw h
   |some k=>exact(L2.bt prog w).pyHash hv h
 eqBool:=fun {A E s a b u v Q} hu hv h=>by
   cases a with
   | none=>
     have e:=fY hu
     subst e
     cases b with
     |none=>rw[fY hv];exact Fq (by simpa using h)
     | some b=>
       have h':Q false s:=by simpa using h
       rcases L2.d5 hv with⟨i,t,_,rfl⟩|⟨x,t,_,rfl⟩
       ·exact SeqAt.EqAt.none_int i t _ _ _ _ h'
       ·exact SeqAt.EqAt.none_str x t _ _ _ _ h'
   | some a=>
     cases b with
     | none=>
       have e:=fY hv
       subst e
       have h':Q false s:=by simpa using h
       rcases L2.d5 hu with⟨i,t,_,rfl⟩|⟨x,t,_,rfl⟩
       ·exact SeqAt.EqAt.int_none i t _ _ _ _ h'
       ·exact SeqAt.EqAt.str_none x t _ _ _ _ h'
     |some b=>exact(L2.bt prog w).eqBool hu hv (by simpa using h)
 «strs»:=fun k x t v h=>by
   cases k with
   |none=>cases h
   |some k=>exact(L2.bt prog w).strs k x t v h
theorem BV{P:Program}{w:World}{es:Array DictEntry}(h:KeysOf (L2.bt P w) es):KeysOf (optKind P w) es:=fun e he=>by
 obtain⟨k,h1,h2⟩:=h e he
 exact⟨some k,h1,h2⟩
noncomputable def nh:D→D→R D
 |.str x,.str y=>.ok (.bl (!(Builtin.Str.occurrences y x 0 y.length 1).isEmpty))
 |.av,.aC _ _=>.ok (.bl false)
 |x,y=>dB x y
noncomputable def iw(i:Nat)(k:Ex):Ex:=fun ρ=>(k ρ).bind fun q=>match ρ[i]? with
 |some (.od ks vs)=>nh q (.aC ks vs)
 |_=>.bad
section
variable{X:Cx}{M:Md}{G H H':Hp}{F0 F F':Addr→Prop}{σ:L2.St}{ρ:En}{pos:Pos}{pins:List (Addr×Obj)}{s:Shared}
theorem find_none{P:Program}{w:World}{es:Array DictEntry}(h:KeysOf (L2.bt P w) es):findBy (optKind P w).is es none=none:=by
 unfold findBy
 have:es.find? (fun e=>(optKind P w).is none e.key)=none:=by
   rw[Array.find?_eq_none]
   intro e he hn
   obtain⟨k,h1,h2⟩:=h e he
   have hk:L2.fM k e.key=true:=h1
   rw[fY hn]at hk
   exact oq hk
 rw[this];rfl
theorem uv{a:Addr}{vs:List (Key×Value)}{A:Around}{E:Value→Shared→Prop}{Q:Value→Shared→Prop}(dd:s.heap.DictOf (L2.bt X.prog X.w) a vs)(hsys:(a==sysModules)=false)(h:Q (.bool false) {s with toks:=s.toks+1}):
   wpAny (model X.prog X.w) A (compareOp .In .none (.ref a)) Q E s:=by
 obtain⟨o,es,ep,ho,hex,hda,hk,hp,_⟩:=dd
 refine wpAny_in_of (knd:=optKind X.prog X.w) (k:=none) (f:=findBy (optKind X.prog X.w).is es) rfl hsys ⟨o,es,ep,ho,hex,hda,BV hk,fun _=>rfl⟩ ?_
 rw[find_none hk]
 exact h
theorem Fn{a b d:D}(h:nh a b=.ok d):∃k,d=.bl k:=by
 unfold nh at h
 split at h
 ·cases h;exact⟨_,rfl⟩
 ·cases h;exact⟨_,rfl⟩
 ·exact lU h
noncomputable def qf:R2:=fun x y H Q=>∃p kvs,y=.ref p∧Rd H p (.dK kvs)∧((x=.av∧Q (.bl false) H)∨∃k,x=L2.kV k∧Q (.bl (L2.b7 kvs k).isSome) H)
theorem DY{k:Key}{kvs:List (Key×V)}{vs:List (Key×Value)}(h:L2.KV kvs vs):(valueAt vs k).isSome=(L2.b7 kvs k).isSome:=by
 have r:=L2.KV.val h k
 cases hv:L2.b7 kvs k with
 |none=>rw[hv]at r;rw[L2.cI.none_of r];rfl
 |some v=>rw[hv]at r;obtain⟨u,hu,_⟩:=L2.cI.some_of r;rw[hu];rfl
theorem Ci:aD X (compareOp .In) qf:=by
 intro pins s σ H x y v u Q I rx ry h
 obtain⟨p,kvs,rfl,hd,h⟩:=h
 cases ry
 obtain⟨z,hsys,vs,rel,dd⟩:=L2.oW I.au hd
 rcases h with⟨rfl,q⟩|⟨k,rfl,q⟩
 · cases rx
   exact uv dd hsys ⟨.bl _,H,I.tok _,rfl,q⟩
 · refine wpAny_in_of (L2.gk rx) hsys dd.mapOf ?_
   rw[DY rel]
   exact⟨.bl _,H,I.tok _,rfl,q⟩
theorem Cf{fl:Ex}{i:Nat}{Q:VK}(h:tP M (iw i fl) σ H Q):L2.iy qf (tP M fl) (L2.pd i) σ H Q:=by
 obtain⟨ρ,F,d,r,e,q⟩:=h
 obtain⟨a,ea,e⟩:=ah.mp e
 refine⟨ρ,F,a,r,ea,fun x H1 s1 rx=>?_⟩
 have r1:=r.same s1
 split at e
 · rename_i ks vs q1
   obtain⟨p,xs,ep,fp,hp,hl,rs⟩:=r1.od i _ _ q1
   refine⟨_,ep,p,_,rfl,.inl hp,?_⟩
   cases a with
   |av=>cases e;exact .inl ⟨by simpa only[Rep] using rx,q _ _ s1 bW⟩
   | int n=>
     have e:R.ok (D.bl (bZ (.inl n) ks vs).isSome)=.ok d:=e
     cases e
     cases aU rx
     obtain⟨f1,f2⟩:=nN (M:=M) (H:=H1) (F:=F) (.inl n) hl rs
     refine .inr ⟨.inl n,rfl,?_⟩
     cases hf:bZ (.inl n) ks vs with
     |none=>rw[f1 hf];rw[hf]at q;exact q _ _ s1 bW
     |some d=>obtain⟨v,hv,_⟩:=f2 d hf;rw[hv];rw[hf]at q;exact q _ _ s1 bW
   | str n=>
     have e:R.ok (D.bl (bZ (.inr n) ks vs).isSome)=.ok d:=e
     cases e
     cases dG rx
     obtain⟨f1,f2⟩:=nN (M:=M) (H:=H1) (F:=F) (.inr n) hl rs
     refine .inr ⟨.inr n,rfl,?_⟩
     cases hf:bZ (.inr n) ks vs with
     |none=>rw[f1 hf];rw[hf]at q;exact q _ _ s1 bW
     |some d=>obtain⟨v,hv,_⟩:=f2 d hf;rw[hv];rw[hf]at q;exact q _ _ s1 bW
   |_=>cases e
 ·cases e
theorem Em{i:Nat}{fl:Ex}{d:D}(h:iw i fl ρ=.ok d):∃k,d=.bl k:=by
 obtain⟨a,ea,h⟩:=ah.mp h
 split at h
 ·exact Fn h
 ·cases h
theorem yu(i:Nat){x:Str}{l:Expr}{fl:Ex}{p2:Pos}(hl:JE X l fl)(hN:X.N[i]? =some x:=by rfl)(hv:L2.bS X.env.scope x:=by first|exact Or.inl rfl|exact Or.inr (Or.inl rfl)|exact Or.inr (Or.inr rfl))(hd:(x==("__debug__":Str))=false:=by decide)
   (hcd:(x==("__classdict__":Str))=false:=by decide):JT X (.Compare l [.In] [.Name x p2] pos) (tV (iw i fl)):=
 jr (L2.sX Ci hl (L2.pv i hN hv hd hcd) (by rfl)) fun σ H Q ⟨ρ,F,t,hr,e,q⟩=>by
   obtain⟨d,ed,e⟩:=ah.mp e
   refine Cf ⟨ρ,F,d,hr,ed,fun v H1 s1 rv=>?_⟩
   obtain⟨k,rfl⟩:=Em ed
   cases cS rv
   cases e
   exact⟨_,rfl,q H1 s1⟩
end
section
variable{X:Cx}{M:Md}{G H H':Hp}{F0 F F':Addr→Prop}{σ:L2.St}{ρ:En}{pos:Pos}{pins:List (Addr×Obj)}{s:Shared}
end
section
variable{X:Cx}{M:Md}{G H H':Hp}{F0 F F':Addr→Prop}{σ:L2.St}{ρ:En}{pos:Pos}{pins:List (Addr×Obj)}{s:Shared}
end
section
variable{X:Cx}{M:Md}{G H H':Hp}{F0 F F':Addr→Prop}{σ:L2.St}{ρ:En}{pos:Pos}{pins:List (Addr×Obj)}{s:Shared}
end
theorem Fz:bootBuiltins "sorted"=some (.builtin "sorted"):=by decide+kernel
section
variable{X:Cx}{M:Md}{G H H':Hp}{F0 F F':Addr→Prop}{σ:L2.St}{ρ:En}{pos:Pos}{pins:List (Addr×Obj)}{s:Shared}
end
section
variable{X:Cx}{M:Md}{G H H':Hp}{F0 F F':Addr→Prop}{σ:L2.St}{ρ:En}{pos:Pos}{pins:List (Addr×Obj)}{s:Shared}
end
noncomputable def js(t:aG)(body:Sm):Nat→En→R Fl
 |0,_=>.bad
 | n+1,ρ=>(t ρ).bind fun b=>if b=true then(body ρ).bind fun f=>match f with
   |.next ρ2=>js t body n ρ2
   |.cont ρ2=>js t body n ρ2
   |.brk ρ2=>.ok (.next ρ2)
   |.ret d=>.ok (.ret d)
   |.cq d=>.ok (.cq d)else .ok (.next ρ)
noncomputable def i4(n:Nat)(t:aG)(body:Sm):Sm:=js t body n
noncomputable def iu(j i:Nat):Sm:=fun ρ=>match ρ[i]? with
 | some (.ol xs)=>match xs[xs.length - 1]? with
   |some y=>.ok (.next ((ρ.set i (.ol xs.dropLast)).set j (.sh y)))
   |none=>.bad
 |_=>.bad
noncomputable def cU:Slot→Bool
 |.un=>true
 |.sh d=>bA d
 |_=>false
noncomputable def j9(i:Nat)(f:Sm):Sm:=fun ρ=>match ρ[i]? with
 | some (.ol xs)=>(f (ρ.set i (.sh (.lst xs)))).bind fun fl=>match fl with
   |.next ρ2=>if(ρ2.set i .un).all cU=true then .ok (.next (ρ2.set i (.ol xs)))else .bad
   |.ret d=>if bA d=true then .ok (.ret d)else .bad
   |_=>.bad
 |_=>.bad
noncomputable def jH(i j c:Int):List D:=(List.range (Builtin.Range.rangeSize i j c).toNat).map fun(k:Nat)=>.int (i+(k:Int)*c)
noncomputable def nu(a b c:Ex):br:=fun ρ=>(a ρ).bind fun x=>(b ρ).bind fun y=>(c ρ).bind fun z=>match x,y,z with
 |.int i,.int j,.int k=>if(inR i&&inR j)=true∧0<k∧k<1000 then .ok (jH i j k)else .bad
 |_,_,_=>.bad
section
variable{X:Cx}{M:Md}{G H H':Hp}{F0 F F':Addr→Prop}{σ:L2.St}{ρ:En}{pos:Pos}{pins:List (Addr×Obj)}{s:Shared}
theorem Gq(n:Nat){c:Expr}{body:List Stmt}{t:aG}{f:Sm}(hp:PassesOwn (model X.prog X.w) X.A X.env X.xe)(hc:JT X c t)(hb:cT X body f):JS X (.While c body [] pos) (i4 n t f):=fun F0=>
 cb (L2.vm hp hc (hb F0)) fun D σ H ⟨ρ,F,fl,r,e,q⟩=>by
   refine⟨fun m σ1 H1=>∃ρ1 F1,Mv F H F1 H1∧aP (aj X) X.cY F0 H1 F1 σ1 ρ1∧js t f m ρ1=.ok fl,⟨n,ρ,F,Mv.refl,r,e⟩,?_⟩
   rintro m σ1 H1 ⟨ρ1,F1,m1,r1,e1⟩
   cases m with
   |zero=>cases e1
   | succ m=>
     unfold js at e1
     obtain⟨b,eb,e1⟩:=ah.mp e1
     refine⟨ρ1,F1,b,r1.rs,eb,fun H2 s2=>?_⟩
     have m2:Mv F H F1 H2:=m1.trans (.same s2)
     have r2:=r1.same s2
     cases b with
     | false=>
       cases e1
       exact q _ _ _ m2 r2
     | true=>
       obtain⟨f1,ef,e1⟩:=ah.mp e1
       refine⟨fun σ3 H3=>∃ρ3 F3,Mv F H F3 H3∧aP (aj X) X.cY F0 H3 F3 σ3 ρ3∧js t f m ρ3=.ok fl,fun σ3 H3 h3=>⟨m,Nat.lt_succ_self m,h3⟩,ρ1,F1,f1,r2,ef,?_⟩
       cases f1 with
       |next ρ2=>exact fun σ3 H3 F3 m3 r3=>⟨ρ2,F3,m2.trans m3,r3,e1⟩
       |cont ρ2=>exact fun σ3 H3 F3 m3 r3=>⟨ρ2,F3,m2.trans m3,r3,e1⟩
       |brk ρ2=>cases e1;exact fun σ3 H3 F3 m3 r3=>q σ3 H3 F3 (m2.trans m3) r3
       |ret d=>cases e1;exact fun v H3 F3 m3 a b rv=>q v H3 F3 (m2.trans m3) a b rv
       |cq d=>cases e1;exact fun p H3 F3 xs ds e m3 a b c rv=>q p H3 F3 xs ds e (m2.trans m3) a b c rv
theorem ae.dropLast:∀ {ds:List D} {xs:List V},ae M H F ds xs→ae M H F ds.dropLast xs.dropLast
 |[],_,h=>by simp only[ae]at h;subst h;exact ae.nil
 | [d],_,h=>by
   simp only[ae]at h
   obtain⟨x,r,rfl,_,rfl⟩:=h
   exact ae.nil
 | d::d2::ds,_,h=>by
   have h0:=h
   simp only[ae]at h
   obtain⟨x,r,rfl,h1,x2,r2,rfl,h3⟩:=h
   show ae M H F (d::(d2::ds).dropLast) (x::(x2::r2).dropLast)
   exact ae.cons h1 (ae.dropLast (ae.cons h3.1 h3.2))
theorem Ec(j i:Nat){x y:Str}{p2 p3 apos cpos:Pos}(nd:X.N.Nodup)(hj:X.N[j]? =some y)(hN:X.N[i]? =some x)(hx:L2.Loc X.env.scope y)(hv:L2.bS X.env.scope x)(hf:X.fn y=true∨X.env.scope.names.lookup y=some .local)(hd:(x==("__debug__":Str))=false)
   (hcd:(x==("__classdict__":Str))=false) (hbase:attributeBase (.Name x p2) "pop" X.env (eval (.Name x p2) X.env)=eval (.Name x p2) X.env)
   (hline:(apos.endLine==cpos.line)=true) (hsw:swapsWith (.Call (.Attribute (.Name x p2) "pop" apos) [] [] cpos) (some (.Name y p3)) pos.line X.env=pure false):
   JS X (.Assign [.Name y p3] (.Call (.Attribute (.Name x p2) "pop" apos) [] [] cpos) pos) (iu j i):=fun F0=>
 cb (L2.mH nd hj hx (L2.Dv PySem.F.plainAttrs_list PySem.F.slot_list_pop PySem.F.type_list_pop L2.vi (L2.pv i hN hv hd hcd) hbase hline) hsw hf) fun D σ H ⟨ρ,F,fl,r,e,q⟩=>by
   unfold iu at e
   split at e
   · rename_i xs q1
     split at e
     · rename_i y hy
       cases e
       have oi:bx ρ i:=.inl ⟨_,q1⟩
       obtain⟨a,ys,ea,fa,ha,rs⟩:=r.rs.ol i _ q1
       obtain⟨v,ev,rv⟩:=rs.get hy
       refine⟨_,ea,.inl ⟨rfl,ys,aN.of ha⟩,a,ys,v,rfl,rfl,ha,by rw[←rs.length];exact ev,?_⟩
       obtain⟨mv,r'⟩:=r.chg (s:=.ol xs.dropLast) oi ea (.inl ⟨_,ys.dropLast,rfl,rfl,rs.dropLast⟩)
       exact q _ _ _ mv (r'.iF (rv.mv mv))
     ·cases e
   ·cases e
theorem zv{a b:Expr}{fa fb:Ex}(ha:JE X a fa)(hb:JE X b fb):JF X (.BinOp a .Mult b pos) (e2 fO fa fb):=
 bj (L2.rT lx ha hb) fun σ H Q ⟨ρ,F,ds,hr,e,q⟩=>by
   obtain⟨x,ex,e⟩:=ah.mp e
   obtain⟨y,ey,e⟩:=ah.mp e
   refine⟨ρ,F,x,hr,ex,fun v H1 s1 rv=>⟨ρ,F,y,hr.same s1,ey,fun w H2 s2 rw'=>?_⟩⟩
   have rv':=rv.mv (M:=aj X) (F':=F) (.same s2)
   unfold fO at e
   split at e
   · split at e
     · rename_i h
       cases e
       simp only[Rep]at rv'
       obtain⟨l,xs,rfl,h1,r1⟩:=rv'
       exact⟨F,l,_,xs,rfl,aU rw',h1,h.1,h.2.1,by rw[←r1.length];exact h.2.2,fun p hp=>q p H2 _ (s1.trans s2) hp (r1.lz _)⟩
     ·cases e
   ·cases e
noncomputable def kM(M:Md)(G:Hp)(F0:Addr→Prop)(H:Hp)(F:Addr→Prop)(i:Nat)(v:Option (Option V))(D:Ends):Fl→Prop
 |.next ρ'=>∀σ' H' F',Mv F H F' H'→aP M G F0 H' F' σ' ρ'→σ'[i]? =v→D.nx σ' H'
 |.brk ρ'=>∀σ' H' F',Mv F H F' H'→aP M G F0 H' F' σ' ρ'→σ'[i]? =v→D.bk σ' H'
 |.cont ρ'=>∀σ' H' F',Mv F H F' H'→aP M G F0 H' F' σ' ρ'→σ'[i]? =v→D.ct σ' H'
 |.ret d=>∀v H' F',Mv F H F' H'→af G H'→(∀a,F0 a→F' a)→Rep M H' F' d v→D.rt v H'
 |.cq _=>False
noncomputable def qR(M:Md)(G:Hp)(F0:Addr→Prop)(i:Nat)(f:Sm):TS:=fun D σ H=>∃ρ F fl,aP M G F0 H F σ ρ∧f ρ=.ok fl∧kM M G F0 H F i σ[i]? D fl
noncomputable abbrev JK(X:Cx)(i:Nat)(st:Stmt)(f:Sm):Prop:=∀F0,PS X st (qR (aj X) X.cY F0 i f)
noncomputable abbrev eK(X:Cx)(i:Nat)(sts:List Stmt)(f:Sm):Prop:=∀F0,bJ X sts (qR (aj X) X.cY F0 i f)
theorem kM.mv{i:Nat}{v:Option (Option V)}{DE:Ends}(m:Mv F H F' H'):∀ {fl:Fl},kM M G F0 H F i v DE fl→kM M G F0 H' F' i v DE fl
 |.next _,h=>fun σ' H2 F2 m2 r=>h σ' H2 F2 (m.trans m2) r
 |.brk _,h=>fun σ' H2 F2 m2 r=>h σ' H2 F2 (m.trans m2) r
 |.cont _,h=>fun σ' H2 F2 m2 r=>h σ' H2 F2 (m.trans m2) r
 |.ret _,h=>fun σ' H2 F2 m2 a b r=>h σ' H2 F2 (m.trans m2) a b r
 |.cq _,h=>h
theorem rX{i:Nat}:eK X i [] ba:=fun F0=>lN L2.p9 fun D σ H ⟨ρ,F,fl,r,e,q⟩=>by
 cases e
 exact q σ H F Mv.refl r rfl
theorem vK{i:Nat}{st:Stmt}{f:Sm}(h:JK X i st f):eK X i [st] f:=fun F0=>L2.uj (h F0)
theorem AA{i:Nat}{st:Stmt}{rest:List Stmt}{f g:Sm}(h1:JK X i st f)(h2:eK X i rest g):eK X i (st::rest) (oY f g):=fun F0=>
 lN (L2.qV (h1 F0) (h2 F0)) fun D σ H ⟨ρ,F,fl,r,e,q⟩=>by
   obtain⟨f1,e1,e⟩:=ah.mp e
   refine⟨ρ,F,f1,r,e1,?_⟩
   cases f1 with
   |next ρ1=>exact fun σ1 H1 F1 m1 r1 k1=>⟨ρ1,F1,fl,r1,e,by rw[k1];exact q.mv m1⟩
   |ret d=>cases e;exact q
   |brk d=>cases e;exact q
   |cont d=>cases e;exact q
   |cq d=>cases e;exact q
theorem CU{i:Nat}{st:Stmt}{rest:List Stmt}{f:Sm}{fs:List Sm}(h1:JK X i st f)(h2:eK X i rest (aJ fs)):eK X i (st::rest) (aJ (f::fs)):=AA h1 h2
theorem Fg{i:Nat}:eK X i [] (aJ []):=rX
theorem yM{i:Nat}{c:Expr}{a b:List Stmt}{fc:aG}{fa fb:Sm}(hc:JT X c fc)(ha:eK X i a fa)(hb:eK X i b fb):JK X i (.If c a b pos) (aZ fc fa fb):=fun F0=>
 cb (L2.rF hc (ha F0) (hb F0)) fun D σ H ⟨ρ,F,fl,r,e,q⟩=>by
   obtain⟨t,et,e⟩:=ah.mp e
   refine⟨ρ,F,t,r.rs,et,fun H1 s1=>?_⟩
   split at e
   ·rename_i h;rw[if_pos h];exact⟨ρ,F,fl,r.same s1,e,q.mv (.same s1)⟩
   ·rename_i h;rw[if_neg h];exact⟨ρ,F,fl,r.same s1,e,q.mv (.same s1)⟩
theorem BN{i:Nat}{a:Expr}{fa:Ex}(ha:JE X a fa):JK X i (.Return (some a) pos) (az fa):=fun F0=>
 cb (L2.kL ha) fun D σ H ⟨ρ,F,fl,r,e,q⟩=>by
   obtain⟨d,ed,e⟩:=ah.mp e
   cases e
   exact⟨ρ,F,d,r.rs,ed,fun v H1 s1 rv=>q v H1 F (.same s1) (r.sm.trans s1) r.sub rv⟩
theorem FD(i j:Nat){x:Str}{iter:Expr}{body:List Stmt}{it:br}{f:Sm}{p2:Pos}(hp:PassesOwn (model X.prog X.w) X.A X.env X.xe)(hc:X.calm=true)(hi:JI X (.Name x p2) iter it)(hN:X.N.Nodup)(hj:X.N[j]? =some x)(hx:L2.Loc X.env.scope x)(hf:X.fn x=true∨X.env.scope.names.lookup x=some .local)(hij:i≠j)
   (hb:eK X i body f) (hs:∀x,foldedSetIterable iter X.env x=pure x):JK X i (.For (.Name x p2) iter body [] pos) (cA it (aB j) f):=fun F0=>
 cb (L2.tN hp hc hi (L2.tZ hN hj hx hf) (hb F0) hs) fun D σ0 H ⟨ρ,F,fl,r,e,q⟩=>by
   obtain⟨ds,ed,e⟩:=ah.mp e
   refine⟨ρ,F,ds,r.rs,ed,fun J H1 s1 gv=>?_⟩
   refine⟨fun k m σ H2=>m=ds.length - k∧k≤ds.length∧σ[i]? =σ0[i]? ∧∃ρ F2,Mv F H1 F2 H2∧aP (aj X) X.cY F0 H2 F2 σ ρ∧forL (aB j) f (ds.drop k) ρ=.ok fl,⟨ds.length,by simp,Nat.zero_le _,rfl,ρ,F,Mv.refl,r.same s1,e⟩,?_⟩
   rintro k m σ H2 ⟨rfl,hk,hσ,ρ,F2,mv,r,e⟩
   have q1:=q.mv (.same s1)
   obtain⟨g1,g2⟩:=gv H2 F2 mv r.rs.aM
   by_cases hlt:k<ds.length
   · refine .inr ⟨(g1 k ds[k] (by simp[hlt])).1,fun σ' H'=>k+1≤ds.length∧σ'[i]? =σ0[i]? ∧∃ρ F3,Mv F H1 F3 H'∧aP (aj X) X.cY F0 H' F3 σ' ρ∧forL (aB j) f (ds.drop (k+1)) ρ=.ok fl,fun σ' H' p'=>⟨ds.length - (k+1),by omega,rfl,p'.1,p'.2⟩,fun x H' y=>?_⟩
     obtain⟨s2,rx⟩:=(g1 k ds[k] (by simp[hlt])).2 x H' y
     rw[List.drop_eq_getElem_cons hlt]at e
     unfold forL at e
     obtain⟨ρ1,e1,e⟩:=ah.mp e
     obtain⟨f1,e2,e⟩:=ah.mp e
     cases e1
     have mv1:Mv F H1 F2 H':=mv.trans (.same s2)
     have hσ2:(σ.set j (some x))[i]? =σ0[i]? :=by rw[List.getElem?_set_ne (Ne.symm hij)];exact hσ
     refine⟨_,F2,f1,(r.same s2).iF rx,e2,?_⟩
     rw[hσ2]
     cases f1 with
     |next ρ2=>exact fun σ3 H3 F3 m3 r3 k3=>⟨hlt,k3,ρ2,F3,mv1.trans m3,r3,e⟩
     |cont ρ2=>exact fun σ3 H3 F3 m3 r3 k3=>⟨hlt,k3,ρ2,F3,mv1.trans m3,r3,e⟩
     |brk ρ2=>cases e;exact fun σ3 H3 F3 m3 r3 k3=>q1 σ3 H3 F3 (mv1.trans m3) r3 k3
     |ret d=>cases e;exact fun v H3 F3 m3 a b rv=>q1 v H3 F3 (mv1.trans m3) a b rv
     |cq d=>cases e;exact q1
   · have ek:k=ds.length:=by omega
     subst ek
     rw[List.drop_length]at e
     cases e
     exact .inl ⟨g2,q1 σ H2 F2 mv r hσ⟩
theorem m6{ρ:En}{i j:Nat}{s:Slot}(h:(ρ.set i .un).all cU=true)(hij:i≠j)(e:ρ[j]? =some s):cU s=true:=by
 rw[List.all_eq_true]at h
 refine h s ?_
 have:(ρ.set i .un)[j]? =some s:=by rw[List.getElem?_set_ne hij];exact e
 exact List.mem_of_getElem? this
theorem kb{ρ:En}{i j:Nat}(h:(ρ.set i .un).all cU=true)(hij:i≠j):¬bx ρ j:=by
 rintro(⟨ds,e⟩|⟨ks,ds,e⟩)<;>exact absurd (m6 h hij e) (by simp[cU])
theorem A3 (i:Nat) {st:Stmt} {f:Sm} (h:JK X i st f):JS X st (j9 i f):=fun F0=>
 cb (h F0) fun D σ H ⟨ρ,F,fl,r,e,q⟩=>by
   unfold j9 at e
   split at e
   · rename_i xs q1
     obtain⟨f1,ef,e⟩:=ah.mp e
     have oi:bx ρ i:=.inl ⟨_,q1⟩
     obtain⟨a,ys,ea,fa,ha,rs⟩:=r.rs.ol i _ q1
     have hG:=r.own i a oi ea
     obtain⟨F',hF,mv,r'⟩:=r.sr oi q1 ea ⟨_,rfl,rfl⟩
     have hna:¬F' a:=by rw[hF];exact fun h=>h.2 rfl
     refine⟨_,F',f1,r',ef,?_⟩
     have out:∀ {H3:Hp} {F3:Addr→Prop},Mv F' H F3 H3→Out (fun b=>F3 b∨b=a) F3 H3:=fun {H3 F3} m3 b hb=>by
       rcases hb with hb|rfl
       ·exact .inl hb
       ·exact .inr ⟨_,(m3 _ _ hna ha).2,.inl ⟨_,rfl⟩⟩
     have mv3:∀ {H3:Hp} {F3:Addr→Prop},Mv F' H F3 H3→Mv F H (fun b=>F3 b∨b=a) H3:=fun {H3 F3} m3 b o n e=>by
       have nb:¬F' b:=by rw[hF];exact fun h=>n h.1
       obtain⟨n3,e3⟩:=m3 b o nb e
       exact⟨fun h=>h.elim n3 fun z=>by subst z;exact n fa,e3⟩
     cases f1 with
     | next ρ2=>
       intro σ3 H3 F3 m3 r3 k3
       replace e:(if(ρ2.set i .un).all cU=true then R.ok (Fl.next (ρ2.set i (.ol xs)))else R.bad)=R.ok fl:=e
       by_cases hn:(ρ2.set i .un).all cU=true
       · rw[if_pos hn]at e
         cases e
         rw[ea]at k3
         obtain⟨n3,h3⟩:=m3 _ _ hna ha
         have nonon:∀(j:Nat) xss,(ρ2.set i (.ol xs))[j]? ≠some (.on xss):=fun j xss ej=>by
           rcases get_set ej with⟨_,z,_⟩|⟨hne,ej⟩
           ·cases z
           ·exact absurd (m6 hn hne ej) (by simp[cU])
         have sub3:∀b,F0 b→F3 b∨b=a:=fun b f=>.inl (r3.sub b f)
         refine q σ3 H3 (fun b=>F3 b∨b=a) (mv3 m3) ⟨⟨by rw[List.length_set];exact r3.rs.len,fun b hb=>?_,fun j d ej=>?_,fun j ds ej=>?_,fun j ks ds ej=>?_,fun j k b oj ok ej ek=>?_,dN.no nonon⟩,r3.sm,sub3,r3.d7,fun j b oj ej=>?_,fun j xss b ej=>absurd ej (nonon j xss)⟩
         · rcases hb with hb|rfl
           ·exact r3.rs.aM b hb
           ·exact⟨_,h3⟩
         · rcases get_set ej with⟨_,z,_⟩|⟨hne,ej⟩
           ·cases z
           · obtain⟨v,ev,rv⟩:=r3.rs.sh j d ej
             exact⟨v,ev,Rep.bA (out m3) (m6 hn hne ej) rv⟩
         · rcases get_set ej with⟨rfl,z,_⟩|⟨hne,ej⟩
           · cases z
             refine⟨a,ys,k3,.inr rfl,h3,rs.mv (mv3 m3)⟩
           ·exact absurd (.inl ⟨_,ej⟩) (kb hn hne)
         · rcases get_set ej with⟨rfl,z,_⟩|⟨hne,ej⟩
           ·cases z
           ·exact absurd (.inr ⟨_,_,ej⟩) (kb hn hne)
         · rcases fu oj with rfl|⟨nj,oj⟩
           · rcases fu ok with rfl|⟨nk,ok⟩
             ·rfl
             ·exact absurd ok (kb hn nk)
           ·exact absurd oj (kb hn nj)
         · rcases fu oj with rfl|⟨nj,oj⟩
           ·rw[k3]at ej;cases ej;exact hG
           ·exact absurd oj (kb hn nj)
       ·rw[if_neg hn]at e;cases e
     | ret d=>
       intro v H3 F3 m3 sm3 sub3 rv
       replace e:(if bA d=true then R.ok (Fl.ret d)else R.bad)=R.ok fl:=e
       by_cases hn:bA d=true
       · rw[if_pos hn]at e
         cases e
         exact q v H3 _ (mv3 m3) sm3 (fun b f=>.inl (sub3 b f)) (Rep.bA (out m3) hn rv)
       ·rw[if_neg hn]at e;cases e
     |brk _=>cases e
     |cont _=>cases e
     |cq _=>cases e
   ·cases e
noncomputable def A1(lo c:Int)(n:Nat):It:=⟨fun i _=>i<n,fun i H x H'=>H'=H∧x=.int (lo+i*c),fun i _=>n≤i⟩
theorem vY{P:Program}{w:World}{K:PySem.W.Frag}{tg:Expr}(it:Addr)(lo c:Int)(n:Nat):Turn P w K tg (A1 lo c n) [it] it (fun i h=>IsRangeIter h it (lo+(i:Nat)*c) ((n:Int) - (i:Nat)) c) where
 mem:=by simp
 obj:=fun i h st b hb=>by
   have e:b=it:=by simpa using hb
   subst e
   exact⟨_,st,fun v z=>by
     have z':Data.fields _=Data.cell v:=z
     cases z'⟩
 keep:=fun i h h' st k=>k it (by simp) _ st
 item:=by
   intro X hP hw hK hc i pins s σ H E I hf st hg
   subst hP hw hK
   obtain⟨f0,f1,f2,f3,f4,f5⟩:=hf it (by simp)
   have W:=Walks.range (prog:=X.prog) (w:=X.w) (I.ok.hd hc) it lo c n
   refine W.item i s _ _ hg st fun v h' tk hv st' kk=>?_
   obtain⟨t,rfl⟩:=hv
   have I1:Inv X pins σ H {s with heap:=h',toks:=tk}:=I.turned (fun b o hb e=>kk b o (by simpa using hb) e) f0 f1 f3 f4 f5
   exact⟨_,rfl,L2.iZ (s:={s with heap:=h',toks:=tk}) (n:="range_iterator") st' rfl rfl (by decide) ⟨.int (lo+i*c),H,I1,⟨t,rfl⟩,⟨rfl,rfl⟩,st',fun b hb=>(hf b hb).1⟩⟩
 done:=by
   intro X hP hw hK hc i pins s σ H E I hf st hg
   subst hP hw hK
   obtain⟨f0,f1,f2,f3,f4,f5⟩:=hf it (by simp)
   exact wpAny_pyNext_range_end (I.ok.hd hc) st (by have:n≤i:=hg;omega) fun h' eb=>⟨rfl,I.turned (t':=s.toks) (fun b o hb e=>eb b o hb e) f0 f1 f3 f4 f5⟩
 self:=fun _ _ _ _ _ st h=>wpAny_pyIter_rangeiter st h
theorem uU{i j c:Int}(hc:0<c):0≤Builtin.Range.rangeSize i j c∧Builtin.Range.rangeSize i j c≤max (j - i) 0:=by
 unfold Builtin.Range.rangeSize
 rw[if_pos hc]
 split
 · have h0:0≤(j - i - 1) / c:=Int.ediv_nonneg (by omega) (by omega)
   have h1:(j - i - 1) / c≤j - i - 1:=Int.ediv_le_self _ (by omega)
   omega
 ·omega
theorem zx{tg a b c:Expr}{fa fb fc:Ex}{p:Pos}(hg:L2.Gl X "range")(hm:X.mg "range"=none)(ha:JE X a fa)(hb:JE X b fb)(hc:JE X c fc)(hs:starEach [a,b,c] X.env=(false,eval a X.env)::starEach [b,c] X.env)(hs2:starEach [b,c] X.env=(false,eval b X.env)::starEach [c] X.env)(hs3:starEach [c] X.env=(false,eval c X.env)::starEach [] X.env):
   JI X tg (.Call (.Name "range" p) [a,b,c] [] pos) (nu fa fb fc):=by
 intro pins s σ H Rr I ⟨ρ,F,ds,r,e,q⟩
 obtain⟨d,ed,e⟩:=ah.mp e
 obtain⟨d2,ed2,e⟩:=ah.mp e
 obtain⟨d3,ed3,e⟩:=ah.mp e
 refine PyProof.Rows.Call_ (L2.eM I hg hm PyProof.Rows.boot_range (PyProof.Rows.callWith_type1 (L2.ar ((cy ha (cy hb (cy hc dF hs3) hs2) hs) pos pins s σ H _ I ⟨ρ,F,[d,d2,d3],r,by show(fa ρ).bind _=_;rw[ed];show((fb ρ).bind _).bind _=_;rw[ed2];show(((fc ρ).bind _).bind _).bind _=_;rw[ed3];rfl,fun vs H1 s1 rv=>(⟨s1,rv⟩:af H H1∧ae (aj X) H1 F [d,d2,d3] vs)⟩) fun us s1 ⟨vs,H1,I1,r1,sm1,rv⟩=>?_) hs (by rw[hs2,hs3];rfl)))
 have⟨i,j,k,d1',d2',d3',hj,e9⟩:∃i j k,d=.int i∧d2=.int j∧d3=.int k∧((inR i&&inR j)=true∧0<k∧k<1000)∧ds=jH i j k:=by
   split at e
   · split at e
     ·rename_i h;cases e;exact⟨_,_,_,rfl,rfl,rfl,h,rfl⟩
     ·cases e
   ·cases e
 subst d1' d2' d3' e9
 obtain⟨hj,hk0,hk1⟩:=hj
 rw[Bool.and_eq_true]at hj
 have h1:=pC hj.1
 have h2:=pC hj.2
 simp only[ae]at rv
 obtain⟨x,_,rfl,rx,y,_,rfl,ry,z,_,rfl,rz,rfl⟩:=rv
 cases aU rx
 cases aU ry
 cases aU rz
 cases r1 with
 |cons q1 r1=>
 cases r1 with
 |cons q2 r1=>
 cases r1 with
 |cons q3 r1=>
 cases r1
 obtain⟨t,rfl⟩:=q1
 obtain⟨t2,rfl⟩:=q2
 obtain⟨t3,rfl⟩:=q3
 obtain⟨z1,z2⟩:=uU (i:=i) (j:=j) hk0
 refine call_range_3 (by omega) ?_ (Or.inl (PyProof.noPylong_small (by omega)))
 have hsmall:Builtin.Range.small i j k=true:=by
   unfold Builtin.Range.small
   simp only[Builtin.Range.rangeFitsLong,Bool.and_eq_true,Bool.or_eq_true,decide_eq_true_eq,beq_iff_eq,if_pos (show k>0 from hk0)]
   omega
 refine wpAny_pyIter_range (IsRange.new ..) hsmall ?_
 have I2:Inv X pins σ H1 {s1 with heap:=s1.heap.push {cls:=.type "range",data:=.fields #[.int i t,.int j t2,.int k t3]},toks:=s1.toks}:=I1.kept fun b o e=>Heap.get?_push_of_some _ e
 refine⟨(s1.heap.push {cls:=.type "range",data:=.fields #[.int i t,.int j t2,.int k t3]}).objs.size,[(s1.heap.push {cls:=.type "range",data:=.fields #[.int i t,.int j t2,.int k t3]}).objs.size],_,_,H1,rfl,
   I2.kept (t':=s1.toks) fun b o e=>Heap.get?_push_of_some _ e,vY _ i k (Builtin.Range.rangeSize i j k).toNat,?_,fun b hb=>?_,q _ _ sm1 ?_⟩
 · have e1:i+((0:Nat):Int)*k=i:=by simp
   have e2:(((Builtin.Range.rangeSize i j k).toNat:Nat):Int) - ((0:Nat):Int)=Builtin.Range.rangeSize i j k:=by omega
   show IsRangeIter _ _ (i+((0:Nat):Int)*k) ((((Builtin.Range.rangeSize i j k).toNat:Nat):Int) - ((0:Nat):Int)) k
   rw[e1,e2]
   exact Heap.get?_push_size _ rfl
 · have e:b=(s1.heap.push {cls:=.type "range",data:=.fields #[.int i t,.int j t2,.int k t3]}).objs.size:=by simpa using hb
   subst e
   exact I2.gA (Nat.le_refl _) (I2.au.fresh (Nat.le_refl _))
 · intro H' F' mv tr
   refine⟨fun n d hd=>?_,?_⟩
   · unfold jH at hd
     rw[List.getElem?_map]at hd
     cases e:(List.range (Builtin.Range.rangeSize i j k).toNat)[n]? with
     |none=>rw[e]at hd;cases hd
     | some m=>
       rw[e]at hd
       obtain⟨hlt,hm⟩:=List.getElem?_eq_some_iff.mp e
       simp at hm hlt hd
       subst hm hd
       refine⟨show n<(Builtin.Range.rangeSize i j k).toNat by omega,fun y H2 hy=>?_⟩
       obtain⟨rfl,rfl⟩:=hy
       exact⟨af.refl _,cv⟩
   · show(Builtin.Range.rangeSize i j k).toNat≤(jH i j k).length
     unfold jH;simp
end
end PL
namespace PySem
theorem FL:typeLookup (.type "list") "keys"=pure none:=am_miss_of_fast (by decide+kernel)
theorem Bc{prog:Program}{w:World}{A:Around}{E:Value→Shared→Prop}{s:Shared}{a:Addr}{o:Obj}{xs:Array Value}{k:Nat}{Q:Option Value→Shared→Prop}
   (hx:s.heap.get? a=some o) (hc:o.cls=.type "list") (hdat:o.data=.seq xs k) (hd:o.dict=none) (hA:A.handled=none)
   (h:∀h' tk,(∀b ob,s.heap.get? b=some ob→h'.get? b=some ob)→Q none {s with heap:=h',toks:=tk}):
   wpAny (model prog w) A (getAttr? (.ref a) "keys") Q E s:=by
 obtain⟨c,aC,dat,sl⟩:=o
 simp only at hc hdat hd
 subst hc hdat hd
 obtain⟨hp,g,d,tk,os⟩:=s
 have hT:∀tk',(⟨hp,g,d,tk',os⟩:Shared).TypeIs (.ref a) "list":=fun _=>⟨_,hx,rfl⟩
 have f1:=sub_AttributeError
 have f3:=F.slot_list_getattribute.lookup
 have f4:=F.slot_list_getattribute.bind (.ref a)
 have f5:=am_list_getattr_none
 unfold getAttr? getAttrBy? getAttrBy
 repeat (any_goals (first|assumption|exact hT _|((with_reducible show wpAny _ _ (call (Value.builtin "list.__getattribute__") _ _) _ _ _);refine call_meets F.slot_list_getattribute (hT _) am_entry_list_getattribute (F.args_list_getattribute_2 _ _) (meets_getattribute_miss_list a xs k sl "keys" _ FL (by decide+kernel) (by size_fits)) ⟨hx,hA,fun h' tk' e hx'=>?_⟩)|wp_step))
 obtain⟨t',u',he⟩:=hx'.there
 show wpAny _ _ (getattributeRaised _ _ _ _ _ _ _) _ _ _
 unfold getattributeRaised
 repeat (any_goals (first|assumption|wp_step))
 exact h _ _ hx'.keeps
theorem kZ:plainId "dict.update.loop"=true:=by decide+kernel
theorem qi:entryFor table "dict.update.loop"=some Builtin.«dict.update.loop»:=entryFor_of_tree (by kernel_rfl)
section
variable{prog:Program}{w:World}{A:Around}{R:Result→Shared→Prop}{I ax:Addr}
noncomputable def m7{K:Type} [DecidableEq K] (knd:KeyKind prog w K) (h:Heap) (v:Value) (p:K×Value):Prop:=∃a key,v=.ref a∧PyProof.Rows.IsTup h a #[key,p.2]∧knd.is p.1 key=true
theorem DS{K:Type} [DecidableEq K] {knd:KeyKind prog w K} (hh:A.in1.handled=none) {d:Addr} {items:Array Value} {res:Value} (hne:ax≠I) (hdI:d≠I) (hdx:d≠ax):∀(more:List (K×Value)) (i:Nat) (z:Int) (kvs:List (K×Value)) (s:Shared),items.size - i=more.length→i≤items.size→
   s.heap.IsListIter I ax i→s.heap.IsList ax items→s.heap.DictOf knd d kvs→kvs.length+more.length≤sizeLine→(∀(j:Nat) p,more[j]? =some p→∃v,items[i+j]? =some v∧m7 knd s.heap v p)→
   (∀h' tk,(∀b o,b≠I→b≠d→s.heap.get? b=some o→h'.get? b=some o)→h'.DictOf knd d (merged kvs more)→R (.ok (.ret res)) {s with heap:=h',toks:=tk})→
   codeAny (model prog w) A (.builtin "dict.update.loop" ⟨[.ref d,.ref I,rawInt z,res],[]⟩) R s:=by
 intro more
 induction more with
 | nil=>
   intro i z kvs s hk hi hit hl hd hsz hp hR
   have hin:i=items.size:=by simp at hk;omega
   subst hin
   refine codeAny_builtin qi ?_
   rw[Around.under_plainId kZ _]
   show wpAny _ A.in1 (pyNext (.ref I) >>= _) _ _ s
   refine wpAny_bind (wpAny_pyNext_list_end hh hit hl (by simp) fun h' he'=>?_)
   show wpAny _ _ (Builtin.Dict.addKeywords d [] >>= _) _ _ _
   refine wpAny_bind (wpAny_pure (wpAny_pure ?_))
   exact hR h' s.toks (fun b o hb _ e=>he' b o hb e) (hd.extBut he' hdI)
 | cons p more ih=>
   intro i z kvs s hk hi hit hl hd hsz hp hR
   obtain⟨v,hv,hpv⟩:=hp 0 p rfl
   rw[Nat.add_zero]at hv
   obtain⟨a,key,rfl,hta,hkey⟩:=hpv
   refine codeAny_builtin qi ?_
   rw[Around.under_plainId kZ _]
   show wpAny _ A.in1 (pyNext (.ref I) >>= _) _ _ s
   refine wpAny_bind (wpAny_pyNext_list_item hit hl hv fun h' hit' hs'=>?_)
   refine wpAny_bind (wpAny_holding ?_)
   have hd':h'.DictOf knd d kvs:=hd.extBut hs'.extBut hdI
   have hl':h'.IsList ax items:=hl.extBut hs'.extBut hne
   have kx:∀ {b xs},PyProof.Rows.IsTup s.heap b xs→b≠I∧b≠d:=fun {b xs} ht=>by
     obtain⟨o,ho,hc,_⟩:=ht
     refine⟨fun e=>?_,fun e=>?_⟩
     · obtain⟨o2,ho2,hc2,_⟩:=hit
       rw[←e,ho]at ho2
       cases ho2
       rw[hc]at hc2
       exact absurd hc2 (by decide)
     · obtain⟨o2,_,_,ho2,hc2,_⟩:=hd
       rw[←e,ho]at ho2
       cases ho2
       exact absurd (hc.symm.trans hc2.1) (by decide)
   have hta':PyProof.Rows.IsTup h' a #[key,p.2]:=hta.extBut hs'.extBut (kx hta).1
   obtain⟨o,ho,hc,n,hda⟩:=id hta'
   refine wpAny_bind (wpAny_tryCatch ?_)
   unfold Builtin.Dict.pairItems
   refine wpAny_bind (wpAny_typeOf (show Shared.TypeIs {s with heap:=h'} (.ref a) "tuple" from⟨o,ho,hc⟩) ?_)
   rw[if_pos (by decide)]
   refine wpAny_bind (wpAny_seqItems ho hda (wpAny_pure ?_))
   show wpAny _ _ (holding [key,p.2] (dictSet d key p.2)) _ _ _
   refine wpAny_holding (wpAny_dictSet_pairs hkey hd' (fun h'' hd'' hs''=>?_) (by rw[List.length_cons]at hsz;omega))
   refine wpAny_pure ⟨plainId_quiet kZ _,ih (i+1) (z+1) (stored kvs p.1 p.2) _ (by simp at hk ⊢;omega) (by simp at hk;omega) (hit'.extBut hs''.extBut (Ne.symm hdI)) (hl'.extBut hs''.extBut (Ne.symm hdx)) hd'' ?_ (fun j q hq=>?_) fun h3 tk3 k3 d3=>?_⟩
   · have:=stored_length_le kvs p.1 p.2
     rw[List.length_cons]at hsz
     omega
   · obtain⟨v2,hv2,b,key2,rfl,ht2,hk2⟩:=hp (j+1) q (by simpa using hq)
     refine⟨_,by rw[show i+1+j=i+(j+1) by omega];exact hv2,b,key2,rfl,?_,hk2⟩
     exact(ht2.extBut hs'.extBut (kx ht2).1).extBut hs''.extBut (kx ht2).2
   · refine hR h3 tk3 (fun b o hb hbd e=>k3 b o hb hbd ?_) d3
     rw[hs''.2 b hbd,hs'.2 b hb];exact e
theorem FF{E:Value→Shared→Prop}{s:Shared}{K:Type} [DecidableEq K] {knd:KeyKind prog w K} {a:Addr} {o:Obj} {items:Array Value} {n:Nat} {more:List (K×Value)} {Q:Value→Shared→Prop} (hh:A.handled=none)
   (hx:s.heap.get? a=some o) (hc:o.cls=.type "list") (hdat:o.data=.seq items n) (hdi:o.dict=none) (hlen:items.size=more.length) (hsz:more.length≤sizeLine) (hp:∀(j:Nat) p,more[j]? =some p→∃v,items[j]? =some v∧m7 knd s.heap v p)
   (h:∀h' tk,(∀b ob,s.heap.get? b=some ob→h'.get? b=some ob)→h'.DictOf knd s.heap.objs.size (merged [] more)→Q (.ref s.heap.objs.size) {s with heap:=h',toks:=tk}):
   wpAny (model prog w) A (call (.type "dict") [.ref a]) Q E s:=by
 refine callType_codes (Q₁:=fun obj s₁=>obj=.ref s.heap.objs.size∧s₁={s with heap:=s.heap.push {cls:=.type "dict",data:=.dict #[]} }) F.kt_called_dict (F.kt_typeCall_dict_1 _) F.entry_dict_init (kt_code_dict_new _ ⟨rfl,rfl⟩) ?_
 rintro obj s₁ ⟨rfl,rfl⟩
 have hnew:(s.heap.push {cls:=.type "dict",data:=.dict #[]}).DictOf knd s.heap.objs.size []:=Heap.DictOf.new s.heap
 have hx':(s.heap.push {cls:=.type "dict",data:=.dict #[]}).get? a=some o:=Heap.get?_push_of_some _ hx
 have hlt:a<s.heap.objs.size:=Heap.lt_size hx
 have hTl:Shared.TypeIs {s with heap:=s.heap.push {cls:=.type "dict",data:=.dict #[]} } (.ref a) "list":=⟨o,hx',hc⟩
 refine⟨hnew.typeIs,F.args_dict_init_2 _ _,?_⟩
 unfold Builtin.«dict.__init__»
 refine wpAny_bind ?_
 unfold Builtin.Dict.selfAndRest
 refine wpAny_bind (wpAny_notOrdered_dict hnew.typeIs ?_)
 show wpAny _ _ (pure (s.heap.objs.size,[Value.ref a])) _ _ _
 refine wpAny_pure ?_
 show wpAny _ _ (Builtin.Dict.updateFrom "dict.__init__" s.heap.objs.size (.ref a) [] .none) _ _ _
 unfold Builtin.Dict.updateFrom
 refine wpAny_bind (wpAny_typeOf hTl ?_)
 rw[if_pos (by decide)]
 refine wpAny_bind (Bc hx' hc hdat hdi hh fun h1 tk1 k1=>?_)
 show wpAny _ _ (rule "dict.__init__.from-pairs" >>= _) _ _ _
 refine wpAny_bind (wpAny_rule ?_)
 have hl1:h1.IsList a items:=⟨o,k1 _ _ hx',hc,n,hdat⟩
 refine wpAny_bind (wpAny_pyIter_list hl1 ?_)
 have hsz1:s.heap.objs.size<h1.objs.size:=by
   obtain⟨o',_,_,ho',_⟩:=hnew
   exact Heap.lt_size (k1 _ _ ho')
 refine wpAny_pure ⟨plainId_quiet kZ _,?_⟩
 refine DS (knd:=knd) (prog:=prog) (w:=w) (A:=A.in1) (I:=h1.objs.size) (ax:=a) hh (Nat.ne_of_lt (Nat.lt_trans hlt hsz1)) (Nat.ne_of_lt hsz1) (Nat.ne_of_gt hlt) more 0 0 [] _ (by simpa using hlen) (Nat.zero_le _) ?_ ?_ ?_ (by simpa using hsz) (fun j p hj=>?_) fun h2 tk2 k2 d2=>?_
 ·exact⟨_,Heap.get?_push_size _ rfl,rfl,rfl⟩
 ·exact hl1.push _
 · obtain⟨o',es,ep,ho',r⟩:=hnew
   exact⟨o',es,ep,Heap.get?_push_of_some _ (k1 _ _ ho'),r⟩
 · obtain⟨v,hv,b,key,rfl,ht,hk⟩:=hp j p hj
   exact⟨_,by rw[Nat.zero_add];exact hv,b,key,rfl,((ht.push _).keeps k1).push _,hk⟩
 · refine⟨rfl,h h2 tk2 (fun b ob hb=>?_) d2⟩
   have hbl:b<s.heap.objs.size:=Heap.lt_size hb
   exact k2 b ob (Nat.ne_of_lt (Nat.lt_trans hbl hsz1)) (Nat.ne_of_lt hbl) (Heap.get?_push_of_some _ (k1 _ _ (Heap.get?_push_of_some _ hb)))
end
theorem zU:typeLookup (.type "zip") "__len__"=pure none:=by rw[typeLookup_type,builtinLookup_eq_fast];kernel_rfl
theorem vR:typeLookup (.type "zip") "__length_hint__"=pure none:=by rw[typeLookup_type,builtinLookup_eq_fast];kernel_rfl
theorem Co{prog:Program}{w:World}{A:Around}{E:Value→Shared→Prop}{s:Shared}{z TI TO i1 i2 l1 l2:Addr}{k1 k2:Nat}{xs ys:Array Value}{a b:Value}{Q:Value→Shared→Prop}(hh:A.handled=none)(D:ZipApart z TI TO i1 i2 l1 l2)
   (hz:IsZip s.heap z TI TO .none) (hTI:IsPair s.heap TI (.ref i1) (.ref i2)) (hTO:IsPair s.heap TO a b)
   (h1:s.heap.IsListIter i1 l1 k1) (h2:s.heap.IsListIter i2 l2 k2) (hl1:s.heap.IsList l1 xs) (hl2:s.heap.IsList l2 ys) (hend:xs[k1]? =none∨ys[k2]? =none)
   (hQ:∀h' c,(∀b o,b≠z→b≠TO→b≠i1→b≠i2→s.heap.get? b=some o→h'.get? b=some o)→h'.get? s.heap.objs.size=some {cls:=.type "list",data:=.seq #[] c}→Q (.ref s.heap.objs.size) {s with heap:=h'}):
   wpAny (model prog w) A (call (.type "list") [.ref z]) Q E s:=by
 refine callType_codes (Q₁:=fun obj s₁=>obj=.ref s.heap.objs.size∧s₁={s with heap:=s.heap.push {cls:=.type "list",data:=.seq #[]} }) F.called_list (F.typeCall_list_1 _) F.entry_list_init
   (code_list_new _ ⟨rfl,rfl⟩) fun obj s₁ h₁=>?_
 obtain⟨rfl,rfl⟩:=h₁
 have hS:(s.heap.push {cls:=.type "list",data:=.seq #[]}).get? s.heap.objs.size=some {cls:=.type "list",data:=.seq #[]}:=Heap.get?_push_size _ rfl
 refine⟨⟨_,hS,rfl⟩,F.args_list_init_2 _ _,?_⟩
 have lt:∀ {b o},s.heap.get? b=some o→b≠s.heap.objs.size:=fun e=>Nat.ne_of_lt (Heap.lt_size e)
 have hzS:=lt hz
 generalize hp:s.heap.objs.size=S at*
 show wpAny _ A.in1.in1 (do let old ←Builtin.List.listItems (.ref S);Builtin.List.listUpdate (.ref S) (fun _=> #[]);letGo old.toList.reverse;Builtin.List.listExtendWith (.ref S) (.ref z) .none) _ _ _
 refine wpAny_bind ?_
 unfold Builtin.List.listItems
 refine wpAny_bind (wpAny_seqItems hS rfl (wpAny_pure ?_))
 show wpAny _ A.in1.in1 (updateSeq S (fun _=> #[]) >>= fun _=>letGo (#[]:Array Value).toList.reverse >>= fun _=>Builtin.List.listExtendWith (.ref S) (.ref z) .none) _ _ _
 refine wpAny_bind (wpAny_updateSeq hS rfl ?_)
 have hS₂:=Heap.get?_update_self (Obj.mapSeq (fun _=>(#[]:Array Value))) hS rfl
 refine wpAny_bind (wpAny_letGo ?_)
 unfold Builtin.List.listExtendWith
 have k2:∀b o,b≠S→s.heap.get? b=some o→((s.heap.push {cls:=.type "list",data:=.seq #[]}).update S (Obj.mapSeq fun _=>(#[]:Array Value))).get? b=some o:=fun b o hb e=>(Heap.get?_update_other _ _ (Ne.symm hb)).trans (Heap.get?_push_of_some _ e)
 have hz2:=k2 _ _ hzS hz
 refine wpAny_bind (wpAny_typeOf ⟨_,hz2,rfl⟩ ?_)
 have e1:Builtin.List.listSameRef (.ref S) (.ref z)=false:=by simp[Builtin.List.listSameRef,Ne.symm hzS]
 have e2:(Value.type "zip"==Value.type "list")=false:=by decide
 have e3:(Value.type "zip"==Value.type "tuple")=false:=by decide
 simp only[e1,e2,e3,Bool.or_false,Bool.false_eq_true,if_false]
 refine wpAny_bind (wpAny_pyIter_zip hz2 ?_)
 refine wpAny_bind (wpAny_holding ?_)
 unfold Builtin.List.listLengthHint
 refine wpAny_bind (wpAny_specialOf ⟨_,hz2,rfl⟩ zU ?_)
 show wpAny _ _ (specialOf (Value.ref z) (Str.ofString "__length_hint__") >>= _) _ _ _
 refine wpAny_bind (wpAny_specialOf ⟨_,hz2,rfl⟩ vR ?_)
 refine wpAny_pure ?_
 show wpAny _ _ (rule "list.extend.makes-room" >>= fun _=>Builtin.List.listTouch (.ref S) >>= fun _=>
   again (.builtin "list.extend.loop" ⟨[.ref S,.ref z,.none],[]⟩)) _ _ _
 refine wpAny_bind (wpAny_rule ?_)
 refine wpAny_bind ?_
 show wpAny _ _ (updateSeq S (·.push .none) >>= fun _=>updateSeq S (·.pop)) _ _ _
 refine wpAny_bind (wpAny_updateSeq hS₂ rfl ?_)
 have hS₃:=Heap.get?_update_self (Obj.mapSeq (·.push Value.none)) hS₂ rfl
 refine wpAny_updateSeq (hz:=by seq_fits) hS₃ rfl ?_
 have hS₄:=Heap.get?_update_self (Obj.mapSeq (·.pop)) hS₃ rfl
 refine wpAny_pure ⟨plainId_quiet F.plain_extend_loop _,?_⟩
 refine codeAny_builtin F.entry_extend_loop ?_
 rw[Around.under_plainId F.plain_extend_loop _]
 show wpAny _ _ (pyNext (.ref z) >>= _) _ _ _
 have k4:∀b o,b≠S→s.heap.get? b=some o→((((s.heap.push {cls:=.type "list",data:=.seq #[]}).update S (Obj.mapSeq fun _=>(#[]:Array Value))).update S (Obj.mapSeq (·.push Value.none))).update S (Obj.mapSeq (·.pop))).get? b=some o:=fun b o hb e=>
   (Heap.get?_update_other _ _ (Ne.symm hb)).trans ((Heap.get?_update_other _ _ (Ne.symm hb)).trans (k2 b o hb e))
 have li:∀ {i l k},s.heap.IsListIter i l k→((((s.heap.push {cls:=.type "list",data:=.seq #[]}).update S (Obj.mapSeq fun _=>(#[]:Array Value))).update S (Obj.mapSeq (·.push Value.none))).update S (Obj.mapSeq (·.pop))).IsListIter i l k:=fun h=>let⟨o,e,r⟩:=h;⟨o,k4 _ _ (lt e) e,r⟩
 have ll:∀ {l items},s.heap.IsList l items→((((s.heap.push {cls:=.type "list",data:=.seq #[]}).update S (Obj.mapSeq fun _=>(#[]:Array Value))).update S (Obj.mapSeq (·.push Value.none))).update S (Obj.mapSeq (·.pop))).IsList l items:=fun h=>let⟨o,e,r⟩:=h;⟨o,k4 _ _ (lt e) e,r⟩
 have zS:S≠z:=Ne.symm hzS
 have tS:S≠TO:=Ne.symm (lt hTO)
 have iS:S≠i1:=by obtain⟨o,e,_⟩:=id h1;exact Ne.symm (lt e)
 have jS:S≠i2:=by obtain⟨o,e,_⟩:=id h2;exact Ne.symm (lt e)
 refine wpAny_bind (wpAny_pyNext_zip_end hh D (k4 _ _ hzS hz) (k4 _ _ (lt hTI) hTI) (k4 _ _ (lt hTO) hTO) (li h1) (li h2) (ll hl1) (ll hl2) hend fun h' hk=>?_)
 exact wpAny_pure ⟨rfl,hQ h' _ (fun b o n1 n2 n3 n4 e=>hk b o n1 n2 n3 n4 (k4 b o (lt e) e)) (hk S _ zS tS iS jS hS₄)⟩
end PySem
namespace PL
open PySem PySem.Spec
open L2 (V Hp HO Cx PE PT PW PA PS bJ PG cB VK TE TT TA TS TI TG Inv RelV Vals Rd aN aW upd af Key XK Ends aD eY bp R2 EP It Turn cz Un)
noncomputable def gF:List D→List Ky→List D→R D
 |[],ks,vs=>.ok (.aC ks vs)
 | .tup [k,v]::r,ks,vs=>match keyOf k with
   |some q=>gF r (putL q v ks vs).1 (putL q v ks vs).2
   |none=>.bad
 |_,_,_=>.bad
noncomputable def fw:D→R D
 |.lst ds=>if ds.length≤1000 then gF ds [] []else .bad
 |_=>.bad
section
variable{X:Cx}{M:Md}{G H H':Hp}{F0 F F':Addr→Prop}{σ:L2.St}{ρ:En}{pos:Pos}{pins:List (Addr×Obj)}{s:Shared}
theorem t8{k:Ky}{d:D}{v:V}{ks:List Ky}{vs:List D}{xs:List V}(hl:ks.length=xs.length)(rs:ae M H F vs xs)(rd:Rep M H F d v):
   ∃ys,L2.putK (ks.zip xs) k v=(putL k d ks vs).1.zip ys∧(putL k d ks vs).1.length=ys.length∧ae M H F (putL k d ks vs).2 ys:=by
 rw[qc k v hl]
 unfold putL
 by_cases hm:(ks.any fun a=>decide (a=k))=true
 · rw[if_pos hm,if_pos hm]
   exact⟨_,rfl,by rw[List.length_zipWith];show ks.length=min ks.length xs.length;omega,pA rd rs⟩
 · rw[if_neg hm,if_neg hm]
   exact⟨_,rfl,by rw[List.length_append,List.length_append,hl];rfl,rs.append (ae.cons rd ae.nil)⟩
noncomputable def kX(M:Md)(H:Hp)(F:Addr→Prop):List V→List (Key×V)→Prop
 |[],[]=>True
 |x::xs,p::ps=>(∃a,x=.ref a∧cF M H F a [L2.kV p.1,p.2])∧kX M H F xs ps
 |_,_=>False
theorem r9:∀ {ds:List D} {ks:List Ky} {vs:List D} {d:D} {ps:List V} {xs:List V},gF ds ks vs=.ok d→ae M H F ds ps→ks.length=xs.length→ae M H F vs xs→
   ∃more ks' vs' ys,kX M H F ps more∧more.length=ds.length∧d=.aC ks' vs'∧L2.cV (ks.zip xs) more=ks'.zip ys∧ks'.length=ys.length∧ae M H F vs' ys
 | [],ks,vs,d,ps,xs,e,r,hl,rs=>by
   simp only[ae]at r;subst r
   cases e
   exact⟨[],ks,vs,xs,True.intro,rfl,rfl,rfl,hl,rs⟩
 | c::ds,ks,vs,d,ps,xs,e,r,hl,rs=>by
   have⟨k,v,q,ec,ek,e9⟩:∃k v q,c=.tup [k,v]∧keyOf k=some q∧gF ds (putL q v ks vs).1 (putL q v ks vs).2=.ok d:=by
     unfold gF at e
     split at e
     ·rename_i h;cases h
     · rename_i h
       cases h
       split at e
       ·rename_i hq;exact⟨_,_,_,rfl,hq,e⟩
       ·cases e
     ·cases e
   subst ec
   simp only[ae]at r
   obtain⟨x,ps,rfl,rx,rp⟩:=r
   simp only[Rep]at rx
   obtain⟨a,zs,rfl,ht,rz⟩:=rx
   obtain⟨y1,y2,rfl,r1,r2⟩:=rz.two
   cases i7 ek r1
   obtain⟨ys,e1,l1,rs1⟩:=t8 (k:=q) hl rs r2
   obtain⟨more,ks',vs',ys',h1,h2,h3,h4,h5,h6⟩:=r9 e9 rp l1 rs1
   refine⟨(q,y2)::more,ks',vs',ys',⟨⟨a,rfl,ht⟩,h1⟩,by simp[h2],h3,?_,h5,h6⟩
   show L2.cV (L2.putK (ks.zip xs) q y2) more=_
   rw[e1];exact h4
theorem tU(I:Inv X pins σ H s):∀ {ps:List V} {more:List (Key×V)} {its:List Value},kX (aj X) H F ps more→Vals ps its→∃ms:List (Key×Value),L2.KV more ms∧ms.length=its.length∧∀(j:Nat) p,ms[j]? =some p→∃v,its[j]? =some v∧m7 (L2.bt X.prog X.w) s.heap v p
 |[],[],its,_,hv=>by cases hv;exact⟨[],.nil,rfl,fun j p h=>by simp at h⟩
 | x::ps,p::more,its,h,hv=>by
   obtain⟨⟨a,rfl,ht⟩,h⟩:=h
   cases hv with
   | cons rv hv=>
     cases rv
     obtain⟨ms,k1,k2,k3⟩:=tU I h hv
     obtain⟨ts,tv,tt,_⟩:=hW I ht
     obtain⟨u1,u2,rfl,ru1,ru2⟩:=L2.vals2 tv
     refine⟨(p.1,u2)::ms,.cons ⟨rfl,ru2⟩ k1,by simp[k2],fun j q hq=>?_⟩
     cases j with
     |zero=>cases hq;exact⟨_,rfl,a,u1,rfl,tt,L2.gk ru1⟩
     |succ j=>exact k3 j q hq
 |[],_::_,_,h,_=>h.elim
 |_::_,[],_,h,_=>h.elim
noncomputable def y9(M:Md):List V→Hp→VK→Prop:=fun xs H Q=>∃F l ps more,xs=[.ref l]∧dO M H F l ps∧kX M H F ps more∧more.length≤1000∧∀p,H p=none→Q (.ref p) (upd H p (.dK (L2.cV [] more)))
theorem C3(hc:X.calm=true):bp X (.type "dict") (y9 (aj X)):=by
 intro pins s σ H xs us Q I r h
 obtain⟨F,l,ps,more,rfl,hl,hp,hz,q⟩:=h
 obtain⟨u,rfl,ru⟩:=L2.vals1 r
 cases ru
 obtain⟨its,n,sl,hv,hg,_⟩:=jn I hl
 obtain⟨ms,k1,k2,k3⟩:=tU I hp hv
 have hlen:=k1.length
 have h3:(sizeLine:Nat)=16777216:=sizeLine_eq
 refine FF (knd:=L2.bt X.prog X.w) (more:=ms) (I.ok.hd hc) hg rfl rfl rfl (by rw[List.size_toArray];exact k2.symm) (by omega) (fun j p hj=>by rw[List.getElem?_toArray];exact k3 j p hj) fun h' tk hk dd=>?_
 have hm:(L2.cV [] more).length≤sizeLine:=by
   have:=L2.kN more []
   rw[List.length_nil]at this
   omega
 exact⟨.ref _,_,I.laid (a:=s.heap.objs.size) (o:=.dK (L2.cV [] more)) (t':=tk) hk (Nat.le_refl _) (L2.mj hm (beq_eq_false_iff_ne.mpr (Ne.symm (Nat.ne_of_lt I.big))) (k1.merge .nil) dd),rfl,q _ (I.au.fresh (Nat.le_refl _))⟩
noncomputable def C9(M:Md)(f:Ex):TE:=fun σ H Q=>∃ρ F ks ds,bb M H F σ ρ∧f ρ=.ok (.aC ks ds)∧∀p H' xs,af H H'→H' p=none→ks.length=xs.length→ae M H' F ds xs→Q (.ref p) (upd H' p (.dK (ks.zip xs)))
noncomputable abbrev JD(X:Cx)(e:Expr)(f:Ex):Prop:=PE X e (C9 (aj X) f)
theorem vZ{a:Expr}{fa:Ex}{p:Pos}(hc:X.calm=true)(hg:L2.Gl X "dict")(hm:X.mg "dict"=none)(ha:JE X a fa)(hs:starEach [a] X.env=(false,eval a X.env)::starEach [] X.env):JD X (.Call (.Name "dict" p) [a] [] pos) (e1 fw fa):=
 bj (L2.kd (C3 hc) hg hm wq (cy ha dF hs) (by decide) (by decide) hs) fun σ H Q ⟨ρ,F,ks,ds,hr,e,q⟩=>by
   obtain⟨d1,ed,e⟩:=ah.mp e
   refine⟨ρ,F,[d1],hr,by show(fa ρ).bind _=_;rw[ed];rfl,fun vs H1 s1 rv=>?_⟩
   obtain⟨y,rfl,ry⟩:=rv.one
   unfold fw at e
   split at e
   · rename_i es
     split at e
     · rename_i hlen
       simp only[Rep]at ry
       obtain⟨a,xs,rfl,h1,rs⟩:=ry
       obtain⟨more,ks',vs',ys,g1,g2,g3,g4,g5,g6⟩:=r9 e rs (xs:=[]) rfl ae.nil
       cases g3
       refine⟨F,a,xs,more,rfl,h1,g1,by omega,fun p hp=>?_⟩
       have g4':L2.cV [] more=ks.zip ys:=g4
       rw[g4']
       exact q p H1 ys s1 hp g5 g6
     ·cases e
   ·cases e
theorem uC(i:Nat){x:Str}{e:Expr}{f:Ex}{p2:Pos}(hN:X.N.Nodup)(he:JD X e f)(hi:X.N[i]? =some x)(hx:L2.Loc X.env.scope x)(hf:X.fn x=true∨X.env.scope.names.lookup x=some .local)
   (hs:swapsWith e (some (.Name x p2)) pos.line X.env=pure false):JS X (.Assign [.Name x p2] e pos) (gu i f):=fun F0=>
 cb (L2.mH hN hi hx he hs hf) fun D σ H ⟨ρ,F,fl,r,e,q⟩=>by
   obtain⟨d,ed,e⟩:=ah.mp e
   split at e
   · cases e
     refine⟨ρ,F,_,_,r.rs,ed,fun p H1 xs s1 hp hl rs=>?_⟩
     obtain⟨mv,r'⟩:=(r.same s1).new (i:=i) (s:=.od _ _) hp (.inr ⟨_,_,xs,rfl,rfl,hl,rs⟩)
     exact q _ _ _ (Mv.trans (.same s1) mv) r'
   ·cases e
theorem wj{e:Expr}{f:Ex}(he:JD X e f)(hl:∀ρ d,f ρ=.ok d→∃ks ds,d=.aC ks ds):JE X e f:=
 mL he fun σ H Q ⟨ρ,F,d,hr,e,q⟩=>by
   obtain⟨ks,ds,rfl⟩:=hl _ _ e
   refine⟨ρ,F,ks,ds,hr,e,fun p H1 xs s1 hp hl rs=>⟨p,ks.zip xs,rfl,L2.bC,fun ob=>?_⟩⟩
   rw[L2.o8]
   refine q _ _ (s1.trans (af.bI hp _)) ?_
   simp only[Rep]
   exact⟨p,xs,rfl,.inl ⟨kg (hr.same s1).aM hp,ob,L2.bC⟩,hl,rs.mv (.same (af.bI hp _))⟩
theorem pT:∀ {ds:List D} {ks:List Ky} {vs:List D} {d:D},gF ds ks vs=.ok d→∃ks' vs',d=.aC ks' vs'
 |[],_,_,_,e=>by cases e;exact⟨_,_,rfl⟩
 | c::ds,ks,vs,d,e=>by
   unfold gF at e
   split at e
   ·rename_i h;cases h
   · rename_i h
     cases h
     split at e
     ·exact pT e
     ·cases e
   ·cases e
theorem E9{fa:Ex}(ρ:En)(d:D)(h:e1 fw fa ρ=.ok d):∃ks ds,d=.aC ks ds:=by
 obtain⟨x,ex,e⟩:=ah.mp h
 unfold fw at e
 split at e
 · split at e
   ·exact pT e
   ·cases e
 ·cases e
noncomputable def fe:List Ky→List D→List Ky→List D→List Ky×List D
 |k::ks,v::vs,as,bs=>fe ks vs (putL k v as bs).1 (putL k v as bs).2
 |_,_,as,bs=>(as,bs)
noncomputable def oS(i:Nat)(e:Ex):Sm:=fun ρ=>(e ρ).bind fun d=>match d,ρ[i]? with
 |.aC ks vs,some (.od as bs)=>if ks.length+as.length<1000 then .ok (.next (ρ.set i (.od (fe ks vs as bs).1 (fe ks vs as bs).2)))else .bad
 |_,_=>.bad
theorem sW:∀ {ks:List Ky} {vs:List D} {ys:List V} {as:List Ky} {bs:List D} {xs:List V},ks.length=ys.length→ae M H F vs ys→as.length=xs.length→ae M H F bs xs→
   ∃zs,L2.cV (as.zip xs) (ks.zip ys)=(fe ks vs as bs).1.zip zs∧(fe ks vs as bs).1.length=zs.length∧ae M H F (fe ks vs as bs).2 zs
 | [],vs,ys,as,bs,xs,_,_,hl,rs=>by
   have:fe [] vs as bs=(as,bs):=by unfold fe;cases vs<;>rfl
   rw[this]
   exact⟨xs,rfl,hl,rs⟩
 | k::ks,vs,ys,as,bs,xs,h,rv,hl,rs=>by
   cases ys with
   |nil=>cases h
   | cons y ys=>
     cases vs with
     |nil=>simp only[ae]at rv;cases rv
     | cons v vs=>
       simp only[ae]at rv
       obtain⟨_,_,e,r1,r2⟩:=rv
       cases e
       obtain⟨zs,e1,l1,rs1⟩:=t8 (k:=k) hl rs r1
       obtain⟨ws,e2,l2,rs2⟩:=sW (by simpa using h) r2 l1 rs1
       refine⟨ws,?_,l2,rs2⟩
       show L2.cV (L2.putK (as.zip xs) k y) (ks.zip ys)=_
       rw[e1];exact e2
noncomputable def Cr:V→List V→Hp→VK→Prop:=fun x vs H Q=>∃a b kvs more,x=.ref a∧vs=[.ref b]∧H a=some (.dK kvs)∧H b=some (.dK more)∧a≠b∧kvs.length+more.length≤1000∧Q .av (upd H a (.dK (L2.cV kvs more)))
theorem uD:L2.lL X "dict.update" Cr:=by
 intro pins s σ H x vs v us Q I rx rv h
 obtain⟨a,b,kvs,more,rfl,rfl,ha,hb,hab,hz,q⟩:=h
 cases rx
 obtain⟨u,rfl,ru⟩:=rv.one
 cases ru
 obtain⟨z,hsys,ws,rel,dd⟩:=L2.kP I.au ha
 obtain⟨z2,hsys2,ws2,rel2,dd2⟩:=L2.kP I.au hb
 have h3:(sizeLine:Nat)=16777216:=sizeLine_eq
 refine call_meetsIn PySem.F.slot_dict_update dd.typeIs PySem.F.entry_dict_update (PySem.F.args_dict_update_2 _ _) (meets_dict_update (L2.bt X.prog X.w) a b hab hsys2) ⟨ws,ws2,dd,dd2,by rw[←rel.length, ←rel2.length];omega,fun h' d1 d2 hs=>?_⟩
 have he:∃q,h'.get? a=some q:=let⟨q,_,_,hq,_⟩:=d1;⟨q,hq⟩
 have hl:(L2.cV kvs more).length≤sizeLine:=by have:=L2.kN more kvs;omega
 exact⟨.av,_,L2.lD I (by rw[ha];exact True.intro) hs he (L2.mj hl hsys (rel2.merge rel) d1),rfl,q⟩
theorem yy(i:Nat){x:Str}{e:Expr}{f:Ex}{p2 apos cpos:Pos}(he:JD X e f)(hN:X.N[i]? =some x)(hv:L2.bS X.env.scope x)(hd:(x==("__debug__":Str))=false)
   (hcd:(x==("__classdict__":Str))=false) (hbase:attributeBase (.Name x p2) "update" X.env (eval (.Name x p2) X.env)=eval (.Name x p2) X.env)
   (hfew:((backTo cpos (starEach [e] X.env)).all (fun x=> !x.1)&&(backToKw cpos (keywordEach [] X.env)).all (fun x=>x.1.isSome)
     &&decide (([e]:List Expr).length+([]:List Keyword).length+(if([]:List Keyword).isEmpty then 0 else 1)<30))=true)
   (hline:(apos.endLine==cpos.line)=true) (hs:starEach [e] X.env=(false,eval e X.env)::starEach [] X.env)
   (hsw:swapsWith (.Call (.Attribute (.Name x p2) "update" apos) [e] [] cpos) none pos.line X.env=pure false):
   JS X (.Expr (.Call (.Attribute (.Name x p2) "update" apos) [e] [] cpos) pos) (oS i f):=fun F0=>
 cb (L2.tq (L2.tL PySem.F.plainAttrs_dict PySem.F.slot_dict_update PySem.F.type_dict_update uD (L2.pv i hN hv hd hcd) (L2.gx he L2.ic hs) hbase hfew hline hs) hsw) fun D σ H ⟨ρ,F,fl,r,e,q⟩=>by
   obtain⟨d,ed,e⟩:=ah.mp e
   split at e
   · rename_i ks vs as bs q1
     split at e
     · rename_i hlt
       cases e
       have oi:bx ρ i:=.inr ⟨_,_,q1⟩
       obtain⟨a,xs,ea,fa,ha,hl,rs⟩:=r.rs.od i _ _ q1
       refine⟨_,ea,.inr (.inr (.inl ⟨rfl,.inl ⟨_,ha⟩⟩)),ρ,F,ks,vs,r.rs,ed,fun p H1 ys s1 hp hly ry=>?_⟩
       have s2:af H1 (upd H1 p (.dK (ks.zip ys))):=af.bI hp _
       have r1:=(r.same s1).same s2
       have ha2:=s2 _ _ (s1 _ _ ha)
       have hne:a≠p:=fun z=>by subst z;rw[s1 _ _ ha]at hp;cases hp
       obtain⟨zs,e1,l1,rs1⟩:=sW (M:=aj X) (H:=upd H1 p (.dK (ks.zip ys))) (F:=F) hly (ry.mv (.same s2)) hl (rs.mv (.same (s1.trans s2)))
       refine⟨a,p,_,_,rfl,rfl,ha2,L2.bC,hne,by rw[List.length_zip,List.length_zip];omega,?_⟩
       rw[e1]
       obtain⟨mv,r'⟩:=r1.chg (s:=.od (fe ks vs as bs).1 (fe ks vs as bs).2) oi ea (.inr ⟨_,_,zs,rfl,rfl,l1,rs1⟩)
       exact q _ _ _ (Mv.trans (.same (s1.trans s2)) mv) r'
     ·cases e
   ·cases e
noncomputable def oz(i:Nat)(ρ:En):En:=match ρ[i]? with
 |some (.od ks vs)=>ρ.set i (.sh (.aC ks vs))
 |_=>ρ
noncomputable def mz(i:Nat)(f:Ex):Ex:=fun ρ=>match ρ[i]? with
 |some (.od ks vs)=>(f (ρ.set i (.sh (.aC ks vs)))).bind fun d=>if bA d=true then .ok d else .bad
 |_=>.bad
theorem Fw{H1:Hp}{s1:Shared}{a:Addr}{ob:Obj}{kvs:List (Key×V)}(I0:Inv X pins σ H s)(e0:H a=some (.dK kvs))(I1:Inv X pins σ H1 s1)(e1:H1 a=some (.frz ob (.dK kvs))):Inv X pins σ (upd H1 a (.dK kvs)) s1:=by
 have nn:∀ {b},H1 b=none→upd H1 a (.dK kvs) b=none:=fun {b} h=>by rw[L2.aA (fun z=>by subst z;rw[e1]at h;cases h)];exact h
 refine⟨I1.ok,I1.os,I1.bare,⟨I1.base.keep,I1.base.slot,fun b o h n x=>nn (I1.base.free b o h n x),I1.base.there,fun b xs h=>?_,fun b o u h=>?_,fun b ps h=>?_⟩,I1.loc,I1.cell,nn I1.free,fun x c h=>nn (I1.eF x c h),fun p hp=>?_,fun b o h=>?_,I1.len⟩
 · have h1:=I1.base.dk b xs h
   rw[L2.aA (fun z=>by subst z;rw[e1]at h1;cases h1)];exact h1
 · have h0:=I0.base.cQ b o u h
   rw[L2.aA (fun z=>by subst z;rw[e0]at h0;cases h0)];exact I1.base.cQ b o u h
 · obtain⟨more,h1⟩:=I1.base.dD b ps h
   exact⟨more,by rw[L2.aA (fun z=>by subst z;rw[e1]at h1;cases h1)];exact h1⟩
 · obtain⟨h1,h2,h3⟩:=I1.pin p hp
   exact⟨h1,nn h2,h3⟩
 · by_cases hb:b=a
   · subst hb
     rw[L2.bC]at h
     cases h
     obtain⟨_,z,y,vs,r,dd⟩:=I1.au b _ e1
     exact⟨z,y,vs,r,dd⟩
   · rw[L2.aA hb]at h
     refine(I1.au b o h).fg (fun c u _ q=>q) (fun c q=>?_) fun c xs q=>?_
     ·rw[L2.aA (fun z=>by subst z;rw[e1]at q;cases q)];exact q
     ·rw[L2.aA (fun z=>by subst z;rw[e1]at q;cases q)];exact q
theorem aP.Az(r:bb M H F σ ρ):aP M (fun _=>none) (fun _=>False) H F σ ρ:={rs:=r,sm:=fun _ _ e=>(nomatch e),sub:=fun _ h=>False.elim h,d7:=fun _ h=>False.elim h,own:=fun _ _ _ _=>rfl,fV:=fun _ _ _ _ _=>rfl}
mutual
theorem Rep.j8{H2:Hp}{F2:Addr→Prop}(o:∀a xs,cF M H F a xs→cF M H2 F2 a xs):∀ {d:D} {v:V},bA d=true→Rep M H F d v→Rep M H2 F2 d v
 |.av,_,_,h=>by simp only[Rep]at h ⊢;exact h
 |.bl _,_,_,h=>by simp only[Rep]at h ⊢;exact h
 |.int _,_,_,h=>by simp only[Rep]at h ⊢;exact h
 |.str _,_,_,h=>by simp only[Rep]at h ⊢;exact h
 | .tup ds,_,n,h=>by
   simp only[Rep]at h ⊢
   obtain⟨a,xs,e,t,r⟩:=h
   exact⟨a,xs,e,o _ _ t,ae.j8 o (by unfold PL.bA at n;exact n) r⟩
 |.lst _,_,n,_=>by unfold PL.bA at n;cases n
 |.aC _ _,_,n,_=>by unfold PL.bA at n;cases n
 |.cm _ _ _,_,n,_=>by unfold PL.bA at n;cases n
theorem ae.j8{H2:Hp}{F2:Addr→Prop}(o:∀a xs,cF M H F a xs→cF M H2 F2 a xs):∀ {ds:List D} {xs:List V},eR ds=true→ae M H F ds xs→ae M H2 F2 ds xs
 |[],_,_,h=>by simp only[ae]at h ⊢;exact h
 | d::ds,_,n,h=>by
   unfold eR at n
   rw[Bool.and_eq_true]at n
   simp only[ae]at h ⊢
   obtain⟨x,r,e,h1,h2⟩:=h
   exact⟨x,r,e,Rep.j8 o n.1 h1,ae.j8 o n.2 h2⟩
end
theorem Bd (i:Nat) {e:Expr} {f:Ex} (h:JE X e f):JE X e (mz i f):=by
 intro pins s σ H Q I ⟨ρ,F,d,hr,e,q⟩
 unfold mz at e
 split at e
 · rename_i ks vs q1
   obtain⟨d',ed,e⟩:=ah.mp e
   by_cases hf:PL.bA d'=true
   · rw[if_pos hf]at e
     cases e
     obtain⟨a,kvs,ha,k⟩:=(aP.Az hr).oz q1
     obtain⟨ob,I'⟩:=pq I ha
     obtain⟨F',hF,mv,r'⟩:=k ob
     refine L2.ar (h pins s σ _ _ I' ⟨_,F',_,r'.rs,ed,fun v H1 s1 rv=>(⟨s1,rv⟩:af _ H1∧Rep (aj X) H1 F' d v)⟩) fun u s1 ⟨x,H1,I1,rx,sm,rv⟩=>?_
     have e1:H1 a=some (.frz ob (.dK kvs)):=sm _ _ L2.bC
     refine⟨x,upd H1 a (.dK kvs),Fw I ha I1 e1,rx,q _ _ (fun b o hb=>?_) (Rep.j8 (fun b xs ht=>?_) hf rv)⟩
     · by_cases hba:b=a
       ·subst hba;rw[ha]at hb;cases hb;exact L2.bC
       ·rw[L2.aA hba];exact sm _ _ (by rw[L2.aA hba];exact hb)
     · rcases ht with⟨n,ht⟩|ht
       · have hba:b≠a:=fun z=>by
           subst z
           rcases ht with ht|⟨o,ht⟩
           ·rw[e1]at ht;cases ht
           ·rw[e1]at ht;cases ht
         refine .inl ⟨fun fb=>n (by rw[hF];exact⟨fb,hba⟩),?_⟩
         rcases ht with ht|⟨o,ht⟩
         ·exact .inl (by rw[L2.aA hba];exact ht)
         ·exact .inr ⟨o,by rw[L2.aA hba];exact ht⟩
       ·exact .inr ht
   ·rw[if_neg hf]at e;cases e
 ·cases e
end
end PL
namespace PySem
namespace F
theorem ng:Slot "set_iterator" "__next__" "set_iterator.__next__":=
 .of (owner:="set_iterator") (n:="__next__") (by rw[typeLookup_type,builtinLookup_eq_fast];kernel_rfl) (by decide+kernel) (by decide+kernel) (by decide+kernel)
   (by first|exact .inl (by decide+kernel)|exact .inr (by decide+kernel)) (by rw[isSubtype_type];kernel_rfl)
theorem Ey:entryFor table "set_iterator.__next__"=some Builtin.«set_iterator.__next__»:=entryFor_of_tree (by kernel_rfl)
theorem Bq(a:Value):argsOk "set_iterator.__next__" ⟨[a],[]⟩:=by unfold argsOk;kernel_rfl
theorem AG:entryFor table "set.__iter__"=some Builtin.«frozenset.__iter__»:=
 entryFor_alias (id':="frozenset.__iter__") (by kernel_rfl) rfl (by decide+kernel) (by kernel_rfl)
theorem AS:isSubtype (.type "set") (.type "set")=pure true:=by rw[isSubtype_type];kernel_rfl
theorem Ft:typeLookup (.type "set") "__len__"=pure (some (.builtin "set.__len__")):=slot_set_len.lookup
end F
section
variable{prog:Program}{w:World}{A:Around}{E:Value→Shared→Prop}{s:Shared}{a:Addr}{o:Obj}{ep:Nat}{t:SetTable}
theorem ox{Q:Bool→Shared→Prop}(h:∀b,Q b s):wpAny (model prog w) A setsByText Q E s:=by
 unfold setsByText
 refine wpAny_bind (wpAny_askSetting ?_)
 exact wpAny_pure (h _)
theorem Ap{Q:Bool→Shared→Prop}(ho:s.heap.get? a=some o)(hd:o.data=.set #[] ep t)(hf:t.fits 0=true)(h:Q false s):wpAny (model prog w) A (setDrawn a) Q E s:=by
 unfold setDrawn
 refine wpAny_bind (wpAny_setState_of ho hd hf ?_)
 refine wpAny_bind (ox fun b=>wpAny_pure ?_)
 show Q (!b&&(!t.plain&&decide ((#[]:Array (Int×Value)).size>1))) s
 simpa using h
theorem y3{Q:Array (Int×Value)→Shared→Prop}(ho:s.heap.get? a=some o)(hd:o.data=.set #[] ep t)(hf:t.fits 0=true)(h:Q #[] s):wpAny (model prog w) A (setWalk a) Q E s:=by
 unfold setWalk
 refine wpAny_bind (wpAny_setState_of ho hd hf ?_)
 refine wpAny_bind (ox fun b=>?_)
 cases b with
 | true=>
   simp only[if_true]
   refine wpAny_bind (wpAny_askSetting (wpAny_pure ?_))
   exact h
 | false=>
   simp only[Bool.false_eq_true,if_false]
   have e:(!t.plain&&decide ((#[]:Array (Int×Value)).size>1))=false:=by simp
   show wpAny _ _ (if(!t.plain&&decide ((#[]:Array (Int×Value)).size>1))=true then _ else _) _ _ _
   rw[e,if_neg Bool.false_ne_true]
   have e2:(!t.led&&decide ((#[]:Array (Int×Value)).size>1))=false:=by simp
   show wpAny _ _ ((if(!t.led&&decide ((#[]:Array (Int×Value)).size>1))=true then unsupported "set:maker-not-led" else pure ()) >>= fun _=>pure #[]) _ _ _
   rw[e2,if_neg Bool.false_ne_true]
   exact wpAny_bind (wpAny_pure (wpAny_pure h))
theorem yW{Q:Option (Value×Nat)→Shared→Prop}(ho:s.heap.get? a=some o)(hd:o.data=.set #[] ep t)(hf:t.fits 0=true)(h:Q none s):wpAny (model prog w) A (setNext a 0 0 ep) Q E s:=by
 unfold setNext
 refine wpAny_bind (wpAny_setState_of ho hd hf ?_)
 refine wpAny_bind (ox fun b=>?_)
 cases b with
 | true=>
   simp only[if_true,bne_self_eq_false,Bool.false_eq_true,if_false]
   refine wpAny_bind (y3 ho hd hf (wpAny_pure ?_))
   exact h
 | false=>
   simp only[Bool.false_eq_true,if_false]
   have e:(!t.plain&&decide ((#[]:Array (Int×Value)).size>1))=false:=by simp
   show wpAny _ _ (if(!t.plain&&decide ((#[]:Array (Int×Value)).size>1))=true then _ else _) _ _ _
   rw[e,if_neg Bool.false_ne_true]
   have e2:(!t.led&& !(#[]:Array (Int×Value)).isEmpty)=false:=by simp
   show wpAny _ _ ((if(!t.led&& !(#[]:Array (Int×Value)).isEmpty)=true then unsupported "set:maker-not-led" else pure ()) >>= fun _=>pure none) _ _ _
   rw[e2,if_neg Bool.false_ne_true]
   exact wpAny_bind (wpAny_pure (wpAny_pure h))
theorem EK{Q:Value→Shared→Prop}(ho:s.heap.get? a=some o)(hc:o.cls=.type "set")(hd:o.data=.set #[] ep t)(hf:t.fits 0=true)
   (h:Q (.ref s.heap.objs.size) {s with heap:=s.heap.push {cls:=.type "set_iterator",data:=.fields #[rawInt 0,rawInt 0,.ref a,rawInt 0,rawInt ep]} }):wpAny (model prog w) A (pyIter (.ref a)) Q E s:=by
 have hT:s.TypeIs (.ref a) "set":=⟨o,ho,hc⟩
 refine wpAny_pyIter_slot hT F.slot_set_iter (wpAny_call_entry F.slot_set_iter hT F.AG ?_ (F.args_set_iter_1 _))
 unfold Builtin.«frozenset.__iter__» Builtin.Frozenset.slot0 slotArgs
 simp only[List.isEmpty_nil,Bool.not_true,Bool.false_eq_true, ↓reduceIte,bind_assoc,List.length_nil,bne_self_eq_false]
 unfold Builtin.Frozenset.addrOf Builtin.Frozenset.sizeOf
 refine wpAny_bind (wpAny_pure ?_)
 try dsimp only
 refine wpAny_bind (wpAny_pure ?_)
 refine wpAny_bind (wpAny_bind (wpAny_setEntries_of ho hd hf (wpAny_pure ?_)))
 refine wpAny_bind (Ap ho hd hf ?_)
 simp only[Bool.false_eq_true, ↓reduceIte]
 refine wpAny_bind (wpAny_pure ?_)
 refine wpAny_bind (wpAny_setEpoch_of ho hd hf ?_)
 unfold newFields
 refine wpAny_bind (wpAny_newObj_type ?_ (by size_fits))
 exact wpAny_pure ⟨_,rfl,"set_iterator",_,⟨_,Heap.get?_push_size _ rfl,rfl⟩,F.ng.lookup,h⟩
theorem yJ{it:Addr}{Q:Option Value→Shared→Prop}(hh:A.handled=none)(hi:s.heap.get? it=some {cls:=.type "set_iterator",data:=.fields #[rawInt 0,rawInt 0,.ref a,rawInt 0,rawInt ep]})(ho:s.heap.get? a=some o)(hd:o.data=.set #[] ep t)(hf:t.fits 0=true)
   (hQ:∀h',Heap.ExtBut it s.heap h'→Q none {s with heap:=h'}):wpAny (model prog w) A (pyNext (.ref it)) Q E s:=by
 have hT:s.TypeIs (.ref it) "set_iterator":=⟨_,hi,rfl⟩
 unfold pyNext
 refine wpAny_bind (wpAny_attempt (wpAny_callSpecial?_slot (name:=Str.ofString "__next__") hT F.ng
   (wpAny_call_entry F.ng hT F.Ey ?_ (F.Bq _))))
 unfold Builtin.«set_iterator.__next__» slotArgs
 simp only[List.isEmpty_nil,Bool.not_true,Bool.false_eq_true, ↓reduceIte,bind_assoc,List.length_nil,bne_self_eq_false]
 refine wpAny_bind (wpAny_pure ?_)
 refine wpAny_bind (wpAny_fieldsOf hi rfl ?_)
 show wpAny _ _ (setEntries a >>= _) _ _ _
 refine wpAny_bind (wpAny_setEntries_of ho hd hf ?_)
 show wpAny _ _ (if(((#[]:Array (Int×Value)).size:Int) != 0)=true then _ else _) _ _ _
 rw[if_neg (by simp)]
 show wpAny _ _ (setNext a 0 0 ep >>= _) _ _ _
 refine wpAny_bind (yW ho hd hf ?_)
 refine wpAny_bind (wpAny_setField hi rfl (by simp) ?_)
 show wpAny _ _ (newExc (.type "StopIteration") [] >>= _) _ _ _
 refine wpAny_bind ?_
 simp only[newExc,newTuple]
 refine wpAny_bind (wpAny_newObj_type ?_ (by size_fits))
 refine wpAny_bind (m:=firstArgMember _ _) (wpAny_of_eq (a:=Value.none) (by first|rfl|(simp only[firstArgMember];rfl)) ?_)
 refine wpAny_newObj_type ?_ (by size_fits)
 simp only[raiseNew]
 refine wpAny_bind (wpAny_handled ?_)
 rw[show A.in1.handled=none from hh]
 refine wpAny_bind (wpAny_pure (wpAny_throw ?_))
 refine wpAny_bind (wpAny_isInstance (T:="StopIteration") (b:=true) ⟨_,Heap.get?_push_size _ rfl,rfl⟩ isSubtype_stop ?_)
 exact wpAny_pure (hQ _ ((((Heap.SameBut.update ..).extBut).push _).push _))
theorem we{Q:List Value→Shared→Prop}(hh:A.handled=none)(ho:s.heap.get? a=some o)(hc:o.cls=.type "set")(hd:o.data=.set #[] ep t)(hf:t.fits 0=true)
   (hQ:∀h',(∀b ob,s.heap.get? b=some ob→h'.get? b=some ob)→s.heap.objs.size≤h'.objs.size→Q [] {s with heap:=h'}):wpAny (model prog w) A (collect (.ref a)) Q E s:=by
 have hlt:a<s.heap.objs.size:=Heap.lt_size ho
 unfold collect
 refine wpAny_bind (wpAny_runValue (codeAny_builtin F.entry_proto_collect ?_))
 rw[Around.under_plainId F.plain_proto_collect _]
 show wpAny _ A.in1 (newList [] >>= fun l=>again (.builtin "list.__iadd__" ⟨[l,.ref a],[]⟩)) _ _ s
 refine wpAny_bind (wpAny_newObj_type ?_)
 refine wpAny_pure ⟨plainId_quiet F.plain_list_iadd _,codeAny_builtin F.entry_list_iadd ?_⟩
 rw[Around.under_plainId F.plain_list_iadd _]
 show wpAny _ A.in1 (Builtin.List.listExtendWith (.ref s.heap.objs.size) (.ref a) (.ref s.heap.objs.size)) _ _ _
 unfold Builtin.List.listExtendWith
 have ho1:(s.heap.push {cls:=.type "list",data:=.seq ([]:List Value).toArray}).get? a=some o:=Heap.get?_push_of_some _ ho
 have hS1:(s.heap.push {cls:=.type "list",data:=.seq ([]:List Value).toArray}).get? s.heap.objs.size=some {cls:=.type "list",data:=.seq ([]:List Value).toArray}:=Heap.get?_push_size _ rfl
 have hT1:Shared.TypeIs {s with heap:=s.heap.push {cls:=.type "list",data:=.seq ([]:List Value).toArray} } (.ref a) "set":=⟨o,ho1,hc⟩
 refine wpAny_bind (wpAny_typeOf hT1 ?_)
 have h1:Builtin.List.listSameRef (.ref s.heap.objs.size) (.ref a)=false:=by simp[Builtin.List.listSameRef,Nat.ne_of_gt hlt]
 have h2:(Value.type "set"==Value.type "list")=false:=by decide
 have h3:(Value.type "set"==Value.type "tuple")=false:=by decide
 simp only[h1,h2,h3,Bool.or_false,Bool.false_eq_true,if_false]
 refine wpAny_bind (EK ho1 hc hd hf ?_)
 generalize hp:s.heap.push {cls:=.type "list",data:=.seq ([]:List Value).toArray}=g1 at*
 have hsz:g1.objs.size=s.heap.objs.size+1:=by rw[←hp,Heap.size_push]
 have ho2:=Heap.get?_push_of_some {cls:=.type "set_iterator",data:=.fields #[rawInt 0,rawInt 0,.ref a,rawInt 0,rawInt ep]} ho1
 have hS2:=Heap.get?_push_of_some {cls:=.type "set_iterator",data:=.fields #[rawInt 0,rawInt 0,.ref a,rawInt 0,rawInt ep]} hS1
 have hI2:(g1.push {cls:=.type "set_iterator",data:=.fields #[rawInt 0,rawInt 0,.ref a,rawInt 0,rawInt ep]}).get? g1.objs.size=some {cls:=.type "set_iterator",data:=.fields #[rawInt 0,rawInt 0,.ref a,rawInt 0,rawInt ep]}:=Heap.get?_push_size _ rfl
 have hT2:Shared.TypeIs {s with heap:=g1.push {cls:=.type "set_iterator",data:=.fields #[rawInt 0,rawInt 0,.ref a,rawInt 0,rawInt ep]} } (.ref a) "set":=⟨o,ho2,hc⟩
 have kk:∀b ob,s.heap.get? b=some ob→(g1.push {cls:=.type "set_iterator",data:=.fields #[rawInt 0,rawInt 0,.ref a,rawInt 0,rawInt ep]}).get? b=some ob:=fun b ob e=>Heap.get?_push_of_some _ (by rw[←hp];exact Heap.get?_push_of_some _ e)
 refine wpAny_bind (wpAny_holding ?_)
 unfold Builtin.List.listLengthHint
 refine wpAny_bind (wpAny_specialOf hT2 F.Ft ?_)
 show wpAny _ _ (isInstance (.ref a) (.type "set") >>= _) _ _ _
 refine wpAny_bind (wpAny_isInstance (T:="set") (b:=true) hT2 F.AS ?_)
 simp only[Bool.not_true,Bool.false_eq_true,if_false]
 show wpAny _ _ (typeOf (.ref a) >>= _) _ _ _
 refine wpAny_bind (wpAny_typeOf hT2 (wpAny_pure ?_))
 show wpAny _ A.in1 (rule "list.extend.makes-room" >>= fun _=>Builtin.List.listTouch (.ref s.heap.objs.size) >>= fun _=>
   again (.builtin "list.extend.loop" ⟨[.ref s.heap.objs.size,.ref g1.objs.size,.ref s.heap.objs.size],[]⟩)) _ _ _
 refine wpAny_bind (wpAny_rule ?_)
 refine wpAny_bind ?_
 show wpAny _ A.in1 (updateSeq s.heap.objs.size (·.push .none) >>= fun _=>updateSeq s.heap.objs.size (·.pop)) _ _ _
 refine wpAny_bind (wpAny_updateSeq hS2 rfl ?_)
 have hS3:=Heap.get?_update_self (Obj.mapSeq (·.push Value.none)) hS2 rfl
 refine wpAny_updateSeq hS3 rfl ?_
 have hS4:=Heap.get?_update_self (Obj.mapSeq (·.pop)) hS3 rfl
 have oth:∀b ob,b≠s.heap.objs.size→(g1.push {cls:=.type "set_iterator",data:=.fields #[rawInt 0,rawInt 0,.ref a,rawInt 0,rawInt ep]}).get? b=some ob→
     (((g1.push {cls:=.type "set_iterator",data:=.fields #[rawInt 0,rawInt 0,.ref a,rawInt 0,rawInt ep]}).update s.heap.objs.size (Obj.mapSeq (·.push Value.none))).update s.heap.objs.size (Obj.mapSeq (·.pop))).get? b=some ob:=
   fun b o hb e=>(Heap.get?_update_other _ _ (Ne.symm hb)).trans ((Heap.get?_update_other _ _ (Ne.symm hb)).trans e)
 refine wpAny_pure ⟨plainId_quiet F.plain_extend_loop _,codeAny_builtin F.entry_extend_loop ?_⟩
 rw[Around.under_plainId F.plain_extend_loop _]
 show wpAny _ A.in1 (pyNext (.ref g1.objs.size) >>= _) _ _ _
 have hgS:g1.objs.size≠s.heap.objs.size:=by rw[hsz];exact Nat.succ_ne_self _
 refine wpAny_bind (yJ hh (oth _ _ hgS hI2) (oth _ _ (Nat.ne_of_lt hlt) ho2) hd hf fun h' he=>?_)
 refine wpAny_pure ?_
 show wpAny _ A (load s.heap.objs.size >>= _) _ _ _
 refine wpAny_bind (wpAny_load (he _ _ (Ne.symm hgS) hS4) ?_)
 refine wpAny_pure (hQ h' (fun b ob e=>?_) (Nat.le_of_lt (Heap.lt_size (he _ _ (Ne.symm hgS) hS4))))
 have hb:=Heap.lt_size e
 exact he b ob (by rw[hsz];exact Nat.ne_of_lt (Nat.lt_succ_of_lt hb)) (oth b ob (Nat.ne_of_lt hb) (kk b ob e))
theorem A5{Q:Value→Shared→Prop}(hh:A.handled=none)(ho:s.heap.get? a=some o)(hc:o.cls=.type "set")(hd:o.data=.set #[] ep t)(hf:t.fits 0=true)
   (hQ:∀h' l n,(∀b ob,s.heap.get? b=some ob→h'.get? b=some ob)→s.heap.objs.size≤l→h'.get? l=some {cls:=.type "list",data:=.seq #[] n}→Q (.ref l) {s with heap:=h'}):wpAny (model prog w) A (call (.builtin "sorted") [.ref a]) Q E s:=by
 refine Calls.call_function_entry PyProof.Rows.kind_sorted PyProof.Rows.plain_sorted PyProof.Rows.entry_sorted (PyProof.Rows.args_sorted1 _) ?_
 unfold Builtin.«sorted»
 refine wpAny_bind (m:=checkCount "sorted" 1 1 _) (wpAny_pure ?_)
 refine wpAny_bind (we hh ho hc hd hf fun h' hk hsz=>?_)
 refine wpAny_bind (wpAny_newList ?_)
 have hoL:(h'.push (PyProof.Rows.seqObj "list" #[] 0)).get? h'.objs.size=some (PyProof.Rows.seqObj "list" #[] 0):=Heap.get?_push_size _ rfl
 show wpAny _ _ _ _ _ {s with heap:=h'.push (PyProof.Rows.seqObj "list" #[] 0)}
 refine wpAny_bind (wpAny_holding (wpAny_call_entry PyProof.Rows.slot_list_sort ⟨_,hoL,rfl⟩ PyProof.Rows.entry_list_sort (PyProof.Rows.list_sort_tree (vs:=[]) hoL .nil (by decide) fun out ns' a1 a2 a3=>⟨_,rfl,?_⟩) (PyProof.Rows.args_list_sort _)))
 have eo:out= #[]:=by
   have e1:ns'=[]:=List.Perm.eq_nil a2
   subst e1
   cases a1q:out.toList with
   |nil=>exact Array.toList_eq_nil_iff.mp a1q
   |cons x r=>rw[a1q]at a1;cases a1
 subst eo
 obtain⟨e,he⟩:=PyProof.Rows.sortedHeap_at (vs:=[]) (out:= #[]) hoL
 refine wpAny_pure ⟨_,rfl,hQ _ h'.objs.size e (fun b ob hb=>?_) hsz he⟩
 have hb':=hk b ob hb
 have hlt:=Heap.lt_size hb'
 rw[PyProof.Rows.sortedHeap_old (Nat.ne_of_lt hlt) (by rw[Heap.size_push];exact Nat.lt_succ_of_lt hlt)]
 exact Heap.get?_push_of_some _ hb'
end
end PySem
namespace PL
open PySem PySem.Spec
open L2 (V Hp HO Cx PE PT PW PA PS bJ PG cB VK TE TT TA TS TI TG Inv RelV Vals Rd aN aW upd af Key XK Ends aD eY bp R2 EP It Turn cz Un)
noncomputable def iB:D→D→R D
 |.lst [],.lst []=>.ok (.lst [])
 |_,_=>.bad
noncomputable def ib(a:Ex)(lo hi st:Option Ex):Ex:=fun ρ=>(a ρ).bind fun x=>(gL lo ρ).bind fun _=>(gL hi ρ).bind fun _=>(gL st ρ).bind fun z=>match x,z with
 |.lst [],some k=>if k=0 then .bad else .ok (.lst [])
 |_,_=>.bad
noncomputable def mm:D→R D
 |.lst []=>.ok (.lst [])
 |_=>.bad
noncomputable def mE(fk fv:Ex):Ex:=fun ρ=>(fk ρ).bind fun k=>(fv ρ).bind fun v=>match keyOf k with
 |some q=>.ok (.aC [q] [v])
 |none=>.bad
noncomputable def fR:D→D→R D
 |.aC [k] [.tup [.str a,.aC [] []]],.aC [k'] [.tup [.str b,.aC [] []]]=>.ok (.bl (!(decide (k=k')&&decide (a=b))))
 |_,_=>.bad
section
variable{X:Cx}{M:Md}{G H H':Hp}{F0 F F':Addr→Prop}{σ:L2.St}{ρ:En}{pos:Pos}{pins:List (Addr×Obj)}{s:Shared}
theorem lg{x:V}(h:Rep M H F (.lst []) x):∃a,x=.ref a∧dO M H F a []:=by
 simp only[Rep]at h
 obtain⟨a,xs,e,h,r⟩:=h
 simp only[ae]at r
 subst r
 exact⟨a,e,h⟩
theorem xE{a b:Expr}{fa fb:Ex}{p p2 pos2:Pos}(hc:X.calm=true)(hg:L2.Gl X "list")(hm:X.mg "list"=none)(hg2:L2.Gl X "zip")(hm2:X.mg "zip"=none)(ha:JE X a fa)(hb:JE X b fb)
   (hs0:starEach [.Call (.Name "zip" p2) [a,b] [] pos2] X.env=(false,eval (.Call (.Name "zip" p2) [a,b] [] pos2) X.env)::starEach [] X.env) (hs:starEach [a,b] X.env=(false,eval a X.env)::starEach [b] X.env) (hs2:starEach [b] X.env=(false,eval b X.env)::starEach [] X.env):
   JF X (.Call (.Name "list" p) [.Call (.Name "zip" p2) [a,b] [] pos2] [] pos) (e2 iB fa fb):=by
 intro pins s σ H Q I ⟨ρ,F,ds,hr,e,q⟩
 obtain⟨x,ex,e⟩:=ah.mp e
 obtain⟨y,ey,e⟩:=ah.mp e
 have⟨h1,h2,h3⟩:x=.lst []∧y=.lst []∧ds=[]:=by
   unfold iB at e
   split at e
   ·cases e;exact⟨rfl,rfl,rfl⟩
   ·cases e
 subst h1 h2 h3
 refine wpAny_Call_Name_kw (L2.eM I hg hm gf ?_ (by decide) (by decide))
 refine PyProof.Rows.callWith_type1 ?_ hs0 (by rfl)
 rw[hs0]
 show wpAny _ _ (spliced ((false,eval (.Call (.Name "zip" p2) [a,b] [] pos2) X.env)::backTo pos (starEach [] X.env))) _ _ s
 refine Calls.spliced_cons (wpAny_Call_Name_kw (L2.eM I hg2 hm2 t5 (PyProof.Rows.callWith_type1 (L2.ar ((cy ha (cy hb dF hs2) hs) pos2 pins s σ H _ I ⟨ρ,F,[.lst [],.lst []],hr,by show(fa ρ).bind _=_;rw[ex];show((fb ρ).bind _).bind _=_;rw[ey];rfl,fun vs H1 s1 rv=>(⟨s1,rv⟩:af H H1∧ae (aj X) H1 F [.lst [],.lst []] vs)⟩) fun us s1 ⟨vs,H1,I1,r1,sm1,rv⟩=>?_) hs (by rw[hs2];rfl)) (by decide) (by decide)))
 obtain⟨v1,v2,rfl,rx,ry⟩:=rv.two
 obtain⟨l1,rfl,g1⟩:=lg rx
 obtain⟨l2,rfl,g2⟩:=lg ry
 obtain⟨u1,u2,rfl,ru1,ru2⟩:=L2.vals2 r1
 cases ru1
 cases ru2
 obtain⟨its1,rv1,pl1,_⟩:=I1.list g1.sq
 obtain⟨its2,rv2,pl2,_⟩:=I1.list g2.sq
 cases rv1
 cases rv2
 have hl1:=pl1.isList
 have hl2:=pl2.isList
 refine callType_new PySem.F.called_zip (by decide) (PySem.F.typeCall_zip_2 _ _) (PySem.F.newCall_zip_2 _ _) (fun obj=>PySem.F.args_object_init_3 obj _ _) PySem.F.entry_zip_new (meets_zip_new l1 l2 _ _) ⟨hl1,hl2,?_⟩
 have z1:(zipH1 s1.heap l1).objs.size=s1.heap.objs.size+1:=Heap.size_push ..
 have z2:(zipH2 s1.heap l1 l2).objs.size=s1.heap.objs.size+2:=by rw[Heap.size_push,z1]
 have z3:(zipH3 s1.heap l1 l2).objs.size=s1.heap.objs.size+3:=by rw[Heap.size_push,z2]
 have z4:(zipH4 s1.heap l1 l2).objs.size=s1.heap.objs.size+4:=by rw[Heap.size_push,z3]
 have z5:(zipH5 s1.heap l1 l2).objs.size=s1.heap.objs.size+5:=by rw[Heap.size_push,z4]
 have g5:(zipH5 s1.heap l1 l2).get? (zipH4 s1.heap l1 l2).objs.size=some _:=Heap.get?_push_size _ rfl
 have g4:(zipH5 s1.heap l1 l2).get? (zipH3 s1.heap l1 l2).objs.size=some _:=Heap.get?_push_of_some _ (Heap.get?_push_size _ rfl)
 have g3:(zipH5 s1.heap l1 l2).get? (zipH2 s1.heap l1 l2).objs.size=some _:=Heap.get?_push_of_some _ (Heap.get?_push_of_some _ (Heap.get?_push_size _ rfl))
 have g2:(zipH5 s1.heap l1 l2).get? (zipH1 s1.heap l1).objs.size=some _:=Heap.get?_push_of_some _ (Heap.get?_push_of_some _ (Heap.get?_push_of_some _ (Heap.get?_push_size _ rfl)))
 have g1:(zipH5 s1.heap l1 l2).get? s1.heap.objs.size=some _:=Heap.get?_push_of_some _ (Heap.get?_push_of_some _ (Heap.get?_push_of_some _ (Heap.get?_push_of_some _ (Heap.get?_push_size _ rfl))))
 have old:∀c o,s1.heap.get? c=some o→(zipH5 s1.heap l1 l2).get? c=some o:=fun c o x=>Heap.get?_push_of_some _ (Heap.get?_push_of_some _ (Heap.get?_push_of_some _ (Heap.get?_push_of_some _ (Heap.get?_push_of_some _ x))))
 have lt1:l1<s1.heap.objs.size:=by obtain⟨o,e,_⟩:=id hl1;exact Heap.lt_size e
 have lt2:l2<s1.heap.objs.size:=by obtain⟨o,e,_⟩:=id hl2;exact Heap.lt_size e
 refine⟨⟨_,g5,rfl⟩,Calls.spliced_nil ?_⟩
 have up:∀ {l:Addr} {xs:Array Value},s1.heap.IsList l xs→(zipH5 s1.heap l1 l2).IsList l xs:=fun h=>let⟨o,e,r⟩:=h;⟨o,old _ _ e,r⟩
 have hh:X.A.handled=none:=I.ok.hd hc
 rw[z2,z3,z4]at g5
 rw[z1,z2]at g3
 rw[z3]at g4
 rw[z1]at g2
 rw[z4]
 refine Co hh ?_ g5 g3 g4 ⟨_,g1,rfl,rfl⟩ ⟨_,g2,rfl,rfl⟩ (up hl1) (up hl2) (.inl (by simp)) fun h' c hk hg=>?_
 · have a1:=Nat.ne_of_lt lt1
   have a2:=Nat.ne_of_lt lt2
   have b1:∀k,l1≠s1.heap.objs.size+k:=fun k=>Nat.ne_of_lt (Nat.lt_of_lt_of_le lt1 (Nat.le_add_right _ _))
   have b2:∀k,l2≠s1.heap.objs.size+k:=fun k=>Nat.ne_of_lt (Nat.lt_of_lt_of_le lt2 (Nat.le_add_right _ _))
   constructor<;>first|exact a1|exact a2|exact b1 _|exact b2 _|(intro z;have z':(_:Nat)=_:=z;omega)
 · have z5':Shared.heap {s1 with heap:=zipH5 s1.heap l1 l2}=zipH5 s1.heap l1 l2:=rfl
   rw[z5',z5]at hg
   have I3:=I1.laid (a:=s1.heap.objs.size+5) (o:=.lst []) (h':=h') (t':=s1.toks) (fun b o hb=>?_) (Nat.le_add_right _ _) ⟨Nat.zero_le _,[],c,.nil,hg⟩
   · show EP X pins σ Q (.ref (zipH5 s1.heap l1 l2).objs.size) _
     rw[z5]
     exact⟨.ref _,_,I3,rfl,q _ H1 [] sm1 (I1.au.fresh (Nat.le_add_right _ _)) ae.nil⟩
   · have hb':b<s1.heap.objs.size:=Heap.lt_size hb
     have nb:∀k,b≠s1.heap.objs.size+k:=fun k=>Nat.ne_of_lt (Nat.lt_of_lt_of_le hb' (Nat.le_add_right _ _))
     exact hk b o (nb 4) (nb 3) (Nat.ne_of_lt hb') (nb 1) (old b o hb)
theorem C1{fa fb:Ex}(ρ:En)(d:D)(h:e2 iB fa fb ρ=.ok d):∃ds,d=.lst ds:=by
 obtain⟨x,ex,e⟩:=ah.mp h
 obtain⟨y,ey,e⟩:=ah.mp e
 unfold iB at e
 split at e
 ·cases e;exact⟨_,rfl⟩
 ·cases e
theorem x5{e st:Expr}{lo hi:Option Expr}{fa:Ex}{fl fh fs:Option Ex}{p2:Pos}(ha:JE X e fa)(hl:JO X lo fl)(hh:JO X hi fh)(hs:JO X (some st) fs):JF X (.Subscript e (.Slice lo hi (some st) p2) pos) (ib fa fl fh fs):=by
 intro pins s σ H Q I ⟨ρ,F,ds,hr,e,q⟩
 obtain⟨x,ex,e⟩:=ah.mp e
 obtain⟨l,el,e⟩:=ah.mp e
 obtain⟨u,eu,e⟩:=ah.mp e
 obtain⟨z,ez,e⟩:=ah.mp e
 have⟨k,h1,h2,h3,h4⟩:∃k,x=.lst []∧z=some k∧k≠0∧ds=[]:=by
   split at e
   · split at e
     ·cases e
     ·rename_i hk;cases e;exact⟨_,rfl,rfl,hk,rfl⟩
   ·cases e
 subst h1 h2 h4
 refine PyProof.Rows.Subscript_ (L2.ar (ha pins s σ H _ I ⟨ρ,F,_,hr,ex,fun v H1 s1 rv=>(⟨s1,rv⟩:af H H1∧Rep (aj X) H1 F (.lst []) v)⟩) fun v s1 ⟨x,H1,I1,r1,sm1,rv⟩=>?_)
 refine wpAny_Slice (L2.ar (hl pins s1 σ H1 (fun _ H'=>af H1 H') I1 ⟨ρ,F,_,hr.same sm1,el,fun H2 s2=>s2⟩) fun vl s2 ⟨o1,H2,I2,pl,sm2⟩=>L2.ar (hh pins s2 σ H2 (fun _ H'=>af H2 H') I2 ⟨ρ,F,_,(hr.same sm1).same sm2,eu,fun H3 s3=>s3⟩) fun vu s3 ⟨o2,H3,I3,pu,sm3⟩=>
   L2.ar (hs pins s3 σ H3 (fun o' H'=>o'=some k∧af H3 H') I3 ⟨ρ,F,_,((hr.same sm1).same sm2).same sm3,ez,fun H4 s4=>⟨rfl,s4⟩⟩) fun vs s4 ⟨o3,H4,I4,ps,eo3,sm4⟩=>?_)
 subst eo3
 obtain⟨a,rfl,h1⟩:=lg (rv.mv (M:=aj X) (F':=F) (.same ((sm2.trans sm3).trans sm4)))
 cases r1
 have I5:Inv X pins σ H4 {s4 with heap:=s4.heap.push {cls:=.type "slice",data:=.fields #[vl,vu,vs]} }:=I4.kept (t':=s4.toks) fun b ob q=>Heap.get?_push_of_some _ q
 obtain⟨its,rvs,pls,hz⟩:=I5.list h1.sq
 cases rvs
 have hpick:slicePick (List.toArray ([]:List Value)) o1 o2 (some k)= #[]:=Array.size_eq_zero_iff.mp (Nat.le_zero.mp (slicePick_size_le _ o1 o2 (some k)))
 refine PyProof.Rows.tail_any (ops:=[.ref a,.ref s4.heap.objs.size]) pls.isList.typeIs list_getitem_lookup (wpAny_getItem_list_slice pls.isList (Heap.IsSliceOf.new ..) pl pu ps (by simpa using h3) ?_ (Nat.zero_le _)) (by with_unfolding_all rfl)
 rw[hpick]
 have I6:=I5.pE (t':=s4.toks) (ys:=[]) (its:=[]) .nil (Nat.zero_le _)
 exact⟨.ref _,_,I6,rfl,q _ H4 [] (((sm1.trans sm2).trans sm3).trans sm4) I5.fresh ae.nil⟩
theorem qA{fa:Ex}{fl fh fs:Option Ex}(ρ:En)(d:D)(h:ib fa fl fh fs ρ=.ok d):∃ds,d=.lst ds:=by
 obtain⟨x,ex,e⟩:=ah.mp h
 obtain⟨l,el,e⟩:=ah.mp e
 obtain⟨u,eu,e⟩:=ah.mp e
 obtain⟨z,ez,e⟩:=ah.mp e
 split at e
 · split at e
   ·cases e
   ·cases e;exact⟨_,rfl⟩
 ·cases e
theorem zN(hc:X.calm=true):bp X (.builtin "sorted") (fun xs H Q=>∃p S,xs=[.ref p]∧H p=some (.set S 0)∧∀l,H l=none→Q (.ref l) (upd H l (.lst []))):=by
 intro pins s σ H xs us Q I r h
 obtain⟨p,S,rfl,hq,q⟩:=h
 obtain⟨u,rfl,ru⟩:=L2.vals1 r
 cases ru
 have hS:s.heap.SetOf (intKind X.prog X.w) p S 0:=I.au p _ hq
 obtain⟨o,es,ep,t,ho,hex,hd,_,_,_,hf,hn⟩:=hS
 have he:es= #[]:=Array.size_eq_zero_iff.mp hn
 subst he
 refine A5 (I.ok.hd hc) ho hex.1 hd hf fun h' l n hk hl hg=>?_
 exact⟨.ref l,_,I.laid (a:=l) (o:=.lst []) (t':=s.toks) hk hl ⟨Nat.zero_le _,[],n,.nil,hg⟩,rfl,q _ (I.au.fresh hl)⟩
theorem GD{a:Expr}{fa:Ex}{p p2 pos2:Pos}(hc:X.calm=true)(hg:L2.Gl X "sorted")(hm:X.mg "sorted"=none)(hg2:L2.Gl X "set")(hm2:X.mg "set"=none)(ha:JE X a fa)(hs:starEach [.Call (.Name "set" p2) [a] [] pos2] X.env=(false,eval (.Call (.Name "set" p2) [a] [] pos2) X.env)::starEach [] X.env)(hs2:starEach [a] X.env=(false,eval a X.env)::starEach [] X.env):
   JE X (.Call (.Name "sorted" p) [.Call (.Name "set" p2) [a] [] pos2] [] pos) (e1 mm fa):=
 bj (L2.jT (zN hc) hg hm Fz (L2.gx (L2.kd (tR hc) hg2 hm2 sd (cy ha dF hs2) (by decide) (by decide) hs2) L2.ic hs) (by decide) (by decide) hs) fun σ H Q ⟨ρ,F,d,hr,e,q⟩=>by
   obtain⟨d1,ed,e⟩:=ah.mp e
   unfold mm at e
   split at e
   · cases e
     refine⟨ρ,F,[.lst []],hr,by show(fa ρ).bind _=_;rw[ed];rfl,fun vs H1 s1 rv=>?_⟩
     obtain⟨y,rfl,ry⟩:=rv.one
     obtain⟨a,rfl,h1⟩:=lg ry
     refine⟨a,[],rfl,h1.sq,Nat.zero_le _,fun l hl=>⟨l,_,rfl,L2.bC,fun l2 hl2=>?_⟩⟩
     have sm:=s1.trans (af.bI hl (.set (fun k=>(PyProof.Rows.firstMet (fun i=>([]:List Int).getD i 0) ([]:List Int).length).any (· ==k)) (unlike [])))
     exact q _ _ (sm.trans (af.bI hl2 _)) (gp (hr.same sm).aM hl2 ae.nil)
   ·cases e
theorem vT{k v:Expr}{fk fv:Ex}(hk:JE X k fk)(hv:JE X v fv):JE X (.Dict [some k] [v] pos) (mE fk fv):=by
 refine mL (L2.BP (L2.Bz hk hv L2.AJ) rfl rfl (by simp) (by show 1≤15;decide)) fun σ H Q ⟨ρ,F,d,hr,e,q⟩=>?_
 obtain⟨a,ea,e⟩:=ah.mp e
 obtain⟨b,eb,e⟩:=ah.mp e
 split at e
 · rename_i z hz
   cases e
   intro p hp
   have hfr:=hr.fresh (o:=.dK []) hp
   refine⟨ρ,_,a,hfr,ea,fun x H1 s1 rx=>⟨ρ,_,b,hfr.same s1,eb,fun y H2 s2 ry=>?_⟩⟩
   cases i7 hz rx
   have e2:H2 p=some (.dK []):=s2 _ _ (s1 _ _ L2.bC)
   refine⟨e2,[(z,y)],rfl,(by show 1≤15;decide),p,[(z,y)],rfl,L2.bC,fun ob=>?_⟩
   rw[L2.o8]
   have sm:af H (upd H2 p (.frz ob (.dK [(z,y)]))):=fun c u hc=>by
     have ne:c≠p:=fun w=>by subst w;rw[hp]at hc;cases hc
     rw[L2.aA ne]
     exact s2 _ _ (s1 _ _ (by rw[L2.aA ne];exact hc))
   have nF:¬F p:=kg hr.aM hp
   have mv:Mv (fun b=>F b∨b=p) H2 F (upd H2 p (.frz ob (.dK [(z,y)]))):=fun b u n e=>⟨fun h=>n (.inl h),by rw[L2.aA (fun z=>n (.inr z))];exact e⟩
   refine q _ _ sm ?_
   simp only[Rep]
   exact⟨p,[y],rfl,.inl ⟨nF,ob,L2.bC⟩,rfl,ae.cons (ry.mv mv) ae.nil⟩
 ·cases e
theorem Gw{fa fb:Ex}(ρ:En)(d:D)(h:e2 ft fa fb ρ=.ok d):∃ds,d=.lst ds:=by
 obtain⟨x,ex,e⟩:=ah.mp h
 obtain⟨y,ey,e⟩:=ah.mp e
 unfold ft at e
 split at e
 · split at e
   ·cases e;exact⟨_,rfl⟩
   ·cases e
 ·cases e
noncomputable def ni(M:Md)(H:Hp)(F:Addr→Prop)(x:V)(k:Key)(a:Str):Prop:=∃p t e,x=.ref p∧fU M H F p [(k,.ref t)]∧cF M H F t [.str a,.ref e]∧fU M H F e []
noncomputable def ug(M:Md):R2:=fun x y H Q=>∃F k k' a b,ni M H F x k a∧ni M H F y k' b∧Q (.bl (!(decide (k=k')&&decide (a=b)))) H
theorem p8{K:Type} [DecidableEq K] {P:Program} {w:World} {knd:KeyKind P w K} {h:Heap} {a:Addr} (d:h.DictOf knd a []) (P2:Program) (w2:World):h.DictOf (L2.bt P2 w2) a []:=by
 obtain⟨o,es,ep,ho,hex,hd,hk,hp,hn⟩:=d
 have e:es= #[]:=by
   have:=hp.length
   exact Array.toList_eq_nil_iff.mp (List.length_eq_zero_iff.mp this)
 subst e
 exact⟨o, #[],ep,ho,hex,hd,fun e he=>by simp at he,.nil,by simp⟩
theorem zC{K:Type} [DecidableEq K] {P:Program} {w:World} {knd:KeyKind P w K} {A:Around} {a b:Addr} (da:s.heap.DictOf knd a []) (db:s.heap.DictOf knd b []) (ha:(a==sysModules)=false) (hb:(b==sysModules)=false) (hu:A.units<cLine):SeqAt.EqAt A s (.ref a) (.ref b) true:=by
 by_cases h:a=b
 ·subst h;exact .same _
 ·exact .of_refs h fun P2 w2 E Q hq=>PySem.W.keq_eq (r:=true) ha hb (p8 da P2 w2) (p8 db P2 w2) hu (fun _=>.nil) (by simpa using hq)
theorem Ag(hu:X.A.units+64<cLine):aD X (compareOp .NotEq) (ug (aj X)):=by
 intro pins s σ H x y v u Q I rx ry h
 obtain⟨F,k,k',a,b,⟨p,t,e,rfl,hp,ht,he⟩,⟨p',t',e',rfl,hp',ht',he'⟩,q⟩:=h
 cases rx
 cases ry
 obtain⟨_,hs1,ws,rel,dd⟩:=gY I hp
 obtain⟨_,hs2,ws',rel',dd'⟩:=gY I hp'
 obtain⟨_,hs3,zs,rel3,dd3⟩:=gY I he
 obtain⟨_,hs4,zs',rel4,dd4⟩:=gY I he'
 cases rel3
 cases rel4
 have one:∀ {k:Key} {t:Addr} {ws:List (Key×Value)},L2.KV [(k,V.ref t)] ws→ws=[(k,.ref t)]:=fun {k t ws} r=>by
   unfold L2.KV at r
   cases r with
   | @cons p q ps qs h r=>
     cases r
     obtain⟨q1,q2⟩:=q
     obtain⟨h1,h2⟩:=h
     cases h1
     cases h2
     rfl
 cases one rel
 cases one rel'
 obtain⟨ts,tv,tt,_⟩:=hW I ht
 obtain⟨ts',tv',tt',_⟩:=hW I ht'
 obtain⟨u1,u2,rfl,ru1,ru2⟩:=L2.vals2 tv
 obtain⟨u1',u2',rfl,ru1',ru2'⟩:=L2.vals2 tv'
 obtain⟨k1,rfl⟩:=ru1
 obtain⟨k2,rfl⟩:=ru1'
 cases ru2
 cases ru2'
 have hu1:X.A.in1.units<cLine:=by rw[PySem.Around.in1_units];omega
 have hu2:X.A.in1.in1.units<cLine:=by rw[PySem.Around.in1_units,PySem.Around.in1_units];omega
 have et:SeqAt.EqAt X.A.in1 s (.ref t) (.ref t') (decide (a=b)):=by
   by_cases htt:t=t'
   · subst htt
     have eab:a=b:=by
       obtain⟨o1,ho1,_,n1,hd1⟩:=tt
       obtain⟨o2,ho2,_,n2,hd2⟩:=tt'
       rw[ho1]at ho2;cases ho2
       rw[hd1]at hd2;cases hd2;rfl
     rw[decide_eq_true eab]
     exact .same _
   · refine .of_refs htt ?_
     have:=SeqAt.RcAt.tuples (A:=X.A.in1) (s:=s) (e:=fun j=>if j=0 then decide (a=b)else true) tt tt' hu1 (fun j h1 h2=>?_)
     · have e0:((List.range (min (List.toArray [Value.str a k1,Value.ref e]).size (List.toArray [Value.str b k2,Value.ref e']).size)).all (fun j=>if j=0 then decide (a=b)else true)&&(List.toArray [Value.str a k1,Value.ref e]).size==(List.toArray [Value.str b k2,Value.ref e']).size)=decide (a=b):=by
         show((List.range 2).all (fun j=>if j=0 then decide (a=b)else true)&&(2==2))=_
         simp[List.range_succ]
       rw[e0]at this
       exact this
     · match j,h1,h2 with
       |0,_,_=>exact SeqAt.EqAt.str_str a k1 b k2
       |1,_,_=>exact zC dd3 dd4 hs3 hs4 hu2
       |j+2,h1,_=>exact absurd h1 (by simp)
 refine PySem.W.keq_ne (r:=decide (k=k')&&decide (a=b)) hs1 hs2 dd dd' (Nat.lt_of_le_of_lt (Nat.le_add_right _ 64) hu) (fun _=>?_) ⟨.bl _,H,I,rfl,by simpa using q⟩
 by_cases hk:k=k'
 · subst hk
   have:PySem.W.KeqHits X.A.in1 s [(k,Value.ref t')] [(k,Value.ref t)] (decide (a=b)&&true):=.hit (by simp[valueAt]) et .nil
   simpa using this
 · have:PySem.W.KeqHits X.A.in1 s [(k',Value.ref t')] [(k,Value.ref t)] false:=.miss (by simp[valueAt,Ne.symm hk])
   simpa[hk] using this
theorem Fp{a b d:D}(h:fR a b=.ok d):∃k,d=.bl k:=by
 unfold fR at h
 split at h
 ·cases h;exact⟨_,rfl⟩
 ·cases h
theorem xk:d6 fR:=fun a b d h=>Fp h
theorem qw{x:V}{k:Ky}{a:Str}(h:Rep M H F (.aC [k] [.tup [.str a,.aC [] []]]) x):ni M H F x k a:=by
 simp only[Rep]at h
 obtain⟨p,xs,rfl,h1,hl,rs⟩:=h
 obtain⟨y,rfl,ry⟩:=rs.one
 simp only[Rep]at ry
 obtain⟨t,ys,rfl,h2,r2⟩:=ry
 obtain⟨z1,z2,rfl,rz1,rz2⟩:=r2.two
 cases dG rz1
 simp only[Rep]at rz2
 obtain⟨e,ws,rfl,h3,hl3,r3⟩:=rz2
 simp only[ae]at r3
 subst r3
 exact⟨p,t,e,rfl,h1,h2,h3⟩
theorem FO:bh M fR (ug M):=by
 intro F H x y a b d Q tr ra rb e q
 unfold fR at e
 split at e
 · cases e
   exact⟨F,_,_,_,_,qw ra,qw rb,q _ _ (af.refl _) bW⟩
 ·cases e
end
structure XE(X:Cx)(e:Expr)(f:Ex):Prop where
 out:JE X e f
structure XF(X:Cx)(e:Expr)(f:Ex):Prop where
 out:JF X e f
structure XT(X:Cx)(e:Expr)(f:aG):Prop where
 out:JT X e f
structure XW(X:Cx)(e:Expr)(f:aG):Prop where
 out:JW X e f
structure XA(X:Cx)(e:List Expr)(f:En→R (List D)):Prop where
 out:JA X e f
structure XO(X:Cx)(e:Option Expr)(f:Option Ex):Prop where
 out:JO X e f
structure XS(X:Cx)(e:Stmt)(f:Sm):Prop where
 out:JS X e f
structure eI(X:Cx)(e:List Stmt)(f:Sm):Prop where
 out:cT X e f
structure XG(X:Cx)(e:Expr)(f:bN):Prop where
 out:JG X e f
structure lr(X:Cx)(e:List Expr)(f:List D→En→R En):Prop where
 out:jL X e f
structure jA(X:Cx)(e:List Expr)(f:List aG):Prop where
 out:jO X e f
structure XP(X:Cx)(pos:Pos)(keys:List (Option Expr))(values:List Expr)(ks:List Ky)(fs:List Ex):Prop where
 out:JP X pos keys values ks fs
structure XI(X:Cx)(tg e:Expr)(f:br):Prop where
 out:JI X tg e f
structure iJ(X:Cx)(i:Nat)(e:Stmt)(f:Sm):Prop where
 out:JK X i e f
structure gD(X:Cx)(i:Nat)(e:List Stmt)(f:Sm):Prop where
 out:eK X i e f
structure XD(X:Cx)(e:Expr)(f:Ex):Prop where
 out:JD X e f
theorem ab{X:L2.Cx}{pos:Pos}(i:Nat){x:Str}(hN:X.N[i]? =some x:=by rfl)(hv:L2.bS X.env.scope x:=by first|exact Or.inl rfl|exact Or.inr (Or.inl rfl)|exact Or.inr (Or.inr rfl))(hd:(x==("__debug__":Str))=false:=by decide)(hcd:(x==("__classdict__":Str))=false:=by decide):XE X (.Name x pos) (aa i):=⟨Aw i hN hv hd hcd⟩
theorem aw{X:L2.Cx}{pos:Pos}{i:Int}{j:Nat}:XE X (.Constant (.int i) j pos) (eC (.int i)):=⟨Ay ⟩
theorem bR{X:L2.Cx}{pos:Pos}{b:Bool}{j:Nat}:XE X (.Constant (.bool b) j pos) (eC (.bl b)):=⟨E1 ⟩
theorem tJ{X:L2.Cx}{pos:Pos}{j:Nat}:XE X (.Constant .none j pos) (eC .av):=⟨GC ⟩
theorem d9{X:L2.Cx}{pos:Pos}{x:Str}{j:Nat}:XE X (.Constant (.str x) j pos) (eC (.str x)):=⟨Gn ⟩
theorem aK{X:L2.Cx}{pos:Pos}{op:Operator}{g:D→D→R D}{r:R2}{a b:Expr}{fa fb:Ex}(ho:aD X (binaryOp op) r)(hg:bh (aj X) g r)(ha:XE X a fa)(hb:XE X b fb):XE X (.BinOp a op b pos) (e2 g fa fb):=⟨ye ho hg ha.out hb.out⟩
theorem gh{X:L2.Cx}{pos:Pos}{op:CmpOp}{g:D→D→R D}{r:R2}{a b:Expr}{fa fb:Ex}(ho:aD X (compareOp op) r)(hg:bh (aj X) g r)(ha:XE X a fa)(hb:XE X b fb)(hm:behindInMarks op b=false:=by first|exact L2.qz _|rfl):XE X (.Compare a [op] [b] pos) (e2 g fa fb):=⟨Fi ho hg ha.out hb.out hm⟩
theorem z0{X:L2.Cx}{pos:Pos}{j:Nat}{p2:Pos}{a:Expr}{fa:Ex}(ha:XE X a fa):XE X (.Compare a [.Is] [.Constant .none j p2] pos) (e1 mG fa):=⟨FJ ha.out⟩
theorem ku{X:L2.Cx}{pos:Pos}{op:BoolOp}{a:Expr}{fa:Ex}(h:XE X a fa):XE X (.BoolOp op [a] pos) fa:=⟨zA h.out⟩
theorem kB{X:L2.Cx}{pos:Pos}{a b:Expr}{rest:List Expr}{fa fb:Ex}(ha:XE X a fa)(hb:XE X (.BoolOp .And (b::rest) pos) fb):XE X (.BoolOp .And (a::b::rest) pos) (fJ fa fb):=⟨yE ha.out hb.out⟩
theorem zK{X:L2.Cx}{pos:Pos}{op op':CmpOp}{g g':D→D→R D}{r r':R2}{a b c:Expr}{fa fb fc:Ex}(ho:aD X (compareOp op) r)(ho':aD X (compareOp op') r')(hg:bh (aj X) g r)(hg':bh (aj X) g' r')(ha:XE X a fa)(hb:XE X b fb)(hc:XE X c fc)(hm:lastMarks [op,op'] [b,c]=false:=by with_unfolding_all rfl):XE X (.Compare a [op,op'] [b,c] pos) (eG g g' fa fb fc):=⟨CN ho ho' hg hg' ha.out hb.out hc.out hm⟩
theorem dH{X:L2.Cx}{a:Expr}{fa:Ex}(ha:XE X a fa)(he:∀whole,isTrue a X.env whole=(do let v ←whole;standAt a.pos;holding [v] (truthy v)):=by exact uM (by rfl)):XT X a (tV fa):=⟨ym ha.out he⟩
theorem bD{X:L2.Cx}{pos:Pos}{op:CmpOp}{g:D→D→R D}{r:R2}{a b:Expr}{fa fb:Ex}(ho:aD X (compareOp op) r)(hg:bh (aj X) g r)(hB:d6 g)(ha:XE X a fa)(hb:XE X b fb)(hm:behindInMarks op b=false:=by first|exact L2.qz _|rfl):XT X (.Compare a [op] [b] pos) (tV (e2 g fa fb)):=⟨ze ho hg hB ha.out hb.out hm⟩
theorem qv{X:L2.Cx}{pos:Pos}{j:Nat}{p2:Pos}{a:Expr}{fa:Ex}(ha:XE X a fa):XT X (.Compare a [.IsNot] [.Constant .none j p2] pos) (tV (e1 jm fa)):=⟨Ei ha.out⟩
theorem oh{X:L2.Cx}{pos:Pos}{op op':CmpOp}{g g':D→D→R D}{r r':R2}{a b c:Expr}{fa fb fc:Ex}(ho:aD X (compareOp op) r)(ho':aD X (compareOp op') r')(hg:bh (aj X) g r)(hg':bh (aj X) g' r')(hB:d6 g')(ha:XE X a fa)(hb:XE X b fb)(hc:XE X c fc)(hm:lastMarks [op,op'] [b,c]=false:=by with_unfolding_all rfl):XT X (.Compare a [op,op'] [b,c] pos) (tV (eG g g' fa fb fc)):=⟨xW ho ho' hg hg' hB ha.out hb.out hc.out hm⟩
theorem dJ{X:L2.Cx}{pos:Pos}{a:Expr}{c:aG}(ha:XT X a c):XT X (.UnaryOp .Not a pos) (bV c):=⟨El ha.out⟩
theorem fL{X:L2.Cx}{pos:Pos}{a:Expr}{c:aG}(ha:XT X a c):XW X (.BoolOp .Or [a] pos) c:=⟨wF ha.out⟩
theorem eW{X:L2.Cx}{pos:Pos}{a b:Expr}{rest:List Expr}{c c':aG}(ha:XT X a c)(hb:XW X (.BoolOp .Or (b::rest) pos) c'):XW X (.BoolOp .Or (a::b::rest) pos) (bY c c'):=⟨yl ha.out hb.out⟩
theorem fN{X:L2.Cx}{e:Expr}{c:aG}(h:XW X e c):XT X e c:=⟨EO h.out⟩
theorem B1{X:L2.Cx}{pos:Pos}{a:Expr}{fa:Ex}(ha:XE X a fa):XE X (.UnaryOp .Not a pos) (e1 kq fa):=⟨xH ha.out⟩
theorem og{X:L2.Cx}{pos:Pos}{c a b:Expr}{fc:aG}{fa fb:Ex}(hc:XT X c fc)(ha:XE X a fa)(hb:XE X b fb):XE X (.IfExp c a b pos) (g8 fc fa fb):=⟨xi hc.out ha.out hb.out⟩
theorem aq{X:L2.Cx}:XA X [] (eList []):=⟨dF ⟩
theorem ag{X:L2.Cx}{e:Expr}{es:List Expr}{f:Ex}{fs:List Ex}(ha:XE X e f)(hr:XA X es (eList fs))(hs:starEach (e::es) X.env=(false,eval e X.env)::starEach es X.env:=by exact aS (by rfl)):XA X (e::es) (eList (f::fs)):=⟨cy ha.out hr.out hs⟩
theorem ie{X:L2.Cx}{pos:Pos}{es:List Expr}{fs:List Ex}{k:Nat}(h:XA X es (eList fs))(hl:fs.length≤1000:=by decide):XE X (.Tuple es k pos) (en fs):=⟨CK h.out hl⟩
theorem cE{X:L2.Cx}{pos:Pos}{es:List Expr}{fs:List Ex}(h:XA X es (eList fs))(hl:fs.length≤1000:=by decide):XE X (.List es pos) (bH fs):=⟨Bu h.out hl⟩
theorem CA{X:L2.Cx}{pos:Pos}:XE X (.Dict [] [] pos) (gm [] []):=⟨xj ⟩
theorem eZ{X:L2.Cx}:XO X none none:=⟨AZ ⟩
theorem bG{X:L2.Cx}{e:Expr}{f:Ex}(h:XE X e f):XO X (some e) (some f):=⟨xQ h.out⟩
theorem dI{X:L2.Cx}{pos:Pos}{a:Expr}{lo hi:Option Expr}{fa:Ex}{fl fh:Option Ex}{p2:Pos}(ha:XE X a fa)(hl:XO X lo fl)(hh:XO X hi fh):XE X (.Subscript a (.Slice lo hi none p2) pos) (b6 fa fl fh):=⟨Di ha.out hl.out hh.out⟩
theorem ck{X:L2.Cx}{pos:Pos}{g:D→R D}{r:List V→Hp→VK→Prop}{x:Str}{id:String}{a:Expr}{fa:Ex}{p:Pos}(hc:bp X (.builtin id) r)(hg:eE (aj X) (g1 g) r)(hm:X.mg x=none)(hv:bootBuiltins x=some (.builtin id))(ha:XE X a fa)(hgl:L2.Gl X x:=by rfl)(hs:starEach [a] X.env=(false,eval a X.env)::starEach [] X.env:=by exact aS (by rfl))(hn:x≠"__name__":=by decide)(hdb:(x==("__debug__":Str))=false:=by decide):XE X (.Call (.Name x p) [a] [] pos) (e1 g fa):=⟨xf hc hg hgl hm hv ha.out hs hn hdb⟩
theorem gP{X:L2.Cx}{pos:Pos}{g:D→R D}{r:List V→Hp→VK→Prop}{x:Str}{T:String}{a:Expr}{fa:Ex}{p:Pos}(hc:bp X (.type T) r)(hg:eE (aj X) (g1 g) r)(hm:X.mg x=none)(hv:bootBuiltins x=some (.type T))(ha:XE X a fa)(hgl:L2.Gl X x:=by rfl)(hs:starEach [a] X.env=(false,eval a X.env)::starEach [] X.env:=by exact aS (by rfl))(hn:x≠"__name__":=by decide)(hdb:(x==("__debug__":Str))=false:=by decide):XE X (.Call (.Name x p) [a] [] pos) (e1 g fa):=⟨EC hc hg hgl hm hv ha.out hs hn hdb⟩
theorem gB{X:L2.Cx}{pos:Pos}(ty:Ty){a:Expr}{fa:Ex}{p p2:Pos}{T:Str}(ha:XE X a fa)(hm:X.mg "isinstance"=none)(hmT:X.mg T=none)(hvT:bootBuiltins T=some (.type (jx ty)))(hg:L2.Gl X "isinstance":=by rfl)(hgT:L2.Gl X T:=by rfl)(hs:starEach [a,.Name T p2] X.env=(false,eval a X.env)::starEach [.Name T p2] X.env:=by exact aS (by rfl))(hs2:starEach [.Name T p2] X.env=(false,eval (.Name T p2) X.env)::starEach [] X.env:=by exact aS (by rfl))(hnT:T≠"__name__":=by decide)(hdT:(T==("__debug__":Str))=false:=by decide):XE X (.Call (.Name "isinstance" p) [a,.Name T p2] [] pos) (e1 (dh ty) fa):=⟨ya ty ha.out hg hm hgT hmT hvT hs hs2 hnT hdT⟩
theorem b9{X:L2.Cx}:eI X [] (aJ []):=⟨qJ ⟩
theorem bF{X:L2.Cx}:eI X [] ba:=⟨BK ⟩
theorem ak{X:L2.Cx}{st:Stmt}{rest:List Stmt}{f:Sm}{fs:List Sm}(h1:XS X st f)(h2:eI X rest (aJ fs)):eI X (st::rest) (aJ (f::fs)):=⟨vH h1.out h2.out⟩
theorem aI{X:L2.Cx}{st:Stmt}{f:Sm}(h:XS X st f):eI X [st] f:=⟨EA h.out⟩
theorem bB{X:L2.Cx}{pos:Pos}{c:Expr}{a b:List Stmt}{fc:aG}{fa fb:Sm}(hc:XT X c fc)(ha:eI X a fa)(hb:eI X b fb):XS X (.If c a b pos) (aZ fc fa fb):=⟨yn hc.out ha.out hb.out⟩
theorem aE{X:L2.Cx}{pos:Pos}{a:Expr}{fa:Ex}(ha:XE X a fa):XS X (.Return (some a) pos) (az fa):=⟨CB ha.out⟩
theorem BC{X:L2.Cx}{st:Stmt}:XS X st mX:=⟨FE ⟩
theorem aO{X:L2.Cx}{pos:Pos}(i:Nat){x:Str}(hN:X.N.Nodup)(hi:X.N[i]? =some x:=by rfl)(hx:L2.Loc X.env.scope x:=by first|exact Or.inl rfl|exact Or.inr rfl)(hf:X.fn x=true∨X.env.scope.names.lookup x=some .local:=by first|exact .inl rfl|exact .inr rfl):XG X (.Name x pos) (aB i):=⟨EX i hN hi hx hf⟩
theorem g0{X:L2.Cx}:lr X [] (cK []):=⟨Fx ⟩
theorem dA{X:L2.Cx}(i:Nat){is:List Nat}{e:Expr}{es:List Expr}(h1:XG X e (aB i))(h2:lr X es (cK is))(hs:(assignEach (e::es) X.env).map (·.2)=assign e X.env::(assignEach es X.env).map (·.2):=by exact nI (by rfl)):lr X (e::es) (cK (i::is)):=⟨wc i h1.out h2.out hs⟩
theorem hZ{X:L2.Cx}{pos:Pos}{is:List Nat}{es:List Expr}{k:Nat}(h:lr X es (cK is))(hn:(assignEach es X.env).length=is.length)(hc:X.calm=true:=by rfl)(hst:(assignEach es X.env).findIdx? (·.1)=none:=by exact qy (by rfl)):XG X (.Tuple es k pos) (cW is):=⟨GG hc h.out hn hst⟩
theorem cL{X:L2.Cx}{pos:Pos}{tg e:Expr}{fa:Ex}{g:bN}(ha:XE X e fa)(hg:XG X tg g)(hs:swapsWithSole [tg] e pos.line X.env=pure false:=by exact qQ (by rfl))(hw:swappedStores [tg] e X.env=pure none:=by first|exact B3 (by rfl)|exact pZ (by rfl))(h1:(assignEach [tg] X.env).map (·.2)=[assign tg X.env]:=by exact nI (by rfl)):XS X (.Assign [tg] e pos) (bQ g fa):=⟨yg ha.out hg.out hs hw h1⟩
theorem fZ{X:L2.Cx}{pos:Pos}{tg iter:Expr}{body:List Stmt}{it:br}{g:bN}{f:Sm}(hi:XI X tg iter it)(hg:XG X tg g)(hb:eI X body f)(hp:PassesOwn (model X.prog X.w) X.A X.env X.xe:=by exact PassesOwn.never)(hc:X.calm=true:=by exact rfl)(hs:∀x,foldedSetIterable iter X.env x=pure x:=by exact lJ (by rfl)):XS X (.For tg iter body [] pos) (cA it g f):=⟨Bw hp hc hi.out hg.out hb.out hs⟩
theorem jC{X:L2.Cx}{pos:Pos}{tg a:Expr}{fa:Ex}{p:Pos}(hm:X.mg "range"=none)(ha:XE X a fa)(hg:L2.Gl X "range":=by rfl)(hs:starEach [a] X.env=(false,eval a X.env)::starEach [] X.env:=by exact aS (by rfl)):XI X tg (.Call (.Name "range" p) [a] [] pos) (e4 fa):=⟨xZ hg hm ha.out hs⟩
theorem Ao{X:L2.Cx}{pos:Pos}(i:Nat){x:Str}{p2:Pos}(hN:X.N[i]? =some x:=by rfl)(hv:L2.bS X.env.scope x:=by exact Or.inl rfl)(hd:(x==("__debug__":Str))=false:=by decide)(hcd:(x==("__classdict__":Str))=false:=by decide):XS X (.Return (some (.Name x p2)) pos) (lh i):=⟨Ar i hN hv hd hcd⟩
theorem i0{X:L2.Cx}(i:Nat){rest:List Stmt}{fs:List Sm}(h:eI X rest (aJ fs)):eI X rest (aJ (eP i::fs)):=⟨GF i h.out⟩
theorem iV{X:L2.Cx}{pos:Pos}{es:List Expr}{fs:List Ex}(h:XA X es (eList fs))(hl:fs.length≤1000:=by decide):XF X (.List es pos) (bH fs):=⟨Cn h.out hl⟩
theorem fI{X:L2.Cx}{pos:Pos}(i:Nat){x:Str}{e:Expr}{f:Ex}{p2:Pos}(hN:X.N.Nodup)(he:XF X e f)(hi:X.N[i]? =some x:=by rfl)(hx:L2.Loc X.env.scope x:=by exact Or.inl rfl)(hf:X.fn x=true∨X.env.scope.names.lookup x=some .local:=by exact .inl rfl)(hs:swapsWith e (some (.Name x p2)) pos.line X.env=pure false:=by exact gC (by rfl)):XS X (.Assign [.Name x p2] e pos) (dj i f):=⟨uw i hN he.out hi hx hf hs⟩
theorem tX{X:L2.Cx}{pos:Pos}(i:Nat){x:Str}{p p2:Pos}(hm:X.mg "len"=none)(hg:L2.Gl X "len":=by rfl)(hN:X.N[i]? =some x:=by rfl)(hv:L2.bS X.env.scope x:=by exact Or.inl rfl)(hd:(x==("__debug__":Str))=false:=by decide)(hcd:(x==("__classdict__":Str))=false:=by decide)(hs:starEach [.Name x p2] X.env=(false,eval (.Name x p2) X.env)::starEach [] X.env:=by exact aS (by rfl)):XE X (.Call (.Name "len" p) [.Name x p2] [] pos) (iC i):=⟨w8 i hg hm hN hv hd hcd hs⟩
theorem xa{X:L2.Cx}{pos:Pos}(i:Nat){x:Str}{b:Expr}{fb:Ex}{p2:Pos}(hb:XE X b fb)(hN:X.N[i]? =some x:=by rfl)(hv:L2.bS X.env.scope x:=by exact Or.inl rfl)(hd:(x==("__debug__":Str))=false:=by decide)(hcd:(x==("__classdict__":Str))=false:=by decide)(hs:L2.ja b:=by exact ql (by rfl)):XE X (.Subscript (.Name x p2) b pos) (lA i fb):=⟨EH i hb.out hN hv hd hcd hs⟩
theorem aH{X:L2.Cx}{pos:Pos}{x:Str}{k j n:Nat}{m:List D→R D}{e:Expr}{es:List Expr}{fs:List Ex}{p:Pos}(d:Df X.prog X.w X.K X.mg X.base x k n m)(hr:L2.bq j X.A)(ha:XA X (e::es) (eList fs))(hg:L2.Gl X x:=by rfl)(hk:k≤j:=by decide)(hn:fs.length=n:=by rfl)(hdb:(x==("__debug__":Str))=false:=by decide)(he:starEach (e::es) X.env=(false,eval e X.env)::starEach es X.env:=by exact aS (by rfl))(hpl:(backTo pos (starEach es X.env)).any (·.1)=false:=by exact lH (by rfl)):XE X (.Call (.Name x p) (e::es) [] pos) (ao m fs):=⟨AK d hr hg ha.out hk hn hdb he hpl⟩
theorem Fs{X:L2.Cx}{pos:Pos}{x:Str}{k j:Nat}{m:List D→R D}{p:Pos}(d:Df X.prog X.w X.K X.mg X.base x k 0 m)(hr:L2.bq j X.A)(hg:L2.Gl X x:=by rfl)(hk:k≤j:=by decide)(hdb:(x==("__debug__":Str))=false:=by decide):XE X (.Call (.Name x p) [] [] pos) (ao m []):=⟨wu d hr hg hk hdb⟩
theorem cC{X:L2.Cx}{tg l:Expr}{fa:Ex}(ha:XE X l fa):XI X tg l (bM fa):=⟨Am ha.out⟩
theorem bK{X:Cx}{pos:Pos}{x:Str}{d:D}(g:bo X.prog X.w X.K X.mg x d)(hg:L2.Gl X x:=by rfl)(hd:(x==("__debug__":Str))=false:=by decide):XE X (.Name x pos) (eC d):=⟨uK g hg hd⟩
theorem cj{X:L2.Cx}{pos:Pos}{a b:Expr}{fa fb:Ex}(ha:XE X a fa)(hb:XE X b fb)(hs:L2.ja b:=by exact ql (by rfl)):XE X (.Subscript a b pos) (e2 bO fa fb):=⟨DH ha.out hb.out hs⟩
theorem xp{X:L2.Cx}{pos:Pos}{elts:List Expr}{k:Nat}{tp:Pos}{a b:Expr}{fa fb:Ex}{p:Pos}(hm:X.mg "zip"=none)(ha:XE X a fa)(hb:XE X b fb)(hg:L2.Gl X "zip":=by rfl)(hs:starEach [a,b] X.env=(false,eval a X.env)::starEach [b] X.env:=by exact aS (by rfl))(hs2:starEach [b] X.env=(false,eval b X.env)::starEach [] X.env:=by exact aS (by rfl)):XI X (.Tuple elts k tp) (.Call (.Name "zip" p) [a,b] [] pos) (nX fa fb):=⟨yq hg hm ha.out hb.out hs hs2⟩
theorem ux{X:L2.Cx}(i:Nat){e:Expr}{f:Ex}(h:XE X e f):XE X e (nE i f):=⟨Dc i h.out⟩
theorem qT{X:L2.Cx}(i:Nat){e:Expr}{f:Ex}(h:XF X e f):XF X e (jV i f):=⟨Fv i h.out⟩
theorem jb{X:L2.Cx}(i:Nat){e:Expr}{f:aG}(h:XT X e f):XT X e (dZ i f):=⟨Ct i h.out⟩
theorem mT{X:L2.Cx}{pos:Pos}(i:Nat){x:Str}{e k:Expr}{f g:Ex}{p2 p3:Pos}(he:XE X e f)(hk:XE X k g)(ha:kl X.env (.Name x p2) k p3)(hN:X.N[i]? =some x:=by rfl)(hv:L2.bS X.env.scope x:=by exact Or.inl rfl)(hd:(x==("__debug__":Str))=false:=by decide)(hcd:(x==("__classdict__":Str))=false:=by decide)(hs:swapsWithSole [.Subscript (.Name x p2) k p3] e pos.line X.env=pure false:=by exact qQ (by rfl))(hw:swappedStores [.Subscript (.Name x p2) k p3] e X.env=pure none:=by exact pZ (by rfl))(h1:(assignEach [.Subscript (.Name x p2) k p3] X.env).map (·.2)=[assign (.Subscript (.Name x p2) k p3) X.env]:=by exact nI (by rfl)):XS X (.Assign [.Subscript (.Name x p2) k p3] e pos) (gT i g f):=⟨wI i he.out hk.out hN hv hd hcd ha hs hw h1⟩
theorem km{X:L2.Cx}{pos:Pos}(i:Nat){x:Str}{e:Expr}{f:Ex}{p2 apos cpos:Pos}(he:XF X e f)(hN:X.N[i]? =some x:=by rfl)(hv:L2.bS X.env.scope x:=by exact Or.inl rfl)(hd:(x==("__debug__":Str))=false:=by decide)(hcd:(x==("__classdict__":Str))=false:=by decide)(hbase:attributeBase (.Name x p2) "extend" X.env (eval (.Name x p2) X.env)=eval (.Name x p2) X.env:=by exact pF)(hfew:((backTo cpos (starEach [e] X.env)).all (fun x=> !x.1)&&(backToKw cpos (keywordEach [] X.env)).all (fun x=>x.1.isSome)&&decide (([e]:List Expr).length+([]:List Keyword).length+(if([]:List Keyword).isEmpty then 0 else 1)<30))=true:=by exact tK (by rfl) (by decide))(hline:(apos.endLine==cpos.line)=true:=by rfl)(hs:starEach [e] X.env=(false,eval e X.env)::starEach [] X.env:=by exact aS (by rfl))(hsw:swapsWith (.Call (.Attribute (.Name x p2) "extend" apos) [e] [] cpos) none pos.line X.env=pure false:=by exact gC (by rfl)):XS X (.Expr (.Call (.Attribute (.Name x p2) "extend" apos) [e] [] cpos) pos) (gO i f):=⟨FX i he.out hN hv hd hcd hbase hfew hline hs hsw⟩
theorem m9{X:L2.Cx}{pos:Pos}{a:Expr}{fa:Ex}{p:Pos}(hm:X.mg "list"=none)(ha:XE X a fa)(hgl:L2.Gl X "list":=by rfl)(hs:starEach [a] X.env=(false,eval a X.env)::starEach [] X.env:=by exact aS (by rfl)):XF X (.Call (.Name "list" p) [a] [] pos) (e1 eB fa):=⟨Ac hgl hm ha.out hs⟩
theorem tI{X:L2.Cx}{pos:Pos}{x:Str}{k j n:Nat}{m:List D→R D}{e:Expr}{es:List Expr}{fs:List Ex}{p:Pos}(d:fD X.prog X.w X.K X.mg X.base x k n m)(hr:L2.bq j X.A)(ha:XA X (e::es) (eList fs))(hg:L2.Gl X x:=by rfl)(hk:k≤j:=by decide)(hn:fs.length=n:=by rfl)(hdb:(x==("__debug__":Str))=false:=by decide)(he:starEach (e::es) X.env=(false,eval e X.env)::starEach es X.env:=by exact aS (by rfl))(hpl:(backTo pos (starEach es X.env)).any (·.1)=false:=by exact lH (by rfl)):XF X (.Call (.Name x p) (e::es) [] pos) (ao m fs):=⟨sP d hr hg ha.out hk hn hdb he hpl⟩
theorem Eu{X:L2.Cx}{pos:Pos}{x:Str}{k j n N:Nat}{body:Sm}{m:List D→R D}{e:Expr}{es:List Expr}{fs:List Ex}{p:Pos}(d:fD X.prog X.w X.K X.mg X.base x k n m)(hr:L2.bq j X.A)(ha:XA X (e::es) (eList fs))(hm:m=fo N body:=by rfl)(hg:L2.Gl X x:=by rfl)(hk:k≤j:=by decide)(hn:fs.length=n:=by rfl)(hdb:(x==("__debug__":Str))=false:=by decide)(he:starEach (e::es) X.env=(false,eval e X.env)::starEach es X.env:=by exact aS (by rfl))(hpl:(backTo pos (starEach es X.env)).any (·.1)=false:=by exact lH (by rfl)):XE X (.Call (.Name x p) (e::es) [] pos) (ao m fs):=⟨xg d hm hr hg ha.out hk hn hdb he hpl⟩
theorem wG{X:L2.Cx}{pos:Pos}{a:Expr}{fa:Ex}{p p2 pos2:Pos}(hm:X.mg "len"=none)(hm2:X.mg "set"=none)(ha:XE X a fa)(hc:X.calm=true:=by rfl)(hg:L2.Gl X "len":=by rfl)(hg2:L2.Gl X "set":=by rfl)(hs:starEach [.Call (.Name "set" p2) [a] [] pos2] X.env=(false,eval (.Call (.Name "set" p2) [a] [] pos2) X.env)::starEach [] X.env:=by exact aS (by rfl))(hs2:starEach [a] X.env=(false,eval a X.env)::starEach [] X.env:=by exact aS (by rfl)):XE X (.Call (.Name "len" p) [.Call (.Name "set" p2) [a] [] pos2] [] pos) (e1 mD fa):=⟨Dz hc hg hm hg2 hm2 ha.out hs hs2⟩
theorem Cs{X:L2.Cx}{pos:Pos}{a:Expr}{fa:Ex}(ha:XF X a fa)(hl:∀ρ d,fa ρ=.ok d→∃ds,d=.lst ds):XS X (.Return (some a) pos) (oZ fa):=⟨Fo ha.out hl⟩
theorem yp{X:L2.Cx}{pos:Pos}{a b:Expr}{fa fb:Ex}{p p2 pos2:Pos}(hm:X.mg "list"=none)(hm2:X.mg "range"=none)(ha:XE X a fa)(hb:XE X b fb)(hc:X.calm=true:=by rfl)(hg:L2.Gl X "list":=by rfl)(hg2:L2.Gl X "range":=by rfl)(hs0:starEach [.Call (.Name "range" p2) [a,b] [] pos2] X.env=(false,eval (.Call (.Name "range" p2) [a,b] [] pos2) X.env)::starEach [] X.env:=by exact aS (by rfl))(hs:starEach [a,b] X.env=(false,eval a X.env)::starEach [b] X.env:=by exact aS (by rfl))(hs2:starEach [b] X.env=(false,eval b X.env)::starEach [] X.env:=by exact aS (by rfl)):XF X (.Call (.Name "list" p) [.Call (.Name "range" p2) [a,b] [] pos2] [] pos) (e2 ft fa fb):=⟨Dr hc hg hm hg2 hm2 ha.out hb.out hs0 hs hs2⟩
theorem qm{X:L2.Cx}{pos:Pos}{elts:List Expr}{k:Nat}{tp:Pos}{a:Expr}{fa:Ex}{p:Pos}(hm:X.mg "enumerate"=none)(ha:XE X a fa)(hg:L2.Gl X "enumerate":=by rfl)(hs:starEach [a] X.env=(false,eval a X.env)::starEach [] X.env:=by exact aS (by rfl)):XI X (.Tuple elts k tp) (.Call (.Name "enumerate" p) [a] [] pos) (lu 0 fa):=⟨xV hg hm ha.out hs⟩
theorem qZ{X:L2.Cx}{pos:Pos}(i:Nat){x:Str}{p1 p2:Pos}(hN:X.N.Nodup)(hi:X.N[i]? =some x:=by rfl)(hx:L2.Loc X.env.scope x:=by first|exact Or.inr rfl|exact Or.inl rfl)(hf:X.fn x=true∨X.env.scope.names.lookup x=some .local:=by exact .inl rfl)(hs:swapsWith (.Dict [] [] p1) (some (.Name x p2)) pos.line X.env=pure false:=by exact gC (by rfl)):XS X (.Assign [.Name x p2] (.Dict [] [] p1) pos) (gu i (gm [] [])):=⟨wk i hN hi hx hf hs⟩
theorem kY{X:L2.Cx}{pos:Pos}(i:Nat){x:Str}{e k:Expr}{f g:Ex}{p2 p3:Pos}(hu:X.A.units+64<cLine)(hk:XE X k g)(he:XE X e f)(hN:X.N[i]? =some x:=by rfl)(hv:L2.bS X.env.scope x:=by first|exact Or.inr (Or.inl rfl)|exact Or.inl rfl)(hd:(x==("__debug__":Str))=false:=by decide)(hcd:(x==("__classdict__":Str))=false:=by decide)(hs:swapsWith e (some (.Subscript (.Name x p2) k p3)) pos.line X.env=pure false:=by exact gC (by rfl)):XS X (.Assign [.Subscript (.Name x p2) k p3] e pos) (iA i g f):=⟨zG i hu hk.out he.out hN hv hd hcd hs⟩
theorem rP{X:L2.Cx}{pos:Pos}(i:Nat){x:Str}{l:Expr}{fl:Ex}{p2:Pos}(hl:XE X l fl)(hN:X.N[i]? =some x:=by rfl)(hv:L2.bS X.env.scope x:=by exact Or.inr (Or.inl rfl))(hd:(x==("__debug__":Str))=false:=by decide)(hcd:(x==("__classdict__":Str))=false:=by decide):XT X (.Compare l [.In] [.Name x p2] pos) (tV (iw i fl)):=⟨yu i hl.out hN hv hd hcd⟩
theorem oD{X:L2.Cx}{pos:Pos}(n:Nat){c:Expr}{body:List Stmt}{t:aG}{f:Sm}(hc:XT X c t)(hb:eI X body f)(hp:PassesOwn (model X.prog X.w) X.A X.env X.xe:=by exact PassesOwn.never):XS X (.While c body [] pos) (i4 n t f):=⟨Gq n hp hc.out hb.out⟩
theorem mZ{X:L2.Cx}{pos:Pos}(j:Nat)(i:Nat){x y:Str}{p2 p3 apos cpos:Pos}(nd:X.N.Nodup)(hj:X.N[j]? =some y:=by rfl)(hN:X.N[i]? =some x:=by rfl)(hx:L2.Loc X.env.scope y:=by exact Or.inl rfl)(hv:L2.bS X.env.scope x:=by exact Or.inl rfl)(hf:X.fn y=true∨X.env.scope.names.lookup y=some .local:=by exact .inl rfl)(hd:(x==("__debug__":Str))=false:=by decide)(hcd:(x==("__classdict__":Str))=false:=by decide)(hbase:attributeBase (.Name x p2) "pop" X.env (eval (.Name x p2) X.env)=eval (.Name x p2) X.env:=by exact pF)(hline:(apos.endLine==cpos.line)=true:=by rfl)(hsw:swapsWith (.Call (.Attribute (.Name x p2) "pop" apos) [] [] cpos) (some (.Name y p3)) pos.line X.env=pure false:=by exact gC (by rfl)):XS X (.Assign [.Name y p3] (.Call (.Attribute (.Name x p2) "pop" apos) [] [] cpos) pos) (iu j i):=⟨Ec j i nd hj hN hx hv hf hd hcd hbase hline hsw⟩
theorem Bv{X:L2.Cx}{pos:Pos}{a b:Expr}{fa fb:Ex}(ha:XE X a fa)(hb:XE X b fb):XF X (.BinOp a .Mult b pos) (e2 fO fa fb):=⟨zv ha.out hb.out⟩
theorem sU{X:L2.Cx}{i:Nat}:gD X i [] ba:=⟨rX ⟩
theorem oT{X:L2.Cx}{i:Nat}{st:Stmt}{f:Sm}(h:iJ X i st f):gD X i [st] f:=⟨vK h.out⟩
theorem qg{X:L2.Cx}{i:Nat}{st:Stmt}{rest:List Stmt}{f:Sm}{fs:List Sm}(h1:iJ X i st f)(h2:gD X i rest (aJ fs)):gD X i (st::rest) (aJ (f::fs)):=⟨CU h1.out h2.out⟩
theorem vj{X:L2.Cx}{i:Nat}:gD X i [] (aJ []):=⟨Fg ⟩
theorem tE{X:L2.Cx}{pos:Pos}{i:Nat}{c:Expr}{a b:List Stmt}{fc:aG}{fa fb:Sm}(hc:XT X c fc)(ha:gD X i a fa)(hb:gD X i b fb):iJ X i (.If c a b pos) (aZ fc fa fb):=⟨yM hc.out ha.out hb.out⟩
theorem sL{X:L2.Cx}{pos:Pos}{i:Nat}{a:Expr}{fa:Ex}(ha:XE X a fa):iJ X i (.Return (some a) pos) (az fa):=⟨BN ha.out⟩
theorem uh{X:L2.Cx}{pos:Pos}(i:Nat)(j:Nat){x:Str}{iter:Expr}{body:List Stmt}{it:br}{f:Sm}{p2:Pos}(hi:XI X (.Name x p2) iter it)(hN:X.N.Nodup)(hb:gD X i body f)(hp:PassesOwn (model X.prog X.w) X.A X.env X.xe:=by exact PassesOwn.never)(hc:X.calm=true:=by exact rfl)(hj:X.N[j]? =some x:=by rfl)(hx:L2.Loc X.env.scope x:=by exact Or.inl rfl)(hf:X.fn x=true∨X.env.scope.names.lookup x=some .local:=by exact .inl rfl)(hij:i≠j:=by decide)(hs:∀x,foldedSetIterable iter X.env x=pure x:=by exact lJ (by rfl)):iJ X i (.For (.Name x p2) iter body [] pos) (cA it (aB j) f):=⟨FD i j hp hc hi.out hN hj hx hf hij hb.out hs⟩
theorem Ck{X:L2.Cx}(i:Nat){st:Stmt}{f:Sm}(h:iJ X i st f):XS X st (j9 i f):=⟨A3 i h.out⟩
theorem Gg{X:L2.Cx}{pos:Pos}{tg a b c:Expr}{fa fb fc:Ex}{p:Pos}(hm:X.mg "range"=none)(ha:XE X a fa)(hb:XE X b fb)(hc:XE X c fc)(hg:L2.Gl X "range":=by rfl)(hs:starEach [a,b,c] X.env=(false,eval a X.env)::starEach [b,c] X.env:=by exact aS (by rfl))(hs2:starEach [b,c] X.env=(false,eval b X.env)::starEach [c] X.env:=by exact aS (by rfl))(hs3:starEach [c] X.env=(false,eval c X.env)::starEach [] X.env:=by exact aS (by rfl)):XI X tg (.Call (.Name "range" p) [a,b,c] [] pos) (nu fa fb fc):=⟨zx hg hm ha.out hb.out hc.out hs hs2 hs3⟩
theorem mY{X:L2.Cx}{pos:Pos}{a:Expr}{fa:Ex}{p:Pos}(hm:X.mg "dict"=none)(ha:XE X a fa)(hc:X.calm=true:=by rfl)(hg:L2.Gl X "dict":=by rfl)(hs:starEach [a] X.env=(false,eval a X.env)::starEach [] X.env:=by exact aS (by rfl)):XD X (.Call (.Name "dict" p) [a] [] pos) (e1 fw fa):=⟨vZ hc hg hm ha.out hs⟩
theorem BL{X:L2.Cx}{pos:Pos}(i:Nat){x:Str}{e:Expr}{f:Ex}{p2:Pos}(hN:X.N.Nodup)(he:XD X e f)(hi:X.N[i]? =some x:=by rfl)(hx:L2.Loc X.env.scope x:=by exact Or.inl rfl)(hf:X.fn x=true∨X.env.scope.names.lookup x=some .local:=by exact .inl rfl)(hs:swapsWith e (some (.Name x p2)) pos.line X.env=pure false:=by exact gC (by rfl)):XS X (.Assign [.Name x p2] e pos) (gu i f):=⟨uC i hN he.out hi hx hf hs⟩
theorem EU{X:L2.Cx}{e:Expr}{f:Ex}(he:XD X e f)(hl:∀ρ d,f ρ=.ok d→∃ks ds,d=.aC ks ds):XE X e f:=⟨wj he.out hl⟩
theorem xT{X:L2.Cx}{pos:Pos}(i:Nat){x:Str}{e:Expr}{f:Ex}{p2 apos cpos:Pos}(he:XD X e f)(hN:X.N[i]? =some x:=by rfl)(hv:L2.bS X.env.scope x:=by exact Or.inl rfl)(hd:(x==("__debug__":Str))=false:=by decide)(hcd:(x==("__classdict__":Str))=false:=by decide)(hbase:attributeBase (.Name x p2) "update" X.env (eval (.Name x p2) X.env)=eval (.Name x p2) X.env:=by exact pF)(hfew:((backTo cpos (starEach [e] X.env)).all (fun x=> !x.1)&&(backToKw cpos (keywordEach [] X.env)).all (fun x=>x.1.isSome)&&decide (([e]:List Expr).length+([]:List Keyword).length+(if([]:List Keyword).isEmpty then 0 else 1)<30))=true:=by exact tK (by rfl) (by decide))(hline:(apos.endLine==cpos.line)=true:=by rfl)(hs:starEach [e] X.env=(false,eval e X.env)::starEach [] X.env:=by exact aS (by rfl))(hsw:swapsWith (.Call (.Attribute (.Name x p2) "update" apos) [e] [] cpos) none pos.line X.env=pure false:=by exact gC (by rfl)):XS X (.Expr (.Call (.Attribute (.Name x p2) "update" apos) [e] [] cpos) pos) (oS i f):=⟨yy i he.out hN hv hd hcd hbase hfew hline hs hsw⟩
theorem Gp{X:L2.Cx}(i:Nat){e:Expr}{f:Ex}(h:XE X e f):XE X e (mz i f):=⟨Bd i h.out⟩
theorem Ge{X:L2.Cx}{pos:Pos}{a b:Expr}{fa fb:Ex}{p p2 pos2:Pos}(hm:X.mg "list"=none)(hm2:X.mg "zip"=none)(ha:XE X a fa)(hb:XE X b fb)(hc:X.calm=true:=by rfl)(hg:L2.Gl X "list":=by rfl)(hg2:L2.Gl X "zip":=by rfl)(hs0:starEach [.Call (.Name "zip" p2) [a,b] [] pos2] X.env=(false,eval (.Call (.Name "zip" p2) [a,b] [] pos2) X.env)::starEach [] X.env:=by exact aS (by rfl))(hs:starEach [a,b] X.env=(false,eval a X.env)::starEach [b] X.env:=by exact aS (by rfl))(hs2:starEach [b] X.env=(false,eval b X.env)::starEach [] X.env:=by exact aS (by rfl)):XF X (.Call (.Name "list" p) [.Call (.Name "zip" p2) [a,b] [] pos2] [] pos) (e2 iB fa fb):=⟨xE hc hg hm hg2 hm2 ha.out hb.out hs0 hs hs2⟩
theorem lZ{X:L2.Cx}{pos:Pos}{e st:Expr}{lo hi:Option Expr}{fa:Ex}{fl fh fs:Option Ex}{p2:Pos}(ha:XE X e fa)(hl:XO X lo fl)(hh:XO X hi fh)(hs:XO X (some st) fs):XF X (.Subscript e (.Slice lo hi (some st) p2) pos) (ib fa fl fh fs):=⟨x5 ha.out hl.out hh.out hs.out⟩
theorem B2{X:L2.Cx}{pos:Pos}{a:Expr}{fa:Ex}{p p2 pos2:Pos}(hm:X.mg "sorted"=none)(hm2:X.mg "set"=none)(ha:XE X a fa)(hc:X.calm=true:=by rfl)(hg:L2.Gl X "sorted":=by rfl)(hg2:L2.Gl X "set":=by rfl)(hs:starEach [.Call (.Name "set" p2) [a] [] pos2] X.env=(false,eval (.Call (.Name "set" p2) [a] [] pos2) X.env)::starEach [] X.env:=by exact aS (by rfl))(hs2:starEach [a] X.env=(false,eval a X.env)::starEach [] X.env:=by exact aS (by rfl)):XE X (.Call (.Name "sorted" p) [.Call (.Name "set" p2) [a] [] pos2] [] pos) (e1 mm fa):=⟨GD hc hg hm hg2 hm2 ha.out hs hs2⟩
theorem uZ{X:L2.Cx}{pos:Pos}{k v:Expr}{fk fv:Ex}(hk:XE X k fk)(hv:XE X v fv):XE X (.Dict [some k] [v] pos) (mE fk fv):=⟨vT hk.out hv.out⟩
theorem cZ{X:L2.Cx}{pos:Pos}(tn:List Str)(fv:List Str)(fvi:List Nat){elt iter target:Expr}{ifs:List Expr}{scope:Scope}{it:br}{tg:bN}{cs:List aG}{el:Ex}(ok:i5 X scope tn fv fvi)(hi:XI X target iter it)(ht:∀cl C s H fp,XG (cH X scope cl C (tn++fv) s H fp) target tg)(hcs:∀cl C s H fp,jA (cH X scope cl C (tn++fv) s H fp) ifs cs)(hel:∀cl C s H fp,XE (cH X scope cl C (tn++fv) s H fp) elt el)(hxe:∀e s,¬X.xe e s:=by exact fun _ _ h=>h)(hc:X.calm=true:=by rfl)(low:gG tn.length tg:=by first|exact qq (by decide)|exact w9 (by decide))(hs:∀x,foldedSetIterable iter X.env x=pure x:=by exact lJ (by rfl)):XF X (.ListComp elt [⟨target,iter,ifs,0⟩] scope pos) (bE it tn.length fvi tg cs el):=
 ⟨wQ tn fv fvi hxe hc ok hi.out low (fun cl C s H fp=>(ht cl C s H fp).out) (fun cl C s H fp=>(hcs cl C s H fp).out) (fun cl C s H fp=>(hel cl C s H fp).out) hs⟩
theorem dQ{X:L2.Cx}{e:Expr}{it:br}{n:Nat}{fv:List Nat}{tg:bN}{cs:List aG}{el:Ex}(h:XF X e (bE it n fv tg cs el)):XE X e (bE it n fv tg cs el):=⟨ny h.out se⟩
theorem Gd{X:L2.Cx}{pos py spos:Pos}{y:Str}(i:Nat)(tn:List Str)(fv:List Str)(fvi:List Nat){elt iter target:Expr}{ifs:List Expr}{scope:Scope}{it:br}{tg:bN}{cs:List aG}{el:Ex}(ok:i5 X scope tn fv fvi)(hi:XI X target iter it)(ht:∀cl C s H fp,XG (cH X scope cl C (tn++fv) s H fp) target tg)(hcs:∀cl C s H fp,jA (cH X scope cl C (tn++fv) s H fp) ifs cs)(hel:∀cl C s H fp,XE (cH X scope cl C (tn++fv) s H fp) elt el)(hN:X.N.Nodup)(hxe:∀e s,¬X.xe e s:=by exact fun _ _ h=>h)(hc:X.calm=true:=by rfl)(low:gG tn.length tg:=by exact qq (by decide))(hs:∀x,foldedSetIterable iter X.env x=pure x:=by exact lJ (by rfl))(hy:X.N[i]? =some y:=by rfl)(hx:L2.Loc X.env.scope y:=by exact Or.inl rfl)(hf:X.fn y=true∨X.env.scope.names.lookup y=some .local:=by exact .inl rfl)(hsw:swapsWith (.ListComp elt [⟨target,iter,ifs,0⟩] scope pos) (some (.Name y py)) spos.line X.env=pure true:=by rfl):XS X (.Assign [.Name y py] (.ListComp elt [⟨target,iter,ifs,0⟩] scope pos) spos) (bQ (aB i) (bE it tn.length fvi tg cs el)):=
 ⟨DF i (AX i tn fv fvi hxe hc ok hi.out low (fun cl C s H fp=>(ht cl C s H fp).out) (fun cl C s H fp=>(hcs cl C s H fp).out) (fun cl C s H fp=>(hel cl C s H fp).out) hs hN hy hx hf hsw) se⟩
theorem kA{X:L2.Cx}{e:Expr}{f:Ex}(h:XF X e f)(hl:∀ρ d,f ρ=.ok d→∃ds,d=.lst ds):XE X e f:=⟨ny h.out hl⟩
theorem cO{X:L2.Cx}:jA X [] []:=⟨.nil⟩
theorem um{X:L2.Cx}{e:Expr}{es:List Expr}{c:aG}{cs:List aG}(h:XT X e c)(r:jA X es cs):jA X (e::es) (c::cs):=⟨.cons h.out r.out⟩
end PL
namespace PL
namespace gq
open PySem
noncomputable abbrev S(x:String):D:=.str (Str.ofString x)
noncomputable def cu:D:=(.int 16)
noncomputable def kD:D:=(.int 32)
noncomputable def jw:D:=(.int 200)
noncomputable def gK:D:=(.int 14)
noncomputable def oH:D:=(.int 1)
noncomputable def dE:D:=(.int 2)
noncomputable def pG:D:=(.int 64)
noncomputable def oC:D:=(.int 32)
noncomputable def iT:D:=(.int 2)
noncomputable def gS:List D→R D:=fn 1 (az (e2 er (e2 fX (e2 aV (aa 0) (eC cu)) (eC (.int 1))) (eC cu)))
noncomputable def dn:List D→R D:=fn 1 (az (e2 aV (eC gK) (ao gS [e1 cg (aa 0)])))
noncomputable def my:List D→R D:=fn 1 (az (e1 ko (e2 aV (aa 0) (e2 fO (bH [eC (.int 0)]) (e2 fX (eC cu) (e1 cg (aa 0)))))))
noncomputable def nR:Sm:=gT 2 (e2 aV (eC gK) (aa 4)) (e1 ko (b6 (aa 3) (some (e2 eT (eC cu) (aa 4))) (some (e2 eT (eC cu) (e2 aV (aa 4) (eC (.int 1)))))))
noncomputable def mK:List D→R D:=fo 5 (aJ [dj 2 (e1 eB (aa 0)),bQ (aB 3) (e2 aV (aa 1) (e2 fO (bH [eC (.int 0)]) (e2 fX (e2 eT (eC cu) (ao gS [e1 cg (aa 0)])) (e1 cg (aa 1))))),cA (e4 (ao gS [e1 cg (aa 0)])) (aB 4) nR,lh 2])
noncomputable def ju:List D→R D:=fo 3 (aJ [dj 1 (e2 fO (bH [ao my [bH []]]) (aa 0)),bQ (aB 2) (nE 1 (ao dn [aa 1])),gT 1 (aa 2) (ao my [bH [eC dE]]),eP 1,oZ (ao mK [aa 1,bE (e4 (aa 0)) 1 [2] (aB 0) [] (g8 (tV (e2 oLe (aa 0) (aa 1))) (eC (.int 1)) (eC (.int 0)))])])
noncomputable def m4:Sm:=gO 1 (e1 eB (aa 2))
noncomputable def fT:List D→R D:=fn 3 (aJ [dj 1 (bH []),cA (bM (b6 (aa 0) (some (eC gK)) (some (ao dn [aa 0])))) (aB 2) m4,eP 1,az (aa 1)])
noncomputable def pH:List D→R D:=fn 1 (az (b6 (ao fT [aa 0]) none (some (e1 cg (aa 0)))))
noncomputable def kF:List D→R D:=fn 1 (az (bE (lu 0 (ao pH [aa 0])) 2 [] (cW [0,1]) [tV (e2 oEq (aa 1) (eC (.int 0)))] (aa 0)))
noncomputable def gX:Sm:=aZ (tV (e2 bz (aa 3) (g8 (tV (e2 dB (aa 2) (aa 1))) (eC (.int 1)) (eC (.int 0))))) (az (eC (S "the map tells of a block what isn't so"))) (ba)
noncomputable def jy:List D→R D:=fn 4 (aJ [cA (lu 0 (ao fT [aa 0])) (cW [2,3]) gX,az (eC .av)])
noncomputable def mf:List D→R D:=fn 2 (az (fJ (e1 (dh .tuple) (aa 0)) (e2 oEq (e1 cg (aa 0)) (aa 1))))
noncomputable def kR:List D→R D:=fn 1 (az (fJ (e1 (dh .int) (aa 0)) (e1 kq (e1 (dh .bool) (aa 0)))))
noncomputable def mn:List D→R D:=fn 1 (az (fJ (ao kR [aa 0]) (eG oLe oLt (eC (.int 0)) (aa 0) (e2 jF (eC (.int 2)) (eC (.int 32))))))
noncomputable def jz:List D→R D:=fn 1 (az (fJ (ao mf [aa 0,eC cu]) (e1 fz (bE (bM (aa 0)) 1 [] (aB 0) [] (ao mn [aa 0])))))
noncomputable def ml:List D→R D:=fn 1 (aJ [aZ (bY (bV (tV (e1 (dh .list) (aa 0)))) (bV (tV (eG oLe oLe (eC kD) (e1 cg (aa 0)) (eC jw))))) (az (eC (.bl false))) (ba),az (e1 fz (bE (bM (aa 0)) 1 [] (aB 0) [] (ao jz [aa 0])))])
noncomputable def ma:List D→R D:=fn 0 (az (e2 pL (en [eC (.int 0)]) (eC cu)))
noncomputable def eQ:List D→R D:=fn 2 (az (e2 bO (e2 bO (aa 0) (aa 1)) (eC (.int 0))))
noncomputable def mr:List D→R D:=fn 3 (aJ [aZ (tV (e2 bz (e1 mD (aa 1)) (e1 cg (aa 1)))) (az (eC (.bl false))) (ba),az (e1 fz (bE (bM (aa 1)) 1 [2,0] (aB 0) [] (fJ (e2 oLt (aa 0) (e1 cg (aa 2))) (e2 jN (aa 0) (aa 1)))))])
noncomputable def j3:List D→R D:=fn 1 (az (e2 er (e2 fX (e2 aV (aa 0) (eC cu)) (eC (.int 1))) (eC cu)))
noncomputable def jJ:List D→R D:=fn 2 (az (g8 (tV (e2 oEq (aa 0) (eC dE))) (e2 eT (eC (.int 2)) (aa 1)) (aa 1)))
noncomputable def mU:List D→R D:=fn 3 (aJ [aZ (tV (e2 oEq (e2 bO (aa 0) (eC (.int 0))) (eC oH))) (bQ (aB 1) (eC pG)) (aZ (tV (e2 oEq (e2 bO (aa 0) (eC (.int 0))) (eC dE))) (bQ (aB 1) (eC oC)) (az (eC (.bl false)))),aZ (tV (e2 eS (e2 bO (aa 0) (eC (.int 1))) (aa 1))) (az (eC (.bl false))) (ba),bQ (aB 2) (e2 aV (eC iT) (ao j3 [ao jJ [e2 bO (aa 0) (eC (.int 0)),e2 bO (aa 0) (eC (.int 1))]])),az (e1 fz (bE (bM (b6 (aa 0) (some (aa 2)) none)) 1 [] (aB 0) [] (e2 oEq (aa 0) (eC (.int 0)))))])
noncomputable def pM:List D→R D:=fn 2 (az (e2 bO (e2 bO (aa 0) (aa 1)) (eC (.int 1))))
noncomputable def gN:List D→R D:=fn 2 (az (ao jJ [ao eQ [aa 0,aa 1],ao pM [aa 0,aa 1]]))
noncomputable def gU:List D→R D:=fn 2 (az (e1 eB (b6 (e2 bO (aa 0) (aa 1)) (some (eC iT)) (some (e2 aV (eC iT) (ao j3 [ao gN [aa 0,aa 1]]))))))
noncomputable def nr:Sm:=gO 2 (e1 eB (e2 bO (aa 0) (aa 3)))
noncomputable def kE:List D→R D:=fn 4 (aJ [dj 2 (bH []),cA (bM (ao gU [aa 0,aa 1])) (aB 3) nr,eP 2,az (aa 2)])
noncomputable def kr:List D→R D:=fn 2 (az (b6 (ao kE [aa 0,aa 1]) none (some (ao gN [aa 0,aa 1]))))
noncomputable def fH:List D→R D:=fn 3 (aJ [aZ (tV (e2 bz (ao eQ [aa 0,aa 1]) (eC dE))) (az (bH [])) (ba),bQ (aB 2) (ao kr [aa 0,aa 1]),az (e2 iB (ib (aa 2) (some (eC (.int 0))) none (some (eC (.int 2)))) (ib (aa 2) (some (eC (.int 1))) none (some (eC (.int 2)))))])
noncomputable def oJ:List D→R D:=fn 4 (aJ [aZ (bV (tV (ao mr [aa 0,bH [aa 1],aa 2]))) (az (eC (S "a head is no block, or a block that is something else"))) (ba),aZ (bV (tV (ao mU [e2 bO (aa 0) (aa 1)]))) (az (eC (S "a head is none of a file or a folder"))) (ba),aZ (bV (tV (ao mr [aa 0,e2 aV (bH [aa 1]) (ao gU [aa 0,aa 1]),aa 2]))) (az (eC (S "a node's block is none, or one that is something else"))) (ba),aZ (tV (e1 lI (bE (bM (b6 (ao kE [aa 0,aa 1]) (some (ao gN [aa 0,aa 1])) none)) 1 [] (aB 0) [] (e2 bz (aa 0) (eC (.int 0)))))) (az (eC (S "something stands where noughts are told"))) (ba),bQ (aB 3) (e2 aV (bH [eC (.int 0)]) (bE (bM (ao fH [aa 0,aa 1])) 2 [] (cW [0,1]) [] (aa 0))),aZ (tV (e1 lI (bE (nX (aa 3) (b6 (aa 3) (some (eC (.int 1))) none)) 2 [] (cW [0,1]) [] (e2 o6 (aa 0) (aa 1))))) (az (eC (S "a folder's names don't rise from 1 on"))) (ba),az (eC .av)])
noncomputable def mJ:Sm:=aJ [iu 4 3,bQ (aB 5) (mz 2 (ao oJ [aa 0,aa 4,aa 2])),aZ (tV (e1 jm (aa 5))) (az (aa 5)) (ba),oS 2 (e1 fw (bE (bM (e2 aV (bH [aa 4]) (ao gU [aa 0,aa 4]))) 1 [] (aB 0) [] (en [aa 0,eC (.bl true)]))),gO 3 (bE (bM (ao fH [aa 0,aa 4])) 2 [] (cW [0,1]) [] (aa 1))]
noncomputable def ji:List D→R D:=fn 6 (aJ [aZ (bV (tV (ao ml [aa 0]))) (az (eC (S "this is no floor"))) (ba),aZ (tV (e2 bz (e2 bO (aa 0) (eC (.int 0))) (ao ma []))) (az (eC (S "block 0 isn't the seal of noughts"))) (ba),bQ (aB 1) (ao dn [aa 0]),aZ (tV (e2 bz (ao eQ [aa 0,aa 1]) (eC dE))) (az (eC (S "the root is no folder"))) (ba),gu 2 (e1 fw (bE (e4 (aa 1)) 1 [] (aB 0) [] (en [aa 0,eC (.bl true)]))),dj 3 (bH [aa 1]),i4 3 (tV (e2 eS (iC 3) (eC (.int 0)))) mJ,eP 2,az (ao jy [aa 0,aa 2])])
noncomputable def j6:List D→R D:=fn 1 (az (e1 ko (e2 aV (e1 eB (aa 0)) (e2 fO (bH [eC (.int 0)]) (e2 fX (eC (.int 16)) (e1 cg (aa 0)))))))
noncomputable def nP:List D→R D:=fn 2 (az (e2 er (e2 aV (e2 eT (aa 0) (aa 1)) (eC (.int 15))) (eC (.int 16))))
noncomputable def pz:Sm:=iA 3 (aa 4) (eC (.bl true))
noncomputable def nG:Sm:=aJ [aZ (bY (bV (tV (eG oLt oLt (aa 2) (aa 11) (aa 1)))) (tV (iw 3 (aa 11)))) (az (eC (.bl false))) (ba),iA 3 (aa 11) (eC (.bl true)),mX]
noncomputable def oy:Sm:=aJ [iu 6 5,aZ (bY (bV (tV (eG oLe oLt (aa 2) (aa 6) (aa 1)))) (bY (tV (iw 3 (aa 6))) (tV (e2 jN (e2 bO (e2 bO (aa 0) (aa 6)) (eC (.int 0))) (en [eC (.int 1),eC (.int 2)]))))) (az (eC (.bl false))) (ba),iA 3 (aa 6) (eC (.bl true)),bQ (cW [7,8]) (b6 (e2 bO (aa 0) (aa 6)) none (some (eC (.int 2)))),aZ (tV (e2 eS (aa 8) (e2 er (eC (.int 64)) (aa 7)))) (az (eC (.bl false))) (ba),bQ (aB 9) (e1 eB (b6 (e2 bO (aa 0) (aa 6)) (some (eC (.int 2))) (some (e2 aV (eC (.int 2)) (ao nP [aa 7,aa 8]))))),aZ (tV (e2 bz (e2 bO (aa 0) (aa 6)) (ao j6 [e2 aV (bH [aa 7,aa 8]) (aa 9)]))) (az (eC (.bl false))) (ba),dj 10 (bH []),cA (bM (aa 9)) (aB 11) nG,aZ (dZ 10 (tV (e2 bz (bE (bM (b6 (aa 10) (some (e2 eT (aa 7) (aa 8))) none)) 1 [] (aB 0) [tV (e2 eS (aa 0) (eC (.int 0)))] (aa 0)) (bH [])))) (az (eC (.bl false))) (ba),aZ (tV (e2 oEq (aa 7) (eC (.int 2)))) (aJ [bQ (aB 12) (jV 10 (ib (aa 10) (some (eC (.int 0))) (some (e2 eT (eC (.int 2)) (aa 8))) (some (eC (.int 2))))),gO 5 (jV 10 (ib (aa 10) (some (eC (.int 1))) (some (e2 eT (eC (.int 2)) (aa 8))) (some (eC (.int 2))))),aZ (bY (tV (e2 bz (aa 12) (e1 mm (aa 12)))) (tV (e2 dB (eC (.int 0)) (aa 12)))) (az (eC (.bl false))) (ba)]) (ba)]
noncomputable def oK:Sm:=aZ (tV (e2 bz (e2 bO (aa 0) (e2 aV (eC (.int 14)) (e2 er (aa 4) (eC (.int 16))))) (ao j6 [b6 (aa 13) (some (aa 4)) (some (e2 aV (aa 4) (eC (.int 16))))]))) (az (eC (.bl false))) (ba)
noncomputable def jv:List D→R D:=fn 14 (aJ [bQ (aB 1) (e1 cg (aa 0)),bQ (aB 2) (e2 aV (eC (.int 14)) (e2 er (e2 aV (aa 1) (eC (.int 15))) (eC (.int 16)))),gu 3 (gm [] []),cA (e4 (aa 2)) (aB 4) pz,dj 5 (bH [aa 2]),i4 3 (dZ 5 (tV (e2 bz (aa 5) (bH [])))) oy,eP 3,bQ (aB 13) (bE (e4 (aa 1)) 1 [3] (aB 0) [] (e1 pk (e2 dB (aa 0) (aa 1)))),cA (nu (eC (.int 0)) (aa 1) (eC (.int 16))) (aB 4) oK,az (e2 oEq (e2 bO (aa 0) (eC (.int 0))) (ao j6 [bH []]))])
noncomputable def oV:List D→R D:=fn 2 (aJ [aZ (tV (e2 oEq (ao eQ [aa 0,aa 1]) (eC dE))) (az (en [eC (S "folder"),e1 fw (ao fH [aa 0,aa 1])])) (ba),az (en [eC (S "file"),ao kr [aa 0,aa 1]])])
noncomputable def oX:Sm:=aJ [iu 3 2,iA 1 (aa 3) (ao oV [aa 0,aa 3]),gO 2 (bE (bM (ao fH [aa 0,aa 3])) 2 [] (cW [0,1]) [] (aa 1))]
noncomputable def kz:List D→R D:=fn 4 (aJ [gu 1 (gm [] []),dj 2 (bH [ao dn [aa 0]]),i4 3 (tV (e2 eS (iC 2) (eC (.int 0)))) oX,eP 1,az (aa 1)])
noncomputable def gJ:Sm:=aZ (bY (bV (tV (e1 (dh .int) (aa 3)))) (tV (e1 (dh .bool) (aa 3)))) (az (eC (.bl false))) (ba)
noncomputable def fG:Sm:=aJ [aZ (bY (bV (tV (e1 (dh .tuple) (aa 2)))) (tV (e2 bz (e1 cg (aa 2)) (eC (.int 16))))) (az (eC (.bl false))) (ba),cA (bM (aa 2)) (aB 3) gJ]
noncomputable def kj:List D→R D:=fn 6 (aJ [dj 1 (ao ju [aa 0]),aZ (dZ 1 (bY (bV (tV (e1 (dh .list) (aa 1)))) (tV (e2 bz (e1 cg (aa 1)) (aa 0))))) (az (eC (.bl false))) (ba),j9 1 (cA (bM (aa 1)) (aB 2) fG),aZ (dZ 1 (bY (tV (e1 jm (ao ji [aa 1]))) (bV (tV (ao jv [aa 1]))))) (az (eC (.bl false))) (ba),bQ (aB 4) (e2 aV (eC (.int 14)) (e2 er (e2 aV (aa 0) (eC (.int 15))) (eC (.int 16)))),aZ (dZ 1 (bY (tV (e2 bz (ao dn [aa 1]) (aa 4))) (tV (e2 fR (ao kz [aa 1]) (mE (aa 4) (en [eC (S "folder"),gm [] []])))))) (az (eC (.bl false))) (ba),aZ (dZ 1 (tV (e2 bz (ao kF [aa 1]) (e2 ft (e2 aV (aa 4) (eC (.int 1))) (aa 0))))) (az (eC (.bl false))) (ba),bQ (aB 5) (ao ju [aa 0]),gT 1 (aa 4) (lA 1 (eC (.int 0))),az (e1 mG (ao ji [aa 5]))])
noncomputable def gn:Sm:=aZ (bV (tV (ao kj [aa 1]))) (az (eC (.bl false))) (ba)
noncomputable def j4:List D→R D:=fn 2 (aJ [cA (bM (e2 aV (bH [eC (.int 32),eC (.int 33),eC (.int 47),eC (.int 48),eC (.int 49),eC (.int 64),eC (.int 199),eC (.int 200)]) (bE (bM (b6 (aa 0) none (some (eC (.int 6))))) 1 [] (aB 0) [] (e2 aV (eC (.int 32)) (e2 oMod (aa 0) (eC (.int 169))))))) (aB 1) gn,az (eC (.bl true))])
end gq
end PL
set_option maxHeartbeats 400000
namespace PL
namespace gq
open PySem PySem.Spec
open L2 (Hp XK)
section
variable{P:Program}{w:World}{K:PySem.W.Frag}{mg:Str→Option Value}{base:Heap}{f:Addr}{fd:FuncData}
noncomputable def top(i:Nat):Stmt:=PySem.Challenge.pw_underfloor_k39_new_floors.main.body.getD i (.Pass ⟨0,0,0,0⟩)
noncomputable abbrev ix:Stmt:=top 15
theorem Gv:L2.aT ["many"] ["many"] (L2.ai ix):=⟨rfl,rfl,rfl,by decide+kernel,rfl,by decide+kernel,by decide+kernel⟩
theorem Eh(Fu:L2.aR K "map_blocks" "map_blocks" ix f fd)(hm:mg "map_blocks"=some (.ref f))(gl_PAGE_WORDS:bo P w K mg "PAGE_WORDS" cu):Df P w K mg base "map_blocks" 1 1 gS:=by
 have sc:=Gv
 refine bu (k:=0) Fu hm sc (Fu.binds (ps:=["many"]) fun _ _ _ _ _ _ us hl=>match us,hl with|[_],_=>rfl) (fun cdv A outer s H E hr=>?_)
 exact((aI (aE (aK gM gQ (aK L2.kC jB (aK bL bP (ab 0) (bK gl_PAGE_WORDS)) aw) (bK gl_PAGE_WORDS))))).out
noncomputable abbrev iL:Stmt:=top 16
theorem AU:L2.aT ["floor"] ["floor"] (L2.ai iL):=⟨rfl,rfl,rfl,by decide+kernel,rfl,by decide+kernel,by decide+kernel⟩
theorem CD(Fu:L2.aR K "root_of" "root_of" iL f fd)(hm:mg "root_of"=some (.ref f))(mg_len:mg "len"=none)(gl_FIRST_BLOCK:bo P w K mg "FIRST_BLOCK" gK)(df_map_blocks:Df P w K mg base "map_blocks" 1 1 gS):Df P w K mg base "root_of" 2 1 dn:=by
 have sc:=AU
 refine bu (k:=1) Fu hm sc (Fu.binds (ps:=["floor"]) fun _ _ _ _ _ _ us hl=>match us,hl with|[_],_=>rfl) (fun cdv A outer s H E hr=>?_)
 exact((aI (aE (aK bL bP (bK gl_FIRST_BLOCK) (aH df_map_blocks hr (ag (ck di dC mg_len cG (ab 0)) aq)))))).out
noncomputable abbrev jj:Stmt:=top 27
theorem C7:L2.aT ["words"] ["words"] (L2.ai jj):=⟨rfl,rfl,rfl,by decide+kernel,rfl,by decide+kernel,by decide+kernel⟩
theorem vC(Fu:L2.aR K "padded" "padded" jj f fd)(hm:mg "padded"=some (.ref f))(mg_len:mg "len"=none)(mg_tuple:mg "tuple"=none)(gl_PAGE_WORDS:bo P w K mg "PAGE_WORDS" cu):Df P w K mg base "padded" 1 1 my:=by
 have sc:=C7
 refine bu (k:=0) Fu hm sc (Fu.binds (ps:=["words"]) fun _ _ _ _ _ _ us hl=>match us,hl with|[_],_=>rfl) (fun cdv A outer s H E hr=>?_)
 exact((aI (aE (gP L2.pK oR mg_tuple jE (aK bL bP (ab 0) (aK lx mP (cE (ag aw aq)) (aK L2.kC jB (bK gl_PAGE_WORDS) (ck di dC mg_len cG (ab 0))))))))).out
noncomputable abbrev jg:Stmt:=top 20
theorem CC:L2.aT ["floor","marks","behind","words","place"] ["floor","marks"] (L2.ai jg):=⟨rfl,rfl,rfl,by decide+kernel,rfl,by decide+kernel,by decide+kernel⟩
theorem uP(Fu:L2.aR K "with_used" "with_used" jg f fd)(hm:mg "with_used"=some (.ref f))(mg_len:mg "len"=none)(mg_list:mg "list"=none)(mg_range:mg "range"=none)(mg_tuple:mg "tuple"=none)(gl_PAGE_WORDS:bo P w K mg "PAGE_WORDS" cu)(gl_FIRST_BLOCK:bo P w K mg "FIRST_BLOCK" gK)(df_map_blocks:Df P w K mg base "map_blocks" 1 1 gS):fD P w K mg base "with_used" 2 2 mK:=by
 have sc:=CC
 refine qE (k:=1) Fu hm sc (Fu.binds (ps:=["floor","marks"]) fun _ _ _ _ _ _ us hl=>match us,hl with|[_,_],_=>rfl) (fun cdv A outer s H E hr=>?_)
 exact((ak (fI 2 sc.nd (m9 mg_list (ab 0))) (ak (cL (aK bL bP (ab 1) (aK lx mP (cE (ag aw aq)) (aK L2.kC jB (aK gz gE (bK gl_PAGE_WORDS) (aH df_map_blocks hr (ag (ck di dC mg_len cG (ab 0)) aq))) (ck di dC mg_len cG (ab 1))))) (aO 3 sc.nd)) (ak (fZ (f:=nR) (jC mg_range (aH df_map_blocks hr (ag (ck di dC mg_len cG (ab 0)) aq))) (aO 4 sc.nd) (by delta nR;exact(aI (mT 2 (gP L2.pK oR mg_tuple jE (dI (ab 3) (bG (aK gz gE (bK gl_PAGE_WORDS) (ab 4))) (bG (aK gz gE (bK gl_PAGE_WORDS) (aK bL bP (ab 4) aw))))) (aK bL bP (bK gl_FIRST_BLOCK) (ab 4)) (by delta kl;intro _;rfl))))) (ak (Ao 2) b9))))).out
noncomputable abbrev g9:Stmt:=top 28
theorem zf:L2.aT ["many","floor","root"] ["many"] (L2.ai g9):=⟨rfl,rfl,rfl,by decide+kernel,rfl,by decide+kernel,by decide+kernel⟩
theorem DN(Fu:L2.aR K "new_floor" "new_floor" g9 f fd)(hm:mg "new_floor"=some (.ref f))(mg_range:mg "range"=none)(gl_FOLDER:bo P w K mg "FOLDER" dE)(df_padded:Df P w K mg base "padded" 1 1 my)(df_root_of:Df P w K mg base "root_of" 2 1 dn)(df_with_used:fD P w K mg base "with_used" 2 2 mK):fD P w K mg base "new_floor" 3 1 ju:=by
 have sc:=zf
 refine qE (k:=2) Fu hm sc (Fu.binds (ps:=["many"]) fun _ _ _ _ _ _ us hl=>match us,hl with|[_],_=>rfl) (fun cdv A outer s H E hr=>?_)
 exact((ak (fI 1 sc.nd (Bv (cE (ag (aH df_padded hr (ag (cE aq) aq)) aq)) (ab 0))) (ak (cL (ux 1 (aH df_root_of hr (ag (ab 1) aq))) (aO 2 sc.nd)) (ak (mT 1 (aH df_padded hr (ag (cE (ag (bK gl_FOLDER) aq)) aq)) (ab 2) (by delta kl;intro _;rfl)) (i0 1 (ak (Cs (tI df_with_used hr (ag (ab 1) (ag (dQ (cZ ["number"] ["root"] [2] (cN (L2.ai g9) ["many","floor","root"] (by rfl) (by rfl) (by decide+kernel)) (jC mg_range (ab 0)) (fun cl C s H fp=>by exact(aO 0 (show List.Nodup (["number","root"]:List Str)from by decide+kernel))) (fun cl C s H fp=>by exact cO) (fun cl C s H fp=>by exact(og (bD L2.kc jX pR (ab 0) (ab 1)) aw aw)))) aq))) (EE (by rfl))) b9)))))).out
noncomputable abbrev jl:Stmt:=top 17
theorem E6:L2.aT ["floor","words","block"] ["floor"] (L2.ai jl):=⟨rfl,rfl,rfl,by decide+kernel,rfl,by decide+kernel,by decide+kernel⟩
theorem uO(Fu:L2.aR K "map_words" "map_words" jl f fd)(hm:mg "map_words"=some (.ref f))(mg_list:mg "list"=none)(gl_FIRST_BLOCK:bo P w K mg "FIRST_BLOCK" gK)(df_root_of:Df P w K mg base "root_of" 2 1 dn):Df P w K mg base "map_words" 3 1 fT:=by
 have sc:=E6
 refine bu (k:=2) Fu hm sc (Fu.binds (ps:=["floor"]) fun _ _ _ _ _ _ us hl=>match us,hl with|[_],_=>rfl) (fun cdv A outer s H E hr=>?_)
 exact((ak (fI 1 sc.nd (iV aq)) (ak (fZ (f:=m4) (cC (dI (ab 0) (bG (bK gl_FIRST_BLOCK)) (bG (aH df_root_of hr (ag (ab 0) aq))))) (aO 2 sc.nd) (by delta m4;exact(aI (km 1 (m9 mg_list (ab 2)))))) (i0 1 (ak (aE (ab 1)) b9))))).out
noncomputable abbrev iH:Stmt:=top 18
theorem Ea:L2.aT ["floor"] ["floor"] (L2.ai iH):=⟨rfl,rfl,rfl,by decide+kernel,rfl,by decide+kernel,by decide+kernel⟩
theorem u6(Fu:L2.aR K "used" "used" iH f fd)(hm:mg "used"=some (.ref f))(mg_len:mg "len"=none)(df_map_words:Df P w K mg base "map_words" 3 1 fT):Df P w K mg base "used" 4 1 pH:=by
 have sc:=Ea
 refine bu (k:=3) Fu hm sc (Fu.binds (ps:=["floor"]) fun _ _ _ _ _ _ us hl=>match us,hl with|[_],_=>rfl) (fun cdv A outer s H E hr=>?_)
 exact((aI (aE (dI (aH df_map_words hr (ag (ab 0) aq)) eZ (bG (ck di dC mg_len cG (ab 0))))))).out
noncomputable abbrev iq:Stmt:=top 19
theorem x4:L2.aT ["floor"] ["floor"] (L2.ai iq):=⟨rfl,rfl,rfl,by decide+kernel,rfl,by decide+kernel,by decide+kernel⟩
theorem yK(Fu:L2.aR K "free_blocks" "free_blocks" iq f fd)(hm:mg "free_blocks"=some (.ref f))(mg_enumerate:mg "enumerate"=none)(df_used:Df P w K mg base "used" 4 1 pH):Df P w K mg base "free_blocks" 5 1 kF:=by
 have sc:=x4
 refine bu (k:=4) Fu hm sc (Fu.binds (ps:=["floor"]) fun _ _ _ _ _ _ us hl=>match us,hl with|[_],_=>rfl) (fun cdv A outer s H E hr=>?_)
 exact((aI (aE (dQ (cZ ["number","mark"] [] [] (cN (L2.ai iq) ["floor"] (by rfl) (by rfl) (by decide+kernel)) (qm mg_enumerate (aH df_used hr (ag (ab 0) aq))) (fun cl C s H fp=>by exact(hZ (dA 0 (aO 0 (show List.Nodup (["number","mark"]:List Str)from by decide+kernel)) (dA 1 (aO 1 (show List.Nodup (["number","mark"]:List Str)from by decide+kernel)) g0)) gj)) (fun cl C s H fp=>by exact(um (bD (fq hr.units) fP iP (ab 1) aw) cO)) (fun cl C s H fp=>by exact(ab 0))))))).out
noncomputable abbrev iO:Stmt:=top 44
theorem vS:L2.aT ["floor","taken","number","mark"] ["floor","taken"] (L2.ai iO):=⟨rfl,rfl,rfl,by decide+kernel,rfl,by decide+kernel,by decide+kernel⟩
theorem wZ(Fu:L2.aR K "map_wrong" "map_wrong" iO f fd)(hm:mg "map_wrong"=some (.ref f))(mg_enumerate:mg "enumerate"=none)(df_map_words:Df P w K mg base "map_words" 3 1 fT):Df P w K mg base "map_wrong" 4 2 jy:=by
 have sc:=vS
 refine bu (k:=3) Fu hm sc (Fu.binds (ps:=["floor","taken"]) fun _ _ _ _ _ _ us hl=>match us,hl with|[_,_],_=>rfl) (fun cdv A outer s H E hr=>?_)
 exact((ak (fZ (f:=gX) (qm mg_enumerate (aH df_map_words hr (ag (ab 0) aq))) (hZ (dA 2 (aO 2 sc.nd) (dA 3 (aO 3 sc.nd) g0)) gj) (by delta gX;exact(aI (bB (bD (de hr.units) cX dq (ab 3) (og (bD (mM hr.units) nY rh (ab 2) (ab 1)) aw aw)) (aI (aE d9)) bF)))) (ak (aE tJ) b9))).out
noncomputable abbrev jf:Stmt:=top 6
theorem zy:L2.aT ["thing","many"] ["thing","many"] (L2.ai jf):=⟨rfl,rfl,rfl,by decide+kernel,rfl,by decide+kernel,by decide+kernel⟩
theorem D9(Fu:L2.aR K "is_tuple" "is_tuple" jf f fd)(hm:mg "is_tuple"=some (.ref f))(mg_isinstance:mg "isinstance"=none)(mg_len:mg "len"=none)(mg_tuple:mg "tuple"=none):Df P w K mg base "is_tuple" 1 2 mf:=by
 have sc:=zy
 refine bu (k:=0) Fu hm sc (Fu.binds (ps:=["thing","many"]) fun _ _ _ _ _ _ us hl=>match us,hl with|[_,_],_=>rfl) (fun cdv A outer s H E hr=>?_)
 exact((aI (aE (kB (gB .tuple (ab 0) mg_isinstance mg_tuple jE) (ku (gh (fq hr.units) fP (ck di dC mg_len cG (ab 0)) (ab 1))))))).out
noncomputable abbrev iI:Stmt:=top 1
theorem FZ:L2.aT ["thing"] ["thing"] (L2.ai iI):=⟨rfl,rfl,rfl,by decide+kernel,rfl,by decide+kernel,by decide+kernel⟩
theorem vI(Fu:L2.aR K "is_whole" "is_whole" iI f fd)(hm:mg "is_whole"=some (.ref f))(mg_bool:mg "bool"=none)(mg_int:mg "int"=none)(mg_isinstance:mg "isinstance"=none):Df P w K mg base "is_whole" 1 1 kR:=by
 have sc:=FZ
 refine bu (k:=0) Fu hm sc (Fu.binds (ps:=["thing"]) fun _ _ _ _ _ _ us hl=>match us,hl with|[_],_=>rfl) (fun cdv A outer s H E hr=>?_)
 exact((aI (aE (kB (gB .int (ab 0) mg_isinstance mg_int nW) (ku (B1 (gB .bool (ab 0) mg_isinstance mg_bool rK))))))).out
noncomputable abbrev jo:Stmt:=top 2
theorem Cm:L2.aT ["thing"] ["thing"] (L2.ai jo):=⟨rfl,rfl,rfl,by decide+kernel,rfl,by decide+kernel,by decide+kernel⟩
theorem DJ(Fu:L2.aR K "is_word" "is_word" jo f fd)(hm:mg "is_word"=some (.ref f))(df_is_whole:Df P w K mg base "is_whole" 1 1 kR):Df P w K mg base "is_word" 2 1 mn:=by
 have sc:=Cm
 refine bu (k:=1) Fu hm sc (Fu.binds (ps:=["thing"]) fun _ _ _ _ _ _ us hl=>match us,hl with|[_],_=>rfl) (fun cdv A outer s H E hr=>?_)
 exact((aI (aE (kB (aH df_is_whole hr (ag (ab 0) aq)) (ku (zK L2.kc L2.j1 jX jW aw (ab 0) (aK Ew Bh aw aw))))))).out
noncomputable abbrev hU:Stmt:=top 5
theorem CH:L2.aT ["thing"] ["thing"] (L2.ai hU):=⟨rfl,rfl,rfl,by decide+kernel,rfl,by decide+kernel,by decide+kernel⟩
theorem wO(Fu:L2.aR K "is_page" "is_page" hU f fd)(hm:mg "is_page"=some (.ref f))(mg_all:mg "all"=none)(gl_PAGE_WORDS:bo P w K mg "PAGE_WORDS" cu)(df_is_tuple:Df P w K mg base "is_tuple" 1 2 mf)(df_is_word:Df P w K mg base "is_word" 2 1 mn):Df P w K mg base "is_page" 3 1 jz:=by
 have sc:=CH
 refine bu (k:=2) Fu hm sc (Fu.binds (ps:=["thing"]) fun _ _ _ _ _ _ us hl=>match us,hl with|[_],_=>rfl) (fun cdv A outer s H E hr=>?_)
 exact((aI (aE (kB (aH df_is_tuple hr (ag (ab 0) (ag (bK gl_PAGE_WORDS) aq))) (ku (ck (lF rfl) kS mg_all lT (dQ (cZ ["word"] [] [] (cN (L2.ai hU) ["thing"] (by rfl) (by rfl) (by decide+kernel)) (cC (ab 0)) (fun cl C s H fp=>by exact(aO 0 (show List.Nodup (["word"]:List Str)from by decide+kernel))) (fun cl C s H fp=>by exact cO) (fun cl C s H fp=>by exact(aH df_is_word hr (ag (ab 0) aq))))))))))).out
noncomputable abbrev ik:Stmt:=top 10
theorem Gk:L2.aT ["thing"] ["thing"] (L2.ai ik):=⟨rfl,rfl,rfl,by decide+kernel,rfl,by decide+kernel,by decide+kernel⟩
theorem Bs(Fu:L2.aR K "is_floor" "is_floor" ik f fd)(hm:mg "is_floor"=some (.ref f))(mg_all:mg "all"=none)(mg_isinstance:mg "isinstance"=none)(mg_len:mg "len"=none)(mg_list:mg "list"=none)(gl_LEAST_BLOCKS:bo P w K mg "LEAST_BLOCKS" kD)(gl_MOST_BLOCKS:bo P w K mg "MOST_BLOCKS" jw)(df_is_page:Df P w K mg base "is_page" 3 1 jz):Df P w K mg base "is_floor" 4 1 ml:=by
 have sc:=Gk
 refine bu (k:=3) Fu hm sc (Fu.binds (ps:=["thing"]) fun _ _ _ _ _ _ us hl=>match us,hl with|[_],_=>rfl) (fun cdv A outer s H E hr=>?_)
 exact((ak (bB (fN (eW (dJ (dH (gB .list (ab 0) mg_isinstance mg_list gf))) (fL (dJ (oh L2.kc L2.kc jX jX pR (bK gl_LEAST_BLOCKS) (ck di dC mg_len cG (ab 0)) (bK gl_MOST_BLOCKS)))))) (aI (aE bR)) bF) (ak (aE (ck (lF rfl) kS mg_all lT (dQ (cZ ["block"] [] [] (cN (L2.ai ik) ["thing"] (by rfl) (by rfl) (by decide+kernel)) (cC (ab 0)) (fun cl C s H fp=>by exact(aO 0 (show List.Nodup (["block"]:List Str)from by decide+kernel))) (fun cl C s H fp=>by exact cO) (fun cl C s H fp=>by exact(aH df_is_page hr (ag (ab 0) aq))))))) b9))).out
noncomputable abbrev iU:Stmt:=top 13
theorem yi:L2.aT [] [] (L2.ai iU):=⟨rfl,rfl,rfl,by decide+kernel,rfl,by decide+kernel,by decide+kernel⟩
theorem zu(Fu:L2.aR K "no_seal" "no_seal" iU f fd)(hm:mg "no_seal"=some (.ref f))(gl_PAGE_WORDS:bo P w K mg "PAGE_WORDS" cu):Df P w K mg base "no_seal" 1 0 ma:=by
 have sc:=yi
 refine bu (k:=0) Fu hm sc (Fu.binds (ps:=[]) fun _ _ _ _ _ _ us hl=>match us,hl with|[],_=>rfl) (fun cdv A outer s H E hr=>?_)
 refine(aI ?_).out
 refine aE ?_
 exact(aK yD Bg (ie (ag aw aq)) (bK gl_PAGE_WORDS))
noncomputable abbrev iD:Stmt:=top 29
theorem z8:L2.aT ["floor","head"] ["floor","head"] (L2.ai iD):=⟨rfl,rfl,rfl,by decide+kernel,rfl,by decide+kernel,by decide+kernel⟩
theorem wY(Fu:L2.aR K "kind_of" "kind_of" iD f fd)(hm:mg "kind_of"=some (.ref f)):Df P w K mg base "kind_of" 1 2 eQ:=by
 have sc:=z8
 refine bu (k:=0) Fu hm sc (Fu.binds (ps:=["floor","head"]) fun _ _ _ _ _ _ us hl=>match us,hl with|[_,_],_=>rfl) (fun cdv A outer s H E hr=>?_)
 exact((aI (aE (cj (cj (ab 0) (ab 1)) aw)))).out
noncomputable abbrev hX:Stmt:=top 42
theorem uJ:L2.aT ["floor","numbers","taken"] ["floor","numbers","taken"] (L2.ai hX):=⟨rfl,rfl,rfl,by decide+kernel,rfl,by decide+kernel,by decide+kernel⟩
theorem A4(Fu:L2.aR K "are_blocks" "are_blocks" hX f fd)(hm:mg "are_blocks"=some (.ref f))(mg_all:mg "all"=none)(mg_len:mg "len"=none)(mg_set:mg "set"=none):Df P w K mg base "are_blocks" 1 3 mr:=by
 have sc:=uJ
 refine bu (k:=0) Fu hm sc (Fu.binds (ps:=["floor","numbers","taken"]) fun _ _ _ _ _ _ us hl=>match us,hl with|[_,_,_],_=>rfl) (fun cdv A outer s H E hr=>?_)
 exact((ak (bB (bD (de hr.units) cX dq (wG mg_len mg_set (ab 1)) (ck di dC mg_len cG (ab 1))) (aI (aE bR)) bF) (ak (aE (ck (lF rfl) kS mg_all lT (dQ (cZ ["number"] ["taken","floor"] [2,0] (cN (L2.ai hX) ["floor","numbers","taken"] (by rfl) (by rfl) (by decide+kernel)) (cC (ab 1)) (fun cl C s H fp=>by exact(aO 0 (show List.Nodup (["number","taken","floor"]:List Str)from by decide+kernel))) (fun cl C s H fp=>by exact cO) (fun cl C s H fp=>by exact(kB (gh L2.j1 jW (ab 0) (ck di dC mg_len cG (ab 2))) (ku (gh (rq hr.units) p5 (ab 0) (ab 1))))))))) b9))).out
noncomputable abbrev jd:Stmt:=top 32
theorem FR:L2.aT ["cells"] ["cells"] (L2.ai jd):=⟨rfl,rfl,rfl,by decide+kernel,rfl,by decide+kernel,by decide+kernel⟩
theorem Ga(Fu:L2.aR K "blocks_wanted" "blocks_wanted" jd f fd)(hm:mg "blocks_wanted"=some (.ref f))(gl_PAGE_WORDS:bo P w K mg "PAGE_WORDS" cu):Df P w K mg base "blocks_wanted" 1 1 j3:=by
 have sc:=FR
 refine bu (k:=0) Fu hm sc (Fu.binds (ps:=["cells"]) fun _ _ _ _ _ _ us hl=>match us,hl with|[_],_=>rfl) (fun cdv A outer s H E hr=>?_)
 exact((aI (aE (aK gM gQ (aK L2.kC jB (aK bL bP (ab 0) (bK gl_PAGE_WORDS)) aw) (bK gl_PAGE_WORDS))))).out
noncomputable abbrev iX:Stmt:=top 31
theorem FC:L2.aT ["kind","many"] ["kind","many"] (L2.ai iX):=⟨rfl,rfl,rfl,by decide+kernel,rfl,by decide+kernel,by decide+kernel⟩
theorem Gi(Fu:L2.aR K "cells_wanted" "cells_wanted" iX f fd)(hm:mg "cells_wanted"=some (.ref f))(gl_FOLDER:bo P w K mg "FOLDER" dE):Df P w K mg base "cells_wanted" 1 2 jJ:=by
 have sc:=FC
 refine bu (k:=0) Fu hm sc (Fu.binds (ps:=["kind","many"]) fun _ _ _ _ _ _ us hl=>match us,hl with|[_,_],_=>rfl) (fun cdv A outer s H E hr=>?_)
 exact((aI (aE (og (bD (fq hr.units) fP iP (ab 0) (bK gl_FOLDER)) (aK gz gE aw (ab 1)) (ab 1))))).out
noncomputable abbrev ij:Stmt:=top 43
theorem xF:L2.aT ["block","most","behind"] ["block"] (L2.ai ij):=⟨rfl,rfl,rfl,by decide+kernel,rfl,by decide+kernel,by decide+kernel⟩
theorem vF(Fu:L2.aR K "is_head" "is_head" ij f fd)(hm:mg "is_head"=some (.ref f))(mg_all:mg "all"=none)(gl_FILE:bo P w K mg "FILE" oH)(gl_MOST_FILE_WORDS:bo P w K mg "MOST_FILE_WORDS" pG)(gl_FOLDER:bo P w K mg "FOLDER" dE)(gl_MOST_FOLDER_NAMES:bo P w K mg "MOST_FOLDER_NAMES" oC)(gl_HEAD_WORDS:bo P w K mg "HEAD_WORDS" iT)(df_cells_wanted:Df P w K mg base "cells_wanted" 1 2 jJ)(df_blocks_wanted:Df P w K mg base "blocks_wanted" 1 1 j3):Df P w K mg base "is_head" 2 1 mU:=by
 have sc:=xF
 refine bu (k:=1) Fu hm sc (Fu.binds (ps:=["block"]) fun _ _ _ _ _ _ us hl=>match us,hl with|[_],_=>rfl) (fun cdv A outer s H E hr=>?_)
 exact((ak (bB (bD (fq hr.units) fP iP (cj (ab 0) aw) (bK gl_FILE)) (aI (cL (bK gl_MOST_FILE_WORDS) (aO 1 sc.nd))) (aI (bB (bD (fq hr.units) fP iP (cj (ab 0) aw) (bK gl_FOLDER)) (aI (cL (bK gl_MOST_FOLDER_NAMES) (aO 1 sc.nd))) (aI (aE bR))))) (ak (bB (bD L2.kn jI jY (cj (ab 0) aw) (ab 1)) (aI (aE bR)) bF) (ak (cL (aK bL bP (bK gl_HEAD_WORDS) (aH df_blocks_wanted hr (ag (aH df_cells_wanted hr (ag (cj (ab 0) aw) (ag (cj (ab 0) aw) aq))) aq))) (aO 2 sc.nd)) (ak (aE (ck (lF rfl) kS mg_all lT (dQ (cZ ["word"] [] [] (cN (L2.ai ij) ["block","most","behind"] (by rfl) (by rfl) (by decide+kernel)) (cC (dI (ab 0) (bG (ab 2)) eZ)) (fun cl C s H fp=>by exact(aO 0 (show List.Nodup (["word"]:List Str)from by decide+kernel))) (fun cl C s H fp=>by exact cO) (fun cl C s H fp=>by exact(gh (fq hr.units) fP (ab 0) aw)))))) b9))))).out
noncomputable abbrev iG:Stmt:=top 30
theorem BR:L2.aT ["floor","head"] ["floor","head"] (L2.ai iG):=⟨rfl,rfl,rfl,by decide+kernel,rfl,by decide+kernel,by decide+kernel⟩
theorem y0(Fu:L2.aR K "size_of" "size_of" iG f fd)(hm:mg "size_of"=some (.ref f)):Df P w K mg base "size_of" 1 2 pM:=by
 have sc:=BR
 refine bu (k:=0) Fu hm sc (Fu.binds (ps:=["floor","head"]) fun _ _ _ _ _ _ us hl=>match us,hl with|[_,_],_=>rfl) (fun cdv A outer s H E hr=>?_)
 exact((aI (aE (cj (cj (ab 0) (ab 1)) aw)))).out
noncomputable abbrev jh:Stmt:=top 33
theorem FI:L2.aT ["floor","head"] ["floor","head"] (L2.ai jh):=⟨rfl,rfl,rfl,by decide+kernel,rfl,by decide+kernel,by decide+kernel⟩
theorem yX(Fu:L2.aR K "many_cells" "many_cells" jh f fd)(hm:mg "many_cells"=some (.ref f))(df_kind_of:Df P w K mg base "kind_of" 1 2 eQ)(df_size_of:Df P w K mg base "size_of" 1 2 pM)(df_cells_wanted:Df P w K mg base "cells_wanted" 1 2 jJ):Df P w K mg base "many_cells" 2 2 gN:=by
 have sc:=FI
 refine bu (k:=1) Fu hm sc (Fu.binds (ps:=["floor","head"]) fun _ _ _ _ _ _ us hl=>match us,hl with|[_,_],_=>rfl) (fun cdv A outer s H E hr=>?_)
 exact((aI (aE (aH df_cells_wanted hr (ag (aH df_kind_of hr (ag (ab 0) (ag (ab 1) aq))) (ag (aH df_size_of hr (ag (ab 0) (ag (ab 1) aq))) aq)))))).out
noncomputable abbrev iW:Stmt:=top 34
theorem EL:L2.aT ["floor","head"] ["floor","head"] (L2.ai iW):=⟨rfl,rfl,rfl,by decide+kernel,rfl,by decide+kernel,by decide+kernel⟩
theorem wA(Fu:L2.aR K "blocks_of" "blocks_of" iW f fd)(hm:mg "blocks_of"=some (.ref f))(mg_list:mg "list"=none)(gl_HEAD_WORDS:bo P w K mg "HEAD_WORDS" iT)(df_many_cells:Df P w K mg base "many_cells" 2 2 gN)(df_blocks_wanted:Df P w K mg base "blocks_wanted" 1 1 j3):Df P w K mg base "blocks_of" 3 2 gU:=by
 have sc:=EL
 refine bu (k:=2) Fu hm sc (Fu.binds (ps:=["floor","head"]) fun _ _ _ _ _ _ us hl=>match us,hl with|[_,_],_=>rfl) (fun cdv A outer s H E hr=>?_)
 exact((aI (aE (gP L2.mq oA mg_list gf (dI (cj (ab 0) (ab 1)) (bG (bK gl_HEAD_WORDS)) (bG (aK bL bP (bK gl_HEAD_WORDS) (aH df_blocks_wanted hr (ag (aH df_many_cells hr (ag (ab 0) (ag (ab 1) aq))) aq))))))))).out
noncomputable abbrev jc:Stmt:=top 35
theorem uW:L2.aT ["floor","head","words","number"] ["floor","head"] (L2.ai jc):=⟨rfl,rfl,rfl,by decide+kernel,rfl,by decide+kernel,by decide+kernel⟩
theorem AB(Fu:L2.aR K "block_words" "block_words" jc f fd)(hm:mg "block_words"=some (.ref f))(mg_list:mg "list"=none)(df_blocks_of:Df P w K mg base "blocks_of" 3 2 gU):Df P w K mg base "block_words" 4 2 kE:=by
 have sc:=uW
 refine bu (k:=3) Fu hm sc (Fu.binds (ps:=["floor","head"]) fun _ _ _ _ _ _ us hl=>match us,hl with|[_,_],_=>rfl) (fun cdv A outer s H E hr=>?_)
 exact((ak (fI 2 sc.nd (iV aq)) (ak (fZ (f:=nr) (cC (aH df_blocks_of hr (ag (ab 0) (ag (ab 1) aq)))) (aO 3 sc.nd) (by delta nr;exact(aI (km 2 (m9 mg_list (cj (ab 0) (ab 3))))))) (i0 2 (ak (aE (ab 2)) b9))))).out
noncomputable abbrev iK:Stmt:=top 36
theorem Es:L2.aT ["floor","head"] ["floor","head"] (L2.ai iK):=⟨rfl,rfl,rfl,by decide+kernel,rfl,by decide+kernel,by decide+kernel⟩
theorem E5(Fu:L2.aR K "cells_of" "cells_of" iK f fd)(hm:mg "cells_of"=some (.ref f))(df_block_words:Df P w K mg base "block_words" 4 2 kE)(df_many_cells:Df P w K mg base "many_cells" 2 2 gN):Df P w K mg base "cells_of" 5 2 kr:=by
 have sc:=Es
 refine bu (k:=4) Fu hm sc (Fu.binds (ps:=["floor","head"]) fun _ _ _ _ _ _ us hl=>match us,hl with|[_,_],_=>rfl) (fun cdv A outer s H E hr=>?_)
 exact((aI (aE (dI (aH df_block_words hr (ag (ab 0) (ag (ab 1) aq))) eZ (bG (aH df_many_cells hr (ag (ab 0) (ag (ab 1) aq)))))))).out
noncomputable abbrev iQ:Stmt:=top 37
theorem EV:L2.aT ["floor","head","cells"] ["floor","head"] (L2.ai iQ):=⟨rfl,rfl,rfl,by decide+kernel,rfl,by decide+kernel,by decide+kernel⟩
theorem vz(Fu:L2.aR K "pairs_of" "pairs_of" iQ f fd)(hm:mg "pairs_of"=some (.ref f))(mg_list:mg "list"=none)(mg_zip:mg "zip"=none)(gl_FOLDER:bo P w K mg "FOLDER" dE)(df_kind_of:Df P w K mg base "kind_of" 1 2 eQ)(df_cells_of:Df P w K mg base "cells_of" 5 2 kr):Df P w K mg base "pairs_of" 6 2 fH:=by
 have sc:=EV
 refine bu (k:=5) Fu hm sc (Fu.binds (ps:=["floor","head"]) fun _ _ _ _ _ _ us hl=>match us,hl with|[_,_],_=>rfl) (fun cdv A outer s H E hr=>?_)
 exact((ak (bB (bD (de hr.units) cX dq (aH df_kind_of hr (ag (ab 0) (ag (ab 1) aq))) (bK gl_FOLDER)) (aI (aE (cE aq))) bF) (ak (cL (aH df_cells_of hr (ag (ab 0) (ag (ab 1) aq))) (aO 2 sc.nd)) (ak (aE (kA (Ge mg_list mg_zip (kA (lZ (ab 2) (bG aw) eZ (bG aw)) qA) (kA (lZ (ab 2) (bG aw) eZ (bG aw)) qA)) C1)) b9)))).out
noncomputable abbrev fQ:Stmt:=top 41
theorem yF:L2.aT ["floor","head","taken","names"] ["floor","head","taken"] (L2.ai fQ):=⟨rfl,rfl,rfl,by decide+kernel,rfl,by decide+kernel,by decide+kernel⟩
theorem vf(Fu:L2.aR K "node_wrong" "node_wrong" fQ f fd)(hm:mg "node_wrong"=some (.ref f))(mg_any:mg "any"=none)(mg_zip:mg "zip"=none)(df_are_blocks:Df P w K mg base "are_blocks" 1 3 mr)(df_is_head:Df P w K mg base "is_head" 2 1 mU)(df_blocks_of:Df P w K mg base "blocks_of" 3 2 gU)(df_block_words:Df P w K mg base "block_words" 4 2 kE)(df_many_cells:Df P w K mg base "many_cells" 2 2 gN)(df_pairs_of:Df P w K mg base "pairs_of" 6 2 fH):Df P w K mg base "node_wrong" 7 3 oJ:=by
 have sc:=yF
 refine bu (k:=6) Fu hm sc (Fu.binds (ps:=["floor","head","taken"]) fun _ _ _ _ _ _ us hl=>match us,hl with|[_,_,_],_=>rfl) (fun cdv A outer s H E hr=>?_)
 exact((ak (bB (dJ (dH (aH df_are_blocks hr (ag (ab 0) (ag (cE (ag (ab 1) aq)) (ag (ab 2) aq)))))) (aI (aE d9)) bF) (ak (bB (dJ (dH (aH df_is_head hr (ag (cj (ab 0) (ab 1)) aq)))) (aI (aE d9)) bF) (ak (bB (dJ (dH (aH df_are_blocks hr (ag (ab 0) (ag (aK bL bP (cE (ag (ab 1) aq)) (aH df_blocks_of hr (ag (ab 0) (ag (ab 1) aq)))) (ag (ab 2) aq)))))) (aI (aE d9)) bF) (ak (bB (dH (ck (sV rfl) su mg_any tw (dQ (cZ ["word"] [] [] (cN (L2.ai fQ) ["floor","head","taken","names"] (by rfl) (by rfl) (by decide+kernel)) (cC (dI (aH df_block_words hr (ag (ab 0) (ag (ab 1) aq))) (bG (aH df_many_cells hr (ag (ab 0) (ag (ab 1) aq)))) eZ)) (fun cl C s H fp=>by exact(aO 0 (show List.Nodup (["word"]:List Str)from by decide+kernel))) (fun cl C s H fp=>by exact cO) (fun cl C s H fp=>by exact(gh (de hr.units) cX (ab 0) aw)))))) (aI (aE d9)) bF) (ak (cL (aK bL bP (cE (ag aw aq)) (dQ (cZ ["name","inner"] [] [] (cN (L2.ai fQ) ["floor","head","taken","names"] (by rfl) (by rfl) (by decide+kernel)) (cC (aH df_pairs_of hr (ag (ab 0) (ag (ab 1) aq)))) (fun cl C s H fp=>by exact(hZ (dA 0 (aO 0 (show List.Nodup (["name","inner"]:List Str)from by decide+kernel)) (dA 1 (aO 1 (show List.Nodup (["name","inner"]:List Str)from by decide+kernel)) g0)) gj)) (fun cl C s H fp=>by exact cO) (fun cl C s H fp=>by exact(ab 0))))) (aO 3 sc.nd)) (ak (bB (dH (ck (sV rfl) su mg_any tw (dQ (cZ ["name","after"] [] [] (cN (L2.ai fQ) ["floor","head","taken","names"] (by rfl) (by rfl) (by decide+kernel)) (xp mg_zip (ab 3) (dI (ab 3) (bG aw) eZ)) (fun cl C s H fp=>by exact(hZ (dA 0 (aO 0 (show List.Nodup (["name","after"]:List Str)from by decide+kernel)) (dA 1 (aO 1 (show List.Nodup (["name","after"]:List Str)from by decide+kernel)) g0)) gj)) (fun cl C s H fp=>by exact cO) (fun cl C s H fp=>by exact(gh L2.yU De (ab 0) (ab 1))))))) (aI (aE d9)) bF) (ak (aE tJ) b9)))))))).out
noncomputable abbrev fm:Stmt:=top 40
theorem FA:L2.aT ["thing","root","taken","todo","head","wrong"] ["thing"] (L2.ai fm):=⟨rfl,rfl,rfl,by decide+kernel,rfl,by decide+kernel,by decide+kernel⟩
theorem Bo(Fu:L2.aR K "floor_wrong" "floor_wrong" fm f fd)(hm:mg "floor_wrong"=some (.ref f))(mg_dict:mg "dict"=none)(mg_len:mg "len"=none)(mg_range:mg "range"=none)(gl_FOLDER:bo P w K mg "FOLDER" dE)(df_is_floor:Df P w K mg base "is_floor" 4 1 ml)(df_no_seal:Df P w K mg base "no_seal" 1 0 ma)(df_root_of:Df P w K mg base "root_of" 2 1 dn)(df_kind_of:Df P w K mg base "kind_of" 1 2 eQ)(df_node_wrong:Df P w K mg base "node_wrong" 7 3 oJ)(df_blocks_of:Df P w K mg base "blocks_of" 3 2 gU)(df_pairs_of:Df P w K mg base "pairs_of" 6 2 fH)(df_map_wrong:Df P w K mg base "map_wrong" 4 2 jy):Df P w K mg base "floor_wrong" 8 1 ji:=by
 have sc:=FA
 refine bu (k:=7) Fu hm sc (Fu.binds (ps:=["thing"]) fun _ _ _ _ _ _ us hl=>match us,hl with|[_],_=>rfl) (fun cdv A outer s H E hr=>?_)
 exact((ak (bB (dJ (dH (aH df_is_floor hr (ag (ab 0) aq)))) (aI (aE d9)) bF) (ak (bB (bD (de hr.units) cX dq (cj (ab 0) aw) (Fs df_no_seal hr)) (aI (aE d9)) bF) (ak (cL (aH df_root_of hr (ag (ab 0) aq)) (aO 1 sc.nd)) (ak (bB (bD (de hr.units) cX dq (aH df_kind_of hr (ag (ab 0) (ag (ab 1) aq))) (bK gl_FOLDER)) (aI (aE d9)) bF) (ak (BL 2 sc.nd (mY mg_dict (dQ (cZ ["number"] [] [] (cN (L2.ai fm) ["thing","root","taken","todo","head","wrong"] (by rfl) (by rfl) (by decide+kernel)) (jC mg_range (ab 1)) (fun cl C s H fp=>by exact(aO 0 (show List.Nodup (["number"]:List Str)from by decide+kernel))) (fun cl C s H fp=>by exact cO) (fun cl C s H fp=>by exact(ie (ag (ab 0) (ag bR aq)))))))) (ak (fI 3 sc.nd (iV (ag (ab 1) aq))) (ak (oD 3 (f:=mJ) (bD L2.kn jI jY (tX 3 mg_len) aw) (by delta mJ;exact(ak (mZ 4 3 sc.nd) (ak (cL (Gp 2 (aH df_node_wrong hr (ag (ab 0) (ag (ab 4) (ag (ab 2) aq))))) (aO 5 sc.nd)) (ak (bB (qv (ab 5)) (aI (aE (ab 5))) bF) (ak (xT 2 (mY mg_dict (dQ (cZ ["number"] [] [] (cN (L2.ai fm) ["thing","root","taken","todo","head","wrong"] (by rfl) (by rfl) (by decide+kernel)) (cC (aK bL bP (cE (ag (ab 4) aq)) (aH df_blocks_of hr (ag (ab 0) (ag (ab 4) aq))))) (fun cl C s H fp=>by exact(aO 0 (show List.Nodup (["number"]:List Str)from by decide+kernel))) (fun cl C s H fp=>by exact cO) (fun cl C s H fp=>by exact(ie (ag (ab 0) (ag bR aq)))))))) (ak (km 3 (cZ ["name","inner"] [] [] (cN (L2.ai fm) ["thing","root","taken","todo","head","wrong"] (by rfl) (by rfl) (by decide+kernel)) (cC (aH df_pairs_of hr (ag (ab 0) (ag (ab 4) aq)))) (fun cl C s H fp=>by exact(hZ (dA 0 (aO 0 (show List.Nodup (["name","inner"]:List Str)from by decide+kernel)) (dA 1 (aO 1 (show List.Nodup (["name","inner"]:List Str)from by decide+kernel)) g0)) gj)) (fun cl C s H fp=>by exact cO) (fun cl C s H fp=>by exact(ab 1)))) b9))))))) (i0 2 (ak (aE (aH df_map_wrong hr (ag (ab 0) (ag (ab 2) aq)))) b9)))))))))).out
noncomputable abbrev jt:Stmt:=top 46
theorem Dw:L2.aT ["_law_words"] ["_law_words"] (L2.ai jt):=⟨rfl,rfl,rfl,by decide+kernel,rfl,by decide+kernel,by decide+kernel⟩
theorem AL(Fu:L2.aR K "_law_block" "_law_block" jt f fd)(hm:mg "_law_block"=some (.ref f))(mg_len:mg "len"=none)(mg_list:mg "list"=none)(mg_tuple:mg "tuple"=none):Df P w K mg base "_law_block" 1 1 j6:=by
 have sc:=Dw
 refine bu (k:=0) Fu hm sc (Fu.binds (ps:=["_law_words"]) fun _ _ _ _ _ _ us hl=>match us,hl with|[_],_=>rfl) (fun cdv A outer s H E hr=>?_)
 exact((aI (aE (gP L2.pK oR mg_tuple jE (aK bL bP (gP L2.mq oA mg_list gf (ab 0)) (aK lx mP (cE (ag aw aq)) (aK L2.kC jB aw (ck di dC mg_len cG (ab 0))))))))).out
noncomputable abbrev iz:Stmt:=top 47
theorem Er:L2.aT ["_law_kind","_law_many"] ["_law_kind","_law_many"] (L2.ai iz):=⟨rfl,rfl,rfl,by decide+kernel,rfl,by decide+kernel,by decide+kernel⟩
theorem B9(Fu:L2.aR K "_law_wants" "_law_wants" iz f fd)(hm:mg "_law_wants"=some (.ref f)):Df P w K mg base "_law_wants" 1 2 nP:=by
 have sc:=Er
 refine bu (k:=0) Fu hm sc (Fu.binds (ps:=["_law_kind","_law_many"]) fun _ _ _ _ _ _ us hl=>match us,hl with|[_,_],_=>rfl) (fun cdv A outer s H E hr=>?_)
 exact((aI (aE (aK gM gQ (aK bL bP (aK gz gE (ab 0) (ab 1)) aw) aw)))).out
noncomputable abbrev gw:Stmt:=top 48
theorem AM:L2.aT ["_law_floor","_law_many","_law_root","_law_seen","_law_k","_law_todo","_law_head","_law_kind","_law_size","_law_parts","_law_data","_law_part","_law_names","_law_marks"] ["_law_floor"] (L2.ai gw):=⟨rfl,rfl,rfl,by decide+kernel,rfl,by decide+kernel,by decide+kernel⟩
theorem xv(Fu:L2.aR K "_law_good" "_law_good" gw f fd)(hm:mg "_law_good"=some (.ref f))(mg_int:mg "int"=none)(mg_len:mg "len"=none)(mg_list:mg "list"=none)(mg_range:mg "range"=none)(mg_set:mg "set"=none)(mg_sorted:mg "sorted"=none)(df_law_wants:Df P w K mg base "_law_wants" 1 2 nP)(df_law_block:Df P w K mg base "_law_block" 1 1 j6):Df P w K mg base "_law_good" 2 1 jv:=by
 have sc:=AM
 refine bu (k:=1) Fu hm sc (Fu.binds (ps:=["_law_floor"]) fun _ _ _ _ _ _ us hl=>match us,hl with|[_],_=>rfl) (fun cdv A outer s H E hr=>?_)
 exact((ak (cL (ck di dC mg_len cG (ab 0)) (aO 1 sc.nd)) (ak (cL (aK bL bP aw (aK gM gQ (aK bL bP (ab 1) aw) aw)) (aO 2 sc.nd)) (ak (qZ 3 sc.nd) (ak (fZ (f:=pz) (jC mg_range (ab 2)) (aO 4 sc.nd) (by delta pz;exact(aI (kY 3 hr.units (ab 4) bR)))) (ak (fI 5 sc.nd (iV (ag (ab 2) aq))) (ak (oD 3 (f:=oy) (jb 5 (bD (de hr.units) cX dq (ab 5) (cE aq))) (by delta oy;exact(ak (mZ 6 5 sc.nd) (ak (bB (fN (eW (dJ (oh L2.kc L2.j1 jX jW sF (ab 2) (ab 6) (ab 1))) (eW (rP 3 (ab 6)) (fL (bD (rq hr.units) p5 x8 (cj (cj (ab 0) (ab 6)) aw) (ie (ag aw (ag aw aq)))))))) (aI (aE bR)) bF) (ak (kY 3 hr.units (ab 6) bR) (ak (cL (dI (cj (ab 0) (ab 6)) eZ (bG aw)) (hZ (dA 7 (aO 7 sc.nd) (dA 8 (aO 8 sc.nd) g0)) gj)) (ak (bB (bD L2.kn jI jY (ab 8) (aK gM gQ aw (ab 7))) (aI (aE bR)) bF) (ak (cL (gP L2.mq oA mg_list gf (dI (cj (ab 0) (ab 6)) (bG aw) (bG (aK bL bP aw (aH df_law_wants hr (ag (ab 7) (ag (ab 8) aq))))))) (aO 9 sc.nd)) (ak (bB (bD (de hr.units) cX dq (cj (ab 0) (ab 6)) (aH df_law_block hr (ag (aK bL bP (cE (ag (ab 7) (ag (ab 8) aq))) (ab 9)) aq))) (aI (aE bR)) bF) (ak (fI 10 sc.nd (iV aq)) (ak (fZ (f:=nG) (cC (ab 9)) (aO 11 sc.nd) (by delta nG;exact(ak (bB (fN (eW (dJ (oh L2.j1 L2.j1 jW jW sF (ab 2) (ab 11) (ab 1))) (fL (rP 3 (ab 11))))) (aI (aE bR)) bF) (ak (kY 3 hr.units (ab 11) bR) (ak BC b9))))) (ak (bB (jb 10 (bD (de hr.units) cX dq (dQ (cZ ["_law_word"] [] [] (cN (L2.ai gw) ["_law_floor","_law_many","_law_root","_law_seen","_law_k","_law_todo","_law_head","_law_kind","_law_size","_law_parts","_law_data","_law_part","_law_names","_law_marks"] (by rfl) (by rfl) (by decide+kernel)) (cC (dI (ab 10) (bG (aK gz gE (ab 7) (ab 8))) eZ)) (fun cl C s H fp=>by exact(aO 0 (show List.Nodup (["_law_word"]:List Str)from by decide+kernel))) (fun cl C s H fp=>by exact(um (bD L2.kn jI jY (ab 0) aw) cO)) (fun cl C s H fp=>by exact(ab 0)))) (cE aq))) (aI (aE bR)) bF) (ak (bB (bD (fq hr.units) fP iP (ab 7) aw) (ak (cL (kA (qT 10 (lZ (ab 10) (bG aw) (bG (aK gz gE aw (ab 8))) (bG aw))) vt) (aO 12 sc.nd)) (ak (km 5 (qT 10 (lZ (ab 10) (bG aw) (bG (aK gz gE aw (ab 8))) (bG aw)))) (ak (bB (fN (eW (bD (de hr.units) cX dq (ab 12) (B2 mg_sorted mg_set (ab 12))) (fL (bD (mM hr.units) nY rh aw (ab 12))))) (aI (aE bR)) bF) b9))) bF) b9))))))))))))) (i0 3 (ak (Gd 13 ["_law_k"] ["_law_seen"] [3] (cN (L2.ai gw) ["_law_floor","_law_many","_law_root","_law_seen","_law_k","_law_todo","_law_head","_law_kind","_law_size","_law_parts","_law_data","_law_part","_law_names","_law_marks"] (by rfl) (by rfl) (by decide+kernel)) (jC mg_range (ab 1)) (fun cl C s H fp=>by exact(aO 0 (show List.Nodup (["_law_k","_law_seen"]:List Str)from by decide+kernel))) (fun cl C s H fp=>by exact cO) (fun cl C s H fp=>by exact(gP L2.zj GJ mg_int nW (gh (mM hr.units) nY (ab 0) (ab 1)))) sc.nd) (ak (fZ (f:=oK) (Gg mg_range aw (ab 1) aw) (aO 4 sc.nd) (by delta oK;exact(aI (bB (bD (de hr.units) cX dq (cj (ab 0) (aK bL bP aw (aK gM gQ (ab 4) aw))) (aH df_law_block hr (ag (dI (ab 13) (bG (ab 4)) (bG (aK bL bP (ab 4) aw))) aq))) (aI (aE bR)) bF)))) (ak (aE (gh (fq hr.units) fP (cj (ab 0) aw) (aH df_law_block hr (ag (cE aq) aq)))) b9))))))))))).out
noncomputable abbrev iY:Stmt:=top 38
theorem FK:L2.aT ["floor","head"] ["floor","head"] (L2.ai iY):=⟨rfl,rfl,rfl,by decide+kernel,rfl,by decide+kernel,by decide+kernel⟩
theorem Bn(Fu:L2.aR K "node_at" "node_at" iY f fd)(hm:mg "node_at"=some (.ref f))(mg_dict:mg "dict"=none)(gl_FOLDER:bo P w K mg "FOLDER" dE)(df_kind_of:Df P w K mg base "kind_of" 1 2 eQ)(df_pairs_of:Df P w K mg base "pairs_of" 6 2 fH)(df_cells_of:Df P w K mg base "cells_of" 5 2 kr):Df P w K mg base "node_at" 7 2 oV:=by
 have sc:=FK
 refine bu (k:=6) Fu hm sc (Fu.binds (ps:=["floor","head"]) fun _ _ _ _ _ _ us hl=>match us,hl with|[_,_],_=>rfl) (fun cdv A outer s H E hr=>?_)
 exact((ak (bB (bD (fq hr.units) fP iP (aH df_kind_of hr (ag (ab 0) (ag (ab 1) aq))) (bK gl_FOLDER)) (aI (aE (ie (ag d9 (ag (EU (mY mg_dict (aH df_pairs_of hr (ag (ab 0) (ag (ab 1) aq)))) E9) aq))))) bF) (ak (aE (ie (ag d9 (ag (aH df_cells_of hr (ag (ab 0) (ag (ab 1) aq))) aq)))) b9))).out
noncomputable abbrev ig:Stmt:=top 39
theorem GQ:L2.aT ["floor","tree","todo","head"] ["floor"] (L2.ai ig):=⟨rfl,rfl,rfl,by decide+kernel,rfl,by decide+kernel,by decide+kernel⟩
theorem xU(Fu:L2.aR K "tree_of" "tree_of" ig f fd)(hm:mg "tree_of"=some (.ref f))(mg_len:mg "len"=none)(df_root_of:Df P w K mg base "root_of" 2 1 dn)(df_node_at:Df P w K mg base "node_at" 7 2 oV)(df_pairs_of:Df P w K mg base "pairs_of" 6 2 fH):Df P w K mg base "tree_of" 8 1 kz:=by
 have sc:=GQ
 refine bu (k:=7) Fu hm sc (Fu.binds (ps:=["floor"]) fun _ _ _ _ _ _ us hl=>match us,hl with|[_],_=>rfl) (fun cdv A outer s H E hr=>?_)
 exact((ak (qZ 1 sc.nd) (ak (fI 2 sc.nd (iV (ag (aH df_root_of hr (ag (ab 0) aq)) aq))) (ak (oD 3 (f:=oX) (bD L2.kn jI jY (tX 2 mg_len) aw) (by delta oX;exact(ak (mZ 3 2 sc.nd) (ak (kY 1 hr.units (ab 3) (aH df_node_at hr (ag (ab 0) (ag (ab 3) aq)))) (ak (km 2 (cZ ["name","inner"] [] [] (cN (L2.ai ig) ["floor","tree","todo","head"] (by rfl) (by rfl) (by decide+kernel)) (cC (aH df_pairs_of hr (ag (ab 0) (ag (ab 3) aq)))) (fun cl C s H fp=>by exact(hZ (dA 0 (aO 0 (show List.Nodup (["name","inner"]:List Str)from by decide+kernel)) (dA 1 (aO 1 (show List.Nodup (["name","inner"]:List Str)from by decide+kernel)) g0)) gj)) (fun cl C s H fp=>by exact cO) (fun cl C s H fp=>by exact(ab 1)))) b9))))) (i0 1 (ak (aE (ab 1)) b9)))))).out
noncomputable abbrev i6:Stmt:=top 49
theorem A9:L2.aT ["_law_many","_law_floor","_law_block_here","_law_word","_law_root","_law_other"] ["_law_many"] (L2.ai i6):=⟨rfl,rfl,rfl,by decide+kernel,rfl,by decide+kernel,by decide+kernel⟩
theorem yj(Fu:L2.aR K "_law_new" "_law_new" i6 f fd)(hm:mg "_law_new"=some (.ref f))(mg_bool:mg "bool"=none)(mg_int:mg "int"=none)(mg_isinstance:mg "isinstance"=none)(mg_len:mg "len"=none)(mg_list:mg "list"=none)(mg_range:mg "range"=none)(mg_tuple:mg "tuple"=none)(df_new_floor:fD P w K mg base "new_floor" 3 1 ju)(df_floor_wrong:Df P w K mg base "floor_wrong" 8 1 ji)(df_law_good:Df P w K mg base "_law_good" 2 1 jv)(df_root_of:Df P w K mg base "root_of" 2 1 dn)(df_tree_of:Df P w K mg base "tree_of" 8 1 kz)(df_free_blocks:Df P w K mg base "free_blocks" 5 1 kF):Df P w K mg base "_law_new" 9 1 kj:=by
 have sc:=A9
 refine bu (k:=8) Fu hm sc (Fu.binds (ps:=["_law_many"]) fun _ _ _ _ _ _ us hl=>match us,hl with|[_],_=>rfl) (fun cdv A outer s H E hr=>?_)
 exact((ak (fI 1 sc.nd (tI df_new_floor hr (ag (ab 0) aq))) (ak (bB (jb 1 (fN (eW (dJ (dH (gB .list (ab 1) mg_isinstance mg_list gf))) (fL (bD (de hr.units) cX dq (ck di dC mg_len cG (ab 1)) (ab 0)))))) (aI (aE bR)) bF) (ak (Ck 1 (uh 1 2 (f:=fG) (cC (ab 1)) sc.nd (by delta fG;exact(qg (tE (fN (eW (dJ (dH (gB .tuple (ab 2) mg_isinstance mg_tuple jE))) (fL (bD (de hr.units) cX dq (ck di dC mg_len cG (ab 2)) aw)))) (oT (sL bR)) sU) (qg (uh 1 3 (f:=gJ) (cC (ab 2)) sc.nd (by delta gJ;exact(oT (tE (fN (eW (dJ (dH (gB .int (ab 3) mg_isinstance mg_int nW))) (fL (dH (gB .bool (ab 3) mg_isinstance mg_bool rK))))) (oT (sL bR)) sU)))) vj))))) (ak (bB (jb 1 (fN (eW (qv (aH df_floor_wrong hr (ag (ab 1) aq))) (fL (dJ (dH (aH df_law_good hr (ag (ab 1) aq)))))))) (aI (aE bR)) bF) (ak (cL (aK bL bP aw (aK gM gQ (aK bL bP (ab 0) aw) aw)) (aO 4 sc.nd)) (ak (bB (jb 1 (fN (eW (bD (de hr.units) cX dq (aH df_root_of hr (ag (ab 1) aq)) (ab 4)) (fL (bD (Ag hr.units) FO xk (aH df_tree_of hr (ag (ab 1) aq)) (uZ (ab 4) (ie (ag d9 (ag CA aq))))))))) (aI (aE bR)) bF) (ak (bB (jb 1 (bD (de hr.units) cX dq (aH df_free_blocks hr (ag (ab 1) aq)) (kA (yp mg_list mg_range (aK bL bP (ab 4) aw) (ab 0)) Gw))) (aI (aE bR)) bF) (ak (cL (Eu df_new_floor hr (ag (ab 0) aq)) (aO 5 sc.nd)) (ak (mT 1 (xa 1 aw) (ab 4) (by delta kl;intro _;rfl)) (ak (aE (z0 (aH df_floor_wrong hr (ag (ab 5) aq)))) b9))))))))))).out
noncomputable abbrev ff:Stmt:=top 50
theorem Fd:L2.aT ["_law_script","_law_many"] ["_law_script"] (L2.ai ff):=⟨rfl,rfl,rfl,by decide+kernel,rfl,by decide+kernel,by decide+kernel⟩
theorem F9(Fu:L2.aR K "law" "law" ff f fd)(hm:mg "law"=some (.ref f))(df_law_new:Df P w K mg base "_law_new" 9 1 kj):L2.cf P w K mg base L2.df 10 f fd ["_law_script"] (fS ⟨K,P,w⟩ j4 1):=by
 have sc:=Fd
 refine ub (k:=9) Fu sc (fun cdv A outer s H E hr=>?_)
 exact((ak (fZ (f:=gn) (cC (aK bL bP (cE (ag aw (ag aw (ag aw (ag aw (ag aw (ag aw (ag aw (ag aw aq))))))))) (dQ (cZ ["_law_cell"] [] [] (cN (L2.ai ff) ["_law_script","_law_many"] (by rfl) (by rfl) (by decide+kernel)) (cC (dI (ab 0) eZ (bG aw))) (fun cl C s H fp=>by exact(aO 0 (show List.Nodup (["_law_cell"]:List Str)from by decide+kernel))) (fun cl C s H fp=>by exact cO) (fun cl C s H fp=>by exact(aK bL bP aw (aK L2.uG zk (ab 0) aw))))))) (aO 1 sc.nd) (by delta gn;exact(aI (bB (dJ (dH (aH df_law_new hr (ag (ab 1) aq)))) (aI (aE bR)) bF)))) (ak (aE bR) b9))).out
end
theorem all_mk{w:World}{K:PySem.W.Frag}{h:Heap}{mg:Str→Option Value}{fa f0 f1 f2 f3 f4 f5 f6 f7 f8 f9 f10 f11 f12 f13 f14 f15 f16 f17 f18 f19 f20 f21 f22 f23 f24 f25 f26 f27 f28 f29 f30 f31 f32 f33 f34:Addr}(X:K.In h)(G:h.Ns mainGlobals mg)(hfa:mg "law"=some (.ref fa))
   {od0 an0 od1 an1 od2 an2 od3 an3 od4 an4 od5 an5 od6 an6 od7 an7 od8 an8 od9 an9 od10 an10 od11 an11 od12 an12 od13 an13 od14 an14 od15 an15 od16 an16 od17 an17 od18 an18 od19 an19 od20 an20 od21 an21 od22 an22 od23 an23 od24 an24 od25 an25 od26 an26 od27 an27 od28 an28 od29 an29 od30 an30 od31 an31 od32 an32 od33 an33 od34 an34:Option Addr} {sl0 sl1 sl2 sl3 sl4 sl5 sl6 sl7 sl8 sl9 sl10 sl11 sl12 sl13 sl14 sl15 sl16 sl17 sl18 sl19 sl20 sl21 sl22 sl23 sl24 sl25 sl26 sl27 sl28 sl29 sl30 sl31 sl32 sl33 sl34:Array (Option Value)} {oc0 kV0 dc0 pm0 cd0 ct0 oc1 kV1 dc1 pm1 cd1 ct1 oc2 kV2 dc2 pm2 cd2 ct2 oc3 kV3 dc3 pm3 cd3 ct3 oc4 kV4 dc4 pm4 cd4 ct4 oc5 kV5 dc5 pm5 cd5 ct5 oc6 kV6 dc6 pm6 cd6 ct6 oc7 kV7 dc7 pm7 cd7 ct7 oc8 kV8 dc8 pm8 cd8 ct8 oc9 kV9 dc9 pm9 cd9 ct9 oc10 kV10 dc10 pm10 cd10 ct10 oc11 kV11 dc11 pm11 cd11 ct11 oc12 kV12 dc12 pm12 cd12 ct12 oc13 kV13 dc13 pm13 cd13 ct13 oc14 kV14 dc14 pm14 cd14 ct14 oc15 kV15 dc15 pm15 cd15 ct15 oc16 kV16 dc16 pm16 cd16 ct16 oc17 kV17 dc17 pm17 cd17 ct17 oc18 kV18 dc18 pm18 cd18 ct18 oc19 kV19 dc19 pm19 cd19 ct19 oc20 kV20 dc20 pm20 cd20 ct20 oc21 kV21 dc21 pm21 cd21 ct21 oc22 kV22 dc22 pm22 cd22 ct22 oc23 kV23 dc23 pm23 cd23 ct23 oc24 kV24 dc24 pm24 cd24 ct24 oc25 kV25 dc25 pm25 cd25 ct25 oc26 kV26 dc26 pm26 cd26 ct26 oc27 kV27 dc27 pm27 cd27 ct27 oc28 kV28 dc28 pm28 cd28 ct28 oc29 kV29 dc29 pm29 cd29 ct29 oc30 kV30 dc30 pm30 cd30 ct30 oc31 kV31 dc31 pm31 cd31 ct31 oc32 kV32 dc32 pm32 cd32 ct32 oc33 kV33 dc33 pm33 cd33 ct33 oc34 kV34 dc34 pm34 cd34 ct34:Value}
   (a0:PySem.W.nsIn K mainGlobals "map_blocks"=some (some (.ref f0))) (l0:K.lookup f0=some ⟨oc0,od0,.func (PySem.W.fnOf "map_blocks" "map_blocks" (L2.aX ix) (L2.aQ ix) (L2.ai ix) .none kV0 dc0 pm0 an0 cd0 ct0),sl0⟩) (c0:PySem.W.codeIn K cd0 "map_blocks"=true) (k0:PySem.W.keepIn K (.ref f0)=true)
   (a1:PySem.W.nsIn K mainGlobals "root_of"=some (some (.ref f1))) (l1:K.lookup f1=some ⟨oc1,od1,.func (PySem.W.fnOf "root_of" "root_of" (L2.aX iL) (L2.aQ iL) (L2.ai iL) .none kV1 dc1 pm1 an1 cd1 ct1),sl1⟩) (c1:PySem.W.codeIn K cd1 "root_of"=true) (k1:PySem.W.keepIn K (.ref f1)=true)
   (a2:PySem.W.nsIn K mainGlobals "padded"=some (some (.ref f2))) (l2:K.lookup f2=some ⟨oc2,od2,.func (PySem.W.fnOf "padded" "padded" (L2.aX jj) (L2.aQ jj) (L2.ai jj) .none kV2 dc2 pm2 an2 cd2 ct2),sl2⟩) (c2:PySem.W.codeIn K cd2 "padded"=true) (k2:PySem.W.keepIn K (.ref f2)=true)
   (a3:PySem.W.nsIn K mainGlobals "with_used"=some (some (.ref f3))) (l3:K.lookup f3=some ⟨oc3,od3,.func (PySem.W.fnOf "with_used" "with_used" (L2.aX jg) (L2.aQ jg) (L2.ai jg) .none kV3 dc3 pm3 an3 cd3 ct3),sl3⟩) (c3:PySem.W.codeIn K cd3 "with_used"=true) (k3:PySem.W.keepIn K (.ref f3)=true)
   (a4:PySem.W.nsIn K mainGlobals "new_floor"=some (some (.ref f4))) (l4:K.lookup f4=some ⟨oc4,od4,.func (PySem.W.fnOf "new_floor" "new_floor" (L2.aX g9) (L2.aQ g9) (L2.ai g9) .none kV4 dc4 pm4 an4 cd4 ct4),sl4⟩) (c4:PySem.W.codeIn K cd4 "new_floor"=true) (k4:PySem.W.keepIn K (.ref f4)=true)
   (a5:PySem.W.nsIn K mainGlobals "map_words"=some (some (.ref f5))) (l5:K.lookup f5=some ⟨oc5,od5,.func (PySem.W.fnOf "map_words" "map_words" (L2.aX jl) (L2.aQ jl) (L2.ai jl) .none kV5 dc5 pm5 an5 cd5 ct5),sl5⟩) (c5:PySem.W.codeIn K cd5 "map_words"=true) (k5:PySem.W.keepIn K (.ref f5)=true)
   (a6:PySem.W.nsIn K mainGlobals "used"=some (some (.ref f6))) (l6:K.lookup f6=some ⟨oc6,od6,.func (PySem.W.fnOf "used" "used" (L2.aX iH) (L2.aQ iH) (L2.ai iH) .none kV6 dc6 pm6 an6 cd6 ct6),sl6⟩) (c6:PySem.W.codeIn K cd6 "used"=true) (k6:PySem.W.keepIn K (.ref f6)=true)
   (a7:PySem.W.nsIn K mainGlobals "free_blocks"=some (some (.ref f7))) (l7:K.lookup f7=some ⟨oc7,od7,.func (PySem.W.fnOf "free_blocks" "free_blocks" (L2.aX iq) (L2.aQ iq) (L2.ai iq) .none kV7 dc7 pm7 an7 cd7 ct7),sl7⟩) (c7:PySem.W.codeIn K cd7 "free_blocks"=true) (k7:PySem.W.keepIn K (.ref f7)=true)
   (a8:PySem.W.nsIn K mainGlobals "map_wrong"=some (some (.ref f8))) (l8:K.lookup f8=some ⟨oc8,od8,.func (PySem.W.fnOf "map_wrong" "map_wrong" (L2.aX iO) (L2.aQ iO) (L2.ai iO) .none kV8 dc8 pm8 an8 cd8 ct8),sl8⟩) (c8:PySem.W.codeIn K cd8 "map_wrong"=true) (k8:PySem.W.keepIn K (.ref f8)=true)
   (a9:PySem.W.nsIn K mainGlobals "is_tuple"=some (some (.ref f9))) (l9:K.lookup f9=some ⟨oc9,od9,.func (PySem.W.fnOf "is_tuple" "is_tuple" (L2.aX jf) (L2.aQ jf) (L2.ai jf) .none kV9 dc9 pm9 an9 cd9 ct9),sl9⟩) (c9:PySem.W.codeIn K cd9 "is_tuple"=true) (k9:PySem.W.keepIn K (.ref f9)=true)
   (a10:PySem.W.nsIn K mainGlobals "is_whole"=some (some (.ref f10))) (l10:K.lookup f10=some ⟨oc10,od10,.func (PySem.W.fnOf "is_whole" "is_whole" (L2.aX iI) (L2.aQ iI) (L2.ai iI) .none kV10 dc10 pm10 an10 cd10 ct10),sl10⟩) (c10:PySem.W.codeIn K cd10 "is_whole"=true) (k10:PySem.W.keepIn K (.ref f10)=true)
   (a11:PySem.W.nsIn K mainGlobals "is_word"=some (some (.ref f11))) (l11:K.lookup f11=some ⟨oc11,od11,.func (PySem.W.fnOf "is_word" "is_word" (L2.aX jo) (L2.aQ jo) (L2.ai jo) .none kV11 dc11 pm11 an11 cd11 ct11),sl11⟩) (c11:PySem.W.codeIn K cd11 "is_word"=true) (k11:PySem.W.keepIn K (.ref f11)=true)
   (a12:PySem.W.nsIn K mainGlobals "is_page"=some (some (.ref f12))) (l12:K.lookup f12=some ⟨oc12,od12,.func (PySem.W.fnOf "is_page" "is_page" (L2.aX hU) (L2.aQ hU) (L2.ai hU) .none kV12 dc12 pm12 an12 cd12 ct12),sl12⟩) (c12:PySem.W.codeIn K cd12 "is_page"=true) (k12:PySem.W.keepIn K (.ref f12)=true)
   (a13:PySem.W.nsIn K mainGlobals "is_floor"=some (some (.ref f13))) (l13:K.lookup f13=some ⟨oc13,od13,.func (PySem.W.fnOf "is_floor" "is_floor" (L2.aX ik) (L2.aQ ik) (L2.ai ik) .none kV13 dc13 pm13 an13 cd13 ct13),sl13⟩) (c13:PySem.W.codeIn K cd13 "is_floor"=true) (k13:PySem.W.keepIn K (.ref f13)=true)
   (a14:PySem.W.nsIn K mainGlobals "no_seal"=some (some (.ref f14))) (l14:K.lookup f14=some ⟨oc14,od14,.func (PySem.W.fnOf "no_seal" "no_seal" (L2.aX iU) (L2.aQ iU) (L2.ai iU) .none kV14 dc14 pm14 an14 cd14 ct14),sl14⟩) (c14:PySem.W.codeIn K cd14 "no_seal"=true) (k14:PySem.W.keepIn K (.ref f14)=true)
   (a15:PySem.W.nsIn K mainGlobals "kind_of"=some (some (.ref f15))) (l15:K.lookup f15=some ⟨oc15,od15,.func (PySem.W.fnOf "kind_of" "kind_of" (L2.aX iD) (L2.aQ iD) (L2.ai iD) .none kV15 dc15 pm15 an15 cd15 ct15),sl15⟩) (c15:PySem.W.codeIn K cd15 "kind_of"=true) (k15:PySem.W.keepIn K (.ref f15)=true)
   (a16:PySem.W.nsIn K mainGlobals "are_blocks"=some (some (.ref f16))) (l16:K.lookup f16=some ⟨oc16,od16,.func (PySem.W.fnOf "are_blocks" "are_blocks" (L2.aX hX) (L2.aQ hX) (L2.ai hX) .none kV16 dc16 pm16 an16 cd16 ct16),sl16⟩) (c16:PySem.W.codeIn K cd16 "are_blocks"=true) (k16:PySem.W.keepIn K (.ref f16)=true)
   (a17:PySem.W.nsIn K mainGlobals "blocks_wanted"=some (some (.ref f17))) (l17:K.lookup f17=some ⟨oc17,od17,.func (PySem.W.fnOf "blocks_wanted" "blocks_wanted" (L2.aX jd) (L2.aQ jd) (L2.ai jd) .none kV17 dc17 pm17 an17 cd17 ct17),sl17⟩) (c17:PySem.W.codeIn K cd17 "blocks_wanted"=true) (k17:PySem.W.keepIn K (.ref f17)=true)
   (a18:PySem.W.nsIn K mainGlobals "cells_wanted"=some (some (.ref f18))) (l18:K.lookup f18=some ⟨oc18,od18,.func (PySem.W.fnOf "cells_wanted" "cells_wanted" (L2.aX iX) (L2.aQ iX) (L2.ai iX) .none kV18 dc18 pm18 an18 cd18 ct18),sl18⟩) (c18:PySem.W.codeIn K cd18 "cells_wanted"=true) (k18:PySem.W.keepIn K (.ref f18)=true)
   (a19:PySem.W.nsIn K mainGlobals "is_head"=some (some (.ref f19))) (l19:K.lookup f19=some ⟨oc19,od19,.func (PySem.W.fnOf "is_head" "is_head" (L2.aX ij) (L2.aQ ij) (L2.ai ij) .none kV19 dc19 pm19 an19 cd19 ct19),sl19⟩) (c19:PySem.W.codeIn K cd19 "is_head"=true) (k19:PySem.W.keepIn K (.ref f19)=true)
   (a20:PySem.W.nsIn K mainGlobals "size_of"=some (some (.ref f20))) (l20:K.lookup f20=some ⟨oc20,od20,.func (PySem.W.fnOf "size_of" "size_of" (L2.aX iG) (L2.aQ iG) (L2.ai iG) .none kV20 dc20 pm20 an20 cd20 ct20),sl20⟩) (c20:PySem.W.codeIn K cd20 "size_of"=true) (k20:PySem.W.keepIn K (.ref f20)=true)
   (a21:PySem.W.nsIn K mainGlobals "many_cells"=some (some (.ref f21))) (l21:K.lookup f21=some ⟨oc21,od21,.func (PySem.W.fnOf "many_cells" "many_cells" (L2.aX jh) (L2.aQ jh) (L2.ai jh) .none kV21 dc21 pm21 an21 cd21 ct21),sl21⟩) (c21:PySem.W.codeIn K cd21 "many_cells"=true) (k21:PySem.W.keepIn K (.ref f21)=true)
   (a22:PySem.W.nsIn K mainGlobals "blocks_of"=some (some (.ref f22))) (l22:K.lookup f22=some ⟨oc22,od22,.func (PySem.W.fnOf "blocks_of" "blocks_of" (L2.aX iW) (L2.aQ iW) (L2.ai iW) .none kV22 dc22 pm22 an22 cd22 ct22),sl22⟩) (c22:PySem.W.codeIn K cd22 "blocks_of"=true) (k22:PySem.W.keepIn K (.ref f22)=true)
   (a23:PySem.W.nsIn K mainGlobals "block_words"=some (some (.ref f23))) (l23:K.lookup f23=some ⟨oc23,od23,.func (PySem.W.fnOf "block_words" "block_words" (L2.aX jc) (L2.aQ jc) (L2.ai jc) .none kV23 dc23 pm23 an23 cd23 ct23),sl23⟩) (c23:PySem.W.codeIn K cd23 "block_words"=true) (k23:PySem.W.keepIn K (.ref f23)=true)
   (a24:PySem.W.nsIn K mainGlobals "cells_of"=some (some (.ref f24))) (l24:K.lookup f24=some ⟨oc24,od24,.func (PySem.W.fnOf "cells_of" "cells_of" (L2.aX iK) (L2.aQ iK) (L2.ai iK) .none kV24 dc24 pm24 an24 cd24 ct24),sl24⟩) (c24:PySem.W.codeIn K cd24 "cells_of"=true) (k24:PySem.W.keepIn K (.ref f24)=true)
   (a25:PySem.W.nsIn K mainGlobals "pairs_of"=some (some (.ref f25))) (l25:K.lookup f25=some ⟨oc25,od25,.func (PySem.W.fnOf "pairs_of" "pairs_of" (L2.aX iQ) (L2.aQ iQ) (L2.ai iQ) .none kV25 dc25 pm25 an25 cd25 ct25),sl25⟩) (c25:PySem.W.codeIn K cd25 "pairs_of"=true) (k25:PySem.W.keepIn K (.ref f25)=true)
   (a26:PySem.W.nsIn K mainGlobals "node_wrong"=some (some (.ref f26))) (l26:K.lookup f26=some ⟨oc26,od26,.func (PySem.W.fnOf "node_wrong" "node_wrong" (L2.aX fQ) (L2.aQ fQ) (L2.ai fQ) .none kV26 dc26 pm26 an26 cd26 ct26),sl26⟩) (c26:PySem.W.codeIn K cd26 "node_wrong"=true) (k26:PySem.W.keepIn K (.ref f26)=true)
   (a27:PySem.W.nsIn K mainGlobals "floor_wrong"=some (some (.ref f27))) (l27:K.lookup f27=some ⟨oc27,od27,.func (PySem.W.fnOf "floor_wrong" "floor_wrong" (L2.aX fm) (L2.aQ fm) (L2.ai fm) .none kV27 dc27 pm27 an27 cd27 ct27),sl27⟩) (c27:PySem.W.codeIn K cd27 "floor_wrong"=true) (k27:PySem.W.keepIn K (.ref f27)=true)
   (a28:PySem.W.nsIn K mainGlobals "_law_block"=some (some (.ref f28))) (l28:K.lookup f28=some ⟨oc28,od28,.func (PySem.W.fnOf "_law_block" "_law_block" (L2.aX jt) (L2.aQ jt) (L2.ai jt) .none kV28 dc28 pm28 an28 cd28 ct28),sl28⟩) (c28:PySem.W.codeIn K cd28 "_law_block"=true) (k28:PySem.W.keepIn K (.ref f28)=true)
   (a29:PySem.W.nsIn K mainGlobals "_law_wants"=some (some (.ref f29))) (l29:K.lookup f29=some ⟨oc29,od29,.func (PySem.W.fnOf "_law_wants" "_law_wants" (L2.aX iz) (L2.aQ iz) (L2.ai iz) .none kV29 dc29 pm29 an29 cd29 ct29),sl29⟩) (c29:PySem.W.codeIn K cd29 "_law_wants"=true) (k29:PySem.W.keepIn K (.ref f29)=true)
   (a30:PySem.W.nsIn K mainGlobals "_law_good"=some (some (.ref f30))) (l30:K.lookup f30=some ⟨oc30,od30,.func (PySem.W.fnOf "_law_good" "_law_good" (L2.aX gw) (L2.aQ gw) (L2.ai gw) .none kV30 dc30 pm30 an30 cd30 ct30),sl30⟩) (c30:PySem.W.codeIn K cd30 "_law_good"=true) (k30:PySem.W.keepIn K (.ref f30)=true)
   (a31:PySem.W.nsIn K mainGlobals "node_at"=some (some (.ref f31))) (l31:K.lookup f31=some ⟨oc31,od31,.func (PySem.W.fnOf "node_at" "node_at" (L2.aX iY) (L2.aQ iY) (L2.ai iY) .none kV31 dc31 pm31 an31 cd31 ct31),sl31⟩) (c31:PySem.W.codeIn K cd31 "node_at"=true) (k31:PySem.W.keepIn K (.ref f31)=true)
   (a32:PySem.W.nsIn K mainGlobals "tree_of"=some (some (.ref f32))) (l32:K.lookup f32=some ⟨oc32,od32,.func (PySem.W.fnOf "tree_of" "tree_of" (L2.aX ig) (L2.aQ ig) (L2.ai ig) .none kV32 dc32 pm32 an32 cd32 ct32),sl32⟩) (c32:PySem.W.codeIn K cd32 "tree_of"=true) (k32:PySem.W.keepIn K (.ref f32)=true)
   (a33:PySem.W.nsIn K mainGlobals "_law_new"=some (some (.ref f33))) (l33:K.lookup f33=some ⟨oc33,od33,.func (PySem.W.fnOf "_law_new" "_law_new" (L2.aX i6) (L2.aQ i6) (L2.ai i6) .none kV33 dc33 pm33 an33 cd33 ct33),sl33⟩) (c33:PySem.W.codeIn K cd33 "_law_new"=true) (k33:PySem.W.keepIn K (.ref f33)=true)
   (a34:PySem.W.nsIn K mainGlobals "law"=some (some (.ref f34))) (l34:K.lookup f34=some ⟨oc34,od34,.func (PySem.W.fnOf "law" "law" (L2.aX ff) (L2.aQ ff) (L2.ai ff) .none kV34 dc34 pm34 an34 cd34 ct34),sl34⟩) (c34:PySem.W.codeIn K cd34 "law"=true) (k34:PySem.W.keepIn K (.ref f34)=true)
   (z_all:PySem.W.nsIn K mainGlobals "all"=some none)
   (z_any:PySem.W.nsIn K mainGlobals "any"=some none)
   (z_bool:PySem.W.nsIn K mainGlobals "bool"=some none)
   (z_dict:PySem.W.nsIn K mainGlobals "dict"=some none)
   (z_enumerate:PySem.W.nsIn K mainGlobals "enumerate"=some none)
   (z_int:PySem.W.nsIn K mainGlobals "int"=some none)
   (z_isinstance:PySem.W.nsIn K mainGlobals "isinstance"=some none)
   (z_len:PySem.W.nsIn K mainGlobals "len"=some none)
   (z_list:PySem.W.nsIn K mainGlobals "list"=some none)
   (z_range:PySem.W.nsIn K mainGlobals "range"=some none)
   (z_set:PySem.W.nsIn K mainGlobals "set"=some none)
   (z_sorted:PySem.W.nsIn K mainGlobals "sorted"=some none)
   (z_tuple:PySem.W.nsIn K mainGlobals "tuple"=some none)
   (z_zip:PySem.W.nsIn K mainGlobals "zip"=some none)
   (gl_PAGE_WORDS:bo PySem.Challenge.pw_underfloor_k39_new_floors w K mg "PAGE_WORDS" cu)
   (gl_FIRST_BLOCK:bo PySem.Challenge.pw_underfloor_k39_new_floors w K mg "FIRST_BLOCK" gK)
   (gl_FOLDER:bo PySem.Challenge.pw_underfloor_k39_new_floors w K mg "FOLDER" dE)
   (gl_LEAST_BLOCKS:bo PySem.Challenge.pw_underfloor_k39_new_floors w K mg "LEAST_BLOCKS" kD)
   (gl_MOST_BLOCKS:bo PySem.Challenge.pw_underfloor_k39_new_floors w K mg "MOST_BLOCKS" jw)
   (gl_FILE:bo PySem.Challenge.pw_underfloor_k39_new_floors w K mg "FILE" oH)
   (gl_MOST_FILE_WORDS:bo PySem.Challenge.pw_underfloor_k39_new_floors w K mg "MOST_FILE_WORDS" pG)
   (gl_HEAD_WORDS:bo PySem.Challenge.pw_underfloor_k39_new_floors w K mg "HEAD_WORDS" iT)
   (gl_MOST_FOLDER_NAMES:bo PySem.Challenge.pw_underfloor_k39_new_floors w K mg "MOST_FOLDER_NAMES" oC):
   ∃fd:FuncData,(∀(s:Shared) (v:Value),BindsTo s fd ⟨[v],[]⟩ [("_law_script",v)])∧∀base:Heap,K.In base→base.Ns mainGlobals mg→L2.cf PySem.Challenge.pw_underfloor_k39_new_floors w K mg base L2.df 10 fa fd ["_law_script"] (fS ⟨K,PySem.Challenge.pw_underfloor_k39_new_floors,w⟩ j4 1):=by
 have e:=hfa.symm.trans (PySem.W.mg_of X G a34)
 cases e
 have mg_all:=PySem.W.mg_none_of X G z_all
 have mg_any:=PySem.W.mg_none_of X G z_any
 have mg_bool:=PySem.W.mg_none_of X G z_bool
 have mg_dict:=PySem.W.mg_none_of X G z_dict
 have mg_enumerate:=PySem.W.mg_none_of X G z_enumerate
 have mg_int:=PySem.W.mg_none_of X G z_int
 have mg_isinstance:=PySem.W.mg_none_of X G z_isinstance
 have mg_len:=PySem.W.mg_none_of X G z_len
 have mg_list:=PySem.W.mg_none_of X G z_list
 have mg_range:=PySem.W.mg_none_of X G z_range
 have mg_set:=PySem.W.mg_none_of X G z_set
 have mg_sorted:=PySem.W.mg_none_of X G z_sorted
 have mg_tuple:=PySem.W.mg_none_of X G z_tuple
 have mg_zip:=PySem.W.mg_none_of X G z_zip
 refine⟨PySem.W.fnOf "law" "law" (L2.aX ff) (L2.aQ ff) (L2.ai ff) .none kV34 dc34 pm34 an34 cd34 ct34,fun s v=>.of_eq rfl,fun base _ _=>?_⟩
 have df_map_blocks:=Eh (P:=PySem.Challenge.pw_underfloor_k39_new_floors) (w:=w) (base:=base) (L2.bf (st:=ix) l0 c0 k0) (PySem.W.mg_of X G a0) gl_PAGE_WORDS
 have df_root_of:=CD (P:=PySem.Challenge.pw_underfloor_k39_new_floors) (w:=w) (base:=base) (L2.bf (st:=iL) l1 c1 k1) (PySem.W.mg_of X G a1) mg_len gl_FIRST_BLOCK df_map_blocks
 have df_padded:=vC (P:=PySem.Challenge.pw_underfloor_k39_new_floors) (w:=w) (base:=base) (L2.bf (st:=jj) l2 c2 k2) (PySem.W.mg_of X G a2) mg_len mg_tuple gl_PAGE_WORDS
 have df_with_used:=uP (P:=PySem.Challenge.pw_underfloor_k39_new_floors) (w:=w) (base:=base) (L2.bf (st:=jg) l3 c3 k3) (PySem.W.mg_of X G a3) mg_len mg_list mg_range mg_tuple gl_PAGE_WORDS gl_FIRST_BLOCK df_map_blocks
 have df_new_floor:=DN (P:=PySem.Challenge.pw_underfloor_k39_new_floors) (w:=w) (base:=base) (L2.bf (st:=g9) l4 c4 k4) (PySem.W.mg_of X G a4) mg_range gl_FOLDER df_padded df_root_of df_with_used
 have df_map_words:=uO (P:=PySem.Challenge.pw_underfloor_k39_new_floors) (w:=w) (base:=base) (L2.bf (st:=jl) l5 c5 k5) (PySem.W.mg_of X G a5) mg_list gl_FIRST_BLOCK df_root_of
 have df_used:=u6 (P:=PySem.Challenge.pw_underfloor_k39_new_floors) (w:=w) (base:=base) (L2.bf (st:=iH) l6 c6 k6) (PySem.W.mg_of X G a6) mg_len df_map_words
 have df_free_blocks:=yK (P:=PySem.Challenge.pw_underfloor_k39_new_floors) (w:=w) (base:=base) (L2.bf (st:=iq) l7 c7 k7) (PySem.W.mg_of X G a7) mg_enumerate df_used
 have df_map_wrong:=wZ (P:=PySem.Challenge.pw_underfloor_k39_new_floors) (w:=w) (base:=base) (L2.bf (st:=iO) l8 c8 k8) (PySem.W.mg_of X G a8) mg_enumerate df_map_words
 have df_is_tuple:=D9 (P:=PySem.Challenge.pw_underfloor_k39_new_floors) (w:=w) (base:=base) (L2.bf (st:=jf) l9 c9 k9) (PySem.W.mg_of X G a9) mg_isinstance mg_len mg_tuple
 have df_is_whole:=vI (P:=PySem.Challenge.pw_underfloor_k39_new_floors) (w:=w) (base:=base) (L2.bf (st:=iI) l10 c10 k10) (PySem.W.mg_of X G a10) mg_bool mg_int mg_isinstance
 have df_is_word:=DJ (P:=PySem.Challenge.pw_underfloor_k39_new_floors) (w:=w) (base:=base) (L2.bf (st:=jo) l11 c11 k11) (PySem.W.mg_of X G a11) df_is_whole
 have df_is_page:=wO (P:=PySem.Challenge.pw_underfloor_k39_new_floors) (w:=w) (base:=base) (L2.bf (st:=hU) l12 c12 k12) (PySem.W.mg_of X G a12) mg_all gl_PAGE_WORDS df_is_tuple df_is_word
 have df_is_floor:=Bs (P:=PySem.Challenge.pw_underfloor_k39_new_floors) (w:=w) (base:=base) (L2.bf (st:=ik) l13 c13 k13) (PySem.W.mg_of X G a13) mg_all mg_isinstance mg_len mg_list gl_LEAST_BLOCKS gl_MOST_BLOCKS df_is_page
 have df_no_seal:=zu (P:=PySem.Challenge.pw_underfloor_k39_new_floors) (w:=w) (base:=base) (L2.bf (st:=iU) l14 c14 k14) (PySem.W.mg_of X G a14) gl_PAGE_WORDS
 have df_kind_of:=wY (P:=PySem.Challenge.pw_underfloor_k39_new_floors) (w:=w) (base:=base) (L2.bf (st:=iD) l15 c15 k15) (PySem.W.mg_of X G a15)
 have df_are_blocks:=A4 (P:=PySem.Challenge.pw_underfloor_k39_new_floors) (w:=w) (base:=base) (L2.bf (st:=hX) l16 c16 k16) (PySem.W.mg_of X G a16) mg_all mg_len mg_set
 have df_blocks_wanted:=Ga (P:=PySem.Challenge.pw_underfloor_k39_new_floors) (w:=w) (base:=base) (L2.bf (st:=jd) l17 c17 k17) (PySem.W.mg_of X G a17) gl_PAGE_WORDS
 have df_cells_wanted:=Gi (P:=PySem.Challenge.pw_underfloor_k39_new_floors) (w:=w) (base:=base) (L2.bf (st:=iX) l18 c18 k18) (PySem.W.mg_of X G a18) gl_FOLDER
 have df_is_head:=vF (P:=PySem.Challenge.pw_underfloor_k39_new_floors) (w:=w) (base:=base) (L2.bf (st:=ij) l19 c19 k19) (PySem.W.mg_of X G a19) mg_all gl_FILE gl_MOST_FILE_WORDS gl_FOLDER gl_MOST_FOLDER_NAMES gl_HEAD_WORDS df_cells_wanted df_blocks_wanted
 have df_size_of:=y0 (P:=PySem.Challenge.pw_underfloor_k39_new_floors) (w:=w) (base:=base) (L2.bf (st:=iG) l20 c20 k20) (PySem.W.mg_of X G a20)
 have df_many_cells:=yX (P:=PySem.Challenge.pw_underfloor_k39_new_floors) (w:=w) (base:=base) (L2.bf (st:=jh) l21 c21 k21) (PySem.W.mg_of X G a21) df_kind_of df_size_of df_cells_wanted
 have df_blocks_of:=wA (P:=PySem.Challenge.pw_underfloor_k39_new_floors) (w:=w) (base:=base) (L2.bf (st:=iW) l22 c22 k22) (PySem.W.mg_of X G a22) mg_list gl_HEAD_WORDS df_many_cells df_blocks_wanted
 have df_block_words:=AB (P:=PySem.Challenge.pw_underfloor_k39_new_floors) (w:=w) (base:=base) (L2.bf (st:=jc) l23 c23 k23) (PySem.W.mg_of X G a23) mg_list df_blocks_of
 have df_cells_of:=E5 (P:=PySem.Challenge.pw_underfloor_k39_new_floors) (w:=w) (base:=base) (L2.bf (st:=iK) l24 c24 k24) (PySem.W.mg_of X G a24) df_block_words df_many_cells
 have df_pairs_of:=vz (P:=PySem.Challenge.pw_underfloor_k39_new_floors) (w:=w) (base:=base) (L2.bf (st:=iQ) l25 c25 k25) (PySem.W.mg_of X G a25) mg_list mg_zip gl_FOLDER df_kind_of df_cells_of
 have df_node_wrong:=vf (P:=PySem.Challenge.pw_underfloor_k39_new_floors) (w:=w) (base:=base) (L2.bf (st:=fQ) l26 c26 k26) (PySem.W.mg_of X G a26) mg_any mg_zip df_are_blocks df_is_head df_blocks_of df_block_words df_many_cells df_pairs_of
 have df_floor_wrong:=Bo (P:=PySem.Challenge.pw_underfloor_k39_new_floors) (w:=w) (base:=base) (L2.bf (st:=fm) l27 c27 k27) (PySem.W.mg_of X G a27) mg_dict mg_len mg_range gl_FOLDER df_is_floor df_no_seal df_root_of df_kind_of df_node_wrong df_blocks_of df_pairs_of df_map_wrong
 have df_law_block:=AL (P:=PySem.Challenge.pw_underfloor_k39_new_floors) (w:=w) (base:=base) (L2.bf (st:=jt) l28 c28 k28) (PySem.W.mg_of X G a28) mg_len mg_list mg_tuple
 have df_law_wants:=B9 (P:=PySem.Challenge.pw_underfloor_k39_new_floors) (w:=w) (base:=base) (L2.bf (st:=iz) l29 c29 k29) (PySem.W.mg_of X G a29)
 have df_law_good:=xv (P:=PySem.Challenge.pw_underfloor_k39_new_floors) (w:=w) (base:=base) (L2.bf (st:=gw) l30 c30 k30) (PySem.W.mg_of X G a30) mg_int mg_len mg_list mg_range mg_set mg_sorted df_law_wants df_law_block
 have df_node_at:=Bn (P:=PySem.Challenge.pw_underfloor_k39_new_floors) (w:=w) (base:=base) (L2.bf (st:=iY) l31 c31 k31) (PySem.W.mg_of X G a31) mg_dict gl_FOLDER df_kind_of df_pairs_of df_cells_of
 have df_tree_of:=xU (P:=PySem.Challenge.pw_underfloor_k39_new_floors) (w:=w) (base:=base) (L2.bf (st:=ig) l32 c32 k32) (PySem.W.mg_of X G a32) mg_len df_root_of df_node_at df_pairs_of
 have df_law_new:=yj (P:=PySem.Challenge.pw_underfloor_k39_new_floors) (w:=w) (base:=base) (L2.bf (st:=i6) l33 c33 k33) (PySem.W.mg_of X G a33) mg_bool mg_int mg_isinstance mg_len mg_list mg_range mg_tuple df_new_floor df_floor_wrong df_law_good df_root_of df_tree_of df_free_blocks
 have df_law:=F9 (P:=PySem.Challenge.pw_underfloor_k39_new_floors) (w:=w) (base:=base) (L2.bf (st:=ff) l34 c34 k34) (PySem.W.mg_of X G a34) df_law_new
 exact df_law
end gq
end PL
set_option maxRecDepth 1000
namespace PL
open PySem
theorem zI{a b:Int}{d:D}(h:d∈cD a b):∃k:Int,d=.int k∧a≤k∧k<b:=by
 unfold cD at h
 obtain⟨k,hk,e⟩:=List.mem_map.mp h
 have:=List.mem_range.mp hk
 exact⟨a+k,e.symm,by omega,by omega⟩
theorem uX{α:Type}{xs:List α}{i:Int}(h0:0≤i)(h:i<xs.length):dz xs i=some (xs[i.toNat]'(by omega)):=by
 unfold dz dm
 rw[if_pos h0,if_pos h]
 have:i.toNat<xs.length:=by omega
 simp[this]
theorem tH{i:Int}(h1: -1000000<i)(h2:i<1000000):inR i=true:=by
 unfold inR
 rw[decide_eq_true (show -4611686018427387904≤i by omega),decide_eq_true (show i<4611686018427387904 by omega)];rfl
theorem F8{c:aG}{a b:Ex}{ρ:En}(h:c ρ=.ok true):g8 c a b ρ=a ρ:=by simp[h]
theorem ve{c:aG}{a b:Ex}{ρ:En}(h:c ρ=.ok false):g8 c a b ρ=b ρ:=by simp[h]
theorem cM{a:Sm}{r:List Sm}{ρ ρ':En}(h:a ρ=.ok (.next ρ')):aJ (a::r) ρ=aJ r ρ':=by
 show(a ρ).bind _=_
 rw[h];rfl
theorem nH{a:Sm}{r:List Sm}{ρ:En}{d:D}(h:a ρ=.ok (.ret d)):aJ (a::r) ρ=.ok (.ret d):=by
 show(a ρ).bind _=_
 rw[h];rfl
theorem eV{c:aG}{a:Sm}{ρ:En}(h:c ρ=.ok false):aZ c a ba ρ=.ok (.next ρ):=by simp[h]
theorem fi{n:Nat}{b:Sm}{ds:List D}{d:D}(h:b (ds.map .sh++List.replicate (n - ds.length) .un)=.ok (.ret d)):fn n b ds=.ok d:=by
 unfold fn;rw[h];rfl
set_option maxRecDepth 2000
namespace G
theorem lj{o:D→R D}{a:Ex}{ρ:En}{x d:D}(ha:a ρ=.ok x)(h:o x=.ok d):e1 o a ρ=.ok d:=by
 show(a ρ).bind _=_
 rw[ha,R.bg,h]
theorem dw{o:D→D→R D}{a b:Ex}{ρ:En}{x y d:D}(ha:a ρ=.ok x)(hb:b ρ=.ok y)(h:o x y=.ok d):e2 o a b ρ=.ok d:=by
 show(a ρ).bind _=_
 rw[ha,R.bg]
 show(b ρ).bind _=_
 rw[hb,R.bg,h]
theorem du{f:List D→R D}{a:Ex}{ρ:En}{x d:D}(ha:a ρ=.ok x)(h:f [x]=.ok d):ao f [a] ρ=.ok d:=by
 simp only[ao,eList,ha,R.bg];exact h
theorem uc{f:List D→R D}{a b:Ex}{ρ:En}{x y d:D}(ha:a ρ=.ok x)(hb:b ρ=.ok y)(h:f [x,y]=.ok d):ao f [a,b] ρ=.ok d:=by
 simp only[ao,eList,ha,hb,R.bg];exact h
theorem om{a b:Ex}{ρ:En}{i u:Int}(ha:a ρ=.ok (.int i))(hb:b ρ=.ok (.int u)):e2 aV a b ρ=.ok (.int (i+u)):=dw ha hb rfl
theorem Dg{a b:Ex}{ρ:En}{i u:Int}(ha:a ρ=.ok (.int i))(hb:b ρ=.ok (.int u))(h:0<u):e2 oMod a b ρ=.ok (.int (i % u)):=dw ha hb (if_pos h)
theorem p7{a b:Ex}{ρ:En}{i u:Int}(ha:a ρ=.ok (.int i))(hb:b ρ=.ok (.int u))(h:0<u∧u.natAbs.log2<9000):e2 er a b ρ=.ok (.int (i / u)):=dw ha hb (if_pos h)
theorem dY{a:Ex}{ρ:En}{b:Bool}(ha:a ρ=.ok (.bl b)):tV a ρ=.ok b:=by
 simp only[tV,ha,R.bg,truth]
theorem lE{t:aG}{ρ:En}{b:Bool}(h:t ρ=.ok b):bV t ρ=.ok (!b):=by
 simp only[bV,h,R.bg]
theorem i8{t u:aG}{ρ:En}{b c:Bool}(h:t ρ=.ok b)(h':u ρ=.ok c):bY t u ρ=.ok (b||c):=by
 simp only[bY,h,R.bg]
 cases b
 ·rw[if_neg (by decide),h'];rfl
 ·rfl
theorem nQ{a b:Ex}{ρ:En}{x y:Bool}(ha:a ρ=.ok (.bl x))(hb:x=true→b ρ=.ok (.bl y)):fJ a b ρ=.ok (.bl (x&&y)):=by
 simp only[fJ,ha,R.bg]
 cases x
 ·rfl
 ·exact hb rfl
theorem gr{a:Ex}{ρ:En}{d:D}(h:a ρ=.ok d):az a ρ=.ok (.ret d):=by
 simp only[az,h,R.bg]
theorem sD{i:Nat}{a:Ex}{ρ:En}{d:D}(h:a ρ=.ok d):bQ (aB i) a ρ=.ok (.next (ρ.set i (.sh d))):=by
 simp only[bQ,h,R.bg,aB]
theorem x9{i:Nat}{a:Ex}{ρ:En}{xs:List D}(h:a ρ=.ok (.lst xs)):dj i a ρ=.ok (.next (ρ.set i (.ol xs))):=by
 simp only[dj,h,R.bg]
theorem xu{i:Nat}{k a:Ex}{ρ:En}{d:D}{j:Int}{m:Nat}{xs:List D}(h:a ρ=.ok d)(hk:k ρ=.ok (.int j))(hi:ρ[i]? =some (.ol xs))(hm:dm xs.length j=some m):gT i k a ρ=.ok (.next (ρ.set i (.ol (xs.set m d)))):=by
 simp only[gT,h,hk,R.bg,hi,hm]
theorem yZ{n:Nat}{j:Int}(h0:0≤j)(h1:j<n):dm n j=some j.toNat:=by
 unfold dm;rw[if_pos h0,if_pos h1]
theorem eq_int(i j:Int):oEq (.int i) (.int j)=.ok (.bl (decide (i=j))):=by
 unfold oEq
 rw[vh,if_pos rfl]
 show R.ok (D.bl (i==j))=_
 rfl
theorem lt_int(i j:Int):oLt (.int i) (.int j)=.ok (.bl (decide (i<j))):=rfl
theorem z6{n d:Nat}{v:Int}(h:0≤v):aF n d (some v)=min v.toNat n:=if_neg (by omega)
theorem EY{α:Type}(xs:List α){v:Int}(h:0≤v):cut xs none (some v)=xs.take v.toNat:=by
 unfold cut
 rw[z6 h]
 show((xs.drop 0).take _)=_
 rw[List.drop_zero]
 show xs.take (min v.toNat xs.length - 0)=_
 rw[Nat.sub_zero]
 by_cases hl:v.toNat≤xs.length
 ·rw[Nat.min_eq_left hl]
 ·rw[Nat.min_eq_right (by omega),List.take_length,List.take_of_length_le (by omega)]
theorem xB{a b:Ex}{ρ:En}{xs:List D}{v:Int}(ha:a ρ=.ok (.lst xs))(hb:b ρ=.ok (.int v))(h:0≤v):b6 a none (some b) ρ=.ok (.lst (xs.take v.toNat)):=by
 simp only[b6,ha,R.bg,gL,hb,pJ]
 rw[EY _ h]
theorem A6{xs ys:List D}(h:xs.length+ys.length≤16777216):aV (.lst xs) (.lst ys)=.ok (.lst (xs++ys)):=if_pos h
mutual
theorem pP:∀d:D,lay d=true→bw d d=true
 |.av,_=>rfl
 |.bl b,_=>by simp
 |.int i,_=>by simp
 |.str x,_=>by simp
 |.tup xs,h=>by unfold bw;exact nL xs (by unfold lay at h;exact h)
 |.lst xs,h=>by unfold bw;exact nL xs (by unfold lay at h;exact h)
 |.aC _ _,h=>by unfold lay at h;cases h
 |.cm _ _ _,h=>by unfold lay at h;cases h
theorem nL:∀ds:List D,cJ ds=true→gR ds ds=true
 |[],_=>rfl
 | d::ds,h=>by
   unfold cJ at h
   rw[Bool.and_eq_true]at h
   unfold gR
   rw[pP d h.1,nL ds h.2];rfl
end
theorem yx{d:D}(h:lay d=true)(h2:dep d≤60):dM d d=true:=by
 unfold dM
 rw[h,decide_eq_true (show min (dep d) (dep d)≤60 by omega)];simp
theorem ne_self{d:D}(h:lay d=true)(h2:dep d≤60):bz d d=.ok (.bl false):=by
 unfold bz
 rw[if_pos (yx h h2),pP d h];rfl
theorem C0{ds:List D}(h:∀d∈ds,lay d=true):cJ ds=true:=by
 induction ds with
 |nil=>rfl
 | cons d ds ih=>
   unfold cJ
   rw[h d List.mem_cons_self,ih fun x hx=>h x (List.mem_cons_of_mem _ hx)];rfl
theorem yh{ds:List D}{n:Nat}(h:∀d∈ds,dep d≤n):gi ds≤n:=by
 induction ds with
 |nil=>exact Nat.zero_le _
 | cons d ds ih=>
   unfold gi
   have h1:=h d List.mem_cons_self
   have h2:=ih fun x hx=>h x (List.mem_cons_of_mem _ hx)
   omega
theorem rf{α:Type}{tg:bN}{el:Ex}{ρ:En}(u:α→D)(v:α→D):∀ {xs:List α},(∀x∈xs,∃ρ1,tg (u x) ρ=.ok ρ1∧el ρ1=.ok (v x))→dP tg [] el ρ (xs.map u)=.ok (xs.map v)
 |[],_=>rfl
 | x::xs,h=>by
   obtain⟨ρ1,e1,e2⟩:=h x List.mem_cons_self
   rw[List.map_cons,dP,e1,R.bg]
   show(R.ok true).bind _=_
   rw[R.bg,if_pos rfl,e2,R.bg,rf u v (fun y hy=>h y (List.mem_cons_of_mem _ hy))]
   rfl
theorem oB{it:br}{n:Nat}{fv:List Nat}{tg:bN}{cs:List aG}{el:Ex}{ρ:En}{ds ys:List D}(hi:it ρ=.ok ds)(hl:ds.length≤16777216)(hc:dP tg cs el (List.replicate n .un++frees ρ fv) ds=.ok ys):bE it n fv tg cs el ρ=.ok (.lst ys):=by
 show(it ρ).bind _=_
 rw[hi,R.bg,if_pos hl,hc];rfl
theorem ly{it:br}{tg:bN}{body:Sm}{ρ:En}{ds:List D}{r:R Fl}(hi:it ρ=.ok ds)(h:forL tg body ds ρ=r):cA it tg body ρ=r:=by
 show(it ρ).bind _=_
 rw[hi,R.bg,h]
theorem rN{g h:D→D→R D}{a b c:Ex}{ρ:En}{x y z:D}{p q:Bool}(ha:a ρ=.ok x)(hb:b ρ=.ok y)(hg:g x y=.ok (.bl p))(hc:c ρ=.ok z)(hh:h y z=.ok (.bl q)):eG g h a b c ρ=.ok (.bl (p&&q)):=by
 simp only[eG,ha,hb,hg,R.bg]
 cases p
 ·rfl
 ·simp only[hc,R.bg,hh,Bool.true_and]
theorem le_int(i j:Int):oLe (.int i) (.int j)=.ok (.bl (decide (i≤j))):=rfl
end G
end PL
set_option maxRecDepth 4000
namespace PL
namespace gq
open PySem
noncomputable def aL(n:Nat):Nat:=14+(n+15) / 16
noncomputable def zB:D:=.tup (List.replicate 16 (.int 0))
noncomputable def oN(n b:Nat):D:=if b=aL n then .tup (.int 2::List.replicate 15 (.int 0))else if 14≤b∧b<aL n then .tup ((List.range 16).map fun j=>.int (if 16*(b - 14)+j≤aL n then 1 else 0))else zB
noncomputable def XS(n:Nat):List D:=(List.range n).map (oN n)
noncomputable def TK(n:Nat):List Ky:=(List.range (aL n)).map (fun k=>.inl (k:Int))++[.inl (aL n:Int)]
noncomputable def VS(n:Nat):List D:=List.replicate (aL n+1) (.bl true)
noncomputable def WS(n:Nat):List D:=(List.range (16*((n+15) / 16))).map fun i=>.int (if i≤aL n then 1 else 0)
noncomputable def sQ:List Sm:=[aZ (tV (e2 bz (e2 bO (aa 0) (eC (.int 0))) (ao ma []))) (az (eC (S "block 0 isn't the seal of noughts"))) (ba),bQ (aB 1) (ao dn [aa 0]),aZ (tV (e2 bz (ao eQ [aa 0,aa 1]) (eC dE))) (az (eC (S "the root is no folder"))) (ba),gu 2 (e1 fw (bE (e4 (aa 1)) 1 [] (aB 0) [] (en [aa 0,eC (.bl true)]))),dj 3 (bH [aa 1]),i4 3 (tV (e2 eS (iC 3) (eC (.int 0)))) mJ]
structure Good(n:Nat):Prop where
 nf:ju [.int (n:Int)]=.ok (.lst (XS n))
 p6:aJ sQ [.sh (.lst (XS n)),.un,.un,.un,.un,.un]=.ok (.next [.sh (.lst (XS n)),.sh (.int (aL n:Int)),.od (TK n) (VS n),.ol [],.sh (.int (aL n:Int)),.sh .av])
 mw:fT [.lst (XS n)]=.ok (.lst (WS n))
 gd:jv [.lst (XS n)]=.ok (.bl true)
 tr:kz [.lst (XS n)]=.ok (.aC [.inl (aL n:Int)] [.tup [S "folder",.aC [] []]])
 fr:kF [.lst (XS n)]=.ok (.lst (cD ((aL n:Int)+1) (n:Int)))
theorem j0(n:Nat):(XS n).length=n:=by simp[XS]
noncomputable def Wd(d:D):Prop:=∃i:Int,d=.int i∧0≤i∧i<4294967296
noncomputable def Pg(d:D):Prop:=∃ws:List D,d=.tup ws∧ws.length=16∧∀w∈ws,Wd w
theorem yz(n b:Nat):Pg (oN n b):=by
 unfold oN
 have hz:∀k,∀w∈List.replicate k (D.int 0),Wd w:=fun k w hw=>by
   rw[List.eq_of_mem_replicate hw];exact⟨0,rfl,by omega,by omega⟩
 split
 · refine⟨_,rfl,by simp,fun w hw=>?_⟩
   rcases List.mem_cons.mp hw with rfl|hw
   ·exact⟨2,rfl,by omega,by omega⟩
   ·exact hz _ w hw
 · split
   · refine⟨_,rfl,by simp,fun w hw=>?_⟩
     obtain⟨j,_,rfl⟩:=List.mem_map.mp hw
     refine⟨_,rfl,?_,?_⟩<;>split<;>omega
   ·exact⟨_,rfl,by simp,hz 16⟩
theorem ue{n:Nat}{d:D}(h:d∈XS n):Pg d:=by
 obtain⟨b,_,rfl⟩:=List.mem_map.mp h
 exact yz n b
theorem zz{d:D}(h:Wd d):mn [d]=.ok (.bl true):=by
 obtain⟨i,rfl,h0,h1⟩:=h
 have hw:kR [.int i]=.ok (.bl true):=rfl
 have hp:e2 jF (eC (.int 2)) (eC (.int 32)) [.sh (.int i)]=.ok (.int 4294967296):=by rfl
 refine fi (G.gr (G.nQ (x:=true) (y:=true) (G.du (x:=.int i) rfl hw) fun _=>?_))
 have:=G.rN (g:=oLe) (h:=oLt) (a:=eC (.int 0)) (b:=aa 0) (c:=e2 jF (eC (.int 2)) (eC (.int 32))) (ρ:=[.sh (.int i)]) (p:=true) (q:=true) (x:=.int 0) (y:=.int i) rfl rfl (by rw[G.le_int,decide_eq_true h0]) hp (by rw[G.lt_int,decide_eq_true h1])
 exact this
theorem pB{f:List D→R D}:∀ {xs:List D},(∀x∈xs,f [x]=.ok (.bl true))→dP (aB 0) [] (ao f [aa 0]) [.un] xs=.ok (xs.map fun _=>.bl true)
 |[],_=>rfl
 | x::xs,h=>by
   rw[dP]
   show(R.ok [Slot.sh x]).bind _=_
   rw[R.bg]
   show(R.ok true).bind _=_
   rw[R.bg,if_pos rfl,G.du (x:=x) rfl (h x List.mem_cons_self),R.bg,pB fun y hy=>h y (List.mem_cons_of_mem _ hy)]
   rfl
theorem all_true:∀xs:List D,allB (xs.map fun _=>D.bl true)=.ok (.bl true)
 |[]=>rfl
 | _::xs=>by
   show(allB (xs.map fun _=>D.bl true)).bind _=_
   rw[all_true xs];rfl
theorem DA{d:D}(h:Pg d):jz [d]=.ok (.bl true):=by
 obtain⟨ws,rfl,hl,hw⟩:=h
 have ht:mf [.tup ws,.int 16]=.ok (.bl true):=by
   refine fi (G.gr (G.nQ (x:=true) (y:=true) rfl fun _=>?_))
   refine G.dw (o:=oEq) (x:=.int (ws.length:Int)) (y:=.int 16) rfl rfl ?_
   rw[G.eq_int,hl];rfl
 refine fi (G.gr (G.nQ (x:=true) (y:=true) (G.uc (x:=.tup ws) (y:=.int 16) rfl rfl ht) fun _=>?_))
 refine G.lj (o:=fz) (G.oB (ds:=ws) rfl (by omega) (pB fun w hx=>zz (hw w hx))) (all_true ws)
theorem E3{n:Nat}(h1:32≤n)(h2:n≤200):ml [.lst (XS n)]=.ok (.bl true):=by
 refine fi ?_
 show aJ _ [Slot.sh (.lst (XS n))]=_
 have hc:(bY (bV (tV (e1 (dh .list) (aa 0)))) (bV (tV (eG oLe oLe (eC kD) (e1 cg (aa 0)) (eC jw))))) [Slot.sh (.lst (XS n))]=.ok false:=by
   refine G.i8 (b:=false) (c:=false) rfl (G.lE (b:=true) (G.dY ?_))
   have:=G.rN (g:=oLe) (h:=oLe) (a:=eC kD) (b:=e1 cg (aa 0)) (c:=eC jw) (ρ:=[Slot.sh (.lst (XS n))]) (p:=true) (q:=true) (x:=.int 32) (y:=.int (n:Int)) (z:=.int 200) rfl (by show R.ok (D.int ((XS n).length:Int))=_;rw[j0]) (by rw[G.le_int,decide_eq_true (by omega)]) rfl (by rw[G.le_int,decide_eq_true (by omega)])
   exact this
 rw[cM (eV hc)]
 have:aJ [az (e1 fz (bE (bM (aa 0)) 1 [] (aB 0) [] (ao jz [aa 0])))] [Slot.sh (.lst (XS n))]=.ok (.ret (.bl true)):=
   nH (G.gr (G.lj (o:=fz) (G.oB (ds:=XS n) rfl (by rw[j0];omega) (pB fun w hx=>DA (ue hx))) (all_true _)))
 exact this
theorem rJ{k:Ky}:∀ {ks:List Ky} {vs:List D},ks.length=vs.length→((bZ k ks vs).isSome=true↔k∈ks)
 |[],vs,_=>by simp[bZ]
 | a::ks,v::vs,h=>by
   unfold bZ
   by_cases e:a=k
   ·subst e;simp
   · rw[if_neg e,rJ (by simpa using h),List.mem_cons]
     exact⟨.inr,fun h=>h.resolve_left (fun z=>e z.symm)⟩
 |_::_,[],h=>by simp at h
theorem zV{n i:Nat}:(Sum.inl (i:Int):Ky)∈TK n↔i≤aL n:=by
 unfold TK
 rw[List.mem_append,List.mem_map,List.mem_singleton]
 constructor
 · rintro(⟨k,hk,e⟩|e)
   · have:=List.mem_range.mp hk
     have e':(k:Int)=(i:Int):=Sum.inl.inj e
     omega
   · have e':(i:Int)=(aL n:Int):=Sum.inl.inj e
     omega
 · intro h
   rcases Nat.lt_or_ge i (aL n)with h2|h2
   ·exact .inl ⟨i,List.mem_range.mpr h2,rfl⟩
   ·exact .inr (by rw[show i=aL n by omega])
theorem zh(n i:Nat):dB (.int (i:Int)) (.aC (TK n) (VS n))=.ok (.bl (decide (i≤aL n))):=by
 show R.ok (D.bl (bZ (.inl (i:Int)) (TK n) (VS n)).isSome)=_
 have h:=rJ (k:=(.inl (i:Int))) (ks:=TK n) (vs:=VS n) (by simp[TK,VS])
 rw[zV]at h
 congr 2
 exact Bool.eq_iff_iff.mpr (h.trans decide_eq_true_iff.symm)
theorem rQ{n:Nat}(F:D):∀(l:List Nat) (k:Nat) (a b:Slot),(∀j x,l[j]? =some x→x=k+j)→
   ∃a' b',forL (cW [2,3]) gX (d4 (k:Int) (l.map fun i=>.int (if i≤aL n then 1 else 0))) [.sh F,.sh (.aC (TK n) (VS n)),a,b]=.ok (.next [.sh F,.sh (.aC (TK n) (VS n)),a',b'])
 |[],_,a,b,_=>⟨a,b,rfl⟩
 | x::l,k,a,b,h=>by
   have hx:x=k:=h 0 x rfl
   subst hx
   obtain⟨a',b',ih⟩:=rQ (n:=n) F l (x+1) (.sh (.int (x:Int))) (.sh (.int (if x≤aL n then 1 else 0))) (fun j y hy=>by have:=h (j+1) y (by simpa using hy);omega)
   refine⟨a',b',?_⟩
   rw[List.map_cons]
   show((R.ok [Slot.sh F,.sh (.aC (TK n) (VS n)),.sh (.int (x:Int)),.sh (.int (if x≤aL n then 1 else 0))]).bind fun ρ1=>(gX ρ1).bind _)=_
   rw[R.bg]
   have hb:gX [Slot.sh F,.sh (.aC (TK n) (VS n)),.sh (.int (x:Int)),.sh (.int (if x≤aL n then 1 else 0))]=.ok (.next [Slot.sh F,.sh (.aC (TK n) (VS n)),.sh (.int (x:Int)),.sh (.int (if x≤aL n then 1 else 0))]):=by
     unfold gX
     refine eV (G.dY (b:=false) ?_)
     refine G.dw (o:=bz) (x:=.int (if x≤aL n then 1 else 0)) (y:=.int (if x≤aL n then 1 else 0)) rfl ?_ (G.ne_self rfl (Nat.zero_le _))
     have ht:tV (e2 dB (aa 2) (aa 1)) [Slot.sh F,.sh (.aC (TK n) (VS n)),.sh (.int (x:Int)),.sh (.int (if x≤aL n then 1 else 0))]=.ok (decide (x≤aL n)):=G.dY (G.dw (o:=dB) rfl rfl (zh n x))
     by_cases hr:x≤aL n
     ·rw[F8 (by rw[ht,decide_eq_true hr]),if_pos hr];rfl
     ·rw[ve (by rw[ht,decide_eq_false hr]),if_neg hr];rfl
   rw[hb,R.bg]
   exact ih
theorem xm{n:Nat}(g:Good n):jy [.lst (XS n),.aC (TK n) (VS n)]=.ok .av:=by
 refine fi ?_
 show aJ _ [Slot.sh (.lst (XS n)),.sh (.aC (TK n) (VS n)),.un,.un]=_
 obtain⟨a',b',h⟩:=rQ (n:=n) (.lst (XS n)) (List.range (16*((n+15) / 16))) 0 .un .un (fun j x hx=>by
   obtain⟨h1,h2⟩:=List.getElem?_eq_some_iff.mp hx
   simp at h2;omega)
 rw[cM (G.ly (ds:=d4 0 (WS n)) ?_ h)]
 ·rfl
 · have hc:ao fT [aa 0] [Slot.sh (.lst (XS n)),.sh (.aC (TK n) (VS n)),.un,.un]=.ok (.lst (WS n)):=G.du (x:=.lst (XS n)) rfl g.mw
   show(ao fT [aa 0] _).bind _=_
   rw[hc];rfl
theorem qM:∀ {a b:List Sm} {ρ ρ1:En},aJ a ρ=.ok (.next ρ1)→aJ (a++b) ρ=aJ b ρ1
 |[],b,ρ,ρ1,h=>by cases h;rfl
 | s::a,b,ρ,ρ1,h=>by
   have h':(s ρ).bind (fun f=>match f with|.next ρ'=>aJ a ρ'|f=>.ok f)=.ok (.next ρ1):=h
   show(s ρ).bind _=_
   cases hs:s ρ with
   | ok f=>
     rw[hs]at h'
     cases f with
     |next ρ2=>exact qM h'
     |_=>cases h'
   |exc x=>rw[hs]at h';cases h'
   |bad=>rw[hs]at h';cases h'
theorem qL{n:Nat}(g:Good n)(h1:32≤n)(h2:n≤200):ji [.lst (XS n)]=.ok .av:=by
 refine fi ?_
 show aJ (_::(sQ++[eP 2,az (ao jy [aa 0,aa 2])])) [Slot.sh (.lst (XS n)),.un,.un,.un,.un,.un]=_
 rw[cM (eV (G.lE (b:=true) (G.dY (G.du (x:=.lst (XS n)) rfl (E3 h1 h2)))))]
 rw[qM g.p6]
 rw[cM (ρ':=[.sh (.lst (XS n)),.sh (.int (aL n:Int)),.sh (.aC (TK n) (VS n)),.ol [],.sh (.int (aL n:Int)),.sh .av]) rfl]
 exact nH (G.gr (G.uc (x:=.lst (XS n)) (y:=.aC (TK n) (VS n)) rfl rfl (xm g)))
theorem qD{N F B:Slot}:∀(ws:List D) (a:Slot),(∀w∈ws,Wd w)→cU a=true→
   ∃a',cU a'=true∧forL (aB 3) gJ ws [N,F,B,a,.un,.un]=.ok (.next [N,F,B,a',.un,.un])
 |[],a,_,ha=>⟨a,ha,rfl⟩
 | w::ws,a,h,ha=>by
   obtain⟨i,rfl,h0,h1⟩:=h w List.mem_cons_self
   obtain⟨a',ha',ih⟩:=qD ws (.sh (.int i)) (fun x hx=>h x (List.mem_cons_of_mem _ hx)) rfl
   refine⟨a',ha',?_⟩
   show((R.ok [N,F,B,.sh (.int i),.un,.un]).bind fun ρ1=>(gJ ρ1).bind _)=_
   rw[R.bg]
   have hb:gJ [N,F,B,.sh (.int i),.un,.un]=.ok (.next [N,F,B,.sh (.int i),.un,.un]):=by
     unfold gJ
     exact eV (G.i8 (b:=false) (c:=false) rfl rfl)
   rw[hb,R.bg]
   exact ih
theorem qx:∀ {ws:List D},(∀w∈ws,Wd w)→eR ws=true
 |[],_=>rfl
 | w::ws,h=>by
   obtain⟨i,rfl,_⟩:=h w List.mem_cons_self
   unfold eR
   rw[qx fun x hx=>h x (List.mem_cons_of_mem _ hx)];rfl
theorem wX{d:D}(h:Pg d):bA d=true:=by
 obtain⟨ws,rfl,_,hw⟩:=h
 unfold bA
 exact qx hw
theorem rZ{N F:Slot}:∀(xs:List D) (a b:Slot),(∀x∈xs,Pg x)→cU a=true→cU b=true→
   ∃a' b',cU a'=true∧cU b'=true∧forL (aB 2) fG xs [N,F,a,b,.un,.un]=.ok (.next [N,F,a',b',.un,.un])
 |[],a,b,_,ha,hb=>⟨a,b,ha,hb,rfl⟩
 | x::xs,a,b,h,ha,hb=>by
   have hx:=h x List.mem_cons_self
   obtain⟨ws,rfl,hl,hw⟩:=id hx
   obtain⟨b1,hb1,e1⟩:=qD (N:=N) (F:=F) (B:=.sh (.tup ws)) ws b hw hb
   obtain⟨a',b',ha',hb',ih⟩:=rZ (N:=N) (F:=F) xs (.sh (.tup ws)) b1 (fun y hy=>h y (List.mem_cons_of_mem _ hy)) (wX hx) hb1
   refine⟨a',b',ha',hb',?_⟩
   show((R.ok [N,F,.sh (.tup ws),b,.un,.un]).bind fun ρ1=>(fG ρ1).bind _)=_
   rw[R.bg]
   have e2:fG [N,F,.sh (.tup ws),b,.un,.un]=.ok (.next [N,F,.sh (.tup ws),b1,.un,.un]):=by
     unfold fG
     rw[cM (eV (G.i8 (b:=false) (c:=false) rfl (G.dY (G.dw (o:=bz) (x:=.int (ws.length:Int)) (y:=.int 16) rfl rfl (by rw[hl];exact G.ne_self rfl (Nat.zero_le _))))))]
     rw[cM (G.ly (ds:=ws) rfl e1)]
     rfl
   rw[e2,R.bg]
   exact ih
theorem zd{n:Nat}:dn [.lst (XS n)]=.ok (.int (aL n:Int)):=by
 have hm:gS [.int (n:Int)]=.ok (.int (((n+15) / 16:Nat):Int)):=by
   refine fi (G.gr ?_)
   have h:=G.p7 (a:=e2 fX (e2 aV (aa 0) (eC cu)) (eC (.int 1))) (b:=eC cu) (ρ:=[.sh (.int (n:Int))]) (i:=(n:Int)+16 - 1) (u:=16) rfl rfl ⟨by omega,by decide⟩
   rw[show(((n+15) / 16:Nat):Int)=((n:Int)+16 - 1) / 16 by omega]
   exact h
 refine fi (G.gr ?_)
 refine G.dw (o:=aV) (x:=.int 14) (y:=.int (((n+15) / 16:Nat):Int)) rfl (G.du (x:=.int (n:Int)) (by show R.ok (D.int ((XS n).length:Int))=_;rw[j0]) hm) ?_
 show R.ok (D.int (14+(((n+15) / 16:Nat):Int)))=_
 unfold aL
 rw[show((14+(n+15) / 16:Nat):Int)=14+(((n+15) / 16:Nat):Int) by omega]
theorem qe(a b:Int):lay (.lst (cD a b))=true∧dep (.lst (cD a b))≤60:=by
 have h:∀d∈cD a b,lay d=true∧dep d=0:=fun d hd=>by
   obtain⟨k,rfl,_⟩:=zI hd
   exact⟨rfl,rfl⟩
 refine⟨by unfold lay;exact G.C0 fun d hd=>(h d hd).1,?_⟩
 have:=G.yh (ds:=cD a b) (n:=0) fun d hd=>Nat.le_of_eq (h d hd).2
 show gi (cD a b)+1≤60
 omega
theorem vA{n:Nat}(g:Good n)(h1:32≤n)(h2:n≤200):kj [.int (n:Int)]=.ok (.bl true):=by
 refine fi ?_
 show aJ _ [Slot.sh (.int (n:Int)),.un,.un,.un,.un,.un]=_
 rw[cM (G.x9 (G.du (x:=.int (n:Int)) rfl g.nf))]
 show aJ _ [Slot.sh (.int (n:Int)),.ol (XS n),.un,.un,.un,.un]=_
 have hlen:e1 cg (aa 1) [Slot.sh (.int (n:Int)),.sh (.lst (XS n)),.un,.un,.un,.un]=.ok (.int (n:Int)):=by show R.ok (D.int ((XS n).length:Int))=_;rw[j0]
 have t1:(dZ 1 (bY (bV (tV (e1 (dh .list) (aa 1)))) (tV (e2 bz (e1 cg (aa 1)) (aa 0))))) [Slot.sh (.int (n:Int)),.ol (XS n),.un,.un,.un,.un]=.ok false:=by
   show(bY _ _) [Slot.sh (.int (n:Int)),.sh (.lst (XS n)),.un,.un,.un,.un]=_
   exact G.i8 (b:=false) (c:=false) rfl (G.dY (G.dw (o:=bz) hlen rfl (G.ne_self rfl (Nat.zero_le _))))
 rw[cM (eV t1)]
 obtain⟨a',b',ha',hb',e3⟩:=rZ (N:=.sh (.int (n:Int))) (F:=.sh (.lst (XS n))) (XS n) .un .un (fun x hx=>ue hx) rfl rfl
 have s3:j9 1 (cA (bM (aa 1)) (aB 2) fG) [Slot.sh (.int (n:Int)),.ol (XS n),.un,.un,.un,.un]=.ok (.next [Slot.sh (.int (n:Int)),.ol (XS n),a',b',.un,.un]):=by
   show(cA (bM (aa 1)) (aB 2) fG [Slot.sh (.int (n:Int)),.sh (.lst (XS n)),.un,.un,.un,.un]).bind _=_
   rw[G.ly (ds:=XS n) rfl e3,R.bg]
   show(if([Slot.sh (.int (n:Int)),.un,a',b',.un,.un]:En).all cU=true then R.ok (Fl.next [Slot.sh (.int (n:Int)),.ol (XS n),a',b',.un,.un])else R.bad)=_
   rw[if_pos]
   simp[ha',hb']
   exact⟨rfl,rfl⟩
 rw[cM s3]
 have t4:(dZ 1 (bY (tV (e1 jm (ao ji [aa 1]))) (bV (tV (ao jv [aa 1]))))) [Slot.sh (.int (n:Int)),.ol (XS n),a',b',.un,.un]=.ok false:=by
   show(bY _ _) [Slot.sh (.int (n:Int)),.sh (.lst (XS n)),a',b',.un,.un]=_
   exact G.i8 (b:=false) (c:=false) (G.dY (G.lj (o:=jm) (G.du (x:=.lst (XS n)) rfl (qL g h1 h2)) rfl)) (G.lE (b:=true) (G.dY (G.du (x:=.lst (XS n)) rfl g.gd)))
 rw[cM (eV t4)]
 have e5:e2 aV (eC (.int 14)) (e2 er (e2 aV (aa 0) (eC (.int 15))) (eC (.int 16))) [Slot.sh (.int (n:Int)),.ol (XS n),a',b',.un,.un]=.ok (.int (aL n:Int)):=by
   have h:=G.p7 (a:=e2 aV (aa 0) (eC (.int 15))) (b:=eC (.int 16)) (ρ:=[Slot.sh (.int (n:Int)),.ol (XS n),a',b',.un,.un]) (i:=(n:Int)+15) (u:=16) rfl rfl ⟨by omega,by decide⟩
   rw[G.om (i:=14) rfl h]
   unfold aL
   rw[show((14+(n+15) / 16:Nat):Int)=14+((n:Int)+15) / 16 by omega]
 rw[cM (G.sD e5)]
 show aJ _ [Slot.sh (.int (n:Int)),.ol (XS n),a',b',.sh (.int (aL n:Int)),.un]=_
 have t6:(dZ 1 (bY (tV (e2 bz (ao dn [aa 1]) (aa 4))) (tV (e2 fR (ao kz [aa 1]) (mE (aa 4) (en [eC (S "folder"),gm [] []])))))) [Slot.sh (.int (n:Int)),.ol (XS n),a',b',.sh (.int (aL n:Int)),.un]=.ok false:=by
   show(bY _ _) [Slot.sh (.int (n:Int)),.sh (.lst (XS n)),a',b',.sh (.int (aL n:Int)),.un]=_
   refine G.i8 (b:=false) (c:=false) (G.dY (G.dw (o:=bz) (G.du (x:=.lst (XS n)) rfl zd) rfl (G.ne_self rfl (Nat.zero_le _)))) (G.dY (G.dw (o:=fR) (y:=.aC [.inl (aL n:Int)] [.tup [S "folder",.aC [] []]]) (G.du (x:=.lst (XS n)) rfl g.tr) rfl ?_))
   simp[fR]
 rw[cM (eV t6)]
 have hr:aL n≤27:=by unfold aL;omega
 have hr0:16≤aL n:=by unfold aL;omega
 have e7:e2 ft (e2 aV (aa 4) (eC (.int 1))) (aa 0) [Slot.sh (.int (n:Int)),.sh (.lst (XS n)),a',b',.sh (.int (aL n:Int)),.un]=.ok (.lst (cD ((aL n:Int)+1) (n:Int))):=by
   refine G.dw (o:=ft) (G.om rfl rfl) rfl ?_
   have hq:inR ((aL n:Int)+1)=true∧inR (n:Int)=true∧(n:Int) - ((aL n:Int)+1)≤16777216:=⟨tH (by omega) (by omega),tH (by omega) (by omega),by omega⟩
   unfold ft
   dsimp only
   rw[if_pos hq]
 have t7:(dZ 1 (tV (e2 bz (ao kF [aa 1]) (e2 ft (e2 aV (aa 4) (eC (.int 1))) (aa 0))))) [Slot.sh (.int (n:Int)),.ol (XS n),a',b',.sh (.int (aL n:Int)),.un]=.ok false:=by
   show(tV _) [Slot.sh (.int (n:Int)),.sh (.lst (XS n)),a',b',.sh (.int (aL n:Int)),.un]=_
   exact G.dY (G.dw (o:=bz) (G.du (x:=.lst (XS n)) rfl g.fr) e7 (G.ne_self (qe _ _).1 (qe _ _).2))
 rw[cM (eV t7)]
 rw[cM (G.sD (G.du (x:=.int (n:Int)) rfl g.nf))]
 show aJ _ [Slot.sh (.int (n:Int)),.ol (XS n),a',b',.sh (.int (aL n:Int)),.sh (.lst (XS n))]=_
 have hl:=j0 n
 have e9:lA 1 (eC (.int 0)) [Slot.sh (.int (n:Int)),.ol (XS n),a',b',.sh (.int (aL n:Int)),.sh (.lst (XS n))]=.ok ((XS n)[0]'(by omega)):=by
   have h:=uX (xs:=XS n) (i:=0) (by omega) (by omega)
   show fF (.lst (XS n)) (.int 0)=_
   simp only[fF]
   rw[h]
   rfl
 rw[cM (G.xu (m:=aL n) e9 (j:=(aL n:Int)) rfl rfl (by rw[G.yZ (by omega) (by omega)];simp))]
 exact nH (G.gr (G.lj (o:=mG) (x:=.av) (G.du (x:=.lst (XS n)) rfl (qL g h1 h2)) rfl))
theorem Gx(hg:∀n:Nat,32≤n→n≤200→Good n)(ns:List Int)(h:ns.length≤63):j4 [.lst (ns.map .int)]=.ok (.bl true):=by
 refine fi ?_
 show aJ _ [Slot.sh (.lst (ns.map .int)),.un]=_
 have hc:bE (bM (b6 (aa 0) none (some (eC (.int 6))))) 1 [] (aB 0) [] (e2 aV (eC (.int 32)) (e2 oMod (aa 0) (eC (.int 169)))) [Slot.sh (.lst (ns.map .int)),.un]=.ok (.lst ((ns.take 6).map fun c=>.int (32+c % 169))):=by
   have hs:bM (b6 (aa 0) none (some (eC (.int 6)))) [Slot.sh (.lst (ns.map .int)),.un]=.ok ((ns.take 6).map .int):=by
     show(b6 _ _ _ _).bind _=_
     rw[G.xB (v:=6) rfl rfl (by omega),R.bg]
     show R.ok ((ns.map D.int).take 6)=_
     rw[List.map_take]
   refine G.oB hs (by simp;omega) (G.rf D.int (fun c=>.int (32+c % 169)) fun x _=>⟨_,rfl,?_⟩)
   exact G.om rfl (G.Dg rfl rfl (by omega))
 have hi:bM (e2 aV (bH [eC (.int 32),eC (.int 33),eC (.int 47),eC (.int 48),eC (.int 49),eC (.int 64),eC (.int 199),eC (.int 200)]) (bE (bM (b6 (aa 0) none (some (eC (.int 6))))) 1 [] (aB 0) [] (e2 aV (eC (.int 32)) (e2 oMod (aa 0) (eC (.int 169)))))) [Slot.sh (.lst (ns.map .int)),.un]=.ok (([32,33,47,48,49,64,199,200]++(ns.take 6).map fun c=>32+c % 169).map D.int):=by
   show(e2 aV _ _ _).bind _=_
   rw[G.dw (o:=aV) (x:=.lst [.int 32,.int 33,.int 47,.int 48,.int 49,.int 64,.int 199,.int 200]) rfl hc (G.A6 (by simp;omega)),R.bg]
   show R.ok _=_
   rw[List.map_append,List.map_map]
   rfl
 obtain ⟨ρ',hf⟩:∃ρ',forL (aB 1) gn (([32,33,47,48,49,64,199,200]++(ns.take 6).map fun c=>32+c % 169).map D.int) [Slot.sh (.lst (ns.map .int)),.un]=.ok (.next ρ'):=by
   have key:∀(xs:List Int) (a:Slot),(∀x∈xs,32≤x∧x≤200)→∃ρ',forL (aB 1) gn (xs.map D.int) [Slot.sh (.lst (ns.map .int)),a]=.ok (.next ρ'):=by
     intro xs
     induction xs with
     |nil=>intro a _;exact⟨_,rfl⟩
     | cons x xs ih=>
       intro a hx
       obtain⟨h1,h2⟩:=hx x List.mem_cons_self
       obtain⟨ρ',e⟩:=ih (.sh (.int x)) fun y hy=>hx y (List.mem_cons_of_mem _ hy)
       refine⟨ρ',?_⟩
       rw[List.map_cons]
       show((R.ok [Slot.sh (.lst (ns.map .int)),.sh (.int x)]).bind fun ρ1=>(gn ρ1).bind _)=_
       rw[R.bg]
       have hn:kj [.int x]=.ok (.bl true):=by
         have:=vA (hg x.toNat (by omega) (by omega)) (by omega) (by omega)
         rw[show((x.toNat:Nat):Int)=x by omega]at this
         exact this
       have hb:gn [Slot.sh (.lst (ns.map .int)),.sh (.int x)]=.ok (.next [Slot.sh (.lst (ns.map .int)),.sh (.int x)]):=by
         unfold gn
         exact eV (G.lE (b:=true) (G.dY (G.du (x:=.int x) rfl hn)))
       rw[hb,R.bg]
       exact e
   refine key _ _ fun x hx=>?_
   rcases List.mem_append.mp hx with hx|hx
   · simp at hx
     omega
   · obtain⟨c,_,rfl⟩:=List.mem_map.mp hx
     have:=Int.emod_nonneg c (show(169:Int)≠0 by omega)
     have:=Int.emod_lt_of_pos c (show(0:Int)<169 by omega)
     constructor<;>omega
 rw[cM (G.ly hi hf)]
 rfl
set_option maxRecDepth 1000000
theorem Fj:Good 32:=⟨by kernel_rfl,by kernel_rfl,by kernel_rfl,by kernel_rfl,by kernel_rfl,by kernel_rfl⟩
theorem Eb:Good 33:=⟨by kernel_rfl,by kernel_rfl,by kernel_rfl,by kernel_rfl,by kernel_rfl,by kernel_rfl⟩
theorem C5:Good 34:=⟨by kernel_rfl,by kernel_rfl,by kernel_rfl,by kernel_rfl,by kernel_rfl,by kernel_rfl⟩
theorem GP:Good 35:=⟨by kernel_rfl,by kernel_rfl,by kernel_rfl,by kernel_rfl,by kernel_rfl,by kernel_rfl⟩
theorem AR:Good 36:=⟨by kernel_rfl,by kernel_rfl,by kernel_rfl,by kernel_rfl,by kernel_rfl,by kernel_rfl⟩
theorem BM:Good 37:=⟨by kernel_rfl,by kernel_rfl,by kernel_rfl,by kernel_rfl,by kernel_rfl,by kernel_rfl⟩
theorem A8:Good 38:=⟨by kernel_rfl,by kernel_rfl,by kernel_rfl,by kernel_rfl,by kernel_rfl,by kernel_rfl⟩
theorem u0:Good 39:=⟨by kernel_rfl,by kernel_rfl,by kernel_rfl,by kernel_rfl,by kernel_rfl,by kernel_rfl⟩
theorem wt:Good 40:=⟨by kernel_rfl,by kernel_rfl,by kernel_rfl,by kernel_rfl,by kernel_rfl,by kernel_rfl⟩
theorem DP:Good 41:=⟨by kernel_rfl,by kernel_rfl,by kernel_rfl,by kernel_rfl,by kernel_rfl,by kernel_rfl⟩
theorem Bm:Good 42:=⟨by kernel_rfl,by kernel_rfl,by kernel_rfl,by kernel_rfl,by kernel_rfl,by kernel_rfl⟩
theorem uN:Good 43:=⟨by kernel_rfl,by kernel_rfl,by kernel_rfl,by kernel_rfl,by kernel_rfl,by kernel_rfl⟩
theorem CO:Good 44:=⟨by kernel_rfl,by kernel_rfl,by kernel_rfl,by kernel_rfl,by kernel_rfl,by kernel_rfl⟩
theorem CL:Good 45:=⟨by kernel_rfl,by kernel_rfl,by kernel_rfl,by kernel_rfl,by kernel_rfl,by kernel_rfl⟩
theorem Cj:Good 46:=⟨by kernel_rfl,by kernel_rfl,by kernel_rfl,by kernel_rfl,by kernel_rfl,by kernel_rfl⟩
theorem zW:Good 47:=⟨by kernel_rfl,by kernel_rfl,by kernel_rfl,by kernel_rfl,by kernel_rfl,by kernel_rfl⟩
theorem zo:Good 48:=⟨by kernel_rfl,by kernel_rfl,by kernel_rfl,by kernel_rfl,by kernel_rfl,by kernel_rfl⟩
theorem FH:Good 49:=⟨by kernel_rfl,by kernel_rfl,by kernel_rfl,by kernel_rfl,by kernel_rfl,by kernel_rfl⟩
theorem yP:Good 50:=⟨by kernel_rfl,by kernel_rfl,by kernel_rfl,by kernel_rfl,by kernel_rfl,by kernel_rfl⟩
theorem DZ:Good 51:=⟨by kernel_rfl,by kernel_rfl,by kernel_rfl,by kernel_rfl,by kernel_rfl,by kernel_rfl⟩
theorem yr:Good 52:=⟨by kernel_rfl,by kernel_rfl,by kernel_rfl,by kernel_rfl,by kernel_rfl,by kernel_rfl⟩
theorem xX:Good 53:=⟨by kernel_rfl,by kernel_rfl,by kernel_rfl,by kernel_rfl,by kernel_rfl,by kernel_rfl⟩
theorem uL:Good 54:=⟨by kernel_rfl,by kernel_rfl,by kernel_rfl,by kernel_rfl,by kernel_rfl,by kernel_rfl⟩
theorem BU:Good 55:=⟨by kernel_rfl,by kernel_rfl,by kernel_rfl,by kernel_rfl,by kernel_rfl,by kernel_rfl⟩
theorem yG:Good 56:=⟨by kernel_rfl,by kernel_rfl,by kernel_rfl,by kernel_rfl,by kernel_rfl,by kernel_rfl⟩
theorem zR:Good 57:=⟨by kernel_rfl,by kernel_rfl,by kernel_rfl,by kernel_rfl,by kernel_rfl,by kernel_rfl⟩
theorem Eo:Good 58:=⟨by kernel_rfl,by kernel_rfl,by kernel_rfl,by kernel_rfl,by kernel_rfl,by kernel_rfl⟩
theorem u5:Good 59:=⟨by kernel_rfl,by kernel_rfl,by kernel_rfl,by kernel_rfl,by kernel_rfl,by kernel_rfl⟩
theorem xI:Good 60:=⟨by kernel_rfl,by kernel_rfl,by kernel_rfl,by kernel_rfl,by kernel_rfl,by kernel_rfl⟩
theorem Bi:Good 61:=⟨by kernel_rfl,by kernel_rfl,by kernel_rfl,by kernel_rfl,by kernel_rfl,by kernel_rfl⟩
theorem EM:Good 62:=⟨by kernel_rfl,by kernel_rfl,by kernel_rfl,by kernel_rfl,by kernel_rfl,by kernel_rfl⟩
theorem Cq:Good 63:=⟨by kernel_rfl,by kernel_rfl,by kernel_rfl,by kernel_rfl,by kernel_rfl,by kernel_rfl⟩
theorem B6:Good 64:=⟨by kernel_rfl,by kernel_rfl,by kernel_rfl,by kernel_rfl,by kernel_rfl,by kernel_rfl⟩
theorem Bf:Good 65:=⟨by kernel_rfl,by kernel_rfl,by kernel_rfl,by kernel_rfl,by kernel_rfl,by kernel_rfl⟩
theorem yc:Good 66:=⟨by kernel_rfl,by kernel_rfl,by kernel_rfl,by kernel_rfl,by kernel_rfl,by kernel_rfl⟩
theorem Cb:Good 67:=⟨by kernel_rfl,by kernel_rfl,by kernel_rfl,by kernel_rfl,by kernel_rfl,by kernel_rfl⟩
theorem vL:Good 68:=⟨by kernel_rfl,by kernel_rfl,by kernel_rfl,by kernel_rfl,by kernel_rfl,by kernel_rfl⟩
theorem BO:Good 69:=⟨by kernel_rfl,by kernel_rfl,by kernel_rfl,by kernel_rfl,by kernel_rfl,by kernel_rfl⟩
theorem GN:Good 70:=⟨by kernel_rfl,by kernel_rfl,by kernel_rfl,by kernel_rfl,by kernel_rfl,by kernel_rfl⟩
theorem xq:Good 71:=⟨by kernel_rfl,by kernel_rfl,by kernel_rfl,by kernel_rfl,by kernel_rfl,by kernel_rfl⟩
theorem A7:Good 72:=⟨by kernel_rfl,by kernel_rfl,by kernel_rfl,by kernel_rfl,by kernel_rfl,by kernel_rfl⟩
theorem Ep:Good 73:=⟨by kernel_rfl,by kernel_rfl,by kernel_rfl,by kernel_rfl,by kernel_rfl,by kernel_rfl⟩
theorem EG:Good 74:=⟨by kernel_rfl,by kernel_rfl,by kernel_rfl,by kernel_rfl,by kernel_rfl,by kernel_rfl⟩
theorem Aq:Good 75:=⟨by kernel_rfl,by kernel_rfl,by kernel_rfl,by kernel_rfl,by kernel_rfl,by kernel_rfl⟩
theorem EN:Good 76:=⟨by kernel_rfl,by kernel_rfl,by kernel_rfl,by kernel_rfl,by kernel_rfl,by kernel_rfl⟩
theorem xt:Good 77:=⟨by kernel_rfl,by kernel_rfl,by kernel_rfl,by kernel_rfl,by kernel_rfl,by kernel_rfl⟩
theorem GU:Good 78:=⟨by kernel_rfl,by kernel_rfl,by kernel_rfl,by kernel_rfl,by kernel_rfl,by kernel_rfl⟩
theorem DU:Good 79:=⟨by kernel_rfl,by kernel_rfl,by kernel_rfl,by kernel_rfl,by kernel_rfl,by kernel_rfl⟩
theorem F5:Good 80:=⟨by kernel_rfl,by kernel_rfl,by kernel_rfl,by kernel_rfl,by kernel_rfl,by kernel_rfl⟩
theorem y7:Good 81:=⟨by kernel_rfl,by kernel_rfl,by kernel_rfl,by kernel_rfl,by kernel_rfl,by kernel_rfl⟩
theorem uq:Good 82:=⟨by kernel_rfl,by kernel_rfl,by kernel_rfl,by kernel_rfl,by kernel_rfl,by kernel_rfl⟩
theorem D5:Good 83:=⟨by kernel_rfl,by kernel_rfl,by kernel_rfl,by kernel_rfl,by kernel_rfl,by kernel_rfl⟩
theorem wL:Good 84:=⟨by kernel_rfl,by kernel_rfl,by kernel_rfl,by kernel_rfl,by kernel_rfl,by kernel_rfl⟩
theorem F7:Good 85:=⟨by kernel_rfl,by kernel_rfl,by kernel_rfl,by kernel_rfl,by kernel_rfl,by kernel_rfl⟩
theorem Dn:Good 86:=⟨by kernel_rfl,by kernel_rfl,by kernel_rfl,by kernel_rfl,by kernel_rfl,by kernel_rfl⟩
theorem u9:Good 87:=⟨by kernel_rfl,by kernel_rfl,by kernel_rfl,by kernel_rfl,by kernel_rfl,by kernel_rfl⟩
theorem v9:Good 88:=⟨by kernel_rfl,by kernel_rfl,by kernel_rfl,by kernel_rfl,by kernel_rfl,by kernel_rfl⟩
theorem DL:Good 89:=⟨by kernel_rfl,by kernel_rfl,by kernel_rfl,by kernel_rfl,by kernel_rfl,by kernel_rfl⟩
theorem uF:Good 90:=⟨by kernel_rfl,by kernel_rfl,by kernel_rfl,by kernel_rfl,by kernel_rfl,by kernel_rfl⟩
theorem GB:Good 91:=⟨by kernel_rfl,by kernel_rfl,by kernel_rfl,by kernel_rfl,by kernel_rfl,by kernel_rfl⟩
theorem Cd:Good 92:=⟨by kernel_rfl,by kernel_rfl,by kernel_rfl,by kernel_rfl,by kernel_rfl,by kernel_rfl⟩
theorem xK:Good 93:=⟨by kernel_rfl,by kernel_rfl,by kernel_rfl,by kernel_rfl,by kernel_rfl,by kernel_rfl⟩
theorem DT:Good 94:=⟨by kernel_rfl,by kernel_rfl,by kernel_rfl,by kernel_rfl,by kernel_rfl,by kernel_rfl⟩
theorem Gf:Good 95:=⟨by kernel_rfl,by kernel_rfl,by kernel_rfl,by kernel_rfl,by kernel_rfl,by kernel_rfl⟩
theorem wV:Good 96:=⟨by kernel_rfl,by kernel_rfl,by kernel_rfl,by kernel_rfl,by kernel_rfl,by kernel_rfl⟩
theorem vE:Good 97:=⟨by kernel_rfl,by kernel_rfl,by kernel_rfl,by kernel_rfl,by kernel_rfl,by kernel_rfl⟩
theorem Bt:Good 98:=⟨by kernel_rfl,by kernel_rfl,by kernel_rfl,by kernel_rfl,by kernel_rfl,by kernel_rfl⟩
theorem Ff:Good 99:=⟨by kernel_rfl,by kernel_rfl,by kernel_rfl,by kernel_rfl,by kernel_rfl,by kernel_rfl⟩
theorem zE:Good 100:=⟨by kernel_rfl,by kernel_rfl,by kernel_rfl,by kernel_rfl,by kernel_rfl,by kernel_rfl⟩
theorem CZ:Good 101:=⟨by kernel_rfl,by kernel_rfl,by kernel_rfl,by kernel_rfl,by kernel_rfl,by kernel_rfl⟩
theorem B5:Good 102:=⟨by kernel_rfl,by kernel_rfl,by kernel_rfl,by kernel_rfl,by kernel_rfl,by kernel_rfl⟩
theorem BA:Good 103:=⟨by kernel_rfl,by kernel_rfl,by kernel_rfl,by kernel_rfl,by kernel_rfl,by kernel_rfl⟩
theorem AQ:Good 104:=⟨by kernel_rfl,by kernel_rfl,by kernel_rfl,by kernel_rfl,by kernel_rfl,by kernel_rfl⟩
theorem xP:Good 105:=⟨by kernel_rfl,by kernel_rfl,by kernel_rfl,by kernel_rfl,by kernel_rfl,by kernel_rfl⟩
theorem Gh:Good 106:=⟨by kernel_rfl,by kernel_rfl,by kernel_rfl,by kernel_rfl,by kernel_rfl,by kernel_rfl⟩
theorem BG:Good 107:=⟨by kernel_rfl,by kernel_rfl,by kernel_rfl,by kernel_rfl,by kernel_rfl,by kernel_rfl⟩
theorem zM:Good 108:=⟨by kernel_rfl,by kernel_rfl,by kernel_rfl,by kernel_rfl,by kernel_rfl,by kernel_rfl⟩
theorem AO:Good 109:=⟨by kernel_rfl,by kernel_rfl,by kernel_rfl,by kernel_rfl,by kernel_rfl,by kernel_rfl⟩
theorem Fc:Good 110:=⟨by kernel_rfl,by kernel_rfl,by kernel_rfl,by kernel_rfl,by kernel_rfl,by kernel_rfl⟩
theorem yH:Good 111:=⟨by kernel_rfl,by kernel_rfl,by kernel_rfl,by kernel_rfl,by kernel_rfl,by kernel_rfl⟩
theorem AF:Good 112:=⟨by kernel_rfl,by kernel_rfl,by kernel_rfl,by kernel_rfl,by kernel_rfl,by kernel_rfl⟩
theorem Cu:Good 113:=⟨by kernel_rfl,by kernel_rfl,by kernel_rfl,by kernel_rfl,by kernel_rfl,by kernel_rfl⟩
theorem yo:Good 114:=⟨by kernel_rfl,by kernel_rfl,by kernel_rfl,by kernel_rfl,by kernel_rfl,by kernel_rfl⟩
theorem xO:Good 115:=⟨by kernel_rfl,by kernel_rfl,by kernel_rfl,by kernel_rfl,by kernel_rfl,by kernel_rfl⟩
theorem zq:Good 116:=⟨by kernel_rfl,by kernel_rfl,by kernel_rfl,by kernel_rfl,by kernel_rfl,by kernel_rfl⟩
theorem vJ:Good 117:=⟨by kernel_rfl,by kernel_rfl,by kernel_rfl,by kernel_rfl,by kernel_rfl,by kernel_rfl⟩
theorem xN:Good 118:=⟨by kernel_rfl,by kernel_rfl,by kernel_rfl,by kernel_rfl,by kernel_rfl,by kernel_rfl⟩
theorem vM:Good 119:=⟨by kernel_rfl,by kernel_rfl,by kernel_rfl,by kernel_rfl,by kernel_rfl,by kernel_rfl⟩
theorem BZ:Good 120:=⟨by kernel_rfl,by kernel_rfl,by kernel_rfl,by kernel_rfl,by kernel_rfl,by kernel_rfl⟩
theorem Bl:Good 121:=⟨by kernel_rfl,by kernel_rfl,by kernel_rfl,by kernel_rfl,by kernel_rfl,by kernel_rfl⟩
theorem Br:Good 122:=⟨by kernel_rfl,by kernel_rfl,by kernel_rfl,by kernel_rfl,by kernel_rfl,by kernel_rfl⟩
theorem wo:Good 123:=⟨by kernel_rfl,by kernel_rfl,by kernel_rfl,by kernel_rfl,by kernel_rfl,by kernel_rfl⟩
theorem zL:Good 124:=⟨by kernel_rfl,by kernel_rfl,by kernel_rfl,by kernel_rfl,by kernel_rfl,by kernel_rfl⟩
theorem AE:Good 125:=⟨by kernel_rfl,by kernel_rfl,by kernel_rfl,by kernel_rfl,by kernel_rfl,by kernel_rfl⟩
theorem v3:Good 126:=⟨by kernel_rfl,by kernel_rfl,by kernel_rfl,by kernel_rfl,by kernel_rfl,by kernel_rfl⟩
theorem zO:Good 127:=⟨by kernel_rfl,by kernel_rfl,by kernel_rfl,by kernel_rfl,by kernel_rfl,by kernel_rfl⟩
theorem vW:Good 128:=⟨by kernel_rfl,by kernel_rfl,by kernel_rfl,by kernel_rfl,by kernel_rfl,by kernel_rfl⟩
theorem Aj:Good 129:=⟨by kernel_rfl,by kernel_rfl,by kernel_rfl,by kernel_rfl,by kernel_rfl,by kernel_rfl⟩
theorem Ez:Good 130:=⟨by kernel_rfl,by kernel_rfl,by kernel_rfl,by kernel_rfl,by kernel_rfl,by kernel_rfl⟩
theorem vo:Good 131:=⟨by kernel_rfl,by kernel_rfl,by kernel_rfl,by kernel_rfl,by kernel_rfl,by kernel_rfl⟩
theorem xn:Good 132:=⟨by kernel_rfl,by kernel_rfl,by kernel_rfl,by kernel_rfl,by kernel_rfl,by kernel_rfl⟩
theorem xS:Good 133:=⟨by kernel_rfl,by kernel_rfl,by kernel_rfl,by kernel_rfl,by kernel_rfl,by kernel_rfl⟩
theorem BH:Good 134:=⟨by kernel_rfl,by kernel_rfl,by kernel_rfl,by kernel_rfl,by kernel_rfl,by kernel_rfl⟩
theorem vX:Good 135:=⟨by kernel_rfl,by kernel_rfl,by kernel_rfl,by kernel_rfl,by kernel_rfl,by kernel_rfl⟩
theorem B8:Good 136:=⟨by kernel_rfl,by kernel_rfl,by kernel_rfl,by kernel_rfl,by kernel_rfl,by kernel_rfl⟩
theorem Ee:Good 137:=⟨by kernel_rfl,by kernel_rfl,by kernel_rfl,by kernel_rfl,by kernel_rfl,by kernel_rfl⟩
theorem wd:Good 138:=⟨by kernel_rfl,by kernel_rfl,by kernel_rfl,by kernel_rfl,by kernel_rfl,by kernel_rfl⟩
theorem AD:Good 139:=⟨by kernel_rfl,by kernel_rfl,by kernel_rfl,by kernel_rfl,by kernel_rfl,by kernel_rfl⟩
theorem zc:Good 140:=⟨by kernel_rfl,by kernel_rfl,by kernel_rfl,by kernel_rfl,by kernel_rfl,by kernel_rfl⟩
theorem w4:Good 141:=⟨by kernel_rfl,by kernel_rfl,by kernel_rfl,by kernel_rfl,by kernel_rfl,by kernel_rfl⟩
theorem Dt:Good 142:=⟨by kernel_rfl,by kernel_rfl,by kernel_rfl,by kernel_rfl,by kernel_rfl,by kernel_rfl⟩
theorem yA:Good 143:=⟨by kernel_rfl,by kernel_rfl,by kernel_rfl,by kernel_rfl,by kernel_rfl,by kernel_rfl⟩
theorem D0:Good 144:=⟨by kernel_rfl,by kernel_rfl,by kernel_rfl,by kernel_rfl,by kernel_rfl,by kernel_rfl⟩
theorem xD:Good 145:=⟨by kernel_rfl,by kernel_rfl,by kernel_rfl,by kernel_rfl,by kernel_rfl,by kernel_rfl⟩
theorem Ce:Good 146:=⟨by kernel_rfl,by kernel_rfl,by kernel_rfl,by kernel_rfl,by kernel_rfl,by kernel_rfl⟩
theorem zP:Good 147:=⟨by kernel_rfl,by kernel_rfl,by kernel_rfl,by kernel_rfl,by kernel_rfl,by kernel_rfl⟩
theorem zZ:Good 148:=⟨by kernel_rfl,by kernel_rfl,by kernel_rfl,by kernel_rfl,by kernel_rfl,by kernel_rfl⟩
theorem zD:Good 149:=⟨by kernel_rfl,by kernel_rfl,by kernel_rfl,by kernel_rfl,by kernel_rfl,by kernel_rfl⟩
theorem zl:Good 150:=⟨by kernel_rfl,by kernel_rfl,by kernel_rfl,by kernel_rfl,by kernel_rfl,by kernel_rfl⟩
theorem uu:Good 151:=⟨by kernel_rfl,by kernel_rfl,by kernel_rfl,by kernel_rfl,by kernel_rfl,by kernel_rfl⟩
theorem DI:Good 152:=⟨by kernel_rfl,by kernel_rfl,by kernel_rfl,by kernel_rfl,by kernel_rfl,by kernel_rfl⟩
theorem Be:Good 153:=⟨by kernel_rfl,by kernel_rfl,by kernel_rfl,by kernel_rfl,by kernel_rfl,by kernel_rfl⟩
theorem Bp:Good 154:=⟨by kernel_rfl,by kernel_rfl,by kernel_rfl,by kernel_rfl,by kernel_rfl,by kernel_rfl⟩
theorem xl:Good 155:=⟨by kernel_rfl,by kernel_rfl,by kernel_rfl,by kernel_rfl,by kernel_rfl,by kernel_rfl⟩
theorem DG:Good 156:=⟨by kernel_rfl,by kernel_rfl,by kernel_rfl,by kernel_rfl,by kernel_rfl,by kernel_rfl⟩
theorem Gu:Good 157:=⟨by kernel_rfl,by kernel_rfl,by kernel_rfl,by kernel_rfl,by kernel_rfl,by kernel_rfl⟩
theorem FQ:Good 158:=⟨by kernel_rfl,by kernel_rfl,by kernel_rfl,by kernel_rfl,by kernel_rfl,by kernel_rfl⟩
theorem uS:Good 159:=⟨by kernel_rfl,by kernel_rfl,by kernel_rfl,by kernel_rfl,by kernel_rfl,by kernel_rfl⟩
theorem E2:Good 160:=⟨by kernel_rfl,by kernel_rfl,by kernel_rfl,by kernel_rfl,by kernel_rfl,by kernel_rfl⟩
theorem D4:Good 161:=⟨by kernel_rfl,by kernel_rfl,by kernel_rfl,by kernel_rfl,by kernel_rfl,by kernel_rfl⟩
theorem Gs:Good 162:=⟨by kernel_rfl,by kernel_rfl,by kernel_rfl,by kernel_rfl,by kernel_rfl,by kernel_rfl⟩
theorem wg:Good 163:=⟨by kernel_rfl,by kernel_rfl,by kernel_rfl,by kernel_rfl,by kernel_rfl,by kernel_rfl⟩
theorem Bx:Good 164:=⟨by kernel_rfl,by kernel_rfl,by kernel_rfl,by kernel_rfl,by kernel_rfl,by kernel_rfl⟩
theorem DX:Good 165:=⟨by kernel_rfl,by kernel_rfl,by kernel_rfl,by kernel_rfl,by kernel_rfl,by kernel_rfl⟩
theorem FG:Good 166:=⟨by kernel_rfl,by kernel_rfl,by kernel_rfl,by kernel_rfl,by kernel_rfl,by kernel_rfl⟩
theorem Ef:Good 167:=⟨by kernel_rfl,by kernel_rfl,by kernel_rfl,by kernel_rfl,by kernel_rfl,by kernel_rfl⟩
theorem uz:Good 168:=⟨by kernel_rfl,by kernel_rfl,by kernel_rfl,by kernel_rfl,by kernel_rfl,by kernel_rfl⟩
theorem Dk:Good 169:=⟨by kernel_rfl,by kernel_rfl,by kernel_rfl,by kernel_rfl,by kernel_rfl,by kernel_rfl⟩
theorem xA:Good 170:=⟨by kernel_rfl,by kernel_rfl,by kernel_rfl,by kernel_rfl,by kernel_rfl,by kernel_rfl⟩
theorem AW:Good 171:=⟨by kernel_rfl,by kernel_rfl,by kernel_rfl,by kernel_rfl,by kernel_rfl,by kernel_rfl⟩
theorem zb:Good 172:=⟨by kernel_rfl,by kernel_rfl,by kernel_rfl,by kernel_rfl,by kernel_rfl,by kernel_rfl⟩
theorem Ax:Good 173:=⟨by kernel_rfl,by kernel_rfl,by kernel_rfl,by kernel_rfl,by kernel_rfl,by kernel_rfl⟩
theorem v5:Good 174:=⟨by kernel_rfl,by kernel_rfl,by kernel_rfl,by kernel_rfl,by kernel_rfl,by kernel_rfl⟩
theorem E7:Good 175:=⟨by kernel_rfl,by kernel_rfl,by kernel_rfl,by kernel_rfl,by kernel_rfl,by kernel_rfl⟩
theorem yR:Good 176:=⟨by kernel_rfl,by kernel_rfl,by kernel_rfl,by kernel_rfl,by kernel_rfl,by kernel_rfl⟩
theorem vB:Good 177:=⟨by kernel_rfl,by kernel_rfl,by kernel_rfl,by kernel_rfl,by kernel_rfl,by kernel_rfl⟩
theorem Gb:Good 178:=⟨by kernel_rfl,by kernel_rfl,by kernel_rfl,by kernel_rfl,by kernel_rfl,by kernel_rfl⟩
theorem vg:Good 179:=⟨by kernel_rfl,by kernel_rfl,by kernel_rfl,by kernel_rfl,by kernel_rfl,by kernel_rfl⟩
theorem DQ:Good 180:=⟨by kernel_rfl,by kernel_rfl,by kernel_rfl,by kernel_rfl,by kernel_rfl,by kernel_rfl⟩
theorem Ba:Good 181:=⟨by kernel_rfl,by kernel_rfl,by kernel_rfl,by kernel_rfl,by kernel_rfl,by kernel_rfl⟩
theorem vd:Good 182:=⟨by kernel_rfl,by kernel_rfl,by kernel_rfl,by kernel_rfl,by kernel_rfl,by kernel_rfl⟩
theorem EJ:Good 183:=⟨by kernel_rfl,by kernel_rfl,by kernel_rfl,by kernel_rfl,by kernel_rfl,by kernel_rfl⟩
theorem DR:Good 184:=⟨by kernel_rfl,by kernel_rfl,by kernel_rfl,by kernel_rfl,by kernel_rfl,by kernel_rfl⟩
theorem xM:Good 185:=⟨by kernel_rfl,by kernel_rfl,by kernel_rfl,by kernel_rfl,by kernel_rfl,by kernel_rfl⟩
theorem xh:Good 186:=⟨by kernel_rfl,by kernel_rfl,by kernel_rfl,by kernel_rfl,by kernel_rfl,by kernel_rfl⟩
theorem xb:Good 187:=⟨by kernel_rfl,by kernel_rfl,by kernel_rfl,by kernel_rfl,by kernel_rfl,by kernel_rfl⟩
theorem w6:Good 188:=⟨by kernel_rfl,by kernel_rfl,by kernel_rfl,by kernel_rfl,by kernel_rfl,by kernel_rfl⟩
theorem yV:Good 189:=⟨by kernel_rfl,by kernel_rfl,by kernel_rfl,by kernel_rfl,by kernel_rfl,by kernel_rfl⟩
theorem C8:Good 190:=⟨by kernel_rfl,by kernel_rfl,by kernel_rfl,by kernel_rfl,by kernel_rfl,by kernel_rfl⟩
theorem yB:Good 191:=⟨by kernel_rfl,by kernel_rfl,by kernel_rfl,by kernel_rfl,by kernel_rfl,by kernel_rfl⟩
theorem E4:Good 192:=⟨by kernel_rfl,by kernel_rfl,by kernel_rfl,by kernel_rfl,by kernel_rfl,by kernel_rfl⟩
theorem AN:Good 193:=⟨by kernel_rfl,by kernel_rfl,by kernel_rfl,by kernel_rfl,by kernel_rfl,by kernel_rfl⟩
theorem Cv:Good 194:=⟨by kernel_rfl,by kernel_rfl,by kernel_rfl,by kernel_rfl,by kernel_rfl,by kernel_rfl⟩
theorem zT:Good 195:=⟨by kernel_rfl,by kernel_rfl,by kernel_rfl,by kernel_rfl,by kernel_rfl,by kernel_rfl⟩
theorem ER:Good 196:=⟨by kernel_rfl,by kernel_rfl,by kernel_rfl,by kernel_rfl,by kernel_rfl,by kernel_rfl⟩
theorem A0:Good 197:=⟨by kernel_rfl,by kernel_rfl,by kernel_rfl,by kernel_rfl,by kernel_rfl,by kernel_rfl⟩
theorem GX:Good 198:=⟨by kernel_rfl,by kernel_rfl,by kernel_rfl,by kernel_rfl,by kernel_rfl,by kernel_rfl⟩
theorem Aa:Good 199:=⟨by kernel_rfl,by kernel_rfl,by kernel_rfl,by kernel_rfl,by kernel_rfl,by kernel_rfl⟩
theorem GK:Good 200:=⟨by kernel_rfl,by kernel_rfl,by kernel_rfl,by kernel_rfl,by kernel_rfl,by kernel_rfl⟩
noncomputable def kf:Nat→Prop
 |0=>True
 |k+1=>Good (32+k)∧kf k
theorem Cp:kf 169:=⟨GK,Aa,GX,A0,ER,zT,Cv,AN,E4,yB,C8,yV,w6,xb,xh,xM,DR,EJ,vd,Ba,DQ,vg,Gb,vB,yR,E7,v5,Ax,zb,AW,xA,Dk,uz,Ef,FG,DX,Bx,wg,Gs,D4,E2,uS,FQ,Gu,DG,xl,Bp,Be,DI,uu,zl,zD,zZ,zP,Ce,xD,D0,yA,Dt,w4,zc,AD,wd,Ee,B8,vX,BH,xS,xn,vo,Ez,Aj,vW,zO,v3,AE,zL,wo,Br,Bl,BZ,vM,xN,vJ,zq,xO,yo,Cu,AF,yH,Fc,AO,zM,BG,Gh,xP,AQ,BA,B5,CZ,zE,Ff,Bt,vE,wV,Gf,DT,xK,Cd,GB,uF,DL,v9,u9,Dn,F7,wL,D5,uq,y7,F5,DU,GU,xt,EN,Aq,EG,Ep,A7,xq,GN,BO,vL,Cb,yc,Bf,B6,Cq,EM,Bi,xI,u5,Eo,zR,yG,BU,uL,xX,yr,DZ,yP,FH,zo,zW,Cj,CL,CO,uN,Bm,DP,wt,u0,A8,BM,AR,GP,C5,Eb,Fj,trivial⟩
theorem kf.get:∀ {m k:Nat},kf m→k<m→Good (32+k)
 |0,_,_,h=>absurd h (Nat.not_lt_zero _)
 | m+1,k,h,hk=>by
   rcases Nat.lt_or_ge k m with h2|h2
   ·exact kf.get h.2 h2
   ·rw[show k=m by omega];exact h.1
theorem ur(ns:List Int)(h:ns.length≤63):j4 [.lst (ns.map .int)]=.ok (.bl true):=
 Gx (fun n h1 h2=>by
   have:=Cp.get (k:=n - 32) (by omega)
   rw[show 32+(n - 32)=n by omega]at this
   exact this) ns h
end gq
end PL
open PySem PySem.W PyProof.Rows
set_option maxRecDepth 100000 in
set_option maxHeartbeats 0 in
theorem PySem.Challenge.cw_underfloor_k39_new_floors_holds : PySem.Challenge.rw_underfloor_k39_new_floors.Holds := by
  w_on; o_law; k_head; (case hw => w_witness2)
  k_fill
  refine PL.walk (l := PySem.Challenge.rw_underfloor_k39_new_floors) (k := 10) (x := "_law_script") (m := PL.gq.j4) rfl rfl ⟨rfl, by decide, by decide⟩ (fun w h Y => PySem.W.kIn_of Y) ?F PL.gq.ur
  case F =>
    intro w mg fa h KX G hmg
    refine' PL.gq.all_mk KX G hmg ?a0 ?l0 ?c0 ?k0 ?a1 ?l1 ?c1 ?k1 ?a2 ?l2 ?c2 ?k2 ?a3 ?l3 ?c3 ?k3 ?a4 ?l4 ?c4 ?k4 ?a5 ?l5 ?c5 ?k5 ?a6 ?l6 ?c6 ?k6 ?a7 ?l7 ?c7 ?k7 ?a8 ?l8 ?c8 ?k8 ?a9 ?l9 ?c9 ?k9 ?a10 ?l10 ?c10 ?k10 ?a11 ?l11 ?c11 ?k11 ?a12 ?l12 ?c12 ?k12 ?a13 ?l13 ?c13 ?k13 ?a14 ?l14 ?c14 ?k14 ?a15 ?l15 ?c15 ?k15 ?a16 ?l16 ?c16 ?k16 ?a17 ?l17 ?c17 ?k17 ?a18 ?l18 ?c18 ?k18 ?a19 ?l19 ?c19 ?k19 ?a20 ?l20 ?c20 ?k20 ?a21 ?l21 ?c21 ?k21 ?a22 ?l22 ?c22 ?k22 ?a23 ?l23 ?c23 ?k23 ?a24 ?l24 ?c24 ?k24 ?a25 ?l25 ?c25 ?k25 ?a26 ?l26 ?c26 ?k26 ?a27 ?l27 ?c27 ?k27 ?a28 ?l28 ?c28 ?k28 ?a29 ?l29 ?c29 ?k29 ?a30 ?l30 ?c30 ?k30 ?a31 ?l31 ?c31 ?k31 ?a32 ?l32 ?c32 ?k32 ?a33 ?l33 ?c33 ?k33 ?a34 ?l34 ?c34 ?k34 ?z_all ?z_any ?z_bool ?z_dict ?z_enumerate ?z_int ?z_isinstance ?z_len ?z_list ?z_range ?z_set ?z_sorted ?z_tuple ?z_zip ?gl_PAGE_WORDS ?gl_FIRST_BLOCK ?gl_FOLDER ?gl_LEAST_BLOCKS ?gl_MOST_BLOCKS ?gl_FILE ?gl_MOST_FILE_WORDS ?gl_HEAD_WORDS ?gl_MOST_FOLDER_NAMES
    (case a0 => k_is)
    (case l0 => k_is)
    (case c0 => k_is)
    (case k0 => k_is)
    (case a1 => k_is)
    (case l1 => k_is)
    (case c1 => k_is)
    (case k1 => k_is)
    (case a2 => k_is)
    (case l2 => k_is)
    (case c2 => k_is)
    (case k2 => k_is)
    (case a3 => k_is)
    (case l3 => k_is)
    (case c3 => k_is)
    (case k3 => k_is)
    (case a4 => k_is)
    (case l4 => k_is)
    (case c4 => k_is)
    (case k4 => k_is)
    (case a5 => k_is)
    (case l5 => k_is)
    (case c5 => k_is)
    (case k5 => k_is)
    (case a6 => k_is)
    (case l6 => k_is)
    (case c6 => k_is)
    (case k6 => k_is)
    (case a7 => k_is)
    (case l7 => k_is)
    (case c7 => k_is)
    (case k7 => k_is)
    (case a8 => k_is)
    (case l8 => k_is)
    (case c8 => k_is)
    (case k8 => k_is)
    (case a9 => k_is)
    (case l9 => k_is)
    (case c9 => k_is)
    (case k9 => k_is)
    (case a10 => k_is)
    (case l10 => k_is)
    (case c10 => k_is)
    (case k10 => k_is)
    (case a11 => k_is)
    (case l11 => k_is)
    (case c11 => k_is)
    (case k11 => k_is)
    (case a12 => k_is)
    (case l12 => k_is)
    (case c12 => k_is)
    (case k12 => k_is)
    (case a13 => k_is)
    (case l13 => k_is)
    (case c13 => k_is)
    (case k13 => k_is)
    (case a14 => k_is)
    (case l14 => k_is)
    (case c14 => k_is)
    (case k14 => k_is)
    (case a15 => k_is)
    (case l15 => k_is)
    (case c15 => k_is)
    (case k15 => k_is)
    (case a16 => k_is)
    (case l16 => k_is)
    (case c16 => k_is)
    (case k16 => k_is)
    (case a17 => k_is)
    (case l17 => k_is)
    (case c17 => k_is)
    (case k17 => k_is)
    (case a18 => k_is)
    (case l18 => k_is)
    (case c18 => k_is)
    (case k18 => k_is)
    (case a19 => k_is)
    (case l19 => k_is)
    (case c19 => k_is)
    (case k19 => k_is)
    (case a20 => k_is)
    (case l20 => k_is)
    (case c20 => k_is)
    (case k20 => k_is)
    (case a21 => k_is)
    (case l21 => k_is)
    (case c21 => k_is)
    (case k21 => k_is)
    (case a22 => k_is)
    (case l22 => k_is)
    (case c22 => k_is)
    (case k22 => k_is)
    (case a23 => k_is)
    (case l23 => k_is)
    (case c23 => k_is)
    (case k23 => k_is)
    (case a24 => k_is)
    (case l24 => k_is)
    (case c24 => k_is)
    (case k24 => k_is)
    (case a25 => k_is)
    (case l25 => k_is)
    (case c25 => k_is)
    (case k25 => k_is)
    (case a26 => k_is)
    (case l26 => k_is)
    (case c26 => k_is)
    (case k26 => k_is)
    (case a27 => k_is)
    (case l27 => k_is)
    (case c27 => k_is)
    (case k27 => k_is)
    (case a28 => k_is)
    (case l28 => k_is)
    (case c28 => k_is)
    (case k28 => k_is)
    (case a29 => k_is)
    (case l29 => k_is)
    (case c29 => k_is)
    (case k29 => k_is)
    (case a30 => k_is)
    (case l30 => k_is)
    (case c30 => k_is)
    (case k30 => k_is)
    (case a31 => k_is)
    (case l31 => k_is)
    (case c31 => k_is)
    (case k31 => k_is)
    (case a32 => k_is)
    (case l32 => k_is)
    (case c32 => k_is)
    (case k32 => k_is)
    (case a33 => k_is)
    (case l33 => k_is)
    (case c33 => k_is)
    (case k33 => k_is)
    (case a34 => k_is)
    (case l34 => k_is)
    (case c34 => k_is)
    (case k34 => k_is)
    (case z_all => k_is)
    (case z_any => k_is)
    (case z_bool => k_is)
    (case z_dict => k_is)
    (case z_enumerate => k_is)
    (case z_int => k_is)
    (case z_isinstance => k_is)
    (case z_len => k_is)
    (case z_list => k_is)
    (case z_range => k_is)
    (case z_set => k_is)
    (case z_sorted => k_is)
    (case z_tuple => k_is)
    (case z_zip => k_is)
    (case gl_PAGE_WORDS => refine' PL.fB KX G ?x1_PAGE_WORDS ?x2_PAGE_WORDS; (case x1_PAGE_WORDS => k_is); (case x2_PAGE_WORDS => exact ⟨_, rfl⟩))
    (case gl_FIRST_BLOCK => refine' PL.fB KX G ?x1_FIRST_BLOCK ?x2_FIRST_BLOCK; (case x1_FIRST_BLOCK => k_is); (case x2_FIRST_BLOCK => exact ⟨_, rfl⟩))
    (case gl_FOLDER => refine' PL.fB KX G ?x1_FOLDER ?x2_FOLDER; (case x1_FOLDER => k_is); (case x2_FOLDER => exact ⟨_, rfl⟩))
    (case gl_LEAST_BLOCKS => refine' PL.fB KX G ?x1_LEAST_BLOCKS ?x2_LEAST_BLOCKS; (case x1_LEAST_BLOCKS => k_is); (case x2_LEAST_BLOCKS => exact ⟨_, rfl⟩))
    (case gl_MOST_BLOCKS => refine' PL.fB KX G ?x1_MOST_BLOCKS ?x2_MOST_BLOCKS; (case x1_MOST_BLOCKS => k_is); (case x2_MOST_BLOCKS => exact ⟨_, rfl⟩))
    (case gl_FILE => refine' PL.fB KX G ?x1_FILE ?x2_FILE; (case x1_FILE => k_is); (case x2_FILE => exact ⟨_, rfl⟩))
    (case gl_MOST_FILE_WORDS => refine' PL.fB KX G ?x1_MOST_FILE_WORDS ?x2_MOST_FILE_WORDS; (case x1_MOST_FILE_WORDS => k_is); (case x2_MOST_FILE_WORDS => exact ⟨_, rfl⟩))
    (case gl_HEAD_WORDS => refine' PL.fB KX G ?x1_HEAD_WORDS ?x2_HEAD_WORDS; (case x1_HEAD_WORDS => k_is); (case x2_HEAD_WORDS => exact ⟨_, rfl⟩))
    (case gl_MOST_FOLDER_NAMES => refine' PL.fB KX G ?x1_MOST_FOLDER_NAMES ?x2_MOST_FOLDER_NAMES; (case x1_MOST_FOLDER_NAMES => k_is); (case x2_MOST_FOLDER_NAMES => exact ⟨_, rfl⟩))

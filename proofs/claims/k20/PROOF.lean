import PyProof.Rows.All
import Wide.All
import OpenK.AllK
import Wide.FinOn
import Lean
import PyProof.EqAt
import PyProof.EqKinds
import PyProof.TupleCall
import KE.KIntText
import Wide.Seal
import PyProof.Rows.SortStr
import KE.KDictList
import PyProof.StrBlockH
import KE.KSortedL
import KE.KSorted
import PyProof.Rows.SortWalk
import PySem.Challenge.RW_underfloor_k20_bells
set_option Elab.async false
set_option linter.all false
set_option maxRecDepth 100000
namespace L2
open PySem PySem.Spec PyProof.Rows
noncomputable abbrev Key:=Sum Int Str
noncomputable def gK:Key→Value→Bool
 |.inl k,v=>Value.isInt k v
 |.inr x,v=>Value.isStrOf x v
noncomputable def uC(w:World):Key→Int
 |.inl k=>hashInt k
 |.inr x=>hashStr w x
theorem eM:∀ {k:Key} {v:Value},gK k v=true→(∃i t,k=Sum.inl i∧v=Value.int i t)∨(∃x t,k=Sum.inr x∧v=Value.str x t)
 | .inl i,v,h=>by
   obtain⟨t,e⟩:=Value.isInt_shape (k:=i) (v:=v) h
   exact .inl ⟨i,t,rfl,e⟩
 | .inr x,v,h=>by
   obtain⟨t,e⟩:=Value.isStrOf_shape (x:=x) (v:=v) h
   exact .inr ⟨x,t,rfl,e⟩
theorem uD(i:Int)(t:Tok):gK (.inl i) (.int i t)=true:=by simp[gK,Value.isInt]
theorem AS(x:Str)(t:Tok):gK (.inr x) (.str x t)=true:=by simp[gK,Value.isStrOf]
theorem x8(a b:Int):decide ((Sum.inl a:Key)=Sum.inl b)=(a==b):=by
 by_cases e:a=b
 ·subst e;simp
 · have h:¬(Sum.inl a:Key)=Sum.inl b:=fun q=>e (Sum.inl.inj q)
   rw[decide_eq_false h]
   exact(beq_eq_false_iff_ne.mpr e).symm
theorem uu(a b:Str):decide ((Sum.inr a:Key)=Sum.inr b)=decide (a=b):=by
 by_cases e:a=b
 ·subst e;simp
 · have h:¬(Sum.inr a:Key)=Sum.inr b:=fun q=>e (Sum.inr.inj q)
   rw[decide_eq_false h,decide_eq_false e]
theorem u3(a:Int)(b:Str):decide ((Sum.inl a:Key)=Sum.inr b)=false:=decide_eq_false (fun q=>nomatch q)
theorem ye(a:Str)(b:Int):decide ((Sum.inr a:Key)=Sum.inl b)=false:=decide_eq_false (fun q=>nomatch q)
noncomputable def bA(prog:Program)(w:World):PySem.KeyKind prog w Key where
 is:=gK
 hash:=uC w
 inj:=fun v a b ha hb=>by
   rcases eM ha with⟨i,t,rfl,rfl⟩|⟨x,t,rfl,rfl⟩
   · rcases eM hb with⟨j,u,rfl,e⟩|⟨y,u,rfl,e⟩
     ·injection e with e1 _;rw[e1]
     ·exact nomatch e
   · rcases eM hb with⟨j,u,rfl,e⟩|⟨y,u,rfl,e⟩
     ·exact nomatch e
     ·injection e with e1 _;rw[e1]
 byValue:=fun k v h=>by
   rcases eM h with⟨i,t,rfl,rfl⟩|⟨x,t,rfl,rfl⟩<;>rfl
 pyHash:=fun hv h=>by
   rcases eM hv with⟨i,t,rfl,rfl⟩|⟨x,t,rfl,rfl⟩
   ·exact wpAny_pyHash_int h
   ·exact wpAny_pyHash_str h
 eqBool:=fun hu hv h=>by
   rcases eM hu with⟨i,t,rfl,rfl⟩|⟨x,t,rfl,rfl⟩
   · rcases eM hv with⟨j,u,rfl,rfl⟩|⟨y,u,rfl,rfl⟩
     ·rw[x8]at h;exact wpAny_eqBool_int h
     ·rw[u3]at h;exact SeqAt.EqAt.int_str i t y u _ _ _ _ h
   · rcases eM hv with⟨j,u,rfl,rfl⟩|⟨y,u,rfl,rfl⟩
     ·rw[ye]at h;exact SeqAt.EqAt.str_int x t j u _ _ _ _ h
     ·rw[uu]at h;exact wpAny_eqBool_str h
 «strs»:=fun k x t v h=>by
   rcases eM h with⟨i,u,rfl,e⟩|⟨y,u,rfl,e⟩
   ·exact nomatch e
   · injection e with e1 _
     subst e1
     cases v<;>rfl
theorem xr(prog:Program)(w:World)(i:Int)(t:Tok):(bA prog w).is (.inl i) (.int i t)=true:=uD i t
theorem wm(prog:Program)(w:World)(x:Str)(t:Tok):(bA prog w).is (.inr x) (.str x t)=true:=AS x t
end L2
namespace L2
open PySem PySem.Spec PyProof.Rows
inductive V where
 |ai|bl (b:Bool)|int (i:Int)|str (x:Str)|iG (b:Array UInt8)|lR (b:UInt64)|ref (a:Addr)|ty (n:String)
 deriving DecidableEq
noncomputable def RelV:V→Value→Prop
 |.ai,u=>u=Value.none
 |.bl b,u=>u=Value.bool b
 |.int i,u=>∃t,u=Value.int i t
 |.str x,u=>∃t,u=Value.str x t
 |.iG b,u=>∃t,u=Value.bytes b t
 |.lR b,u=>∃t,u=Value.float b t
 |.ref a,u=>u=Value.ref a
 |.ty n,u=>u=Value.type n
noncomputable abbrev Vals:List V→List Value→Prop:=Paired RelV
theorem Vals.length{xs:List V}{us:List Value}(r:Vals xs us):xs.length=us.length:=Paired.length r
theorem Vals.get:∀ {xs:List V} {us:List Value} {i:Nat} {x:V},Vals xs us→xs[i]? =some x→∃u,us[i]? =some u∧RelV x u
 |_,_,_,_,.nil,e=>by simp at e
 |_,_,0,_,.cons r _,e=>by simp at e;subst e;exact⟨_,rfl,r⟩
 | _,_,i+1,x,.cons _ t,e=>by
   obtain⟨u,h1,h2⟩:=Vals.get (i:=i) (x:=x) t (by simpa using e)
   exact⟨u,by simpa using h1,h2⟩
theorem Vals.set{x:V}{u:Value}(r:RelV x u):∀ {xs:List V} {us:List Value} (i:Nat),Vals xs us→Vals (xs.set i x) (us.set i u)
 |_,_,_,.nil=>.nil
 |_,_,0,.cons _ t=>.cons r t
 |_,_,i+1,.cons q t=>.cons q (Vals.set r i t)
theorem Vals.append:∀ {xs ys:List V} {us ws:List Value},Vals xs us→Vals ys ws→Vals (xs++ys) (us++ws)
 |_,_,_,_,.nil,s=>s
 |_,_,_,_,.cons r t,s=>.cons r (Vals.append t s)
theorem Vals.take:∀ {xs:List V} {us:List Value} (n:Nat),Vals xs us→Vals (xs.take n) (us.take n)
 |_,_,0,_=>.nil
 |_,_,_+1,.nil=>.nil
 |_,_,n+1,.cons r t=>.cons r (Vals.take n t)
theorem Vals.drop:∀ {xs:List V} {us:List Value} (n:Nat),Vals xs us→Vals (xs.drop n) (us.drop n)
 |_,_,0,r=>r
 |_,_,_+1,.nil=>.nil
 |_,_,n+1,.cons _ t=>Vals.drop n t
theorem Vals.none_of:∀ {xs:List V} {us:List Value} {i:Nat},Vals xs us→xs[i]? =none→us[i]? =none:=fun {xs us i} r e=>by
 have h1:=r.length
 have h2:xs.length≤i:=List.getElem?_eq_none_iff.mp e
 exact List.getElem?_eq_none_iff.mpr (by omega)
noncomputable def cR:Option V→Option Value→Prop
 |some v,some u=>RelV v u
 |none,none=>True
 |_,_=>False
noncomputable def KV{κ:Type}:List (κ×V)→List (κ×Value)→Prop:=Paired fun(p:κ×V) (q:κ×Value)=>p.1=q.1∧RelV p.2 q.2
noncomputable def kV:Key→V
 |.inl i=>.int i
 |.inr x=>.str x
inductive HO where
 |lst (xs:List V)
 |tup (xs:List V)
 |dK (kvs:List (Key×V))|dT (kvs:List (List Key×V))
 |set (S:Int→Bool) (n:Nat)
 |ins (C dx:Addr) (fs:List (Str×V))
 |own (x:Addr)
 |xd (fs:List (Str×V))
 |met (f x:Addr)
 |kf (lo hi:Int)
 |frz (o:Obj) (u:HO)
 |gg (ps:Array Value)
 |ext (φ:Heap→Prop)
noncomputable abbrev Hp:=Addr→Option HO
noncomputable def upd(H:Hp)(a:Addr)(o:HO):Hp:=fun b=>if b=a then some o else H b
theorem aV{H:Hp}{a:Addr}{o:HO}:upd H a o a=some o:=by unfold upd;rw[if_pos rfl]
theorem az{H:Hp}{a b:Addr}{o:HO}(h:b≠a):upd H a o b=H b:=by unfold upd;rw[if_neg h]
theorem om{H:Hp}{a:Addr}{o u:HO}:upd (upd H a o) a u=upd H a u:=by
 funext b;unfold upd;split<;>rfl
theorem v8{H:Hp}{a b:Addr}{o u:HO}(h:H a=some o)(h':H b=some u)(d:o≠u):a≠b:=by
 intro e;subst e;rw[h]at h';exact d (Option.some.inj h')
theorem en{H:Hp}{a b:Addr}{o:HO}(h:H a=some o)(h':H b=none):a≠b:=by
 intro e;subst e;rw[h]at h';cases h'
section
variable(P:Program)(w:World)
noncomputable def bM(H:Hp)(h:Heap)(a:Addr):HO→Prop
 |.lst xs=>xs.length≤sizeLine∧∃(its:List Value) (n:Nat),Vals xs its∧h.get? a=some {cls:=.type "list",data:=.seq its.toArray n}
 |.tup xs=>xs.length≤sizeLine∧∃its:List Value,Vals xs its∧IsTup h a its.toArray
 |.dK kvs=>kvs.length≤sizeLine∧(a==sysModules)=false∧∃vs,KV kvs vs∧h.DictOf (bA P w) a vs
 |.dT kvs=>kvs.length≤sizeLine∧(a==sysModules)=false∧∃xs:List (List Key×Addr×Value),
     Paired (fun(p:List Key×V) (q:List Key×Addr×Value)=>p.1=q.1∧H q.2.1=some (.tup (p.1.map kV))∧RelV p.2 q.2.2) kvs xs∧
     ∃o es ep,h.get? a=some o∧o.ExactDict∧o.data=.dict es ep∧es.toList=xs.map (entryOfKey (tupleKind (bA P w)))∧(xs.map (·.1)).Nodup
 |.set S n=>h.SetOf (intKind P w) a S n
 |.ins C dx fs=>H dx=some (.own a)∧fs.length≤1000∧dx≠a∧h.get? a=some (PySem.W.instObj C dx)∧
     ∃mA,h.Ns1 dx mA∧(∀f,cR (fs.lookup f) (mA f))∧PySem.Within mA (fs.map (·.1))
 |.own _=>∃o,h.get? a=some o
 |.xd fs=>∃mA,h.Ns1 a mA∧∀f,cR (fs.lookup f) (mA f)
 |.kf lo hi=>∃t u v,h.get? a=some {cls:=.type "range",data:=.fields #[.int lo t,.int hi u,.int 1 v]}
 |.frz o u=>h.get? a=some o∧bM H h a u
 |.gg ps=>h.get? a=some {cls:=.none,data:=.fields ps}
 |.met f x=>h.get? a=some (PySem.W.methodObj (.ref f) (.ref x))
 |.ext φ=>φ h∧(∃o,h.get? a=some o)∧∀h1 h2:Heap,φ h1→(∀o,h1.get? a=some o→h2.get? a=some o)→φ h2
noncomputable def ba(H:Hp)(h:Heap):Prop:=∀a o,H a=some o→bM P w H h a o
end
section
variable{P:Program}{w:World}{H H':Hp}{h h':Heap}{a:Addr}{o:HO}
theorem bM.lt(x:bM P w H h a o):a<h.objs.size:=by
 cases o with
 |lst xs=>obtain⟨_,_,_,_,e⟩:=x;exact Heap.lt_size e
 |tup xs=>obtain⟨_,_,_,p⟩:=x;exact p.lt
 |dK kvs=>obtain⟨_,_,_,_,o,_,_,e,_⟩:=x;exact Heap.lt_size e
 |dT kvs=>obtain⟨_,_,_,_,o,_,_,e,_⟩:=x;exact Heap.lt_size e
 |set S n=>obtain⟨o,_,_,_,e,_⟩:=x;exact Heap.lt_size e
 |ins C dx fs=>obtain⟨_,_,_,e,_⟩:=x;exact Heap.lt_size e
 |own y=>obtain⟨_,e⟩:=x;exact Heap.lt_size e
 |xd fs=>obtain⟨_,⟨_,_,_,e,_⟩,_⟩:=x;exact Heap.lt_size e
 |kf lo hi=>obtain⟨_,_,_,e⟩:=x;exact Heap.lt_size e
 |frz ob u=>obtain⟨e,_⟩:=x;exact Heap.lt_size e
 |gg ps=>exact Heap.lt_size (show h.get? a=some _ from x)
 |met f y=>exact Heap.lt_size (show h.get? a=some _ from x)
 |ext φ=>obtain⟨_,⟨_,e⟩,_⟩:=x;exact Heap.lt_size e
theorem Paired.nI{α β:Type}{F G:α→β→Prop}:∀ {l₁:List α} {l₂:List β},Paired F l₁ l₂→(∀a b,F a b→G a b)→Paired G l₁ l₂
 |_,_,.nil,_=>.nil
 |_,_,.cons r t,f=>.cons (f _ _ r) (Paired.nI t f)
theorem bM.fI(x:bM P w H h a o)(k:∀b u,(b=a∨H b=some (.own a))→h.get? b=some u→h'.get? b=some u)
   (ho:∀b,H b=some (.own a)→H' b=some (.own a)) (ht:∀b xs,H b=some (.tup xs)→H' b=some (.tup xs)):bM P w H' h' a o:=by
 induction o with
 |lst xs=>obtain⟨z,its,n,r,e⟩:=x;exact⟨z,its,n,r,k _ _ (.inl rfl) e⟩
 |tup xs=>obtain⟨z,its,r,ob,e,c⟩:=x;exact⟨z,its,r,ob,k _ _ (.inl rfl) e,c⟩
 |dK kvs=>obtain⟨z,y,vs,r,ob,es,ep,e,c⟩:=x;exact⟨z,y,vs,r,ob,es,ep,k _ _ (.inl rfl) e,c⟩
 | dT kvs=>
   obtain⟨z,y,xs,r,ob,es,ep,e,c⟩:=x
   exact⟨z,y,xs,Paired.nI r fun p q z=>⟨z.1,ht _ _ z.2.1,z.2.2⟩,ob,es,ep,k _ _ (.inl rfl) e,c⟩
 |set S n=>obtain⟨ob,es,ep,t,e,c⟩:=x;exact⟨ob,es,ep,t,k _ _ (.inl rfl) e,c⟩
 | ins C dx fs=>
   obtain⟨d,z,ne,e,mA,⟨od,es,ep,e2,c⟩,r⟩:=x
   exact⟨ho _ d,z,ne,k _ _ (.inl rfl) e,mA,⟨od,es,ep,k _ _ (.inr d) e2,c⟩,r⟩
 |own y=>obtain⟨ob,e⟩:=x;exact⟨ob,k _ _ (.inl rfl) e⟩
 |xd fs=>obtain⟨mA,⟨od,es,ep,e,c⟩,r⟩:=x;exact⟨mA,⟨od,es,ep,k _ _ (.inl rfl) e,c⟩,r⟩
 |kf lo hi=>obtain⟨t,u,v,e⟩:=x;exact⟨t,u,v,k _ _ (.inl rfl) e⟩
 |frz ob u ih=>obtain⟨e,q⟩:=x;exact⟨k _ _ (.inl rfl) e,ih q⟩
 | gg ps=>
   have e:h.get? a=some {cls:=.none,data:=.fields ps}:=x
   show h'.get? a=some {cls:=.none,data:=.fields ps}
   exact k a _ (.inl rfl) e
 | met f y=>
   have e:h.get? a=some (PySem.W.methodObj (.ref f) (.ref y)):=x
   show h'.get? a=some (PySem.W.methodObj (.ref f) (.ref y))
   exact k a _ (.inl rfl) e
 |ext φ=>obtain⟨p,⟨o,e⟩,st⟩:=x;exact⟨st _ _ p fun o q=>k _ _ (.inl rfl) q,⟨o,k _ _ (.inl rfl) e⟩,st⟩
theorem ba.lt(x:ba P w H h)(e:H a=some o):a<h.objs.size:=(x a o e).lt
theorem ba.fresh(x:ba P w H h)(e:h.objs.size≤a):H a=none:=by
 cases q:H a with
 |none=>rfl
 |some u=>exact absurd (Nat.lt_of_lt_of_le (x.lt q) e) (Nat.lt_irrefl _)
theorem ba.kept(x:ba P w H h)(k:∀b u,h.get? b=some u→h'.get? b=some u):ba P w H h':=fun a o e=>
 (x a o e).fI (fun b u _ q=>k b u q) (fun _ q=>q) fun _ _ q=>q
theorem ba.laid(x:ba P w H h)(k:∀b u,h.get? b=some u→h'.get? b=some u)(hp:h.objs.size≤a)(new:bM P w (upd H a o) h' a o):ba P w (upd H a o) h':=fun b u e=>by
 have hn:=x.fresh hp
 by_cases hb:b=a
 ·subst hb;rw[aV]at e;cases e;exact new
 · rw[az hb]at e
   exact(x b u e).fI (fun c v _ q=>k c v q) (fun c q=>by rw[az (en q hn)];exact q) fun c xs q=>by rw[az (en q hn)];exact q
end
noncomputable def Rd(H:Hp)(a:Addr)(u:HO):Prop:=H a=some u∨∃o,H a=some (.frz o u)
theorem Rd.of{H:Hp}{a:Addr}{u:HO}(h:H a=some u):Rd H a u:=.inl h
theorem Rd.ok{P:Program}{w:World}{H:Hp}{h:Heap}{a:Addr}{u:HO}(r:Rd H a u)(x:ba P w H h):bM P w H h a u:=by
 rcases r with r|⟨o,r⟩
 ·exact x a u r
 · obtain⟨_,q⟩:=x a _ r
   exact q
noncomputable def j0:Option HO→Prop
 |some (.lst _)=>True
 |some (.dK _)=>True
 |some (.dT _)=>True
 |some (.set _ _)=>True
 |some (.ins _ _ _)=>True
 |some (.ext _)=>True
 |_=>False
section
variable{P:Program}{w:World}{H:Hp}{h h':Heap}{x e:Addr}{o':HO}
theorem ba.write(ok:ba P w H h)(mu:j0 (H x))(he:e=x∨H e=some (.own x))(k:∀b u,b≠e→h.get? b=some u→h'.get? b=some u)(heo:∃u,h'.get? e=some u)
   (new:bM P w (upd H x o') h' x o'):ba P w (upd H x o') h':=fun b u q=>by
 have nown:∀c y,H c=some (.own y)→c≠x:=fun c y r z=>by subst z;rw[r]at mu;exact mu
 have ntup:∀c xs,H c=some (.tup xs)→c≠x:=fun c xs r z=>by subst z;rw[r]at mu;exact mu
 by_cases hb:b=x
 ·subst hb;rw[aV]at q;cases q;exact new
 · rw[az hb]at q
   by_cases hbe:b=e
   · have q':H b=some (.own x):=by
       rcases he with z|z
       ·exact absurd (hbe.trans z) hb
       ·rw[hbe];exact z
     rw[q]at q';cases q'
     obtain⟨v,hv⟩:=heo
     exact⟨v,by rw[hbe];exact hv⟩
   · refine(ok b u q).fI (fun c v hc r=>k c v ?_ r) (fun c r=>by rw[az (nown c b r)];exact r) fun c xs r=>by rw[az (ntup c xs r)];exact r
     rcases hc with rfl|hc
     ·exact hbe
     · rintro rfl
       rcases he with z|z
       ·exact nown c b hc z
       ·rw[hc]at z;cases z;exact hb rfl
end
structure Un(fs ex:List Addr)(H H':Hp)(h h':Heap):Prop where
 keep:∀b o,h.get? b=some o→H b=none→b∉fs→b∉ex→h'.get? b=some o
 slot:∀b o,h.get? b=some o→H b=none→b∈fs→b∉ex→∃sl,h'.get? b=some {o with slots:=sl}
 free:∀b o,h.get? b=some o→H b=none→b∉ex→H' b=none
 there:∀b o,h.get? b=some o→b∉ex→∃o',h'.get? b=some o'
 cU:∀b xs,H b=some (.tup xs)→H' b=some (.tup xs)
 cJ:∀b o u,H b=some (.frz o u)→H' b=some (.frz o u)
 dh:∀b ps,H b=some (.gg ps)→∃more,H' b=some (.gg (ps++more))
section
variable{fs fs' ex ex':List Addr}{H H1 H2:Hp}{h h1 h2 h':Heap}{a x e:Addr}{o:HO}
theorem Un.any(u:Un fs ex H H1 h h1){b:Addr}{ob:Obj}(q:h.get? b=some ob)(n:H b=none)(hx:b∉ex):∃sl,h1.get? b=some {ob with slots:=sl}:=by
 by_cases hb:b∈fs
 ·exact u.slot b ob q n hb hx
 ·exact⟨ob.slots,u.keep b ob q n hb hx⟩
theorem Un.trans(a:Un fs ex H H1 h h1)(b:Un fs ex H1 H2 h1 h2):Un fs ex H H2 h h2 where
 keep:=fun c ob q n hc hx=>b.keep c ob (a.keep c ob q n hc hx) (a.free c ob q n hx) hc hx
 slot:=fun c ob q n hc hx=>by
   obtain⟨sl,e1⟩:=a.slot c ob q n hc hx
   obtain⟨sl',e2⟩:=b.slot c _ e1 (a.free c ob q n hx) hc hx
   exact⟨sl',e2⟩
 free:=fun c ob q n hx=>by
   obtain⟨o',e1⟩:=a.there c ob q hx
   exact b.free c o' e1 (a.free c ob q n hx) hx
 there:=fun c ob q hx=>by
   obtain⟨o',e1⟩:=a.there c ob q hx
   exact b.there c o' e1 hx
 cU:=fun c xs q=>b.cU c xs (a.cU c xs q)
 cJ:=fun c ob xs q=>b.cJ c ob xs (a.cJ c ob xs q)
 dh:=fun c ps q=>by
   obtain⟨m1,e1⟩:=a.dh c ps q
   obtain⟨m2,e2⟩:=b.dh c _ e1
   exact⟨m1++m2,by rw[e2,Array.append_assoc]⟩
theorem Un.kept(k:∀b u,h.get? b=some u→h'.get? b=some u):Un fs ex H H h h':=
 ⟨fun b ob q _ _ _=>k b ob q,fun b ob q _ _ _=>⟨ob.slots,k b ob q⟩,fun _ _ _ n _=>n,fun b ob q _=>⟨ob,k b ob q⟩,fun _ _ q=>q,fun _ _ _ q=>q,fun _ ps q=>⟨#[],by rw[q];simp⟩⟩
theorem Un.refl:Un fs ex H H h h:=Un.kept fun _ _ q=>q
theorem Un.laid(k:∀b u,h.get? b=some u→h'.get? b=some u)(hp:h.objs.size≤a)(hn:H a=none):Un fs ex H (upd H a o) h h' where
 keep:=fun b u q _ _ _=>k b u q
 slot:=fun b u q _ _ _=>⟨u.slots,k b u q⟩
 free:=fun b u q n _=>by rw[az (Nat.ne_of_lt (Nat.lt_of_lt_of_le (Heap.lt_size q) hp))];exact n
 there:=fun b u q _=>⟨u,k b u q⟩
 cU:=fun b xs q=>by rw[az (en q hn)];exact q
 cJ:=fun b u xs q=>by rw[az (en q hn)];exact q
 dh:=fun b ps q=>⟨#[],by rw[az (en q hn),q];simp⟩
theorem Un.write(mu:j0 (H x))(he:e=x∨H e=some (.own x))(k:∀b u,b≠e→h.get? b=some u→h'.get? b=some u)(heo:∃u,h'.get? e=some u):Un fs ex H (upd H x o) h h':=by
 have hx:∀b,H b=none→b≠x:=fun b n z=>by subst z;rw[n]at mu;exact mu
 have hb:∀b,H b=none→b≠e:=fun b n z=>by
   subst z
   rcases he with r|r
   ·exact hx b n r
   ·rw[n]at r;cases r
 have hm:∀b u,H b=some u→¬j0 (some u)→b≠x:=fun b u q nm z=>by subst z;rw[q]at mu;exact nm mu
 refine⟨fun b u q n _ _=>k b u (hb b n) q,fun b u q n _ _=>⟨u.slots,k b u (hb b n) q⟩,fun b u q n _=>by rw[az (hx b n)];exact n,fun b u q _=>?_,
   fun b xs q=>by rw[az (hm b _ q fun z=>z)];exact q,fun b u xs q=>by rw[az (hm b _ q fun z=>z)];exact q,fun b ps q=>⟨#[],by rw[az (hm b _ q fun z=>z),q];simp⟩⟩
 by_cases hbe:b=e
 ·subst hbe;exact heo
 ·exact⟨u,k b u hbe q⟩
theorem Un.mono(u:Un fs ex H H1 h h1)(hs:∀b∈fs,b∈fs')(hx:∀b∈ex,b∈ex'):Un fs' ex' H H1 h h1:=
 ⟨fun b ob q n hb he=>u.keep b ob q n (fun z=>hb (hs b z)) fun z=>he (hx b z),fun _ _ q n _ he=>u.any q n fun z=>he (hx _ z),fun b ob q n he=>u.free b ob q n fun z=>he (hx b z),fun b ob q he=>u.there b ob q fun z=>he (hx b z),u.cU,u.cJ,u.dh⟩
end
noncomputable def aK(h:Heap)(H:Hp):List Addr:=(List.range h.objs.size).filter fun a=>(H a).isSome
noncomputable def fL(h:Heap)(H:Hp):Heap:=PySem.W.hideAll h (aK h H)
theorem xK(h:Heap)(H:Hp):(fL h H).objs.size=h.objs.size:=PySem.W.hideAll_size _ _
theorem zi{h:Heap}{H:Hp}{b:Addr}{o:Obj}(e:h.get? b=some o)(n:H b=none):(fL h H).get? b=some o:=
 PySem.W.hideAll_get _ e fun hm=>by
   have q:(H b).isSome=true:=(List.mem_filter.mp hm).2
   rw[n]at q;simp at q
theorem zH{h:Heap}{H:Hp}{b:Addr}{o:Obj}(e:(fL h H).get? b=some o):h.get? b=some o∧H b=none:=by
 have e':h.get? b=some o:=PySem.W.of_hideAll (aK h H) e
 refine⟨e',?_⟩
 cases q:H b with
 |none=>rfl
 | some x=>
   have hm:b∈aK h H:=List.mem_filter.mpr ⟨List.mem_range.mpr (Heap.lt_size e'),by simp[q]⟩
   have z:(fL h H).get? b=none:=PySem.W.hideAll_none (aK h H) hm
   rw[z]at e;cases e
noncomputable def xG(g h:Heap)(L:Addr):List (Addr×Obj):=(List.range h.objs.size).filterMap fun a=>if a=L∨(g.get? a).isSome=true then none else(h.get? a).map fun o=>(a,o)
noncomputable def rest(g h:Heap)(L d:Addr):List (Addr×Obj):=(xG g h L).filter fun p=>decide (p.1≠d)
end L2
namespace L2
open PySem PySem.Spec PyProof.Rows
structure Mod(K:PySem.W.Frag)(mg:Str→Option Value)(base:Heap):Prop where
 kM:K.In base
 glob:base.Ns mainGlobals mg
 blt:∃mb,base.Ns builtinsNs mb∧∀x:Str,x≠"__name__"→mb x=bootBuiltins x
 nolimit:base.NoLimit
structure Cx where
 prog:Program
 w:World
 K:PySem.W.Frag
 mg:Str→Option Value
 base:Heap
 A:Around
 N:List Str
 bN:Shared
 eV:Hp
 env:Env
 outer:List Env
 stack:List Env
 ex:List Addr
 fn:Str→Bool
 calm:Bool
 pn:List (Addr×Obj)
 xe:Value→Shared→Prop
noncomputable def bX(l:List Env):List Addr:=l.filterMap (·.frame)
noncomputable abbrev Cx.fs(X:Cx):List Addr:=bX X.outer
noncomputable def cg(sc:Scope)(x:Str):Prop:=sc.names.lookup x=some .local∨sc.names.lookup x=some .cell∨sc.names.lookup x=some .free
noncomputable def Loc(sc:Scope)(x:Str):Prop:=sc.names.lookup x=some .local∨sc.names.lookup x=some .cell
noncomputable def Look(env:Env)(h:Heap)(m:Str→Option Value)(x:Str)(u:Value):Prop:=
 (env.kindOf x=some .local∧m x=some u)∨((env.kindOf x=some .cell∨env.kindOf x=some .free)∧∃c,env.cells.lookup x=some c∧h.IsCell c (some u))
structure Cx.Ok(X:Cx):Prop where
 mod:Mod X.K X.mg X.base
 kind:X.env.scope.kind=.function
 glob:X.env.globals=mainGlobals
 blt:X.env.builtins=builtinsNs
 above:X.bN.heap.objs.size≤X.env.locals
 inj:∀x y c,X.env.cells.lookup x=some c→X.env.cells.lookup y=some c→x=y
 has:∀x,(X.env.kindOf x=some .cell∨X.env.kindOf x=some .free)→∃c,X.env.cells.lookup x=some c
 i8:∀x c,X.fn x=true→X.env.cells.lookup x=some c→X.bN.heap.objs.size≤c
 hd:X.calm=true→X.A.handled=none
 frames:X.A.frames=some X.stack
 lT:X.stack=X.outer∨(X.stack=X.env::X.outer∧X.env.frame=some X.env.locals)
 qv:∀b∈X.ex,b≠X.env.locals∧∀x c,X.env.cells.lookup x=some c→c≠b
 bs:∀b o,X.base.get? b=some o→X.bN.heap.get? b=some o∧X.eV b=none
 fj:X.base.objs.size≤X.bN.heap.objs.size
 kb:∀b o,X.base.get? b=some o→b∉X.ex
 ki:∀b∈X.ex,b∉X.fs
 dG:X.bN.heap.FunFrames X.base X.outer
 gS:∀b∈X.fs,X.eV b=none
structure Inv(X:Cx)(pins:List (Addr×Obj))(σ:List (Option V))(H:Hp)(s:Shared):Prop where
 ok:X.Ok
 os:s.os=X.bN.os
 bare:AllBare s.gens
 base:Un X.fs X.ex X.eV H X.bN.heap s.heap
 loc:∃m,s.heap.Ns X.env.locals m∧∀(i:Nat) (x:Str) (v:V),X.N[i]? =some x→σ[i]? =some (some v)→cg X.env.scope x→∃u,RelV v u∧Look X.env s.heap m x u
 cell:∀x c,X.env.cells.lookup x=some c→∃v,s.heap.IsCell c v
 free:H X.env.locals=none
 d8:∀x c,X.env.cells.lookup x=some c→H c=none
 pin:∀p∈X.pn++pins,s.heap.get? p.1=some p.2∧H p.1=none∧p.1≠X.env.locals∧p.1∉X.fs∧∀v,p.2.data≠.cell v
 aB:ba X.prog X.w H s.heap
 len:σ.length=X.N.length
section
variable{X:Cx}{pins:List (Addr×Obj)}{σ:List (Option V)}{H H':Hp}{s:Shared}{h':Heap}
theorem Cx.Ok.By(ok:X.Ok){b:Addr}{o:Obj}(e:X.base.get? b=some o):b∉X.fs:=fun hb=>by
 have:=(ok.dG.mem hb).1
 rw[e]at this;cases this
theorem Inv.bs(I:Inv X pins σ H s):∀b o,X.base.get? b=some o→s.heap.get? b=some o∧H b=none:=fun b o e=>
 ⟨I.base.keep b o (I.ok.bs b o e).1 (I.ok.bs b o e).2 (I.ok.By e) (I.ok.kb b o e),I.base.free b o (I.ok.bs b o e).1 (I.ok.bs b o e).2 (I.ok.kb b o e)⟩
theorem Inv.bk(I:Inv X pins σ H s):∀b o,X.base.get? b=some o→s.heap.get? b=some o:=fun b o e=>(I.bs b o e).1
theorem Inv.mod(I:Inv X pins σ H s):Mod X.K X.mg X.base:=I.ok.mod
theorem Inv.bI(I:Inv X pins σ H s):X.K.In s.heap:=I.ok.mod.kM.keeps I.bk
theorem Inv.nolimit(I:Inv X pins σ H s):s.heap.NoLimit:=I.ok.mod.nolimit.keeps I.bk
theorem Inv.lt(I:Inv X pins σ H s):X.env.locals<s.heap.objs.size:=let⟨_,hn,_⟩:=I.loc;hn.lt
theorem Inv.sz(I:Inv X pins σ H s):X.bN.heap.objs.size≤s.heap.objs.size:=Nat.le_trans I.ok.above (Nat.le_of_lt I.lt)
theorem Inv.x4(I:Inv X pins σ H s){a:Addr}(h:s.heap.objs.size≤a):a∉X.fs:=fun hb=>by
 obtain⟨_,o,ho,_⟩:=I.ok.dG.mem hb
 exact absurd (Nat.lt_of_lt_of_le (Heap.lt_size ho) (Nat.le_trans I.sz h)) (Nat.lt_irrefl _)
theorem Inv.eI(I:Inv X pins σ H s):∀x c,X.env.cells.lookup x=some c→c≠X.env.locals:=fun x c e z=>by
 obtain⟨v,o,ho,hd⟩:=I.cell x c e
 obtain⟨m,⟨o',es,ep,ho',hd',_⟩,_⟩:=I.loc
 rw[z,ho']at ho;cases ho;rw[hd']at hd;cases hd
theorem Inv.dG(I:Inv X pins σ H s):s.heap.FunFrames X.base X.outer:=by
 have all:∀(l:List Env),(∀b∈bX l,b∈X.fs)→X.bN.heap.FunFrames X.base l→s.heap.FunFrames X.base l:=by
   intro l
   induction l with
   |nil=>intro _ _;trivial
   | cons env r ih=>
     intro hs hl
     obtain⟨hk,⟨L,o,hf,hn,ho,hd⟩,hr⟩:=hl
     have hL:L∈X.fs:=hs L (by unfold bX;rw[List.filterMap_cons,hf];exact List.mem_cons_self)
     obtain⟨sl,e⟩:=I.base.slot L o ho (I.ok.gS L hL) hL fun z=>I.ok.ki L z hL
     exact⟨hk,⟨L,_,hf,hn,e,hd⟩,ih (fun b hb=>hs b (by unfold bX;rw[List.filterMap_cons,hf];exact List.mem_cons_of_mem _ hb)) hr⟩
 exact all X.outer (fun _ hb=>hb) I.ok.dG
theorem Inv.stack(I:Inv X pins σ H s):s.heap.FunFrames X.base X.stack:=by
 rcases I.ok.lT with e|⟨e,hf⟩
 ·rw[e];exact I.dG
 · rw[e]
   obtain⟨m,hn,_⟩:=I.loc
   refine .cons (by rw[I.ok.kind];decide) hf hn ?_ I.dG
   exact Heap.get?_none_of_le (Nat.le_trans I.ok.fj I.ok.above)
theorem Inv.ly(I:Inv X pins σ H s):∀b∈bX X.stack,b∈X.env.locals::X.fs:=fun b hb=>by
 rcases I.ok.lT with e|⟨e,hf⟩
 ·rw[e]at hb;exact List.mem_cons_of_mem _ hb
 · rw[e]at hb
   unfold bX at hb
   rw[List.filterMap_cons,hf]at hb
   exact hb
theorem Inv.sL(I:Inv X pins σ H s):∀b∈bX X.stack,H b=none:=fun b hb=>by
 rcases List.mem_cons.mp (I.ly b hb)with e|hb
 ·rw[e];exact I.free
 · obtain⟨_,o,ho,_⟩:=I.ok.dG.mem hb
   exact I.base.free b o ho (I.ok.gS b hb) fun z=>I.ok.ki b z hb
theorem Inv.step{g':Array GenState}{t':Nat}{d':Drawn}{ch:List Addr}(I:Inv X pins σ H s)
   (hch:∀b∈ch,(b∈X.ex∨X.bN.heap.objs.size≤b)∧b≠X.env.locals∧(∀x c,X.env.cells.lookup x=some c→c≠b)∧∀p∈X.pn++pins,p.1≠b)
   (keep:∀b o,b≠X.env.locals→b∉X.fs→b∉ch→s.heap.get? b=some o→H b=none→h'.get? b=some o)
   (slot:∀b o,b≠X.env.locals→b∈X.fs→b∉ch→s.heap.get? b=some o→H b=none→∃sl,h'.get? b=some {o with slots:=sl}) (free:∀b o,b∉ch→s.heap.get? b=some o→H b=none→H' b=none)
   (there:∀b o,b∉ch→s.heap.get? b=some o→∃o',h'.get? b=some o')
   (cU:∀b xs,H b=some (.tup xs)→H' b=some (.tup xs)) (cJ:∀b o u,H b=some (.frz o u)→H' b=some (.frz o u)) (dh:∀b ps,H b=some (.gg ps)→∃more,H' b=some (.gg (ps++more)))
   (ns:∀m,s.heap.Ns X.env.locals m→h'.Ns X.env.locals m) (aB:ba X.prog X.w H' h') (hg:AllBare g'):
   Inv X pins σ H' {s with heap:=h',gens:=g',drawn:=d',toks:=t'}:=by
 have neL:∀b o,X.bN.heap.get? b=some o→b≠X.env.locals:=fun b o e=>Nat.ne_of_lt (Nat.lt_of_lt_of_le (Heap.lt_size e) I.ok.above)
 have neC:∀b o,X.bN.heap.get? b=some o→b∉X.ex→b∉ch:=fun b o e hx hb=>by
   rcases(hch b hb).1 with z|z
   ·exact hx z
   ·exact absurd (Nat.lt_of_lt_of_le (Heap.lt_size e) z) (Nat.lt_irrefl _)
 have cellK:∀x c,X.env.cells.lookup x=some c→∀v,s.heap.IsCell c v→h'.IsCell c v:=fun x c e v ⟨o,ho,hd⟩=>by
   have nch:c∉ch:=fun z=>(hch c z).2.2.1 x c e rfl
   by_cases hc:c∈X.fs
   · obtain⟨sl,q⟩:=slot c o (I.eI x c e) hc nch ho (I.d8 x c e)
     exact⟨_,q,hd⟩
   ·exact⟨o,keep c o (I.eI x c e) hc nch ho (I.d8 x c e),hd⟩
 refine⟨I.ok,I.os,hg,⟨fun b o e n hb hx=>?_,fun b o e n hb hx=>?_,fun b o e n hx=>?_,fun b o e hx=>?_,fun b xs e=>cU b xs (I.base.cU b xs e),fun b o xs e=>cJ b o xs (I.base.cJ b o xs e),fun b ps e=>?_⟩,?_,fun x c e=>?_,?_,fun x c e=>?_,fun p hp=>?_,aB,I.len⟩
 ·exact keep b o (neL b o e) hb (neC b o e hx) (I.base.keep b o e n hb hx) (I.base.free b o e n hx)
 · obtain⟨sl,e1⟩:=I.base.slot b o e n hb hx
   obtain⟨sl',e2⟩:=slot b _ (neL b o e) hb (neC b o e hx) e1 (I.base.free b o e n hx)
   exact⟨sl',e2⟩
 · obtain⟨o',e1⟩:=I.base.there b o e hx
   exact free b o' (neC b o e hx) e1 (I.base.free b o e n hx)
 · obtain⟨o',e1⟩:=I.base.there b o e hx
   exact there b o' (neC b o e hx) e1
 · obtain⟨m1,e1⟩:=I.base.dh b ps e
   obtain⟨m2,e2⟩:=dh b _ e1
   exact⟨m1++m2,by rw[e2,Array.append_assoc]⟩
 · obtain⟨m,hn,hl⟩:=I.loc
   refine⟨m,ns m hn,fun i x v e1 e2 e3=>?_⟩
   obtain⟨u,r,l⟩:=hl i x v e1 e2 e3
   refine⟨u,r,?_⟩
   rcases l with l|⟨k,c,e,z⟩
   ·exact .inl l
   ·exact .inr ⟨k,c,e,cellK x c e _ z⟩
 · obtain⟨v,z⟩:=I.cell x c e
   exact⟨v,cellK x c e v z⟩
 · obtain⟨m,⟨o,_,_,ho,_⟩,_⟩:=I.loc
   exact free _ o (fun z=>(hch _ z).2.1 rfl) ho I.free
 · obtain⟨v,o,ho,hd⟩:=I.cell x c e
   exact free c o (fun z=>(hch c z).2.2.1 x c e rfl) ho (I.d8 x c e)
 · obtain⟨e,n,ne,nf,d⟩:=I.pin p hp
   have nch:p.1∉ch:=fun z=>(hch p.1 z).2.2.2 p hp rfl
   exact⟨keep p.1 p.2 ne nf nch e n,free p.1 p.2 nch e n,ne,nf,d⟩
theorem Inv.un{t':Nat}(I:Inv X pins σ H s)(u:Un X.fs [] H H' s.heap h')(aB:ba X.prog X.w H' h'):Inv X pins σ H' {s with heap:=h',toks:=t'}:=by
 obtain⟨m,⟨o,es,ep,ho,r⟩,_⟩:=id I.loc
 obtain⟨sl,hL⟩:=u.any ho I.free (by simp)
 exact I.step (g':=s.gens) (d':=s.drawn) (ch:=[]) (fun _ z=>nomatch z) (fun b o _ hb _ e n=>u.keep b o e n hb (by simp)) (fun b o _ hb _ e n=>u.slot b o e n hb (by simp)) (fun b o _ e n=>u.free b o e n (by simp)) (fun b o _ e=>u.there b o e (by simp)) u.cU u.cJ u.dh (fun m' hm=>by
   obtain⟨o',es',ep',ho',r'⟩:=hm
   rw[ho]at ho';cases ho'
   exact⟨_,es',ep',hL,r'⟩) aB I.bare
theorem Inv.call{g':Array GenState}{t':Nat}{d':Drawn}{ch:List Addr}(I:Inv X pins σ H s)(u:Un (bX X.stack) ch H H' s.heap h')(aB:ba X.prog X.w H' h')(hg:AllBare g')
   (hch:∀b∈ch,(b∈X.ex∨X.bN.heap.objs.size≤b)∧b≠X.env.locals∧(∀x c,X.env.cells.lookup x=some c→c≠b)∧∀p∈X.pn++pins,p.1≠b):
   Inv X pins σ H' {s with heap:=h',gens:=g',drawn:=d',toks:=t'}:=by
 obtain⟨m,⟨o,es,ep,ho,r⟩,_⟩:=id I.loc
 obtain⟨sl,hL⟩:=u.any ho I.free fun z=>(hch _ z).2.1 rfl
 exact I.step (ch:=ch) hch (fun b o hL hb hc e n=>u.keep b o e n (fun z=>(List.mem_cons.mp (I.ly b z)).elim hL hb) hc) (fun b o _ _ hc e n=>u.any e n hc) (fun b o hc e n=>u.free b o e n hc) (fun b o hc e=>u.there b o e hc) u.cU u.cJ u.dh (fun m' hm=>by
   obtain⟨o',es',ep',ho',r'⟩:=hm
   rw[ho]at ho';cases ho'
   exact⟨_,es',ep',hL,r'⟩) aB hg
theorem Inv.turned{t':Nat}{it:Addr}(I:Inv X pins σ H s)(k:∀b o,b≠it→s.heap.get? b=some o→h'.get? b=some o)(hn:H it=none)(hL:it≠X.env.locals)
   (h1:it∈X.ex∨X.bN.heap.objs.size≤it) (h2:∀x c,X.env.cells.lookup x=some c→c≠it) (h3:∀p∈X.pn++pins,p.1≠it):Inv X pins σ H {s with heap:=h',toks:=t'}:=by
 have nit:∀b u,H b=some u→b≠it:=fun b u e z=>by rw[z,hn]at e;cases e
 refine I.step (g':=s.gens) (d':=s.drawn) (ch:=[it]) (fun b hb=>?_) (fun b o _ _ hc e _=>k b o (fun z=>hc (by simp[z])) e) (fun b o _ _ hc e _=>⟨o.slots,k b o (fun z=>hc (by simp[z])) e⟩) (fun _ _ _ _ n=>n)
   (fun b o hc e=>⟨o,k b o (fun z=>hc (by simp[z])) e⟩) (fun _ _ e=>e) (fun _ _ _ e=>e) (fun b ps e=>⟨#[],by rw[e];simp⟩) (fun m hm=>?_) (fun b u e=>?_) I.bare
 · have e:b=it:=by simpa using hb
   subst e
   exact⟨h1,hL,h2,h3⟩
 · obtain⟨o,es,ep,ho,r⟩:=hm
   exact⟨o,es,ep,k _ o (Ne.symm hL) ho,r⟩
 · refine(I.aB b u e).fI (fun c v hc q=>k c v ?_ q) (fun _ q=>q) fun _ _ q=>q
   rcases hc with z|z
   ·rw[z];exact nit b u e
   ·exact nit c _ z
theorem Inv.tok(I:Inv X pins σ H s)(t:Nat):Inv X pins σ H {s with toks:=t}:=I.un (h':=s.heap) (t':=t) Un.refl I.aB
theorem Inv.kept{t':Nat}(I:Inv X pins σ H s)(k:∀b u,s.heap.get? b=some u→h'.get? b=some u):Inv X pins σ H {s with heap:=h',toks:=t'}:=I.un (Un.kept k) (I.aB.kept k)
theorem Inv.laid{a:Addr}{o:HO}{t':Nat}(I:Inv X pins σ H s)(k:∀b u,s.heap.get? b=some u→h'.get? b=some u)(hp:s.heap.objs.size≤a)(new:bM X.prog X.w (upd H a o) h' a o):
   Inv X pins σ (upd H a o) {s with heap:=h',toks:=t'}:=I.un (Un.laid k hp (I.aB.fresh hp)) (I.aB.laid k hp new)
theorem Inv.write{x e:Addr}{o:HO}{t':Nat}(I:Inv X pins σ H s)(mu:j0 (H x))(he:e=x∨H e=some (.own x))(k:∀b u,b≠e→s.heap.get? b=some u→h'.get? b=some u)(heo:∃u,h'.get? e=some u)
   (new:bM X.prog X.w (upd H x o) h' x o):Inv X pins σ (upd H x o) {s with heap:=h',toks:=t'}:=I.un (Un.write mu he k heo) (I.aB.write mu he k heo new)
theorem Inv.qo{pins':List (Addr×Obj)}(I:Inv X pins σ H s)(h:∀p∈pins',s.heap.get? p.1=some p.2∧H p.1=none∧p.1≠X.env.locals∧p.1∉X.fs∧∀v,p.2.data≠.cell v):Inv X pins' σ H s:=
 ⟨I.ok,I.os,I.bare,I.base,I.loc,I.cell,I.free,I.d8,fun p hp=>(List.mem_append.mp hp).elim (fun z=>I.pin p (List.mem_append_left _ z)) (h p),I.aB,I.len⟩
theorem rJ{N:List Str}(hN:N.Nodup){i j:Nat}{x:Str}(a:N[i]? =some x)(b:N[j]? =some x):i=j:=by
 obtain⟨h1,e1⟩:=List.getElem?_eq_some_iff.mp a
 obtain⟨h2,e2⟩:=List.getElem?_eq_some_iff.mp b
 exact(List.getElem_inj hN).mp (e1.trans e2.symm)
theorem Al{M:Model}{A:Around}{E:Value→Shared→Prop}{i:Nat}{x:Str}{v:V}{u:Value}{Q:Unit→Shared→Prop}(I:Inv X pins σ H s)(hN:X.N.Nodup)(hi:X.N[i]? =some x)(hx:Loc X.env.scope x)(r:RelV v u)
   (h:∀s',Inv X pins (σ.set i (some v)) H s'→(∃a,Heap.SameBut a s.heap s'.heap∧(a=X.env.locals∨X.env.cells.lookup x=some a))→Q () s') (hf:X.fn x=true∨X.env.scope.names.lookup x=some .local:=by first|exact .inl rfl|exact .inr rfl|assumption):wpAny M A (storeName X.env x u) Q E s:=by
 obtain⟨m,hn,hl⟩:=id I.loc
 have hcls:(X.env.scope.kind==.class||(X.env.scope.kind==.module&&X.env.locals != X.env.globals))=false:=by rw[I.ok.kind];rfl
 have hiσ:i<σ.length:=by rw[I.len];exact(List.getElem?_eq_some_iff.mp hi).1
 have eI:=I.eI
 have tracked:∀ {a:Addr} {h':Heap},(∃o,s.heap.get? a=some o∧H a=none)→Heap.SameBut a s.heap h'→ba X.prog X.w H h':=fun {a h'} ha hs b ob e=>by
   obtain⟨_,_,hfree⟩:=ha
   refine(I.aB b ob e).fI (fun c w' hc q=>(hs.2 c ?_).trans q) (fun _ q=>q) fun _ _ q=>q
   rintro rfl
   rcases hc with rfl|hc
   ·rw[hfree]at e;cases e
   ·rw[hfree]at hc;cases hc
 rcases hx with hk|hk
 · refine wpAny_storeName_local hk hn (fun h' hn' hs=>?_) hcls
   obtain⟨oL,_,_,hoL,_⟩:=id hn
   refine h _ ⟨I.ok,I.os,I.bare,⟨fun b o e n hb hx=>?_,fun b o e n hb hx=>?_,I.base.free,fun b o e hx=>?_,I.base.cU,I.base.cJ,I.base.dh⟩,⟨_,hn',fun j y v' e1 e2 e3=>?_⟩,fun y c e=>?_,I.free,I.d8,fun p hp=>?_,tracked ⟨oL,hoL,I.free⟩ hs,by simpa using I.len⟩ ⟨_,hs,.inl rfl⟩
   ·exact(hs.2 b (Nat.ne_of_lt (Nat.lt_of_lt_of_le (Heap.lt_size e) I.ok.above))).trans (I.base.keep b o e n hb hx)
   · obtain⟨sl,e1⟩:=I.base.slot b o e n hb hx
     exact⟨sl,(hs.2 b (Nat.ne_of_lt (Nat.lt_of_lt_of_le (Heap.lt_size e) I.ok.above))).trans e1⟩
   · obtain⟨o',e1⟩:=I.base.there b o e hx
     exact⟨o',(hs.2 b (Nat.ne_of_lt (Nat.lt_of_lt_of_le (Heap.lt_size e) I.ok.above))).trans e1⟩
   · by_cases hj:j=i
     · subst hj
       rw[hi]at e1;cases e1
       rw[List.getElem?_set_self hiσ]at e2
       cases e2
       exact⟨u,r,.inl ⟨hk,by simp⟩⟩
     · rw[List.getElem?_set_ne (Ne.symm hj)]at e2
       obtain⟨u',r',q⟩:=hl j y v' e1 e2 e3
       refine⟨u',r',?_⟩
       rcases q with⟨k,e⟩|⟨k,c,e,z⟩
       · refine .inl ⟨k,?_⟩
         have:y≠x:=fun e=>hj (rJ hN e1 (e▸hi))
         simp[this,e]
       ·exact .inr ⟨k,c,e,z.sameBut hs (eI y c e)⟩
   · obtain⟨w',z⟩:=I.cell y c e
     exact⟨w',z.sameBut hs (eI y c e)⟩
   · obtain⟨e,n,ne,nf,d⟩:=I.pin p hp
     exact⟨(hs.2 p.1 ne).trans e,n,ne,nf,d⟩
 · have hfn:X.fn x=true:=by
     rcases hf with z|z
     ·exact z
     ·rw[z]at hk;cases hk
   obtain⟨c,hc⟩:=I.ok.has x (.inl hk)
   obtain⟨w',z⟩:=I.cell x c hc
   refine wpAny_storeName_cell I.ok.kind hk hc z (fun h' hc' hs=>?_)
   obtain⟨oc,hoc,hocd⟩:=id z
   refine h {s with heap:=h'} ⟨I.ok,I.os,I.bare,⟨fun b o e n hb hx=>?_,fun b o e n hb hx=>?_,I.base.free,fun b o e hx=>?_,I.base.cU,I.base.cJ,I.base.dh⟩,⟨m,hn.sameBut hs (Ne.symm (eI x c hc)),fun j y v' e1 e2 e3=>?_⟩,fun y c' e=>?_,I.free,I.d8,fun p hp=>?_,tracked ⟨oc,hoc,I.d8 x c hc⟩ hs,by simpa using I.len⟩ ⟨c,hs,.inr hc⟩
   ·exact(hs.2 b (Nat.ne_of_lt (Nat.lt_of_lt_of_le (Heap.lt_size e) (I.ok.i8 x c hfn hc)))).trans (I.base.keep b o e n hb hx)
   · obtain⟨sl,e1⟩:=I.base.slot b o e n hb hx
     exact⟨sl,(hs.2 b (Nat.ne_of_lt (Nat.lt_of_lt_of_le (Heap.lt_size e) (I.ok.i8 x c hfn hc)))).trans e1⟩
   · obtain⟨o',e1⟩:=I.base.there b o e hx
     exact⟨o',(hs.2 b (Nat.ne_of_lt (Nat.lt_of_lt_of_le (Heap.lt_size e) (I.ok.i8 x c hfn hc)))).trans e1⟩
   · by_cases hj:j=i
     · subst hj
       rw[hi]at e1;cases e1
       rw[List.getElem?_set_self hiσ]at e2
       cases e2
       exact⟨u,r,.inr ⟨.inl hk,c,hc,hc'⟩⟩
     · rw[List.getElem?_set_ne (Ne.symm hj)]at e2
       obtain⟨u',r',q⟩:=hl j y v' e1 e2 e3
       refine⟨u',r',?_⟩
       rcases q with q|⟨k,c',e,z'⟩
       ·exact .inl q
       · refine .inr ⟨k,c',e,z'.sameBut hs ?_⟩
         rintro rfl
         exact hj (rJ hN e1 (I.ok.inj _ _ _ e hc▸hi))
   · by_cases hcc:c'=c
     ·subst hcc;exact⟨_,hc'⟩
     · obtain⟨w2,z2⟩:=I.cell y c' e
       exact⟨w2,z2.sameBut hs hcc⟩
   · obtain⟨e,n,ne,nf,d⟩:=I.pin p hp
     refine⟨(hs.2 p.1 ?_).trans e,n,ne,nf,d⟩
     intro q
     rw[q,hoc]at e
     have q':oc=p.2:=Option.some.inj e
     exact d w' (by rw[←q'];exact hocd)
theorem pf{M:Model}{A:Around}{E:Value→Shared→Prop}{i:Nat}{x:Str}{v:V}{u:Value}{Q:Unit→Shared→Prop}(I:Inv X pins σ H s)(hN:X.N.Nodup)(hi:X.N[i]? =some x)(hx:Loc X.env.scope x)(r:RelV v u)
   (h:∀s',Inv X pins (σ.set i (some v)) H s'→Q () s') (hf:X.fn x=true∨X.env.scope.names.lookup x=some .local:=by first|exact .inl rfl|exact .inr rfl|assumption):wpAny M A (storeName X.env x u) Q E s:=
 Al I hN hi hx r (fun s' I' _=>h s' I') hf
theorem Inv.nG{s':Shared}{ch:List Addr}(I:Inv X pins σ H s)(ho:s'.os=s.os)(u:Un (bX X.stack) ch H H' s.heap s'.heap)(aB:ba X.prog X.w H' s'.heap)(hg:AllBare s'.gens)
   (hch:∀b∈ch,(b∈X.ex∨X.bN.heap.objs.size≤b)∧b≠X.env.locals∧(∀x c,X.env.cells.lookup x=some c→c≠b)∧∀p∈X.pn++pins,p.1≠b):Inv X pins σ H' s':=by
 obtain⟨h',g',d',t',o'⟩:=s'
 have e:o'=s.os:=ho
 subst e
 exact I.call (g':=g') (t':=t') (d':=d') u aB hg hch
end
noncomputable abbrev XK:=Value→Option Addr→Hp→Prop
noncomputable abbrev St:=List (Option V)
noncomputable abbrev VK:=V→Hp→Prop
noncomputable abbrev TE:=St→Hp→VK→Prop
noncomputable abbrev TT:=St→Hp→(Bool→Hp→Prop)→Prop
noncomputable abbrev TA:=St→Hp→(List V→Hp→Prop)→Prop
structure Ends where
 nx:St→Hp→Prop
 rt:VK
 bk:St→Hp→Prop:=fun _ _=>False
 ct:St→Hp→Prop:=fun _ _=>False
noncomputable abbrev TS:=Ends→St→Hp→Prop
noncomputable def EP(X:Cx)(pins:List (Addr×Obj))(σ:St)(Q:VK)(u:Value)(s':Shared):Prop:=∃v H',Inv X pins σ H' s'∧RelV v u∧Q v H'
noncomputable def TP(X:Cx)(pins:List (Addr×Obj))(σ:St)(Q:Bool→Hp→Prop)(b:Bool)(s':Shared):Prop:=∃H',Inv X pins σ H' s'∧Q b H'
noncomputable def AP(X:Cx)(pins:List (Addr×Obj))(σ:St)(Q:List V→Hp→Prop)(us:List Value)(s':Shared):Prop:=∃vs H',Inv X pins σ H' s'∧Vals vs us∧Q vs H'
noncomputable def SP(X:Cx)(pins:List (Addr×Obj))(D:Ends)(f:Flow)(s':Shared):Prop:=
 match f with
 |.next=>∃σ' H',Inv X pins σ' H' s'∧D.nx σ' H'
 |.brk=>∃σ' H',Inv X pins σ' H' s'∧D.bk σ' H'
 |.cont=>∃σ' H',Inv X pins σ' H' s'∧D.ct σ' H'
 |.ret u=>∃v σ' H',Inv X pins σ' H' s'∧RelV v u∧D.rt v H'
noncomputable def PE(X:Cx)(e:Expr)(t:TE):Prop:=
 ∀(pins:List (Addr×Obj)) (s:Shared) (σ:St) (H:Hp) (Q:VK),Inv X pins σ H s→t σ H Q→wpAny (model X.prog X.w) X.A (eval e X.env) (EP X pins σ Q) X.xe s
noncomputable def PT(X:Cx)(e:Expr)(t:TT):Prop:=
 ∀(pins:List (Addr×Obj)) (s:Shared) (σ:St) (H:Hp) (Q:Bool→Hp→Prop),Inv X pins σ H s→t σ H Q→wpAny (model X.prog X.w) X.A (isTrue e X.env (eval e X.env)) (TP X pins σ Q) X.xe s
noncomputable def PW(X:Cx)(e:Expr)(t:TT):Prop:=
 ∀(whole:Sem Value) (pins:List (Addr×Obj)) (s:Shared) (σ:St) (H:Hp) (Q:Bool→Hp→Prop),Inv X pins σ H s→t σ H Q→wpAny (model X.prog X.w) X.A (isTrue e X.env whole) (TP X pins σ Q) X.xe s
theorem PW.pt{X:Cx}{e:Expr}{t:TT}(h:PW X e t):PT X e t:=h _
noncomputable def PA(X:Cx)(es:List Expr)(t:TA):Prop:=
 ∀(pos:Pos) (pins:List (Addr×Obj)) (s:Shared) (σ:St) (H:Hp) (Q:List V→Hp→Prop),Inv X pins σ H s→t σ H Q→wpAny (model X.prog X.w) X.A (spliced (backTo pos (starEach es X.env))) (AP X pins σ Q) X.xe s
noncomputable def PS(X:Cx)(st:Stmt)(t:TS):Prop:=
 ∀(pins:List (Addr×Obj)) (s:Shared) (σ:St) (H:Hp) (D:Ends),Inv X pins σ H s→t D σ H→wpAny (model X.prog X.w) X.A (exec st X.env) (SP X pins D) X.xe s
noncomputable def bz(X:Cx)(st:List Stmt)(t:TS):Prop:=
 ∀(pins:List (Addr×Obj)) (s:Shared) (σ:St) (H:Hp) (D:Ends),Inv X pins σ H s→t D σ H→wpAny (model X.prog X.w) X.A (execs st X.env) (SP X pins D) X.xe s
theorem aD{α:Type}{t:Sem α}{Q Q':α→Shared→Prop}{M:Model}{A:Around}{E:Value→Shared→Prop}{s:Shared}(h:wpAny M A t Q E s)(hQ:∀a s,Q a s→Q' a s):wpAny M A t Q' E s:=wpAny_mono h hQ fun _ _ x=>x
end L2
namespace L2
open PySem PySem.Spec PyProof.Rows
section
variable{X:Cx}
theorem bin{a b:Expr}{ta tb:TE}(ha:PE X a ta)(hb:PE X b tb){pins:List (Addr×Obj)}{s:Shared}{σ:St}{H:Hp}{R:V→V→Hp→Prop}(I:Inv X pins σ H s)(h:ta σ H fun x H1=>tb σ H1 fun y H2=>R x y H2)
   {α:Type} {Q:α→Shared→Prop} {f:Value→Value→Sem α}
   (hf:∀v u s2 x y H2,Inv X pins σ H2 s2→RelV x v→RelV y u→R x y H2→wpAny (model X.prog X.w) X.A (f v u) Q X.xe s2):
   wpAny (model X.prog X.w) X.A (eval a X.env) (fun v s₁=>wpAny (model X.prog X.w) X.A (eval b X.env) (fun u s₂=>wpAny (model X.prog X.w) X.A (f v u) Q X.xe s₂) X.xe s₁) X.xe s:=by
 refine aD (ha pins s σ H _ I h) fun v s1 ⟨x,H1,I1,r1,q1⟩=>?_
 refine aD (hb pins s1 σ H1 _ I1 q1) fun u s2 ⟨y,H2,I2,r2,q2⟩=>?_
 exact hf v u s2 x y H2 I2 r1 r2 q2
noncomputable def pT(i:Nat):TE:=fun σ H Q=>∃v,σ[i]? =some (some v)∧Q v H
noncomputable def tC(v:V):TE:=fun _ H Q=>Q v H
theorem xV{i:Nat}{x:Str}{pos:Pos}(hN:X.N[i]? =some x)(hv:cg X.env.scope x)(hd:(x==("__debug__":Str))=false:=by decide)(hcd:(x==("__classdict__":Str))=false:=by decide):PE X (.Name x pos) (pT i):=by
 intro pins s σ H Q I h
 obtain⟨v,e,h⟩:=h
 obtain⟨m,hn,hl⟩:=I.loc
 obtain⟨u,r,l⟩:=hl i x v hN e hv
 have fin:EP X pins σ Q u s:=⟨v,H,I,r,h⟩
 rcases l with⟨hk,hm⟩|⟨hk,c,hc,hcell⟩
 ·exact wpAny_Name (wpAny_loadName_local I.ok.kind hk hn hm fin) hd
 · rcases hk with hk|hk
   ·exact wpAny_Name (wpAny_loadName_cell I.ok.kind hk hc hcell fin) hd
   ·exact wpAny_Name (wpAny_loadName_free I.ok.kind hk hc hcell fin hcd) hd
theorem vd{i j pos}:PE X (.Constant (.int i) j pos) (tC (.int i)):=fun _ _ _ H _ I h=>wpAny_Constant_int ⟨.int i,H,I.tok _,⟨_,rfl⟩,h⟩
theorem zx{b j pos}:PE X (.Constant (.bool b) j pos) (tC (.bl b)):=fun _ _ _ H _ I h=>Constant_bool ⟨.bl b,H,I,rfl,h⟩
theorem wD{j pos}:PE X (.Constant .none j pos) (tC .ai):=fun _ _ _ H _ I h=>Constant_none ⟨.ai,H,I,rfl,h⟩
theorem y9{x j pos}:PE X (.Constant (.str x) j pos) (tC (.str x)):=fun _ _ _ H _ I h=>Calls.Constant_str ⟨.str x,H,I.tok _,⟨_,rfl⟩,h⟩
noncomputable def Gl(X:Cx)(x:Str):Prop:=X.env.kindOf x=some .globalImplicit
theorem mj{E:Value→Shared→Prop}{pins:List (Addr×Obj)}{s:Shared}{σ:St}{H:Hp}{x:Str}{u:Value}{pos:Pos}{Q:Value→Shared→Prop}(I:Inv X pins σ H s)(hg:Gl X x)(hm:X.mg x=some u)(h:Q u s)
   (hd:(x==("__debug__":Str))=false:=by decide):wpAny (model X.prog X.w) X.A (eval (.Name x pos) X.env) Q E s:=
 Calls.Name_function_global I.ok.kind hg (Calls.loadGlobal_global (by rw[I.ok.glob];exact I.mod.glob.keeps I.bk) hm h) hd
theorem jN{E:Value→Shared→Prop}{pins:List (Addr×Obj)}{s:Shared}{σ:St}{H:Hp}{x:Str}{u:Value}{pos:Pos}{Q:Value→Shared→Prop}(I:Inv X pins σ H s)(hg:Gl X x)(hm:X.mg x=none)(hv:bootBuiltins x=some u)(h:Q u s)
   (hn:x≠"__name__":=by decide) (hd:(x==("__debug__":Str))=false:=by decide):wpAny (model X.prog X.w) X.A (eval (.Name x pos) X.env) Q E s:=by
 obtain⟨mb,h1,h2⟩:=I.mod.blt
 exact Calls.Name_function_global I.ok.kind hg (Calls.loadGlobal_builtin (by rw[I.ok.glob];exact I.mod.glob.keeps I.bk) hm (by rw[I.ok.blt];exact h1.keeps I.bk) ((h2 x hn).trans hv) h) hd
theorem uw{x:Str}{v:V}{u:Value}{pos:Pos}(hg:Gl X x)(hm:X.mg x=some u)(r:RelV v u)(hd:(x==("__debug__":Str))=false:=by decide):PE X (.Name x pos) (tC v):=
 fun _ _ _ H _ I h=>mj I hg hm ⟨v,H,I,r,h⟩ hd
theorem lV{x:Str}{v:V}{u:Value}{pos:Pos}(hg:Gl X x)(hm:X.mg x=none)(hv:bootBuiltins x=some u)(r:RelV v u)(hn:x≠"__name__":=by decide)(hd:(x==("__debug__":Str))=false:=by decide):PE X (.Name x pos) (tC v):=
 fun _ _ _ H _ I h=>jN I hg hm hv ⟨v,H,I,r,h⟩ hn hd
variable{a b:Expr}{ta tb:TE}{pos:Pos}
noncomputable def PC(X:Cx)(op:CmpOp)(a b:Expr)(t:TE):Prop:=
 ∀(pins:List (Addr×Obj)) (s:Shared) (σ:St) (H:Hp) (Q:VK),Inv X pins σ H s→t σ H Q→
   wpAny (model X.prog X.w) X.A (eval a X.env) (fun v s₁=>wpAny (model X.prog X.w) X.A (eval b X.env) (fun u s₂=>wpAny (model X.prog X.w) X.A (compareOp op v u) (EP X pins σ Q) X.xe s₂) X.xe s₁) X.xe s
theorem qh(b:Expr){op:CmpOp}(h:op≠.In)(h2:op≠.NotIn):behindInMarks op b=false:=by
 have e1:(op==CmpOp.In)=false:=by cases op<;>first|rfl|exact absurd rfl h
 have e2:(op==CmpOp.NotIn)=false:=by cases op<;>first|rfl|exact absurd rfl h2
 cases b<;>simp[behindInMarks,e1,e2]
noncomputable def tT(ta:TE):TE:=fun σ H Q=>ta σ H fun x H1=>Q (.bl (decide (x=.ai))) H1
noncomputable def xW(ta:TE):TE:=fun σ H Q=>ta σ H fun x H1=>Q (.bl (!decide (x=.ai))) H1
theorem RelV.pV{x:V}{v:Value}(r:RelV x v):(v==Value.none)=decide (x=.ai):=by
 cases x with
 |ai=>cases r;rfl
 |bl _=>cases r;rfl
 |int _=>obtain⟨t,rfl⟩:=r;rfl
 |str _=>obtain⟨t,rfl⟩:=r;rfl
 |iG _=>obtain⟨t,rfl⟩:=r;rfl
 |lR _=>obtain⟨t,rfl⟩:=r;rfl
 |ref _=>cases r;rfl
 |ty _=>cases r;rfl
theorem rM{j pos'}(ha:PE X a ta):PC X .Is a (.Constant .none j pos') (tT ta):=by
 intro pins s σ H Q I h
 refine aD (ha pins s σ H _ I h) fun v s1 ⟨x,H1,I1,r1,q1⟩=>?_
 exact Constant_none (is_none_gen ⟨.bl _,H1,I1,by rw[r1.pV];rfl,q1⟩)
theorem sA{j pos'}(ha:PE X a ta):PC X .IsNot a (.Constant .none j pos') (xW ta):=by
 intro pins s σ H Q I h
 refine aD (ha pins s σ H _ I h) fun v s1 ⟨x,H1,I1,r1,q1⟩=>?_
 exact Constant_none (isnot_none_gen ⟨.bl _,H1,I1,by rw[r1.pV];rfl,q1⟩)
noncomputable def tB(t:TE):TT:=fun σ H Q=>t σ H fun x H1=>∃c,x=.bl c∧Q c H1
theorem sI{op:CmpOp}{t:TE}(h:PC X op a b t)(h1:behindInMarks op b=false:=by first|exact qh _ (by decide) (by decide)|rfl):PE X (.Compare a [op] [b] pos) t:=fun pins s σ H Q I hw=>wpAny_Compare1 (h pins s σ H Q I hw) h1
theorem sR{op:CmpOp}{t:TE}(h:PC X op a b t)(h1:behindInMarks op b=false:=by first|exact qh _ (by decide) (by decide)|rfl):PT X (.Compare a [op] [b] pos) (tB t):=by
 intro pins s σ H Q I hw
 refine wpAny_isTrue_Compare1 (aD (h pins s σ H _ I hw) fun v s1 h1=>aD h1 fun u s2 h2=>aD h2 fun c s3 ⟨x,H1,I1,r1,q1⟩=>?_) h1
 obtain⟨d,rfl,q⟩:=q1
 cases r1
 exact wpAny_truthy_bool ⟨H1,I1,q⟩
variable{tA tB':TT}{rest:List Expr}
noncomputable def b8(t u:TT):TT:=fun σ H Q=>t σ H fun c H1=>if c=true then u σ H1 Q else Q false H1
noncomputable def cv(t u:TT):TT:=fun σ H Q=>t σ H fun c H1=>if c=true then Q true H1 else u σ H1 Q
noncomputable def bP(t:TT):TT:=fun σ H Q=>t σ H fun c H1=>Q (!c) H1
theorem zh(ha:PT X a tA):PW X (.BoolOp .And [a] pos) tA:=by
 intro wh pins s σ H Q I h
 refine isTrue_and (aD (ha pins s σ H Q I h) fun c s1 e=>?_)
 cases c with
 |true=>exact isTrue_and_nil e
 |false=>exact e
theorem ue(ha:PT X a tA):PW X (.BoolOp .Or [a] pos) tA:=by
 intro wh pins s σ H Q I h
 refine isTrue_or (aD (ha pins s σ H Q I h) fun c s1 e=>?_)
 cases c with
 |false=>exact isTrue_or_nil e
 |true=>exact e
theorem Bs(ha:PT X a tA)(hb:PW X (.BoolOp .And (b::rest) pos) tB'):PW X (.BoolOp .And (a::b::rest) pos) (b8 tA tB'):=by
 intro wh pins s σ H Q I h
 refine isTrue_and (aD (ha pins s σ H _ I h) fun c s1 ⟨H1,I1,q1⟩=>?_)
 cases c with
 |true=>exact hb wh pins s1 σ H1 Q I1 q1
 |false=>exact⟨H1,I1,q1⟩
theorem ze(ha:PT X a tA)(hb:PW X (.BoolOp .Or (b::rest) pos) tB'):PW X (.BoolOp .Or (a::b::rest) pos) (cv tA tB'):=by
 intro wh pins s σ H Q I h
 refine isTrue_or (aD (ha pins s σ H _ I h) fun c s1 ⟨H1,I1,q1⟩=>?_)
 cases c with
 |true=>exact⟨H1,I1,q1⟩
 |false=>exact hb wh pins s1 σ H1 Q I1 q1
theorem tQ(ha:PT X a tA):PT X (.UnaryOp .Not a pos) (bP tA):=by
 intro pins s σ H Q I h
 exact isTrue_not (ha pins s σ H (fun c H1=>Q (!c) H1) I h)
noncomputable def wG(ta tb:TE):TE:=fun σ H Q=>ta σ H fun x H1=>∃c,x=.bl c∧if c=true then tb σ H1 Q else Q (.bl false) H1
noncomputable def v7(ta:TE):TE:=fun σ H Q=>ta σ H fun x H1=>∃c,x=.bl c∧Q (.bl (!c)) H1
theorem zR{op}{t:TE}(h:PE X a t):PE X (.BoolOp op [a] pos) t:=fun pins s σ H Q I hw=>BoolOp_one (h pins s σ H Q I hw)
theorem Ay(ha:PE X a ta)(hb:PE X (.BoolOp .And (b::rest) pos) tb):PE X (.BoolOp .And (a::b::rest) pos) (wG ta tb):=by
 intro pins s σ H Q I h
 refine BoolOp_and (aD (ha pins s σ H _ I h) fun v s1 ⟨x,H1,I1,r1,q1⟩=>?_)
 obtain⟨c,rfl,q1⟩:=q1
 cases r1
 refine wpAny_truthy_bool ?_
 cases c with
 |true=>exact hb pins s1 σ H1 Q I1 q1
 |false=>exact⟨.bl false,H1,I1,rfl,q1⟩
theorem yT(ha:PE X a ta):PE X (.UnaryOp .Not a pos) (v7 ta):=by
 intro pins s σ H Q I h
 refine UnaryOp_ (aD (ha pins s σ H _ I h) fun v s1 ⟨x,H1,I1,r1,q1⟩=>?_)
 obtain⟨c,rfl,q1⟩:=q1
 cases r1
 exact not_of (wpAny_truthy_bool ⟨.bl (!c),H1,I1,rfl,q1⟩)
end
end L2
namespace L2
open PySem PySem.Spec PyProof.Rows
noncomputable def aT(K:PySem.W.Frag)(H:Hp)(a:Addr)(xs:List V):Prop:=
 Rd H a (.lst xs)∨
   ∃(o:Obj) (its:Array Value) (n:Nat),K.lookup a=some o∧o.cls=.type "list"∧o.dict=none∧o.data=.seq its n∧its.size≤sizeLine∧Vals xs its.toList
noncomputable def aX(K:PySem.W.Frag)(H:Hp)(a:Addr)(xs:List V):Prop:=
 Rd H a (.tup xs)∨
   ∃(o:Obj) (its:Array Value) (n:Nat),K.lookup a=some o∧o.cls=.type "tuple"∧o.data=.seq its n∧its.size≤sizeLine∧Vals xs its.toList
noncomputable def vw:Value→Option V
 |.none=>some .ai
 |.bool b=>some (.bl b)
 |.int i _=>some (.int i)
 |.str x _=>some (.str x)
 |.bytes b _=>some (.iG b)
 |.float b _=>some (.lR b)
 |.ref a=>some (.ref a)
 |.type n=>some (.ty n)
 |_=>none
theorem RelV.abs{x:V}{u:Value}(r:RelV x u):vw u=some x:=by
 cases x with
 |ai=>cases r;rfl
 |bl _=>cases r;rfl
 |int _=>obtain⟨t,rfl⟩:=r;rfl
 |str _=>obtain⟨t,rfl⟩:=r;rfl
 |iG _=>obtain⟨t,rfl⟩:=r;rfl
 |lR _=>obtain⟨t,rfl⟩:=r;rfl
 |ref _=>cases r;rfl
 |ty _=>cases r;rfl
theorem RelV.inj{x y:V}{u:Value}(r:RelV x u)(q:RelV y u):x=y:=Option.some.inj (r.abs.symm.trans q.abs)
theorem Vals.inj:∀ {xs ys:List V} {us:List Value},Vals xs us→Vals ys us→xs=ys
 |_,_,_,.nil,.nil=>rfl
 |_,_,_,.cons r t,.cons r' t'=>by rw[r.inj r',Vals.inj t t']
section
variable{X:Cx}{pins:List (Addr×Obj)}{σ:St}{H:Hp}{s:Shared}{a:Addr}{xs ys:List V}
theorem aT.of{K:PySem.W.Frag}(h:H a=some (.lst xs)):aT K H a xs:=.inl (.inl h)
theorem aX.of{K:PySem.W.Frag}(h:H a=some (.tup xs)):aX K H a xs:=.inl (.inl h)
theorem Inv.list(I:Inv X pins σ H s)(h:aT X.K H a xs):∃its:List Value,Vals xs its∧PlainL s.heap a its.toArray∧xs.length≤sizeLine:=by
 rcases h with h|⟨o,its,n,hk,hc,hd,hs,hz,r⟩
 · obtain⟨z,its,n,r,e⟩:=h.ok I.aB
   exact⟨its,r,⟨_,n,e,rfl,rfl,rfl⟩,z⟩
 · refine⟨its.toList,r,⟨o,n,I.bI a o hk,hc,hd,by simpa using hs⟩,?_⟩
   have e:=r.length
   simp only[Array.length_toList]at e
   omega
theorem Inv.tuple(I:Inv X pins σ H s)(h:aX X.K H a xs):∃its:List Value,Vals xs its∧IsTup s.heap a its.toArray∧xs.length≤sizeLine:=by
 rcases h with h|⟨o,its,n,hk,hc,hs,hz,r⟩
 · obtain⟨z,its,r,p⟩:=h.ok I.aB
   exact⟨its,r,p,z⟩
 · refine⟨its.toList,r,⟨o,I.bI a o hk,hc,n,by simpa using hs⟩,?_⟩
   have e:=r.length
   simp only[Array.length_toList]at e
   omega
theorem Inv.o9(I:Inv X pins σ H s)(h:aT X.K H a xs)(h':aT X.K H a ys):xs=ys:=by
 obtain⟨its,r,⟨o,n,e,_,_,d⟩,_⟩:=I.list h
 obtain⟨its',r',⟨o',n',e',_,_,d'⟩,_⟩:=I.list h'
 rw[e]at e';cases e'
 rw[d]at d'
 injection d' with d1 _
 have:its=its':=by simpa using congrArg Array.toList d1
 subst this
 exact r.inj r'
theorem Inv.rV(I:Inv X pins σ H s)(h:aX X.K H a xs)(h':aX X.K H a ys):xs=ys:=by
 obtain⟨its,r,⟨o,e,_,n,d⟩,_⟩:=I.tuple h
 obtain⟨its',r',⟨o',e',_,n',d'⟩,_⟩:=I.tuple h'
 rw[e]at e';cases e'
 rw[d]at d'
 injection d' with d1 _
 have:its=its':=by simpa using congrArg Array.toList d1
 subst this
 exact r.inj r'
end
noncomputable abbrev Cx.dX(X:Cx)(E:Value→Shared→Prop):Cx:={X with xe:=E}
noncomputable abbrev Cx.cY(X:Cx):Cx:=X.dX fun _ _=>False
theorem Cx.Ok.dX{X:Cx}(ok:X.Ok)(E:Value→Shared→Prop):(X.dX E).Ok:=
 ⟨ok.mod,ok.kind,ok.glob,ok.blt,ok.above,ok.inj,ok.has,ok.i8,ok.hd,ok.frames,ok.lT,ok.qv,ok.bs,ok.fj,ok.kb,ok.ki,ok.dG,ok.gS⟩
theorem Cx.Ok.e6{X:Cx}{E:Value→Shared→Prop}(ok:(X.dX E).Ok):X.Ok:=
 ⟨ok.mod,ok.kind,ok.glob,ok.blt,ok.above,ok.inj,ok.has,ok.i8,ok.hd,ok.frames,ok.lT,ok.qv,ok.bs,ok.fj,ok.kb,ok.ki,ok.dG,ok.gS⟩
section
variable{X:Cx}{pins:List (Addr×Obj)}{σ:St}{H:Hp}{s:Shared}{E:Value→Shared→Prop}
theorem Inv.dX(I:Inv X pins σ H s)(E:Value→Shared→Prop):Inv (X.dX E) pins σ H s:=⟨I.ok.dX E,I.os,I.bare,I.base,I.loc,I.cell,I.free,I.d8,I.pin,I.aB,I.len⟩
theorem Inv.e6(I:Inv (X.dX E) pins σ H s):Inv X pins σ H s:=⟨I.ok.e6,I.os,I.bare,I.base,I.loc,I.cell,I.free,I.d8,I.pin,I.aB,I.len⟩
theorem SP.e6{D:Ends}{f:Flow}{s':Shared}(h:SP (X.dX E) pins D f s'):SP X pins D f s':=by
 cases f with
 |next=>obtain⟨σ',H',I,q⟩:=h;exact⟨σ',H',I.e6,q⟩
 |brk=>obtain⟨σ',H',I,q⟩:=h;exact⟨σ',H',I.e6,q⟩
 |cont=>obtain⟨σ',H',I,q⟩:=h;exact⟨σ',H',I.e6,q⟩
 |ret u=>obtain⟨v,σ',H',I,r,q⟩:=h;exact⟨v,σ',H',I.e6,r,q⟩
theorem PE.cY{e:Expr}{t:TE}(h:PE X.cY e t):PE X e t:=fun pins s σ H Q I hw=>
 wpAny_mono (h pins s σ H Q (I.dX _) hw) (fun _ _ ⟨v,H',I',r,q⟩=>⟨v,H',I'.e6,r,q⟩) fun _ _ z=>False.elim z
theorem PT.cY{e:Expr}{t:TT}(h:PT X.cY e t):PT X e t:=fun pins s σ H Q I hw=>
 wpAny_mono (h pins s σ H Q (I.dX _) hw) (fun _ _ ⟨H',I',q⟩=>⟨H',I'.e6,q⟩) fun _ _ z=>False.elim z
theorem bz.cY{st:List Stmt}{t:TS}(h:bz X.cY st t):bz X st t:=fun pins s σ H D I hw=>
 wpAny_mono (h pins s σ H D (I.dX _) hw) (fun _ _ q=>q.e6) fun _ _ z=>False.elim z
end
section
variable{X:Cx}{st:Stmt}{rest:List Stmt}{t u:TS}{e:Expr}{te:TE}{pos:Pos}
noncomputable def wO:TS:=fun D σ H=>D.nx σ H
noncomputable def qx(t u:TS):TS:=fun D σ H=>t {D with nx:=u D} σ H
theorem zX:bz X [] wO:=fun _ _ σ H _ I h=>wpAny_execs_nil ⟨σ,H,I,h⟩
theorem vE(h1:PS X st t)(h2:bz X rest u):bz X (st::rest) (qx t u):=by
 intro pins s σ H D I h
 refine wpAny_execs_cons (aD (h1 pins s σ H {D with nx:=u D} I h) fun f s1 q=>?_)
 cases f with
 | next=>
   obtain⟨σ',H',I',q⟩:=q
   exact h2 pins s1 σ' H' D I' q
 |ret v=>exact q
 |brk=>exact q
 |cont=>exact q
theorem yp(h1:PS X st t):bz X [st] t:=by
 intro pins s σ H D I h
 refine wpAny_execs_cons (aD (h1 pins s σ H D I h) fun f s1 q=>?_)
 cases f with
 |next=>exact wpAny_execs_nil q
 |ret v=>exact q
 |brk=>exact q
 |cont=>exact q
theorem Inv.quiet{pins:List (Addr×Obj)}{σ:St}{H:Hp}{s:Shared}(I:Inv X pins σ H s):interactive X.env=false:=by simp[interactive,I.ok.kind]
noncomputable def yw(te:TE):TS:=fun D σ H=>te σ H fun _ H1=>D.nx σ H1
theorem vK(he:PE X e te)(hs:swapsWith e none pos.line X.env=pure false:=by rfl):PS X (.Expr e pos) (yw te):=by
 intro pins s σ H D I h
 exact wpAny_Expr_any (aD (he pins s σ H _ I h) fun v s1 ⟨x,H1,I1,r1,q1⟩=>⟨σ,H1,I1,q1⟩) I.quiet hs
noncomputable def wM(te:TE):TS:=fun D σ H=>te σ H D.rt
theorem nP(he:PE X e te):PS X (.Return (some e) pos) (wM te):=by
 intro pins s σ H D I h
 exact wpAny_Return_some (aD (he pins s σ H _ I h) fun v s1 ⟨x,H1,I1,r1,q1⟩=>⟨x,σ,H1,I1,r1,q1⟩)
noncomputable def ua(c:TT)(t u:TS):TS:=fun D σ H=>c σ H fun b H1=>if b=true then t D σ H1 else u D σ H1
theorem yH{c:Expr}{a b:List Stmt}{tc:TT}(hc:PT X c tc)(ha:bz X a t)(hb:bz X b u):PS X (.If c a b pos) (ua tc t u):=by
 intro pins s σ H D I h
 refine wpAny_If (aD (hc pins s σ H _ I h) fun d s1 ⟨H1,I1,q1⟩=>?_)
 cases d with
 |true=>exact ha pins s1 σ H1 D I1 q1
 |false=>exact hb pins s1 σ H1 D I1 q1
end
noncomputable abbrev TG:=V→St→Hp→(St→Hp→Prop)→Prop
noncomputable abbrev eN:=List V→St→Hp→(St→Hp→Prop)→Prop
noncomputable def PG(X:Cx)(target:Expr)(t:TG):Prop:=
 ∀(pins:List (Addr×Obj)) (s:Shared) (σ:St) (H:Hp) (v:V) (u:Value) (Q:St→Hp→Prop),Inv X pins σ H s→RelV v u→t v σ H Q→
   wpAny (model X.prog X.w) X.A (assign target X.env u) (fun _ s'=>∃σ' H',Inv X pins σ' H' s'∧Q σ' H') X.xe s
noncomputable def cu(X:Cx)(ts:List Expr)(t:eN):Prop:=
 ∀(pins:List (Addr×Obj)) (s:Shared) (σ:St) (H:Hp) (vs:List V) (us:List Value) (Q:St→Hp→Prop),Inv X pins σ H s→Vals vs us→t vs σ H Q→
   wpAny (model X.prog X.w) X.A (assignInOrder ((assignEach ts X.env).map (·.2)) us) (fun _ s'=>∃σ' H',Inv X pins σ' H' s'∧Q σ' H') X.xe s
noncomputable abbrev oz:=V→V→V→Hp→(Hp→Prop)→Prop
noncomputable def qJ(X:Cx)(t:oz):Prop:=
 ∀(pins:List (Addr×Obj)) (s:Shared) (σ:St) (H:Hp) (o i v:V) (ov iv u:Value) (Q:Hp→Prop),Inv X pins σ H s→RelV o ov→RelV i iv→RelV v u→t o i v H Q→
   wpAny (model X.prog X.w) X.A (setItem ov iv u) (fun _ s'=>∃H',Inv X pins σ H' s'∧Q H') X.xe s
section
variable{X:Cx}{pos:Pos}
noncomputable def aM(i:Nat):TG:=fun v σ H Q=>Q (σ.set i (some v)) H
theorem Ba{i:Nat}{x:Str}(hN:X.N.Nodup)(hi:X.N[i]? =some x)(hx:Loc X.env.scope x)(hf:X.fn x=true∨X.env.scope.names.lookup x=some .local:=by first|exact .inl rfl|exact .inr rfl|assumption):PG X (.Name x pos) (aM i):=by
 intro pins s σ H v u Q I r h
 exact wpAny_assign_Name (pf I hN hi hx r (fun s' I'=>⟨_,H,I',h⟩) hf)
noncomputable def x9:eN:=fun vs σ H Q=>vs=[]∧Q σ H
noncomputable def qc(t:TG)(u:eN):eN:=fun vs σ H Q=>∃v r,vs=v::r∧t v σ H fun σ' H'=>u r σ' H' Q
theorem zu:cu X [] x9:=by
 intro pins s σ H vs us Q I r h
 obtain⟨e,h⟩:=h
 subst e
 cases r
 exact assignInOrder_nil ⟨σ,H,I,h⟩
theorem tS{e:Expr}{es:List Expr}{t:TG}{u:eN}(h1:PG X e t)(h2:cu X es u)
   (hs:(assignEach (e::es) X.env).map (·.2)=assign e X.env::(assignEach es X.env).map (·.2):=by rfl):cu X (e::es) (qc t u):=by
 intro pins s σ H vs us Q I r h
 obtain⟨v,vr,e1,h⟩:=h
 subst e1
 cases r with
 | cons r rr=>
   rw[hs]
   refine assignInOrder_cons (aD (h1 pins s σ H _ _ _ I r h) fun _ s1 ⟨σ1,H1,I1,q1⟩=>?_)
   exact h2 pins s1 σ1 H1 _ _ Q I1 rr q1
noncomputable def eP(K:PySem.W.Frag)(n:Nat)(t:eN):TG:=fun v σ H Q=>∃a xs,v=.ref a∧aX K H a xs∧xs.length=n∧t xs σ H Q
theorem z9{es:List Expr}{k:Nat}{t:eN}{n:Nat}(hc:X.calm=true)(h:cu X es t)
   (hn:(assignEach es X.env).length=n:=by rfl) (hst:(assignEach es X.env).findIdx? (·.1)=none:=by rfl):PG X (.Tuple es k pos) (eP X.K n t):=by
 intro pins s σ H v u Q I r hw
 obtain⟨a,xs,e1,hq,hl,hw⟩:=hw
 subst e1
 cases r
 obtain⟨its,rv,ht,hz⟩:=I.tuple hq
 refine assign_Tuple_tuple (I.ok.hd hc) ht (by simp[hn, ←hl,rv.length]) hst fun h' hx=>?_
 have I1:Inv X pins σ H {s with heap:=h'}:=I.kept (t':=s.toks) fun b o e=>hx b o (Nat.ne_of_lt (Heap.lt_size e)) e
 exact h pins _ σ H xs _ Q I1 (by simpa using rv) hw
noncomputable def zf(to ti:TE)(t:oz):TG:=fun v σ H Q=>to σ H fun o H1=>ti σ H1 fun i H2=>t o i v H2 fun H3=>Q σ H3
theorem qa{o i:Expr}{to ti:TE}{t:oz}(ho:PE X o to)(hi:PE X i ti)(hs:qJ X t)
   (ha:∀v,assign (.Subscript o i pos) X.env v=(do
     let ov ←holding [v] (eval o X.env)
     let iv ←holding [v,ov] (eval i X.env)
     standAt pos
     holding [v,ov,iv] (setItem ov iv v)
     release [v,ov,iv] []):=by intro _;rfl):PG X (.Subscript o i pos) (zf to ti t):=by
 intro pins s σ H v u Q I r h
 rw[ha]
 refine wpAny_bind (wpAny_holding (aD (ho pins s σ H _ I h) fun ov s1 ⟨x,H1,I1,r1,q1⟩=>?_))
 refine wpAny_bind (wpAny_holding (aD (hi pins s1 σ H1 _ I1 q1) fun iv s2 ⟨y,H2,I2,r2,q2⟩=>?_))
 refine wpAny_bind (wpAny_standAt (wpAny_bind (wpAny_holding (aD (hs pins s2 σ H2 x y v ov iv u _ I2 r1 r2 r q2) fun _ s3 ⟨H3,I3,q3⟩=>?_))))
 exact wpAny_release ⟨σ,H3,I3,q3⟩
noncomputable def sC(te:TE)(g:TG):TS:=fun D σ H=>te σ H fun x H1=>g x σ H1 D.nx
theorem nK{tg e:Expr}{te:TE}{g:TG}(he:PE X e te)(hg:PG X tg g)(hs:swapsWithSole [tg] e pos.line X.env=pure false:=by rfl)(hw:swappedStores [tg] e X.env=pure none:=by rfl)
   (h1:(assignEach [tg] X.env).map (·.2)=[assign tg X.env]:=by rfl):PS X (.Assign [tg] e pos) (sC te g):=by
 intro pins s σ H D I h
 refine wpAny_Assign_stores (aD (he pins s σ H _ I h) fun v s1 ⟨x,H1,I1,r1,q1⟩=>?_) hs hw
 rw[h1]
 exact aD (hg pins s1 σ H1 x v _ I1 r1 q1) fun _ s2 q=>q
theorem jW{i:Nat}{x:Str}{e:Expr}{te:TE}{pos':Pos}(hN:X.N.Nodup)(hi:X.N[i]? =some x)(hx:Loc X.env.scope x)(he:PE X e te)(hs:swapsWith e (some (.Name x pos')) pos.line X.env=pure false:=by rfl)(hf:X.fn x=true∨X.env.scope.names.lookup x=some .local:=by first|exact .inl rfl|exact .inr rfl|assumption):
   PS X (.Assign [.Name x pos'] e pos) (sC te (aM i)):=by
 intro pins s σ H D I h
 refine wpAny_Assign_Name (aD (he pins s σ H _ I h) fun v s1 ⟨y,H1,I1,r1,q1⟩=>?_) hs
 exact pf I1 hN hi hx r1 (fun s2 I2=>⟨_,H1,I2,q1⟩) hf
end
section
variable{X:Cx}{pos:Pos}
end
structure It where
 go:Nat→Hp→Prop
 j4:Nat→Hp→V→Hp→Prop
 stop:Nat→Hp→Prop
noncomputable def bY(X:Cx)(pins:List (Addr×Obj))(H:Hp)(b:Addr):Prop:=
 H b=none∧b≠X.env.locals∧b∉X.fs∧(b∈X.ex∨X.bN.heap.objs.size≤b)∧(∀x c,X.env.cells.lookup x=some c→c≠b)∧∀p∈X.pn++pins,p.1≠b
theorem Inv.iW{X:Cx}{pins:List (Addr×Obj)}{σ:St}{H H':Hp}{s:Shared}{b:Addr}(I:Inv X pins σ H s)(hb:s.heap.objs.size≤b)(hn:H' b=none):bY X pins H' b:=by
 refine⟨hn,Nat.ne_of_gt (Nat.lt_of_lt_of_le I.lt hb),I.x4 hb,.inr (Nat.le_trans I.sz hb),fun x c e z=>?_,fun p hp z=>?_⟩
 · obtain⟨v,q⟩:=I.cell x c e
   exact absurd (Nat.lt_of_lt_of_le q.lt (by rw[z];exact hb)) (Nat.lt_irrefl _)
 ·exact absurd (Nat.lt_of_lt_of_le (Heap.lt_size (I.pin p hp).1) (by rw[z];exact hb)) (Nat.lt_irrefl _)
structure Turn(P:Program)(w:World)(K:PySem.W.Frag)(tg:Expr)(J:It)(fp:List Addr)(it:Addr)(tn:Nat→Heap→Prop):Prop where
 mem:it∈fp
 obj:∀i h,tn i h→∀b∈fp,∃o,h.get? b=some o∧∀v,o.data≠.cell v
 keep:∀i h h',tn i h→(∀b∈fp,∀o,h.get? b=some o→h'.get? b=some o)→tn i h'
 item:∀(X:Cx),X.prog=P→X.w=w→X.K=K→X.calm=true→∀(i:Nat) (pins:List (Addr×Obj)) (s:Shared) (σ:St) (H:Hp) (E:Value→Shared→Prop),Inv X pins σ H s→(∀b∈fp,bY X pins H b)→tn i s.heap→J.go i H→
   wpAny (model P w) X.A (pyNext (.ref it)) (fun r s1=>∃u,r=some u∧
     wpAny (model P w) X.A (letOwnedTupleGo tg (.ref it) u) (fun _ s2=>∃x H',Inv X pins σ H' s2∧RelV x u∧J.j4 i H x H'∧tn (i+1) s2.heap∧∀b∈fp,H' b=none) E s1) E s
 done:∀(X:Cx),X.prog=P→X.w=w→X.K=K→X.calm=true→∀(i:Nat) (pins:List (Addr×Obj)) (s:Shared) (σ:St) (H:Hp) (E:Value→Shared→Prop),Inv X pins σ H s→(∀b∈fp,bY X pins H b)→tn i s.heap→J.stop i H→
   wpAny (model P w) X.A (pyNext (.ref it)) (fun r s1=>r=none∧Inv X pins σ H s1) E s
 self:∀(A:Around) (i:Nat) (s:Shared) (Q:Value→Shared→Prop) (E:Value→Shared→Prop),tn i s.heap→Q (.ref it) s→wpAny (model P w) A (pyIter (.ref it)) Q E s
noncomputable abbrev TI:=St→Hp→(It→Hp→Prop)→Prop
noncomputable def oC(X:Cx)(pins:List (Addr×Obj))(σ:St)(tg:Expr)(R:It→Hp→Prop)(itv:Value)(s2:Shared):Prop:=
 ∃(it:Addr) (fp:List Addr) (tn:Nat→Heap→Prop) (J:It) (H':Hp),itv=.ref it∧Inv X pins σ H' s2∧Turn X.prog X.w X.K tg J fp it tn∧tn 0 s2.heap∧(∀b∈fp,bY X pins H' b)∧R J H'
noncomputable def PI(X:Cx)(tg iter:Expr)(wi:TI):Prop:=
 ∀(pins:List (Addr×Obj)) (s:Shared) (σ:St) (H:Hp) (R:It→Hp→Prop),Inv X pins σ H s→wi σ H R→
   wpAny (model X.prog X.w) X.A (eval iter X.env) (fun v s1=>wpAny (model X.prog X.w) X.A (pyIter v) (oC X pins σ tg R) X.xe s1) X.xe s
theorem iJ{M:Model}{A:Around}{E:Value→Shared→Prop}{s:Shared}{tg:Expr}{it:Addr}{u:Value}{o:Obj}{n:String}{vs:Array Value}{Q:Unit→Shared→Prop}(ho:s.heap.get? it=some o)(hc:o.cls=.type n)(hd:o.data=.fields vs)
   (hn:["enumerate","zip","dict_itemiterator","dict_reverseitemiterator","odict_iterator","itertools.zip_longest","itertools.pairwise"].contains n=false) (hQ:Q () s):wpAny M A (letOwnedTupleGo tg (.ref it) u) Q E s:=by
 unfold letOwnedTupleGo
 cases tg<;>first
   |exact wpAny_pure hQ
   |(cases u<;>first
       |exact wpAny_pure hQ
       | (refine wpAny_bind (wpAny_load ho ?_)
          rw[hc,hd]
          show wpAny M A (if(["enumerate","zip","dict_itemiterator","dict_reverseitemiterator","odict_iterator","itertools.zip_longest","itertools.pairwise"].contains n&&vs[0]? ==some (rawInt _))=true then _ else _) Q E s
          rw[if_neg (by intro h;rw[hn,Bool.false_and]at h;cases h)]
          exact wpAny_pure hQ))
noncomputable def jh(K:PySem.W.Frag)(a:Addr):It:=
 ⟨fun i H=>∃xs x,aT K H a xs∧xs[i]? =some x,fun i H x H'=>H'=H∧∀xs,aT K H a xs→xs[i]? =some x,fun i H=>∃xs,aT K H a xs∧xs.length≤i⟩
noncomputable def ke(K:PySem.W.Frag)(a:Addr):It:=
 ⟨fun i H=>∃xs x,aX K H a xs∧xs[i]? =some x,fun i H x H'=>H'=H∧∀xs,aX K H a xs→xs[i]? =some x,fun i H=>∃xs,aX K H a xs∧xs.length≤i⟩
noncomputable def bc(lo:Int)(n:Nat):It:=⟨fun i _=>i<n,fun i H x H'=>H'=H∧x=.int (lo+i),fun i _=>n≤i⟩
theorem vI{P:Program}{w:World}{K:PySem.W.Frag}{tg:Expr}(a it:Addr):Turn P w K tg (jh K a) [it] it (fun i h=>h.IsListIter it a i) where
 mem:=by simp
 obj:=fun i h st b hb=>by
   have e:b=it:=by simpa using hb
   subst e
   obtain⟨o,e,c,d⟩:=st
   exact⟨o,e,fun v z=>by rw[d]at z;cases z⟩
 keep:=fun i h h' st k=>st.at fun o e=>k it (by simp) o e
 item:=by
   intro X hP hw hK hc i pins s σ H E I hf st hg
   subst hP hw hK
   obtain⟨xs,x,hq,hx⟩:=hg
   obtain⟨its,rv,p,hz⟩:=I.list hq
   obtain⟨u,hu,ru⟩:=rv.get hx
   obtain⟨f0,f1,f2,f3,f4,f5⟩:=hf it (by simp)
   refine wpAny_pyNext_list_item st p.isList (x:=u) (by simpa using hu) fun h' st' sb=>?_
   have I1:Inv X pins σ H {s with heap:=h'}:=I.turned (t':=s.toks) (fun b o hb e=>(sb.2 b hb).trans e) f0 f1 f3 f4 f5
   obtain⟨o,e,c,d⟩:=id st'
   exact⟨u,rfl,iJ (s:={s with heap:=h'}) e c d (by decide) ⟨x,H,I1,ru,⟨rfl,fun ys hy=>by rw[I.o9 hy hq];exact hx⟩,st',fun b hb=>(hf b hb).1⟩⟩
 done:=by
   intro X hP hw hK hc i pins s σ H E I hf st hg
   subst hP hw hK
   obtain⟨xs,hq,hx⟩:=hg
   obtain⟨its,rv,p,hz⟩:=I.list hq
   obtain⟨f0,f1,f2,f3,f4,f5⟩:=hf it (by simp)
   have hl:=rv.length
   exact wpAny_pyNext_list_end (I.ok.hd hc) st p.isList (by simp;omega) fun h' eb=>⟨rfl,I.turned (t':=s.toks) (fun b o hb e=>eb b o hb e) f0 f1 f3 f4 f5⟩
 self:=fun _ _ _ _ _ st h=>wpAny_pyIter_listiter st h
theorem tR{P:Program}{w:World}{K:PySem.W.Frag}{tg:Expr}(a it:Addr):Turn P w K tg (ke K a) [it] it (fun i h=>h.IsTupleIter it a i) where
 mem:=by simp
 obj:=fun i h st b hb=>by
   have e:b=it:=by simpa using hb
   subst e
   obtain⟨o,e,c,d⟩:=st
   exact⟨o,e,fun v z=>by rw[d]at z;cases z⟩
 keep:=fun i h h' st k=>st.at fun o e=>k it (by simp) o e
 item:=by
   intro X hP hw hK hc i pins s σ H E I hf st hg
   subst hP hw hK
   obtain⟨xs,x,hq,hx⟩:=hg
   obtain⟨its,rv,p,hz⟩:=I.tuple hq
   obtain⟨u,hu,ru⟩:=rv.get hx
   obtain⟨f0,f1,f2,f3,f4,f5⟩:=hf it (by simp)
   refine wpAny_pyNext_tuple_item st (show s.heap.IsTuple a its.toArray from p) (x:=u) (by simpa using hu) fun h' st' sb=>?_
   have I1:Inv X pins σ H {s with heap:=h'}:=I.turned (t':=s.toks) (fun b o hb e=>(sb.2 b hb).trans e) f0 f1 f3 f4 f5
   obtain⟨o,e,c,d⟩:=id st'
   exact⟨u,rfl,iJ (s:={s with heap:=h'}) e c d (by decide) ⟨x,H,I1,ru,⟨rfl,fun ys hy=>by rw[I.rV hy hq];exact hx⟩,st',fun b hb=>(hf b hb).1⟩⟩
 done:=by
   intro X hP hw hK hc i pins s σ H E I hf st hg
   subst hP hw hK
   obtain⟨xs,hq,hx⟩:=hg
   obtain⟨its,rv,p,hz⟩:=I.tuple hq
   obtain⟨f0,f1,f2,f3,f4,f5⟩:=hf it (by simp)
   have hl:=rv.length
   exact wpAny_pyNext_tuple_end (I.ok.hd hc) st (show s.heap.IsTuple a its.toArray from p) (by simp;omega) fun h' eb=>⟨rfl,I.turned (t':=s.toks) (fun b o hb e=>eb b o hb e) f0 f1 f3 f4 f5⟩
 self:=fun _ _ _ _ _ st h=>wpAny_pyIter_tupleiter st h
theorem vF{P:Program}{w:World}{K:PySem.W.Frag}{tg:Expr}(it:Addr)(lo:Int)(n:Nat):Turn P w K tg (bc lo n) [it] it (fun i h=>IsRangeIter h it (lo+(i:Nat)*1) ((n:Int) - (i:Nat)) 1) where
 mem:=by simp
 obj:=fun i h st b hb=>by
   have e:b=it:=by simpa using hb
   subst e
   exact⟨_,st,fun v z=>by
     have z':Data.fields _=Data.cell v:=z
     cases z'⟩
 keep:=fun i h h' st k=>k it (by simp) _ st
 item:=by
   intro X hP hw hK hc i pins s σ H E I hf st hg
   subst hP hw hK
   obtain⟨f0,f1,f2,f3,f4,f5⟩:=hf it (by simp)
   have W:=Walks.range (prog:=X.prog) (w:=X.w) (I.ok.hd hc) it lo 1 n
   refine W.item i s _ _ hg st fun v h' tk hv st' kk=>?_
   obtain⟨t,rfl⟩:=hv
   have I1:Inv X pins σ H {s with heap:=h',toks:=tk}:=I.turned (fun b o hb e=>kk b o (by simpa using hb) e) f0 f1 f3 f4 f5
   refine⟨_,rfl,iJ (s:={s with heap:=h',toks:=tk}) (n:="range_iterator") st' rfl rfl (by decide) ⟨.int (lo+i),H,I1,⟨t,?_⟩,⟨rfl,rfl⟩,st',fun b hb=>(hf b hb).1⟩⟩
   rw[Int.mul_one]
 done:=by
   intro X hP hw hK hc i pins s σ H E I hf st hg
   subst hP hw hK
   obtain⟨f0,f1,f2,f3,f4,f5⟩:=hf it (by simp)
   exact wpAny_pyNext_range_end (I.ok.hd hc) st (by have:n≤i:=hg;omega) fun h' eb=>⟨rfl,I.turned (t':=s.toks) (fun b o hb e=>eb b o hb e) f0 f1 f3 f4 f5⟩
 self:=fun _ _ _ _ _ st h=>wpAny_pyIter_rangeiter st h
end L2
namespace L2
open PySem PySem.Spec PyProof.Rows
section
variable{X:Cx}{tg:Expr}
theorem vo{pins:List (Addr×Obj)}{σ:St}{H:Hp}{s:Shared}{R:It→Hp→Prop}{E:Value→Shared→Prop}{lo hi:Int}{t u v:Tok}{tk:Nat}(I:Inv X pins σ H s)(h1: -(2 ^ 62)≤lo)(h2:lo<2 ^ 62)(h3: -(2 ^ 62)≤hi)(h4:hi<2 ^ 62)
   (q:R (bc lo (hi - lo).toNat) H):wpAny (model X.prog X.w) X.A (pyIter (.ref s.heap.objs.size)) (oC X pins σ tg R) E {s with heap:=s.heap.push {cls:=.type "range",data:=.fields #[.int lo t,.int hi u,.int 1 v]},toks:=tk}:=by
 refine wpAny_pyIter_range (IsRange.new ..) (small_one h1 h2 h3 h4) ?_
 have I1:Inv X pins σ H {s with heap:=s.heap.push {cls:=.type "range",data:=.fields #[.int lo t,.int hi u,.int 1 v]},toks:=tk}:=I.kept fun b o e=>Heap.get?_push_of_some _ e
 refine⟨(s.heap.push {cls:=.type "range",data:=.fields #[.int lo t,.int hi u,.int 1 v]}).objs.size,[(s.heap.push {cls:=.type "range",data:=.fields #[.int lo t,.int hi u,.int 1 v]}).objs.size],_,_,H,rfl,
   I1.kept (t':=tk) fun b o e=>Heap.get?_push_of_some _ e,vF _ lo (hi - lo).toNat,?_,fun b hb=>?_,q⟩
 · have e1:lo+((0:Nat):Int)*1=lo:=by simp
   have e2:(((hi - lo).toNat:Nat):Int) - ((0:Nat):Int)=Builtin.Range.rangeSize lo hi 1:=by rw[rangeSize_one];split<;>omega
   show IsRangeIter _ _ (lo+((0:Nat):Int)*1) ((((hi - lo).toNat:Nat):Int) - ((0:Nat):Int)) 1
   rw[e1,e2]
   exact Heap.get?_push_size _ rfl
 · have e:b=(s.heap.push {cls:=.type "range",data:=.fields #[.int lo t,.int hi u,.int 1 v]}).objs.size:=by simpa using hb
   subst e
   exact I1.iW (Nat.le_refl _) (I1.aB.fresh (Nat.le_refl _))
noncomputable def eT(ta:TA):TI:=fun σ H R=>ta σ H fun vs H1=>∃j:Int,vs=[.int j]∧ -(2 ^ 62)≤j∧j<2 ^ 62∧R (bc 0 j.toNat) H1
theorem Bm{a:Expr}{ta:TA}{p pos:Pos}(hg:Gl X "range")(hm:X.mg "range"=none)(ha:PA X [a] ta)(hs:starEach [a] X.env=[(false,eval a X.env)]:=by rfl):PI X tg (.Call (.Name "range" p) [a] [] pos) (eT ta):=by
 intro pins s σ H R I h
 refine Call_ (jN I hg hm boot_range (PyProof.Rows.callWith_type1 (aD (ha pos pins s σ H _ I h) fun us s1 ⟨vs,H1,I1,r1,q1⟩=>?_) hs rfl))
 obtain⟨j,e,q1,q2,q⟩:=q1
 subst e
 cases r1 with
 | cons r rr=>
   cases rr
   obtain⟨t,rfl⟩:=r
   exact call_range_1 (vo I1 (by omega) (by omega) q1 q2 (by simpa using q))
noncomputable def zU(wi:TI)(g:TG)(tb:TS):TS:=fun D σ H=>wi σ H fun J H1=>∃W:Nat→Nat→St→Hp→Prop,(∃m,W 0 m σ H1)∧∀i m σ H,W i m σ H→
 (J.stop i H∧D.nx σ H)∨(J.go i H∧∃N:St→Hp→Prop,(∀σ' H',N σ' H'→∃m',m'<m∧W (i+1) m' σ' H')∧∀x H',J.j4 i H x H'→g x σ H' fun σ2 H2=>tb {D with nx:=N,ct:=N,bk:=D.nx} σ2 H2)
noncomputable def iZ(fp:List Addr)(h:Heap):List (Addr×Obj):=fp.filterMap fun b=>(h.get? b).map fun o=>(b,o)
theorem lq{fp:List Addr}{h:Heap}{b:Addr}{o:Obj}(hb:b∈fp)(e:h.get? b=some o):(b,o)∈iZ fp h:=List.mem_filterMap.mpr ⟨b,hb,by rw[e];rfl⟩
theorem wI{fp:List Addr}{h:Heap}{p:Addr×Obj}(hp:p∈iZ fp h):p.1∈fp∧h.get? p.1=some p.2:=by
 obtain⟨b,hb,e⟩:=List.mem_filterMap.mp hp
 cases q:h.get? b with
 |none=>rw[q]at e;cases e
 | some o=>
   rw[q]at e
   have e':(b,o)=p:=Option.some.inj e
   subst e'
   exact⟨hb,q⟩
theorem Inv.pinned{pins:List (Addr×Obj)}{σ:St}{H:Hp}{s:Shared}{fp:List Addr}(I:Inv X pins σ H s)(hf:∀b∈fp,bY X pins H b)(ho:∀b∈fp,∃o,s.heap.get? b=some o∧∀v,o.data≠.cell v):Inv X (pins++iZ fp s.heap) σ H s:=
 I.qo fun p hp=>(List.mem_append.mp hp).elim (fun z=>I.pin p (List.mem_append_right _ z)) fun z=>by
   obtain⟨hb,e⟩:=wI z
   obtain⟨f0,f1,f2,_⟩:=hf p.1 hb
   obtain⟨o,e',d⟩:=ho p.1 hb
   rw[e]at e';cases e'
   exact⟨e,f0,f1,f2,d⟩
theorem Inv.lJ{pins pl:List (Addr×Obj)}{σ:St}{H:Hp}{s:Shared}(I:Inv X (pins++pl) σ H s):Inv X pins σ H s:=I.qo fun p hp=>I.pin p (List.mem_append_right _ (List.mem_append_left _ hp))
theorem wW{iter:Expr}{body:List Stmt}{wi:TI}{g:TG}{tb:TS}{pos:Pos}(hp:PassesOwn (model X.prog X.w) X.A X.env X.xe)(hc:X.calm=true)(hi:PI X tg iter wi)(hg:PG X tg g)(hb:bz X body tb)
   (hs:∀x,foldedSetIterable iter X.env x=pure x:=by intro _;rfl):PS X (.For tg iter body [] pos) (zU wi g tb):=by
 intro pins s σ H D I h
 refine wpAny_For (aD (hi pins s σ H _ I h) fun v s1 h1=>aD h1 fun itv s2 h2=>?_) hs
 obtain⟨it,fp,tn,J,H2,e,I2,T,st2,f2,W,⟨m0,w0⟩,turn⟩:=h2
 subst e
 have stat:∀ {H':Hp},(∀b∈fp,H' b=none)→∀b∈fp,bY X pins H' b:=fun hn b hb=>⟨hn b hb,(f2 b hb).2⟩
 refine codeAny_forLoop_any (fun n s'=>∃i σ' H',Inv X pins σ' H' s'∧tn i s'.heap∧(∀b∈fp,H' b=none)∧W i n σ' H') ?_ m0 ⟨0,σ,H2,I2,st2,fun b hb=>(f2 b hb).1,w0⟩
 rintro n s3 ⟨i,σ3,H3,I3,st3,fr3,w3⟩
 rcases turn i n σ3 H3 w3 with⟨stop,qn⟩|⟨go,N,hN,step⟩
 · refine wpAny_passesOwn hp (aD (T.done X rfl rfl rfl hc i pins s3 σ3 H3 X.xe I3 (stat fr3) st3 stop) fun r s4 ⟨hr,I4⟩=>?_)
   subst hr
   exact wpAny_execs_nil ⟨σ3,H3,I4,qn⟩
 · refine wpAny_passesOwn hp (aD (T.item X rfl rfl rfl hc i pins s3 σ3 H3 X.xe I3 (stat fr3) st3 go) fun r s4 ⟨u,hr,h4⟩=>?_)
   subst hr
   refine wpAny_passesOwn hp (aD h4 fun _ s5 ⟨x,H5,I5,r5,y5,st5,fr5⟩=>?_)
   have I5':=I5.pinned (stat fr5) (T.obj _ _ st5)
   refine wpAny_passesOwn hp (aD (hg _ s5 σ3 H5 x u _ I5' r5 (step x H5 y5)) fun _ s6 ⟨σ6,H6,I6,q6⟩=>?_)
   refine wpAny_passesOwn hp (aD (hb _ s6 σ6 H6 _ I6 q6) fun f s7 q7=>?_)
   have again:∀ {σ7:St} {H7:Hp},Inv X (pins++iZ fp s5.heap) σ7 H7 s7→N σ7 H7→∃m,m<n∧∃i σ' H',Inv X pins σ' H' s7∧tn i s7.heap∧(∀b∈fp,H' b=none)∧W i m σ' H':=fun {σ7 H7} I7 n7=>by
     obtain⟨m',hm,w7⟩:=hN σ7 H7 n7
     refine⟨m',hm,i+1,σ7,H7,I7.lJ,T.keep _ _ _ st5 fun b hb o e=>(I7.pin (b,o) (List.mem_append_right _ (List.mem_append_right _ (lq hb e)))).1,fun b hb=>?_,w7⟩
     obtain⟨o,e,d⟩:=T.obj _ _ st5 b hb
     exact(I7.pin (b,o) (List.mem_append_right _ (List.mem_append_right _ (lq hb e)))).2.1
   cases f with
   |next=>obtain⟨σ7,H7,I7,n7⟩:=q7;exact again I7 n7
   |cont=>obtain⟨σ7,H7,I7,n7⟩:=q7;exact again I7 n7
   |brk=>obtain⟨σ7,H7,I7,q7⟩:=q7;exact⟨σ7,H7,I7.lJ,q7⟩
   |ret v=>obtain⟨x7,σ7,H7,I7,r7,q7⟩:=q7;exact⟨x7,σ7,H7,I7.lJ,r7,q7⟩
end
end L2
namespace L2
open PySem PySem.Spec PyProof.Rows
noncomputable abbrev R2:=V→V→Hp→VK→Prop
noncomputable def aN(X:Cx)(f:Value→Value→Sem Value)(r:R2):Prop:=
 ∀(pins:List (Addr×Obj)) (s:Shared) (σ:St) (H:Hp) (x y:V) (v u:Value) (Q:VK),Inv X pins σ H s→RelV x v→RelV y u→r x y H Q→
   wpAny (model X.prog X.w) X.A (f v u) (EP X pins σ Q) X.xe s
noncomputable def dY(X:Cx)(f:Value→Sem Value)(r:V→Hp→VK→Prop):Prop:=
 ∀(pins:List (Addr×Obj)) (s:Shared) (σ:St) (H:Hp) (x:V) (v:Value) (Q:VK),Inv X pins σ H s→RelV x v→r x H Q→
   wpAny (model X.prog X.w) X.A (f v) (EP X pins σ Q) X.xe s
noncomputable def aZ(X:Cx)(f:Value)(r:List V→Hp→VK→Prop):Prop:=
 ∀(pins:List (Addr×Obj)) (s:Shared) (σ:St) (H:Hp) (xs:List V) (us:List Value) (Q:VK),Inv X pins σ H s→Vals xs us→r xs H Q→
   wpAny (model X.prog X.w) X.A (call f us) (EP X pins σ Q) X.xe s
noncomputable def yO(X:Cx)(r:V→Hp→(Bool→Hp→Prop)→Prop):Prop:=
 ∀(pins:List (Addr×Obj)) (s:Shared) (σ:St) (H:Hp) (x:V) (v:Value) (Q:Bool→Hp→Prop),Inv X pins σ H s→RelV x v→r x H Q→
   wpAny (model X.prog X.w) X.A (truthy v) (TP X pins σ Q) X.xe s
noncomputable def jQ(r:R2)(ta tb:TE):TE:=fun σ H Q=>ta σ H fun x H1=>tb σ H1 fun y H2=>r x y H2 Q
noncomputable def rI(C:Int→Int→Prop)(g:Int→Int→V):R2:=fun x y H Q=>∃i j,x=.int i∧y=.int j∧C i j∧Q (g i j) H
noncomputable def eJ(g:Int→Int→V):R2:=fun x y H Q=>∃i j,x=.int i∧y=.int j∧Q (g i j) H
section
variable{X:Cx}{a b c:Expr}{ta tb tc:TE}{pos:Pos}
theorem mh(ha:PE X a ta)(hb:PE X b tb){pins:List (Addr×Obj)}{s:Shared}{σ:St}{H:Hp}{R:V→V→Hp→Prop}(I:Inv X pins σ H s)
   (h:ta σ H fun x H1=>tb σ H1 fun y H2=>R x y H2) {Q:Value→Shared→Prop} {f:Value→Value→Sem Value}
   (hf:∀v u s2 x y H2,Inv X pins σ H2 s2→RelV x v→RelV y u→R x y H2→wpAny (model X.prog X.w) X.A (f v u) Q X.xe s2):
   wpAny (model X.prog X.w) X.A (eval a X.env) (fun v s₁=>wpAny (model X.prog X.w) X.A (eval b X.env) (fun u s₂=>wpAny (model X.prog X.w) X.A (f v u) Q X.xe s₂) X.xe s₁) X.xe s:=by
 refine aD (ha pins s σ H _ I h) fun v s1 ⟨x,H1,I1,r1,q1⟩=>?_
 refine aD (hb pins s1 σ H1 _ I1 q1) fun u s2 ⟨y,H2,I2,r2,q2⟩=>?_
 exact hf v u s2 x y H2 I2 r1 r2 q2
theorem Br{op:Operator}{r:R2}(ho:aN X (binaryOp op) r)(ha:PE X a ta)(hb:PE X b tb):PE X (.BinOp a op b pos) (jQ r ta tb):=by
 intro pins s σ H Q I h
 exact wpAny_BinOp (mh ha hb I h fun v u s2 x y H2 I2 rx ry q=>ho pins s2 σ H2 x y v u Q I2 rx ry q)
theorem kE{f:Value→Value→Sem Value}{C:Int→Int→Prop}{g:Int→Int→Int}
   (rule:∀(i j:Int) (t u:Tok) (s:Shared) (Q:Value→Shared→Prop) (E:Value→Shared→Prop),C i j→Q (.int (g i j) s.toks) {s with toks:=s.toks+1}→wpAny (model X.prog X.w) X.A (f (.int i t) (.int j u)) Q E s):
   aN X f (rI C fun i j=>.int (g i j)):=by
 intro pins s σ H x y v u Q I rx ry h
 obtain⟨i,j,rfl,rfl,hc,q⟩:=h
 obtain⟨t,rfl⟩:=rx
 obtain⟨t',rfl⟩:=ry
 exact rule i j t t' s _ _ hc ⟨.int (g i j),H,I.tok _,⟨_,rfl⟩,q⟩
theorem sE{f:Value→Value→Sem Value}{g:Int→Int→Int}
   (rule:∀(i j:Int) (t u:Tok) (s:Shared) (Q:Value→Shared→Prop) (E:Value→Shared→Prop),Q (.int (g i j) s.toks) {s with toks:=s.toks+1}→wpAny (model X.prog X.w) X.A (f (.int i t) (.int j u)) Q E s):
   aN X f (eJ fun i j=>.int (g i j)):=by
 intro pins s σ H x y v u Q I rx ry h
 obtain⟨i,j,rfl,rfl,q⟩:=h
 obtain⟨t,rfl⟩:=rx
 obtain⟨t',rfl⟩:=ry
 exact rule i j t t' s _ _ ⟨.int (g i j),H,I.tok _,⟨_,rfl⟩,q⟩
theorem qe{f:Value→Value→Sem Value}{g:Int→Int→Bool}
   (rule:∀(i j:Int) (t u:Tok) (s:Shared) (Q:Value→Shared→Prop) (E:Value→Shared→Prop),Q (.bool (g i j)) s→wpAny (model X.prog X.w) X.A (f (.int i t) (.int j u)) Q E s):
   aN X f (eJ fun i j=>.bl (g i j)):=by
 intro pins s σ H x y v u Q I rx ry h
 obtain⟨i,j,rfl,rfl,q⟩:=h
 obtain⟨t,rfl⟩:=rx
 obtain⟨t',rfl⟩:=ry
 exact rule i j t t' s _ _ ⟨.bl (g i j),H,I,rfl,q⟩
noncomputable def oX(i j:Int):Prop:=0≤j∧j≤1000000∧i.natAbs<2 ^ 64
noncomputable def kZ(i j:Int):Prop:=(-(2 ^ 64)<i∧i<2 ^ 64)∨(-(2 ^ 64)<j∧j<2 ^ 64)
theorem kZ.ok{i j:Int}(h:kZ i j):IntMulOk i j:=by
 rcases h with⟨h1,h2⟩|⟨h1,h2⟩
 ·exact .of_left (intBits_le_64 h1 h2)
 ·exact .of_right (intBits_le_64 h1 h2)
theorem gb:aN X (binaryOp .Add) (eJ fun i j=>.int (i+j)):=sE fun _ _ _ _ _ _ _ q=>add_int q
theorem An:aN X (binaryOp .Sub) (eJ fun i j=>.int (i - j)):=sE fun _ _ _ _ _ _ _ q=>sub_int q
theorem fJ:aN X (binaryOp .Mult) (rI kZ fun i j=>.int (i*j)):=kE fun _ _ _ _ _ _ _ hc q=>mul_int q hc.ok
theorem cF:aN X (binaryOp .Mod) (rI (fun _ j=>0<j) fun i j=>.int (i % j)):=kE fun i j _ _ _ _ _ hc q=>by
 have h1:(0:Int)<j:=hc
 exact mod_int' (by omega) (by rw[Int.fmod_eq_emod_of_nonneg i (by omega)];exact q)
theorem kT:aN X (binaryOp .Pow) (rI oX fun i j=>.int (i ^ j.toNat)):=kE fun _ _ _ _ _ _ _ hc q=>pow_int_small hc.1 hc.2.1 hc.2.2 q
end
section
variable{X:Cx}{a b c:Expr}{ta tb tc:TE}{pos:Pos}
theorem qC:aN X (compareOp .Gt) (eJ fun i j=>.bl (decide (j<i))):=qe fun _ _ _ _ _ _ _ q=>gt_int q
theorem wC:aN X (compareOp .GtE) (eJ fun i j=>.bl (decide (j≤i))):=qe fun _ _ _ _ _ _ _ q=>ge_int q
theorem aN.or{f:Value→Value→Sem Value}{r r':R2}(h:aN X f r)(h':aN X f r'):aN X f (fun x y H Q=>r x y H Q∨r' x y H Q):=by
 intro pins s σ H x y v u Q I rx ry q
 rcases q with q|q
 ·exact h pins s σ H x y v u Q I rx ry q
 ·exact h' pins s σ H x y v u Q I rx ry q
theorem qQ(b:Expr){op:CmpOp}(h:op≠.In:=by decide)(h2:op≠.NotIn:=by decide):behindInMarks op b=false:=by
 have e1:(op==CmpOp.In)=false:=by cases op<;>first|rfl|exact absurd rfl h
 have e2:(op==CmpOp.NotIn)=false:=by cases op<;>first|rfl|exact absurd rfl h2
 cases b<;>simp[behindInMarks,e1,e2]
theorem uW{op:CmpOp}{r:R2}(ho:aN X (compareOp op) r)(ha:PE X a ta)(hb:PE X b tb)(hm:behindInMarks op b=false):PE X (.Compare a [op] [b] pos) (jQ r ta tb):=by
 intro pins s σ H Q I h
 exact wpAny_Compare1 (mh ha hb I h fun v u s2 x y H2 I2 rx ry q=>ho pins s2 σ H2 x y v u Q I2 rx ry q) hm
noncomputable def uk(t:TE):TT:=fun σ H Q=>t σ H fun x H'=>∃k,x=.bl k∧Q k H'
theorem A4{op:CmpOp}{r:R2}(ho:aN X (compareOp op) r)(ha:PE X a ta)(hb:PE X b tb)(hm:behindInMarks op b=false):PT X (.Compare a [op] [b] pos) (uk (jQ r ta tb)):=by
 intro pins s σ H Q I h
 refine wpAny_isTrue_Compare1 (aD (ha pins s σ H _ I h) fun v s1 ⟨x,H1,I1,r1,q1⟩=>aD (hb pins s1 σ H1 _ I1 q1) fun u s2 ⟨y,H2,I2,r2,q2⟩=>
   aD (ho pins s2 σ H2 x y v u _ I2 r1 r2 q2) fun c s3 ⟨z,H3,I3,r3,k,e,q3⟩=>?_) hm
 subst e
 cases r3
 exact wpAny_truthy_bool ⟨H3,I3,q3⟩
noncomputable def lZ(K:PySem.W.Frag)(x:V)(H:Hp)(k:Bool):Prop:=
 match x with
 |.ai=>k=false
 |.bl b=>k=b
 |.int i=>k=(i != 0)
 |.str y=>y.length≤sizeLine∧k=((y.length:Int) != 0)
 |.iG y=>y.size≤sizeLine∧k=((y.size:Int) != 0)
 |.ref p=>(∃xs,aT K H p xs∧k= !xs.isEmpty)∨(∃xs,aX K H p xs∧k= !xs.isEmpty)∨∃kvs,H p=some (.dK kvs)∧k= !kvs.isEmpty
 |_=>False
theorem AX{κ:Type}{kvs:List (κ×V)}{vs:List (κ×Value)}(r:KV kvs vs):(!vs.isEmpty)= !kvs.isEmpty:=by
 cases r<;>rfl
theorem qi{xs:List V}{its:List Value}(r:Vals xs its):(!its.toArray.isEmpty)= !xs.isEmpty:=by
 cases r<;>simp
theorem gE:(sizeLine:Nat)<2 ^ 63:=by rw[sizeLine_eq];decide
theorem vZ:yO X (fun x H Q=>∃k,lZ X.K x H k∧Q k H):=by
 intro pins s σ H x v Q I rx h
 obtain⟨k,e,q⟩:=h
 have hl:=gE
 have hs:sizeLine=16777216:=sizeLine_eq
 cases x with
 | ai=>
   cases rx
   have e':k=false:=e
   subst e'
   exact truthy_none ⟨H,I,q⟩
 | bl b=>
   cases rx
   have e':k=b:=e
   subst e'
   exact wpAny_truthy_bool ⟨H,I,q⟩
 | int i=>
   obtain⟨t,rfl⟩:=rx
   have e':k=(i != 0):=e
   subst e'
   exact PySem.P.truthy_int ⟨H,I,q⟩
 | str y=>
   obtain⟨t,rfl⟩:=rx
   obtain⟨hy,e'⟩:y.length≤sizeLine∧k=((y.length:Int) != 0):=e
   subst e'
   exact PySem.P.truthy_str (by omega) ⟨H,I.tok _,q⟩
 | iG y=>
   obtain⟨t,rfl⟩:=rx
   obtain⟨hy,e'⟩:y.size≤sizeLine∧k=((y.size:Int) != 0):=e
   subst e'
   exact PySem.W.truthy_bytes (by omega) ⟨H,I.tok _,q⟩
 | ref p=>
   cases rx
   have e':(∃xs,aT X.K H p xs∧k= !xs.isEmpty)∨(∃xs,aX X.K H p xs∧k= !xs.isEmpty)∨∃kvs,H p=some (.dK kvs)∧k= !kvs.isEmpty:=e
   rcases e' with⟨xs,hx,e'⟩|⟨xs,hx,e'⟩|⟨kvs,hx,e'⟩
   · subst e'
     obtain⟨its,r,pl,hz⟩:=I.list hx
     have hlen:=r.length
     exact wpAny_truthy_list pl.isList (by simp only[List.size_toArray];omega) ⟨H,I.tok _,by rw[qi r];exact q⟩
   · subst e'
     obtain⟨its,r,pl,hz⟩:=I.tuple hx
     have hlen:=r.length
     exact truthy_tuple pl (by simp only[List.size_toArray];omega) ⟨H,I.tok _,by rw[qi r];exact q⟩
   · subst e'
     obtain⟨hz,hS,vs,r,m⟩:kvs.length≤sizeLine∧(p==sysModules)=false∧∃vs,KV kvs vs∧s.heap.DictOf (bA X.prog X.w) p vs:=I.aB p _ hx
     have hlen:kvs.length=vs.length:=Paired.length r
     exact wpAny_truthy_dict hS m (by omega) ⟨H,I.tok _,by rw[AX r];exact q⟩
 |_=>exact(show False from e).elim
theorem yg(ha:PE X a ta)(he:∀whole,isTrue a X.env whole=(do let v ←whole;standAt a.pos;holding [v] (truthy v))):
   PT X a (fun σ H Q=>ta σ H fun x H'=>∃k,lZ X.K x H' k∧Q k H'):=by
 intro pins s σ H Q I h
 exact isTrue_plain (aD (ha pins s σ H _ I h) fun v s1 ⟨x,H1,I1,r1,q1⟩=>vZ pins s1 σ H1 x v Q I1 r1 q1) (he _)
theorem AJ:aN X (binaryOp .Add) (fun x y H Q=>∃i j,x=.str i∧y=.str j∧i.length+j.length≤sizeLine∧Q (.str (i++j)) H):=by
 intro pins s σ H x y v u Q I rx ry h
 obtain⟨i,j,rfl,rfl,hz,q⟩:=h
 obtain⟨t,rfl⟩:=rx
 obtain⟨t',rfl⟩:=ry
 exact add_str (fun t' tk=>⟨.str (i++j),H,I.tok _,⟨_,rfl⟩,q⟩) hz
theorem vals1{x:V}{us:List Value}(r:Vals [x] us):∃u,us=[u]∧RelV x u:=by
 cases r with
 |cons r1 r2=>cases r2;exact⟨_,rfl,r1⟩
theorem vals2{x y:V}{us:List Value}(r:Vals [x,y] us):∃u w',us=[u,w']∧RelV x u∧RelV y w':=by
 cases r with
 | cons r1 r2=>
   cases r2 with
   |cons r3 r4=>cases r4;exact⟨_,_,rfl,r1,r3⟩
theorem A1(hc:X.calm=true):aZ X (.builtin "min") (fun xs H Q=>∃i j,xs=[.int i,.int j]∧Q (.int (if j<i then j else i)) H):=by
 intro pins s σ H xs us Q I r h
 obtain⟨i,j,rfl,q⟩:=h
 obtain⟨u,w',rfl,⟨t,rfl⟩,⟨t',rfl⟩⟩:=vals2 r
 refine min_two_ints (I.ok.hd hc) fun h' tk k=>⟨_,H,I.kept k,?_,q⟩
 by_cases hj:j<i
 ·rw[if_pos hj,if_pos hj];exact⟨_,rfl⟩
 ·rw[if_neg hj,if_neg hj];exact⟨_,rfl⟩
end
end L2
namespace L2
open PySem PySem.Spec PyProof.Rows
section
variable{prog:Program}{w:World}{A:Around}{E:Value→Shared→Prop}{s:Shared}{K:PySem.W.Frag}{x dx C f:Addr}{mA:Str→Option Value}{name:Str}{v:Value}
end
theorem cR.some_of{v:V}{o:Option Value}(r:cR (some v) o):∃u,o=some u∧RelV v u:=by
 cases o with
 |none=>exact(show False from r).elim
 |some u=>exact⟨u,rfl,r⟩
theorem cR.none_of{o:Option Value}(r:cR none o):o=none:=by
 cases o with
 |none=>rfl
 |some u=>exact(show False from r).elim
section
variable{P:Program}{w:World}{H H':Hp}{h h':Heap}{a C dx:Addr}{fs fs':List (Str×V)}
end
structure pH(K:PySem.W.Frag)(C:Addr):Prop where
 pg:PySem.W.plainGet K C Str.empty=true
 hd:PySem.W.hasDictIn K C=true
 po:PySem.W.plainOver K C=true
 sa:PySem.W.findIn K (.ref C) "__setattr__"=some (some (.builtin "object.__setattr__"))
theorem pH.get{K:PySem.W.Frag}{C:Addr}(c:pH K C)(f:Str):PySem.W.plainGet K C f=true:=c.pg
section
variable{X:Cx}{pins:List (Addr×Obj)}{σ:St}{H:Hp}{s:Shared}{a C dx:Addr}{fs:List (Str×V)}{f:Str}{v:V}{A:Around}{E:Value→Shared→Prop}
end
section
variable{X:Cx}{o e value:Expr}{f:Str}{pos pos' tpos:Pos}{ta tv:TE}
end
section
variable{X:Cx}{pins:List (Addr×Obj)}{σ:St}{H:Hp}{s:Shared}{A:Around}{E:Value→Shared→Prop}{Q:Value→Shared→Prop}{c:Value}{b:Bool}
end
end L2
namespace L2
open PySem PySem.Spec PyProof.Rows
structure bb(k:Nat)(A:Around):Prop where
 hd:A.handled=none
 dp:A.depth+3*k+5<recursionLimit
 un:A.units+16*k+200<cLine
theorem bb.mono{j k:Nat}{A:Around}(r:bb k A)(h:j≤k):bb j A:=⟨r.hd,by have:=r.dp;omega,by have:=r.un;omega⟩
theorem bb.deeper{k:Nat}{A:Around}(r:bb (k+1) A)(env:Env):bb k (A.deeper env):=
 ⟨r.hd,by have:=r.dp;show A.depth+1+3*k+5<_;omega,by have:=r.un;show A.units+3+16*k+200<_;omega⟩
theorem bb.in1{k:Nat}{A:Around}(r:bb (k+1) A):bb k A.in1:=
 ⟨r.hd,by have:=r.dp;show A.depth+3*k+5<_;omega,by have:=r.un;show A.units+1+16*k+200<_;omega⟩
theorem bb.depth{k:Nat}{A:Around}(r:bb k A):A.depth<recursionLimit:=by have:=r.dp;omega
theorem bb.units{k:Nat}{A:Around}(r:bb k A):A.units+64<cLine:=by have:=r.un;omega
noncomputable def qO:TA:=fun _ H Q=>Q [] H
noncomputable def qP(ta:TE)(tr:TA):TA:=fun σ H Q=>ta σ H fun x H1=>tr σ H1 fun xs H2=>Q (x::xs) H2
section
variable{X:Cx}{e:Expr}{es:List Expr}{te:TE}{t:TA}{pos:Pos}
theorem iS:PA X [] qO:=fun _ _ _ _ H Q I h=>Calls.spliced_nil ⟨[],H,I,.nil,h⟩
theorem ff(ha:PE X e te)(hr:PA X es t)(hs:starEach (e::es) X.env=(false,eval e X.env)::starEach es X.env:=by rfl):PA X (e::es) (qP te t):=by
 intro pos pins s σ H Q I h
 rw[hs]
 show wpAny _ _ (spliced ((false,eval e X.env)::backTo pos (starEach es X.env))) _ _ s
 refine Calls.spliced_cons (aD (ha pins s σ H _ I h) fun u s1 ⟨x,H1,I1,r1,q1⟩=>?_)
 exact aD (hr pos pins s1 σ H1 _ I1 q1) fun us s2 ⟨xs,H2,I2,r2,q2⟩=>⟨x::xs,H2,I2,.cons r1 r2,q2⟩
noncomputable def vm(t:TA):TE:=fun σ H Q=>t σ H fun xs H1=>xs.length≤sizeLine∧∀p,H1 p=none→Q (.ref p) (upd H1 p (.tup xs))
noncomputable def wL(t:TA):TE:=fun σ H Q=>t σ H fun xs H1=>xs.length≤sizeLine∧∀p,H1 p=none→Q (.ref p) (upd H1 p (.lst xs))
theorem mQ{x1}(h:PA X es t):PE X (.Tuple es x1 pos) (vm t):=by
 intro pins s σ H Q I hq
 refine wpAny_Tuple_spliced (aD (h pos pins s σ H _ I hq) fun us s1 ⟨xs,H1,I1,r,z,q⟩=>⟨by rw[←r.length];exact z,?_⟩)
 have hf:H1 s1.heap.objs.size=none:=I1.aB.fresh (Nat.le_refl _)
 refine⟨.ref s1.heap.objs.size,upd H1 s1.heap.objs.size (.tup xs),I1.laid (t':=s1.toks) (fun b u e=>Heap.get?_push_of_some _ e) (Nat.le_refl _) ?_,rfl,q _ hf⟩
 exact⟨z,us,r,⟨_,Heap.get?_push_size _ rfl,rfl,_,rfl⟩⟩
theorem vB(h:PA X es t):PE X (.List es pos) (wL t):=by
 intro pins s σ H Q I hq
 refine wpAny_List_spliced (aD (h pos pins s σ H _ I hq) fun us s1 ⟨xs,H1,I1,r,z,q⟩=>⟨by rw[←r.length];exact z,?_⟩)
 have hf:H1 s1.heap.objs.size=none:=I1.aB.fresh (Nat.le_refl _)
 refine⟨.ref s1.heap.objs.size,upd H1 s1.heap.objs.size (.lst xs),I1.laid (t':=s1.toks) (fun b u e=>Heap.get?_push_of_some _ e) (Nat.le_refl _) ?_,rfl,q _ hf⟩
 exact⟨z,us,0,r,Heap.get?_push_size _ rfl⟩
end
noncomputable abbrev Sp:=List V→Hp→VK→XK→Prop
noncomputable abbrev dC:=List Env→Hp→Shared→XK→Value→Shared→Prop
structure gN(P:Program)(w:World)(K:PySem.W.Frag)(mg:Str→Option Value)(base:Heap)(A:Around)(outer:List Env)(s:Shared)(H:Hp):Prop where
 frames:A.frames=some outer
 mod:Mod K mg base
 bs:∀b o,base.get? b=some o→s.heap.get? b=some o∧H b=none
 fj:base.objs.size≤s.heap.objs.size
 dG:s.heap.FunFrames base outer
 gS:∀b∈bX outer,H b=none
 aB:ba P w H s.heap
 bare:AllBare s.gens
noncomputable def CE(outer:List Env)(P:Program)(w:World)(H:Hp)(s:Shared)(Q:VK)(u:Value)(s':Shared):Prop:=
 ∃v H',s'.os=s.os∧AllBare s'.gens∧Un (bX outer) [] H H' s.heap s'.heap∧ba P w H' s'.heap∧RelV v u∧Q v H'
noncomputable def CR(CX:dC)(outer:List Env)(P:Program)(w:World)(H:Hp)(s:Shared)(Q:VK)(E:XK)(r:Result)(s':Shared):Prop:=
 match r with
 |.ok (.ret u)=>CE outer P w H s Q u s'
 |.ok _=>False
 |.error e=>CX outer H s E e s'
structure b5(P:Program)(w:World)(K:PySem.W.Frag)(mg:Str→Option Value)(base:Heap)(CX:dC)(k:Nat)(f:Addr)(fd:FuncData)(ps:List Str)(sp:Sp):Prop where
 len:∀vs H Q E,sp vs H Q E→vs.length=ps.length
 run:∀(A:Around) (outer:List Env) (s:Shared) (H:Hp) (args:Args) (us:List Value) (vs:List V) (Q:VK) (E:XK),bb k A→gN P w K mg base A outer s H→BindsTo s fd args (ps.zip us)→Vals vs us→sp vs H Q E→
   codeAny (model P w) A (.call (.ref f) args) (CR CX outer P w H s Q E) s
theorem b5.mono{P:Program}{w:World}{K:PySem.W.Frag}{mg:Str→Option Value}{base:Heap}{CX:dC}{j k:Nat}{f:Addr}{fd:FuncData}{ps:List Str}{sp:Sp}(F:b5 P w K mg base CX j f fd ps sp)(h:j≤k):
   b5 P w K mg base CX k f fd ps sp:=⟨F.len,fun A outer s H args us vs Q E hr=>F.run A outer s H args us vs Q E (hr.mono h)⟩
theorem b5.imp{P:Program}{w:World}{K:PySem.W.Frag}{mg:Str→Option Value}{base:Heap}{CX:dC}{k:Nat}{f:Addr}{fd:FuncData}{ps:List Str}{sp sp':Sp}(F:b5 P w K mg base CX k f fd ps sp)
   (h:∀vs H Q E,sp' vs H Q E→sp vs H Q E):b5 P w K mg base CX k f fd ps sp':=
 ⟨fun vs H Q E q=>F.len vs H Q E (h _ _ _ _ q),fun A outer s H args us vs Q E hr he hb hv hs=>F.run A outer s H args us vs Q E hr he hb hv (h _ _ _ _ hs)⟩
theorem gN.in1{P:Program}{w:World}{K:PySem.W.Frag}{mg:Str→Option Value}{base:Heap}{A:Around}{outer:List Env}{s:Shared}{H:Hp}(e:gN P w K mg base A outer s H):
   gN P w K mg base A.in1 outer s H:=⟨e.frames,e.mod,e.bs,e.fj,e.dG,e.gS,e.aB,e.bare⟩
section
variable{X:Cx}{pins:List (Addr×Obj)}{σ:St}{H:Hp}{s s':Shared}
theorem Inv.Aq(I:Inv X pins σ H s):gN X.prog X.w X.K X.mg X.base X.A X.stack s H:=
 ⟨I.ok.frames,I.ok.mod,I.bs,Nat.le_trans I.ok.fj I.sz,I.stack,I.sL,I.aB,I.bare⟩
theorem Inv.after{Q:VK}{u:Value}(I:Inv X pins σ H s)(h:CE X.stack X.prog X.w H s Q u s'):EP X pins σ Q u s':=by
 obtain⟨v,H',os,bare,un,aB,r,q⟩:=h
 obtain⟨hh,g,d,t,os'⟩:=s'
 obtain rfl:os'=s.os:=os
 exact⟨v,H',I.call (h':=hh) (g':=g) (d':=d) (t':=t) (ch:=[]) un aB bare (fun b z=>absurd z (by simp)),r,q⟩
end
noncomputable def lG(sp:Sp)(dvs:List V)(E:XK)(t:TA):TE:=fun σ H Q=>t σ H fun vs H1=>sp (vs++dvs) H1 Q E
noncomputable def Binds(K:PySem.W.Frag)(fd:FuncData)(ps:List Str)(ds:List Value):Prop:=
 ∀(s:Shared) (us:List Value),K.In s.heap→(us++ds).length=ps.length→BindsTo s fd ⟨us,[]⟩ (ps.zip (us++ds))
theorem Binds.all{K:PySem.W.Frag}{fd:FuncData}{ps:List Str}(h:∀us:List Value,us.length=ps.length→bindArgs fd ⟨us,[]⟩=pure (ps.zip us)):Binds K fd ps []:=fun s us _ hl=>by
 rw[List.append_nil]at hl ⊢
 exact .of_eq (h us hl)
noncomputable def Passes(CX:dC)(X:Cx)(E:XK):Prop:=∀(pins:List (Addr×Obj)) (σ:St) (H:Hp) (s:Shared) (e:Value) (s':Shared),Inv X pins σ H s→CX X.stack H s E e s'→X.xe e s'
section
variable{X:Cx}{CX:dC}{k:Nat}{f C:Addr}{fd:FuncData}{ps:List Str}{sp:Sp}{dvs:List V}{ds:List Value}{E:XK}{x m:Str}{p pos apos:Pos}{e o:Expr}{es:List Expr}{ta:TE}{t:TA}
theorem pF{pins:List (Addr×Obj)}{σ:St}{H:Hp}{s:Shared}{Q:VK}{us:List Value}{vs:List V}(F:b5 X.prog X.w X.K X.mg X.base CX k f fd ps sp)(hr:bb k X.A)(hb:Binds X.K fd ps ds)(hd:Vals dvs ds)(hx:Passes CX X E)
   (I:Inv X pins σ H s) (r:Vals vs us) (h:sp (vs++dvs) H Q E):wpAny (model X.prog X.w) X.A (call (.ref f) us) (EP X pins σ Q) X.xe s:=by
 have r2:Vals (vs++dvs) (us++ds):=r.append hd
 have hl:(us++ds).length=ps.length:=by rw[←r2.length];exact F.len _ _ _ _ h
 refine wpAny_call (codeAny_mono (F.run X.A X.stack s H ⟨us,[]⟩ (us++ds) (vs++dvs) Q E hr I.Aq (hb s us I.bI hl) r2 h) fun r s' hq=>?_)
 cases r with
 |error e=>exact hx pins σ H s e s' I hq
 | ok fl=>
   cases fl with
   |ret u=>exact I.after hq
   |next=>exact False.elim hq
   |brk=>exact False.elim hq
   |cont=>exact False.elim hq
theorem oF(F:b5 X.prog X.w X.K X.mg X.base CX k f fd ps sp)(hr:bb k X.A)(hg:Gl X x)(hm:X.mg x=some (.ref f))(hk:PySem.W.keepIn X.K (.ref f)=true)(hb:Binds X.K fd ps ds)(hd:Vals dvs ds)(hx:Passes CX X E)
   (ha:PA X (e::es) t) (hdb:(x==("__debug__":Str))=false:=by decide) (he:starEach (e::es) X.env=(false,eval e X.env)::starEach es X.env:=by rfl) (hpl:(backTo pos (starEach es X.env)).any (·.1)=false:=by rfl):
   PE X (.Call (.Name x p) (e::es) [] pos) (lG sp dvs E t):=by
 intro pins s σ H Q I h
 refine wpAny_Call_Name_kw (mj I hg hm ?_ hdb)
 refine PySem.W.callWith_K (h₀:=X.base) I.ok.mod.kM hk (aD (ha pos pins s σ H _ I h) fun us s1 ⟨vs,H1,I1,r,q⟩=>⟨I1.bI,?_⟩) he hpl
 exact pF F hr hb hd hx I1 r q
theorem AE(F:b5 X.prog X.w X.K X.mg X.base CX k f fd ps sp)(hr:bb k X.A)(hg:Gl X x)(hm:X.mg x=some (.ref f))(hk:PySem.W.keepIn X.K (.ref f)=true)(hb:Binds X.K fd ps ds)(hd:Vals dvs ds)(hx:Passes CX X E)
   (hdb:(x==("__debug__":Str))=false:=by decide):PE X (.Call (.Name x p) [] [] pos) (lG sp dvs E qO):=by
 intro pins s σ H Q I h
 refine wpAny_Call_Name_kw (mj I hg hm ?_ hdb)
 exact PySem.W.callWith_K0 I.bI hk (pF (us:=[]) F hr hb hd hx I .nil h)
end
section
variable{X:Cx}{CX:dC}{k:Nat}{f C:Addr}{fd:FuncData}{ps ks:List Str}{sp:Sp}{E:XK}{x m:Str}{p pos apos kpos:Pos}{e o:Expr}{es:List Expr}{kws:List Keyword}{te ta:TE}{t tk:TA}{nm:Option Str}
variable{g:List Value→List Value→List Value}{gV:List V→List V→List V}
end
structure bF(N P:List Str)(sc:Scope):Prop where
 kind:sc.kind=.function
 co:sc.isCoroutine=false
 gen:sc.isGenerator=false
 nd:N.Nodup
 pre:N.take P.length=P
 par:∀x∈P,sc.names.lookup x=some .local∨sc.names.lookup x=some .cell
 x6:∀y∈sc.names,y.2≠.free
theorem qu{kindOf:Str→Option NameKind}{x:Str}:∀ {binds:List (Str×Value)} {m:Str→Option Value},(∀v,(x,v)∉binds)→bindL kindOf binds m x=m x
 |[],_,_=>rfl
 | (n,v)::r,m,h=>by
   unfold bindL
   rw[qu fun w hw=>h w (List.mem_cons_of_mem _ hw)]
   split
   · have:x≠n:=by rintro rfl;exact h v List.mem_cons_self
     simp[this]
   ·rfl
theorem oW{kindOf:Str→Option NameKind}{x:Str}:∀ {binds:List (Str×Value)} {m:Str→Option Value},(∀v,(x,v)∉binds)→bindC kindOf binds m x=m x
 |[],_,_=>rfl
 | (n,v)::r,m,h=>by
   unfold bindC
   rw[oW fun w hw=>h w (List.mem_cons_of_mem _ hw)]
   split
   ·rfl
   · have:x≠n:=by rintro rfl;exact h v List.mem_cons_self
     simp[this]
theorem sD{kindOf:Str→Option NameKind}{x:Str}{v:Value}:∀ {P:List Str} {vs:List Value} {i:Nat} {m:Str→Option Value},P.Nodup→P[i]? =some x→vs[i]? =some v→kindOf x=some .local→
   bindL kindOf (P.zip vs) m x=some v
 |[],_,_,_,_,h,_,_=>by simp at h
 |_::_,[],_,_,_,_,h,_=>by simp at h
 | p::P,w::vs,0,m,nd,h1,h2,hk=>by
   simp at h1 h2;subst h1;subst h2
   show bindL kindOf ((p,w)::P.zip vs) m p=_
   unfold bindL
   rw[qu fun v hv=>(List.nodup_cons.mp nd).1 (List.of_mem_zip hv).1,if_pos hk]
   simp
 | p::P,w::vs,i+1,m,nd,h1,h2,hk=>by
   show bindL kindOf ((p,w)::P.zip vs) m x=_
   unfold bindL
   exact sD (i:=i) (List.nodup_cons.mp nd).2 (by simpa using h1) (by simpa using h2) hk
theorem qf{kindOf:Str→Option NameKind}{x:Str}{v:Value}:∀ {P:List Str} {vs:List Value} {i:Nat} {m:Str→Option Value},P.Nodup→P[i]? =some x→vs[i]? =some v→kindOf x≠some .local→
   bindC kindOf (P.zip vs) m x=some v
 |[],_,_,_,_,h,_,_=>by simp at h
 |_::_,[],_,_,_,_,h,_=>by simp at h
 | p::P,w::vs,0,m,nd,h1,h2,hk=>by
   simp at h1 h2;subst h1;subst h2
   show bindC kindOf ((p,w)::P.zip vs) m p=_
   unfold bindC
   rw[oW fun v hv=>(List.nodup_cons.mp nd).1 (List.of_mem_zip hv).1,if_neg hk]
   simp
 | p::P,w::vs,i+1,m,nd,h1,h2,hk=>by
   show bindC kindOf ((p,w)::P.zip vs) m x=_
   unfold bindC
   exact qf (i:=i) (List.nodup_cons.mp nd).2 (by simpa using h1) (by simpa using h2) hk
noncomputable def start(N:List Str)(vs:List V):St:=vs.map some++List.replicate (N.length - vs.length) none
noncomputable def d6(CX:dC)(P:Program)(w:World)(K:PySem.W.Frag)(mg:Str→Option Value)(base:Heap)(N:List Str)(qual:Str)(scope:Scope)(f:Addr)(cd:Value)(A:Around)(outer:List Env)(s:Shared)(H:Hp)(E:XK):Cx where
 prog:=P
 w:=w
 K:=K
 mg:=mg
 base:=base
 A:=A.deeper (envOfC qual scope s.heap.objs.size f cd)
 N:=N
 bN:=s
 eV:=H
 env:=envOfC qual scope s.heap.objs.size f cd
 outer:=outer
 stack:=envOfC qual scope s.heap.objs.size f cd::outer
 ex:=[]
 calm:=true
 fn:=fun _=>true
 pn:=[]
 xe:=fun e s'=>wpAny (model P w) (A.deeper (envOfC qual scope s.heap.objs.size f cd)) (leaving (envOfC qual scope s.heap.objs.size f cd) e) (fun _ s''=>CX outer H s E e s'') (fun e' s''=>CX outer H s E e' s'') s'
theorem qE{sc:Scope}{n:Nat}{x:Str}(h:sc.names.lookup x=some .cell):∃c,(cellsFrom n sc.names []).lookup x=some c:=by
 have q:=PySem.W.cellsFrom_some sc.names n [] (.inl h)
 exact Option.isSome_iff_exists.mp q
theorem xg{CX:dC}{P:Program}{w:World}{K:PySem.W.Frag}{mg:Str→Option Value}{base:Heap}{N ps:List Str}{qual:Str}{scope:Scope}{f:Addr}{cd:Value}{A:Around}{outer:List Env}{s s1:Shared}{H:Hp}{E:XK}{us:List Value}{vs:List V}
   (S:bF N ps scope) (hd:A.handled=none) (e0:gN P w K mg base A outer s H) (hl:vs.length=ps.length) (r:Vals vs us)
   (x:InCallC s s.heap.objs.size (bindL (envOfC qual scope s.heap.objs.size f cd).kindOf (ps.zip us) fun _=>none) (cellsFrom (s.heap.objs.size+1) scope.names []) (bindC (envOfC qual scope s.heap.objs.size f cd).kindOf (ps.zip us) fun _=>none) s1):
   Inv (d6 CX P w K mg base N qual scope f cd A outer s H E) [] (start N vs) H s1:=by
 have hpl:ps.length≤N.length:=by have:=congrArg List.length S.pre;rw[List.length_take]at this;omega
 obtain⟨h1,tk,rfl,hk⟩:=x.done
 have noA:∀b:Addr,b∉(d6 CX P w K mg base N qual scope f cd A outer s H E).ex:=fun b z=>absurd (show b∈([]:List Addr)from z) (by simp)
 refine⟨⟨e0.mod,S.kind,rfl,rfl,Nat.le_refl _,fun y z c h1 h2=>?_,fun y hy=>?_,fun y c _ h=>?_,fun _=>hd,Around.frames_deeper e0.frames,.inr ⟨rfl,rfl⟩,fun b z=>absurd z (noA b),e0.bs,e0.fj,fun b _ _=>noA b,fun b z=>absurd z (noA b),e0.dG,e0.gS⟩,
   rfl,e0.bare,Un.kept hk,⟨_,x.toInCall.ns,fun i y v h1 h2 h3=>?_⟩,fun y c h=>⟨_,x.cell y c h⟩,e0.aB.fresh (Nat.le_refl _),fun y c h=>?_,fun p hp=>absurd (show p∈([]:List (Addr×Obj))from hp) (by simp),e0.aB.kept hk,?_⟩
 ·exact name_of_addr x.apart (PySem.mem_of_lookup h1) (PySem.mem_of_lookup h2)
 · have hy:scope.names.lookup y=some .cell∨scope.names.lookup y=some .free:=hy
   rcases hy with hy|hy
   ·exact qE hy
   ·exact absurd rfl (S.x6 _ (PySem.mem_of_lookup hy))
 ·exact Nat.le_of_lt (x.above y c (PySem.mem_of_lookup h))
 · have hi:i<vs.length:=by
     unfold start at h2
     by_cases hi:i<vs.length
     ·exact hi
     · rw[List.getElem?_append_right (by simpa using hi)]at h2
       rw[List.getElem?_replicate]at h2
       split at h2<;>cases h2
   have ha:vs[i]? =some v:=by
     unfold start at h2
     rw[List.getElem?_append_left (by simpa using hi),List.getElem?_map]at h2
     cases e:vs[i]? with
     |none=>rw[e]at h2;cases h2
     |some a=>rw[e]at h2;cases h2;rfl
   obtain⟨u,hu,rv⟩:=r.get ha
   have hp:ps[i]? =some y:=by
     rw[←S.pre,List.getElem?_take_of_lt (by omega)];exact h1
   have ndP:ps.Nodup:=by rw[←S.pre];exact S.nd.sublist (List.take_sublist _ _)
   refine⟨u,rv,?_⟩
   rcases S.par y (List.mem_of_getElem? hp)with k|k
   ·exact .inl ⟨k,sD ndP hp hu k⟩
   · obtain⟨c,e⟩:=qE (n:=s.heap.objs.size+1) k
     refine .inr ⟨.inl k,c,e,?_⟩
     have q:=x.cell y c e
     rw[qf ndP hp hu (by show scope.names.lookup y≠_;rw[k];decide)]at q
     exact q
 ·exact e0.aB.fresh (Nat.le_of_lt (x.above y c (PySem.mem_of_lookup h)))
 · unfold start
   show _=N.length
   rw[List.length_append,List.length_map,List.length_replicate]
   omega
theorem p5{CX:dC}{P:Program}{w:World}{K:PySem.W.Frag}{mg:Str→Option Value}{base:Heap}{k:Nat}{f:Addr}{name qual:Str}{params:Arguments}{body:List Stmt}{scope:Scope}{dV kV doc pm cdv ct oc:Value}{an od:Option Addr}
   {osl:Array (Option Value)} {N ps:List Str} {sp:Sp} (lk:K.lookup f=some ⟨oc,od,.func (PySem.W.fnOf name qual params body scope dV kV doc pm an cdv ct),osl⟩) (hcd:PySem.W.codeIn K cdv qual=true) (S:bF N ps scope)
   (len:∀vs H Q E,sp vs H Q E→vs.length=ps.length)
   (hbody:∀(A:Around) (outer:List Env) (s:Shared) (H:Hp) (vs:List V) (Q:VK) (E:XK),bb k (A.deeper (envOfC qual scope s.heap.objs.size f cdv))→sp vs H Q E→
     ∃t,bz (d6 CX P w K mg base N qual scope f cdv A outer s H E) body t∧t {nx:=fun _ H'=>Q .ai H',rt:=Q} (start N vs) H):
   b5 P w K mg base CX (k+1) f (PySem.W.fnOf name qual params body scope dV kV doc pm an cdv ct) ps sp:=by
 refine⟨len,fun A outer s H args us vs Q E hr e0 hb r hsp=>?_⟩
 have hl:=len _ _ _ _ hsp
 have KX:K.In s.heap:=e0.mod.kM.keeps fun b o e=>(e0.bs b o e).1
 have lim:s.heap.NoLimit:=e0.mod.nolimit.keeps fun b o e=>(e0.bs b o e).1
 have hkind:∀y∈ps.zip us,scope.names.lookup y.1=some .local∨(scope.names.lookup y.1=some .cell∧((cellsFrom (s.heap.objs.size+1) scope.names []).lookup y.1).isSome=true):=fun⟨n,v⟩ hy=>by
   rcases S.par n (List.of_mem_zip hy).1 with q|q
   ·exact .inl q
   ·exact .inr ⟨q,PySem.W.cellsFrom_some _ _ _ (.inl q)⟩
 refine codeAny_call_function hr.depth (KX _ _ lk) rfl S.co S.gen rfl (PySem.W.codeRec_of KX hcd) (hb _ _ _ _ ?_)
 refine wpAny_newFunctionEnv_cells S.kind hkind fun env he s1 x=>?_
 subst he
 refine⟨lim.keeps x.toInCall.keep,codeAny_func ?_⟩
 obtain⟨t,ht,hq⟩:=hbody A outer s H vs Q E (hr.deeper _) hsp
 have I:Inv (d6 CX P w K mg base N qual scope f cdv A outer s H E) [] (start N vs) H s1:=xg S hr.hd e0 hl r x
 refine wpAny_mono (ht [] s1 (start N vs) H _ I hq) (fun fl s' hs=>?_) fun e s' hs=>hs
 have fin:∀ {σ':St} {H':Hp} {v:V} {u:Value},Inv (d6 CX P w K mg base N qual scope f cdv A outer s H E) [] σ' H' s'→RelV v u→Q v H'→CE outer P w H s Q u s':=
   fun {σ' H' v u} J rv q=>⟨v,H',J.os,J.bare,J.base,J.aB,rv,q⟩
 cases fl with
 | ret u=>
   obtain⟨v,σ',H',J,rv,q⟩:=hs
   exact fin J rv q
 | next=>
   obtain⟨σ',H',J,q⟩:=hs
   exact fin (v:=V.ai) (u:=Value.none) J rfl q
 | brk=>
   obtain⟨_,_,_,q⟩:=hs
   exact False.elim q
 | cont=>
   obtain⟨_,_,_,q⟩:=hs
   exact False.elim q
end L2
namespace L2
open PySem PySem.Spec PyProof.Rows
section
variable{X:Cx}{x:Str}{p pos:Pos}{e:Expr}{es:List Expr}{t:TA}{id T:String}{r:List V→Hp→VK→Prop}
noncomputable def oQ(r:List V→Hp→VK→Prop)(t:TA):TE:=fun σ H Q=>t σ H fun vs H1=>r vs H1 Q
theorem lp(hc:aZ X (.builtin id) r)(hg:Gl X x)(hm:X.mg x=none)(hv:bootBuiltins x=some (.builtin id))(ha:PA X (e::es) t)(hn:x≠"__name__":=by decide)(hdb:(x==("__debug__":Str))=false:=by decide)
   (he:starEach (e::es) X.env=(false,eval e X.env)::starEach es X.env:=by rfl) (hpl:(backTo pos (starEach es X.env)).any (·.1)=false:=by rfl):PE X (.Call (.Name x p) (e::es) [] pos) (oQ r t):=by
 intro pins s σ H Q I h
 refine wpAny_Call_Name_kw (jN I hg hm hv ?_ hn hdb)
 exact PyProof.Rows.callWith_builtin1 (aD (ha pos pins s σ H _ I h) fun us s1 ⟨vs,H1,I1,r1,q1⟩=>hc pins s1 σ H1 vs us Q I1 r1 q1) he hpl
theorem kN(hc:aZ X (.type T) r)(hg:Gl X x)(hm:X.mg x=none)(hv:bootBuiltins x=some (.type T))(ha:PA X (e::es) t)(hn:x≠"__name__":=by decide)(hdb:(x==("__debug__":Str))=false:=by decide)
   (he:starEach (e::es) X.env=(false,eval e X.env)::starEach es X.env:=by rfl) (hpl:(backTo pos (starEach es X.env)).any (·.1)=false:=by rfl):PE X (.Call (.Name x p) (e::es) [] pos) (oQ r t):=by
 intro pins s σ H Q I h
 refine wpAny_Call_Name_kw (jN I hg hm hv ?_ hn hdb)
 exact PyProof.Rows.callWith_type1 (aD (ha pos pins s σ H _ I h) fun us s1 ⟨vs,H1,I1,r1,q1⟩=>hc pins s1 σ H1 vs us Q I1 r1 q1) he hpl
end
end L2
namespace HT
open PySem PyProof.Rows
section
open PySem.SeqAt
open PySem.AutoSeq1 (wpAny_loadPart')
open PySem.MeetsSeq PySem.MeetsSeq2 PySem.MeetsSeq3
end
section
variable{prog:Program}{w:World}{A:Around}{E:Value→Shared→Prop}{s:Shared}
theorem tX{t b:Addr}{vs ws:List Value}{Q:Value→Shared→Prop}(ht:IsTup s.heap t vs.toArray)(hb:IsTup s.heap b ws.toArray)(hv:vs≠[])
   (h1:ws=[]→Q (.ref t) s) (h2:ws≠[]→Q (.ref s.heap.objs.size) {s with heap:=s.heap.push {cls:=.type "tuple",data:=.seq (vs++ws).toArray} })
   (hsz:vs.length+ws.length≤sizeLine):wpAny (model prog w) A (binaryOp .Add (.ref t) (.ref b)) Q E s:=by
 obtain⟨⟨cls,dd,data,sl⟩,ho,hc,n,hd⟩:=id ht
 obtain⟨⟨cls2,dd2,data2,sl2⟩,ho2,hc2,n2,hd2⟩:=id hb
 simp only at hc hd hc2 hd2
 subst hc hd hc2 hd2
 have e:vs.toArray++ws.toArray=(vs++ws).toArray:=by simp
 by_cases hw:ws=[]
 · exact concat_meets ⟨_,ho,rfl⟩ ⟨_,ho2,rfl⟩ noFill_tuple_add seq_tuple_add PySem.F.slot_tuple_add PySem.F.entry_tuple_add (PySem.F.args_tuple_add_2 _ _)
     (tuple_addW1 t b vs.toArray ws.toArray n n2 dd dd2 sl sl2 (by simpa using hv) (by simp[hw])) ⟨ho,ho2,h1 hw⟩
 · refine concat_meets ⟨_,ho,rfl⟩ ⟨_,ho2,rfl⟩ noFill_tuple_add seq_tuple_add PySem.F.slot_tuple_add PySem.F.entry_tuple_add (PySem.F.args_tuple_add_2 _ _)
     (tuple_addW2 t b vs.toArray ws.toArray n n2 dd dd2 sl sl2 (by simpa using hv) (by simpa using hw) (by rw[List.size_toArray,List.size_toArray];exact hsz)) ⟨ho,ho2,?_⟩
   rw[e]
   exact h2 hw
noncomputable def b3(n d:Nat):Option Int→Nat
 |none=>d
 |some v=>if v<0 then(v+(n:Int)).toNat else min v.toNat n
end
end HT
namespace L2
open PySem PySem.Spec PyProof.Rows
noncomputable abbrev TO:=St→Hp→(Option Int→Hp→Prop)→Prop
section
variable{X:Cx}{e:Expr}{te:TE}{lo hi:Option Expr}{tl th:TO}{pos p2:Pos}
noncomputable def jv(X:Cx)(r:V→Option Int→Option Int→Hp→VK→Prop):Prop:=
 ∀(pins:List (Addr×Obj)) (s:Shared) (σ:St) (H:Hp) (x:V) (v vl vu:Value) (lo hi:Option Int) (sl:Addr) (Q:VK),Inv X pins σ H s→RelV x v→s.heap.IsSliceOf sl vl vu .none→IsPart vl lo→IsPart vu hi→r x lo hi H Q→
   ∃T id,typeLookup (.type T) "__getitem__"=pure (some (.builtin id))∧s.TypeIs v T∧wpAny (model X.prog X.w) X.A (getItem v (.ref sl)) (EP X pins σ Q) X.xe s
theorem jv.or{r r':V→Option Int→Option Int→Hp→VK→Prop}(h:jv X r)(h':jv X r'):jv X (fun x lo hi H Q=>r x lo hi H Q∨r' x lo hi H Q):=by
 intro pins s σ H x v vl vu lo hi sl Q I rx hs pl pu q
 rcases q with q|q
 ·exact h pins s σ H x v vl vu lo hi sl Q I rx hs pl pu q
 ·exact h' pins s σ H x v vl vu lo hi sl Q I rx hs pl pu q
noncomputable def ju(xs:List V)(lo hi:Option Int):List V:=(xs.drop (HT.b3 xs.length 0 lo)).take (HT.b3 xs.length xs.length hi - HT.b3 xs.length 0 lo)
theorem uK(xs:List V)(lo hi:Option Int):(ju xs lo hi).length≤xs.length:=by
 unfold ju
 rw[List.length_take,List.length_drop]
 omega
noncomputable def qZ(K:PySem.W.Frag):R2:=fun x y H Q=>∃a b xs ys,x=.ref a∧y=.ref b∧aX K H a xs∧aX K H b ys∧xs≠[]∧xs.length+ys.length≤sizeLine∧
 (ys=[]→Q (.ref a) H)∧(ys≠[]→∀p,H p=none→Q (.ref p) (upd H p (.tup (xs++ys))))
theorem Vals.nv{xs:List V}{us:List Value}(r:Vals xs us):us=[]↔xs=[]:=by
 cases r with
 |nil=>simp
 |cons _ _=>simp
theorem zy:aN X (binaryOp .Add) (qZ X.K):=by
 intro pins s σ H x y v u Q I rx ry h
 obtain⟨a,b,xs,ys,rfl,rfl,ha,hb,hx,hz,q1,q2⟩:=h
 cases rx
 cases ry
 obtain⟨its,r1,p1,_⟩:=I.tuple ha
 obtain⟨its2,r2,p2,_⟩:=I.tuple hb
 refine HT.tX p1 p2 (fun z=>hx (r1.nv.mp z)) (fun z=>⟨.ref a,H,I,rfl,q1 (r2.nv.mp z)⟩) (fun z=>?_) (by rw[←r1.length, ←r2.length];exact hz)
 refine⟨.ref s.heap.objs.size,_,I.laid (t':=s.toks) (o:=.tup (xs++ys)) (fun b ob q=>Heap.get?_push_of_some _ q) (Nat.le_refl _) ?_,rfl,q2 (fun w=>z (r2.nv.mpr w)) _ (I.aB.fresh (Nat.le_refl _))⟩
 exact⟨by rw[List.length_append];exact hz,_,r1.append r2,IsTup.new _ _⟩
end
end L2
namespace L2
open PySem PySem.Spec PyProof.Rows
noncomputable def cA(n:Nat)(i:Int):Option Nat:=if 0≤i then(if i<n then some i.toNat else none)else if -(n:Int)≤i then some (i+n).toNat else none
noncomputable def bW{α:Type}(xs:List α)(i:Int):Option α:=(cA xs.length i).bind fun j=>xs[j]?
theorem rl{n:Nat}{i:Int}{j:Nat}(h:cA n i=some j):seqIndex? i n=some j∧j<n∧ -(n:Int)≤i∧i<n:=by
 unfold cA at h
 by_cases h0:0≤i
 · rw[if_pos h0]at h
   by_cases h1:i<n
   · rw[if_pos h1]at h
     have e:i.toNat=j:=Option.some.inj h
     exact⟨by rw[seqIndex_of h0 h1,e],by omega,by omega,h1⟩
   ·rw[if_neg h1]at h;cases h
 · rw[if_neg h0]at h
   by_cases h1: -(n:Int)≤i
   · rw[if_pos h1]at h
     have e:(i+n).toNat=j:=Option.some.inj h
     exact⟨by rw[seqIndex_neg (by omega) h1,e],by omega,h1,by omega⟩
   ·rw[if_neg h1]at h;cases h
theorem lW{α:Type}{xs:List α}{i:Int}{v:α}(h:bW xs i=some v):∃j,seqIndex? i xs.length=some j∧xs[j]? =some v∧j<xs.length∧ -(xs.length:Int)≤i∧i<xs.length:=by
 unfold bW at h
 cases e:cA xs.length i with
 |none=>rw[e]at h;cases h
 | some j=>
   rw[e]at h
   obtain⟨h1,h2,h3,h4⟩:=rl e
   exact⟨j,h1,h,h2,h3,h4⟩
noncomputable def gf(b:Expr):Prop:=∀o i,subscripted b false o i=operate [o,i] (getItem o i)
noncomputable def dn(X:Cx)(r:R2):Prop:=
 ∀(value slice:Expr) (pins:List (Addr×Obj)) (s:Shared) (σ:St) (H:Hp) (x y:V) (v u:Value) (Q:VK),Inv X pins σ H s→RelV x v→RelV y u→r x y H Q→
   subscripted slice false v u=operate [v,u] (getItem v u)→wpAny (model X.prog X.w) X.A (subscriptTail value slice v u) (EP X pins σ Q) X.xe s
noncomputable def j5(X:Cx)(id:String)(r:V→List V→Hp→VK→Prop):Prop:=
 ∀(pins:List (Addr×Obj)) (s:Shared) (σ:St) (H:Hp) (x:V) (xs:List V) (v:Value) (us:List Value) (Q:VK),Inv X pins σ H s→RelV x v→Vals xs us→r x xs H Q→
   wpAny (model X.prog X.w) X.A (call (.builtin id) (v::us)) (EP X pins σ Q) X.xe s
section
variable{X:Cx}{a b:Expr}{ta tb:TE}{pos:Pos}
theorem dn.or{r r':R2}(h:dn X r)(h':dn X r'):dn X (fun x y H Q=>r x y H Q∨r' x y H Q):=by
 intro value slice pins s σ H x y v u Q I rx ry q hs
 rcases q with q|q
 ·exact h value slice pins s σ H x y v u Q I rx ry q hs
 ·exact h' value slice pins s σ H x y v u Q I rx ry q hs
theorem j5.or{id:String}{r r':V→List V→Hp→VK→Prop}(h:j5 X id r)(h':j5 X id r'):j5 X id (fun x xs H Q=>r x xs H Q∨r' x xs H Q):=by
 intro pins s σ H x xs v us Q I rx rs q
 rcases q with q|q
 ·exact h pins s σ H x xs v us Q I rx rs q
 ·exact h' pins s σ H x xs v us Q I rx rs q
theorem mw{r:R2}(hr:dn X r)(ha:PE X a ta)(hb:PE X b tb)(hs:gf b):PE X (.Subscript a b pos) (jQ r ta tb):=by
 intro pins s σ H Q I h
 exact Subscript_ (mh ha hb I h fun v u s2 x y H2 I2 rx ry q=>hr a b pins s2 σ H2 x y v u Q I2 rx ry q (hs _ _))
noncomputable def oV(K:PySem.W.Frag):R2:=fun x y H Q=>∃p xs i v,x=.ref p∧y=.int i∧aT K H p xs∧bW xs i=some v∧Q v H
noncomputable def sy(K:PySem.W.Frag):R2:=fun x y H Q=>∃p xs i v,x=.ref p∧y=.int i∧aX K H p xs∧bW xs i=some v∧Q v H
noncomputable def q8:R2:=fun x y H Q=>∃z i c,x=.str z∧y=.int i∧z.length≤sizeLine∧bW z.cps.toList i=some c∧Q (.str ⟨#[c]⟩) H
theorem Ac:dn X (oV X.K):=by
 intro value slice pins s σ H x y v u Q I rx ry h hs
 obtain⟨p,xs,i,z,rfl,rfl,hq,he,q⟩:=h
 cases rx
 obtain⟨t,rfl⟩:=ry
 obtain⟨its,r,pl,hz⟩:=I.list hq
 obtain⟨j,h1,h2,h3,h4,h5⟩:=lW he
 obtain⟨w,ew,rw'⟩:=r.get h2
 have hl:=r.length
 have hn:=gE
 have fin:EP X pins σ Q w s:=⟨z,H,I,rw',q⟩
 by_cases h0:0≤i
 · have hj:i.toNat=j:=by
     rw[seqIndex_of h0 h5]at h1
     exact Option.some.inj h1
   exact item_listR pl.isList h0 (by omega) (by rw[hj];simpa using ew) fin hs
 · have hj:(i+(its.toArray.size:Int)).toNat=j:=by
     rw[seqIndex_neg (by omega) h4]at h1
     rw[List.size_toArray, ←hl]
     exact Option.some.inj h1
   exact subscriptTail_builtinR (x:=w) pl.isList.typeIs slot_list_getitem.lookup
     (wpAny_getItem_list_neg (Q:=fun r s'=>r=w∧EP X pins σ Q r s') pl.isList (by omega) (by rw[List.size_toArray]<;>omega) (by omega) (by rw[hj];simpa using ew) ⟨rfl,fin⟩) hs
theorem Bd:dn X (sy X.K):=by
 intro value slice pins s σ H x y v u Q I rx ry h hs
 obtain⟨p,xs,i,z,rfl,rfl,hq,he,q⟩:=h
 cases rx
 obtain⟨t,rfl⟩:=ry
 obtain⟨its,r,pl,hz⟩:=I.tuple hq
 obtain⟨j,h1,h2,h3,h4,h5⟩:=lW he
 obtain⟨w,ew,rw'⟩:=r.get h2
 have hl:=r.length
 have hn:=gE
 have fin:EP X pins σ Q w s:=⟨z,H,I,rw',q⟩
 exact subscriptTail_builtinR (x:=w) pl.typeIs slot_tuple_getitem.lookup
   (getItem_tuple (j:=j) (Q:=fun r s'=>r=w∧EP X pins σ Q r s') pl (by omega) (by omega) (by rw[List.size_toArray, ←hl];exact h1) (by simpa using ew) ⟨rfl,fin⟩) hs
theorem uj:dn X q8:=by
 intro value slice pins s σ H x y v u Q I rx ry h hs
 obtain⟨z,i,c,rfl,rfl,hz,he,q⟩:=h
 obtain⟨t,rfl⟩:=rx
 obtain⟨t',rfl⟩:=ry
 obtain⟨j,h1,h2,h3,h4,h5⟩:=lW he
 have hl:z.cps.toList.length=z.length:=by simp[Str.length]
 rw[hl]at h1 h4 h5
 have hn:=gE
 exact tail_any (typeIs_str s z t) slot_str_getitem.lookup (getItem_str (c:=c) (by
   have e1:decide (i< -(2 ^ 63:Int))=false:=decide_eq_false (by omega)
   have e2:decide (i≥2 ^ 63)=false:=decide_eq_false (by omega)
   rw[e1,e2,Bool.or_false]) (by rw[h1];simpa using h2) ⟨.str ⟨#[c]⟩,H,I.tok _,⟨_,rfl⟩,q⟩) hs
noncomputable def lj(K:PySem.W.Frag):R2:=fun x y H Q=>oV K x y H Q∨sy K x y H Q∨q8 x y H Q
theorem qG:dn X (lj X.K):=Ac.or (Bd.or uj)
theorem yh(its:List Value)(n j:Nat)(u:Value):Obj.mapSeq (·.setIfInBounds j u) {cls:=.type "list",data:=.seq its.toArray n}={cls:=.type "list",data:=.seq (its.set j u).toArray n}:=by
 simp[Obj.mapSeq]
theorem Inv.lst{pins:List (Addr×Obj)}{σ:St}{H:Hp}{s:Shared}{p:Addr}{xs:List V}(I:Inv X pins σ H s)(h:H p=some (.lst xs)):
   ∃(its:List Value) (n:Nat),Vals xs its∧s.heap.get? p=some {cls:=.type "list",data:=.seq its.toArray n}∧xs.length≤sizeLine:=by
 obtain⟨z,its,n,r,e⟩:=I.aB p _ h
 exact⟨its,n,r,e,z⟩
theorem Inv.Bt{pins:List (Addr×Obj)}{σ:St}{H:Hp}{s:Shared}{p:Addr}{xs ys:List V}{its its':List Value}{n n':Nat}{f:Obj→Obj}(I:Inv X pins σ H s)(h:H p=some (.lst xs))
   (ho:s.heap.get? p=some {cls:=.type "list",data:=.seq its.toArray n}) (hf:f {cls:=.type "list",data:=.seq its.toArray n}={cls:=.type "list",data:=.seq its'.toArray n'}) (r:Vals ys its') (hz:ys.length≤sizeLine) (t:Nat):
   Inv X pins σ (upd H p (.lst ys)) {s with heap:=s.heap.update p f,toks:=t}:=by
 have e:(s.heap.update p f).get? p=some {cls:=.type "list",data:=.seq its'.toArray n'}:=by
   rw[Heap.get?_update_self f ho (by rw[hf]<;>rfl),hf]
 refine I.write (x:=p) (e:=p) (by rw[h];trivial) (.inl rfl) (fun b u hb q=>(Heap.get?_update_other _ _ (Ne.symm hb)).trans q) ⟨_,e⟩ ?_
 exact⟨hz,its',n',r,e⟩
noncomputable def v5:V→V→V→Hp→(Hp→Prop)→Prop:=fun o i v H Q=>∃p xs k j,o=.ref p∧i=.int k∧H p=some (.lst xs)∧cA xs.length k=some j∧Q (upd H p (.lst (xs.set j v)))
theorem set_list:qJ X v5:=by
 intro pins s σ H o i v ov iv u Q I ro ri rv h
 obtain⟨p,xs,k,j,rfl,rfl,hp,hj,q⟩:=h
 cases ro
 obtain⟨t,rfl⟩:=ri
 obtain⟨its,n,r,ho,hz⟩:=I.lst hp
 obtain⟨h1,h2,h3,h4⟩:=rl hj
 have hl:=r.length
 have hn:=gE
 have I':Inv X pins σ (upd H p (.lst (xs.set j v))) {s with heap:=s.heap.update p (Obj.mapSeq (·.setIfInBounds j u))}:=
   I.Bt hp ho (yh its n j u) (r.set rv j) (by rw[List.length_set];exact hz) s.toks
 by_cases h0:0≤k
 · have hk:k.toNat=j:=by
     rw[seqIndex_of h0 h4]at h1
     exact Option.some.inj h1
   exact PySem.W.ki_setAt ho h0 (by omega) (by rw[List.size_toArray, ←hl];exact h4) (by rw[hk];exact⟨_,I',q⟩)
 · have hk:(k+(its.toArray.size:Int)).toNat=j:=by
     rw[seqIndex_neg (by omega) h3]at h1
     rw[List.size_toArray, ←hl]
     exact Option.some.inj h1
   exact PySem.W.ki_setBack ho (by omega) (by rw[List.size_toArray, ←hl];exact h3) (by omega) (by rw[hk];exact⟨_,I',q⟩)
theorem xy(lo hi:Option Int)(n:Nat):(sliceBounds lo hi none n).1=((HT.b3 n 0 lo:Nat):Int)∧(sliceBounds lo hi none n).2.1=((HT.b3 n n hi:Nat):Int)∧(sliceBounds lo hi none n).2.2=1:=by
 refine⟨?_,?_,rfl⟩
 · cases lo with
   |none=>simp[sliceBounds,HT.b3]
   | some i=>
     simp only[sliceBounds,HT.b3,Option.getD_none,show(1:Int)>0 by decide,if_true]
     by_cases h:i<0
     ·simp only[h,if_true]<;>omega
     ·simp only[h,if_false]<;>omega
 · cases hi with
   |none=>simp[sliceBounds,HT.b3]
   | some i=>
     simp only[sliceBounds,HT.b3,Option.getD_none,show(1:Int)>0 by decide,if_true]
     by_cases h:i<0
     ·simp only[h,if_true]<;>omega
     ·simp only[h,if_false]<;>omega
theorem t8(its:List Value)(lo hi:Option Int):slicePick its.toArray lo hi none=((its.drop (HT.b3 its.length 0 lo)).take (HT.b3 its.length its.length hi - HT.b3 its.length 0 lo)).toArray:=by
 obtain⟨h1,h2,h3⟩:=xy lo hi its.toArray.size
 unfold slicePick
 rw[h1,h2,h3]
 simp only[sliceRange_one,pick_run,List.size_toArray]<;>rfl
noncomputable def zI(K:PySem.W.Frag):V→Option Int→Option Int→Hp→VK→Prop:=fun x lo hi H Q=>∃a xs,x=.ref a∧aT K H a xs∧∀p,H p=none→Q (.ref p) (upd H p (.lst (ju xs lo hi)))
theorem Cv:jv X (zI X.K):=by
 intro pins s σ H x v vl vu lo hi sl Q I rx hs pl pu h
 obtain⟨a,xs,rfl,hx,q⟩:=h
 cases rx
 obtain⟨its,r,ht,hz⟩:=I.list hx
 have hlen:=r.length
 refine⟨"list",_,slot_list_getitem.lookup,ht.isList.typeIs,?_⟩
 refine wpAny_getItem_list_slice ht.isList hs pl pu .none (by simp) ?_ (by rw[List.size_toArray]<;>omega)
 rw[t8, ←hlen]
 refine⟨.ref s.heap.objs.size,_,I.laid (t':=s.toks) (o:=.lst (ju xs lo hi)) (fun b ob q=>Heap.get?_push_of_some _ q) (Nat.le_refl _) ?_,rfl,q _ (I.aB.fresh (Nat.le_refl _))⟩
 exact⟨Nat.le_trans (uK xs lo hi) hz,_,0,(r.drop (HT.b3 xs.length 0 lo)).take (HT.b3 xs.length xs.length hi - HT.b3 xs.length 0 lo),Heap.get?_push_size _ rfl⟩
noncomputable def eQ:V→Bool
 |.ai=>true
 |.bl _=>true
 |.int _=>true
 |.str _=>true
 |_=>false
noncomputable def d9:V→V→Bool
 |.ai,.ai=>true
 |.bl a,.bl b=>a==b
 |.bl a,.int b=>(if a then 1 else 0)==b
 |.int a,.bl b=>a==(if b then 1 else 0)
 |.int a,.int b=>a==b
 |.str a,.str b=>a==b
 |_,_=>false
theorem xC{A:Around}{s:Shared}{y x:V}{u v:Value}(ry:RelV y u)(rx:RelV x v)(fy:eQ y=true)(fx:eQ x=true):SeqAt.EqAt A s u v (d9 y x):=by
 cases y with
 | ai=>
   cases ry
   cases x with
   |ai=>cases rx;exact SeqAt.EqAt.same _
   |bl b=>cases rx;exact SeqAt.EqAt.none_bool b
   |int b=>obtain⟨t,rfl⟩:=rx;exact SeqAt.EqAt.none_int b t
   |str b=>obtain⟨t,rfl⟩:=rx;exact SeqAt.EqAt.none_str b t
   |_=>exact absurd (show false=true from fx) Bool.false_ne_true
 | bl a=>
   cases ry
   cases x with
   |ai=>cases rx;exact SeqAt.EqAt.bool_none a
   |bl b=>cases rx;exact SeqAt.EqAt.bool_bool a b
   |int b=>obtain⟨t,rfl⟩:=rx;exact SeqAt.EqAt.bool_int a b t
   |str b=>obtain⟨t,rfl⟩:=rx;exact SeqAt.EqAt.bool_str a b t
   |_=>exact absurd (show false=true from fx) Bool.false_ne_true
 | int a=>
   obtain⟨t',rfl⟩:=ry
   cases x with
   |ai=>cases rx;exact SeqAt.EqAt.int_none a t'
   |bl b=>cases rx;exact SeqAt.EqAt.int_bool a t' b
   |int b=>obtain⟨t,rfl⟩:=rx;exact SeqAt.EqAt.int_int a t' b t
   |str b=>obtain⟨t,rfl⟩:=rx;exact SeqAt.EqAt.int_str a t' b t
   |_=>exact absurd (show false=true from fx) Bool.false_ne_true
 | str a=>
   obtain⟨t',rfl⟩:=ry
   cases x with
   |ai=>cases rx;exact SeqAt.EqAt.str_none a t'
   |bl b=>cases rx;exact SeqAt.EqAt.str_bool a t' b
   |int b=>obtain⟨t,rfl⟩:=rx;exact SeqAt.EqAt.str_int a t' b t
   |str b=>obtain⟨t,rfl⟩:=rx;exact SeqAt.EqAt.str_str a t' b t
   |_=>exact absurd (show false=true from fx) Bool.false_ne_true
 |_=>exact absurd (show false=true from fy) Bool.false_ne_true
noncomputable def fG(x:V)(u:Value):Bool:=match u with
 |.none=>d9 .ai x
 |.bool b=>d9 (.bl b) x
 |.int i _=>d9 (.int i) x
 |.str z _=>d9 (.str z) x
 |_=>false
theorem pq{x y:V}{u:Value}(r:RelV y u)(f:eQ y=true):fG x u=d9 y x:=by
 cases y with
 |ai=>cases r;rfl
 |bl b=>cases r;rfl
 |int i=>obtain⟨t,rfl⟩:=r;rfl
 |str z=>obtain⟨t,rfl⟩:=r;rfl
 |_=>exact absurd (show false=true from f) Bool.false_ne_true
theorem m4{x:V}:∀ {xs:List V} {us:List Value},Vals xs us→xs.all eQ=true→us.any (fG x)=xs.any fun y=>d9 y x
 |_,_,.nil,_=>rfl
 | y::xs,u::us,.cons r t,f=>by
   rw[List.all_cons,Bool.and_eq_true]at f
   rw[List.any_cons,List.any_cons,pq r f.1,m4 t f.2]
theorem my{A:Around}{s:Shared}{x:V}{v:Value}(rx:RelV x v)(fx:eQ x=true):∀ {xs:List V} {us:List Value},Vals xs us→xs.all eQ=true→∀u∈us,SeqAt.EqAt A s u v (fG x u)
 |_,_,.nil,_=>fun u hu=>by cases hu
 | y::xs,u::us,.cons r t,f=>fun u' hu=>by
   rw[List.all_cons,Bool.and_eq_true]at f
   rcases List.mem_cons.mp hu with rfl|hu
   ·rw[pq r f.1];exact xC r rx f.1 fx
   ·exact my rx fx t f.2 u' hu
noncomputable def kG(x:V)(xs:List V):Bool:=xs.any fun y=>d9 y x
noncomputable def wH(K:PySem.W.Frag)(neg:Bool):R2:=fun x y H Q=>∃p xs,y=.ref p∧(aT K H p xs∨aX K H p xs)∧eQ x=true∧xs.all eQ=true∧Q (.bl (if neg then !kG x xs else kG x xs)) H
theorem Az:aN X (compareOp .In) (wH X.K false):=by
 intro pins s σ H x y v u Q I rx ry h
 obtain⟨p,xs,rfl,hq,fx,fs,q⟩:=h
 cases ry
 rcases hq with hq|hq
 · obtain⟨its,r,pl,hz⟩:=I.list hq
   refine SeqAt.in_listAt (fG x) pl.isList (fun w hw=>my rx fx r fs w (by simpa using hw)) ⟨.bl _,H,I,rfl,?_⟩
   rw[show its.toArray.any (fG x)=its.any (fG x) by simp,m4 r fs]
   exact q
 · obtain⟨its,r,pl,hz⟩:=I.tuple hq
   refine SeqAt.in_tupleAt (fG x) pl (fun w hw=>my rx fx r fs w (by simpa using hw)) ⟨.bl _,H,I,rfl,?_⟩
   rw[show its.toArray.any (fG x)=its.any (fG x) by simp,m4 r fs]
   exact q
theorem vq:aZ X (.builtin "len") (fun xs H Q=>∃p ys,xs=[.ref p]∧(aT X.K H p ys∨aX X.K H p ys)∧Q (.int ys.length) H):=by
 intro pins s σ H xs us Q I r h
 obtain⟨p,ys,rfl,hq,q⟩:=h
 obtain⟨u,rfl,rx⟩:=vals1 r
 cases rx
 have hn:=gE
 rcases hq with hq|hq
 · obtain⟨its,r',pl,hz⟩:=I.list hq
   have hlen:=r'.length
   exact Calls.call_len_list pl.isList (by simp only[List.size_toArray]<;>omega) ⟨.int ys.length,H,I.tok _,⟨s.toks+1,by rw[List.size_toArray,hlen]⟩,q⟩
 · obtain⟨its,r',pl,hz⟩:=I.tuple hq
   have hlen:=r'.length
   exact len_tuple pl (by simp only[List.size_toArray]<;>omega) ⟨.int ys.length,H,I.tok _,⟨s.toks+1,by rw[List.size_toArray,hlen]⟩,q⟩
theorem vf:aZ X (.builtin "len") (fun xs H Q=>∃z,xs=[.str z]∧z.length≤sizeLine∧Q (.int z.length) H):=by
 intro pins s σ H xs us Q I r h
 obtain⟨z,rfl,hz,q⟩:=h
 obtain⟨u,rfl,t,rfl⟩:=vals1 r
 have hn:=gE
 exact len_str (by omega) ⟨.int z.length,H,I.tok _,⟨_,rfl⟩,q⟩
theorem aZ.or{f:Value}{r r':List V→Hp→VK→Prop}(h:aZ X f r)(h':aZ X f r'):aZ X f (fun xs H Q=>r xs H Q∨r' xs H Q):=by
 intro pins s σ H xs us Q I rs q
 rcases q with q|q
 ·exact h pins s σ H xs us Q I rs q
 ·exact h' pins s σ H xs us Q I rs q
theorem A9:aZ X (.type "list") (fun xs H Q=>∃p ys,xs=[.ref p]∧(aT X.K H p ys∨aX X.K H p ys)∧∀l,H l=none→Q (.ref l) (upd H l (.lst ys))):=by
 intro pins s σ H xs us Q I r h
 obtain⟨p,ys,rfl,hq,q⟩:=h
 obtain⟨u,rfl,rx⟩:=vals1 r
 cases rx
 have fin:∀(its:List Value),Vals ys its→ys.length≤sizeLine→∀(h':Heap) (c':Nat),(∀b o',s.heap.get? b=some o'→h'.get? b=some o')→
     h'.get? s.heap.objs.size=some {cls:=.type "list",dict:=none,data:=.seq its.toArray c',slots:= #[]}→EP X pins σ Q (.ref s.heap.objs.size) {s with heap:=h'}:=fun its r' hz h' c' kp e=>
   ⟨.ref s.heap.objs.size,_,I.laid (t':=s.toks) kp (Nat.le_refl _) (show bM X.prog X.w _ h' _ (.lst ys)from⟨hz,its,c',r',e⟩),rfl,q _ (I.aB.fresh (Nat.le_refl _))⟩
 rcases hq with hq|hq
 · obtain⟨its,r',pl,hz⟩:=I.list hq
   have hlen:=r'.length
   obtain⟨o,ho,hc,n,hd⟩:=pl.isList
   exact call_list_seq p (.inl rfl) ho hc hd (fun h' c' kp e=>fin its r' hz h' c' kp e) (by simp only[List.size_toArray]<;>omega)
 · obtain⟨its,r',pl,hz⟩:=I.tuple hq
   have hlen:=r'.length
   obtain⟨o,ho,hc,n,hd⟩:=pl
   exact call_list_seq p (.inr rfl) ho hc hd (fun h' c' kp e=>fin its r' hz h' c' kp e) (by simp only[List.size_toArray]<;>omega)
theorem vj:aZ X (.type "tuple") (fun xs H Q=>∃p ys,xs=[.ref p]∧((aT X.K H p ys∧∀l,H l=none→Q (.ref l) (upd H l (.tup ys)))∨(aX X.K H p ys∧Q (.ref p) H))):=by
 intro pins s σ H xs us Q I r h
 obtain⟨p,ys,rfl,h⟩:=h
 obtain⟨u,rfl,rx⟩:=vals1 r
 cases rx
 rcases h with⟨hq,q⟩|⟨hq,q⟩
 · obtain⟨its,r',pl,hz⟩:=I.list hq
   have hlen:=r'.length
   refine call_tuple_list pl.isList (fun h' kp=>?_) (by simp only[List.size_toArray]<;>omega)
   have I1:Inv X pins σ H {s with heap:=h'}:=I.kept (t':=s.toks) kp
   have I2:Inv X pins σ (upd H h'.objs.size (.tup ys)) {s with heap:=h'.push {cls:=.type "tuple",data:=.seq its.toArray} }:=
     I1.laid (t':=s.toks) (fun b o e=>Heap.get?_push_of_some _ e) (Nat.le_refl _) (show bM X.prog X.w _ _ _ (.tup ys)from⟨hz,its,r',IsTup.new _ _⟩)
   exact⟨.ref h'.objs.size,_,I2,rfl,q _ (I1.aB.fresh (Nat.le_refl _))⟩
 · obtain⟨its,r',pl,hz⟩:=I.tuple hq
   exact call_tuple_same pl ⟨.ref p,H,I,rfl,q⟩
noncomputable def pL(K:PySem.W.Frag)(T:String)(x:V)(H:Hp):Prop:=match x with
 |.str _=>T="str"
 |.int _=>T="int"
 |.ref p=>(T="list"∧∃xs,aT K H p xs)∨(T="tuple"∧∃o,K.lookup p=some o∧o.cls=.type "tuple"∧o.dict=none)∨
     (T="dict"∧((∃kvs,H p=some (.dK kvs))∨∃kvs,H p=some (.dT kvs)))∨(T="set"∧∃S n,H p=some (.set S n))
 |_=>False
theorem BA{pins:List (Addr×Obj)}{σ:St}{H:Hp}{s:Shared}{T:String}{x:V}{v:Value}(I:Inv X pins σ H s)(r:RelV x v)(ty:pL X.K T x H):
   s.TypeIs v T∧∀a,v=.ref a→∃ob,s.heap.get? a=some ob∧ob.dict=none:=by
 cases x with
 | str z=>
   obtain⟨t,rfl⟩:=r
   cases (show T="str" from ty)
   exact⟨typeIs_str s z t,fun _ e=>nomatch e⟩
 | int i=>
   obtain⟨t,rfl⟩:=r
   cases (show T="int" from ty)
   exact⟨typeIs_int s i t,fun _ e=>nomatch e⟩
 | ref p=>
   cases r
   rcases ty with⟨rfl,xs,hq⟩|⟨rfl,o,hk,hc,hd⟩|⟨rfl,hk⟩|⟨rfl,S,n,hk⟩
   · obtain⟨its,_,pl,_⟩:=I.list hq
     refine⟨pl.isList.typeIs,fun a e=>?_⟩
     cases e
     obtain⟨o,n,e,c,hd,_⟩:=pl
     exact⟨o,e,hd⟩
   · refine⟨⟨o,I.bI p o hk,hc⟩,fun a e=>?_⟩
     cases e
     exact⟨o,I.bI _ o hk,hd⟩
   · have z:∃o,s.heap.get? p=some o∧o.ExactDict:=by
       rcases hk with⟨kvs,hk⟩|⟨kvs,hk⟩
       · obtain⟨_,_,_,_,o,_,_,e,ex,_⟩:=I.aB p _ hk
         exact⟨o,e,ex⟩
       · obtain⟨_,_,_,_,o,_,_,e,ex,_⟩:=I.aB p _ hk
         exact⟨o,e,ex⟩
     obtain⟨o,e,ex⟩:=z
     refine⟨⟨o,e,ex.1⟩,fun a e2=>?_⟩
     cases e2
     exact⟨o,e,ex.2.1⟩
   · obtain⟨o,_,_,_,e,ex,_⟩:=I.aB p _ hk
     refine⟨⟨o,e,ex.1⟩,fun a e2=>?_⟩
     cases e2
     exact⟨o,e,ex.2.1⟩
 |_=>exact False.elim ty
noncomputable def zv(K:PySem.W.Frag)(T:String)(r:V→List V→Hp→VK→Prop)(to:TE)(t:TA):TE:=fun σ H Q=>to σ H fun x H1=>pL K T x H1∧t σ H1 fun xs H2=>r x xs H2 Q
variable{o e:Expr}{es:List Expr}{to:TE}{t:TA}{name:Str}{apos cpos:Pos}{T id:String}{r:V→List V→Hp→VK→Prop}
theorem yn(pa:PlainAttrs T)(slot:Slot T name id)(hty:typeOf (.builtin id)=pure (.type "method_descriptor"))(hm:j5 X id r)(ho:PE X o to)(ha:PA X (e::es) t)
   (hbase:attributeBase o name X.env (eval o X.env)=eval o X.env:=by rfl)
   (hfew:((backTo cpos (starEach (e::es) X.env)).all (fun x=> !x.1)&&(backToKw cpos (keywordEach [] X.env)).all (fun x=>x.1.isSome)
     &&decide ((e::es).length+([]:List Keyword).length+(if([]:List Keyword).isEmpty then 0 else 1)<30))=true:=by rfl)
   (hline:(apos.endLine==cpos.line)=true:=by rfl) (hs:starEach (e::es) X.env=(false,eval e X.env)::starEach es X.env:=by rfl) (hplain:(backTo cpos (starEach es X.env)).any (·.1)=false:=by rfl):
   PE X (.Call (.Attribute o name apos) (e::es) [] cpos) (zv X.K T r to t):=by
 intro pins s σ H Q I h
 refine wpAny_Call_method_late hbase hfew hline rfl (aD (ho pins s σ H _ I h) fun v s1 ⟨x,H1,I1,r1,ty,q1⟩=>?_)
 obtain⟨h1,h2⟩:=BA I1 r1 ty
 refine⟨T,id,pa,slot,hty,h1,h2,?_⟩
 have hA:=ha cpos pins s1 σ H1 _ I1 q1
 rw[hs]at hA ⊢
 refine Calls.callWith_builtin (by show(false||(backTo cpos (starEach es X.env)).any (·.1))=false;rw[hplain]<;>rfl) (Calls.evalArgs_plain ?_)
 exact aD hA fun us s2 ⟨vs,H2,I2,r2,q2⟩=>hm pins s2 σ H2 x vs v us Q I2 r1 r2 q2
end
end L2
namespace L2
open PySem PySem.Spec PyProof.Rows
noncomputable def sF(X:Cx)(id:String)(r:V→List V→Hp→VK→Prop):Prop:=
 ∀(pins:List (Addr×Obj)) (s:Shared) (σ:St) (H:Hp) (x:V) (xs:List V) (v:Value) (us:List Value) (Q:VK),Inv X pins σ H s→RelV x v→Vals xs us→r x xs H Q→
   wpAny (model X.prog X.w) X.A (call (.builtin id) (v::us)) (EP X pins σ Q) X.xe s
theorem Vals.one:∀ {x:V} {us:List Value},Vals [x] us→∃u,us=[u]∧RelV x u
 |_,_,.cons r .nil=>⟨_,rfl,r⟩
theorem Vals.two:∀ {x y:V} {us:List Value},Vals [x,y] us→∃u v,us=[u,v]∧RelV x u∧RelV y v
 |_,_,_,.cons r (.cons q .nil)=>⟨_,_,rfl,r,q⟩
theorem Vals.reverse{xs:List V}{us:List Value}(h:Vals xs us):Vals xs.reverse us.reverse:=by
 induction h with
 |nil=>exact .nil
 |cons r t ih=>rw[List.reverse_cons,List.reverse_cons];exact Vals.append ih (.cons r .nil)
section
variable{X:Cx}{pins:List (Addr×Obj)}{σ:St}{H:Hp}{s:Shared}{l b:Addr}{xs ys zs:List V}
theorem Inv.uv{its its':List Value}{n:Nat}{f:Array Value→Array Value}{t':Nat}(I:Inv X pins σ H s)(hH:H l=some (.lst xs))
   (e:s.heap.get? l=some {cls:=.type "list",data:=.seq its.toArray n}) (hf:f its.toArray=its'.toArray) (hv:Vals ys its') (hz:ys.length≤sizeLine):
   Inv X pins σ (upd H l (.lst ys)) {s with heap:=s.heap.update l (Obj.mapSeq f),toks:=t'}:=by
 have q:=PySem.IsL.update e f
 rw[hf]at q
 refine I.write (x:=l) (e:=l) (by rw[hH];exact trivial) (.inl rfl) (fun b' u hb hu=>(Heap.get?_update_other s.heap (Obj.mapSeq f) (Ne.symm hb)).trans hu) ⟨_,q⟩ ?_
 exact⟨hz,its',_,hv,q⟩
theorem Inv.z0{its:List Value}{t':Nat}(I:Inv X pins σ H s)(hv:Vals ys its)(hz:ys.length≤sizeLine):
   Inv X pins σ (upd H s.heap.objs.size (.lst ys)) {s with heap:=s.heap.push {cls:=.type "list",data:=.seq its.toArray},toks:=t'}:=
 I.laid (fun _ _ q=>Heap.get?_push_of_some _ q) (Nat.le_refl _) ⟨hz,its,0,hv,Heap.get?_push_size _ rfl⟩
theorem Inv.fresh(I:Inv X pins σ H s):H s.heap.objs.size=none:=I.aB.fresh (Nat.le_refl _)
theorem Inv.Ax(I:Inv X pins σ H s)(hH:H l=some (.lst xs)):xs.length≤sizeLine∧∃(its:List Value) (n:Nat),Vals xs its∧xs.length=its.length∧s.heap.get? l=some {cls:=.type "list",data:=.seq its.toArray n}:=by
 obtain⟨z,its,n,r,e⟩:=I.aB l _ hH
 exact⟨z,its,n,r,r.length,e⟩
end
section
variable{X:Cx}
noncomputable def zp:V→List V→Hp→VK→Prop:=fun x vs H Q=>∃l xs y,x=.ref l∧vs=[y]∧H l=some (.lst xs)∧xs.length<sizeLine∧Q .ai (upd H l (.lst (xs++[y])))
theorem y8:sF X "list.append" zp:=by
 intro pins s σ H x vs v us Q I rx rv h
 obtain⟨l,xs,y,rfl,rfl,hH,hz,q⟩:=h
 cases rx
 obtain⟨u,rfl,ru⟩:=rv.one
 obtain⟨z,its,n,r,hl,e⟩:=I.Ax hH
 refine call_meets F.slot_list_append ⟨_,e,rfl⟩ F.entry_list_append (F.args_list_append_2 _ _) (PySem.list_append l its.toArray n u (by rw[List.size_toArray];omega)) ⟨e,?_⟩
 refine⟨.ai,_,I.uv (its':=its++[u]) hH e (by simp) (r.append (.cons ru .nil)) ?_,rfl,q⟩
 rw[List.length_append,List.length_singleton]
 omega
end
section
variable{prog:Program}{w:World}{A:Around}{E:Value→Shared→Prop}{s:Shared}
end
section
variable{X:Cx}
end
end L2
namespace L2
open PySem PySem.Spec PyProof.Rows
section
variable{κ:Type} [DecidableEq κ]
noncomputable def bT(kvs:List (κ×V))(k:κ):Option V:=(kvs.find? fun kv=>decide (kv.1=k)).map (·.2)
noncomputable def putK(kvs:List (κ×V))(k:κ)(v:V):List (κ×V):=
 if(kvs.any fun kv=>decide (kv.1=k))=true then kvs.map (fun kv=>if kv.1=k then(kv.1,v)else kv)else kvs++[(k,v)]
noncomputable def qT(kvs:List (κ×V))(k:κ):List (κ×V):=kvs.filter fun kv=>decide (kv.1≠k)
theorem m6{p:κ×V}{r:List (κ×V)}{k:κ}(e:p.1=k):bT (p::r) k=some p.2:=by simp[bT,List.find?_cons,e]
theorem lX{p:κ×V}{r:List (κ×V)}{k:κ}(e:¬p.1=k):bT (p::r) k=bT r k:=by simp[bT,List.find?_cons,e]
theorem pU(k:κ):∀kvs:List (κ×V),(kvs.any fun kv=>decide (kv.1=k))=(bT kvs k).isSome
 |[]=>rfl
 | p::r=>by
   rw[List.any_cons]
   by_cases e:p.1=k
   ·simp only[m6 e,decide_eq_true e,Bool.true_or,Option.isSome_some]
   ·rw[lX e,decide_eq_false e,Bool.false_or];exact pU k r
theorem m7(kvs:List (κ×V))(k:κ)(v:V):(putK kvs k v).length≤kvs.length+1:=by
 unfold putK
 split
 ·rw[List.length_map];omega
 ·rw[List.length_append,List.length_cons,List.length_nil];omega
theorem cR.uF{o:Option V}{u:Option Value}(r:cR o u):o.isSome=u.isSome:=by
 cases o with
 | none=>cases u with
   |none=>rfl
   |some _=>exact(show False from r).elim
 | some _=>cases u with
   |none=>exact(show False from r).elim
   |some _=>rfl
theorem cR.getD{o:Option V}{u:Option Value}{d:V}{d':Value}(r:cR o u)(rd:RelV d d'):RelV (o.getD d) (u.getD d'):=by
 cases o with
 | none=>cases u with
   |none=>exact rd
   |some _=>exact(show False from r).elim
 | some _=>cases u with
   |none=>exact(show False from r).elim
   |some _=>exact r
theorem KV.val{kvs:List (κ×V)}{vs:List (κ×Value)}(r:KV kvs vs)(k:κ):cR (bT kvs k) (valueAt vs k):=by
 unfold KV at r
 induction r with
 |nil=>exact True.intro
 | @cons p q ps qs h t ih=>
   obtain⟨h1,h2⟩:=h
   by_cases e:p.1=k
   · have e':q.1=k:=h1.symm.trans e
     have b:valueAt (q::qs) k=some q.2:=by simp[valueAt,List.find?_cons,e']
     rw[m6 e,b];exact h2
   · have e':¬q.1=k:=fun z=>e (h1.trans z)
     have b:valueAt (q::qs) k=valueAt qs k:=by simp[valueAt,List.find?_cons,e']
     rw[lX e,b];exact ih
theorem KV.any{kvs:List (κ×V)}{vs:List (κ×Value)}(r:KV kvs vs)(k:κ):(kvs.any fun kv=>decide (kv.1=k))=vs.any fun kv=>decide (kv.1=k):=by
 unfold KV at r
 induction r with
 |nil=>rfl
 |cons h t ih=>rw[List.any_cons,List.any_cons,ih,h.1]
theorem KV.og{kvs:List (κ×V)}{vs:List (κ×Value)}(r:KV kvs vs)(k:κ){y:V}{u:Value}(ry:RelV y u):
   KV (kvs.map fun kv=>if kv.1=k then(kv.1,y)else kv) (vs.map fun kv=>if kv.1=k then(kv.1,u)else kv):=by
 unfold KV at r ⊢
 induction r with
 |nil=>exact .nil
 | @cons p q ps qs h t ih=>
   rw[List.map_cons,List.map_cons]
   refine .cons ?_ ih
   obtain⟨h1,h2⟩:=h
   by_cases e:p.1=k
   ·rw[if_pos e,if_pos (h1.symm.trans e)];exact⟨h1,ry⟩
   ·rw[if_neg e,if_neg (fun z=>e (h1.trans z))];exact⟨h1,h2⟩
theorem KV.put{kvs:List (κ×V)}{vs:List (κ×Value)}(r:KV kvs vs)(k:κ){y:V}{u:Value}(ry:RelV y u):KV (putK kvs k y) (stored vs k u):=by
 unfold putK stored
 rw[r.any k]
 by_cases e:(vs.any fun kv=>decide (kv.1=k))=true
 ·rw[if_pos e,if_pos e];exact r.og k ry
 ·rw[if_neg e,if_neg e];exact Paired.snoc r ⟨rfl,ry⟩
theorem KV.drop{kvs:List (κ×V)}{vs:List (κ×Value)}(r:KV kvs vs)(k:κ):KV (qT kvs k) (without vs k):=by
 unfold KV at r ⊢
 unfold qT without
 induction r with
 |nil=>exact .nil
 | @cons p q ps qs h t ih=>
   obtain⟨h1,h2⟩:=h
   rw[List.filter_cons,List.filter_cons]
   by_cases e:p.1=k
   · have a:¬decide (p.1≠k)=true:=by simp[e]
     have b:¬decide (q.1≠k)=true:=by simp[h1.symm.trans e]
     rw[if_neg a,if_neg b];exact ih
   · have e':¬q.1=k:=fun z=>e (h1.trans z)
     have a:decide (p.1≠k)=true:=by simp[e]
     have b:decide (q.1≠k)=true:=by simp[e']
     rw[if_pos a,if_pos b];exact .cons ⟨h1,h2⟩ ih
theorem KV.length{kvs:List (κ×V)}{vs:List (κ×Value)}(r:KV kvs vs):kvs.length=vs.length:=Paired.length r
end
theorem gL{P:Program}{w:World}{k:Key}{u:Value}(r:RelV (kV k) u):(bA P w).is k u=true:=by
 cases k with
 |inl i=>obtain⟨t,e⟩:=(show ∃t,u=Value.int i t from r);subst e;exact xr P w i t
 |inr x=>obtain⟨t,e⟩:=(show ∃t,u=Value.str x t from r);subst e;exact wm P w x t
theorem tF{P:Program}{w:World}:∀ {ks:List Key} {us:List Value},Vals (ks.map kV) us→ItemsAre (bA P w) ks us
 |[],_,r=>by rw[List.map_nil]at r;cases r;exact .nil
 | k::ks,_,r=>by
   rw[List.map_cons]at r
   cases r with
   |cons h t=>exact .cons (gL h) (tF t)
noncomputable abbrev KT(H:Hp):List (List Key×V)→List (List Key×Addr×Value)→Prop:=Paired fun p q=>p.1=q.1∧H q.2.1=some (.tup (p.1.map kV))∧RelV p.2 q.2.2
theorem KT.val{H:Hp}{kvs:List (List Key×V)}{xs:List (List Key×Addr×Value)}(r:KT H kvs xs)(k:List Key):cR (bT kvs k) ((atKey xs k).map (·.2)):=by
 induction r with
 |nil=>exact True.intro
 | @cons p q ps qs h t ih=>
   obtain⟨h1,_,h2⟩:=h
   by_cases e:p.1=k
   · have e':q.1=k:=h1.symm.trans e
     have b:atKey (q::qs) k=some q.2:=by simp[atKey,List.find?_cons,e']
     rw[m6 e,b];exact h2
   · have e':¬q.1=k:=fun z=>e (h1.trans z)
     have b:atKey (q::qs) k=atKey qs k:=by simp[atKey,List.find?_cons,e']
     rw[lX e,b];exact ih
theorem KT.og{H:Hp}{kvs:List (List Key×V)}{xs:List (List Key×Addr×Value)}(r:KT H kvs xs)(k:List Key){y:V}{u:Value}(ry:RelV y u):
   KT H (kvs.map fun kv=>if kv.1=k then(kv.1,y)else kv) (xs.map (putAt k u)):=by
 induction r with
 |nil=>exact .nil
 | @cons p q ps qs h t ih=>
   rw[List.map_cons,List.map_cons]
   refine .cons ?_ ih
   obtain⟨h1,h2,h3⟩:=h
   unfold putAt
   by_cases e:p.1=k
   ·rw[if_pos e,if_pos (h1.symm.trans e)];exact⟨h1,h2,ry⟩
   ·rw[if_neg e,if_neg (fun z=>e (h1.trans z))];exact⟨h1,h2,h3⟩
theorem KT.put{H:Hp}{kvs:List (List Key×V)}{xs:List (List Key×Addr×Value)}(r:KT H kvs xs)(k:List Key){b:Addr}{y:V}{u:Value}(hb:H b=some (.tup (k.map kV)))(ry:RelV y u):
   KT H (putK kvs k y) (storedH xs k b u):=by
 have e:(kvs.any fun kv=>decide (kv.1=k))=(atKey xs k).isSome:=by
   rw[pU,(r.val k).uF,Option.isSome_map]
 unfold putK storedH
 rw[e]
 by_cases q:(atKey xs k).isSome=true
 ·rw[if_pos q,if_pos q];exact r.og k ry
 ·rw[if_neg q,if_neg q];exact Paired.snoc r ⟨rfl,hb,ry⟩
theorem KT.keeps{H H':Hp}{kvs:List (List Key×V)}{xs:List (List Key×Addr×Value)}(r:KT H kvs xs)(ht:∀b ys,H b=some (.tup ys)→H' b=some (.tup ys)):KT H' kvs xs:=
 Paired.nI r fun _ _ z=>⟨z.1,ht _ _ z.2.1,z.2.2⟩
section
variable{P:Program}{w:World}{H:Hp}{h:Heap}{a:Addr}
theorem pZ{u:HO}(ok:ba P w H h)(e:Rd H a u):bM P w H h a u:=e.ok ok
theorem nu{kvs:List (Key×V)}(ok:ba P w H h)(e:Rd H a (.dK kvs)):kvs.length≤sizeLine∧(a==sysModules)=false∧∃vs,KV kvs vs∧h.DictOf (bA P w) a vs:=
 show bM P w H h a (.dK kvs)from pZ ok e
theorem oG{kvs:List (Key×V)}(ok:ba P w H h)(e:H a=some (.dK kvs)):kvs.length≤sizeLine∧(a==sysModules)=false∧∃vs,KV kvs vs∧h.DictOf (bA P w) a vs:=nu ok (.inl e)
theorem oY{ks:List Key}(ok:ba P w H h)(e:H a=some (.tup (ks.map kV))):(tupleKind (bA P w)).is h ks a:=by
 obtain⟨_,its,r,o,h1,h2,n,h3⟩:=(show bM P w H h a (.tup (ks.map kV))from ok a _ e)
 exact⟨o,its.toArray,n,h1,h2,h3,by simpa using tF r⟩
theorem zt{kvs:List (List Key×V)}(ok:ba P w H h)(e:Rd H a (.dT kvs)):kvs.length≤sizeLine∧(a==sysModules)=false∧
   ∃xs,KT H kvs xs∧h.DictOfH (tupleKind (bA P w)) a xs:=by
 obtain⟨z,y,xs,r,o,es,ep,h1,h2,h3,h4,h5⟩:=(show bM P w H h a (.dT kvs)from pZ ok e)
 refine⟨z,y,xs,r,o,es,ep,h1,h2,h3,h4,fun x hx=>?_,h5⟩
 have all:∀ {l:List (List Key×V)} {m:List (List Key×Addr×Value)},KT H l m→∀x∈m,(tupleKind (bA P w)).is h x.1 x.2.1:=by
   intro l m q
   induction q with
   |nil=>intro x hx;exact nomatch hx
   | @cons p q ps qs hq t ih=>
     intro x hx
     rcases List.mem_cons.mp hx with e|hx
     · subst e
       exact oY ok (by rw[←hq.1];exact hq.2.1)
     ·exact ih x hx
 exact all r x hx
theorem wa{kvs:List (List Key×V)}(ok:ba P w H h)(e:H a=some (.dT kvs)):kvs.length≤sizeLine∧(a==sysModules)=false∧
   ∃xs,KT H kvs xs∧h.DictOfH (tupleKind (bA P w)) a xs:=zt ok (.inl e)
end
noncomputable def kY(H:Hp)(a:Addr)(y:V)(r:Option V):Prop:=
 (∃kvs k,Rd H a (.dK kvs)∧y=kV k∧r=bT kvs k)∨∃kvs k b,Rd H a (.dT kvs)∧y=.ref b∧H b=some (.tup (k.map kV))∧r=bT kvs k
noncomputable def fW(H:Hp)(a:Addr)(y v:V)(H':Hp):Prop:=
 (∃kvs k,H a=some (.dK kvs)∧y=kV k∧kvs.length<sizeLine∧H'=upd H a (.dK (putK kvs k v)))∨
 ∃kvs k b,H a=some (.dT kvs)∧y=.ref b∧H b=some (.tup (k.map kV))∧kvs.length<sizeLine∧H'=upd H a (.dT (putK kvs k v))
theorem kY.k{H:Hp}{a:Addr}{kvs:List (Key×V)}{k:Key}(e:H a=some (.dK kvs)):kY H a (kV k) (bT kvs k):=.inl ⟨kvs,k,.inl e,rfl,rfl⟩
theorem kY.t{H:Hp}{a b:Addr}{kvs:List (List Key×V)}{k:List Key}(e:H a=some (.dT kvs))(eb:H b=some (.tup (k.map kV))):kY H a (.ref b) (bT kvs k):=.inr ⟨kvs,k,b,.inl e,rfl,eb,rfl⟩
theorem fW.k{H:Hp}{a:Addr}{kvs:List (Key×V)}{k:Key}{v:V}(e:H a=some (.dK kvs))(hl:kvs.length<sizeLine):fW H a (kV k) v (upd H a (.dK (putK kvs k v))):=.inl ⟨kvs,k,e,rfl,hl,rfl⟩
theorem fW.t{H:Hp}{a b:Addr}{kvs:List (List Key×V)}{k:List Key}{v:V}(e:H a=some (.dT kvs))(eb:H b=some (.tup (k.map kV)))(hl:kvs.length<sizeLine):
   fW H a (.ref b) v (upd H a (.dT (putK kvs k v))):=.inr ⟨kvs,k,b,e,rfl,eb,hl,rfl⟩
section
variable{X:Cx}{pins:List (Addr×Obj)}{σ:St}{H:Hp}{s:Shared}{a:Addr}{y v:V}{u r:Value}{o:Option V}{A:Around}{E:Value→Shared→Prop}
theorem Inv.big(I:Inv X pins σ H s):sysModules<s.heap.objs.size:=by
 have h:mainGlobals<s.heap.objs.size:=(I.mod.glob.keeps I.bk).lt
 exact Nat.lt_trans (by decide) h
theorem kU{h':Heap}{t':Nat}{ob:HO}(I:Inv X pins σ H s)(mu:j0 (H a))(hs:Heap.SameBut a s.heap h')(he:∃q,h'.get? a=some q)(new:bM X.prog X.w (upd H a ob) h' a ob):
   Inv X pins σ (upd H a ob) {s with heap:=h',toks:=t'}:=
 I.write (x:=a) (e:=a) mu (.inl rfl) (fun b q hb z=>(hs.2 b hb).trans z) he new
theorem jC{P:Program}{w:World}{H':Hp}{h':Heap}{kvs:List (Key×V)}{vs:List (Key×Value)}(z:kvs.length≤sizeLine)(hd:(a==sysModules)=false)(rel:KV kvs vs)(dd:h'.DictOf (bA P w) a vs):
   bM P w H' h' a (.dK kvs):=⟨z,hd,vs,rel,dd⟩
theorem Bn{H':Hp}{Q:Unit→Shared→Prop}(hu:A.units+1<cLine)(I:Inv X pins σ H s)(g:fW H a y v H')(ry:RelV y u)(rv:RelV v r)(h:∀s',Inv X pins σ H' s'→Q () s'):
   wpAny (model X.prog X.w) A (setItem (.ref a) u r) Q E s:=by
 rcases g with⟨kvs,k,e,ey,l,eH⟩|⟨kvs,k,b,e,ey,eb,l,eH⟩
 · subst ey eH
   obtain⟨z,hd,vs,rel,dd⟩:=oG I.aB e
   have hz:vs.length≤sizeLine:=by rw[←rel.length];exact z
   have hl:(putK kvs k v).length≤sizeLine:=by have:=m7 kvs k v;omega
   refine wpAny_setItem_pairs (hsz:=hz) (gL ry) dd fun h' dd' hs=>h _ ?_
   have he:∃q,h'.get? a=some q:=let⟨q,_,_,hq,_⟩:=dd';⟨q,hq⟩
   exact kU I (by rw[e];exact True.intro) hs he (jC hl hd (rel.put k rv) dd')
 · subst ey eH
   cases (show u=Value.ref b from ry)
   obtain⟨z,hd,xs,rel,dd⟩:=wa I.aB e
   have hz:xs.length≤sizeLine:=by rw[←Paired.length rel];exact z
   have hl:(putK kvs k v).length≤sizeLine:=by have:=m7 kvs k v;omega
   refine wpAny_setItem_heap (hsz:=hz) (tupleKind_room_in1 hu) (oY I.aB eb) dd fun h' dd' hs=>h _ ?_
   obtain⟨q,es,ep,hq,h2,h3,h4,_,h5⟩:=dd'
   refine kU I (by rw[e];exact True.intro) hs ⟨q,hq⟩ ⟨hl,hd,_,(rel.put k eb rv).keeps fun c ys ec=>?_,q,es,ep,hq,h2,h3,h4,h5⟩
   rw[az (v8 ec e (fun z=>nomatch z))]
   exact ec
end
section
variable{X:Cx}{pins:List (Addr×Obj)}{σ:St}{H:Hp}{s:Shared}{a:Addr}{kvs:List (Key×V)}{k:Key}{u:Value}{A:Around}{E:Value→Shared→Prop}
end
noncomputable def yx(td ty tv:TE):TS:=fun D σ H=>tv σ H fun v H1=>td σ H1 fun x H2=>ty σ H2 fun y H3=>∃a H4,x=.ref a∧fW H3 a y v H4∧D.nx σ H4
section
variable{X:Cx}{o i e value:Expr}{pos pos' tpos:Pos}{td ty tv:TE}
theorem qp(hu:X.A.units+1<cLine)(ho:PE X o td)(hi:PE X i ty)(hv:PE X value tv)(hs:swapsWith value (some (.Subscript o i pos')) pos.line X.env=pure false):
   PS X (.Assign [.Subscript o i pos'] value pos) (yx td ty tv):=by
 intro pins s σ H D I h
 refine wpAny_Assign_Subscript (aD (hv pins s σ H _ I h) fun r s1 ⟨v,H1,I1,rv,q1⟩=>aD (ho pins s1 σ H1 _ I1 q1) fun u s2 ⟨x,H2,I2,rx,q2⟩=>aD (hi pins s2 σ H2 _ I2 q2) fun iv s3 ⟨y,H3,I3,ry,a,H4,ex,g,q3⟩=>?_) hs
 subst ex
 obtain rfl:u=Value.ref a:=rx
 exact Bn hu I3 g ry rv fun s4 I4=>⟨σ,H4,I4,q3⟩
end
theorem qm{P:Program}{w:World}{H:Hp}(h:Heap)(hb:sysModules<h.objs.size):bM P w H (h.push {cls:=.type "dict",data:=.dict #[]}) h.objs.size (.dK []):=
 ⟨Nat.zero_le _,beq_eq_false_iff_ne.mpr (Ne.symm (Nat.ne_of_lt hb)),[],.nil,Heap.DictOf.new h⟩
noncomputable def y6:TE:=fun _ H Q=>∀p,H p=none→Q (.ref p) (upd H p (.dK []))
section
variable{X:Cx}{pos:Pos}
theorem xl:PE X (.Dict [] [] pos) y6:=fun pins s σ H Q I h=>
 wpAny_Dict_empty ⟨.ref s.heap.objs.size,_,I.laid (a:=s.heap.objs.size) (o:=.dK []) (t':=s.toks) (fun _ _ q=>Heap.get?_push_of_some _ q) (Nat.le_refl _) (qm s.heap I.big),rfl,h _ (I.aB.fresh (Nat.le_refl _))⟩
end
noncomputable def jA:List (TE×TE)→St→Hp→(List (V×V)→Hp→Prop)→Prop
 |[],_,H,Q=>Q [] H
 |(tk,tv)::r,σ,H,Q=>tk σ H fun x H1=>tv σ H1 fun y H2=>jA r σ H2 fun ps H3=>Q ((x,y)::ps) H3
noncomputable abbrev VV:List (V×V)→List (Value×Value)→Prop:=Paired fun p q=>RelV p.1 q.1∧RelV p.2 q.2
noncomputable def iI(X:Cx)(pos:Pos)(keys:List (Option Expr))(values:List Expr)(trs:List (TE×TE)):Prop:=
 ∀(pins:List (Addr×Obj)) (s:Shared) (σ:St) (H:Hp) (Q:List (V×V)→Hp→Prop),Inv X pins σ H s→jA trs σ H Q→
   wpAny (model X.prog X.w) X.A (evalPairs (pairTrees keys values X.env pos)) (fun vs s'=>∃ps H',Inv X pins σ H' s'∧VV ps vs∧Q ps H') X.xe s
theorem oT{X:Cx}{pos:Pos}:iI X pos [] [] []:=fun pins s σ H Q I h=>pairTrees_nil_walk ⟨[],H,I,.nil,h⟩
theorem oS{X:Cx}{pos:Pos}{k v:Expr}{ks:List (Option Expr)}{vs:List Expr}{tk tv:TE}{trs:List (TE×TE)}(hk:PE X k tk)(hv:PE X v tv)(hr:iI X pos ks vs trs):
   iI X pos (some k::ks) (v::vs) ((tk,tv)::trs):=fun pins s σ H Q I h=>
 pairTrees_cons_walk (aD (hk pins s σ H _ I h) fun u s1 ⟨x,H1,I1,rx,q1⟩=>aD (hv pins s1 σ H1 _ I1 q1) fun w2 s2 ⟨y,H2,I2,ry,q2⟩=>
   aD (hr pins s2 σ H2 _ I2 q2) fun ws s3 ⟨ps,H3,I3,rel,q3⟩=>⟨(x,y)::ps,H3,I3,.cons ⟨rx,ry⟩ rel,q3⟩)
noncomputable def ck(kvs more:List (Key×V)):List (Key×V):=more.foldl (fun acc kv=>putK acc kv.1 kv.2) kvs
theorem KV.merge:∀ {more:List (Key×V)} {rs:List (Key×Value)} {kvs:List (Key×V)} {vs:List (Key×Value)},KV more rs→KV kvs vs→KV (ck kvs more) (merged vs rs):=by
 intro more rs kvs vs r
 unfold KV at r
 induction r generalizing kvs vs with
 |nil=>intro q;exact q
 | @cons p q ps qs h t ih=>
   intro r0
   have e:KV (putK kvs p.1 p.2) (stored vs q.1 q.2):=by
     have:=r0.put p.1 h.2
     rw[←h.1];exact this
   exact ih e
theorem kR:∀(more kvs:List (Key×V)),(ck kvs more).length≤kvs.length+more.length
 |[],kvs=>by show kvs.length≤kvs.length+0;omega
 | p::r,kvs=>by
   have h1:=kR r (putK kvs p.1 p.2)
   have h2:=m7 kvs p.1 p.2
   show(ck (putK kvs p.1 p.2) r).length≤_
   rw[List.length_cons];omega
theorem tG{P:Program}{w:World}:∀ {kvs:List (Key×V)} {ws:List (Value×Value)},VV (kvs.map fun kv=>(kV kv.1,kv.2)) ws→∃rs,Carries (bA P w) ws rs∧KV kvs rs
 |[],_,r=>by rw[List.map_nil]at r;cases r;exact⟨[],True.intro,.nil⟩
 | p::kvs,_,r=>by
   rw[List.map_cons]at r
   cases r with
   | @cons a b as bs h t=>
     obtain⟨rs,c,q⟩:=tG (P:=P) (w:=w) t
     obtain⟨b1,b2⟩:=b
     exact⟨(p.1,b2)::rs,⟨gL h.1,rfl,c⟩,.cons ⟨rfl,h.2⟩ q⟩
noncomputable def yZ(trs:List (TE×TE)):TE:=fun σ H Q=>∀p,H p=none→jA trs σ (upd H p (.dK [])) fun ps H2=>H2 p=some (.dK [])∧∃kvs:List (Key×V),ps=kvs.map (fun kv=>(kV kv.1,kv.2))∧kvs.length≤15∧Q (.ref p) (upd H2 p (.dK (ck [] kvs)))
theorem nz{X:Cx}{pos:Pos}{keys:List (Option Expr)}{values:List Expr}{trs:List (TE×TE)}(h:iI X pos keys values trs)(hall:keys.all (·.isSome)=true)(hl:keys.length=values.length)(h0:keys≠[])
   (h15:keys.length≤15):PE X (.Dict keys values pos) (yZ trs):=by
 intro pins s σ H Q I q
 have hn:=I.aB.fresh (Nat.le_refl s.heap.objs.size)
 have I1:=I.laid (a:=s.heap.objs.size) (o:=.dK []) (h':=s.heap.push {cls:=.type "dict",data:=.dict #[]}) (t':=s.toks) (fun _ _ q=>Heap.get?_push_of_some _ q) (Nat.le_refl _) (qm s.heap I.big)
 refine wpAny_Dict_walk (knd:=bA X.prog X.w) hall hl h0 h15 (aD (h pins _ σ _ _ I1 (q _ hn)) fun ws s2 ⟨ps,H2,I2,rel,e,kvs,ep,lk,q2⟩=>?_)
 subst ep
 obtain⟨rs,c,rk⟩:=tG (P:=X.prog) (w:=X.w) rel
 obtain⟨z,hd,vs0,r0,dd⟩:=oG I2.aB e
 cases r0
 refine⟨rs,c,dd,fun h' dd' hs=>⟨.ref s.heap.objs.size,_,?_,rfl,q2⟩⟩
 have hz:(ck [] kvs).length≤sizeLine:=by
   have h1:=kR kvs []
   rw[List.length_nil]at h1
   rw[sizeLine_eq];omega
 have he:∃q,h'.get? s.heap.objs.size=some q:=let⟨q,_,_,hq,_⟩:=dd';⟨q,hq⟩
 exact kU I2 (by rw[e];exact True.intro) hs he (jC hz hd (rk.merge .nil) dd')
section
variable{X:Cx}{pins:List (Addr×Obj)}{σ:St}{H:Hp}{s:Shared}{a:Addr}{y d:V}{u r:Value}{o:Option V}{A:Around}{E:Value→Shared→Prop}
end
section
variable{X:Cx}{o e f:Expr}{apos cpos:Pos}{td ty tx:TE}
end
section
variable{X:Cx}{pins:List (Addr×Obj)}{σ:St}{H:Hp}{s:Shared}{a:Addr}{kvs:List (Key×V)}{A:Around}{E:Value→Shared→Prop}
end
section
variable{X:Cx}{pins:List (Addr×Obj)}{σ:St}{H:Hp}{s:Shared}{a:Addr}{y:V}{u:Value}{A:Around}{E:Value→Shared→Prop}
end
end L2
namespace rF
open PySem PySem.W PySem.Calls PyProof.Rows
theorem zw{P:Params}{h:Heap}:∀(ns:List Int) (vs:List Value),WellAll P h vs (ns.map WData.int)→IntsAre vs ns:=by
 intro ns
 induction ns with
 | nil=>
   intro vs w
   rw[List.map_nil]at w
   cases w
   exact .nil
 | cons n ns ih=>
   intro vs w
   rw[List.map_cons]at w
   cases w with
   | cons a b=>
     cases a
     exact .cons _ _ (ih _ b)
theorem uZ{l:OpenLaw}{n:Nat}(hn:l.most=some n){P:Params}{h:Heap}{args:List WData}{vals:List Value}
   (hpre:l.row.toRowW.claim.pre args=true) (hwl:WellAll P h vals args):
   ∃a vs ns,vals=[Value.ref a]∧args=[WData.list (ns.map WData.int)]∧h.get? a=some {cls:=.type "list",data:=.seq vs.toArray}∧IntsAre vs ns∧ns.length≤n:=by
 have hsh:WShape.hasAll [] args [.list .int]=true:=(pre_splitW hpre).1
 have hc:l.pre.holds [] {args:=args}=true:=(pre_splitW hpre).2
 obtain⟨d,r,rfl,h1,h2⟩:=hasAllW_cons hsh
 obtain rfl:=hasAllW_nil h2
 obtain⟨xs,rfl,h3⟩:=hasW_list h1
 obtain⟨ns,rfl⟩:=items_int h3
 have hlen:ns.length≤n:=by
   unfold OpenLaw.pre at hc
   have h4:(WTm.not (.lt (.lit (.int (n:Int))) (.len (.arg 0)))).holds [] {args:=[.list (ns.map .int)]}=true:=by
     have h4:=(holds_andW hc).1
     rw[hn]at h4
     exact h4
   have h5:=condW_of h4 (w_not (w_lt w_lit (w_len_list (w_arg rfl))))
   rw[List.length_map]at h5
   refine Nat.le_of_not_lt fun q=>?_
   have q':(n:Int)<((ns.length:Nat):Int):=by omega
   first
     |(rw[decide_eq_true q']at h5;exact absurd h5 (by decide))
     |(simp at h5;omega)
 cases hwl with
 | cons w1 w2=>
   cases w2
   cases w1 with
   |list ho hall=>exact⟨_,_,ns,rfl,rfl,ho,zw ns _ hall,hlen⟩
theorem AN(l:OpenLaw)(args:List WData):l.row.toRowW.claim.post args (.bool true) args=true:=
 postW_of (r:=l.row.toRowW) (X:=(true==true))
   (show WShape.has [] (.bool true) .bool=true by first|rfl|decide|simp[WShape.has,WShape.arms,WShape.armsAll])
   (show(WTm.eq .res (.lit (.bool true))).value [] {args:=args,res:=some (.bool true),after:=args}=some (.bool (true==true))from w_eq_bool (w_res rfl) w_lit) rfl
theorem Aw{l:OpenLaw}{n:Nat}{q:Program}{loose:List Str}{XP:(Str→Option Value)→Heap→Prop}{YP:World→Heap→Prop}{d:DefRec}
   (hn:l.most=some n) (hdf:d.params.defaults=[])
   (call:∀(w:World) (bN s₁:Shared) (mg mb:Str→Option Value) (fa:Addr) (o:Obj) (pm cd doc:Value) (a:Addr) (vs:List Value) (ns:List Int),
     Ground q loose [] XP w bN mg mb s₁.heap→YP w s₁.heap→
     s₁.heap.get? fa=some o→o.data=.func (docDef d.name d.params d.body d.scope pm cd doc)→s₁.heap.CodeRec cd d.name→mg d.name=some (.ref fa)→
     s₁.heap.get? a=some {cls:=.type "list",data:=.seq vs.toArray}→IntsAre vs ns→ns.length≤n→s₁.gens= #[]→
     codeAny (model l.prog w) callerA (.call (.ref fa) ⟨[.ref a],[]⟩) (fun r s'=>r=.ok (.ret (.bool true))∧OldK s₁.heap s'.heap∧s'.os=s₁.os∧AllBare s'.gens) s₁):
   WalkO q loose XP YP l.row.toRowW d [] (fun f vs=>PySem.call f vs):=by
 intro w bN s₁ mg mb G Y fa o pm cd doc dV kV ho hd hcd hD hmg hg args vals as hpre hlay hrd hwl hlo
 obtain rfl:dV=.none:=Dflts.none hD hdf
 obtain rfl:kV=.none:=Dflts.noKw hD
 obtain⟨a,vs,ns,rfl,rfl,hobj,hints,hlen⟩:=uZ hn hpre hwl
 refine enter_call (codeAny_mono (call w bN s₁ mg mb fa o pm cd doc a vs ns G Y ho (fd_plain hd) hcd hmg hobj hints hlen hg) fun r s' hq=>?_)
 obtain⟨rfl,h2,h3,h4⟩:=hq
 exact⟨.inl ⟨.bool true,.bool true,[],rfl,fun _=>rfl,.bool true,AN l _,fun _=>⟨List.Pairwise.nil,fun _ hm=>(nomatch hm)⟩⟩,h2,h3,h4⟩
section
variable{prog:Program}{w:World}{A:Around}{E:Value→Shared→Prop}{s:Shared}{K:Frag}
end
end rF
namespace L2
open PySem PySem.Spec PyProof.Rows
theorem p6:∀ {vs:List Value} {ns:List Int},IntsAre vs ns→Vals (ns.map V.int) vs
 |_,_,.nil=>.nil
 |_,_,.cons n t h=>.cons ⟨t,rfl⟩ (p6 h)
noncomputable def oP(H:Hp):Prop:=∀b,H b=none∨∃o xs,H b=some (.frz o (.lst xs))
theorem z7{P:Program}{w:World}{K:PySem.W.Frag}{mg mb:Str→Option Value}{CX:dC}{k:Nat}{fa a:Addr}{fd:FuncData}{x:Str}{sp:Sp}{s₁:Shared}{vs:List Value}{ns:List Int}
   (KX:K.In s₁.heap) (hns:s₁.heap.Ns mainGlobals mg) (hb:s₁.heap.Ns builtinsNs mb) (hbb:∀x:Str,x≠"__name__"→mb x=bootBuiltins x) (hlim:s₁.heap.NoLimit) (hg:s₁.gens= #[])
   (ha:s₁.heap.get? a=some {cls:=.type "list",data:=.seq vs.toArray}) (hi:IntsAre vs ns) (hl:ns.length≤sizeLine) (hr:bb k callerA)
   (F:∀base:Heap,K.In base→base.Ns mainGlobals mg→b5 P w K mg base CX k fa fd [x] sp) (hbind:∀(s:Shared) (u:Value),BindsTo s fd ⟨[u],[]⟩ [(x,u)])
   (hsp:∀H:Hp,oP H→aT K H a (ns.map V.int)→sp [.ref a] H (fun v _=>v=.bl true) fun _ _ _=>False)
   (hCX:∀H e s',CX [] H s₁ (fun _ _ _=>False) e s'→False):
   codeAny (model P w) callerA (.call (.ref fa) ⟨[.ref a],[]⟩) (fun r s'=>r=.ok (.ret (.bool true))∧OldK s₁.heap s'.heap∧s'.os=s₁.os∧AllBare s'.gens) s₁:=by
 have rv:=p6 hi
 have lenV:=hi.length
 have core:∀H:Hp,oP H→aT K H a (ns.map V.int)→ba P w H s₁.heap→(∀b,H b≠none→b=a)→(H a≠none→K.lookup a=none)→
     codeAny (model P w) callerA (.call (.ref fa) ⟨[.ref a],[]⟩) (fun r s'=>r=.ok (.ret (.bool true))∧OldK s₁.heap s'.heap∧s'.os=s₁.os∧AllBare s'.gens) s₁:=by
   intro H hO hS aB hA hK
   have base_of:∀ {b:Addr} {o:Obj},s₁.heap.get? b=some o→H b=none→(fL s₁.heap H).get? b=some o:=fun e n=>zi e n
   have noA:∀ {b:Addr} {o:Obj} {es:Array DictEntry} {ep:Nat},s₁.heap.get? b=some o→o.data=.dict es ep→H b=none:=fun {b o es ep} e d=>by
     cases q:H b with
     |none=>rfl
     | some u=>
       have e':b=a:=hA b (by rw[q];simp)
       subst e'
       rw[ha]at e;cases e
       have d':Data.seq vs.toArray _=Data.dict es ep:=d
       cases d'
   have nsK:∀ {b:Addr} {m:Str→Option Value},s₁.heap.Ns b m→(fL s₁.heap H).Ns b m:=fun {b m} ⟨o,es,ep,e,d,r⟩=>⟨o,es,ep,base_of e (noA e d),d,r⟩
   have hKb:K.In (fL s₁.heap H):=fun b o e=>base_of (KX b o e) (by
     cases q:H b with
     |none=>rfl
     | some u=>
       have e':b=a:=hA b (by rw[q];simp)
       subst e'
       rw[hK (by rw[q];simp)]at e;cases e)
   have hM:Mod K mg (fL s₁.heap H):=⟨hKb,nsK hns,⟨mb,nsK hb,hbb⟩,let⟨mc,h1,h2⟩:=hlim;⟨mc,nsK h1,h2⟩⟩
   have e0:gN P w K mg (fL s₁.heap H) callerA [] s₁ H:=⟨rfl,hM,fun b o e=>zH e,Nat.le_of_eq (xK _ _),trivial,fun b hb=>absurd (show b∈([]:List Addr)from hb) (by simp),aB,.of_eq hg⟩
   refine codeAny_mono ((F _ hKb (nsK hns)).run callerA [] s₁ H ⟨[.ref a],[]⟩ [.ref a] [.ref a] _ _ hr e0 (hbind s₁ (.ref a)) (.cons rfl .nil) (hsp H hO hS)) fun r s' h=>?_
   cases r with
   |error e=>exact(hCX H e s' h).elim
   | ok fl=>
     cases fl with
     |next=>exact False.elim h
     |brk=>exact False.elim h
     |cont=>exact False.elim h
     | ret u=>
       obtain⟨v,H',os,bare,un,hok',r',q⟩:=h
       have q':v=.bl true:=q
       subst q'
       obtain rfl:u=Value.bool true:=r'
       refine⟨rfl,OldK.of_keep fun b o e=>?_,os,bare⟩
       cases q:H b with
       |none=>exact un.keep b o e q (by intro z;exact absurd (show b∈([]:List Addr)from z) (by simp)) (by simp)
       | some u=>
         rcases hO b with z|⟨ob,xs,z⟩
         ·rw[q]at z;cases z
         · have z2:=un.cJ b ob _ z
           obtain⟨e1,_⟩:=aB b _ z
           obtain⟨e2,_⟩:=hok' b _ z2
           rw[e]at e1;cases e1
           exact e2
 cases hk:K.lookup a with
 | some o=>
   have e:=KX a o hk
   rw[ha]at e
   cases e
   refine core (fun _=>none) (fun _=>.inl rfl) (.inr ⟨_,vs.toArray,_,hk,rfl,rfl,rfl,by rw[List.size_toArray,lenV];exact hl,by simpa using rv⟩) (fun b u z=>by have z':(none:Option HO)=some u:=z;cases z') (fun b z=>absurd rfl z) fun z=>absurd rfl z
 | none=>
   refine core (fun b=>if b=a then some (.frz {cls:=.type "list",data:=.seq vs.toArray} (.lst (ns.map V.int)))else none) (fun b=>?_) (.inl (.inr ⟨{cls:=.type "list",data:=.seq vs.toArray},if_pos rfl⟩)) (fun b u z=>?_) (fun b z=>?_) fun _=>hk
   · by_cases hb:b=a
     ·exact .inr ⟨_,_,if_pos hb⟩
     ·exact .inl (if_neg hb)
   · by_cases hb:b=a
     · have z':=(if_pos hb).symm.trans z
       cases z'
       subst hb
       exact⟨ha,by rw[List.length_map];exact hl,vs,_,rv,ha⟩
     · have z':=(if_neg hb).symm.trans z
       cases z'
   · by_cases hb:b=a
     ·exact hb
     ·exact absurd (if_neg hb) z
end L2
namespace L2
open PySem PySem.Spec PyProof.Rows
noncomputable abbrev Cd{K:PySem.W.Frag}{h:Heap}(_:K.In h):PySem.W.Frag:=K
theorem yk{l:PySem.W.OpenLaw}{n k:Nat}{q:Program}{loose:List Str}{XP:(Str→Option Value)→Heap→Prop}{YP:World→Heap→Prop}{d:DefRec}{K:Params→PySem.W.Frag}{CX:World→dC}{sp:World→Sp}{x:Str}
   (hn:l.most=some n) (hn2:n≤sizeLine) (hdf:d.params.defaults=[]) (hr:bb k callerA)
   (hY:∀(w:World) (h:Heap),YP w h→(K w.params).In h)
   (F:∀(w:World) (mg:Str→Option Value) (fa:Addr) (h:Heap),(K w.params).In h→h.Ns mainGlobals mg→mg d.name=some (.ref fa)→
     ∃fd:FuncData,(∀(s:Shared) (u:Value),BindsTo s fd ⟨[u],[]⟩ [(x,u)])∧
       ∀base:Heap,(K w.params).In base→base.Ns mainGlobals mg→b5 l.prog w (K w.params) mg base (CX w) k fa fd [x] (sp w))
   (hsp:∀(w:World) (H:Hp) (a:Addr) (ns:List Int),ns.length≤n→oP H→aT (K w.params) H a (ns.map V.int)→sp w [.ref a] H (fun v _=>v=.bl true) fun _ _ _=>False)
   (hCX:∀(w:World) (H:Hp) (s:Shared) (e:Value) (s':Shared),CX w [] H s (fun _ _ _=>False) e s'→False):
   PySem.W.WalkO q loose XP YP l.row.toRowW d [] (fun f vs=>PySem.call f vs):=by
 refine rF.Aw hn hdf fun w bN s₁ mg mb fa o pm cd doc a vs ns G Y ho hd hcd hmg hobj hints hlen hg=>?_
 have KX:=hY w _ Y
 obtain⟨fd,hb,hF⟩:=F w mg fa _ KX G.T.g hmg
 exact z7 KX G.T.g G.T.b G.T.builtins G.T.nolimit hg hobj hints (Nat.le_trans hlen hn2) hr hF hb (fun H hO hS=>hsp w H a ns hlen hO hS) fun H e s'=>hCX w H s₁ e s'
end L2
namespace L2
open PySem PySem.Spec PyProof.Rows
noncomputable def bH(s:Stmt):Arguments:=match s with
 |.FunctionDef _ a _ _ _ _ _ _ _ _=>a
 |_=>{posonlyargs:=[],args:=[],vararg:=none,kwonlyargs:=[],kw_defaults:=[],kwarg:=none,defaults:=[]}
noncomputable def bp(s:Stmt):List Stmt:=match s with
 |.FunctionDef _ _ b _ _ _ _ _ _ _=>b
 |_=>[]
noncomputable def aE(s:Stmt):Scope:=match s with
 |.FunctionDef _ _ _ _ _ _ sc _ _ _=>sc
 |_=>{kind:=.function,names:=[],isGenerator:=false,isCoroutine:=false}
noncomputable abbrev cL:dC:=fun _ _ _ _ _ _=>False
noncomputable abbrev E0:XK:=fun _ _ _=>False
theorem lF{X:Cx}:Passes cL X E0:=fun _ _ _ _ _ _ _ h=>h.elim
structure bq(K:PySem.W.Frag)(x qual:Str)(st:Stmt)(f:Addr)(fd:FuncData):Prop where
 ex:∃(oc:Value) (od:Option Addr) (kV doc pm:Value) (an:Option Addr) (cdv ct:Value) (osl:Array (Option Value)),
   fd=PySem.W.fnOf x qual (bH st) (bp st) (aE st) .none kV doc pm an cdv ct∧K.lookup f=some ⟨oc,od,.func fd,osl⟩∧PySem.W.codeIn K cdv qual=true
 kp:PySem.W.keepIn K (.ref f)=true
section
variable{P:Program}{w:World}{K:PySem.W.Frag}{mg:Str→Option Value}{base:Heap}
theorem bq.ok{x qual:Str}{st:Stmt}{f:Addr}{fd:FuncData}{N ps:List Str}{k:Nat}{sp:Sp}(F:bq K x qual st f fd)(S:bF N ps (aE st))(len:∀vs H Q E,sp vs H Q E→vs.length=ps.length)
   (hbody:∀(cdv:Value) (A:Around) (outer:List Env) (s:Shared) (H:Hp) (vs:List V) (Q:VK) (E:XK),bb k (A.deeper (envOfC qual (aE st) s.heap.objs.size f cdv))→sp vs H Q E→
     ∃t,bz (d6 cL P w K mg base N qual (aE st) f cdv A outer s H E).cY (bp st) t∧t {nx:=fun _ H'=>Q .ai H',rt:=Q} (start N vs) H):b5 P w K mg base cL (k+1) f fd ps sp:=by
 obtain⟨oc,od,kV,doc,pm,an,cdv,ct,osl,rfl,lk,hcd⟩:=F.ex
 refine p5 lk hcd S len fun A outer s H vs Q E hr hsp=>?_
 obtain⟨t,h,q⟩:=hbody cdv A outer s H vs Q E hr hsp
 exact⟨t,h.cY,q⟩
theorem bq.binds{x qual:Str}{st:Stmt}{f:Addr}{fd:FuncData}{ps:List Str}(F:bq K x qual st f fd)
   (h:∀(kV doc pm:Value) (an:Option Addr) (cdv ct:Value) (us:List Value),us.length=ps.length→bindArgs (PySem.W.fnOf x qual (bH st) (bp st) (aE st) .none kV doc pm an cdv ct) ⟨us,[]⟩=pure (ps.zip us)):Binds K fd ps []:=by
 obtain⟨oc,od,kV,doc,pm,an,cdv,ct,osl,rfl,lk,hcd⟩:=F.ex
 exact .all (h kV doc pm an cdv ct)
theorem cq{x qual:Str}{st:Stmt}{f:Addr}{oc:Value}{od an:Option Addr}{osl:Array (Option Value)}{kV doc pm cdv ct:Value}(l:K.lookup f=some ⟨oc,od,.func (PySem.W.fnOf x qual (bH st) (bp st) (aE st) .none kV doc pm an cdv ct),osl⟩)
   (c:PySem.W.codeIn K cdv qual=true) (k:PySem.W.keepIn K (.ref f)=true):bq K x qual st f (PySem.W.fnOf x qual (bH st) (bp st) (aE st) .none kV doc pm an cdv ct):=⟨⟨oc,od,kV,doc,pm,an,cdv,ct,osl,rfl,l,c⟩,k⟩
end
section
variable{X:Cx}
theorem pv(i:Nat){x:Str}{pos:Pos}(hN:X.N[i]? =some x:=by rfl)(hv:cg X.env.scope x:=by first|exact Or.inl rfl|exact Or.inr (Or.inl rfl)|exact Or.inr (Or.inr rfl))(hd:(x==("__debug__":Str))=false:=by decide)
   (hcd:(x==("__classdict__":Str))=false:=by decide):PE X (.Name x pos) (pT i):=xV hN hv hd hcd
end
noncomputable def ah(H H':Hp):Prop:=∀b o,H b=some o→H' b=some o
theorem ah.refl(H:Hp):ah H H:=fun _ _ h=>h
theorem ah.trans{H H1 H2:Hp}(a:ah H H1)(b:ah H1 H2):ah H H2:=fun c o h=>b c o (a c o h)
theorem ah.free{H H':Hp}(e:ah H H'){l:Addr}(h:H' l=Option.none):H l=Option.none:=by
 cases q:H l with
 |none=>rfl
 | some o=>
   rw[e l o q]at h
   cases h
theorem ah.seq{K:PySem.W.Frag}{H H':Hp}{a:Addr}{xs:List V}(e:ah H H')(h:aT K H a xs):aT K H' a xs:=by
 rcases h with(h|⟨o,h⟩)|h
 ·exact .inl (.inl (e _ _ h))
 ·exact .inl (.inr ⟨o,e _ _ h⟩)
 ·exact .inr h
end L2
namespace PL
open PySem PySem.Spec PySem.W
section
variable{prog:Program}{w:World}{A:Around}{E:Value→Shared→Prop}{h:Heap}{g:Array GenState}{d:Drawn}{t:Nat}{os:OsState}{a C:Addr}{o:Obj}{K:PySem.W.Frag}
end
end PL
namespace PL
open PySem
noncomputable abbrev Ky:=Sum Int Str
inductive D where
 |ai|bl (b:Bool)|int (i:Int)|str (x:Str)
 |tup (xs:List D)|lst (xs:List D)|aA (ks:List Ky) (vs:List D)|bG (c:Str) (ns:List Str) (vs:List D)
 deriving Inhabited
inductive R(α:Type) where
 |ok (a:α)|exc (x:D)|bad
namespace R
noncomputable def bind{α β:Type}:R α→(α→R β)→R β
 |.ok a,f=>f a
 |.exc x,_=>.exc x
 |.bad,_=>.bad
@[simp] theorem bg{α β:Type}(a:α)(f:α→R β):(R.ok a).bind f=f a:=rfl
@[simp] theorem Cs{α β:Type}(x:D)(f:α→R β):(R.exc x).bind f=.exc x:=rfl
@[simp] theorem CD{α β:Type}(f:α→R β):(R.bad:R α).bind f=.bad:=rfl
end R
inductive T where
 |d (x:D)|l (ts:List T)|m (ks:List Ky) (ts:List T)|tu (ts:List T)
 deriving Inhabited
noncomputable def T.own:T→Bool
 |.d _=>false
 |.tu _=>false
 |_=>true
inductive Sp where
 |tr (t:T)|al (i:Nat) (p:List Nat)
 deriving Inhabited
inductive Slot where
 |un|sh (d:D)|ol (xs:List D)|od (ks:List Ky) (vs:List D)|on (x:Sp)
 deriving Inhabited
noncomputable abbrev En:=List Slot
noncomputable abbrev Ex:=En→R D
noncomputable abbrev aF:=En→R Bool
noncomputable abbrev da:Nat:=16777216
mutual
@[simp] noncomputable def bj:D→D→Bool
 |.ai,.ai=>true
 |.bl a,.bl b=>a==b
 |.bl a,.int b=>(if a then 1 else 0)==b
 |.int a,.bl b=>a==(if b then 1 else 0)
 |.int a,.int b=>a==b
 |.str a,.str b=>decide (a=b)
 |.tup a,.tup b=>gC a b
 |.lst a,.lst b=>gC a b
 |_,_=>false
@[simp] noncomputable def gC:List D→List D→Bool
 |[],[]=>true
 |a::as,b::bs=>bj a b&&gC as bs
 |_,_=>false
end
@[simp] noncomputable def flat:D→Bool
 |.ai=>true
 |.bl _=>true
 |.int _=>true
 |.str _=>true
 |_=>false
mutual
noncomputable def lay:D→Bool
 |.ai=>true
 |.bl _=>true
 |.int _=>true
 |.str x=>x.cps.all (· <0x110000)
 |.tup xs=>cZ xs
 |.lst xs=>cZ xs
 |_=>false
noncomputable def cZ:List D→Bool
 |[]=>true
 |x::xs=>lay x&&cZ xs
end
mutual
noncomputable def dep:D→Nat
 |.tup xs=>je xs+1
 |.lst xs=>je xs+1
 |_=>0
noncomputable def je:List D→Nat
 |[]=>0
 |x::xs=>max (dep x) (je xs)
end
@[simp] noncomputable def qA:D→D→Bool
 |.aA _ _,.str _=>true
 |_,_=>false
@[simp] noncomputable def nh:D→D→Bool
 |.tup _,.tup []=>true
 |_,_=>false
noncomputable def dA(a b:D):Bool:=(flat a&&flat b)||nh a b||(lay a&&lay b&&decide (min (dep a) (dep b)≤60))
noncomputable def cB(a b:D):Bool:=dA a b||qA a b
theorem kq{a b:D}(ha:flat a=true)(hb:flat b=true):dA a b=true:=by unfold dA;rw[ha,hb];rfl
theorem g7{a b:D}(ha:flat a=true)(hb:flat b=true):cB a b=true:=by unfold cB;rw[kq ha hb];rfl
@[simp] theorem B8(a b:Bool):dA (.bl a) (.bl b)=true:=kq rfl rfl
@[simp] theorem Ce(a b:Int):dA (.int a) (.int b)=true:=kq rfl rfl
@[simp] theorem Cz(a b:Str):dA (.str a) (.str b)=true:=kq rfl rfl
@[simp] theorem BS(a:List Ky)(c:List D)(b:Str):cB (.aA a c) (.str b)=true:=by unfold cB;simp
@[simp] theorem Cy:cB .ai .ai=true:=g7 rfl rfl
@[simp] theorem BQ(a b:Bool):cB (.bl a) (.bl b)=true:=g7 rfl rfl
@[simp] theorem Aa(a b:Int):cB (.int a) (.int b)=true:=g7 rfl rfl
@[simp] theorem B5(a b:Str):cB (.str a) (.str b)=true:=g7 rfl rfl
@[simp] theorem BX(b:Str):cB .ai (.str b)=true:=g7 rfl rfl
@[simp] theorem BR(a:Int)(b:Str):cB (.int a) (.str b)=true:=g7 rfl rfl
@[simp] theorem Cr(a:Bool)(b:Str):cB (.bl a) (.str b)=true:=g7 rfl rfl
@[simp] theorem CC(a:List D):cB (.tup a) (.tup [])=true:=by unfold cB dA;simp
@[simp] noncomputable def truth:D→R Bool
 |.ai=>.ok false
 |.bl b=>.ok b
 |.int i=>.ok (i != 0)
 |.str x=>if x.length≤da then .ok (x.length != 0)else .bad
 |.tup xs=>.ok (!xs.isEmpty)
 |.lst xs=>.ok (!xs.isEmpty)
 |.aA _ _=>.bad
 |.bG _ _ _=>.bad
noncomputable def cA(n:Nat)(i:Int):Option Nat:=if 0≤i then(if i<n then some i.toNat else none)else if -(n:Int)≤i then some (i+n).toNat else none
noncomputable def bW{α:Type}(xs:List α)(i:Int):Option α:=(cA xs.length i).bind fun j=>xs[j]?
noncomputable def b3(n d:Nat):Option Int→Nat
 |none=>d
 |some v=>if v<0 then(v+(n:Int)).toNat else min v.toNat n
noncomputable def cut{α:Type}(xs:List α)(lo hi:Option Int):List α:=(xs.drop (b3 xs.length 0 lo)).take (b3 xs.length xs.length hi - b3 xs.length 0 lo)
noncomputable def inR(j:Int):Bool:=decide (-4611686018427387904≤j)&&decide (j<4611686018427387904)
noncomputable def oK(j:Int):Bool:=decide (0<j)&&decide (j<340282366920938463463374607431768211456)
noncomputable def pB(j:Int):Bool:=decide (0≤j)&&decide (j≤1000)
noncomputable def small(i:Int):Bool:=decide (-18446744073709551616<i)&&decide (i<18446744073709551616)
@[simp] noncomputable def dS:D→D→R D
 |.int i,.int j=>.ok (.int (i+j))
 |.str x,.str y=>if x.length+y.length≤da then .ok (.str (x++y))else .bad
 |.lst x,.lst y=>if x.length+y.length≤da then .ok (.lst (x++y))else .bad
 |.tup x,.tup y=>if x.isEmpty=false∧x.length+y.length≤da then .ok (.tup (x++y))else .bad
 |_,_=>.bad
@[simp] noncomputable def lQ:D→D→R D
 |.int i,.int j=>.ok (.int (i - j))
 |_,_=>.bad
@[simp] noncomputable def du:D→D→R D
 |.int i,.int j=>if(small i||small j)=true then .ok (.int (i*j))else .bad
 |_,_=>.bad
@[simp] noncomputable def BP:D→D→R D
 |.lst x,.int j=>if 0≤j∧j<1000∧x.length≤1000 then .ok (.lst (List.replicate j.toNat x).flatten)else .bad
 |_,_=>.bad
@[simp] noncomputable def oDiv:D→D→R D
 |.int i,.int j=>if oK j=true then .ok (.int (i / j))else .bad
 |_,_=>.bad
@[simp] noncomputable def oMod:D→D→R D
 |.int i,.int j=>if 0<j then .ok (.int (i % j))else .bad
 |_,_=>.bad
@[simp] noncomputable def fR:D→D→R D
 |.int i,.int j=>if(pB j&&small i)=true then .ok (.int (i ^ j.toNat))else .bad
 |_,_=>.bad
@[simp] noncomputable def BI:D→R D
 |.int i=>.ok (.int (-i))
 |_=>.bad
@[simp] noncomputable def oEq(x y:D):R D:=if cB x y=true then .ok (.bl (bj x y))else .bad
@[simp] noncomputable def cz(x y:D):R D:=if dA x y=true then .ok (.bl (!bj x y))else .bad
@[simp] noncomputable def oLt:D→D→R D
 |.int i,.int j=>.ok (.bl (decide (i<j)))
 |_,_=>.bad
@[simp] noncomputable def oLe:D→D→R D
 |.int i,.int j=>.ok (.bl (decide (i≤j)))
 |_,_=>.bad
@[simp] noncomputable def fu:D→D→R D
 |.int i,.int j=>.ok (.bl (decide (j<i)))
 |_,_=>.bad
@[simp] noncomputable def ig:D→D→R D
 |.int i,.int j=>.ok (.bl (decide (j≤i)))
 |_,_=>.bad
@[simp] noncomputable def fA:D→Bool
 |.ai=>true
 |_=>false
@[simp] noncomputable def CG(b:Bool):D→Bool
 |.bl c=>b==c
 |_=>false
@[simp] noncomputable def cM(d:D):R D:=.ok (.bl (fA d))
@[simp] noncomputable def cV(d:D):R D:=.ok (.bl (!fA d))
@[simp] noncomputable def Cj(b:Bool):D→R D
 |.bl c=>.ok (.bl (c==b))
 |_=>.bad
@[simp] noncomputable def Cc(b:Bool):D→R D
 |.bl c=>.ok (.bl (!(c==b)))
 |_=>.bad
noncomputable def keyOf:D→Option Ky
 |.int i=>some (.inl i)
 |.str x=>some (.inr x)
 |_=>none
noncomputable def bB(k:Ky):List Ky→List D→Option D
 |a::ks,v::vs=>if a=k then some v else bB k ks vs
 |_,_=>none
@[simp] noncomputable def dM:D→D→R D
 |.str _,.str _=>.bad
 |x,.lst ys=>if flat x=true∧ys.all flat=true then .ok (.bl (ys.any fun y=>bj y x))else .bad
 |x,.tup ys=>if flat x=true∧ys.all flat=true then .ok (.bl (ys.any fun y=>bj y x))else .bad
 | x,.aA ks vs=>match keyOf x with
   |some k=>.ok (.bl (bB k ks vs).isSome)
   |none=>.bad
 |_,_=>.bad
@[simp] noncomputable def ir:D→R D
 |.bl b=>.ok (.bl (!b))
 |_=>.bad
@[simp] noncomputable def Cm(x y:D):R D:=(dM x y).bind ir
@[simp] noncomputable def jt:D→D→R D
 | .lst xs,.int i=>match bW xs i with
   |some v=>.ok v
   |none=>.bad
 | .tup xs,.int i=>match bW xs i with
   |some v=>.ok v
   |none=>.bad
 | .str x,.int i=>if x.length≤da then match bW x.cps.toList i with
   |some c=>.ok (.str ⟨#[c]⟩)
   |none=>.bad else .bad
 |_,_=>.bad
@[simp] noncomputable def ja:D→D→R D
 | .aA ks vs,k=>match keyOf k with
   | some q=>match bB q ks vs with
     |some v=>.ok v
     |none=>.bad
   |none=>.bad
 |_,_=>.bad
@[simp] noncomputable def av:D→D→R D
 |.lst xs,k=>jt (.lst xs) k
 |.tup xs,k=>jt (.tup xs) k
 |.str x,k=>jt (.str x) k
 |.aA ks vs,k=>ja (.aA ks vs) k
 |_,_=>.bad
@[simp] noncomputable def yv(lo hi:Option Int):D→R D
 |.lst xs=>.ok (.lst (cut xs lo hi))
 |.tup xs=>if b3 xs.length 0 lo=0∧b3 xs.length xs.length hi=xs.length then .bad else .ok (.tup (cut xs lo hi))
 |_=>.bad
@[simp] noncomputable def iK:D→R D
 |.lst xs=>.ok (.int xs.length)
 |.tup xs=>.ok (.int xs.length)
 |.str x=>if x.length≤da then .ok (.int x.length)else .bad
 |_=>.bad
inductive Ty where
 |int|bool|str|tuple|list|dict
@[simp] noncomputable def aU:Ty→D→R D
 |.int,.int _=>.ok (.bl true)
 |.int,.bl _=>.ok (.bl true)
 |.bool,.bl _=>.ok (.bl true)
 |.str,.str _=>.ok (.bl true)
 |.tuple,.tup _=>.ok (.bl true)
 |.list,.lst _=>.ok (.bl true)
 |.dict,.aA _ _=>.ok (.bl true)
 |_,.bG _ _ _=>.bad
 |_,_=>.ok (.bl false)
@[simp] noncomputable def iz:D→R D
 |.lst xs=>.ok (.lst xs)
 |.tup xs=>.ok (.lst xs)
 |_=>.bad
@[simp] noncomputable def lA:D→R D
 |.lst xs=>.ok (.tup xs)
 |.tup xs=>.ok (.tup xs)
 |_=>.bad
noncomputable def allB:List D→R D
 |[]=>.ok (.bl true)
 | .bl b::r=>(allB r).bind fun z=>match z with
   |.bl k=>.ok (.bl (b&&k))
   |_=>.bad
 |_=>.bad
@[simp] noncomputable def gw:D→R D
 |.lst xs=>allB xs
 |_=>.bad
@[simp] noncomputable def Cf:D→R D
 |.int i=>.ok (.int i)
 |.bl b=>.ok (.int (if b then 1 else 0))
 |_=>.bad
@[simp] noncomputable def B7:D→R D
 |.int i=>if 0≤i∧i<10 ^ 100 then .ok (.str (Str.ofString (toString i)))else .bad
 |_=>.bad
@[simp] noncomputable def ku:D→D→R D
 |.int i,.int j=>.ok (.int (if j<i then j else i))
 |_,_=>.bad
noncomputable def findS(x:List Nat):Nat→List Nat→Option Nat
 |k,[]=>if x=[]then some k else none
 |k,c::r=>if(c::r).take x.length=x then some k else findS x (k+1) r
@[simp] noncomputable def CI:D→D→R D
 | .str y,.str x=>.ok (.int (match findS x.cps.toList 0 y.cps.toList with
   |some k=>(k:Int)
   |none=> -1))
 |_,_=>.bad
noncomputable def nV(x:D):Nat→List D→R D
 |_,[]=>.bad
 |k,y::r=>if bj y x=true then .ok (.int k)else nV x (k+1) r
@[simp] noncomputable def B1:D→D→R D
 |.tup ys,x=>if flat x=true∧ys.all flat=true then nV x 0 ys else .bad
 |.lst ys,x=>if flat x=true∧ys.all flat=true then nV x 0 ys else .bad
 |_,_=>.bad
noncomputable def strsOf:List D→Option (List Str)
 |[]=>some []
 |.str x::r=>(strsOf r).map (x:: ·)
 |_=>none
@[simp] noncomputable def B6:D→D→R D
 | .str x,.lst ys=>match strsOf ys with
   |some zs=>if(Str.join x zs).length≤da then .ok (.str (Str.join x zs))else .bad
   |none=>.bad
 |_,_=>.bad
@[simp] noncomputable def aa(i:Nat):Ex:=fun ρ=>match ρ[i]? with
 |some (.sh d)=>.ok d
 |_=>.bad
@[simp] noncomputable def eC(d:D):Ex:=fun _=>.ok d
@[simp] noncomputable def e1(g:D→R D)(a:Ex):Ex:=fun ρ=>(a ρ).bind g
@[simp] noncomputable def e2(g:D→D→R D)(a b:Ex):Ex:=fun ρ=>(a ρ).bind fun x=>(b ρ).bind fun y=>g x y
@[simp] noncomputable def b6(a b:Ex):Ex:=fun ρ=>(a ρ).bind fun x=>match x with
 |.bl true=>b ρ
 |.bl false=>.ok (.bl false)
 |_=>.bad
@[simp] noncomputable def BN(a b:Ex):Ex:=fun ρ=>(a ρ).bind fun x=>match x with
 |.bl true=>.ok (.bl true)
 |.bl false=>b ρ
 |_=>.bad
@[simp] noncomputable def BY(c:aF)(a b:Ex):Ex:=fun ρ=>(c ρ).bind fun t=>if t=true then a ρ else b ρ
@[simp] noncomputable def eList:List Ex→En→R (List D)
 |[],_=>.ok []
 |e::es,ρ=>(e ρ).bind fun x=>(eList es ρ).bind fun xs=>.ok (x::xs)
@[simp] noncomputable def dF(es:List Ex):Ex:=fun ρ=>(eList es ρ).bind fun xs=>.ok (.tup xs)
@[simp] noncomputable def dE(es:List Ex):Ex:=fun ρ=>(eList es ρ).bind fun xs=>.ok (.lst xs)
@[simp] noncomputable def aJ(f:List D→R D)(es:List Ex):Ex:=fun ρ=>(eList es ρ).bind f
@[simp] noncomputable def b9(ks:List Ky)(es:List Ex):Ex:=fun ρ=>(eList es ρ).bind fun xs=>.ok (.aA ks xs)
@[simp] noncomputable def pO:Option Ex→En→R (Option Int)
 |none,_=>.ok none
 | some e,ρ=>(e ρ).bind fun x=>match x with
   |.int i=>.ok (some i)
   |_=>.bad
@[simp] noncomputable def BD(a:Ex)(lo hi:Option Ex):Ex:=fun ρ=>(a ρ).bind fun x=>(pO lo ρ).bind fun l=>(pO hi ρ).bind fun u=>yv l u x
@[simp] noncomputable def tV(a:Ex):aF:=fun ρ=>(a ρ).bind truth
@[simp] noncomputable def b8(a b:aF):aF:=fun ρ=>(a ρ).bind fun t=>if t=true then b ρ else .ok false
@[simp] noncomputable def cv(a b:aF):aF:=fun ρ=>(a ρ).bind fun t=>if t=true then .ok true else b ρ
@[simp] noncomputable def bP(a:aF):aF:=fun ρ=>(a ρ).bind fun t=>.ok (!t)
@[simp] noncomputable def B3(i:Nat):Ex:=fun ρ=>match ρ[i]? with
 |some (.ol xs)=>.ok (.int xs.length)
 |some (.od ks _)=>.ok (.int ks.length)
 |_=>.bad
@[simp] noncomputable def BU(i:Nat)(e:Ex):Ex:=fun ρ=>(e ρ).bind fun x=>match ρ[i]? with
 |some (.ol xs)=>av (.lst xs) x
 |some (.od ks vs)=>ja (.aA ks vs) x
 |_=>.bad
@[simp] noncomputable def Co(i:Nat):Ex:=fun ρ=>match ρ[i]? with
 |some (.ol xs)=>.ok (.int xs.length)
 |_=>.bad
noncomputable abbrev bc:=En→R (List D)
@[simp] noncomputable def items:D→R (List D)
 |.lst xs=>.ok xs
 |.tup xs=>.ok xs
 |.str x=>.ok (x.cps.toList.map fun c=>.str ⟨#[c]⟩)
 |_=>.bad
@[simp] noncomputable def iB(a:Ex):bc:=fun ρ=>(a ρ).bind items
noncomputable def dR(i j:Int):List D:=(List.range (j - i).toNat).map fun(k:Nat)=>.int (i+(k:Int))
@[simp] noncomputable def eT(a:Ex):bc:=fun ρ=>(a ρ).bind fun x=>match x with
 |.int j=>if inR j=true then .ok (dR 0 j)else .bad
 |_=>.bad
@[simp] noncomputable def Cg(a b:Ex):bc:=fun ρ=>(a ρ).bind fun x=>(b ρ).bind fun y=>match x,y with
 |.int i,.int j=>if(inR i&&inR j)=true then .ok (dR i j)else .bad
 |_,_=>.bad
@[simp] noncomputable def fe:List D→List D→List D
 |x::xs,y::ys=>.tup [x,y]::fe xs ys
 |_,_=>[]
@[simp] noncomputable def jL(a b:Ex):bc:=fun ρ=>(a ρ).bind fun x=>(b ρ).bind fun y=>(items x).bind fun xs=>(items y).bind fun ys=>.ok (fe xs ys)
@[simp] noncomputable def qV:Nat→List D→List D
 |_,[]=>[]
 |k,x::xs=>.tup [.int k,x]::qV (k+1) xs
@[simp] noncomputable def B9(a:Ex):bc:=fun ρ=>(a ρ).bind fun x=>(items x).bind fun xs=>.ok (qV 0 xs)
noncomputable abbrev bf:=D→En→R En
@[simp] noncomputable def aM(i:Nat):bf:=fun d ρ=>.ok (ρ.set i (.sh d))
@[simp] noncomputable def cG:List Nat→List D→En→R En
 |[],[],ρ=>.ok ρ
 |i::is,d::ds,ρ=>cG is ds (ρ.set i (.sh d))
 |_,_,_=>.bad
@[simp] noncomputable def eP(is:List Nat):bf:=fun d ρ=>match d with
 |.tup ds=>cG is ds ρ
 |_=>.bad
@[simp] noncomputable def sS:Option Slot→Slot
 |some (.sh d)=>.sh d
 |_=>.un
@[simp] noncomputable def frees(ρ:En)(fv:List Nat):En:=fv.map fun i=>sS ρ[i]?
noncomputable def eB(tg:bf)(cs:List aF)(el:Ex)(ρ:En):List D→R (List D)
 |[]=>.ok []
 | d::ds=>(tg d ρ).bind fun ρ1=>(jw cs ρ1).bind fun t=>
   if t=true then(el ρ1).bind fun y=>(eB tg cs el ρ ds).bind fun ys=>.ok (y::ys)else eB tg cs el ρ ds
where jw:List aF→En→R Bool
 |[],_=>.ok true
 |c::cs,ρ=>(c ρ).bind fun t=>if t=true then jw cs ρ else .ok false
@[simp] noncomputable def cn(it:bc)(n:Nat)(fv:List Nat)(tg:bf)(cs:List aF)(el:Ex):Ex:=fun ρ=>(it ρ).bind fun ds=>
 if ds.length≤da then(eB tg cs el (List.replicate n .un++frees ρ fv) ds).bind fun ys=>.ok (.lst ys)else .bad
inductive Fl where
 |next (ρ:En)|ret (d:D)|brk (ρ:En)|cont (ρ:En)|eZ (d:D)|cy (t:T)
noncomputable abbrev Sm:=En→R Fl
@[simp] noncomputable def aS:Sm:=fun ρ=>.ok (.next ρ)
@[simp] noncomputable def sY(a b:Sm):Sm:=fun ρ=>(a ρ).bind fun f=>match f with
 |.next ρ'=>b ρ'
 |f=>.ok f
@[simp] noncomputable def aC:List Sm→Sm
 |[]=>aS
 |a::r=>sY a (aC r)
@[simp] noncomputable def aQ(c:aF)(a b:Sm):Sm:=fun ρ=>(c ρ).bind fun t=>if t=true then a ρ else b ρ
@[simp] noncomputable def bZ(g:bf)(e:Ex):Sm:=fun ρ=>(e ρ).bind fun d=>(g d ρ).bind fun ρ'=>.ok (.next ρ')
@[simp] noncomputable def aR(e:Ex):Sm:=fun ρ=>(e ρ).bind fun d=>.ok (.ret d)
@[simp] noncomputable def CB:Sm:=fun _=>.ok (.ret .ai)
@[simp] noncomputable def Cu(e:Ex):Sm:=fun ρ=>(e ρ).bind fun _=>.ok (.next ρ)
@[simp] noncomputable def Ci:Sm:=fun _=>.bad
@[simp] noncomputable def oE(i:Nat)(e:Ex):Sm:=fun ρ=>(e ρ).bind fun d=>match d with
 |.lst xs=>.ok (.next (ρ.set i (.ol xs)))
 |_=>.bad
@[simp] noncomputable def jD(i:Nat)(e:Ex):Sm:=fun ρ=>(e ρ).bind fun d=>match d with
 |.aA ks vs=>.ok (.next (ρ.set i (.od ks vs)))
 |_=>.bad
@[simp] noncomputable def fM(i:Nat):Sm:=fun ρ=>match ρ[i]? with
 |some (.ol xs)=>.ok (.next (ρ.set i (.sh (.lst xs))))
 |some (.od ks vs)=>.ok (.next (ρ.set i (.sh (.aA ks vs))))
 |_=>.bad
@[simp] noncomputable def BJ(i:Nat)(e:Ex):Sm:=fun ρ=>(e ρ).bind fun d=>match ρ[i]? with
 |some (.ol xs)=>if xs.length<da then .ok (.next (ρ.set i (.ol (xs++[d]))))else .bad
 |_=>.bad
@[simp] noncomputable def kH(i:Nat)(k e:Ex):Sm:=fun ρ=>(e ρ).bind fun d=>(k ρ).bind fun q=>match ρ[i]?,q with
 | some (.ol xs),.int j=>match cA xs.length j with
   |some m=>.ok (.next (ρ.set i (.ol (xs.set m d))))
   |none=>.bad
 |_,_=>.bad
noncomputable def putK(k:Ky)(d:D):List Ky→List D→List Ky×List D
 |a::ks,v::vs=>if a=k then(a::ks,d::vs)else((a::(putK k d ks vs).1),(v::(putK k d ks vs).2))
 |_,_=>([k],[d])
@[simp] noncomputable def Cq(i:Nat)(k e:Ex):Sm:=fun ρ=>(e ρ).bind fun d=>(k ρ).bind fun q=>match ρ[i]?,keyOf q with
 |some (.od ks vs),some y=>if ks.length<1000 then .ok (.next (ρ.set i (.od (putK y d ks vs).1 (putK y d ks vs).2)))else .bad
 |_,_=>.bad
noncomputable def forL(tg:bf)(body:Sm):List D→En→R Fl
 |[],ρ=>.ok (.next ρ)
 | d::ds,ρ=>(tg d ρ).bind fun ρ1=>(body ρ1).bind fun f=>match f with
   |.next ρ2=>forL tg body ds ρ2
   |.cont ρ2=>forL tg body ds ρ2
   |.brk ρ2=>.ok (.next ρ2)
   |.ret d=>.ok (.ret d)
   |.eZ d=>.ok (.eZ d)
   |.cy t=>.ok (.cy t)
@[simp] noncomputable def jG(it:bc)(tg:bf)(body:Sm):Sm:=fun ρ=>(it ρ).bind fun ds=>forL tg body ds ρ
@[simp] noncomputable def fn(n:Nat)(body:Sm):List D→R D:=fun ds=>(body (ds.map .sh++List.replicate (n - ds.length) .un)).bind fun f=>match f with
 |.ret d=>.ok d
 |.next _=>.ok .ai
 |_=>.bad
@[simp] noncomputable def Cn(n:Nat)(body:Sm):List D→R D:=fun ds=>(body (ds.map .sh++List.replicate (n - ds.length) .un)).bind fun f=>match f with
 |.eZ (.lst xs)=>.ok (.lst xs)
 |_=>.bad
end PL
namespace PL
open PySem PySem.Spec
open L2 (V Hp HO Cx PE PT PW PA PS bz St VK TE TT TA TS TI Inv RelV Vals Rd aT aX upd ah Key XK Ends)
structure Md where
 K:PySem.W.Frag
 P:Program
 w:World
noncomputable abbrev ar(X:Cx):Md:=⟨X.K,X.prog,X.w⟩
noncomputable def d5(M:Md)(H:Hp)(F:Addr→Prop)(a:Addr)(xs:List V):Prop:=
 (¬F a∧Rd H a (.lst xs))∨∃(o:Obj) (its:Array Value) (n:Nat),M.K.lookup a=some o∧o.cls=.type "list"∧o.dict=none∧o.data=.seq its n∧its.size≤sizeLine∧Vals xs its.toList
noncomputable def cC(M:Md)(H:Hp)(F:Addr→Prop)(a:Addr)(xs:List V):Prop:=
 (¬F a∧Rd H a (.tup xs))∨∃(o:Obj) (its:Array Value) (n:Nat),M.K.lookup a=some o∧o.cls=.type "tuple"∧o.data=.seq its n∧its.size≤sizeLine∧Vals xs its.toList
noncomputable def dy(M:Md)(H:Hp)(F:Addr→Prop)(a:Addr)(kvs:List (Key×V)):Prop:=
 (¬F a∧∃ob,H a=some (.frz ob (.dK kvs)))∨∃(o:Obj) (es:Array DictEntry) (ep:Nat) (vs:List (Key×Value)),M.K.lookup a=some o∧o.ExactDict∧o.data=.dict es ep∧KeysOf (L2.bA M.P M.w) es∧Pairs (L2.bA M.P M.w) es.toList vs∧
   (vs.map (·.1)).Nodup∧L2.KV kvs vs∧kvs.length≤sizeLine∧(a==sysModules)=false
theorem d5.sq{M:Md}{H:Hp}{F:Addr→Prop}{a:Addr}{xs:List V}(h:d5 M H F a xs):aT M.K H a xs:=h.elim (fun h=>.inl h.2) .inr
theorem cC.sq{M:Md}{H:Hp}{F:Addr→Prop}{a:Addr}{xs:List V}(h:cC M H F a xs):aX M.K H a xs:=h.elim (fun h=>.inl h.2) .inr
noncomputable def yM(a C:Addr):HO:=.ext fun h=>∃o,h.get? a=some o∧o.cls=.ref C∧∃vs,o.data=.fields vs
mutual
noncomputable def Rep(M:Md)(H:Hp)(F:Addr→Prop):D→V→Prop
 |.ai,v=>v=.ai
 |.bl b,v=>v=.bl b
 |.int i,v=>v=.int i
 |.str x,v=>v=.str x
 |.tup ds,v=>∃a xs,v=.ref a∧cC M H F a xs∧ab M H F ds xs
 |.lst ds,v=>∃a xs,v=.ref a∧d5 M H F a xs∧ab M H F ds xs
 |.aA ks ds,v=>∃a xs,v=.ref a∧dy M H F a (ks.zip xs)∧ks.length=xs.length∧ab M H F ds xs
 |.bG c ns ds,v=>∃(a:Addr) (_u:Unit),v=.ref a∧¬F a∧((ns=[]∧∃C,H a=some (yM a C)∧PySem.W.nsIn M.K mainGlobals c=some (some (.ref C)))∨(ns≠[]∧∃o xs,H a=some (.frz o (.tup xs))∧o.dict=none∧ab M H F ds xs))
noncomputable def ab(M:Md)(H:Hp)(F:Addr→Prop):List D→List V→Prop
 |[],xs=>xs=[]
 |d::ds,xs=>∃x r,xs=x::r∧Rep M H F d x∧ab M H F ds r
end
noncomputable def Mv(F:Addr→Prop)(H:Hp)(F':Addr→Prop)(H':Hp):Prop:=∀a o,¬F a→H a=some o→¬F' a∧H' a=some o
theorem Mv.same{F:Addr→Prop}{H H':Hp}(h:ah H H'):Mv F H F H':=fun a o n e=>⟨n,h a o e⟩
theorem Mv.trans{F F1 F2:Addr→Prop}{H H1 H2:Hp}(a:Mv F H F1 H1)(b:Mv F1 H1 F2 H2):Mv F H F2 H2:=fun c o n e=>b c o (a c o n e).1 (a c o n e).2
section
variable{M:Md}{H H':Hp}{F F':Addr→Prop}{a:Addr}{xs:List V}
theorem tE(m:Mv F H F' H'){u:HO}(n:¬F a)(h:Rd H a u):¬F' a∧Rd H' a u:=by
 rcases h with h|⟨o,h⟩
 ·exact⟨(m _ _ n h).1,.inl (m _ _ n h).2⟩
 ·exact⟨(m _ _ n h).1,.inr ⟨o,(m _ _ n h).2⟩⟩
theorem d5.mv(m:Mv F H F' H')(h:d5 M H F a xs):d5 M H' F' a xs:=by
 rcases h with⟨n,h⟩|h
 ·exact .inl (tE m n h)
 ·exact .inr h
theorem cC.mv(m:Mv F H F' H')(h:cC M H F a xs):cC M H' F' a xs:=by
 rcases h with⟨n,h⟩|h
 ·exact .inl (tE m n h)
 ·exact .inr h
theorem dy.mv{kvs:List (Key×V)}(m:Mv F H F' H')(h:dy M H F a kvs):dy M H' F' a kvs:=by
 rcases h with⟨n,ob,h⟩|h
 ·exact .inl ⟨(m _ _ n h).1,ob,(m _ _ n h).2⟩
 ·exact .inr h
mutual
theorem Rep.mv(m:Mv F H F' H'):∀ {d:D} {v:V},Rep M H F d v→Rep M H' F' d v
 |.ai,_,h=>by simp only[Rep]at h ⊢;exact h
 |.bl _,_,h=>by simp only[Rep]at h ⊢;exact h
 |.int _,_,h=>by simp only[Rep]at h ⊢;exact h
 |.str _,_,h=>by simp only[Rep]at h ⊢;exact h
 | .tup ds,_,h=>by
   simp only[Rep]at h ⊢
   obtain⟨a,xs,e,t,r⟩:=h
   exact⟨a,xs,e,t.mv m,ab.mv m r⟩
 | .lst ds,_,h=>by
   simp only[Rep]at h ⊢
   obtain⟨a,xs,e,t,r⟩:=h
   exact⟨a,xs,e,t.mv m,ab.mv m r⟩
 | .aA ks ds,_,h=>by
   simp only[Rep]at h ⊢
   obtain⟨a,xs,e,t,l,r⟩:=h
   exact⟨a,xs,e,t.mv m,l,ab.mv m r⟩
 | .bG _ _ _,_,h=>by
   simp only[Rep]at h ⊢
   obtain⟨a,_,e,n,h⟩:=h
   rcases h with⟨z,C,q,k⟩|⟨z,o,xs,q,hd,r⟩
   ·exact⟨a,(),e,(m _ _ n q).1,.inl ⟨z,C,(m _ _ n q).2,k⟩⟩
   ·exact⟨a,(),e,(m _ _ n q).1,.inr ⟨z,o,xs,(m _ _ n q).2,hd,ab.mv m r⟩⟩
theorem ab.mv(m:Mv F H F' H'):∀ {ds:List D} {xs:List V},ab M H F ds xs→ab M H' F' ds xs
 |[],_,h=>by simp only[ab]at h ⊢;exact h
 | d::ds,_,h=>by
   simp only[ab]at h ⊢
   obtain⟨x,r,e,h1,h2⟩:=h
   exact⟨x,r,e,Rep.mv m h1,ab.mv m h2⟩
end
theorem ab.length:∀ {ds:List D} {xs:List V},ab M H F ds xs→ds.length=xs.length
 |[],_,h=>by simp only[ab]at h;subst h;rfl
 | d::ds,_,h=>by
   simp only[ab]at h
   obtain⟨x,r,rfl,_,h2⟩:=h
   simp[ab.length h2]
theorem ab.get:∀ {ds:List D} {xs:List V} {i:Nat} {d:D},ab M H F ds xs→ds[i]? =some d→∃x,xs[i]? =some x∧Rep M H F d x
 |[],_,_,_,_,e=>by simp at e
 | d::ds,_,0,_,h,e=>by
   simp only[ab]at h
   obtain⟨x,r,rfl,h1,_⟩:=h
   simp at e;subst e
   exact⟨x,rfl,h1⟩
 | d::ds,_,i+1,_,h,e=>by
   simp only[ab]at h
   obtain⟨x,r,rfl,_,h2⟩:=h
   obtain⟨y,e1,h3⟩:=ab.get h2 (by simpa using e)
   exact⟨y,by simpa using e1,h3⟩
theorem ab.append:∀ {ds es:List D} {xs ys:List V},ab M H F ds xs→ab M H F es ys→ab M H F (ds++es) (xs++ys)
 |[],_,_,_,h,g=>by simp only[ab]at h;subst h;exact g
 | d::ds,_,_,_,h,g=>by
   simp only[ab]at h
   obtain⟨x,r,rfl,h1,h2⟩:=h
   simp only[List.cons_append,ab]
   exact⟨x,_,rfl,h1,ab.append h2 g⟩
theorem ab.take:∀ {ds:List D} {xs:List V} (n:Nat),ab M H F ds xs→ab M H F (ds.take n) (xs.take n)
 |_,_,0,_=>by simp[ab]
 |[],_,n+1,h=>by simp only[ab]at h;subst h;simp[ab]
 | d::ds,_,n+1,h=>by
   simp only[ab]at h
   obtain⟨x,r,rfl,h1,h2⟩:=h
   simp only[List.take_succ_cons,ab]
   exact⟨x,_,rfl,h1,ab.take n h2⟩
theorem ab.drop:∀ {ds:List D} {xs:List V} (n:Nat),ab M H F ds xs→ab M H F (ds.drop n) (xs.drop n)
 |_,_,0,h=>h
 |[],_,n+1,h=>by simp only[ab]at h;subst h;simp[ab]
 | d::ds,_,n+1,h=>by
   simp only[ab]at h
   obtain⟨x,r,rfl,h1,h2⟩:=h
   exact ab.drop n h2
theorem ab.nil:ab M H F [] []:=by simp[ab]
theorem ab.cons{d:D}{x:V}{ds:List D}(h:Rep M H F d x)(t:ab M H F ds xs):ab M H F (d::ds) (x::xs):=by
 simp only[ab];exact⟨_,_,rfl,h,t⟩
theorem ab.set:∀ {ds:List D} {xs:List V} {d:D} {x:V} (i:Nat),Rep M H F d x→ab M H F ds xs→ab M H F (ds.set i d) (xs.set i x)
 |[],_,_,_,_,_,h=>by simp only[ab]at h;subst h;exact ab.nil
 | d::ds,_,_,_,0,g,h=>by
   simp only[ab]at h
   obtain⟨y,r,rfl,_,h2⟩:=h
   exact ab.cons g h2
 | d::ds,_,_,_,i+1,g,h=>by
   simp only[ab]at h
   obtain⟨y,r,rfl,h1,h2⟩:=h
   exact ab.cons h1 (ab.set i g h2)
end
noncomputable def aW(ρ:En)(i:Nat):Prop:=(∃ds,ρ[i]? =some (.ol ds))∨∃ks ds,ρ[i]? =some (.od ks ds)
mutual
noncomputable def af(M:Md)(H:Hp)(F:Addr→Prop):T→V→List Addr→Prop
 |.d x,v,as=>as=[]∧Rep M H F x v
 |.l ts,v,as=>∃a xs bs,v=.ref a∧as=a::bs∧F a∧H a=some (.lst xs)∧ag M H F ts xs bs
 |.m ks ts,v,as=>∃a xs bs,v=.ref a∧as=a::bs∧F a∧H a=some (.dK (ks.zip xs))∧ks.length=xs.length∧ag M H F ts xs bs
 |.tu ts,v,as=>∃a xs,v=.ref a∧¬F a∧H a=some (.tup xs)∧ag M H F ts xs as
noncomputable def ag(M:Md)(H:Hp)(F:Addr→Prop):List T→List V→List Addr→Prop
 |[],xs,as=>xs=[]∧as=[]
 |t::ts,xs,as=>∃x r bs cs,xs=x::r∧as=bs++cs∧af M H F t x bs∧ag M H F ts r cs
end
mutual
theorem af.mv{M:Md}{H H':Hp}{F F':Addr→Prop}(m:Mv F H F' H'):∀ {t:T} {v:V} {as:List Addr},(∀b∈as,∀u,F b→H b=some u→F' b∧H' b=some u)→af M H F t v as→af M H' F' t v as
 | .d x,v,as,_,h=>by
   simp only[af]at h ⊢
   exact⟨h.1,h.2.mv m⟩
 | .l ts,v,as,k,h=>by
   simp only[af]at h ⊢
   obtain⟨a,xs,bs,e1,rfl,f,e2,r⟩:=h
   obtain⟨f',e'⟩:=k a List.mem_cons_self _ f e2
   exact⟨a,xs,bs,e1,rfl,f',e',ag.mv m (fun b hb=>k b (List.mem_cons_of_mem _ hb)) r⟩
 | .m ks ts,v,as,k,h=>by
   simp only[af]at h ⊢
   obtain⟨a,xs,bs,e1,rfl,f,e2,l,r⟩:=h
   obtain⟨f',e'⟩:=k a List.mem_cons_self _ f e2
   exact⟨a,xs,bs,e1,rfl,f',e',l,ag.mv m (fun b hb=>k b (List.mem_cons_of_mem _ hb)) r⟩
 | .tu ts,v,as,k,h=>by
   simp only[af]at h ⊢
   obtain⟨a,xs,e1,f,e2,r⟩:=h
   exact⟨a,xs,e1,(m _ _ f e2).1,(m _ _ f e2).2,ag.mv m k r⟩
theorem ag.mv{M:Md}{H H':Hp}{F F':Addr→Prop}(m:Mv F H F' H'):∀ {ts:List T} {xs:List V} {as:List Addr},(∀b∈as,∀u,F b→H b=some u→F' b∧H' b=some u)→ag M H F ts xs as→ag M H' F' ts xs as
 |[],xs,as,_,h=>by simp only[ag]at h ⊢;exact h
 | t::ts,xs,as,k,h=>by
   simp only[ag]at h ⊢
   obtain⟨x,r,bs,cs,e1,rfl,h1,h2⟩:=h
   exact⟨x,r,bs,cs,e1,rfl,af.mv m (fun b hb=>k b (List.mem_append_left _ hb)) h1,ag.mv m (fun b hb=>k b (List.mem_append_right _ hb)) h2⟩
end
mutual
theorem af.det{M:Md}{H H':Hp}{F F':Addr→Prop}(m:∀a xs,¬F a→H a=some (.tup xs)→∀ys,H' a=some (.tup ys)→xs=ys):∀ {t:T} {v:V} {as as':List Addr},af M H F t v as→af M H' F' t v as'→(∀b∈as,∀u,F b→H b=some u→H' b=some u)→as=as'
 | .d x,v,as,as',h,h',_=>by
   simp only[af]at h h'
   rw[h.1,h'.1]
 | .l ts,v,as,as',h,h',k=>by
   simp only[af]at h h'
   obtain⟨a,xs,bs,rfl,rfl,f,e2,r⟩:=h
   obtain⟨a',xs',bs',e1,rfl,f',e2',r'⟩:=h'
   cases e1
   have e3:=k a List.mem_cons_self _ f e2
   rw[e2']at e3
   cases e3
   rw[ag.det m r r' fun b hb=>k b (List.mem_cons_of_mem _ hb)]
 | .m ks ts,v,as,as',h,h',k=>by
   simp only[af]at h h'
   obtain⟨a,xs,bs,rfl,rfl,f,e2,l,r⟩:=h
   obtain⟨a',xs',bs',e1,rfl,f',e2',l',r'⟩:=h'
   cases e1
   have e3:=k a List.mem_cons_self _ f e2
   rw[e2']at e3
   have e4:ks.zip xs'=ks.zip xs:=by injection e3 with e3;injection e3
   have e5:xs'=xs:=by
     have h1:=congrArg (List.map Prod.snd) e4
     rw[List.map_snd_zip (by omega),List.map_snd_zip (by omega)]at h1
     exact h1
   subst e5
   rw[ag.det m r r' fun b hb=>k b (List.mem_cons_of_mem _ hb)]
 | .tu ts,v,as,as',h,h',k=>by
   simp only[af]at h h'
   obtain⟨a,xs,rfl,f,e2,r⟩:=h
   obtain⟨a',xs',e1,f',e2',r'⟩:=h'
   cases e1
   have:=m a xs f e2 xs' e2'
   subst this
   exact ag.det m r r' k
theorem ag.det{M:Md}{H H':Hp}{F F':Addr→Prop}(m:∀a xs,¬F a→H a=some (.tup xs)→∀ys,H' a=some (.tup ys)→xs=ys):∀ {ts:List T} {xs:List V} {as as':List Addr},ag M H F ts xs as→ag M H' F' ts xs as'→(∀b∈as,∀u,F b→H b=some u→H' b=some u)→as=as'
 | [],xs,as,as',h,h',_=>by
   simp only[ag]at h h'
   rw[h.2,h'.2]
 | t::ts,xs,as,as',h,h',k=>by
   simp only[ag]at h h'
   obtain⟨x,r,bs,cs,rfl,rfl,h1,h2⟩:=h
   obtain⟨x',r',bs',cs',e1,rfl,h1',h2'⟩:=h'
   cases e1
   rw[af.det m h1 h1' fun b hb=>k b (List.mem_append_left _ hb),ag.det m h2 h2' fun b hb=>k b (List.mem_append_right _ hb)]
end
theorem af.fZ{M:Md}{H:Hp}{F F':Addr→Prop}{t:T}{v:V}{as as':List Addr}(h:af M H F t v as)(h':af M H F' t v as'):as=as':=
 af.det (fun a xs _ e ys e'=>by rw[e]at e';injection e' with z;injection z) h h' fun _ _ _ _ hu=>hu
mutual
theorem af.fs{M:Md}{H:Hp}{F:Addr→Prop}:∀ {t:T} {v:V} {as:List Addr},af M H F t v as→∀b∈as,F b∧∃u,H b=some u
 | .d x,v,as,h,b,hb=>by
   simp only[af]at h
   rw[h.1]at hb;cases hb
 | .l ts,v,as,h,b,hb=>by
   simp only[af]at h
   obtain⟨a,xs,bs,rfl,rfl,f,e2,r⟩:=h
   rcases List.mem_cons.mp hb with rfl|hb
   ·exact⟨f,_,e2⟩
   ·exact ag.fs r b hb
 | .m ks ts,v,as,h,b,hb=>by
   simp only[af]at h
   obtain⟨a,xs,bs,rfl,rfl,f,e2,l,r⟩:=h
   rcases List.mem_cons.mp hb with rfl|hb
   ·exact⟨f,_,e2⟩
   ·exact ag.fs r b hb
 | .tu ts,v,as,h,b,hb=>by
   simp only[af]at h
   obtain⟨a,xs,rfl,f,e2,r⟩:=h
   exact ag.fs r b hb
theorem ag.fs{M:Md}{H:Hp}{F:Addr→Prop}:∀ {ts:List T} {xs:List V} {as:List Addr},ag M H F ts xs as→∀b∈as,F b∧∃u,H b=some u
 | [],xs,as,h,b,hb=>by
   simp only[ag]at h
   rw[h.2]at hb;cases hb
 | t::ts,xs,as,h,b,hb=>by
   simp only[ag]at h
   obtain⟨x,r,bs,cs,rfl,rfl,h1,h2⟩:=h
   rcases List.mem_append.mp hb with hb|hb
   ·exact af.fs h1 b hb
   ·exact ag.fs h2 b hb
end
noncomputable def ak(H:Hp):T→V→List Nat→T→V→Prop
 |t,v,[],t',w=>t=t'∧v=w
 |.l ts,v,k::p,t',w=>∃a xs t1 x1,v=.ref a∧H a=some (.lst xs)∧ts[k]? =some t1∧xs[k]? =some x1∧ak H t1 x1 p t' w
 |.m ks ts,v,k::p,t',w=>∃a xs t1 x1,v=.ref a∧H a=some (.dK (ks.zip xs))∧ks.length=xs.length∧ts[k]? =some t1∧xs[k]? =some x1∧ak H t1 x1 p t' w
 |.d _,_,_::_,_,_=>False
 |.tu ts,v,k::p,t',w=>∃a xs t1 x1,v=.ref a∧H a=some (.tup xs)∧ts[k]? =some t1∧xs[k]? =some x1∧ak H t1 x1 p t' w
theorem ag.get{M:Md}{H:Hp}{F:Addr→Prop}:∀ {ts:List T} {xs:List V} {as:List Addr} {k:Nat} {t:T} {x:V},ag M H F ts xs as→ts[k]? =some t→xs[k]? =some x→∃bs,af M H F t x bs∧∀b∈bs,b∈as
 |[],_,_,_,_,_,_,e,_=>by simp at e
 | t::ts,xs,as,0,_,_,h,e,e'=>by
   simp only[ag]at h
   obtain⟨x,r,bs,cs,rfl,rfl,h1,h2⟩:=h
   cases e;cases e'
   exact⟨bs,h1,fun b hb=>List.mem_append_left _ hb⟩
 | t::ts,xs,as,k+1,_,_,h,e,e'=>by
   simp only[ag]at h
   obtain⟨x,r,bs,cs,rfl,rfl,h1,h2⟩:=h
   obtain⟨ds,h3,h4⟩:=ag.get h2 (by simpa using e) (by simpa using e')
   exact⟨ds,h3,fun b hb=>List.mem_append_right _ (h4 b hb)⟩
theorem ak.mv{M:Md}{H H':Hp}{F:Addr→Prop}(m:∀a o,¬F a→H a=some o→H' a=some o):∀ {p:List Nat} {t:T} {v:V} {t':T} {w:V} {as:List Addr},af M H F t v as→(∀b∈as,∀u,F b→H b=some u→H' b=some u)→ak H t v p t' w→ak H' t v p t' w
 | [],t,v,t',w,as,_,_,h=>by
   cases t<;>exact h
 | k::p,.l ts,v,t',w,as,r,hk,h=>by
   simp only[ak]at h ⊢
   simp only[af]at r
   obtain⟨a,xs,t1,x1,rfl,e,e1,e2,h⟩:=h
   obtain⟨a',xs',bs,ea,rfl,f,e',rs⟩:=r
   cases ea
   have e9:xs=xs':=by rw[e']at e;injection e with e;injection e with e;exact e.symm
   subst e9
   obtain⟨ds,r1,sub⟩:=rs.get e1 e2
   exact⟨a,xs,t1,x1,rfl,hk a List.mem_cons_self _ f e',e1,e2,ak.mv m r1 (fun b hb=>hk b (List.mem_cons_of_mem _ (sub b hb))) h⟩
 | k::p,.m ks ts,v,t',w,as,r,hk,h=>by
   simp only[ak]at h ⊢
   simp only[af]at r
   obtain⟨a,xs,t1,x1,rfl,e,l,e1,e2,h⟩:=h
   obtain⟨a',xs',bs,ea,rfl,f,e',l',rs⟩:=r
   cases ea
   rw[e']at e
   have e5:xs'=xs:=by
     have e4:ks.zip xs'=ks.zip xs:=by injection e with e;injection e
     have h1:=congrArg (List.map Prod.snd) e4
     rw[List.map_snd_zip (by omega),List.map_snd_zip (by omega)]at h1
     exact h1
   subst e5
   obtain⟨ds,r1,sub⟩:=rs.get e1 e2
   exact⟨a,xs',t1,x1,rfl,hk a List.mem_cons_self _ f e',l,e1,e2,ak.mv m r1 (fun b hb=>hk b (List.mem_cons_of_mem _ (sub b hb))) h⟩
 |k::p,.d _,v,t',w,as,_,_,h=>h.elim
 | k::p,.tu ts,v,t',w,as,r,hk,h=>by
   simp only[ak]at h ⊢
   simp only[af]at r
   obtain⟨a,xs,t1,x1,rfl,e,e1,e2,h⟩:=h
   obtain⟨a',xs',ea,f,e',rs⟩:=r
   cases ea
   have e9:xs=xs':=by rw[e']at e;injection e with e;injection e with e;exact e.symm
   subst e9
   obtain⟨ds,r1,sub⟩:=rs.get e1 e2
   exact⟨a,xs,t1,x1,rfl,m _ _ f e',e1,e2,ak.mv m r1 (fun b hb=>hk b (sub b hb)) h⟩
noncomputable def cw(M:Md)(H:Hp)(F:Addr→Prop)(σ:St)(ρ:En)(i:Nat)(b:Addr):Prop:=∃t v as,ρ[i]? =some (.on (.tr t))∧σ[i]? =some (some v)∧af M H F t v as∧b∈as
noncomputable def wc(M:Md)(H:Hp)(F:Addr→Prop)(σ:St)(ρ:En)(i:Nat):Sp→Prop
 |.tr t=>∃v as,σ[i]? =some (some v)∧af M H F t v as∧as.Nodup
 |.al k p=>∀t,ρ[k]? =some (.on (.tr t))→∃v w t',σ[k]? =some (some v)∧σ[i]? =some (some w)∧ak H t v p t' w∧t'.own=true
noncomputable def dN(M:Md)(H:Hp)(F:Addr→Prop)(σ:St)(ρ:En):Prop:=∀i x,ρ[i]? =some (.on x)→
 wc M H F σ ρ i x∧(∀b,cw M H F σ ρ i b→∀j,aW ρ j→σ[j]? ≠some (some (.ref b)))∧∀t,x=.tr t→∀j t',ρ[j]? =some (.on (.tr t'))→j=i
theorem dN.no{M:Md}{H:Hp}{F:Addr→Prop}{σ:St}{ρ:En}(h:∀(i:Nat) x,ρ[i]? ≠some (.on x)):dN M H F σ ρ:=fun i x e=>absurd e (h i x)
theorem dN.back{M:Md}{H H':Hp}{F F':Addr→Prop}{σ σ':St}{ρ ρ':En}{i:Nat}{b:Addr}(r:dN M H F σ ρ)(hr:∀x,ρ'[i]? =some (.on x)→ρ[i]? =some (.on x))(hs:σ'[i]? =σ[i]?)
   (hk:∀a u,cw M H F σ ρ i a→F a→H a=some u→H' a=some u) (m:∀a o,¬F a→H a=some o→H' a=some o) (h:cw M H' F' σ' ρ' i b):cw M H F σ ρ i b:=by
 obtain⟨t,v,as,e,ev,tr,hb⟩:=h
 have e0:=hr _ e
 obtain⟨⟨v',as',ev',tr',nd⟩,_,_⟩:=r i _ e0
 rw[hs,ev']at ev
 cases ev
 have:=af.det (fun a xs n e ys e'=>by rw[m a _ n e]at e';injection e' with z;injection z) tr' tr fun c hc u f hu=>hk c u ⟨t,v,as',e0,ev',tr',hc⟩ f hu
 subst this
 exact⟨t,v,as',e0,ev',tr',hb⟩
theorem dN.mv{M:Md}{H H':Hp}{F F':Addr→Prop}{σ σ':St}{ρ ρ':En}(r:dN M H F σ ρ)(m:Mv F H F' H')(hρ:∀(j:Nat) x,ρ'[j]? =some (.on x)→ρ[j]? =some (.on x)∧σ'[j]? =σ[j]?)
   (hk:∀(j:Nat) x b u,ρ'[j]? =some (.on x)→cw M H F σ ρ j b→F b→H b=some u→F' b∧H' b=some u)
   (ho:∀(j:Nat) x b,ρ'[j]? =some (.on x)→cw M H F σ ρ j b→∀k:Nat,aW ρ' k→σ'[k]? ≠some (some (.ref b))):dN M H' F' σ' ρ':=fun i x e=>by
 obtain⟨e0,es⟩:=hρ i x e
 obtain⟨h1,h2,h3⟩:=r i x e0
 refine⟨?_,fun b hb k ok=>?_,fun t ht j t' ej=>h3 t ht j t' (hρ j _ ej).1⟩
 · cases x with
   | tr t=>
     obtain⟨v,as,ev,tr,nd⟩:=h1
     exact⟨v,as,by rw[es];exact ev,tr.mv m fun b hb u f hu=>hk i _ b u e ⟨t,v,as,e0,ev,tr,hb⟩ f hu,nd⟩
   | al k p=>
     intro t et
     obtain⟨ek,ek2⟩:=hρ k _ et
     obtain⟨v,w,t',e1,e2,at',ow⟩:=h1 t ek
     obtain⟨⟨v',as,e1',tr,_⟩,_,_⟩:=r k _ ek
     rw[e1]at e1'
     cases e1'
     exact⟨v,w,t',by rw[ek2];exact e1,by rw[es];exact e2,at'.mv (fun a o n e=>(m a o n e).2) tr fun b hb u f hu=>(hk k _ b u et ⟨t,v,as,ek,e1,tr,hb⟩ f hu).2,ow⟩
 ·refine ho i x b e (r.back (fun y ey=>(hρ i y ey).1) es (fun c u hc f hu=>(hk i x c u e hc f hu).2) (fun a o n e=>(m a o n e).2) hb) k ok
theorem dN.f{M:Md}{H:Hp}{F:Addr→Prop}{σ:St}{ρ:En}{i:Nat}{b:Addr}(h:cw M H F σ ρ i b):F b∧∃u,H b=some u:=by
 obtain⟨t,v,as,e,ev,tr,hb⟩:=h
 exact tr.fs b hb
structure aI(M:Md)(H:Hp)(F:Addr→Prop)(σ:St)(ρ:En):Prop where
 len:ρ.length=σ.length
 aK:∀a,F a→∃o,H a=some o
 sh:∀(i:Nat) d,ρ[i]? =some (.sh d)→∃v,σ[i]? =some (some v)∧Rep M H F d v
 ol:∀(i:Nat) ds,ρ[i]? =some (.ol ds)→∃a xs,σ[i]? =some (some (.ref a))∧F a∧H a=some (.lst xs)∧ab M H F ds xs
 od:∀(i:Nat) ks ds,ρ[i]? =some (.od ks ds)→∃a xs,σ[i]? =some (some (.ref a))∧F a∧H a=some (.dK (ks.zip xs))∧ks.length=xs.length∧ab M H F ds xs
 bE:∀(i j:Nat) a,aW ρ i→aW ρ j→σ[i]? =some (some (.ref a))→σ[j]? =some (some (.ref a))→i=j
 on:dN M H F σ ρ
section
variable{M:Md}{H H':Hp}{F F':Addr→Prop}{σ:St}{ρ:En}
theorem aI.same(r:aI M H F σ ρ)(h:ah H H'):aI M H' F σ ρ where
 len:=r.len
 aK a f:=let⟨o,e⟩:=r.aK a f;⟨o,h _ _ e⟩
 sh i d e:=let⟨v,e1,q⟩:=r.sh i d e;⟨v,e1,q.mv (.same h)⟩
 ol i ds e:=let⟨a,xs,e1,f,e2,q⟩:=r.ol i ds e;⟨a,xs,e1,f,h _ _ e2,q.mv (.same h)⟩
 od i ks ds e:=let⟨a,xs,e1,f,e2,l,q⟩:=r.od i ks ds e;⟨a,xs,e1,f,h _ _ e2,l,q.mv (.same h)⟩
 bE:=r.bE
 on:=r.on.mv (.same h) (fun j xss e=>⟨e,rfl⟩) (fun j xss b u e hb f hu=>⟨f,h _ _ hu⟩) fun j xss b e hb k ok=>(r.on j xss e).2.1 b hb k ok
theorem get_set{α:Type}{l:List α}{i j:Nat}{x y:α}(h:(l.set i x)[j]? =some y):(i=j∧x=y∧i<l.length)∨(i≠j∧l[j]? =some y):=by
 by_cases e:i=j
 · subst e
   rw[List.getElem?_set_self']at h
   cases q:l[i]? with
   |none=>rw[q]at h;cases h
   | some z=>
     rw[q]at h
     obtain⟨hl,_⟩:=List.getElem?_eq_some_iff.mp q
     simp at h
     exact .inl ⟨rfl,h,hl⟩
 · rw[List.getElem?_set_ne e]at h
   exact .inr ⟨e,h⟩
theorem aI.mZ{i:Nat}{d:D}{v:V}(r:aI M H F σ ρ)(h:Rep M H F d v):aI M H F (σ.set i (some v)) (ρ.set i (.sh d)) where
 len:=by simp[r.len]
 aK:=r.aK
 sh j e q:=by
   rcases get_set q with⟨rfl,hx,hl⟩|⟨hne,q⟩
   · cases hx
     exact⟨v,by rw[List.getElem?_set_self (by rw[←r.len];exact hl)],h⟩
   · obtain⟨w,e1,g⟩:=r.sh j e q
     exact⟨w,by rw[List.getElem?_set_ne hne];exact e1,g⟩
 ol j e q:=by
   rcases get_set q with⟨rfl,x,hl⟩|⟨hne,q⟩
   ·cases x
   · obtain⟨a,xs,e1,g⟩:=r.ol j e q
     exact⟨a,xs,by rw[List.getElem?_set_ne hne];exact e1,g⟩
 od j k e q:=by
   rcases get_set q with⟨rfl,x,hl⟩|⟨hne,q⟩
   ·cases x
   · obtain⟨a,xs,e1,g⟩:=r.od j k e q
     exact⟨a,xs,by rw[List.getElem?_set_ne hne];exact e1,g⟩
 bE j k a oj ok ej ek:=by
   have nj:i≠j:=by
     rintro rfl
     rcases oj with⟨ds,q⟩|⟨ks,ds,q⟩
     · rcases get_set q with⟨_,x,_⟩|⟨hne,_⟩
       ·cases x
       ·exact hne rfl
     · rcases get_set q with⟨_,x,_⟩|⟨hne,_⟩
       ·cases x
       ·exact hne rfl
   have nk:i≠k:=by
     rintro rfl
     rcases ok with⟨ds,q⟩|⟨ks,ds,q⟩
     · rcases get_set q with⟨_,x,_⟩|⟨hne,_⟩
       ·cases x
       ·exact hne rfl
     · rcases get_set q with⟨_,x,_⟩|⟨hne,_⟩
       ·cases x
       ·exact hne rfl
   rw[List.getElem?_set_ne nj]at ej
   rw[List.getElem?_set_ne nk]at ek
   refine r.bE j k a ?_ ?_ ej ek
   ·unfold aW at oj;simp only[List.getElem?_set_ne nj]at oj;exact oj
   ·unfold aW at ok;simp only[List.getElem?_set_ne nk]at ok;exact ok
 on := r.on.mv (fun _ _ n e=>⟨n,e⟩) (fun j xss e=>by
     rcases get_set e with⟨_,x,_⟩|⟨hne,e⟩
     ·cases x
     ·exact⟨e,List.getElem?_set_ne hne⟩) (fun j xss b u e hb f hu=>⟨f,hu⟩) fun j xss b e hb k ok=>by
   have e0:ρ[j]? =some (.on xss):=by
     rcases get_set e with⟨_,x,_⟩|⟨hne,e⟩
     ·cases x
     ·exact e
   have nk:i≠k:=by
     rintro rfl
     rcases ok with⟨ds,q⟩|⟨ks,ds,q⟩
     · rcases get_set q with⟨_,x,_⟩|⟨hne,_⟩
       ·cases x
       ·exact hne rfl
     · rcases get_set q with⟨_,x,_⟩|⟨hne,_⟩
       ·cases x
       ·exact hne rfl
   rw[List.getElem?_set_ne nk]
   refine(r.on j xss e0).2.1 b hb k ?_
   unfold aW at ok;simp only[List.getElem?_set_ne nk]at ok;exact ok
end
open L2 (aN dY aZ R2 EP)
theorem aj{α β:Type}{x:R α}{f:α→R β}{b:β}:x.bind f=.ok b↔∃a,x=.ok a∧f a=.ok b:=by
 cases x with
 |ok a=>simp
 |exc y=>simp
 |bad=>simp
noncomputable def tP(M:Md)(f:Ex):TE:=fun σ H Q=>∃ρ F d,aI M H F σ ρ∧f ρ=.ok d∧∀v H',ah H H'→Rep M H' F d v→Q v H'
noncomputable def sX(M:Md)(c:aF):TT:=fun σ H Q=>∃ρ F b,aI M H F σ ρ∧c ρ=.ok b∧∀H',ah H H'→Q b H'
noncomputable def kF(M:Md)(f:En→R (List D)):TA:=fun σ H Q=>∃ρ F ds,aI M H F σ ρ∧f ρ=.ok ds∧∀vs H',ah H H'→ab M H' F ds vs→Q vs H'
noncomputable abbrev JE(X:Cx)(e:Expr)(f:Ex):Prop:=PE X e (tP (ar X) f)
noncomputable abbrev JT(X:Cx)(e:Expr)(c:aF):Prop:=PT X e (sX (ar X) c)
noncomputable abbrev JA(X:Cx)(es:List Expr)(f:En→R (List D)):Prop:=PA X es (kF (ar X) f)
theorem aY{X:Cx}{e:Expr}{t t':TE}(h:PE X e t')(hi:∀σ H Q,t σ H Q→t' σ H Q):PE X e t:=fun pins s σ H Q I q=>h pins s σ H Q I (hi σ H Q q)
theorem jn{X:Cx}{e:Expr}{t t':TT}(h:PT X e t')(hi:∀σ H Q,t σ H Q→t' σ H Q):PT X e t:=fun pins s σ H Q I q=>h pins s σ H Q I (hi σ H Q q)
theorem lr{X:Cx}{e:List Expr}{t t':TA}(h:PA X e t')(hi:∀σ H Q,t σ H Q→t' σ H Q):PA X e t:=fun pos pins s σ H Q I q=>h pos pins s σ H Q I (hi σ H Q q)
theorem qw{X:Cx}{e:Expr}{t t':TT}(h:PW X e t')(hi:∀σ H Q,t σ H Q→t' σ H Q):PW X e t:=fun wh pins s σ H Q I q=>h wh pins s σ H Q I (hi σ H Q q)
theorem ah.bS{H:Hp}{p:Addr}(h:H p=none)(o:HO):ah H (upd H p o):=fun b u q=>by rw[L2.az (L2.en q h)];exact q
section
variable{X:Cx}{M:Md}{H H':Hp}{F:Addr→Prop}{σ:St}{ρ:En}{pos:Pos}
theorem AD{i:Nat}{d:D}(h:aa i ρ=.ok d):ρ[i]? =some (.sh d):=by
 unfold aa at h
 split at h
 ·rename_i e;cases h;exact e
 ·cases h
theorem Be(i:Nat){x:Str}(hN:X.N[i]? =some x:=by rfl)(hv:L2.cg X.env.scope x:=by first|exact Or.inl rfl|exact Or.inr (Or.inl rfl)|exact Or.inr (Or.inr rfl))(hd:(x==("__debug__":Str))=false:=by decide)
   (hcd:(x==("__classdict__":Str))=false:=by decide):JE X (.Name x pos) (aa i):=
 aY (L2.pv i hN hv hd hcd) fun σ H Q ⟨ρ,F,d,r,e,q⟩=>by
   obtain⟨v,e1,rv⟩:=r.sh i d (AD e)
   exact⟨v,e1,q v H (ah.refl H) rv⟩
theorem vb{i:Int}{j:Nat}:JE X (.Constant (.int i) j pos) (eC (.int i)):=
 aY L2.vd fun σ H Q ⟨ρ,F,d,r,e,q⟩=>by cases e;exact q _ H (ah.refl H) (by simp[Rep])
theorem zm{b:Bool}{j:Nat}:JE X (.Constant (.bool b) j pos) (eC (.bl b)):=
 aY L2.zx fun σ H Q ⟨ρ,F,d,r,e,q⟩=>by cases e;exact q _ H (ah.refl H) (by simp[Rep])
theorem zL{j:Nat}:JE X (.Constant .none j pos) (eC .ai):=
 aY L2.wD fun σ H Q ⟨ρ,F,d,r,e,q⟩=>by cases e;exact q _ H (ah.refl H) (by simp[Rep])
theorem wo{x:Str}{j:Nat}:JE X (.Constant (.str x) j pos) (eC (.str x)):=
 aY L2.y9 fun σ H Q ⟨ρ,F,d,r,e,q⟩=>by cases e;exact q _ H (ah.refl H) (by simp[Rep])
theorem Ag{x:Str}{d:D}{v:V}{u:Value}(hg:L2.Gl X x)(hm:X.mg x=some u)(r:RelV v u)(hr:∀H F,Rep (ar X) H F d v)(hd:(x==("__debug__":Str))=false:=by decide):JE X (.Name x pos) (eC d):=
 aY (L2.uw hg hm r hd) fun σ H Q ⟨ρ,F,d',r,e,q⟩=>by cases e;exact q _ H (ah.refl H) (hr H F)
noncomputable def b7(M:Md)(g:D→D→R D)(r:R2):Prop:=∀(F:Addr→Prop) (H:Hp) (x y:V) (a b d:D) (Q:VK),(∀p,F p→∃o,H p=some o)→Rep M H F a x→Rep M H F b y→g a b=.ok d→
 (∀v H',ah H H'→Rep M H' F d v→Q v H')→r x y H Q
noncomputable def dJ(M:Md)(g:List D→R D)(r:List V→Hp→VK→Prop):Prop:=∀(F:Addr→Prop) (H:Hp) (xs:List V) (as:List D) (d:D) (Q:VK),(∀p,F p→∃o,H p=some o)→ab M H F as xs→g as=.ok d→
 (∀v H',ah H H'→Rep M H' F d v→Q v H')→r xs H Q
theorem lL{g:D→D→R D}{r:R2}(hg:b7 M g r){fa fb:Ex}{Q:VK}(h:tP M (e2 g fa fb) σ H Q):L2.jQ r (tP M fa) (tP M fb) σ H Q:=by
 obtain⟨ρ,F,d,hr,e,q⟩:=h
 obtain⟨a,ea,e⟩:=aj.mp e
 obtain⟨b,eb,e⟩:=aj.mp e
 refine⟨ρ,F,a,hr,ea,fun x H1 s1 rx=>⟨ρ,F,b,hr.same s1,eb,fun y H2 s2 ry=>?_⟩⟩
 exact hg F H2 x y a b d Q ((hr.same s1).same s2).aK (rx.mv (.same s2)) ry e fun v H3 s3 rv=>q v H3 (s1.trans (s2.trans s3)) rv
theorem wB{op:Operator}{g:D→D→R D}{r:R2}{a b:Expr}{fa fb:Ex}(ho:aN X (binaryOp op) r)(hg:b7 (ar X) g r)(ha:JE X a fa)(hb:JE X b fb):JE X (.BinOp a op b pos) (e2 g fa fb):=
 aY (L2.Br ho ha hb) fun σ H Q h=>lL hg h
theorem xi{op:CmpOp}{g:D→D→R D}{r:R2}{a b:Expr}{fa fb:Ex}(ho:aN X (compareOp op) r)(hg:b7 (ar X) g r)(ha:JE X a fa)(hb:JE X b fb)(hm:behindInMarks op b=false):JE X (.Compare a [op] [b] pos) (e2 g fa fb):=
 aY (L2.uW ho ha hb hm) fun σ H Q h=>lL hg h
theorem bh{i:Int}{v:V}(h:Rep M H F (.int i) v):v=.int i:=by simpa only[Rep] using h
theorem eU{i:Bool}{v:V}(h:Rep M H F (.bl i) v):v=.bl i:=by simpa only[Rep] using h
theorem dB{i:Str}{v:V}(h:Rep M H F (.str i) v):v=.str i:=by simpa only[Rep] using h
theorem kJ{v:V}(h:Rep M H F .ai v):v=.ai:=by simpa only[Rep] using h
theorem cP{i:Int}:Rep M H F (.int i) (.int i):=by simp only[Rep]
theorem cO{i:Bool}:Rep M H F (.bl i) (.bl i):=by simp only[Rep]
theorem g8{i:Str}:Rep M H F (.str i) (.str i):=by simp only[Rep]
theorem nQ:Rep M H F .ai .ai:=by simp only[Rep]
theorem mI{i:Int}(h:small i=true): -(2 ^ 64)<i∧i<2 ^ 64:=by
 unfold small at h
 rw[Bool.and_eq_true,decide_eq_true_eq,decide_eq_true_eq]at h
 exact⟨h.1,h.2⟩
theorem yb:b7 M lQ (L2.eJ fun i j=>.int (i - j)):=by
 intro F H x y a b d Q tr ra rb e q
 unfold lQ at e
 split at e
 · cases e
   exact⟨_,_,bh ra,bh rb,q _ _ (ah.refl _) cP⟩
 ·cases e
theorem rC:b7 M fu (L2.eJ fun i j=>.bl (decide (j<i))):=by
 intro F H x y a b d Q tr ra rb e q
 unfold fu at e
 split at e
 · cases e
   exact⟨_,_,bh ra,bh rb,q _ _ (ah.refl _) cO⟩
 ·cases e
theorem vJ:b7 M ig (L2.eJ fun i j=>.bl (decide (j≤i))):=by
 intro F H x y a b d Q tr ra rb e q
 unfold ig at e
 split at e
 · cases e
   exact⟨_,_,bh ra,bh rb,q _ _ (ah.refl _) cO⟩
 ·cases e
theorem cN:b7 M oMod (L2.rI (fun _ j=>0<j) fun i j=>.int (i % j)):=by
 intro F H x y a b d Q tr ra rb e q
 unfold oMod at e
 split at e
 · split at e
   · cases e
     exact⟨_,_,bh ra,bh rb,by assumption,q _ _ (ah.refl _) cP⟩
   ·cases e
 ·cases e
theorem lK:b7 M fR (L2.rI L2.oX fun i j=>.int (i ^ j.toNat)):=by
 intro F H x y a b d Q tr ra rb e q
 unfold fR at e
 split at e
 · split at e
   · rename_i i j h
     cases e
     rw[Bool.and_eq_true]at h
     have h3:=mI h.2
     have h4:=h.1
     unfold pB at h4
     rw[Bool.and_eq_true,decide_eq_true_eq,decide_eq_true_eq]at h4
     exact⟨_,_,bh ra,bh rb,⟨h4.1,by omega,by omega⟩,q _ _ (ah.refl _) cP⟩
   ·cases e
 ·cases e
noncomputable def tD(i j:Int):Prop:=0<j∧j<340282366920938463463374607431768211456
theorem gx : aN X (binaryOp .FloorDiv) (L2.rI tD fun i j => .int (i / j)):=by
 refine L2.kE fun i j t u s Q E c h=>?_
 have e:i / j=i.fdiv j:=(Int.fdiv_eq_ediv_of_nonneg _ (Int.le_of_lt c.1)).symm
 rw[e]at h
 refine PyProof.Rows.floordiv_int (by have:=c.1;omega) h (Or.inl ?_)
 refine PyProof.noPylong_of_log2 ?_
 have h0:j.natAbs≠0:=by have:=c.1;omega
 have h1 : j.natAbs.log2 < 128 := (Nat.log2_lt h0).mpr (by have:=c.2;have h2:(340282366920938463463374607431768211456:Nat)=2 ^ 128:=by decide
                                                           have:=c.1;omega)
 omega
theorem fX:b7 M oDiv (L2.rI tD fun i j=>.int (i / j)):=by
 intro F H x y a b d Q tr ra rb e q
 unfold oDiv at e
 split at e
 · split at e
   · rename_i h
     cases e
     unfold oK at h
     rw[Bool.and_eq_true,decide_eq_true_eq,decide_eq_true_eq]at h
     exact⟨_,_,bh ra,bh rb,h,q _ _ (ah.refl _) cP⟩
   ·cases e
 ·cases e
end
section
variable{X:Cx}{M:Md}{H H':Hp}{F:Addr→Prop}{σ:L2.St}{ρ:En}{pos:Pos}{pins:List (Addr×Obj)}{s:Shared}
theorem iO{a:Addr}{xs:List V}(I:Inv X pins σ H s)(h:d5 (ar X) H F a xs):∃(its:List Value) (n:Nat) (sl:Array (Option Value)),Vals xs its∧s.heap.get? a=some {cls:=.type "list",data:=.seq its.toArray n,slots:=sl}∧xs.length≤sizeLine:=by
 rcases h with⟨_,h⟩|⟨o,its,n,hk,h1,h2,h3,hz,r⟩
 · obtain⟨z,its,n,r,e⟩:=h.ok I.aB
   exact⟨its,n, #[],r,e,z⟩
 · obtain⟨c,dd,dt,sl⟩:=o
   simp only at h1 h2 h3
   subst h1 h2 h3
   refine⟨its.toList,n,sl,r,by simpa using I.bI a _ hk,?_⟩
   have e:=r.length
   simp only[Array.length_toList]at e
   omega
theorem yE(l:Addr)(items:Array Value)(n:Nat)(sl:Array (Option Value))(b:Addr)(items2:Array Value)(n2:Nat)(sl2:Array (Option Value))(hc0:items.size+items2.size≤sizeLine):
   Meets (Builtin.«list.__add__» ⟨[.ref l,.ref b],[]⟩) (fun _ R s=>s.heap.get? l=some {cls:=.type "list",dict:=none,data:=.seq items n,slots:=sl}∧s.heap.get? b=some {cls:=.type "list",dict:=none,data:=.seq items2 n2,slots:=sl2}∧R (.ok (.ret (Value.ref s.heap.objs.size))) {s with heap:=s.heap.push {cls:=Value.type "list",data:=Data.seq (items++items2)},toks:=s.toks}):=
 .of_wp fun prog w A R s h=>by obtain⟨hp,g,d,tk,os⟩:=s;obtain⟨hl,hb,h⟩:=h;have f1:=AutoSeq1.idx_int;have f2:=AutoSeq1.sub_tuple_tuple;have f3:=AutoSeq1.sub_list_list;have f4:=AutoSeq1.sub_tuple_list;have f5:=AutoSeq1.sub_list_tuple;wp_walk using AutoSeq1.wpAny_loadPart' hl,AutoSeq1.wpAny_loadPart' hb;exact⟨_,rfl,h⟩
theorem ip{a:Addr}{xs:List V}(I:Inv X pins σ H s)(h:cC (ar X) H F a xs):∃its:List Value,Vals xs its∧PyProof.Rows.IsTup s.heap a its.toArray∧xs.length≤sizeLine:=I.tuple h.sq
noncomputable def oZ(M:Md):R2:=fun x y H Q=>∃F l b xs zs,x=.ref l∧y=.ref b∧d5 M H F l xs∧d5 M H F b zs∧xs.length+zs.length≤sizeLine∧∀p,H p=none→Q (.ref p) (upd H p (.lst (xs++zs)))
theorem AL:aN X (binaryOp .Add) (oZ (ar X)):=by
 intro pins s σ H x y v u Q I rx ry h
 obtain⟨F,l,b,xs,zs,rfl,rfl,hH,hB,hz,q⟩:=h
 cases rx
 cases ry
 obtain⟨its,n,sl,r,e,z⟩:=iO I hH
 obtain⟨its2,n2,sl2,r2,e2,z2⟩:=iO I hB
 have h1:=r.length
 have h2:=r2.length
 refine concat_meets ⟨_,e,rfl⟩ ⟨_,e2,rfl⟩ noFill_list_add seq_list_add PySem.F.slot_list_add PySem.F.entry_list_add (PySem.F.args_list_add_2 _ _) (yE l its.toArray n sl b its2.toArray n2 sl2 (by rw[List.size_toArray,List.size_toArray];omega)) ⟨e,e2,?_⟩
 have ea:its.toArray++its2.toArray=(its++its2).toArray:=by simp
 rw[ea]
 exact⟨.ref _,_,I.z0 (t':=s.toks) (r.append r2) (by rw[List.length_append];omega),rfl,q _ I.fresh⟩
noncomputable def rR(M:Md):R2:=fun x y H Q=>(L2.eJ fun i j=>.int (i+j)) x y H Q∨(∃i j,x=.str i∧y=.str j∧i.length+j.length≤sizeLine∧Q (.str (i++j)) H)∨oZ M x y H Q∨L2.qZ M.K x y H Q
theorem gb:aN X (binaryOp .Add) (rR (ar X)):=L2.aN.or L2.gb (L2.aN.or L2.AJ (L2.aN.or AL L2.zy))
theorem jf{p:Addr}(tr:∀p,F p→∃o,H p=some o)(h:H p=none):¬F p:=fun f=>by obtain⟨o,e⟩:=tr p f;rw[h]at e;cases e
theorem mq{p:Addr}{ds:List D}{xs:List V}(tr:∀p,F p→∃o,H p=some o)(h:H p=none)(r:ab M H F ds xs):Rep M (upd H p (.lst xs)) F (.lst ds) (.ref p):=by
 simp only[Rep]
 exact⟨p,xs,rfl,.inl ⟨jf tr h,.inl L2.aV⟩,r.mv (.same (ah.bS h _))⟩
theorem kj{p:Addr}{ds:List D}{xs:List V}(tr:∀p,F p→∃o,H p=some o)(h:H p=none)(r:ab M H F ds xs):Rep M (upd H p (.tup xs)) F (.tup ds) (.ref p):=by
 simp only[Rep]
 exact⟨p,xs,rfl,.inl ⟨jf tr h,.inl L2.aV⟩,r.mv (.same (ah.bS h _))⟩
theorem iC:b7 M dS (rR M):=by
 intro F H x y a b d Q tr ra rb e q
 unfold dS at e
 split at e
 · cases e
   exact .inl ⟨_,_,bh ra,bh rb,q _ _ (ah.refl _) cP⟩
 · split at e
   · cases e
     exact .inr (.inl ⟨_,_,dB ra,dB rb,by assumption,q _ _ (ah.refl _) g8⟩)
   ·cases e
 · split at e
   · rename_i hz
     cases e
     simp only[Rep]at ra rb
     obtain⟨l,xs,rfl,h1,r1⟩:=ra
     obtain⟨m,zs,rfl,h2,r2⟩:=rb
     refine .inr (.inr (.inl ⟨F,l,m,xs,zs,rfl,rfl,h1,h2,by rw[←r1.length, ←r2.length];exact hz,fun p hp=>q _ _ (ah.bS hp _) (mq tr hp (r1.append r2))⟩))
   ·cases e
 · split at e
   · rename_i hz
     cases e
     simp only[Rep]at ra rb
     obtain⟨l,xs,rfl,h1,r1⟩:=ra
     obtain⟨m,zs,rfl,h2,r2⟩:=rb
     have l1:=r1.length
     have l2:=r2.length
     refine .inr (.inr (.inr ⟨l,m,xs,zs,rfl,rfl,h1.sq,h2.sq,?_,by rw[←l1, ←l2];exact hz.2,fun e0=>?_,fun _ p hp=>q _ _ (ah.bS hp _) (kj tr hp (r1.append r2))⟩))
     · intro e0
       subst e0
       have:=hz.1
       rename_i as bs
       cases as with
       |nil=>cases this
       |cons _ _=>simp at l1
     · subst e0
       rename_i as bs
       cases bs with
       |cons _ _=>simp at l2
       | nil=>
         refine q _ _ (ah.refl _) ?_
         rw[List.append_nil]
         simp only[Rep]
         exact⟨l,xs,rfl,h1,r1⟩
   ·cases e
 ·cases e
theorem uS{j:Nat}{p2:Pos}{a:Expr}{fa:Ex}(ha:JE X a fa):JE X (.Compare a [.Is] [.Constant .none j p2] pos) (e1 cM fa):=
 aY (L2.sI (L2.rM ha)) fun σ H Q ⟨ρ,F,d,hr,e,q⟩=>by
   obtain⟨a,ea,e⟩:=aj.mp e
   refine⟨ρ,F,a,hr,ea,fun x H1 s1 rx=>?_⟩
   cases e
   refine q _ _ s1 ?_
   cases a<;>simp only[Rep]at rx
   all_goals first
     |(subst rx;exact cO)
     |(obtain⟨p,xs,rfl,_⟩:=rx;exact cO)
theorem Bo{j:Nat}{p2:Pos}{a:Expr}{fa:Ex}(ha:JE X a fa):JE X (.Compare a [.IsNot] [.Constant .none j p2] pos) (e1 cV fa):=
 aY (L2.sI (L2.sA ha)) fun σ H Q ⟨ρ,F,d,hr,e,q⟩=>by
   obtain⟨a,ea,e⟩:=aj.mp e
   refine⟨ρ,F,a,hr,ea,fun x H1 s1 rx=>?_⟩
   cases e
   refine q _ _ s1 ?_
   cases a<;>simp only[Rep]at rx
   all_goals first
     |(subst rx;exact cO)
     |(obtain⟨p,xs,rfl,_⟩:=rx;exact cO)
theorem xm{op:BoolOp}{a:Expr}{fa:Ex}(h:JE X a fa):JE X (.BoolOp op [a] pos) fa:=L2.zR h
theorem AY{a b:Expr}{rest:List Expr}{fa fb:Ex}(ha:JE X a fa)(hb:JE X (.BoolOp .And (b::rest) pos) fb):JE X (.BoolOp .And (a::b::rest) pos) (b6 fa fb):=
 aY (L2.Ay ha hb) fun σ H Q ⟨ρ,F,d,hr,e,q⟩=>by
   obtain⟨a,ea,e⟩:=aj.mp e
   refine⟨ρ,F,a,hr,ea,fun x H1 s1 rx=>?_⟩
   split at e
   ·exact⟨true,eU rx,by rw[if_pos rfl];exact⟨ρ,F,d,hr.same s1,e,fun v H2 s2 rv=>q v H2 (s1.trans s2) rv⟩⟩
   · cases e
     exact⟨false,eU rx,by rw[if_neg (by decide)];exact q _ _ s1 cO⟩
   ·cases e
theorem yX{a:D}{x:V}{t:Bool}(r:Rep M H F a x)(e:truth a=.ok t):L2.lZ M.K x H t:=by
 cases a with
 |ai=>cases e;cases kJ r;rfl
 |bl b=>cases e;cases eU r;rfl
 |int i=>cases e;cases bh r;rfl
 | str z=>
   unfold truth at e
   dsimp only at e
   split at e
   · rename_i hz
     cases e;cases dB r
     refine⟨hz,?_⟩
     rw[Bool.eq_iff_iff]
     simp
   ·cases e
 | tup ds=>
   cases e
   simp only[Rep]at r
   obtain⟨p,xs,rfl,h,rs⟩:=r
   refine .inr (.inl ⟨xs,h.sq,?_⟩)
   have:=rs.length
   cases ds<;>cases xs<;>simp at this ⊢
 | lst ds=>
   cases e
   simp only[Rep]at r
   obtain⟨p,xs,rfl,h,rs⟩:=r
   refine .inl ⟨xs,h.sq,?_⟩
   have:=rs.length
   cases ds<;>cases xs<;>simp at this ⊢
 |aA ks ds=>cases e
 |bG _ _ _=>cases e
theorem A5{a:Expr}{fa:Ex}(ha:JE X a fa)(he:∀whole,isTrue a X.env whole=(do let v ←whole;standAt a.pos;holding [v] (truthy v)):=by intro _;rfl):JT X a (tV fa):=
 jn (L2.yg ha he) fun σ H Q ⟨ρ,F,b,hr,e,q⟩=>by
   obtain⟨a,ea,e⟩:=aj.mp e
   exact⟨ρ,F,a,hr,ea,fun x H1 s1 rx=>⟨b,yX rx e,q H1 s1⟩⟩
noncomputable def ix(g:D→D→R D):Prop:=∀a b d,g a b=.ok d→∃k,d=.bl k
theorem xo{op:CmpOp}{g:D→D→R D}{r:R2}{a b:Expr}{fa fb:Ex}(ho:aN X (compareOp op) r)(hg:b7 (ar X) g r)(hB:ix g)(ha:JE X a fa)(hb:JE X b fb)(hm:behindInMarks op b=false):JT X (.Compare a [op] [b] pos) (tV (e2 g fa fb)):=
 jn (L2.A4 ho ha hb hm) fun σ H Q ⟨ρ,F,t,hr,e,q⟩=>by
   obtain⟨d,ed,e⟩:=aj.mp e
   refine lL hg ⟨ρ,F,d,hr,ed,fun v H1 s1 rv=>?_⟩
   obtain⟨a,ea,ed⟩:=aj.mp ed
   obtain⟨b,eb,ed⟩:=aj.mp ed
   obtain⟨k,rfl⟩:=hB _ _ _ ed
   cases e
   exact⟨_,eU rv,q H1 s1⟩
theorem yC{j:Nat}{p2:Pos}{a:Expr}{fa:Ex}(ha:JE X a fa):JT X (.Compare a [.Is] [.Constant .none j p2] pos) (tV (e1 cM fa)):=
 jn (L2.sR (L2.rM ha)) fun σ H Q ⟨ρ,F,t,hr,e,q⟩=>by
   obtain⟨d,ed,e⟩:=aj.mp e
   obtain⟨a,ea,ed⟩:=aj.mp ed
   refine⟨ρ,F,a,hr,ea,fun x H1 s1 rx=>⟨t,?_,q H1 s1⟩⟩
   cases ed
   cases e
   cases a<;>simp only[Rep]at rx
   all_goals first
     |(subst rx;rfl)
     |(obtain⟨p,xs,rfl,_⟩:=rx;rfl)
theorem Ai{j:Nat}{p2:Pos}{a:Expr}{fa:Ex}(ha:JE X a fa):JT X (.Compare a [.IsNot] [.Constant .none j p2] pos) (tV (e1 cV fa)):=
 jn (L2.sR (L2.sA ha)) fun σ H Q ⟨ρ,F,t,hr,e,q⟩=>by
   obtain⟨d,ed,e⟩:=aj.mp e
   obtain⟨a,ea,ed⟩:=aj.mp ed
   refine⟨ρ,F,a,hr,ea,fun x H1 s1 rx=>⟨t,?_,q H1 s1⟩⟩
   cases ed
   cases e
   cases a<;>simp only[Rep]at rx
   all_goals first
     |(subst rx;rfl)
     |(obtain⟨p,xs,rfl,_⟩:=rx;rfl)
theorem xn{a:Expr}{c:aF}(ha:JT X a c):JT X (.UnaryOp .Not a pos) (bP c):=
 jn (L2.tQ ha) fun σ H Q ⟨ρ,F,t,hr,e,q⟩=>by
   obtain⟨b,eb,e⟩:=aj.mp e
   cases e
   exact⟨ρ,F,b,hr,eb,fun H1 s1=>q H1 s1⟩
noncomputable abbrev JW(X:Cx)(e:Expr)(c:aF):Prop:=PW X e (sX (ar X) c)
theorem AO{a:Expr}{c:aF}(ha:JT X a c):JW X (.BoolOp .And [a] pos) c:=L2.zh ha
theorem xQ{a:Expr}{c:aF}(ha:JT X a c):JW X (.BoolOp .Or [a] pos) c:=L2.ue ha
theorem Af{a b:Expr}{rest:List Expr}{c c':aF}(ha:JT X a c)(hb:JW X (.BoolOp .And (b::rest) pos) c'):JW X (.BoolOp .And (a::b::rest) pos) (b8 c c'):=
 qw (L2.Bs ha hb) fun σ H Q ⟨ρ,F,t,hr,e,q⟩=>by
   obtain⟨b,eb,e⟩:=aj.mp e
   refine⟨ρ,F,b,hr,eb,fun H1 s1=>?_⟩
   split at e
   ·rename_i h;rw[if_pos h];exact⟨ρ,F,t,hr.same s1,e,fun H2 s2=>q H2 (s1.trans s2)⟩
   ·rename_i h;rw[if_neg h];cases e;exact q H1 s1
theorem z5{a b:Expr}{rest:List Expr}{c c':aF}(ha:JT X a c)(hb:JW X (.BoolOp .Or (b::rest) pos) c'):JW X (.BoolOp .Or (a::b::rest) pos) (cv c c'):=
 qw (L2.ze ha hb) fun σ H Q ⟨ρ,F,t,hr,e,q⟩=>by
   obtain⟨b,eb,e⟩:=aj.mp e
   refine⟨ρ,F,b,hr,eb,fun H1 s1=>?_⟩
   split at e
   ·rename_i h;rw[if_pos h];cases e;exact q H1 s1
   ·rename_i h;rw[if_neg h];exact⟨ρ,F,t,hr.same s1,e,fun H2 s2=>q H2 (s1.trans s2)⟩
theorem uh{e:Expr}{c:aF}(h:JW X e c):JT X e c:=L2.PW.pt h
theorem yi{a:Expr}{fa:Ex}(ha:JE X a fa):JE X (.UnaryOp .Not a pos) (e1 ir fa):=
 aY (L2.yT ha) fun σ H Q ⟨ρ,F,d,hr,e,q⟩=>by
   obtain⟨a,ea,e⟩:=aj.mp e
   refine⟨ρ,F,a,hr,ea,fun x H1 s1 rx=>?_⟩
   unfold ir at e
   split at e
   ·cases e;exact⟨_,eU rx,q _ _ s1 cO⟩
   ·cases e
theorem fh:JA X [] (eList []):=lr L2.iS fun σ H Q ⟨ρ,F,ds,hr,e,q⟩=>by cases e;exact q [] H (ah.refl H) ab.nil
theorem d7{e:Expr}{es:List Expr}{f:Ex}{fs:List Ex}(ha:JE X e f)(hr:JA X es (eList fs))(hs:starEach (e::es) X.env=(false,eval e X.env)::starEach es X.env:=by rfl):JA X (e::es) (eList (f::fs)):=
 lr (L2.ff ha hr hs) fun σ H Q ⟨ρ,F,ds,hr,e,q⟩=>by
   obtain⟨a,ea,e⟩:=aj.mp e
   obtain⟨as,eas,e⟩:=aj.mp e
   cases e
   exact⟨ρ,F,a,hr,ea,fun x H1 s1 rx=>⟨ρ,F,as,hr.same s1,eas,fun xs H2 s2 rs=>q _ H2 (s1.trans s2) (ab.cons (rx.mv (.same s2)) rs)⟩⟩
theorem fV:∀ {fs:List Ex} {ρ:En} {ds:List D},eList fs ρ=.ok ds→ds.length=fs.length
 |[],_,_,h=>by cases h;rfl
 | f::fs,_,_,h=>by
   obtain⟨a,_,h⟩:=aj.mp h
   obtain⟨as,h2,h⟩:=aj.mp h
   cases h
   simp[fV h2]
theorem Bf{es:List Expr}{fs:List Ex}{k:Nat}(h:JA X es (eList fs))(hl:fs.length≤1000:=by decide):JE X (.Tuple es k pos) (dF fs):=
 aY (L2.mQ h) fun σ H Q ⟨ρ,F,d,hr,e,q⟩=>by
   obtain⟨as,ea,e⟩:=aj.mp e
   cases e
   refine⟨ρ,F,as,hr,ea,fun xs H1 s1 rs=>⟨?_,fun p hp=>q _ _ (s1.trans (ah.bS hp _)) (kj (hr.same s1).aK hp rs)⟩⟩
   rw[←rs.length,fV ea]
   exact Nat.le_trans hl (by decide)
theorem yJ{es:List Expr}{fs:List Ex}(h:JA X es (eList fs))(hl:fs.length≤1000:=by decide):JE X (.List es pos) (dE fs):=
 aY (L2.vB h) fun σ H Q ⟨ρ,F,d,hr,e,q⟩=>by
   obtain⟨as,ea,e⟩:=aj.mp e
   cases e
   refine⟨ρ,F,as,hr,ea,fun xs H1 s1 rs=>⟨?_,fun p hp=>q _ _ (s1.trans (ah.bS hp _)) (mq (hr.same s1).aK hp rs)⟩⟩
   rw[←rs.length,fV ea]
   exact Nat.le_trans hl (by decide)
theorem ni{pins:List (Addr×Obj)}{s:Shared}{p:Addr}{kvs:List (Key×V)}(I:Inv X pins σ H s)(e:H p=some (.dK kvs)):∃ob,Inv X pins σ (upd H p (.frz ob (.dK kvs))) s:=by
 obtain⟨z,y,vs,r,ob,es,ep,eo,c⟩:=I.aB p _ e
 exact⟨ob,I.write (h':=s.heap) (t':=s.toks) (by rw[e];trivial) (.inl rfl) (fun _ _ _ q=>q) ⟨ob,eo⟩ ⟨eo,z,y,vs,r,ob,es,ep,eo,c⟩⟩
theorem mx{e:Expr}{t t':TE}(h:PE X e t')(hi:∀σ H Q,t σ H Q→t' σ H fun v H'=>∃p kvs,v=.ref p∧H' p=some (.dK kvs)∧∀ob,Q v (upd H' p (.frz ob (.dK kvs)))):PE X e t:=by
 intro pins s σ H Q I q
 refine L2.aD (h pins s σ H _ I (hi σ H Q q)) fun u s1 ⟨x,H1,I1,rx,p,kvs,ex,e1,q1⟩=>?_
 obtain⟨ob,I2⟩:=ni I1 e1
 exact⟨x,_,I2,rx,q1 ob⟩
theorem zZ:JE X (.Dict [] [] pos) (b9 [] []):=
 mx L2.xl fun σ H Q ⟨ρ,F,d,hr,e,q⟩=>by
   cases e
   intro p hp
   refine⟨p,[],rfl,L2.aV,fun ob=>?_⟩
   rw[L2.om]
   refine q _ _ (ah.bS hp _) ?_
   simp only[Rep]
   exact⟨p,[],rfl,.inl ⟨jf hr.aK hp,ob,L2.aV⟩,rfl,ab.nil⟩
end
section
variable{X:Cx}{M:Md}{H H':Hp}{F:Addr→Prop}{σ:L2.St}{ρ:En}{pos:Pos}{pins:List (Addr×Obj)}{s:Shared}
theorem sH{α β:Type}{xs:List α}{ys:List β}{i:Int}{x:α}(hl:xs.length=ys.length)(h:bW xs i=some x):∃j y,cA ys.length i=some j∧xs[j]? =some x∧ys[j]? =some y∧bW ys i=some y:=by
 unfold bW at h ⊢
 rw[hl]at h
 cases e:cA ys.length i with
 |none=>rw[e]at h;cases h
 | some j=>
   rw[e]at h
   have hx:xs[j]? =some x:=h
   obtain⟨hj,_⟩:=List.getElem?_eq_some_iff.mp hx
   have hy:j<ys.length:=by omega
   exact⟨j,ys[j],rfl,hx,List.getElem?_eq_getElem hy,by simp[hy]⟩
theorem ma:b7 M jt (L2.lj M.K):=by
 intro F H x y a b d Q tr ra rb e q
 unfold jt at e
 split at e
 · split at e
   · rename_i xs i _ v hv
     cases e
     simp only[Rep]at ra
     obtain⟨p,ys,rfl,h,rs⟩:=ra
     obtain⟨j,y,_,h1,h2,h3⟩:=sH rs.length hv
     obtain⟨z,hz,rz⟩:=rs.get h1
     rw[h2]at hz
     cases hz
     exact .inl ⟨p,ys,_,y,rfl,bh rb,h.sq,h3,q _ _ (ah.refl _) rz⟩
   ·cases e
 · split at e
   · rename_i xs i _ v hv
     cases e
     simp only[Rep]at ra
     obtain⟨p,ys,rfl,h,rs⟩:=ra
     obtain⟨j,y,_,h1,h2,h3⟩:=sH rs.length hv
     obtain⟨z,hz,rz⟩:=rs.get h1
     rw[h2]at hz
     cases hz
     exact .inr (.inl ⟨p,ys,_,y,rfl,bh rb,h.sq,h3,q _ _ (ah.refl _) rz⟩)
   ·cases e
 · split at e
   · split at e
     · rename_i hz _ c hc
       cases e
       exact .inr (.inr ⟨_,_,c,dB ra,bh rb,hz,hc,q _ _ (ah.refl _) g8⟩)
     ·cases e
   ·cases e
 ·cases e
theorem me{g:List D→R D}{r:List V→Hp→VK→Prop}(hg:dJ M g r){fs:List Ex}{Q:VK}(h:tP M (aJ g fs) σ H Q):L2.oQ r (kF M (eList fs)) σ H Q:=by
 obtain⟨ρ,F,d,hr,e,q⟩:=h
 obtain⟨as,ea,e⟩:=aj.mp e
 exact⟨ρ,F,as,hr,ea,fun xs H1 s1 rs=>hg F H1 xs as d Q (hr.same s1).aK rs e fun v H2 s2 rv=>q v H2 (s1.trans s2) rv⟩
@[simp] noncomputable def g1(g:D→R D):List D→R D
 |[a]=>g a
 |_=>.bad
@[simp] noncomputable def g2(g:D→D→R D):List D→R D
 |[a,b]=>g a b
 |_=>.bad
theorem ph(g:D→R D)(f:Ex):e1 g f=aJ (g1 g) [f]:=by
 funext ρ
 show(f ρ).bind g=((f ρ).bind fun x=>R.bind (R.ok []) fun xs=>R.ok (x::xs)).bind (g1 g)
 cases f ρ<;>rfl
theorem tK(g:D→D→R D)(f f':Ex):e2 g f f'=aJ (g2 g) [f,f']:=by
 funext ρ
 show(f ρ).bind _=((f ρ).bind fun x=>((f' ρ).bind fun y=>R.bind (R.ok []) fun ys=>R.ok (y::ys)).bind fun xs=>R.ok (x::xs)).bind (g2 g)
 cases f ρ with
 |ok a=>cases f' ρ<;>rfl
 |_=>rfl
theorem ab.one{d:D}{xs:List V}(r:ab M H F [d] xs):∃x,xs=[x]∧Rep M H F d x:=by
 simp only[ab]at r
 obtain⟨x,t,rfl,h,rfl⟩:=r
 exact⟨x,rfl,h⟩
theorem ab.two{d e:D}{xs:List V}(r:ab M H F [d,e] xs):∃x y,xs=[x,y]∧Rep M H F d x∧Rep M H F e y:=by
 simp only[ab]at r
 obtain⟨x,t,rfl,h,y,u,rfl,h2,rfl⟩:=r
 exact⟨x,y,rfl,h,h2⟩
theorem yF{g:D→R D}{r:List V→Hp→VK→Prop}{x:Str}{id:String}{a:Expr}{fa:Ex}{p:Pos}(hc:aZ X (.builtin id) r)(hg:dJ (ar X) (g1 g) r)(hgl:L2.Gl X x)(hm:X.mg x=none)(hv:bootBuiltins x=some (.builtin id))(ha:JE X a fa)
   (hs:starEach [a] X.env=(false,eval a X.env)::starEach [] X.env:=by rfl) (hn:x≠"__name__":=by decide) (hdb:(x==("__debug__":Str))=false:=by decide):JE X (.Call (.Name x p) [a] [] pos) (e1 g fa):=by
 rw[ph]
 exact aY (L2.lp hc hgl hm hv (d7 ha fh hs) hn hdb hs) fun σ H Q h=>me hg h
theorem vk{g:D→D→R D}{r:List V→Hp→VK→Prop}{x:Str}{id:String}{a b:Expr}{fa fb:Ex}{p:Pos}(hc:aZ X (.builtin id) r)(hg:dJ (ar X) (g2 g) r)(hgl:L2.Gl X x)(hm:X.mg x=none)(hv:bootBuiltins x=some (.builtin id))(ha:JE X a fa)(hb:JE X b fb)
   (hs:starEach [a,b] X.env=(false,eval a X.env)::starEach [b] X.env:=by rfl) (hs2:starEach [b] X.env=(false,eval b X.env)::starEach [] X.env:=by rfl) (hn:x≠"__name__":=by decide) (hdb:(x==("__debug__":Str))=false:=by decide):JE X (.Call (.Name x p) [a,b] [] pos) (e2 g fa fb):=by
 rw[tK]
 exact aY (L2.lp hc hgl hm hv (d7 ha (d7 hb fh hs2) hs) hn hdb hs (by rw[hs2];rfl)) fun σ H Q h=>me hg h
theorem wJ{g:D→R D}{r:List V→Hp→VK→Prop}{x:Str}{T:String}{a:Expr}{fa:Ex}{p:Pos}(hc:aZ X (.type T) r)(hg:dJ (ar X) (g1 g) r)(hgl:L2.Gl X x)(hm:X.mg x=none)(hv:bootBuiltins x=some (.type T))(ha:JE X a fa)
   (hs:starEach [a] X.env=(false,eval a X.env)::starEach [] X.env:=by rfl) (hn:x≠"__name__":=by decide) (hdb:(x==("__debug__":Str))=false:=by decide):JE X (.Call (.Name x p) [a] [] pos) (e1 g fa):=by
 rw[ph]
 exact aY (L2.kN hc hgl hm hv (d7 ha fh hs) hn hdb hs) fun σ H Q h=>me hg h
noncomputable def nW(M:Md):List V→Hp→VK→Prop:=fun xs H Q=>(∃p ys,xs=[.ref p]∧(aT M.K H p ys∨aX M.K H p ys)∧Q (.int ys.length) H)∨(∃z,xs=[.str z]∧z.length≤sizeLine∧Q (.int z.length) H)
theorem qK:aZ X (.builtin "len") (nW (ar X)):=L2.aZ.or L2.vq L2.vf
theorem rW:dJ M (g1 iK) (nW M):=by
 intro F H xs as d Q tr rs e q
 unfold g1 at e
 split at e
 · obtain⟨x,rfl,r⟩:=rs.one
   unfold iK at e
   split at e
   · cases e
     simp only[Rep]at r
     obtain⟨p,ys,rfl,h,rs⟩:=r
     exact .inl ⟨p,ys,rfl,.inl h.sq,q _ _ (ah.refl _) (by rw[←rs.length];exact cP)⟩
   · cases e
     simp only[Rep]at r
     obtain⟨p,ys,rfl,h,rs⟩:=r
     exact .inl ⟨p,ys,rfl,.inr h.sq,q _ _ (ah.refl _) (by rw[←rs.length];exact cP)⟩
   · split at e
     · cases e
       exact .inr ⟨_,by rw[dB r],by assumption,q _ _ (ah.refl _) cP⟩
     ·cases e
   ·cases e
 ·cases e
theorem z8:dJ M (g1 lA) (fun xs H Q=>∃p ys,xs=[.ref p]∧((aT M.K H p ys∧∀l,H l=none→Q (.ref l) (upd H l (.tup ys)))∨(aX M.K H p ys∧Q (.ref p) H))):=by
 intro F H xs as d Q tr rs e q
 unfold g1 at e
 split at e
 · obtain⟨x,rfl,r⟩:=rs.one
   unfold lA at e
   split at e
   · cases e
     simp only[Rep]at r
     obtain⟨p,ys,rfl,h,rs⟩:=r
     exact⟨p,ys,rfl,.inl ⟨h.sq,fun l hl=>q _ _ (ah.bS hl _) (kj tr hl rs)⟩⟩
   · cases e
     have r':=r
     simp only[Rep]at r
     obtain⟨p,ys,rfl,h,rs⟩:=r
     exact⟨p,ys,rfl,.inr ⟨h.sq,q _ _ (ah.refl _) r'⟩⟩
   ·cases e
 ·cases e
theorem yl:dJ M (g2 ku) (fun xs H Q=>∃i j,xs=[.int i,.int j]∧Q (.int (if j<i then j else i)) H):=by
 intro F H xs as d Q tr rs e q
 unfold g2 at e
 split at e
 · obtain⟨x,y,rfl,r,r2⟩:=rs.two
   unfold ku at e
   split at e
   ·cases e;exact⟨_,_,by rw[bh r,bh r2],q _ _ (ah.refl _) cP⟩
   ·cases e
 ·cases e
end
section
variable{X:Cx}{M:Md}{H H':Hp}{F:Addr→Prop}{σ:L2.St}{ρ:En}{pos:Pos}{pins:List (Addr×Obj)}{s:Shared}
mutual
noncomputable def pyd:D→PyData
 |.ai=>.none
 |.bl b=>.bool b
 |.int i=>.int i
 |.str x=>.str x
 |.tup xs=>.tuple (di xs)
 |.lst xs=>.list (di xs)
 |.aA _ _=>.dict []
 |.bG _ _ _=>.dict []
noncomputable def di:List D→List PyData
 |[]=>[]
 |x::xs=>pyd x::di xs
end
mutual
theorem md:∀(a b:D),lay a=true→lay b=true→PyData.eqv (pyd a) (pyd b)=bj a b
 |.ai,b,_,hb=>by cases b<;>first|rfl|(simp[lay]at hb)
 |.bl _,b,_,hb=>by cases b<;>first|rfl|(simp[lay]at hb)
 |.int _,b,_,hb=>by cases b<;>first|rfl|(simp[lay]at hb)
 | .str x,b,_,hb=>by
   cases b with
   |str y=>show(x==y)=decide (x=y);rw[Bool.eq_iff_iff,beq_iff_eq,decide_eq_true_eq]
   |_=>first|rfl|(simp[lay]at hb)
 | .tup xs,b,ha,hb=>by
   cases b with
   |tup ys=>simp only[lay]at ha hb;exact mU xs ys ha hb
   |_=>first|rfl|(simp[lay]at hb)
 | .lst xs,b,ha,hb=>by
   cases b with
   |lst ys=>simp only[lay]at ha hb;exact mU xs ys ha hb
   |_=>first|rfl|(simp[lay]at hb)
 |.aA _ _,_,ha,_=>by simp[lay]at ha
 |.bG _ _ _,_,ha,_=>by simp[lay]at ha
theorem mU:∀(a b:List D),cZ a=true→cZ b=true→PyData.eqvAll (di a) (di b)=gC a b
 |[],[],_,_=>rfl
 |[],_::_,_,_=>rfl
 |_::_,[],_,_=>rfl
 | x::xs,y::ys,ha,hb=>by
   simp only[cZ,Bool.and_eq_true]at ha hb
   show(PyData.eqv (pyd x) (pyd y)&&PyData.eqvAll (di xs) (di ys))=(bj x y&&gC xs ys)
   rw[md x y ha.1 hb.1,mU xs ys ha.2 hb.2]
end
mutual
theorem j7:∀a:D,lay a=true→(pyd a).canLay0=true
 |.ai,_=>rfl
 |.bl _,_=>rfl
 |.int _,_=>rfl
 |.str x,h=>by simp only[lay]at h;exact h
 |.tup xs,h=>by simp only[lay]at h;exact nr xs h
 |.lst xs,h=>by simp only[lay]at h;exact nr xs h
 |.aA _ _,h=>by simp[lay]at h
 |.bG _ _ _,h=>by simp[lay]at h
theorem nr:∀a:List D,cZ a=true→PyData.canLayAll0 (di a)=true
 |[],_=>rfl
 | x::xs,h=>by
   simp only[cZ,Bool.and_eq_true]at h
   show((pyd x).canLay0&&PyData.canLayAll0 (di xs))=true
   rw[j7 x h.1,nr xs h.2];rfl
end
mutual
theorem jo:∀a:D,lay a=true→(pyd a).depth=dep a
 |.ai,_=>rfl
 |.bl _,_=>rfl
 |.int _,_=>rfl
 |.str _,_=>rfl
 |.tup xs,h=>by simp only[lay]at h;show PyData.depthAll (di xs)+1=_;rw[mF xs h];simp only[dep]
 |.lst xs,h=>by simp only[lay]at h;show PyData.depthAll (di xs)+1=_;rw[mF xs h];simp only[dep]
 |.aA _ _,h=>by simp[lay]at h
 |.bG _ _ _,h=>by simp[lay]at h
theorem mF:∀a:List D,cZ a=true→PyData.depthAll (di a)=je a
 |[],_=>rfl
 | x::xs,h=>by
   simp only[cZ,Bool.and_eq_true]at h
   show max (pyd x).depth (PyData.depthAll (di xs))=_
   rw[jo x h.1,mF xs h.2];simp only[je]
end
mutual
theorem jK(I:Inv X pins σ H s):∀ {a:D} {x:V} {u:Value},lay a=true→Rep (ar X) H F a x→RelV x u→∃as,Reads s.heap u (pyd a) as
 |.ai,_,_,_,r,rx=>by cases kJ r;cases rx;exact⟨_,.none⟩
 |.bl b,_,_,_,r,rx=>by cases eU r;cases rx;exact⟨_,.bool b⟩
 |.int i,_,_,_,r,rx=>by cases bh r;obtain⟨t,rfl⟩:=rx;exact⟨_,.int i t⟩
 |.str z,_,_,_,r,rx=>by cases dB r;obtain⟨t,rfl⟩:=rx;exact⟨_,.str z t⟩
 | .tup ds,_,_,h,r,rx=>by
   simp only[lay]at h
   simp only[Rep]at r
   obtain⟨p,xs,rfl,t,rs⟩:=r
   cases rx
   obtain⟨its,rv,⟨o,e,c,n,d⟩,_⟩:=ip I t
   obtain⟨as,ra⟩:=mM I h rs rv
   exact⟨_,.tuple e c d (by simpa using ra)⟩
 | .lst ds,_,_,h,r,rx=>by
   simp only[lay]at h
   simp only[Rep]at r
   obtain⟨p,xs,rfl,t,rs⟩:=r
   cases rx
   obtain⟨its,n,sl,rv,e,_⟩:=iO I t
   obtain⟨as,ra⟩:=mM I h rs rv
   exact⟨_,.list e rfl rfl (by simpa using ra)⟩
 |.aA _ _,_,_,h,_,_=>by simp[lay]at h
 |.bG _ _ _,_,_,h,_,_=>by simp[lay]at h
theorem mM(I:Inv X pins σ H s):∀ {as:List D} {xs:List V} {us:List Value},cZ as=true→ab (ar X) H F as xs→Vals xs us→∃bs,ReadsAll s.heap us (di as) bs
 |[],_,_,_,r,rv=>by simp only[ab]at r;subst r;cases rv;exact⟨_,.nil⟩
 | a::as,_,_,h,r,rv=>by
   simp only[cZ,Bool.and_eq_true]at h
   simp only[ab]at r
   obtain⟨x,t,rfl,r1,r2⟩:=r
   cases rv with
   | cons q w=>
     obtain⟨bs,h1⟩:=jK I h.1 r1 q
     obtain⟨cs,h2⟩:=mM I h.2 r2 w
     exact⟨_,.cons h1 h2⟩
end
theorem A2(l:Addr)(es:Array DictEntry)(n:Nat)(dd:Option Addr)(sl:Array (Option Value))(b:Str)(u:Tok):
   Meets (Builtin.«dict.__eq__» ⟨[.ref l,.str b u],[]⟩) (fun _ R s=>s.heap.get? l=some {cls:=.type "dict",dict:=dd,data:=.dict es n,slots:=sl}∧R (.ok (.ret .notImplemented)) s):=
 .of_wp fun prog w A R s h=>by obtain⟨hp,g,d,tk,os⟩:=s;obtain⟨hl,h⟩:=h;have f1:=F.sub_str_dict;wp_walk;exact⟨_,rfl,h⟩
theorem w4(b:Str)(u:Tok)(l:Addr)(es:Array DictEntry)(n:Nat)(dd:Option Addr)(sl:Array (Option Value)):
   Meets (Builtin.«str.__eq__» ⟨[.str b u,.ref l],[]⟩) (fun _ R s=>s.heap.get? l=some {cls:=.type "dict",dict:=dd,data:=.dict es n,slots:=sl}∧R (.ok (.ret .notImplemented)) s):=
 .of_wp fun prog w A R s h=>by obtain⟨hp,g,d,tk,os⟩:=s;obtain⟨hl,h⟩:=h;wp_walk using AutoSeq1.wpAny_loadPart' hl,wpAny_load hl;exact⟨_,rfl,h⟩
theorem uo{A:Around}{l:Addr}{o:Obj}{es:Array DictEntry}{n:Nat}(b:Str)(u:Tok)(ho:s.heap.get? l=some o)(hc:o.cls=.type "dict")(hd:o.data=.dict es n)(hu:A.units<cLine):SeqAt.RcAt A s (.ref l) (.str b u) false:=fun prog w E Q h=>by
 obtain⟨cls,dd,data,sl⟩:=o
 simp only at hc hd
 subst hc hd
 exact SeqAt.rc_eq_decline_or (k:=false) ⟨_,ho,rfl⟩ (typeIs_str s b u) (by decide) F.sub_str_dict F.slot_dict_eq F.slot_str_eq_refl
   (fun _ hq=>call_meets F.slot_dict_eq ⟨_,ho,rfl⟩ F.entry_dict_eq (F.args_dict_eq_2 _ _) (A2 l es n dd sl b u) ⟨ho,hq⟩)
   (fun _ hq=>call_meets F.slot_str_eq_refl (typeIs_str s b u) F.entry_str_eq (F.args_str_eq_2 _ _) (w4 b u l es n dd sl) ⟨ho,hq⟩)
   (fun _ hq=>wpAny_of_eq (rfl:isSame (.ref l) (.str b u)=pure false) hq) (.inr hu) h
theorem gF{a:Addr}{kvs:List (Key×V)}(I:Inv X pins σ H s)(h:dy (ar X) H F a kvs):kvs.length≤sizeLine∧(a==sysModules)=false∧∃vs,L2.KV kvs vs∧s.heap.DictOf (L2.bA X.prog X.w) a vs:=by
 rcases h with⟨_,ob,h⟩|⟨o,es,ep,vs,h1,h2,h3,h4,h5,h6,h7,h8,h9⟩
 ·exact L2.nu I.aB (.inr ⟨ob,h⟩)
 ·exact⟨h8,h9,vs,h7,o,es,ep,I.bI a o h1,h2,h3,h4,h5,h6⟩
noncomputable def qd(M:Md):R2:=fun x y H Q=>∃F a b,Rep M H F a x∧Rep M H F b y∧cB a b=true∧Q (.bl (bj a b)) H
noncomputable def pR(M:Md):R2:=fun x y H Q=>∃F a b,Rep M H F a x∧Rep M H F b y∧dA a b=true∧Q (.bl (!bj a b)) H
theorem str_beq(a b:Str):(a==b)=decide (a=b):=by rw[Bool.eq_iff_iff,beq_iff_eq,decide_eq_true_eq]
theorem yQ{A:Around}{a b:D}{x y:V}{u v:Value}(fa:flat a=true)(fb:flat b=true)(ra:Rep M H F a x)(rb:Rep M H F b y)(rx:RelV x u)(ry:RelV y v):SeqAt.RcAt A s u v (bj a b):=by
 cases a<;>(try cases fa)<;>cases b<;>(try cases fb)<;>simp only[Rep]at ra rb<;>subst ra<;>subst rb
 ·cases rx;cases ry;exact SeqAt.RcAt.none_none
 ·cases rx;cases ry;exact SeqAt.RcAt.none_bool _
 ·cases rx;obtain⟨t,rfl⟩:=ry;exact SeqAt.RcAt.none_int _ _
 ·cases rx;obtain⟨t,rfl⟩:=ry;exact SeqAt.RcAt.none_str _ _
 ·cases rx;cases ry;exact SeqAt.RcAt.bool_none _
 ·cases rx;cases ry;exact SeqAt.RcAt.bool_bool _ _
 ·cases rx;obtain⟨t,rfl⟩:=ry;exact SeqAt.RcAt.bool_int _ _ _
 ·cases rx;obtain⟨t,rfl⟩:=ry;exact SeqAt.RcAt.bool_str _ _ _
 ·obtain⟨t,rfl⟩:=rx;cases ry;exact SeqAt.RcAt.int_none _ _
 ·obtain⟨t,rfl⟩:=rx;cases ry;exact SeqAt.RcAt.int_bool _ _ _
 ·obtain⟨t,rfl⟩:=rx;obtain⟨t,rfl⟩:=ry;exact SeqAt.RcAt.int_int _ _ _ _
 ·obtain⟨t,rfl⟩:=rx;obtain⟨t,rfl⟩:=ry;exact SeqAt.RcAt.int_str _ _ _ _
 ·obtain⟨t,rfl⟩:=rx;cases ry;exact SeqAt.RcAt.str_none _ _
 ·obtain⟨t,rfl⟩:=rx;cases ry;exact SeqAt.RcAt.str_bool _ _ _
 ·obtain⟨t,rfl⟩:=rx;obtain⟨t,rfl⟩:=ry;exact SeqAt.RcAt.str_int _ _ _ _
 ·obtain⟨t,rfl⟩:=rx;obtain⟨t,rfl⟩:=ry;simp only[bj];rw[←str_beq];exact SeqAt.RcAt.str_str _ _ _ _
theorem uA{A:Around}{a b:D}{x y:V}{u v:Value}(fa:flat a=true)(fb:flat b=true)(ra:Rep M H F a x)(rb:Rep M H F b y)(rx:RelV x u)(ry:RelV y v):SeqAt.RcNeAt A s u v (!bj a b):=by
 cases a<;>(try cases fa)<;>cases b<;>(try cases fb)<;>simp only[Rep]at ra rb<;>subst ra<;>subst rb
 ·cases rx;cases ry;exact SeqAt.RcNeAt.none_none
 ·cases rx;cases ry;exact SeqAt.RcNeAt.none_bool _
 ·cases rx;obtain⟨t,rfl⟩:=ry;exact SeqAt.RcNeAt.none_int _ _
 ·cases rx;obtain⟨t,rfl⟩:=ry;exact SeqAt.RcNeAt.none_str _ _
 ·cases rx;cases ry;exact SeqAt.RcNeAt.bool_none _
 ·cases rx;cases ry;exact SeqAt.RcNeAt.bool_bool _ _
 ·cases rx;obtain⟨t,rfl⟩:=ry;exact SeqAt.RcNeAt.bool_int _ _ _
 ·cases rx;obtain⟨t,rfl⟩:=ry;exact SeqAt.RcNeAt.bool_str _ _ _
 ·obtain⟨t,rfl⟩:=rx;cases ry;exact SeqAt.RcNeAt.int_none _ _
 ·obtain⟨t,rfl⟩:=rx;cases ry;exact SeqAt.RcNeAt.int_bool _ _ _
 ·obtain⟨t,rfl⟩:=rx;obtain⟨t,rfl⟩:=ry;exact SeqAt.RcNeAt.int_int _ _ _ _
 ·obtain⟨t,rfl⟩:=rx;obtain⟨t,rfl⟩:=ry;exact SeqAt.RcNeAt.int_str _ _ _ _
 ·obtain⟨t,rfl⟩:=rx;cases ry;exact SeqAt.RcNeAt.str_none _ _
 ·obtain⟨t,rfl⟩:=rx;cases ry;exact SeqAt.RcNeAt.str_bool _ _ _
 ·obtain⟨t,rfl⟩:=rx;obtain⟨t,rfl⟩:=ry;exact SeqAt.RcNeAt.str_int _ _ _ _
 ·obtain⟨t,rfl⟩:=rx;obtain⟨t,rfl⟩:=ry;simp only[bj];rw[←str_beq];exact SeqAt.RcNeAt.str_str _ _ _ _
theorem xU(ds:List D):((List.range (min ds.length 0)).all (fun _=>true)&&(ds.length==0))=bj (.tup ds) (.tup []):=by
 cases ds<;>simp
theorem sU{A:Around}{ds:List D}{x y:V}{u v:Value}(I:Inv X pins σ H s)(hu:A.units<cLine)(ra:Rep (ar X) H F (.tup ds) x)(rb:Rep (ar X) H F (.tup []) y)(rx:RelV x u)(ry:RelV y v):
   SeqAt.RcAt A s u v (bj (.tup ds) (.tup []))∧SeqAt.RcNeAt A s u v (!bj (.tup ds) (.tup [])):=by
 simp only[Rep]at ra rb
 obtain⟨p,xs,rfl,h,rs⟩:=ra
 obtain⟨p2,xs2,rfl,h2,rs2⟩:=rb
 cases rx
 cases ry
 simp only[ab]at rs2
 subst rs2
 obtain⟨its,rv,⟨o,e,c,n,d⟩,_⟩:=ip I h
 obtain⟨its2,rv2,⟨o2,e2,c2,n2,d2⟩,_⟩:=ip I h2
 cases rv2
 have hl:its.toArray.size=ds.length:=by rw[List.size_toArray, ←rv.length, ←rs.length]
 have z1:=SeqAt.RcAt.tuples (A:=A) (s:=s) (e:=fun _=>true) (l:=p) (b:=p2) ⟨o,e,c,n,d⟩ ⟨o2,e2,c2,n2,d2⟩ hu (fun j _ h2=>by simp at h2)
 have z2:=SeqAt.RcNeAt.tuples (A:=A) (s:=s) (e:=fun _=>true) (l:=p) (b:=p2) ⟨o,e,c,n,d⟩ ⟨o2,e2,c2,n2,d2⟩ hu (fun j _ h2=>by simp at h2)
 rw[←xU]
 rw[hl]at z1 z2
 exact⟨z1,z2⟩
theorem kA(hu:X.A.units+64<cLine):aN X (compareOp .NotEq) (pR (ar X)):=by
 intro pins s σ H x y v u Q I rx ry h
 obtain⟨F,a,b,ra,rb,ok,q⟩:=h
 have fin:EP X pins σ Q (.bool (!bj a b)) s:=⟨.bl _,H,I,rfl,q⟩
 unfold dA at ok
 rw[Bool.or_eq_true,Bool.or_eq_true,Bool.and_eq_true]at ok
 rcases ok with(⟨fa,fb⟩|t)|l
 ·exact uA fa fb ra rb rx ry _ _ _ _ fin
 · unfold nh at t
   split at t
   ·exact(sU I (by omega) ra rb rx ry).2 _ _ _ _ fin
   ·cases t
 · rw[Bool.and_eq_true,Bool.and_eq_true,decide_eq_true_eq]at l
   obtain⟨⟨la,lb⟩,hd⟩:=l
   obtain⟨as,h1⟩:=jK I la ra rx
   obtain⟨bs,h2⟩:=jK I lb rb ry
   refine SeqAt.compareNe_reads h1 h2 (j7 a la) (j7 b lb) (by rw[jo a la,jo b lb];omega) ?_
   rw[md a b la lb]
   exact fin
theorem dP(hu:X.A.units+64<cLine):aN X (compareOp .Eq) (qd (ar X)):=by
 intro pins s σ H x y v u Q I rx ry h
 obtain⟨F,a,b,ra,rb,ok,q⟩:=h
 have fin:EP X pins σ Q (.bool (bj a b)) s:=⟨.bl _,H,I,rfl,q⟩
 unfold cB at ok
 rw[Bool.or_eq_true]at ok
 rcases ok with ok|dc
 · unfold dA at ok
   rw[Bool.or_eq_true,Bool.or_eq_true,Bool.and_eq_true]at ok
   rcases ok with(⟨fa,fb⟩|t)|l
   ·exact yQ fa fb ra rb rx ry _ _ _ _ fin
   · unfold nh at t
     split at t
     ·exact(sU I (by omega) ra rb rx ry).1 _ _ _ _ fin
     ·cases t
   · rw[Bool.and_eq_true,Bool.and_eq_true,decide_eq_true_eq]at l
     obtain⟨⟨la,lb⟩,hd⟩:=l
     obtain⟨as,h1⟩:=jK I la ra rx
     obtain⟨bs,h2⟩:=jK I lb rb ry
     refine SeqAt.compareEq_reads h1 h2 (j7 a la) (j7 b lb) (by rw[jo a la,jo b lb];omega) ?_
     rw[md a b la lb]
     exact fin
 · unfold qA at dc
   split at dc
   · cases dB rb
     obtain⟨t,rfl⟩:=ry
     simp only[Rep]at ra
     obtain⟨p,xs,rfl,h,_⟩:=ra
     cases rx
     obtain⟨_,_,vs,_,o,es,ep,e1,e2,e3,_⟩:=gF I h
     exact uo _ t e1 e2.1 e3 (by omega) _ _ _ _ fin
   ·cases dc
theorem dQ:b7 M oEq (qd M):=by
 intro F H x y a b d Q tr ra rb e q
 unfold oEq at e
 split at e
 ·cases e;exact⟨F,a,b,ra,rb,by assumption,q _ _ (ah.refl _) cO⟩
 ·cases e
theorem kn:b7 M cz (pR M):=by
 intro F H x y a b d Q tr ra rb e q
 unfold cz at e
 split at e
 ·cases e;exact⟨F,a,b,ra,rb,by assumption,q _ _ (ah.refl _) cO⟩
 ·cases e
theorem iE:ix oEq:=fun a b d h=>by unfold oEq at h;split at h<;>cases h;exact⟨_,rfl⟩
theorem kr:ix cz:=fun a b d h=>by unfold cz at h;split at h<;>cases h;exact⟨_,rfl⟩
theorem p8:ix fu:=fun a b d h=>by unfold fu at h;split at h<;>cases h;exact⟨_,rfl⟩
theorem xA:ix ig:=fun a b d h=>by unfold ig at h;split at h<;>cases h;exact⟨_,rfl⟩
theorem qX:bootBuiltins "isinstance"=some (.builtin "isinstance"):=by decide+kernel
theorem jT:bootBuiltins "len"=some (.builtin "len"):=by decide+kernel
theorem Ad:bootBuiltins "min"=some (.builtin "min"):=by decide+kernel
theorem pY:bootBuiltins "all"=some (.builtin "all"):=by decide+kernel
theorem wb:bootBuiltins "int"=some (.type "int"):=by decide+kernel
theorem nS:bootBuiltins "bool"=some (.type "bool"):=by decide+kernel
theorem jg:bootBuiltins "list"=some (.type "list"):=by decide+kernel
theorem jx:bootBuiltins "tuple"=some (.type "tuple"):=by decide+kernel
theorem jF:bootBuiltins "dict"=some (.type "dict"):=by decide+kernel
noncomputable def jj:Ty→String
 |.int=>"int"|.bool=>"bool"|.str=>"str"|.tuple=>"tuple"|.list=>"list"|.dict=>"dict"
theorem Bw:aZ X (.builtin "isinstance") (fun xs H Q=>∃F d x b ty,xs=[x,.ty (jj ty)]∧Rep (ar X) H F d x∧aU ty d=.ok (.bl b)∧(∀c ns vs,d≠.bG c ns vs)∧Q (.bl b) H):=by
 intro pins s σ H xs us Q I r h
 obtain⟨F,d,x,b,ty,rfl,rd,e,ne,q⟩:=h
 obtain⟨u,w,rfl,ru,rw'⟩:=L2.vals2 r
 cases (show w=Value.type (jj ty)from rw')
 have fin:∀tk,EP X pins σ Q (.bool b) {s with toks:=tk}:=fun tk=>⟨.bl _,H,I.tok tk,rfl,q⟩
 cases d with
 |ai=>cases kJ rd;cases ru;cases ty<;>cases e<;>exact PySem.W.kia_one PySem.W.kitx_none I.bI True.intro rfl (fun z=>nomatch z) fin
 |bl y=>cases eU rd;cases ru;cases ty<;>cases e<;>exact PySem.W.kia_one PySem.W.kitx_bool I.bI True.intro rfl (fun z=>nomatch z) fin
 |int i=>cases bh rd;obtain⟨t,rfl⟩:=ru;cases ty<;>cases e<;>exact PySem.W.kia_one PySem.W.kitx_int I.bI True.intro rfl (fun z=>nomatch z) fin
 |str z=>cases dB rd;obtain⟨t,rfl⟩:=ru;cases ty<;>cases e<;>exact PySem.W.kia_one PySem.W.kitx_str I.bI True.intro rfl (fun z=>nomatch z) fin
 | tup ds=>
   simp only[Rep]at rd
   obtain⟨p,xs,rfl,h,_⟩:=rd
   cases ru
   obtain⟨its,_,⟨o,h1,h2,_⟩,_⟩:=ip I h
   cases ty<;>cases e<;>exact PySem.W.kia_one PySem.W.kitx_tuple I.bI ⟨o,h1,h2⟩ rfl (fun z=>nomatch z) fin
 | lst ds=>
   simp only[Rep]at rd
   obtain⟨p,xs,rfl,h,_⟩:=rd
   cases ru
   obtain⟨its,n,sl,_,h1,_⟩:=iO I h
   cases ty<;>cases e<;>exact PySem.W.kia_one PySem.W.kitx_list I.bI ⟨_,h1,rfl⟩ rfl (fun z=>nomatch z) fin
 | aA ks ds=>
   simp only[Rep]at rd
   obtain⟨p,xs,rfl,h,_⟩:=rd
   cases ru
   obtain⟨_,_,vs,_,o,es,ep,e1,e2,e3,_⟩:=gF I h
   cases ty<;>cases e<;>exact PySem.W.kia_one PySem.W.kitx_dict I.bI ⟨o,e1,e2.1⟩ rfl (fun z=>nomatch z) fin
 |bG c ns vs=>exact absurd rfl (ne _ _ _)
theorem yy{ty:Ty}{d r:D}(h:aU ty d=.ok r):∃b,r=.bl b:=by
 unfold aU at h
 split at h<;>cases h<;>exact⟨_,rfl⟩
theorem uP(ty:Ty){a:Expr}{fa:Ex}{p p2:Pos}{T:Str}(ha:JE X a fa)(hg:L2.Gl X "isinstance")(hm:X.mg "isinstance"=none)(hgT:L2.Gl X T)(hmT:X.mg T=none)(hvT:bootBuiltins T=some (.type (jj ty)))
   (hs:starEach [a,.Name T p2] X.env=(false,eval a X.env)::starEach [.Name T p2] X.env:=by rfl) (hs2:starEach [.Name T p2] X.env=(false,eval (.Name T p2) X.env)::starEach [] X.env:=by rfl)
   (hnT:T≠"__name__":=by decide) (hdT:(T==("__debug__":Str))=false:=by decide):JE X (.Call (.Name "isinstance" p) [a,.Name T p2] [] pos) (e1 (aU ty) fa):=
 aY (L2.lp Bw hg hm qX (L2.ff ha (L2.ff (L2.lV (v:=.ty (jj ty)) hgT hmT hvT rfl hnT hdT) L2.iS hs2) hs) (by decide) (by decide) hs (by rw[hs2];rfl)) fun σ H Q ⟨ρ,F,d,hr,e,q⟩=>by
   obtain⟨a,ea,e⟩:=aj.mp e
   obtain⟨b,rfl⟩:=yy e
   refine⟨ρ,F,a,hr,ea,fun x H1 s1 rx=>⟨F,a,x,b,ty,rfl,rx,e,?_,q _ _ s1 cO⟩⟩
   intro c ns vs h
   subst h
   cases ty<;>cases e
end
open L2 (PG cu TG)
structure aG(M:Md)(G:Hp)(F0:Addr→Prop)(H:Hp)(F:Addr→Prop)(σ:L2.St)(ρ:En):Prop where
 rs:aI M H F σ ρ
 sm:ah G H
 sub:∀a,F0 a→F a
 cK:∀a,F0 a→∃o,G a=some o
 own:∀(i:Nat) a,aW ρ i→σ[i]? =some (some (.ref a))→G a=none
 dW:∀(i:Nat) xss b,ρ[i]? =some (.on xss)→cw M H F σ ρ i b→G b=none
noncomputable def jb(M:Md)(G:Hp)(F0:Addr→Prop)(H:Hp)(F:Addr→Prop)(D:Ends):Fl→Prop
 |.next ρ'=>∀σ' H' F',Mv F H F' H'→aG M G F0 H' F' σ' ρ'→D.nx σ' H'
 |.brk ρ'=>∀σ' H' F',Mv F H F' H'→aG M G F0 H' F' σ' ρ'→D.bk σ' H'
 |.cont ρ'=>∀σ' H' F',Mv F H F' H'→aG M G F0 H' F' σ' ρ'→D.ct σ' H'
 |.ret d=>∀v H' F',Mv F H F' H'→ah G H'→(∀a,F0 a→F' a)→Rep M H' F' d v→D.rt v H'
 |.eZ d=>∀p H' F' xs ds,d=.lst ds→Mv F H F' H'→ah G H'→(∀a,F0 a→F' a)→H' p=none→ab M H' F' ds xs→D.rt (.ref p) (upd H' p (.lst xs))
 |.cy t=>∀v H' F1 F2 as,Mv F H F1 H'→ah G H'→(∀a,F0 a→F1 a)→(∀b∈as,G b=none)→as.Nodup→(∀b,F2 b↔F1 b∨b∈as)→af M H' F2 t v as→D.rt v H'
noncomputable def cT(M:Md)(G:Hp)(F0:Addr→Prop)(f:Sm):TS:=fun D σ H=>∃ρ F fl,aG M G F0 H F σ ρ∧f ρ=.ok fl∧jb M G F0 H F D fl
noncomputable abbrev JS(X:Cx)(st:Stmt)(f:Sm):Prop:=∀F0,PS X st (cT (ar X) X.eV F0 f)
noncomputable abbrev cm(X:Cx)(sts:List Stmt)(f:Sm):Prop:=∀F0,bz X sts (cT (ar X) X.eV F0 f)
theorem cE{X:Cx}{e:Stmt}{t t':TS}(h:PS X e t')(hi:∀D σ H,t D σ H→t' D σ H):PS X e t:=fun pins s σ H Q I q=>h pins s σ H Q I (hi Q σ H q)
theorem qI{X:Cx}{e:List Stmt}{t t':TS}(h:bz X e t')(hi:∀D σ H,t D σ H→t' D σ H):bz X e t:=fun pins s σ H Q I q=>h pins s σ H Q I (hi Q σ H q)
theorem Mv.refl{F:Addr→Prop}{H:Hp}:Mv F H F H:=fun _ _ n e=>⟨n,e⟩
section
variable{X:Cx}{M:Md}{G H H':Hp}{F0 F F':Addr→Prop}{σ:L2.St}{ρ:En}{pos:Pos}{DE:Ends}
theorem aG.same(r:aG M G F0 H F σ ρ)(h:ah H H'):aG M G F0 H' F σ ρ:=⟨r.rs.same h,r.sm.trans h,r.sub,r.cK,r.own,fun i xss b e hb=>r.dW i xss b e (r.rs.on.back (fun _ e=>e) rfl (fun a u _ _ hu=>h _ _ hu) (fun a o _ e=>h _ _ e) hb)⟩
theorem jb.mv(m:Mv F H F' H'):∀ {fl:Fl},jb M G F0 H F DE fl→jb M G F0 H' F' DE fl
 |.next _,h=>fun σ' H2 F2 m2 r=>h σ' H2 F2 (m.trans m2) r
 |.brk _,h=>fun σ' H2 F2 m2 r=>h σ' H2 F2 (m.trans m2) r
 |.cont _,h=>fun σ' H2 F2 m2 r=>h σ' H2 F2 (m.trans m2) r
 |.ret _,h=>fun σ' H2 F2 m2 a b r=>h σ' H2 F2 (m.trans m2) a b r
 |.eZ _,h=>fun p H2 F2 xs ds e m2 a b c r=>h p H2 F2 xs ds e (m.trans m2) a b c r
 |.cy _,h=>fun v H2 F1 F2 as m2 a b c d e r=>h v H2 F1 F2 as (m.trans m2) a b c d e r
theorem pC:cm X [] (aC []):=fun F0=>qI L2.zX fun D σ H ⟨ρ,F,fl,r,e,q⟩=>by
 cases e
 exact q σ H F Mv.refl r
theorem ur:cm X [] aS:=pC
theorem xR{f g:Sm}{t u:TS}(hf:∀D σ H,cT M G F0 f D σ H→t D σ H)(hg:∀D σ H,cT M G F0 g D σ H→u D σ H)(D:Ends)(σ:L2.St)(H:Hp)(h:cT M G F0 (sY f g) D σ H):L2.qx t u D σ H:=by
 obtain⟨ρ,F,fl,r,e,q⟩:=h
 obtain⟨f1,e1,e⟩:=aj.mp e
 refine hf _ _ _ ⟨ρ,F,f1,r,e1,?_⟩
 cases f1 with
 |next ρ1=>exact fun σ1 H1 F1 m1 r1=>hg D σ1 H1 ⟨ρ1,F1,fl,r1,e,q.mv m1⟩
 |ret d=>cases e;exact q
 |brk d=>cases e;exact q
 |cont d=>cases e;exact q
 |eZ d=>cases e;exact q
 |cy d=>cases e;exact q
theorem Ak{st:Stmt}{rest:List Stmt}{f:Sm}{fs:List Sm}(h1:JS X st f)(h2:cm X rest (aC fs)):cm X (st::rest) (aC (f::fs)):=fun F0=>
 qI (L2.vE (h1 F0) (h2 F0)) fun D σ H h=>xR (fun _ _ _ h=>h) (fun _ _ _ h=>h) D σ H h
theorem vO{st:Stmt}{f:Sm}(h:JS X st f):cm X [st] f:=fun F0=>L2.yp (h F0)
theorem BG{c:Expr}{a b:List Stmt}{fc:aF}{fa fb:Sm}(hc:JT X c fc)(ha:cm X a fa)(hb:cm X b fb):JS X (.If c a b pos) (aQ fc fa fb):=fun F0=>
 cE (L2.yH hc (ha F0) (hb F0)) fun D σ H ⟨ρ,F,fl,r,e,q⟩=>by
   obtain⟨t,et,e⟩:=aj.mp e
   refine⟨ρ,F,t,r.rs,et,fun H1 s1=>?_⟩
   split at e
   ·rename_i h;rw[if_pos h];exact⟨ρ,F,fl,r.same s1,e,q.mv (.same s1)⟩
   ·rename_i h;rw[if_neg h];exact⟨ρ,F,fl,r.same s1,e,q.mv (.same s1)⟩
theorem uE{a:Expr}{fa:Ex}(ha:JE X a fa):JS X (.Return (some a) pos) (aR fa):=fun F0=>
 cE (L2.nP ha) fun D σ H ⟨ρ,F,fl,r,e,q⟩=>by
   obtain⟨d,ed,e⟩:=aj.mp e
   cases e
   exact⟨ρ,F,d,r.rs,ed,fun v H1 s1 rv=>q v H1 F (.same s1) (r.sm.trans s1) r.sub rv⟩
noncomputable def ng(M:Md)(G:Hp)(F0:Addr→Prop)(g:bf):TG:=fun v σ H Q=>∃ρ F d ρ',aG M G F0 H F σ ρ∧Rep M H F d v∧g d ρ=.ok ρ'∧∀σ',aG M G F0 H F σ' ρ'→Q σ' H
noncomputable def nq(M:Md)(G:Hp)(F0:Addr→Prop)(g:List D→En→R En):L2.eN:=fun vs σ H Q=>∃ρ F ds ρ',aG M G F0 H F σ ρ∧ab M H F ds vs∧g ds ρ=.ok ρ'∧∀σ',aG M G F0 H F σ' ρ'→Q σ' H
noncomputable abbrev JG(X:Cx)(e:Expr)(g:bf):Prop:=∀F0,PG X e (ng (ar X) X.eV F0 g)
noncomputable abbrev jy(X:Cx)(es:List Expr)(g:List D→En→R En):Prop:=∀F0,cu X es (nq (ar X) X.eV F0 g)
theorem sW{X:Cx}{e:Expr}{t t':TG}(h:PG X e t')(hi:∀v σ H Q,t v σ H Q→t' v σ H Q):PG X e t:=fun pins s σ H x u Q I rx q=>h pins s σ H x u Q I rx (hi x σ H Q q)
theorem tI{X:Cx}{e:List Expr}{t t':L2.eN}(h:cu X e t')(hi:∀v σ H Q,t v σ H Q→t' v σ H Q):cu X e t:=fun pins s σ H x u Q I rx q=>h pins s σ H x u Q I rx (hi x σ H Q q)
theorem aW.cQ{ρ:En}{i j:Nat}{d:D}(h:aW (ρ.set i (.sh d)) j):i≠j∧aW ρ j:=by
 rcases h with⟨ds,q⟩|⟨ks,ds,q⟩
 · rcases get_set q with⟨_,x,_⟩|⟨hne,q⟩
   ·cases x
   ·exact⟨hne,.inl ⟨ds,q⟩⟩
 · rcases get_set q with⟨_,x,_⟩|⟨hne,q⟩
   ·cases x
   ·exact⟨hne,.inr ⟨ks,ds,q⟩⟩
theorem aG.mZ{i:Nat}{d:D}{v:V}(r:aG M G F0 H F σ ρ)(h:Rep M H F d v):aG M G F0 H F (σ.set i (some v)) (ρ.set i (.sh d)) where
 rs:=r.rs.mZ h
 sm:=r.sm
 sub:=r.sub
 cK:=r.cK
 own j a o e:=by
   obtain⟨ne,o⟩:=o.cQ
   rw[List.getElem?_set_ne ne]at e
   exact r.own j a o e
 dW j xss b e hb:=by
   rcases get_set e with⟨_,x,_⟩|⟨hne,e⟩
   ·cases x
   ·exact r.dW j xss b e (r.rs.on.back (fun y ey=>by rw[List.getElem?_set_ne hne]at ey;exact ey) (List.getElem?_set_ne hne) (fun a u _ _ hu=>hu) (fun _ _ _ e=>e) hb)
theorem zj(i:Nat){x:Str}(hN:X.N.Nodup)(hi:X.N[i]? =some x:=by rfl)(hx:L2.Loc X.env.scope x:=by exact Or.inl rfl)(hf:X.fn x=true∨X.env.scope.names.lookup x=some .local:=by first|exact .inl rfl|exact .inr rfl):JG X (.Name x pos) (aM i):=fun F0=>
 sW (L2.Ba hN hi hx hf) fun v σ H Q ⟨ρ,F,d,ρ',r,rv,e,q⟩=>by
   cases e
   exact q _ (r.mZ rv)
theorem uX:jy X [] (cG []):=fun F0=>
 tI L2.zu fun vs σ H Q ⟨ρ,F,ds,ρ',r,rv,e,q⟩=>by
   cases ds with
   |nil=>cases e;simp only[ab]at rv;exact⟨rv,q _ r⟩
   |cons _ _=>cases e
theorem wd{is:List Nat}{i:Nat}{t:TG}{u:L2.eN}(ht:∀v σ H Q,ng M G F0 (aM i) v σ H Q→t v σ H Q)(hu:∀v σ H Q,nq M G F0 (cG is) v σ H Q→u v σ H Q)(vs:List V)(σ:L2.St)(H:Hp)(Q:L2.St→Hp→Prop)
   (h:nq M G F0 (cG (i::is)) vs σ H Q):L2.qc t u vs σ H Q:=by
 obtain⟨ρ,F,ds,ρ',r,rv,e,q⟩:=h
 cases ds with
 |nil=>cases e
 | cons d ds=>
   simp only[ab]at rv
   obtain⟨x,xs,rfl,rx,rxs⟩:=rv
   refine⟨x,xs,rfl,ht _ _ _ _ ⟨ρ,F,d,_,r,rx,rfl,fun σ1 r1=>hu _ _ _ _ ⟨_,F,ds,ρ',r1,rxs,e,q⟩⟩⟩
theorem zG(i:Nat){is:List Nat}{e:Expr}{es:List Expr}(h1:JG X e (aM i))(h2:jy X es (cG is))(hs:(assignEach (e::es) X.env).map (·.2)=assign e X.env::(assignEach es X.env).map (·.2):=by rfl):jy X (e::es) (cG (i::is)):=fun F0=>
 tI (L2.tS (h1 F0) (h2 F0) hs) fun vs σ H Q h=>wd (fun _ _ _ _ h=>h) (fun _ _ _ _ h=>h) vs σ H Q h
theorem ql:∀ {is:List Nat} {ds:List D} {ρ ρ':En},cG is ds ρ=.ok ρ'→ds.length=is.length
 |[],[],_,_,_=>rfl
 |_::_,_::_,_,_,h=>by simp only[cG]at h;simp[ql h]
 |[],_::_,_,_,h=>by cases h
 |_::_,[],_,_,h=>by cases h
theorem zM{is:List Nat}{es:List Expr}{k:Nat}(hc:X.calm=true)(h:jy X es (cG is))(hn:(assignEach es X.env).length=is.length:=by rfl)(hst:(assignEach es X.env).findIdx? (·.1)=none:=by rfl):JG X (.Tuple es k pos) (eP is):=fun F0=>
 sW (L2.z9 hc (h F0) hn hst) fun v σ H Q ⟨ρ,F,d,ρ',r,rv,e,q⟩=>by
   unfold eP at e
   split at e
   · rename_i ds
     simp only[Rep]at rv
     obtain⟨a,xs,rfl,h1,rs⟩:=rv
     exact⟨a,xs,rfl,h1.sq,by rw[←rs.length];exact ql e,ρ,F,ds,ρ',r,rs,e,q⟩
   ·cases e
theorem Ah{tg e:Expr}{fa:Ex}{g:bf}(ha:JE X e fa)(hg:JG X tg g)(hs:swapsWithSole [tg] e pos.line X.env=pure false:=by rfl)(hw:swappedStores [tg] e X.env=pure none:=by rfl)(h1:(assignEach [tg] X.env).map (·.2)=[assign tg X.env]:=by rfl):JS X (.Assign [tg] e pos) (bZ g fa):=fun F0=>
 cE (L2.nK ha (hg F0) hs hw h1) fun D σ H ⟨ρ,F,fl,r,e,q⟩=>by
   obtain⟨d,ed,e⟩:=aj.mp e
   obtain⟨ρ',eg,e⟩:=aj.mp e
   cases e
   exact⟨ρ,F,d,r.rs,ed,fun v H1 s1 rv=>⟨ρ,F,d,ρ',r.same s1,rv,eg,fun σ' r'=>q σ' H1 F (.same s1) r'⟩⟩
noncomputable def Gives(M:Md)(J:L2.It)(H1:Hp)(F1:Addr→Prop)(ds:List D):Prop:=∀H F,Mv F1 H1 F H→(∀p,F p→∃o,H p=some o)→
 (∀i d,ds[i]? =some d→J.go i H∧∀x H',J.j4 i H x H'→ah H H'∧Rep M H' F d x)∧J.stop ds.length H
noncomputable def zD(M:Md)(f:En→R (List D)):TI:=fun σ H Rr=>∃ρ F ds,aI M H F σ ρ∧f ρ=.ok ds∧∀J H',ah H H'→Gives M J H' F ds→Rr J H'
noncomputable abbrev JI(X:Cx)(tg e:Expr)(f:bc):Prop:=L2.PI X tg e (zD (ar X) f)
theorem ky{X:Cx}{tg e:Expr}{t t':TI}(h:L2.PI X tg e t')(hi:∀σ H Q,t σ H Q→t' σ H Q):L2.PI X tg e t:=fun pins s σ H Q I q=>h pins s σ H Q I (hi σ H Q q)
theorem zE{J:L2.It}{tg:bf}{body:Sm}{g:TG}{tb:TS}(hg:∀v σ H Q,ng M G F0 tg v σ H Q→g v σ H Q)(hb:∀D σ H,cT M G F0 body D σ H→tb D σ H)
   {H1:Hp} {F1:Addr→Prop} {ds:List D} (gv:Gives M J H1 F1 ds) {ρ:En} (r:aG M G F0 H1 F1 σ ρ) {fl:Fl} (e:forL tg body ds ρ=.ok fl) (q:jb M G F0 H1 F1 DE fl):
   ∃W:Nat→Nat→L2.St→Hp→Prop,(∃m,W 0 m σ H1)∧∀i m σ H,W i m σ H→
     (J.stop i H∧DE.nx σ H)∨(J.go i H∧∃N:L2.St→Hp→Prop,(∀σ' H',N σ' H'→∃m',m'<m∧W (i+1) m' σ' H')∧∀x H',J.j4 i H x H'→g x σ H' fun σ2 H2=>tb {DE with nx:=N,ct:=N,bk:=DE.nx} σ2 H2):=by
 refine⟨fun i m σ H=>m=ds.length - i∧i≤ds.length∧∃ρ F,Mv F1 H1 F H∧aG M G F0 H F σ ρ∧forL tg body (ds.drop i) ρ=.ok fl,⟨ds.length,by simp,Nat.zero_le _,ρ,F1,Mv.refl,r,e⟩,?_⟩
 rintro i m σ H ⟨rfl,hi,ρ,F,mv,r,e⟩
 obtain⟨g1,g2⟩:=gv H F mv r.rs.aK
 by_cases hlt:i<ds.length
 · refine .inr ⟨(g1 i ds[i] (by simp[hlt])).1,fun σ' H'=>i+1≤ds.length∧∃ρ F,Mv F1 H1 F H'∧aG M G F0 H' F σ' ρ∧forL tg body (ds.drop (i+1)) ρ=.ok fl,fun σ' H' p'=>⟨ds.length - (i+1),by omega,rfl,p'.1,p'.2⟩,fun x H' y=>?_⟩
   obtain⟨s1,rx⟩:=(g1 i ds[i] (by simp[hlt])).2 x H' y
   rw[List.drop_eq_getElem_cons hlt]at e
   unfold forL at e
   obtain⟨ρ1,e1,e⟩:=aj.mp e
   obtain⟨f,e2,e⟩:=aj.mp e
   refine hg _ _ _ _ ⟨ρ,F,ds[i],ρ1,r.same s1,rx,e1,fun σ2 r2=>hb _ _ _ ⟨ρ1,F,f,r2,e2,?_⟩⟩
   have mv1:Mv F1 H1 F H':=mv.trans (.same s1)
   cases f with
   |next ρ2=>exact fun σ3 H3 F3 m3 r3=>⟨hlt,ρ2,F3,mv1.trans m3,r3,e⟩
   |cont ρ2=>exact fun σ3 H3 F3 m3 r3=>⟨hlt,ρ2,F3,mv1.trans m3,r3,e⟩
   |brk ρ2=>cases e;exact fun σ3 H3 F3 m3 r3=>q σ3 H3 F3 (mv1.trans m3) r3
   |ret d=>cases e;exact fun v H3 F3 m3 a b rv=>q v H3 F3 (mv1.trans m3) a b rv
   |eZ d=>cases e;exact fun p H3 F3 xs ds e m3 a b c rv=>q p H3 F3 xs ds e (mv1.trans m3) a b c rv
   |cy d=>cases e;exact fun v H3 F3 F4 as m3 a b c d e rv=>q v H3 F3 F4 as (mv1.trans m3) a b c d e rv
 · have ei:i=ds.length:=by omega
   subst ei
   rw[List.drop_length]at e
   cases e
   exact .inl ⟨g2,q σ H F mv r⟩
theorem xB{tg iter:Expr}{body:List Stmt}{it:bc}{g:bf}{f:Sm}(hp:PassesOwn (model X.prog X.w) X.A X.env X.xe)(hc:X.calm=true)(hi:JI X tg iter it)(hg:JG X tg g)(hb:cm X body f)
   (hs:∀x,foldedSetIterable iter X.env x=pure x:=by intro _;rfl):JS X (.For tg iter body [] pos) (jG it g f):=fun F0=>
 cE (L2.wW hp hc hi (hg F0) (hb F0) hs) fun D σ H ⟨ρ,F,fl,r,e,q⟩=>by
   obtain⟨ds,ed,e⟩:=aj.mp e
   exact⟨ρ,F,ds,r.rs,ed,fun J H1 s1 gv=>zE (fun _ _ _ _ h=>h) (fun _ _ _ h=>h) gv (r.same s1) e (q.mv (.same s1))⟩
theorem tZ{a:Addr}{xs:List V}{ds:List D}(h:d5 M H F a xs)(rs:ab M H F ds xs):Gives M (L2.jh M.K a) H F ds:=by
 intro H' F' mv tr
 have h':=h.mv mv
 have rs':=rs.mv mv
 refine⟨fun i d hd=>?_,?_⟩
 · obtain⟨x,hx,rx⟩:=rs'.get hd
   refine⟨⟨xs,x,h'.sq,hx⟩,fun y H2 hy=>?_⟩
   obtain⟨rfl,hy⟩:=hy
   have:=hy xs h'.sq
   rw[hx]at this
   cases this
   exact⟨ah.refl _,rx⟩
 ·exact⟨xs,h'.sq,by rw[rs.length];exact Nat.le_refl _⟩
theorem xb{a:Addr}{xs:List V}{ds:List D}(h:cC M H F a xs)(rs:ab M H F ds xs):Gives M (L2.ke M.K a) H F ds:=by
 intro H' F' mv tr
 have h':=h.mv mv
 have rs':=rs.mv mv
 refine⟨fun i d hd=>?_,?_⟩
 · obtain⟨x,hx,rx⟩:=rs'.get hd
   refine⟨⟨xs,x,h'.sq,hx⟩,fun y H2 hy=>?_⟩
   obtain⟨rfl,hy⟩:=hy
   have:=hy xs h'.sq
   rw[hx]at this
   cases this
   exact⟨ah.refl _,rx⟩
 ·exact⟨xs,h'.sq,by rw[rs.length];exact Nat.le_refl _⟩
theorem vV{lo hi:Int}:Gives M (L2.bc lo (hi - lo).toNat) H F (dR lo hi):=by
 intro H' F' mv tr
 refine⟨fun i d hd=>?_,?_⟩
 · unfold dR at hd
   rw[List.getElem?_map]at hd
   cases e:(List.range (hi - lo).toNat)[i]? with
   |none=>rw[e]at hd;cases hd
   | some k=>
     rw[e]at hd
     obtain⟨hlt,hk⟩:=List.getElem?_eq_some_iff.mp e
     simp at hk hlt hd
     subst hk hd
     refine⟨show i<(hi - lo).toNat by omega,fun y H2 hy=>?_⟩
     obtain⟨rfl,rfl⟩:=hy
     exact⟨ah.refl _,cP⟩
 · show(hi - lo).toNat≤(dR lo hi).length
   unfold dR;simp
@[simp] noncomputable def B0:D→R (List D)
 |.tup xs=>.ok xs
 |_=>.bad
theorem um{j:Int}(h:inR j=true): -(2 ^ 62)≤j∧j<2 ^ 62:=by
 unfold inR at h
 rw[Bool.and_eq_true,decide_eq_true_eq,decide_eq_true_eq]at h
 exact⟨by omega,by omega⟩
theorem A3{tg a:Expr}{fa:Ex}{p:Pos}(hg:L2.Gl X "range")(hm:X.mg "range"=none)(ha:JE X a fa)(hs:starEach [a] X.env=(false,eval a X.env)::starEach [] X.env:=by rfl):JI X tg (.Call (.Name "range" p) [a] [] pos) (eT fa):=
 ky (L2.Bm hg hm (d7 ha fh hs) hs) fun σ H Q ⟨ρ,F,ds,r,e,q⟩=>by
   obtain⟨d,ed,e⟩:=aj.mp e
   refine⟨ρ,F,[d],r,by show(fa ρ).bind _=_;rw[ed];rfl,fun vs H1 s1 rv=>?_⟩
   obtain⟨x,rfl,rx⟩:=rv.one
   split at e
   · split at e
     · rename_i j hj
       cases e
       have hj:=um hj
       have:=q (L2.bc 0 j.toNat) H1 s1 (by have:=vV (M:=ar X) (H:=H1) (F:=F) (lo:=0) (hi:=j);rwa[Int.sub_zero]at this)
       exact⟨j,by rw[bh rx],hj.1,hj.2,this⟩
     ·cases e
   ·cases e
noncomputable def eR(M:Md)(m:List D→R D)(n:Nat):L2.Sp:=fun vs H Q _=>∃F ds d,(∀p,F p→∃o,H p=some o)∧ab M H F ds vs∧ds.length=n∧m ds=.ok d∧∀v H',ah H H'→Rep M H' F d v→Q v H'
theorem Rep.sub(hs:∀a,F a→F' a){d:D}{v:V}(h:Rep M H F' d v):Rep M H F d v:=h.mv fun a o n e=>⟨fun f=>n (hs a f),e⟩
theorem so{N:List Str}{n:Nat}{ds:List D}{vs:List V}(tr:∀p,F p→∃o,G p=some o)(rs:ab M G F ds vs)(hl:ds.length=n)(hn:n≤N.length):aG M G F G F (L2.start N vs) (ds.map Slot.sh++List.replicate (N.length - ds.length) .un):=by
 have hl2:=rs.length
 have no:∀i,¬aW (ds.map Slot.sh++List.replicate (N.length - ds.length) .un) i:=by
   intro i hi
   have:∀s,(ds.map Slot.sh++List.replicate (N.length - ds.length) Slot.un)[i]? =some s→(∃d,s=.sh d)∨s=.un:=by
     intro s hs
     rw[List.getElem?_append]at hs
     split at hs
     · rw[List.getElem?_map]at hs
       cases e1:ds[i]? with
       |none=>rw[e1]at hs;cases hs
       |some d'=>rw[e1]at hs;cases hs;exact .inl ⟨_,rfl⟩
     · rw[List.getElem?_replicate]at hs
       split at hs<;>cases hs
       exact .inr rfl
   rcases hi with⟨x,hx⟩|⟨k,x,hx⟩
   ·rcases this _ hx with⟨_,h⟩|h<;>cases h
   ·rcases this _ hx with⟨_,h⟩|h<;>cases h
 have ai:∀(i:Nat) xss,(ds.map Slot.sh++List.replicate (N.length - ds.length) Slot.un)[i]? ≠some (.on xss):=by
   intro i xss hs
   rw[List.getElem?_append]at hs
   split at hs
   · rw[List.getElem?_map]at hs
     cases e1:ds[i]? with
     |none=>rw[e1]at hs;cases hs
     |some d'=>rw[e1]at hs;cases hs
   · rw[List.getElem?_replicate]at hs
     split at hs<;>cases hs
 refine⟨⟨?_,tr,?_,?_,?_,?_,.no ai⟩,ah.refl _,fun _ h=>h,tr,?_,fun i xss b e=>absurd e (ai i xss)⟩
 ·unfold L2.start;simp[hl2]
 · intro i d hd
   rw[List.getElem?_append]at hd
   split at hd
   · rw[List.getElem?_map]at hd
     cases e1:ds[i]? with
     |none=>rw[e1]at hd;cases hd
     | some d'=>
       rw[e1]at hd;cases hd
       obtain⟨v,ev,rv⟩:=rs.get e1
       refine⟨v,?_,rv⟩
       unfold L2.start
       rw[List.getElem?_append_left (by obtain⟨h,_⟩:=List.getElem?_eq_some_iff.mp ev;simpa using h),List.getElem?_map,ev];rfl
   · rw[List.getElem?_replicate]at hd
     split at hd<;>cases hd
 · intro i d hd
   rw[List.getElem?_append]at hd
   split at hd
   · rw[List.getElem?_map]at hd
     cases e1:ds[i]? with
     |none=>rw[e1]at hd;cases hd
     |some d'=>rw[e1]at hd;cases hd
   · rw[List.getElem?_replicate]at hd
     split at hd<;>cases hd
 · intro i k d hd
   rw[List.getElem?_append]at hd
   split at hd
   · rw[List.getElem?_map]at hd
     cases e1:ds[i]? with
     |none=>rw[e1]at hd;cases hd
     |some d'=>rw[e1]at hd;cases hd
   · rw[List.getElem?_replicate]at hd
     split at hd<;>cases hd
 · intro i j a oi
   exact absurd oi (no i)
 · intro i a oi
   exact absurd oi (no i)
theorem pE{N:List Str}{n:Nat}{body:Sm}{vs:List V}{Q:VK}{E:XK}{t:TS}(ht:∀F0 D σ H,cT M G F0 body D σ H→t D σ H)(h:eR M (fn N.length body) n vs G Q E)(hn:n≤N.length):t {nx:=fun _ H'=>Q .ai H',rt:=Q} (L2.start N vs) G:=by
 obtain⟨F,ds,d,tr,rs,hl,e,q⟩:=h
 obtain⟨f,ef,e⟩:=aj.mp e
 refine ht F _ _ _ ⟨_,F,f,so tr rs hl hn,ef,?_⟩
 cases f with
 |next ρ'=>cases e;exact fun σ' H' F' mv r'=>q _ _ r'.sm nQ
 |ret d'=>cases e;exact fun v H' F' mv sm sub rv=>q _ _ sm (rv.sub sub)
 |brk _=>cases e
 |cont _=>cases e
 |eZ _=>cases e
 |cy _=>cases e
theorem ab.sub(hs:∀a,F a→F' a){d:List D}{v:List V}(h:ab M H F' d v):ab M H F d v:=h.mv fun a o n e=>⟨fun f=>n (hs a f),e⟩
end
section
variable{X:Cx}{M:Md}{G H H':Hp}{F0 F F':Addr→Prop}{σ:L2.St}{ρ:En}{pos:Pos}{DE:Ends}
noncomputable def Own(M:Md)(H:Hp)(F:Addr→Prop)(s:Slot)(o:HO):Prop:=
 (∃ds xs,s=.ol ds∧o=.lst xs∧ab M H F ds xs)∨∃ks ds xs,s=.od ks ds∧o=.dK (ks.zip xs)∧ks.length=xs.length∧ab M H F ds xs
theorem Own.mv{s:Slot}{o:HO}(m:Mv F H F' H')(h:Own M H F s o):Own M H' F' s o:=by
 rcases h with⟨ds,xs,e1,e2,r⟩|⟨ks,ds,xs,e1,e2,l,r⟩
 ·exact .inl ⟨ds,xs,e1,e2,r.mv m⟩
 ·exact .inr ⟨ks,ds,xs,e1,e2,l,r.mv m⟩
theorem aI.ownAt(r:aI M H F σ ρ){i:Nat}(o:aW ρ i):∃a s u,ρ[i]? =some s∧σ[i]? =some (some (.ref a))∧F a∧H a=some u∧Own M H F s u:=by
 rcases o with⟨ds,q⟩|⟨ks,ds,q⟩
 · obtain⟨a,xs,h1,h2,h3,h4⟩:=r.ol i ds q
   exact⟨a,_,_,q,h1,h2,h3,.inl ⟨ds,xs,rfl,rfl,h4⟩⟩
 · obtain⟨a,xs,h1,h2,h3,h4,h5⟩:=r.od i ks ds q
   exact⟨a,_,_,q,h1,h2,h3,.inr ⟨ks,ds,xs,rfl,rfl,h4,h5⟩⟩
theorem hW{i j:Nat}{s:Slot}(h:aW (ρ.set i s) j):j=i∨(i≠j∧aW ρ j):=by
 rcases h with⟨ds,q⟩|⟨ks,ds,q⟩
 · rcases get_set q with⟨h,_,_⟩|⟨hne,q⟩
   ·exact .inl h.symm
   ·exact .inr ⟨hne,.inl ⟨ds,q⟩⟩
 · rcases get_set q with⟨h,_,_⟩|⟨hne,q⟩
   ·exact .inl h.symm
   ·exact .inr ⟨hne,.inr ⟨ks,ds,q⟩⟩
theorem aI.put{i:Nat}{a:Addr}{s:Slot}{o:HO}(r:aI M H F σ ρ)(mv:Mv F H F' H')(hF:∀b,F b→F' b)(ha:F' a)(ho:H' a=some o)(hk:∀b u,F b→b≠a→H b=some u→H' b=some u)(htr:∀b,F' b→F b∨b=a)
   (hn:∀j,j≠i→aW ρ j→σ[j]? ≠some (some (.ref a))) (hon:∀(j:Nat) xss b,j≠i→ρ[j]? =some (.on xss)→cw M H F σ ρ j b→b≠a) (own:Own M H' F' s o):aI M H' F' (σ.set i (some (.ref a))) (ρ.set i s) where
 len:=by simp[r.len]
 aK b f:=by
   by_cases e:b=a
   ·subst e;exact⟨o,ho⟩
   · rcases htr b f with f|f
     · obtain⟨u,hu⟩:=r.aK b f
       exact⟨u,hk b u f e hu⟩
     ·exact absurd f e
 sh j d q:=by
   rcases get_set q with⟨rfl,hx,hl⟩|⟨hne,q⟩
   ·rcases own with⟨ds,xs,rfl,_⟩|⟨ks,ds,xs,rfl,_⟩<;>cases hx
   · obtain⟨w,e1,g⟩:=r.sh j d q
     exact⟨w,by rw[List.getElem?_set_ne hne];exact e1,g.mv mv⟩
 ol j d q:=by
   rcases get_set q with⟨rfl,x,hl⟩|⟨hne,q⟩
   · rcases own with⟨ds,xs,rfl,rfl,rs⟩|⟨ks,ds,xs,rfl,_⟩
     · cases x
       exact⟨a,xs,by rw[List.getElem?_set_self (by rw[←r.len];exact hl)],ha,ho,rs⟩
     ·cases x
   · obtain⟨b,xs,e1,f,e2,g⟩:=r.ol j d q
     refine⟨b,xs,by rw[List.getElem?_set_ne hne];exact e1,hF _ f,hk _ _ f ?_ e2,g.mv mv⟩
     rintro rfl
     exact hn j (Ne.symm hne) (.inl ⟨_,q⟩) e1
 od j k d q:=by
   rcases get_set q with⟨rfl,x,hl⟩|⟨hne,q⟩
   · rcases own with⟨ds,xs,rfl,_⟩|⟨ks,ds,xs,rfl,rfl,l,rs⟩
     ·cases x
     · cases x
       exact⟨a,xs,by rw[List.getElem?_set_self (by rw[←r.len];exact hl)],ha,ho,l,rs⟩
   · obtain⟨b,xs,e1,f,e2,l,g⟩:=r.od j k d q
     refine⟨b,xs,by rw[List.getElem?_set_ne hne];exact e1,hF _ f,hk _ _ f ?_ e2,l,g.mv mv⟩
     rintro rfl
     exact hn j (Ne.symm hne) (.inr ⟨_,_,q⟩) e1
 bE j k b oj ok ej ek:=by
   have self:∀c,(σ.set i (some (.ref a)))[i]? =some (some (.ref c))→c=a:=fun c h=>by
     rw[List.getElem?_set_self']at h
     cases hq:σ[i]? with
     |none=>rw[hq]at h;cases h
     |some z=>rw[hq]at h;cases h;rfl
   rcases hW oj with hj|⟨nj,oj⟩
   · rcases hW ok with hk2|⟨nk,ok⟩
     ·rw[hj,hk2]
     · rw[hj]at ej
       rw[List.getElem?_set_ne nk]at ek
       cases self _ ej
       exact absurd ek (hn k (Ne.symm nk) ok)
   · rw[List.getElem?_set_ne nj]at ej
     rcases hW ok with hk2|⟨nk,ok⟩
     · rw[hk2]at ek
       cases self _ ek
       exact absurd ej (hn j (Ne.symm nj) oj)
     · rw[List.getElem?_set_ne nk]at ek
       exact r.bE j k b oj ok ej ek
 on:=by
   have old:∀(j:Nat) xss,(ρ.set i s)[j]? =some (.on xss)→i≠j∧ρ[j]? =some (.on xss):=fun j xss e=>by
     rcases get_set e with⟨_,x,_⟩|⟨hne,e⟩
     ·rcases own with⟨ds,xs,rfl,_⟩|⟨ks,ds,xs,rfl,_⟩<;>cases x
     ·exact⟨hne,e⟩
   refine r.on.mv mv (fun j xss e=>⟨(old j xss e).2,List.getElem?_set_ne (old j xss e).1⟩) (fun j xss b u e hb f hu=>⟨hF b f,hk b u f (hon j xss b (Ne.symm (old j xss e).1) (old j xss e).2 hb) hu⟩) fun j xss b e hb k ok=>?_
   obtain⟨hne,e0⟩:=old j xss e
   rcases hW ok with rfl|⟨nk,ok⟩
   · intro h
     rw[List.getElem?_set_self']at h
     cases hq:σ[k]? with
     |none=>rw[hq]at h;cases h
     |some z=>rw[hq]at h;cases h;exact hon j xss _ (Ne.symm hne) e0 hb rfl
   · rw[List.getElem?_set_ne nk]
     exact(r.on j xss e0).2.1 b hb k ok
theorem aG.new{i:Nat}{p:Addr}{s:Slot}{o:HO}(r:aG M G F0 H F σ ρ)(hp:H p=none)(own:Own M H F s o):
   Mv F H (fun b=>F b∨b=p) (upd H p o)∧aG M G F0 (upd H p o) (fun b=>F b∨b=p) (σ.set i (some (.ref p))) (ρ.set i s):=by
 have ne:∀b u,H b=some u→b≠p:=fun b u e z=>by subst z;rw[hp]at e;cases e
 have mv:Mv F H (fun b=>F b∨b=p) (upd H p o):=fun b u n e=>⟨fun h=>h.elim n (ne b u e),by rw[L2.az (ne b u e)];exact e⟩
 have hG:G p=none:=r.sm.free hp
 refine⟨mv,⟨r.rs.put mv (fun _ h=>.inl h) (.inr rfl) L2.aV (fun b u _ n e=>by rw[L2.az n];exact e) (fun _ h=>h) (fun j _ oj e=>?_) (fun j xss b _ e hb z=>by
     obtain⟨_,xs,hx⟩:=dN.f hb
     exact ne b _ hx z) (own.mv mv),fun b u e=>by rw[L2.az (ne b u (r.sm b u e))];exact r.sm b u e,fun b h=>.inl (r.sub b h),r.cK,fun j a oj e=>?_,fun j xss b e hb=>?_⟩⟩
 · obtain⟨a,_,u,_,e1,_,e2,_⟩:=r.rs.ownAt oj
   rw[e1]at e;cases e
   exact ne _ _ e2 rfl
 · rcases hW oj with rfl|⟨nj,oj⟩
   · rw[List.getElem?_set]at e
     split at e
     · split at e
       ·cases e;exact hG
       ·cases e
     ·rename_i h;exact absurd rfl h
   · rw[List.getElem?_set_ne nj]at e
     exact r.own j a oj e
 · rcases get_set e with⟨_,x,_⟩|⟨hne,e⟩
   ·rcases own with⟨ds,xs,rfl,_⟩|⟨ks,ds,xs,rfl,_⟩<;>cases x
   ·exact r.dW j xss b e (r.rs.on.back (fun y ey=>by rw[List.getElem?_set_ne hne]at ey;exact ey) (List.getElem?_set_ne hne) (fun a u _ _ hu=>by rw[L2.az (ne a u hu)];exact hu) (fun a u _ hu=>by rw[L2.az (ne a u hu)];exact hu) hb)
theorem aG.chg{i:Nat}{a:Addr}{s:Slot}{o:HO}(r:aG M G F0 H F σ ρ)(oi:aW ρ i)(ei:σ[i]? =some (some (.ref a)))(own:Own M H F s o):
   Mv F H F (upd H a o)∧aG M G F0 (upd H a o) F σ (ρ.set i s):=by
 obtain⟨a',_,u,_,e1,fa,e2,_⟩:=r.rs.ownAt oi
 rw[ei]at e1;cases e1
 have mv:Mv F H F (upd H a o):=fun b v n e=>⟨n,by rw[L2.az (fun z=>by subst z;exact n fa)];exact e⟩
 have hG:=r.own i a oi ei
 have hs:σ.set i (some (.ref a))=σ:=by
   obtain⟨hl,h⟩:=List.getElem?_eq_some_iff.mp ei
   rw[←h];exact List.set_getElem_self hl
 have key:=r.rs.put (i:=i) mv (fun _ h=>h) fa L2.aV (fun b u _ n e=>by rw[L2.az n];exact e) (fun _ h=>.inl h) (fun j nj oj e=>nj (r.rs.bE j i a oj oi e ei)) (fun j xss b _ e hb z=>by subst z;exact(r.rs.on j xss e).2.1 _ hb i oi ei) (own.mv mv)
 rw[hs]at key
 refine⟨mv,⟨key,fun b u e=>by rw[L2.az (fun z=>by subst z;rw[hG]at e;cases e)];exact r.sm b u e,r.sub,r.cK,fun j b oj e=>?_,fun j xss b e hb=>?_⟩⟩
 · rcases hW oj with rfl|⟨nj,oj⟩
   ·rw[ei]at e;cases e;exact hG
   ·exact r.own j b oj e
 · rcases get_set e with⟨_,x,_⟩|⟨hne,e⟩
   ·rcases own with⟨ds,xs,rfl,_⟩|⟨ks,ds,xs,rfl,_⟩<;>cases x
   · refine r.dW j xss b e (r.rs.on.back (fun y ey=>by rw[List.getElem?_set_ne hne]at ey;exact ey) rfl (fun c u hc _ hu=>?_) (fun a' u n hu=>(mv a' u n hu).2) hb)
     rw[L2.az (fun z=>by subst z;exact(r.rs.on j xss e).2.1 _ hc i oi ei)];exact hu
theorem qL{i:Nat}{a:Addr}{d:D}(r:dN M H F σ ρ)(oi:aW ρ i)(ei:σ[i]? =some (some (.ref a)))(mv:Mv F H F' H)(hF:∀b,F b→b≠a→F' b):dN M H F' σ (ρ.set i (.sh d)):=by
 have old:∀(j:Nat) xss,(ρ.set i (.sh d))[j]? =some (.on xss)→ρ[j]? =some (.on xss):=fun j xss e=>by
   rcases get_set e with⟨_,x,_⟩|⟨hne,e⟩
   ·cases x
   ·exact e
 refine r.mv mv (fun j xss e=>⟨old j xss e,rfl⟩) (fun j xss b u e hb f hu=>⟨hF b f fun z=>?_,hu⟩) fun j xss b e hb k ok=>(r j xss (old j xss e)).2.1 b hb k ok.cQ.2
 subst z
 exact(r j xss (old j xss e)).2.1 _ hb i oi ei
theorem aG.zq{i:Nat}{a:Addr}{s:Slot}{d:D}(r:aG M G F0 H F σ ρ)(oi:aW ρ i)(es:ρ[i]? =some s)(ei:σ[i]? =some (some (.ref a)))(hd:∃ds,s=.ol ds∧d=.lst ds):
   ∃F',(F'=fun b=>F b∧b≠a)∧Mv F H F' H∧aG M G F0 H F' σ (ρ.set i (.sh d)):=by
 obtain⟨a',s',u,es',e1,fa,e2,ow⟩:=r.rs.ownAt oi
 rw[ei]at e1;cases e1
 rw[es]at es';cases es'
 have hG:=r.own i a oi ei
 have mv:Mv F H (fun b=>F b∧b≠a) H:=fun b v n e=>⟨fun h=>n h.1,e⟩
 have hrep:Rep M H (fun b=>F b∧b≠a) d (.ref a):=by
   obtain⟨ds,rfl,rfl⟩:=hd
   rcases ow with⟨ds',xs,h1,rfl,rs⟩|⟨ks,ds,xs,h1,_⟩
   · cases h1
     simp only[Rep]
     exact⟨a,xs,rfl,.inl ⟨fun h=>h.2 rfl,.inl e2⟩,rs.mv mv⟩
   ·cases h1
 refine⟨fun b=>F b∧b≠a,rfl,mv,⟨⟨by simp[r.rs.len],fun b h=>r.rs.aK b h.1,?_,?_,?_,?_,?_⟩,r.sm,fun b h=>⟨r.sub b h,fun z=>by subst z;obtain⟨o,e⟩:=r.cK _ h;rw[hG]at e;cases e⟩,r.cK,?_,?_⟩⟩
 · intro j e q
   rcases get_set q with⟨rfl,hx,hl⟩|⟨hne,q⟩
   · cases hx
     exact⟨_,ei,hrep⟩
   · obtain⟨w,e1,g⟩:=r.rs.sh j e q
     exact⟨w,e1,g.mv mv⟩
 · intro j e q
   rcases get_set q with⟨rfl,x,hl⟩|⟨hne,q⟩
   ·cases x
   · obtain⟨b,xs,e1,f,e3,g⟩:=r.rs.ol j e q
     exact⟨b,xs,e1,⟨f,fun z=>by subst z;exact hne (r.rs.bE i j _ oi (.inl ⟨_,q⟩) ei e1)⟩,e3,g.mv mv⟩
 · intro j k e q
   rcases get_set q with⟨rfl,x,hl⟩|⟨hne,q⟩
   ·cases x
   · obtain⟨b,xs,e1,f,e3,l,g⟩:=r.rs.od j k e q
     exact⟨b,xs,e1,⟨f,fun z=>by subst z;exact hne (r.rs.bE i j _ oi (.inr ⟨_,_,q⟩) ei e1)⟩,e3,l,g.mv mv⟩
 · intro j k b oj ok ej ek
   exact r.rs.bE j k b oj.cQ.2 ok.cQ.2 ej ek
 ·exact qL r.rs.on oi ei mv (fun b f n=>⟨f,n⟩)
 · intro j b oj e
   exact r.own j b oj.cQ.2 e
 · intro j xss b e hb
   rcases get_set e with⟨_,x,_⟩|⟨hne,e⟩
   ·cases x
   ·exact r.dW j xss b e (r.rs.on.back (fun y ey=>by rw[List.getElem?_set_ne hne]at ey;exact ey) rfl (fun c u _ _ hu=>hu) (fun _ _ _ e=>e) hb)
theorem aG.frz{i:Nat}{a:Addr}{s:Slot}{u:HO}{d:D}(r:aG M G F0 H F σ ρ)(oi:aW ρ i)(es:ρ[i]? =some s)(ei:σ[i]? =some (some (.ref a)))(hd:∃ds,s=.ol ds∧d=.lst ds):
   ∃F',Mv F H F' H∧aG M G F0 H F' σ (ρ.set i (.sh d)):=let⟨F',_,m,h⟩:=r.zq oi es ei hd;⟨F',m,h⟩
theorem aG.vT{i:Nat}{ks:List Ky}{ds:List D}(r:aG M G F0 H F σ ρ)(es:ρ[i]? =some (.od ks ds)):∃a kvs,H a=some (.dK kvs)∧∀ob,∃F',(F'=fun b=>F b∧b≠a)∧Mv F H F' (upd H a (.frz ob (.dK kvs)))∧aG M G F0 (upd H a (.frz ob (.dK kvs))) F' σ (ρ.set i (.sh (.aA ks ds))):=by
 have oi:aW ρ i:=.inr ⟨_,_,es⟩
 obtain⟨a,xs,ei,fa,e2,hl,rs⟩:=r.rs.od i ks ds es
 refine⟨a,ks.zip xs,e2,fun ob=>?_⟩
 have hG:=r.own i a oi ei
 have ne:∀b,¬F b→b≠a:=fun b n z=>by subst z;exact n fa
 have mv:Mv F H (fun b=>F b∧b≠a) (upd H a (.frz ob (.dK (ks.zip xs)))):=fun b v n e=>⟨fun h=>n h.1,by rw[L2.az (ne b n)];exact e⟩
 refine⟨fun b=>F b∧b≠a,rfl,mv,⟨⟨by simp[r.rs.len],fun b h=>?_,?_,?_,?_,?_,?_⟩,fun b u e=>by rw[L2.az (fun z=>by subst z;rw[hG]at e;cases e)];exact r.sm b u e,fun b h=>⟨r.sub b h,fun z=>by subst z;obtain⟨o,e⟩:=r.cK _ h;rw[hG]at e;cases e⟩,r.cK,?_,?_⟩⟩
 · obtain⟨o,e⟩:=r.rs.aK b h.1
   exact⟨o,by rw[L2.az h.2];exact e⟩
 · intro j e q
   rcases get_set q with⟨rfl,hx,hl⟩|⟨hne,q⟩
   · cases hx
     refine⟨_,ei,?_⟩
     simp only[Rep]
     exact⟨a,xs,rfl,.inl ⟨fun h=>h.2 rfl,ob,L2.aV⟩,by assumption,rs.mv mv⟩
   · obtain⟨w,e1,g⟩:=r.rs.sh j e q
     exact⟨w,e1,g.mv mv⟩
 · intro j e q
   rcases get_set q with⟨rfl,x,hl⟩|⟨hne,q⟩
   ·cases x
   · obtain⟨b,ys,e1,f,e3,g⟩:=r.rs.ol j e q
     have hb:b≠a:=fun z=>by subst z;exact hne (r.rs.bE i j _ oi (.inl ⟨_,q⟩) ei e1)
     exact⟨b,ys,e1,⟨f,hb⟩,by rw[L2.az hb];exact e3,g.mv mv⟩
 · intro j k e q
   rcases get_set q with⟨rfl,x,hl⟩|⟨hne,q⟩
   ·cases x
   · obtain⟨b,ys,e1,f,e3,l,g⟩:=r.rs.od j k e q
     have hb:b≠a:=fun z=>by subst z;exact hne (r.rs.bE i j _ oi (.inr ⟨_,_,q⟩) ei e1)
     exact⟨b,ys,e1,⟨f,hb⟩,by rw[L2.az hb];exact e3,l,g.mv mv⟩
 · intro j k b oj ok ej ek
   exact r.rs.bE j k b oj.cQ.2 ok.cQ.2 ej ek
 · have old:∀(j:Nat) xss,(ρ.set i (.sh (.aA ks ds)))[j]? =some (.on xss)→ρ[j]? =some (.on xss):=fun j xss e=>by
     rcases get_set e with⟨_,x,_⟩|⟨hne,e⟩
     ·cases x
     ·exact e
   refine r.rs.on.mv mv (fun j xss e=>⟨old j xss e,rfl⟩) (fun j xss b u e hb f hu=>?_) fun j xss b e hb k ok=>(r.rs.on j xss (old j xss e)).2.1 b hb k ok.cQ.2
   have hba:b≠a:=fun z=>by subst z;exact(r.rs.on j xss (old j xss e)).2.1 _ hb i oi ei
   exact⟨⟨f,hba⟩,by rw[L2.az hba];exact hu⟩
 · intro j b oj e
   exact r.own j b oj.cQ.2 e
 · intro j xss b e hb
   rcases get_set e with⟨_,x,_⟩|⟨hne,e⟩
   ·cases x
   · refine r.dW j xss b e (r.rs.on.back (fun y ey=>by rw[List.getElem?_set_ne hne]at ey;exact ey) rfl (fun c u hc _ hu=>?_) (fun a' u n hu=>(mv a' u n hu).2) hb)
     rw[L2.az (fun z=>by subst z;exact(r.rs.on j xss e).2.1 _ hc i oi ei)];exact hu
theorem uy(i:Nat){rest:List Stmt}{fs:List Sm}(h:cm X rest (aC fs)):cm X rest (aC (fM i::fs)):=fun F0 pins s σ H D I ⟨ρ,F,fl,r,e,q⟩=>by
 obtain⟨f1,e1,e⟩:=aj.mp e
 unfold fM at e1
 split at e1
 · rename_i xs q1
   cases e1
   have oi:aW ρ i:=.inl ⟨_,q1⟩
   obtain⟨a,_,_,_,ea,_⟩:=r.rs.ownAt oi
   obtain⟨F',mv,r'⟩:=r.frz (u:=.lst []) oi q1 ea ⟨_,rfl,rfl⟩
   exact h F0 pins s σ H D I ⟨_,F',fl,r',e,q.mv mv⟩
 · rename_i ks vs q1
   cases e1
   obtain⟨a,kvs,ha,k⟩:=r.vT q1
   obtain⟨ob,I'⟩:=ni I ha
   obtain⟨F',_,mv,r'⟩:=k ob
   exact h F0 pins s σ _ D I' ⟨_,F',fl,r',e,q.mv mv⟩
 ·cases e1
noncomputable def AH(M:Md)(f:Ex):TE:=fun σ H Q=>∃ρ F ds,aI M H F σ ρ∧f ρ=.ok (.lst ds)∧∀p H' xs,ah H H'→H' p=none→ab M H' F ds xs→Q (.ref p) (upd H' p (.lst xs))
noncomputable abbrev JF(X:Cx)(e:Expr)(f:Ex):Prop:=PE X e (AH (ar X) f)
theorem uH(i:Nat){x:Str}{e:Expr}{f:Ex}{p2:Pos}(hN:X.N.Nodup)(he:JF X e f)(hi:X.N[i]? =some x:=by rfl)(hx:L2.Loc X.env.scope x:=by exact Or.inl rfl)(hf:X.fn x=true∨X.env.scope.names.lookup x=some .local:=by first|exact .inl rfl|exact .inr rfl)
   (hs:swapsWith e (some (.Name x p2)) pos.line X.env=pure false:=by rfl):JS X (.Assign [.Name x p2] e pos) (oE i f):=fun F0=>
 cE (L2.jW hN hi hx he hs hf) fun D σ H ⟨ρ,F,fl,r,e,q⟩=>by
   obtain⟨d,ed,e⟩:=aj.mp e
   split at e
   · cases e
     refine⟨ρ,F,_,r.rs,ed,fun p H1 xs s1 hp rs=>?_⟩
     obtain⟨mv,r'⟩:=(r.same s1).new (i:=i) (s:=.ol _) hp (.inl ⟨_,xs,rfl,rfl,rs⟩)
     exact q _ _ _ (Mv.trans (.same s1) mv) r'
   ·cases e
structure Df(P:Program)(w:World)(K:PySem.W.Frag)(mg:Str→Option Value)(base:Heap)(x:Str)(k n:Nat)(m:List D→R D):Prop where
 ex:∃f fd ps,L2.b5 P w K mg base L2.cL k f fd ps (eR ⟨K,P,w⟩ m n)∧L2.Binds K fd ps []∧PySem.W.keepIn K (.ref f)=true∧mg x=some (.ref f)
theorem wF{m:List D→R D}{n:Nat}{fs:List Ex}{Q:VK}{E:XK}(hn:fs.length=n)(h:tP M (aJ m fs) σ H Q):L2.lG (eR M m n) [] E (kF M (eList fs)) σ H Q:=by
 obtain⟨ρ,F,d,hr,e,q⟩:=h
 obtain⟨ds,eds,e⟩:=aj.mp e
 refine⟨ρ,F,ds,hr,eds,fun vs H1 s1 rs=>?_⟩
 show eR M m n (vs++[]) H1 Q E
 rw[List.append_nil]
 exact⟨F,ds,d,(hr.same s1).aK,rs,by rw[fV eds];exact hn,e,fun v H2 s2 rv=>q v H2 (s1.trans s2) rv⟩
theorem A0{x:Str}{k j n:Nat}{m:List D→R D}{e:Expr}{es:List Expr}{fs:List Ex}{p:Pos}(d:Df X.prog X.w X.K X.mg X.base x k n m)(hr:L2.bb j X.A)(hg:L2.Gl X x)(ha:JA X (e::es) (eList fs))(hk:k≤j:=by decide)(hn:fs.length=n:=by rfl)
   (hdb:(x==("__debug__":Str))=false:=by decide) (he:starEach (e::es) X.env=(false,eval e X.env)::starEach es X.env:=by rfl) (hpl:(backTo pos (starEach es X.env)).any (·.1)=false:=by rfl):JE X (.Call (.Name x p) (e::es) [] pos) (aJ m fs):=by
 obtain⟨f,fd,ps,h1,h2,h3,h4⟩:=d.ex
 exact aY (L2.oF h1 (hr.mono hk) hg h4 h3 h2 .nil L2.lF ha hdb he hpl) fun σ H Q h=>wF hn h
theorem sN{P:Program}{w:World}{K:PySem.W.Frag}{mg:Str→Option Value}{base:Heap}{x qual:Str}{st:Stmt}{f:Addr}{fd:FuncData}{N ps:List Str}{k n:Nat}{body:Sm}(Fu:L2.bq K x qual st f fd)(S:L2.bF N ps (L2.aE st))
   (h:∀(cdv:Value) (A:Around) (outer:List Env) (s:Shared) (H:Hp) (E:XK),L2.bb k (A.deeper (PyProof.Rows.envOfC qual (L2.aE st) s.heap.objs.size f cdv))→cm (L2.d6 L2.cL P w K mg base N qual (L2.aE st) f cdv A outer s H E).cY (L2.bp st) body)
   (hn:ps.length=n:=by rfl):L2.b5 P w K mg base L2.cL (k+1) f fd ps (eR ⟨K,P,w⟩ (fn N.length body) n):=by
 refine Fu.ok S (fun vs H Q E h=>?_) (fun cdv A outer s H vs Q E hr hsp=>?_)
 · obtain⟨F,ds,d,_,rs,hl,_⟩:=h
   rw[←rs.length,hl,hn]
 · refine⟨fun D σ H'=>∃F0,cT ⟨K,P,w⟩ H F0 body D σ H',fun pins s' σ H' D I ⟨F0,q⟩=>h cdv A outer s H E hr F0 pins s' σ H' D I q,?_⟩
   refine pE (G:=H) (t:=fun D σ H'=>∃F0,cT ⟨K,P,w⟩ H F0 body D σ H') (fun F0 D σ H' h=>⟨F0,h⟩) hsp ?_
   have:=congrArg List.length S.pre
   rw[List.length_take]at this
   omega
theorem cS{P:Program}{w:World}{K:PySem.W.Frag}{mg:Str→Option Value}{base:Heap}{x qual:Str}{st:Stmt}{f:Addr}{fd:FuncData}{N ps:List Str}{k n:Nat}{body:Sm}(Fu:L2.bq K x qual st f fd)(hm:mg x=some (.ref f))(S:L2.bF N ps (L2.aE st))(hb:L2.Binds K fd ps [])
   (h:∀(cdv:Value) (A:Around) (outer:List Env) (s:Shared) (H:Hp) (E:XK),L2.bb k (A.deeper (PyProof.Rows.envOfC qual (L2.aE st) s.heap.objs.size f cdv))→cm (L2.d6 L2.cL P w K mg base N qual (L2.aE st) f cdv A outer s H E).cY (L2.bp st) body)
   (hn:ps.length=n:=by rfl):Df P w K mg base x (k+1) n (fn N.length body):=⟨f,fd,ps,sN Fu S h hn,hb,Fu.kp,hm⟩
end
open L2 (It Turn bY)
section
variable{X:Cx}{M:Md}{G H H':Hp}{F0 F F':Addr→Prop}{σ:L2.St}{ρ:En}{pos:Pos}{DE:Ends}
theorem fK:b7 M du (L2.rI L2.kZ fun i j=>.int (i*j)):=by
 intro F H x y a b d Q tr ra rb e q
 unfold du at e
 split at e
 · split at e
   · rename_i h
     cases e
     rw[Bool.or_eq_true]at h
     exact⟨_,_,bh ra,bh rb,h.elim (fun h=>.inl (mI h)) (fun h=>.inr (mI h)),q _ _ (ah.refl _) cP⟩
   ·cases e
 ·cases e
noncomputable def ia(x:Str):It:=⟨fun i _=>i<x.cps.size,fun i H v H'=>H'=H∧∃c,x.cps[i]? =some c∧v=.str ⟨#[c]⟩,fun i _=>x.cps.size≤i⟩
theorem tU{P:Program}{w:World}{K:PySem.W.Frag}{tg:Expr}(x:Str)(t:Tok)(it:Addr):Turn P w K tg (ia x) [it] it (fun i h=>h.IsStrIter it "str_ascii_iterator" x t i) where
 mem:=by simp
 obj:=fun i h st b hb=>by
   have e:b=it:=by simpa using hb
   subst e
   obtain⟨o,e,c,d⟩:=st
   exact⟨o,e,fun v z=>by rw[d]at z;cases z⟩
 keep:=fun i h h' st k=>let⟨o,e,r⟩:=st;⟨o,k it (by simp) o e,r⟩
 item:=by
   intro X hP hw hK hc i pins s σ H E I hf st hg
   subst hP hw hK
   obtain⟨f0,f1,f2,f3,f4,f5⟩:=hf it (by simp)
   have hg:i<x.cps.size:=hg
   refine wpAny_pyNext_ascii_item st (c:=x.cps[i]) (by simp[hg]) fun h' st' sb=>?_
   have I1:Inv X pins σ H {s with heap:=h',toks:=s.toks+1}:=I.turned (t':=s.toks+1) (fun b o hb e=>(sb.2 b hb).trans e) f0 f1 f3 f4 f5
   obtain⟨o,e,c,d⟩:=id st'
   exact⟨_,rfl,L2.iJ (s:={s with heap:=h',toks:=s.toks+1}) e c d (by decide) ⟨.str ⟨#[x.cps[i]]⟩,H,I1,⟨_,rfl⟩,⟨rfl,_,by simp[hg],rfl⟩,st',fun b hb=>(hf b hb).1⟩⟩
 done:=by
   intro X hP hw hK hc i pins s σ H E I hf st hg
   subst hP hw hK
   have hg:x.cps.size≤i:=hg
   obtain⟨f0,f1,f2,f3,f4,f5⟩:=hf it (by simp)
   exact wpAny_pyNext_ascii_end (I.ok.hd hc) st (by simp[hg]) fun h' eb=>⟨rfl,I.turned (t':=s.toks) (fun b o hb e=>eb b o hb e) f0 f1 f3 f4 f5⟩
 self:=fun _ _ _ _ _ st h=>wpAny_pyIter_striter_ascii st h
theorem A8{P:Program}{w:World}{K:PySem.W.Frag}{tg:Expr}(x:Str)(t:Tok)(it:Addr):Turn P w K tg (ia x) [it] it (fun i h=>h.IsStrIter it "str_iterator" x t i) where
 mem:=by simp
 obj:=fun i h st b hb=>by
   have e:b=it:=by simpa using hb
   subst e
   obtain⟨o,e,c,d⟩:=st
   exact⟨o,e,fun v z=>by rw[d]at z;cases z⟩
 keep:=fun i h h' st k=>let⟨o,e,r⟩:=st;⟨o,k it (by simp) o e,r⟩
 item:=by
   intro X hP hw hK hc i pins s σ H E I hf st hg
   subst hP hw hK
   obtain⟨f0,f1,f2,f3,f4,f5⟩:=hf it (by simp)
   have hg:i<x.cps.size:=hg
   refine wpAny_pyNext_wide_item st (c:=x.cps[i]) (by simp[hg]) fun h' st' sb=>?_
   have I1:Inv X pins σ H {s with heap:=h',toks:=s.toks+1}:=I.turned (t':=s.toks+1) (fun b o hb e=>(sb.2 b hb).trans e) f0 f1 f3 f4 f5
   obtain⟨o,e,c,d⟩:=id st'
   exact⟨_,rfl,L2.iJ (s:={s with heap:=h',toks:=s.toks+1}) e c d (by decide) ⟨.str ⟨#[x.cps[i]]⟩,H,I1,⟨_,rfl⟩,⟨rfl,_,by simp[hg],rfl⟩,st',fun b hb=>(hf b hb).1⟩⟩
 done:=by
   intro X hP hw hK hc i pins s σ H E I hf st hg
   subst hP hw hK
   have hg:x.cps.size≤i:=hg
   obtain⟨f0,f1,f2,f3,f4,f5⟩:=hf it (by simp)
   exact wpAny_pyNext_wide_end (I.ok.hd hc) st (by simp[hg]) fun h' eb=>⟨rfl,I.turned (t':=s.toks) (fun b o hb e=>eb b o hb e) f0 f1 f3 f4 f5⟩
 self:=fun _ _ _ _ _ st h=>wpAny_pyIter_striter_wide st h
noncomputable def BF(K:PySem.W.Frag)(tl:TE):TI:=fun σ H R=>tl σ H fun x H1=>(∃a,x=.ref a∧(∃xs,aT K H1 a xs)∧R (L2.jh K a) H1)∨(∃a,x=.ref a∧(∃xs,aX K H1 a xs)∧R (L2.ke K a) H1)∨∃z,x=.str z∧R (ia z) H1
theorem u6{tg:Expr}{pins:List (Addr×Obj)}{R:It→Hp→Prop}{s1:Shared}{x:V}{v:Value}(I1:Inv X pins σ H s1)(r1:RelV x v)
   (q1:(∃a,x=.ref a∧(∃xs,aT X.K H a xs)∧R (L2.jh X.K a) H)∨(∃a,x=.ref a∧(∃xs,aX X.K H a xs)∧R (L2.ke X.K a) H)∨∃z,x=.str z∧R (ia z) H):
   wpAny (model X.prog X.w) X.A (pyIter v) (L2.oC X pins σ tg R) X.xe s1:=by
 have fp:∀b∈[s1.heap.objs.size],bY X pins H b:=fun b hb=>by
   have e:b=s1.heap.objs.size:=by simpa using hb
   subst e
   exact I1.iW (Nat.le_refl _) (I1.aB.fresh (Nat.le_refl _))
 rcases q1 with⟨a,rfl,⟨xs,hq⟩,q⟩|⟨a,rfl,⟨xs,hq⟩,q⟩|⟨z,rfl,q⟩
 · cases r1
   obtain⟨its,rv,p,hz⟩:=I1.list hq
   refine wpAny_pyIter_list p.isList ?_
   exact⟨s1.heap.objs.size,[s1.heap.objs.size],_,_,H,rfl,I1.kept (t':=s1.toks) fun b o e=>Heap.get?_push_of_some _ e,L2.vI a _,⟨_,Heap.get?_push_size _ rfl,rfl,rfl⟩,fp,q⟩
 · cases r1
   obtain⟨its,rv,p,hz⟩:=I1.tuple hq
   refine wpAny_pyIter_tuple (show s1.heap.IsTuple a its.toArray from p) ?_
   exact⟨s1.heap.objs.size,[s1.heap.objs.size],_,_,H,rfl,I1.kept (t':=s1.toks) fun b o e=>Heap.get?_push_of_some _ e,L2.tR a _,⟨_,Heap.get?_push_size _ rfl,rfl,rfl⟩,fp,q⟩
 · obtain⟨t,rfl⟩:=r1
   cases ha:z.cps.all (· <128)
   · refine wpAny_pyIter_wide ha ?_
     exact⟨s1.heap.objs.size,[s1.heap.objs.size],_,_,H,rfl,I1.kept (t':=s1.toks) fun b o e=>Heap.get?_push_of_some _ e,A8 z t _,⟨_,Heap.get?_push_size _ rfl,rfl,rfl⟩,fp,q⟩
   · refine wpAny_pyIter_ascii ha ?_
     exact⟨s1.heap.objs.size,[s1.heap.objs.size],_,_,H,rfl,I1.kept (t':=s1.toks) fun b o e=>Heap.get?_push_of_some _ e,tU z t _,⟨_,Heap.get?_push_size _ rfl,rfl,rfl⟩,fp,q⟩
theorem uU{tg l:Expr}{tl:TE}(hl:PE X l tl):L2.PI X tg l (BF X.K tl):=fun pins s σ H R I h=>
 L2.aD (hl pins s σ H _ I h) fun v s1 ⟨x,H1,I1,r1,q1⟩=>u6 I1 r1 q1
theorem yz{x:Str}:Gives M (ia x) H F (x.cps.toList.map fun c=>.str ⟨#[c]⟩):=by
 intro H' F' mv tr
 refine⟨fun i d hd=>?_,?_⟩
 · rw[List.getElem?_map]at hd
   cases e:x.cps.toList[i]? with
   |none=>rw[e]at hd;cases hd
   | some c=>
     rw[e]at hd
     cases hd
     have e':x.cps[i]? =some c:=by simpa using e
     refine⟨show i<x.cps.size from(Array.getElem?_eq_some_iff.mp e').1,fun y H2 hy=>?_⟩
     obtain⟨rfl,c',hc',rfl⟩:=hy
     rw[e']at hc'
     cases hc'
     exact⟨ah.refl _,g8⟩
 · show x.cps.size≤_
   simp
theorem z6{K:PySem.W.Frag}{d:D}{ds:List D}{x:V}{R:It→Hp→Prop}(e:items d=.ok ds)(rv:Rep M H F d x)(q:∀J,Gives M J H F ds→R J H):
   (∃a,x=.ref a∧(∃xs,aT M.K H a xs)∧R (L2.jh M.K a) H)∨(∃a,x=.ref a∧(∃xs,aX M.K H a xs)∧R (L2.ke M.K a) H)∨∃z,x=.str z∧R (ia z) H:=by
 unfold items at e
 split at e
 · cases e
   simp only[Rep]at rv
   obtain⟨a,xs,rfl,h,rs⟩:=rv
   exact .inl ⟨a,rfl,⟨xs,h.sq⟩,q _ (tZ h rs)⟩
 · cases e
   simp only[Rep]at rv
   obtain⟨a,xs,rfl,h,rs⟩:=rv
   exact .inr (.inl ⟨a,rfl,⟨xs,h.sq⟩,q _ (xb h rs)⟩)
 · cases e
   exact .inr (.inr ⟨_,dB rv,q _ yz⟩)
 ·cases e
theorem u0{tg l:Expr}{fa:Ex}(ha:JE X l fa):JI X tg l (iB fa):=
 ky (uU ha) fun σ H Q ⟨ρ,F,ds,r,e,q⟩=>by
   obtain⟨d,ed,e⟩:=aj.mp e
   exact⟨ρ,F,d,r,ed,fun v H1 s1 rv=>z6 (K:=X.K) (M:=ar X) e rv fun J g=>q J H1 s1 g⟩
end
structure jq(P:Program)(w:World)(K:PySem.W.Frag)(mg:Str→Option Value)(x:Str)(d:D):Prop where
 ex:∃v u,mg x=some u∧RelV v u∧∀H F,Rep ⟨K,P,w⟩ H F d v
theorem xu{X:Cx}{pos:Pos}{x:Str}{d:D}(g:jq X.prog X.w X.K X.mg x d)(hg:L2.Gl X x)(hd:(x==("__debug__":Str))=false:=by decide):JE X (.Name x pos) (eC d):=by
 obtain⟨v,u,h1,h2,h3⟩:=g.ex
 exact Ag hg h1 h2 h3 hd
noncomputable def iw:Expr→Bool
 |.Starred .. =>false
 |_=>true
theorem bo{e:Expr}{es:List Expr}{env:Env}(h:iw e=true):starEach (e::es) env=(false,eval e env)::starEach es env:=by cases e<;>first|rfl|cases h
theorem kO{pos:Pos}{env:Env}:∀ {es:List Expr},es.all iw=true→(backTo pos (starEach es env)).any (·.1)=false
 |[],_=>rfl
 | e::es,h=>by
   rw[List.all_cons,Bool.and_eq_true]at h
   rw[bo h.1]
   show(false||(backTo pos (starEach es env)).any (·.1))=false
   rw[Bool.false_or]
   exact kO h.2
theorem rf{pos:Pos}{env:Env}:∀ {es:List Expr},es.all iw=true→(backTo pos (starEach es env)).all (fun x=> !x.1)=true
 |[],_=>rfl
 | e::es,h=>by
   rw[List.all_cons,Bool.and_eq_true]at h
   rw[bo h.1]
   show(true&&(backTo pos (starEach es env)).all (fun x=> !x.1))=true
   rw[Bool.true_and]
   exact rf h.2
theorem uf{cpos:Pos}{env:Env}{e:Expr}{es:List Expr}(h:(e::es).all iw=true)(hl:(e::es).length<30):((backTo cpos (starEach (e::es) env)).all (fun x=> !x.1)&&(backToKw cpos (keywordEach [] env)).all (fun x=>x.1.isSome)
     &&decide ((e::es).length+([]:List Keyword).length+(if([]:List Keyword).isEmpty then 0 else 1)<30))=true:=by
 rw[rf h,Bool.true_and]
 show(true&&decide ((e::es).length+0+0<30))=true
 rw[Bool.true_and,decide_eq_true_eq]
 exact hl
noncomputable def rB:Expr→Bool
 |.ListComp .. =>false
 |.SetComp .. =>false
 |.DictComp .. =>false
 |_=>true
theorem br{e:Expr}{t:Option Expr}{l:Nat}{env:Env}(h:rB e=true):swapsWith e t l env=pure false:=by cases e<;>first|rfl|cases h
theorem mK{e tg:Expr}{l:Nat}{env:Env}(h:rB e=true):swapsWithSole [tg] e l env=pure false:=br h
noncomputable def tW:Expr→Bool
 |.Tuple .. =>false
 |_=>true
theorem rP{e tg:Expr}{env:Env}(h:tW e=true):swappedStores [tg] e env=pure none:=by
 cases tg<;>first|rfl|(cases e<;>first|rfl|cases h)
noncomputable def AV:Expr→Bool
 |.Tuple .. =>false
 |.List .. =>false
 |_=>true
theorem uB{e tg:Expr}{env:Env}(h:AV tg=true):swappedStores [tg] e env=pure none:=by
 cases tg<;>first|rfl|cases h
theorem kD{e:Expr}{es:List Expr}{env:Env}(h:iw e=true):(assignEach (e::es) env).map (·.2)=assign e env::(assignEach es env).map (·.2):=by cases e<;>first|rfl|cases h
theorem pW{env:Env}:∀ {es:List Expr},(assignEach es env).length=es.length
 |[]=>rfl
 | e::es=>by
   have:=pW (env:=env) (es:=es)
   cases e<;>(show(assignEach es env).length+1=_;rw[this];rfl)
theorem qj{env:Env}:∀ {es:List Expr},es.all iw=true→(assignEach es env).findIdx? (·.1)=none
 |[],_=>rfl
 | e::es,h=>by
   rw[List.all_cons,Bool.and_eq_true]at h
   have ih:=qj (env:=env) h.2
   have:∃t,assignEach (e::es) env=(false,t)::assignEach es env:=by
     have h1:=h.1
     cases e<;>first|exact⟨_,rfl⟩|cases h1
   obtain⟨t,e1⟩:=this
   rw[e1,List.findIdx?_cons,ih];rfl
noncomputable def ve:Expr→Bool
 |.Set .. =>false
 |_=>true
theorem oq{e:Expr}{env:Env}(h:ve e=true):∀x,foldedSetIterable e env x=pure x:=by intro x;cases e<;>first|rfl|cases h
noncomputable def plainT:Expr→Bool
 |.UnaryOp .Not _ _=>false
 |.BoolOp .. =>false
 |.IfExp .. =>false
 |.Compare .. =>false
 |_=>true
theorem wV{e:Expr}{env:Env}(h:plainT e=true):∀whole,isTrue e env whole=(do let v ←whole;standAt e.pos;holding [v] (truthy v)):=by
 intro w
 cases e with
 |UnaryOp op _ _=>cases op<;>first|rfl|cases h
 |_=>first|rfl|cases h
theorem vG{x:Str}{p:Pos}{a:Str}{env:Env}{w:Sem Value}:attributeBase (.Name x p) a env w=w:=rfl
noncomputable def Ap:Expr→Bool
 |.Slice .. =>false
 |_=>true
theorem mL{b:Expr}(h:Ap b=true):L2.gf b:=by intro o i;cases b<;>first|rfl|cases h
theorem walk{l:PySem.W.OpenLaw}{q:Program}{loose:List Str}{XP:(Str→Option Value)→Heap→Prop}{YP:World→Heap→Prop}{d:DefRec}{K:Params→PySem.W.Frag}{k:Nat}{x:Str}{m:List D→R D}(hn:l.most=some 63)(hdf:d.params.defaults=[])(hr:L2.bb k PySem.callerA)
   (hY:∀(w:World) (h:Heap),YP w h→(K w.params).In h)
   (F:∀(w:World) (mg:Str→Option Value) (fa:Addr) (h:Heap),(K w.params).In h→h.Ns mainGlobals mg→mg d.name=some (.ref fa)→
     ∃fd:FuncData,(∀(s:Shared) (u:Value),BindsTo s fd ⟨[u],[]⟩ [(x,u)])∧∀base:Heap,(K w.params).In base→base.Ns mainGlobals mg→L2.b5 l.prog w (K w.params) mg base L2.cL k fa fd [x] (eR ⟨K w.params,l.prog,w⟩ m 1))
   (hT:∀ns:List Int,ns.length≤63→m [.lst (ns.map .int)]=.ok (.bl true)):
   PySem.W.WalkO q loose XP YP l.row.toRowW d [] (fun f vs=>PySem.call f vs):=
 L2.yk (n:=63) (k:=k) (x:=x) (CX:=fun _=>L2.cL) (sp:=fun w=>eR ⟨K w.params,l.prog,w⟩ m 1) hn (by decide) hdf hr hY F (fun w H a ns hl _ hS=>by
   refine⟨fun _=>False,[.lst (ns.map .int)],.bl true,fun p h=>h.elim,ab.cons ?_ ab.nil,rfl,hT ns hl,fun v H' _ rv=>eU rv⟩
   have rints:∀(ns:List Int) (M:Md) (H:Hp),ab M H (fun _=>False) (ns.map D.int) (ns.map V.int):=by
     intro ns M H
     induction ns with
     |nil=>exact ab.nil
     |cons n r ih=>exact ab.cons cP ih
   simp only[Rep]
   refine⟨a,ns.map V.int,rfl,?_,rints ns _ H⟩
   rcases hS with h|h
   ·exact .inl ⟨fun h=>h,h⟩
   ·exact .inr h) fun _ _ _ _ _ z=>z
open L2 (Un)
section
variable{prog:Program}{w:World}{A:Around}{R:Result→Shared→Prop}{s:Shared}
theorem xI{elt target iter:Expr}{ifs:List Expr}{scope:Scope}{pos:Pos}{it acc:Value}{env:Env}(I:Nat→Shared→Prop)
   (turn:∀n s,I n s→wpAny (model prog w) A (pyNext it) (fun r s₁=>match r with
     |none=>R (.ok .next) s₁
     |some v=>wpAny (model prog w) A (letOwnedTupleGo target it v) (fun _ s₁'=>wpAny (model prog w) A (assign target env v) (fun _ s₂=>
         wpAny (model prog w) A (forIn ifs true fun c r=>if r=true then do let ok ←isTrue c env (eval c env);pure (ForInStep.yield ok)else pure (ForInStep.yield r)) (fun ok s₃=>
           if ok=true then wpAny (model prog w) A (eval elt env) (fun x s₄=>
             wpAny (model prog w) A (call (.builtin "list.append") [acc,x]) (fun _ s₅=>∃m,m<n∧I m s₅) (notedBy (model prog w) A env fun e s'=>R (.error e) s') s₄) (notedBy (model prog w) A env fun e s'=>R (.error e) s') s₃
           else ∃m,m<n∧I m s₃) (notedBy (model prog w) A env fun e s'=>R (.error e) s') s₂) (notedBy (model prog w) A env fun e s'=>R (.error e) s') s₁') (notedBy (model prog w) A env fun e s'=>R (.error e) s') s₁) (notedBy (model prog w) A env fun e s'=>R (.error e) s') s)
   (n:Nat) (h:I n s):codeAny (model prog w) A (.compLoop (.ListComp elt [⟨target,iter,ifs,0⟩] scope pos) 0 it acc env) R s:=by
 refine codeAny_loop rfl I (fun n s hI=>?_) n h
 show wpAny _ A ((compTurn (.ListComp elt [⟨target,iter,ifs,0⟩] scope pos) 0 it acc env).onRaise (fun x=>do noteFrame x env;theTreesLotGoes x)) _ _ s
 refine wpAny_noted ?_
 rw[compTurn_list]
 refine wpAny_bind (wpAny_standAt (wpAny_bind (wpAny_mono (turn n s hI) (fun r s₁ h₁=>?_) fun _ _ h'=>h')))
 cases r with
 |none=>exact wpAny_pure h₁
 | some v=>
   refine wpAny_bind (wpAny_mono h₁ (fun _ s₁' h₁'=>?_) fun _ _ h'=>h')
   refine wpAny_bind (wpAny_mono h₁' (fun _ s₂ h₂=>wpAny_bind (wpAny_mono h₂ (fun ok s₃ h₃=>?_) fun _ _ h'=>h')) fun _ _ h'=>h')
   cases ok with
   |false=>exact wpAny_pure ⟨rfl,h₃⟩
   | true=>
     exact wpAny_bind (wpAny_bind (wpAny_mono h₃ (fun x s₄ h₄=>wpAny_bind (wpAny_mono h₄ (fun _ s₅ h₅=>wpAny_pure (wpAny_pure ⟨rfl,h₅⟩)) fun _ _ h'=>h')) fun _ _ h'=>h'))
end
noncomputable def cb(X:Cx)(scope:Scope)(cl:List (Str×Addr))(C:Addr)(N:List Str)(s:Shared)(H:Hp)(fp:List Addr):Cx where
 prog:=X.prog
 w:=X.w
 K:=X.K
 mg:=X.mg
 base:=X.base
 A:=X.A
 N:=N
 bN:=s
 eV:=H
 env:=compEnvC scope cl C X.env
 outer:=X.stack
 stack:=X.stack
 ex:=fp
 fn:=fun x=>decide ((x,NameKind.cell)∈scope.names)
 calm:=X.calm
 pn:=[]
 xe:=X.xe
noncomputable abbrev i5(X:Cx)(ifs:List Expr)(cs:List aF):Prop:=Paired (fun e c=>JT X e c) ifs cs
theorem qF{X:Cx}{M:Md}(hM:M=ar X){pins:List (Addr×Obj)}{σ:L2.St}{ρ:En}{F:Addr→Prop}{E:Value→Shared→Prop}(hE:∀e s,X.xe e s→E e s):
   ∀ {ifs:List Expr} {cs:List aF},i5 X ifs cs→∀ {s:Shared} {H:Hp} {t:Bool} {Q:Bool→Hp→Prop},Inv X pins σ H s→aI M H F σ ρ→eB.jw cs ρ=.ok t→(∀H',ah H H'→Q t H')→
     wpAny (model X.prog X.w) X.A (forIn ifs true fun c r=>if r=true then do let ok ←isTrue c X.env (eval c X.env);pure (ForInStep.yield ok)else pure (ForInStep.yield r)) (fun ok s'=>∃H',Inv X pins σ H' s'∧Q ok H') E s
 | [],_,.nil,s,H,t,Q,I,r,e,q=>by
   cases e
   exact wpAny_tests_nil ⟨H,I,q H (ah.refl H)⟩
 | c::ifs,_,.cons h hs,s,H,t,Q,I,r,e,q=>by
   unfold eB.jw at e
   obtain⟨b,eb,e⟩:=aj.mp e
   rw[List.forIn_cons]
   simp only[if_true]
   refine wpAny_bind (wpAny_bind (wpAny_mono (h pins s σ H (fun b' H'=>b'=b∧ah H H') I ⟨ρ,F,b,hM▸r,eb,fun H' s'=>⟨rfl,s'⟩⟩) (fun b' s1 h1=>wpAny_pure ?_) hE))
   obtain⟨H1,I1,rfl,s1'⟩:=h1
   dsimp only
   cases b' with
   | true=>
     rw[if_pos rfl]at e
     exact qF hM hE hs I1 (r.same s1') e fun H2 s2=>q H2 (s1'.trans s2)
   | false=>
     rw[if_neg (by decide)]at e
     cases e
     have pass:∀(l:List Expr) (s:Shared),(∃H',Inv X pins σ H' s∧Q false H')→wpAny (model X.prog X.w) X.A (forIn l false fun c r=>if r=true then do let ok ←isTrue c X.env (eval c X.env);pure (ForInStep.yield ok)else pure (ForInStep.yield r)) (fun ok s'=>∃H',Inv X pins σ H' s'∧Q ok H') E s:=by
       intro l
       induction l with
       |nil=>intro s h;exact wpAny_pure h
       | cons a l ih=>
         intro s h
         rw[List.forIn_cons]
         exact wpAny_bind (wpAny_pure (ih s h))
     exact pass ifs _ ⟨H1,I1,q H1 s1'⟩
theorem ou{env:Env}:∀(names:List (Str×NameKind)) (cs:List (Str×Addr)),(∀y∈names,y.2=.free→∃c,env.cells.lookup y.1=some c)→(∀x c,cs.lookup x=some c→env.cells.lookup x=some c)→
   ∃cl,(forIn names cs fun(x:Str×NameKind) r=>(if(x.2==.free)=true then do let c ←cellOf env x.1;pure (ForInStep.yield ((x.1,c)::r))else pure (ForInStep.yield r):Sem (ForInStep (List (Str×Addr)))))=(pure cl:Sem _)∧
     (∀x c,cl.lookup x=some c→env.cells.lookup x=some c)∧(∀x,(∃c,cs.lookup x=some c)∨(x,NameKind.free)∈names→∃c,cl.lookup x=some c)
 |[],cs,_,hc=>⟨cs,rfl,hc,fun x h=>h.elim (fun h=>h) fun h=>nomatch h⟩
 | (n,k)::names,cs,hn,hc=>by
   rw[List.forIn_cons]
   by_cases hk:k=.free
   · subst hk
     obtain⟨c,ec⟩:=hn _ List.mem_cons_self rfl
     obtain⟨cl,e,h1,h2⟩:=ou names ((n,c)::cs) (fun y hy=>hn y (List.mem_cons_of_mem _ hy)) (fun x d h=>by
       rw[List.lookup_cons]at h
       cases hx:x==n with
       |true=>rw[hx]at h;cases h;rw[beq_iff_eq.mp hx];exact ec
       |false=>rw[hx]at h;exact hc x d h)
     refine⟨cl,?_,h1,fun x h=>h2 x ?_⟩
     · have:cellOf env n=pure c:=by unfold cellOf;rw[show List.lookup n env.cells=some c from ec]
       simp only[beq_self_eq_true,if_true,this]
       exact e
     · rcases h with⟨d,h⟩|h
       · left
         rw[List.lookup_cons]
         cases x==n with
         |true=>exact⟨c,rfl⟩
         |false=>exact⟨d,h⟩
       · rcases List.mem_cons.mp h with h|h
         · cases h
           left
           rw[List.lookup_cons,beq_self_eq_true]
           exact⟨c,rfl⟩
         ·exact .inr h
   · obtain⟨cl,e,h1,h2⟩:=ou names cs (fun y hy=>hn y (List.mem_cons_of_mem _ hy)) hc
     refine⟨cl,?_,h1,fun x h=>h2 x (h.imp (fun h=>h) fun h=>?_)⟩
     · have:(k==NameKind.free)=false:=by cases k<;>first|rfl|exact absurd rfl hk
       simp only[this,Bool.false_eq_true,if_false]
       exact e
     · rcases List.mem_cons.mp h with h|h
       ·cases h;exact absurd rfl hk
       ·exact h
theorem wQ{scope:Scope}{env:Env}(hn:∀y∈scope.names,y.2=.free→∃c,env.cells.lookup y.1=some c):
   ∃cl,closureFor scope env=pure cl∧(∀x c,cl.lookup x=some c→env.cells.lookup x=some c)∧∀x,(x,NameKind.free)∈scope.names→∃c,cl.lookup x=some c:=by
 obtain⟨cl,e,h1,h2⟩:=ou scope.names [] hn (fun x c h=>nomatch h)
 refine⟨cl,?_,h1,fun x h=>h2 x (.inr h)⟩
 unfold closureFor
 have:∀(l:List (Str×NameKind)) (cs:List (Str×Addr)),(forIn l cs fun(x:Str×NameKind) (r:List (Str×Addr))=>(match x with|(name,kind)=>do
     if(kind==.free)=true then
       let c ←cellOf env name
       pure (ForInStep.yield ((name,c)::r))
     else pure (ForInStep.yield r):Sem (ForInStep (List (Str×Addr)))))=forIn l cs fun(x:Str×NameKind) r=>(if(x.2==.free)=true then do let c ←cellOf env x.1;pure (ForInStep.yield ((x.1,c)::r))else pure (ForInStep.yield r):Sem (ForInStep (List (Str×Addr)))):=fun _ _=>rfl
 show(forIn scope.names [] _ >>= fun r=>pure r)=_
 first
   |(rw[show(forIn scope.names ([]:List (Str×Addr)) _:Sem (List (Str×Addr)))=pure cl from e];rfl)
   |(erw [e];rfl)
theorem oR{M:Model}{A:Around}{E:Value→Shared→Prop}{Q:List (Str×Addr)→Shared→Prop}:∀(names:List (Str×NameKind)) {s:Shared} {cells:List (Str×Addr)},(∀x c,cells.lookup x=some c→c<s.heap.objs.size)→(∀x y c,cells.lookup x=some c→cells.lookup y=some c→x=y)→
   (∀(h':Heap) (cells':List (Str×Addr)),(∀b o,s.heap.get? b=some o→h'.get? b=some o)→(∀x y c,cells'.lookup x=some c→cells'.lookup y=some c→x=y)→
     (∀x c,cells'.lookup x=some c→cells.lookup x=some c∨(s.heap.objs.size≤c∧h'.IsCell c none))→(∀x,(x,NameKind.cell)∈names→∃c,cells'.lookup x=some c∧s.heap.objs.size≤c)→(∀x c,cells.lookup x=some c→(x,NameKind.cell)∉names→cells'.lookup x=some c)→Q cells' {s with heap:=h'})→
   wpAny M A (forIn names cells fun(x:Str×NameKind) (r:List (Str×Addr))=>(match x with|(name,kind)=>if(kind==NameKind.cell)=true then do let a ←alloc {cls:=Value.type "cell",data:=Data.cell none};pure (ForInStep.yield ((name,a)::r))else pure (ForInStep.yield r):Sem (ForInStep (List (Str×Addr))))) Q E s
 | [],s,cells,_,inj,k=>by
   exact wpAny_pure (k s.heap cells (fun _ _ e=>e) inj (fun _ _ e=>.inl e) (fun _ h=>nomatch h) (fun _ _ e _=>e))
 | (n,kd)::names,s,cells,lt,inj,k=>by
   rw[List.forIn_cons]
   by_cases hk:kd=.cell
   · subst hk
     simp only[beq_self_eq_true,if_true]
     refine wpAny_bind (wpAny_bind (wpAny_alloc (wpAny_pure ?_)))
     dsimp only
     refine oR names (fun x c h=>?_) (fun x y c hx hy=>?_) fun h' cells' keep inj' h2 h3 h4=>?_
     · rw[Heap.size_push]
       rw[List.lookup_cons]at h
       cases hx:x==n with
       |true=>rw[hx]at h;cases h;exact Nat.lt_succ_self _
       |false=>rw[hx]at h;exact Nat.lt_succ_of_lt (lt x c h)
     · rw[List.lookup_cons]at hx hy
       cases ex:x==n with
       | true=>
         cases ey:y==n with
         |true=>rw[beq_iff_eq.mp ex,beq_iff_eq.mp ey]
         | false=>
           rw[ex]at hx;rw[ey]at hy;cases hx
           exact absurd (lt y _ hy) (Nat.lt_irrefl _)
       | false=>
         rw[ex]at hx
         cases ey:y==n with
         |true=>rw[ey]at hy;cases hy;exact absurd (lt x _ hx) (Nat.lt_irrefl _)
         |false=>rw[ey]at hy;exact inj x y c hx hy
     · have old:∀b o,s.heap.get? b=some o→h'.get? b=some o:=fun b o e=>keep b o (Heap.get?_push_of_some _ e)
       have new:h'.IsCell s.heap.objs.size none:=⟨_,keep _ _ (Heap.get?_push_size _ rfl),rfl⟩
       refine k h' cells' old inj' (fun x c h=>?_) (fun x hx=>?_) (fun x c h hx=>?_)
       · rcases h2 x c h with h|⟨h5,h6⟩
         · rw[List.lookup_cons]at h
           cases ex:x==n with
           |true=>rw[ex]at h;cases h;exact .inr ⟨Nat.le_refl _,new⟩
           |false=>rw[ex]at h;exact .inl h
         · rw[Heap.size_push]at h5
           exact .inr ⟨by omega,h6⟩
       · by_cases hm:(x,NameKind.cell)∈names
         · obtain⟨c,h5,h6⟩:=h3 x hm
           rw[Heap.size_push]at h6
           exact⟨c,h5,by omega⟩
         · have hxn:x=n:=by
             rcases List.mem_cons.mp hx with e|e
             ·exact(Prod.mk.inj e).1
             ·exact absurd e hm
           subst hxn
           exact⟨s.heap.objs.size,h4 x _ (by rw[List.lookup_cons,beq_self_eq_true]) hm,Nat.le_refl _⟩
       · refine h4 x c ?_ fun hm=>hx (List.mem_cons_of_mem _ hm)
         rw[List.lookup_cons]
         cases ex:x==n with
         |true=>exact absurd (by rw[beq_iff_eq.mp ex];exact List.mem_cons_self) hx
         |false=>exact h
   · have hk':(kd==NameKind.cell)=false:=by cases kd<;>first|rfl|exact absurd rfl hk
     simp only[hk',Bool.false_eq_true,if_false]
     refine wpAny_bind (wpAny_pure ?_)
     dsimp only
     refine oR names lt inj fun h' cells' keep inj' h2 h3 h4=>k h' cells' keep inj' h2 (fun x hx=>?_) (fun x c h hx=>h4 x c h fun hm=>hx (List.mem_cons_of_mem _ hm))
     rcases List.mem_cons.mp hx with e|e
     ·exact absurd (Prod.mk.inj e).2.symm hk
     ·exact h3 x e
theorem zc{M:Model}{A:Around}{E:Value→Shared→Prop}{Q:Env→Shared→Prop}{s:Shared}{scope:Scope}{cl:List (Str×Addr)}{env:Env}(lt:∀x c,cl.lookup x=some c→c<s.heap.objs.size)(inj:∀x y c,cl.lookup x=some c→cl.lookup y=some c→x=y)
   (k:∀(h':Heap) (cells':List (Str×Addr)),(∀b o,s.heap.get? b=some o→h'.get? b=some o)→(h'.Ns s.heap.objs.size fun _=>none)→(∀x y c,cells'.lookup x=some c→cells'.lookup y=some c→x=y)→
     (∀x c,cells'.lookup x=some c→cl.lookup x=some c∨(s.heap.objs.size+1≤c∧h'.IsCell c none))→(∀x,(x,NameKind.cell)∈scope.names→∃c,cells'.lookup x=some c∧s.heap.objs.size+1≤c)→(∀x c,cl.lookup x=some c→(x,NameKind.cell)∉scope.names→cells'.lookup x=some c)→
     Q {scope:=scope,locals:=s.heap.objs.size,globals:=env.globals,cells:=cells',qual:=env.qual,func:=none,code:=env.code,frame:=env.frame,builtins:=env.builtins} {s with heap:=h'}):
   wpAny M A (newFunctionEnv scope env.globals cl [] env.qual none Value.none (some env)) Q E s:=by
 unfold newFunctionEnv
 refine wpAny_bind (wpAny_alloc ?_)
 dsimp only
 refine wpAny_bind (wpAny_mono (oR (Q:=fun cells' s'=>Q {scope:=scope,locals:=s.heap.objs.size,globals:=env.globals,cells:=cells',qual:=env.qual,func:=none,code:=env.code,frame:=env.frame,builtins:=env.builtins} s') scope.names (fun x c h=>by rw[Heap.size_push];exact Nat.lt_succ_of_lt (lt x c h)) inj fun h' cells' keep inj' h2 h3 h4=>?_) (fun cells' s' hq=>?_) fun _ _ h=>h)
 · refine k h' cells' (fun b o e=>keep b o (Heap.get?_push_of_some _ e)) ?_ inj' (fun x c h=>?_) (fun x hx=>?_) h4
   · obtain⟨o,es,ep,h1,h2,h3,h4⟩:=Heap.Ns.new s.heap (Value.type "dict")
     exact⟨o,es,ep,keep _ _ h1,h2,h3,h4⟩
   · rcases h2 x c h with h|⟨h5,h6⟩
     ·exact .inl h
     ·rw[Heap.size_push]at h5;exact .inr ⟨h5,h6⟩
   · obtain⟨c,h5,h6⟩:=h3 x hx
     rw[Heap.size_push]at h6
     exact⟨c,h5,h6⟩
 ·exact wpAny_pure hq
set_option maxHeartbeats 1000000
noncomputable abbrev Xt:=En→R T
noncomputable def xD(e:Ex):Xt:=fun ρ=>(e ρ).bind fun d=>.ok (.d d)
noncomputable def mV(M:Md)(f:Xt):TE:=fun σ H Q=>∃ρ F t,aI M H F σ ρ∧f ρ=.ok t∧∀v H' F' as,ah H H'→(∀b∈as,H b=none)→as.Nodup→(∀b,F' b↔F b∨b∈as)→af M H' F' t v as→Q v H'
noncomputable abbrev JX(X:Cx)(e:Expr)(f:Xt):Prop:=PE X e (mV (ar X) f)
noncomputable def dZ(tg:bf)(cs:List aF)(el:Xt)(ρ:En):List D→R (List T)
 |[]=>.ok []
 | d::ds=>(tg d ρ).bind fun ρ1=>(eB.jw cs ρ1).bind fun t=>
   if t=true then(el ρ1).bind fun y=>(dZ tg cs el ρ ds).bind fun ys=>.ok (y::ys)else dZ tg cs el ρ ds
noncomputable def kl(it:bc)(n:Nat)(fv:List Nat)(tg:bf)(cs:List aF)(el:Xt):En→R (List T):=fun ρ=>(it ρ).bind fun ds=>
 if ds.length≤da then dZ tg cs el (List.replicate n .un++frees ρ fv) ds else .bad
theorem mi{tg:bf}{cs:List aF}{el:Ex}{ρ:En}:∀ {ds ys:List D},eB tg cs el ρ ds=.ok ys→dZ tg cs (xD el) ρ ds=.ok (ys.map .d)
 |[],_,h=>by cases h;rfl
 | d::ds,ys,h=>by
   unfold eB at h
   obtain⟨ρ1,e1,h⟩:=aj.mp h
   obtain⟨t,e2,h⟩:=aj.mp h
   unfold dZ
   rw[e1,R.bg,e2,R.bg]
   cases t with
   | true=>
     rw[if_pos rfl]at h ⊢
     obtain⟨y,e3,h⟩:=aj.mp h
     obtain⟨zs,e4,h⟩:=aj.mp h
     cases h
     show((el ρ1).bind fun d=>R.ok (T.d d)).bind _=_
     rw[e3,R.bg,R.bg,mi e4];rfl
   | false=>
     rw[if_neg (by decide)]at h ⊢
     exact mi h
section
variable{M:Md}{H H':Hp}{F F':Addr→Prop}{as:List Addr}{σ:L2.St}{ρ:En}
theorem aI.wide(r:aI M H F σ ρ)(s1:ah H H')(hn:∀b∈as,H b=none)(hF:∀b,F' b↔F b∨b∈as)(ht:∀b∈as,∃u,H' b=some u):Mv F H F' H'∧aI M H' F' σ ρ:=by
 have mv:Mv F H F' H':=fun b o n e=>⟨fun f=>((hF b).mp f).elim n (fun hb=>by rw[hn b hb]at e;cases e),s1 _ _ e⟩
 refine⟨mv,⟨r.len,fun a f=>?_,fun i d e=>?_,fun i ds e=>?_,fun i ks ds e=>?_,r.bE,?_⟩⟩
 · rcases(hF a).mp f with f|f
   ·obtain⟨o,e⟩:=r.aK a f;exact⟨o,s1 _ _ e⟩
   ·exact ht a f
 ·obtain⟨v,e1,q⟩:=r.sh i d e;exact⟨v,e1,q.mv mv⟩
 ·obtain⟨a,xs,e1,f,e2,q⟩:=r.ol i ds e;exact⟨a,xs,e1,(hF a).mpr (.inl f),s1 _ _ e2,q.mv mv⟩
 ·obtain⟨a,xs,e1,f,e2,l,q⟩:=r.od i ks ds e;exact⟨a,xs,e1,(hF a).mpr (.inl f),s1 _ _ e2,l,q.mv mv⟩
 ·exact r.on.mv mv (fun j x e=>⟨e,rfl⟩) (fun j x b u e hb f hu=>⟨(hF b).mpr (.inl f),s1 _ _ hu⟩) fun j x b e hb k ok=>(r.on j x e).2.1 b hb k ok
theorem sG{X:Cx}{e:Expr}{f:Ex}(h:JE X e f):JX X e (xD f):=
 aY h fun σ H Q ⟨ρ,F,t,hr,e,q⟩=>by
   obtain⟨d,ed,e⟩:=aj.mp e
   cases e
   exact⟨ρ,F,d,hr,ed,fun v H1 s1 rv=>q v H1 F [] s1 (fun _ hb=>nomatch hb) List.nodup_nil (fun b=>by simp) (by rw[af];exact⟨rfl,rv⟩)⟩
theorem gX:∀ {vs:List D} {xs:List V} {as:List Addr},ag M H F (vs.map .d) xs as↔as=[]∧ab M H F vs xs
 |[],xs,as=>by simp only[List.map_nil,ag,ab];exact And.comm
 | v::vs,xs,as=>by
   simp only[List.map_cons,ag,ab,af]
   constructor
   · rintro⟨x,r,bs,cs,rfl,rfl,⟨rfl,h1⟩,h2⟩
     obtain⟨rfl,h3⟩:=gX.mp h2
     exact⟨rfl,x,r,rfl,h1,h3⟩
   · rintro⟨rfl,x,r,rfl,h1,h2⟩
     exact⟨x,r,[],[],rfl,rfl,⟨rfl,h1⟩,gX.mpr ⟨rfl,h2⟩⟩
theorem ag.append:∀ {ts us:List T} {xs ys:List V} {as bs:List Addr},ag M H F ts xs as→ag M H F us ys bs→ag M H F (ts++us) (xs++ys) (as++bs)
 | [],_,_,_,_,_,h,g=>by
   simp only[ag]at h
   obtain⟨rfl,rfl⟩:=h
   exact g
 | t::ts,_,_,_,_,_,h,g=>by
   simp only[ag]at h
   obtain⟨x,r,bs,cs,rfl,rfl,h1,h2⟩:=h
   rw[List.cons_append,List.cons_append,List.append_assoc]
   simp only[ag]
   exact⟨x,_,bs,_,rfl,rfl,h1,h2.append g⟩
theorem ag.len:∀ {ts:List T} {xs:List V} {as:List Addr},ag M H F ts xs as→ts.length=xs.length
 |[],xs,as,h=>by simp only[ag]at h;rw[h.1];rfl
 | t::ts,xs,as,h=>by
   simp only[ag]at h
   obtain⟨x,r,bs,cs,rfl,rfl,h1,h2⟩:=h
   simp[ag.len h2]
end
section
variable{X:Cx}{M:Md}{G H H':Hp}{F0 F F':Addr→Prop}{σ:L2.St}{ρ:En}{pos:Pos}
noncomputable def gd(n:Nat)(tg:bf):Prop:=∀d ρ ρ',tg d ρ=.ok ρ'→ρ'.length=ρ.length∧∀j:Nat,n≤j→ρ'[j]? =ρ[j]?
theorem pS{n i:Nat}(h:i<n):gd n (aM i):=fun d ρ ρ' e=>by
 cases e
 exact⟨by simp,fun j hj=>List.getElem?_set_ne (by omega)⟩
theorem se{n:Nat}:∀ {is:List Nat} {ds:List D} {ρ ρ':En},is.all (· <n)=true→cG is ds ρ=.ok ρ'→ρ'.length=ρ.length∧∀j:Nat,n≤j→ρ'[j]? =ρ[j]?
 |[],[],_,_,_,e=>by cases e;exact⟨rfl,fun _ _=>rfl⟩
 | i::is,d::ds,ρ,ρ',h,e=>by
   rw[List.all_cons,Bool.and_eq_true,decide_eq_true_eq]at h
   simp only[cG]at e
   obtain⟨h1,h2⟩:=se h.2 e
   exact⟨by rw[h1];simp,fun j hj=>by rw[h2 j hj];exact List.getElem?_set_ne (by omega)⟩
 |[],_::_,_,_,_,e=>by cases e
 |_::_,[],_,_,_,e=>by cases e
theorem xP{n:Nat}{is:List Nat}(h:is.all (· <n)=true):gd n (eP is):=fun d ρ ρ' e=>by
 unfold eP at e
 split at e
 ·exact se h e
 ·cases e
theorem aI.less{ρ':En}(r:aI M H F σ ρ)(hl:ρ'.length=ρ.length)(h:∀(j:Nat) s,ρ'[j]? =some s→s=.un∨((∃d,s=.sh d)∧ρ[j]? =some s)):aI M H F σ ρ' where
 len:=by rw[hl,r.len]
 aK:=r.aK
 sh i d e:=by
   rcases h i _ e with z|⟨_,z⟩
   ·cases z
   ·exact r.sh i d z
 ol i d e:=by
   rcases h i _ e with z|⟨⟨_,z⟩,_⟩<;>cases z
 od i k d e:=by
   rcases h i _ e with z|⟨⟨_,z⟩,_⟩<;>cases z
 bE i j a oi:=by
   rcases oi with⟨_,e⟩|⟨_,_,e⟩
   ·rcases h i _ e with z|⟨⟨_,z⟩,_⟩<;>cases z
   ·rcases h i _ e with z|⟨⟨_,z⟩,_⟩<;>cases z
 on:=.no fun i xss e=>by rcases h i _ e with z|⟨⟨_,z⟩,_⟩<;>cases z
theorem gi{ρ:En}(h:∀(j:Nat) s,ρ[j]? =some s→s=.un∨∃d,s=.sh d){i:Nat}(o:aW ρ i):False:=by
 rcases o with⟨_,e⟩|⟨_,_,e⟩
 ·rcases h i _ e with z|⟨_,z⟩<;>cases z
 ·rcases h i _ e with z|⟨_,z⟩<;>cases z
noncomputable def ent(n:Nat)(ρ:En)(fv:List Nat):En:=List.replicate n .un++frees ρ fv
theorem gR{n:Nat}{fv:List Nat}{j:Nat}{s:Slot}(h:(ent n ρ fv)[j]? =some s):s=.un∨((∃d,s=.sh d)∧n≤j∧∃i,fv[j - n]? =some i∧ρ[i]? =some s):=by
 unfold ent at h
 rw[List.getElem?_append,List.length_replicate]at h
 split at h
 · rename_i hn
   rw[List.getElem?_replicate,if_pos hn]at h
   cases h
   exact .inl rfl
 · rename_i hn
   unfold frees at h
   rw[List.getElem?_map]at h
   cases e:fv[j - n]? with
   |none=>rw[e]at h;cases h
   | some i=>
     rw[e]at h
     have hs:sS ρ[i]? =s:=by simpa using h
     subst hs
     cases hρ:ρ[i]? with
     |none=>exact .inl rfl
     | some z=>
       cases z with
       |sh d=>exact .inr ⟨⟨d,rfl⟩,by omega,i,rfl,hρ⟩
       |_=>exact .inl rfl
noncomputable def stC(n:Nat)(σ:L2.St)(fv:List Nat):L2.St:=List.replicate n none++fv.map fun i=>(σ[i]?).getD none
theorem zl{n:Nat}{fv:List Nat}(r:aI M H F σ ρ):aI M H F (stC n σ fv) (ent n ρ fv) where
 len:=by unfold stC ent frees;simp
 aK:=r.aK
 sh j d e:=by
   rcases gR e with z|⟨_,hn,i,hi,z⟩
   ·cases z
   · obtain⟨v,ev,rv⟩:=r.sh i d z
     refine⟨v,?_,rv⟩
     unfold stC
     rw[List.getElem?_append_right (by simpa using hn),List.length_replicate,List.getElem?_map,hi]
     simp[ev]
 ol j d e:=by rcases gR e with z|⟨⟨_,z⟩,_⟩<;>cases z
 od j k d e:=by rcases gR e with z|⟨⟨_,z⟩,_⟩<;>cases z
 bE j k a oj:=by
   exact(gi (fun j s e=>(gR e).imp (fun h=>h) fun h=>h.1) oj).elim
 on:=.no fun j xss e=>by rcases gR e with z|⟨⟨_,z⟩,_⟩<;>cases z
theorem mS{scope:Scope}{env:Env}:∀ {names:List (Str×NameKind)} {x:Str} {k:NameKind},(names.map fun(n,k)=>if(k==NameKind.free&&env.scope.kind==.function&&env.kindOf n==some .cell)then(n,NameKind.cell)else(n,k)).lookup x=some k→
   (k=.cell∨k=.free)→(x,NameKind.free)∈names∨(x,NameKind.cell)∈names
 |[],_,_,h,_=>by simp at h
 | (n,q)::r,x,k,h,hk=>by
   have ih:=@mS scope env r x k
   have h':List.lookup x ((if(q==NameKind.free&&env.scope.kind==.function&&env.kindOf n==some .cell)=true then(n,NameKind.cell)else(n,q))::r.map fun(n,k)=>if(k==NameKind.free&&env.scope.kind==.function&&env.kindOf n==some .cell)then(n,NameKind.cell)else(n,k))=some k:=h
   cases hx:x==n with
   | true=>
     have:=beq_iff_eq.mp hx
     subst this
     by_cases hcnd:(q==NameKind.free&&env.scope.kind==.function&&env.kindOf x==some .cell)=true
     · have:q=.free:=by
         rw[Bool.and_eq_true,Bool.and_eq_true]at hcnd
         have:=hcnd.1.1
         cases q<;>first|rfl|cases this
       subst this
       exact .inl List.mem_cons_self
     · rw[if_neg hcnd,List.lookup_cons,beq_self_eq_true]at h'
       cases h'
       rcases hk with rfl|rfl
       ·exact .inr List.mem_cons_self
       ·exact .inl List.mem_cons_self
   | false=>
     refine(ih ?_ hk).imp (List.mem_cons_of_mem _) (List.mem_cons_of_mem _)
     by_cases hcnd:(q==NameKind.free&&env.scope.kind==.function&&env.kindOf n==some .cell)=true
     ·rw[if_pos hcnd,List.lookup_cons,hx]at h';exact h'
     ·rw[if_neg hcnd,List.lookup_cons,hx]at h';exact h'
theorem mT{env:Env}:∀ {names:List (Str×NameKind)} {x:Str},names.lookup x=some .free→(names.map fun(n,k)=>if(k==NameKind.free&&env.scope.kind==.function&&env.kindOf n==some .cell)then(n,NameKind.cell)else(n,k)).lookup x=some .cell∨
   (names.map fun(n,k)=>if(k==NameKind.free&&env.scope.kind==.function&&env.kindOf n==some .cell)then(n,NameKind.cell)else(n,k)).lookup x=some .free
 |[],_,h=>by simp at h
 | (n,q)::r,x,h=>by
   show List.lookup x ((if(q==NameKind.free&&env.scope.kind==.function&&env.kindOf n==some .cell)=true then(n,NameKind.cell)else(n,q))::r.map fun(n,k)=>if(k==NameKind.free&&env.scope.kind==.function&&env.kindOf n==some .cell)then(n,NameKind.cell)else(n,k))=_∨
     List.lookup x ((if(q==NameKind.free&&env.scope.kind==.function&&env.kindOf n==some .cell)=true then(n,NameKind.cell)else(n,q))::r.map fun(n,k)=>if(k==NameKind.free&&env.scope.kind==.function&&env.kindOf n==some .cell)then(n,NameKind.cell)else(n,k))=_
   rw[List.lookup_cons]at h
   by_cases hcnd:(q==NameKind.free&&env.scope.kind==.function&&env.kindOf n==some .cell)=true
   · rw[if_pos hcnd,List.lookup_cons]
     cases hx:x==n with
     |true=>exact .inl rfl
     |false=>rw[hx]at h;exact mT h
   · rw[if_neg hcnd,List.lookup_cons]
     cases hx:x==n with
     |true=>rw[hx]at h;exact .inr h
     |false=>rw[hx]at h;exact mT h
structure g0(X:Cx)(scope:Scope)(tn fv:List Str)(fvi:List Nat):Prop where
 kind:scope.kind=.function
 cells:∀y∈scope.names,y.2=.cell→scope.names.lookup y.1=some .cell
 names:∀y∈scope.names,y.2=.local→scope.names.lookup y.1=some .local
 free:∀y∈scope.names,y.2=.free→X.env.scope.names.lookup y.1=some .cell
 sr:∀y∈scope.names,y.2=.free→scope.names.lookup y.1=some .free
 yV:∀(j:Nat) i,fvi[j]? =some i→∃x,fv[j]? =some x∧X.N[i]? =some x∧(x,NameKind.free)∈scope.names
 len:fv.length=fvi.length
theorem pj (tn fv:List Str) (fvi:List Nat) {elt iter target:Expr} {ifs:List Expr} {scope:Scope} {it:bc} {tg:bf} {cs:List aF} {el:Xt} (hxe:∀e s,¬X.xe e s) (hc:X.calm=true) (ok:g0 X scope tn fv fvi) (hi:JI X target iter it) (low:gd tn.length tg)
   (ht:∀cl C s H fp,JG (cb X scope cl C (tn++fv) s H fp) target tg) (hcs:∀cl C s H fp,i5 (cb X scope cl C (tn++fv) s H fp) ifs cs) (hel:∀cl C s H fp,JX (cb X scope cl C (tn++fv) s H fp) elt el)
   (hs:∀x,foldedSetIterable iter X.env x=pure x) {use:Option (Value→Sem Unit)} {Qc:Value→Shared→Prop} {pins:List (Addr×Obj)} {s:Shared} {all:List T} {p1:Pos} (I:Inv X pins σ H s) (hr:aI (ar X) H F σ ρ) (e:kl it tn.length fvi tg cs el ρ=.ok all)
   (hend:∀D C s4 H' vs Hq bs F2 f,(∃m,s4.heap.Ns C m)→Inv X pins σ H' s4→bY X pins H' C→ah H Hq→Hq D=none→(∀b∈bs,H b=none)→bs.Nodup→(∀b,F2 b↔F b∨b∈bs)→ag (ar X) Hq F2 all vs bs→upd Hq D (.lst vs)=H'→compPost (model X.prog X.w) X.A X.xe use Qc (.ref D) C (.ok f) s4):
   wpAny (model X.prog X.w) X.A (comprehension (.ListComp elt [⟨target,iter,ifs,0⟩] scope pos) scope X.env p1 (newList []) false (eval iter X.env) use) Qc X.xe s:=by
 obtain⟨ds,ed,e⟩:=aj.mp e
 have hlen:ds.length≤sizeLine:=by
   by_cases h:ds.length≤da
   ·exact h
   ·rw[if_neg h]at e;cases e
 rw[if_pos (show ds.length≤da from hlen)]at e
 have ey:dZ tg cs el (ent tn.length ρ fvi) ds=.ok all:=e
 obtain⟨cl,hclos,hsub,hhas⟩:=wQ (scope:=scope) (env:=X.env) (fun y hy hf=>I.ok.has y.1 (.inl (ok.free y hy hf)))
 refine wpAny_comprehension_free (gs:=[]) rfl hs hclos ok.kind ok.names ?_
 refine L2.aD (hi pins s σ H _ I ⟨ρ,F,ds,hr,ed,fun J H' sm gv=>(⟨sm,gv⟩:ah H H'∧Gives (ar X) J H' F ds)⟩) fun v s1 h1=>L2.aD h1 fun itv s2 h2=>?_
 obtain⟨ita,fp,tn',J,H2,rfl,I2,T,st2,f2,sm2,gv⟩:=h2
 have r2:=hr.same sm2
 have clt:∀x c,cl.lookup x=some c→c<s2.heap.objs.size:=fun x c h=>let⟨v,cc⟩:=I2.cell x c (hsub x c h);cc.lt
 refine wpAny_newObj_type (zc (fun x c h=>by show c<(Heap.push _ _).objs.size;rw[Heap.size_push];exact Nat.lt_succ_of_lt (clt x c h)) (fun x y c hx hy=>I2.ok.inj x y c (hsub x c hx) (hsub y c hy)) fun h₁ cells hkeep hns₁ cinj csub chas cold=>?_)
 dsimp only at hns₁ hkeep csub chas ⊢
 generalize hD:s2.heap.objs.size=D at hns₁ hkeep csub chas ⊢
 generalize hP:s2.heap.push {cls:=.type "list",dict:=none,data:=.seq ([]:List Value).toArray}=HP at hns₁ hkeep csub chas ⊢
 have hC:HP.objs.size=D+1:=by rw[←hP,Heap.size_push,hD]
 generalize hCC:HP.objs.size=C at hns₁ csub chas hC ⊢
 have lt2:∀b,b<s2.heap.objs.size→b≠C∧b≠D:=fun b hb=>by rw[hD]at hb;exact⟨by omega,by omega⟩
 have old:∀b o,s2.heap.get? b=some o→h₁.get? b=some o:=fun b o e=>hkeep b o (hP▸Heap.get?_push_of_some _ e)
 have hDC:D≠C:=by omega
 have hacc:h₁.get? D=some {cls:=.type "list",data:=.seq ([]:List Value).toArray}:=hkeep _ _ (hP▸(by rw[←hD];exact Heap.get?_push_size _ rfl))
 have nD:H2 D=none:=I2.aB.fresh (Nat.le_of_eq hD)
 have nC:H2 C=none:=I2.aB.fresh (by omega)
 have sub1:ah H2 (upd H2 D (.lst [])):=ah.bS nD _
 let X':Cx:=cb X scope cells C (tn++fv) s2 H2 fp
 have eI:∀x c,cells.lookup x=some c→∀b∈fp,c≠b:=fun x c hx b hb=>by
   rcases csub x c hx with h|⟨h,_⟩
   ·exact(f2 b hb).2.2.2.2.1 x c (hsub x c h)
   · obtain⟨o,ho,_⟩:=T.obj _ _ st2 b hb
     have:=Heap.lt_size ho
     rw[hD]at this
     exact Nat.ne_of_gt (Nat.lt_of_lt_of_le this (by omega))
 have okX:X'.Ok:=by
   have hmod:=I2.ok.mod
   refine⟨hmod,ok.kind,I2.ok.glob,I2.ok.blt,(show s2.heap.objs.size≤C by rw[hD];omega),cinj,fun x hx=>?_,fun x c hf hx=>?_,fun h=>I2.ok.hd h,I2.ok.frames,.inl rfl,fun b hb=>?_,fun b o hb=>I2.bs b o hb,Nat.le_trans I2.ok.fj I2.sz,fun b o hb hx=>?_,fun b hb hf=>?_,I2.stack,I2.sL⟩
   · have hx':(relabel scope X.env).names.lookup x=some .cell∨(relabel scope X.env).names.lookup x=some .free:=hx
     have hx2:(x,NameKind.free)∈scope.names∨(x,NameKind.cell)∈scope.names:=by
       rcases hx' with h|h
       ·exact mS (scope:=scope) h (.inl rfl)
       ·exact mS (scope:=scope) h (.inr rfl)
     by_cases hm:(x,NameKind.cell)∈scope.names
     · obtain⟨c,h5,_⟩:=chas x hm
       exact⟨c,h5⟩
     · obtain⟨c,h5⟩:=hhas x (hx2.resolve_right hm)
       exact⟨c,cold x c h5 hm⟩
   · have hf:decide ((x,NameKind.cell)∈scope.names)=true:=hf
     obtain⟨c',h5,h6⟩:=chas x (of_decide_eq_true hf)
     have hx:cells.lookup x=some c:=hx
     rw[hx]at h5
     cases h5
     show s2.heap.objs.size≤c
     rw[hD];omega
   · obtain⟨o,ho,_⟩:=T.obj _ _ st2 b hb
     exact⟨(lt2 b (Heap.lt_size ho)).1,fun x c hx=>eI x c hx b hb⟩
   · obtain⟨_,_,_,h4,_⟩:=f2 b hx
     rcases h4 with h4|h4
     ·exact I2.ok.kb b o hb h4
     ·exact absurd (Nat.lt_of_lt_of_le (Heap.lt_size hb) (Nat.le_trans I2.ok.fj h4)) (Nat.lt_irrefl _)
   · obtain⟨_,h1,h2,_⟩:=f2 b hb
     exact(List.mem_cons.mp (I2.ly b hf)).elim h1 h2
 have fpX:∀ {H':Hp},(∀b∈fp,H' b=none)→∀b∈fp,bY X' [] H' b:=fun hn b hb=>by
   obtain⟨o,ho,_⟩:=T.obj _ _ st2 b hb
   refine⟨hn b hb,(lt2 b (Heap.lt_size ho)).1,fun hf=>?_,.inl hb,fun x c hx=>eI x c hx b hb,fun p hp=>nomatch hp⟩
   obtain⟨_,h1,h2,_⟩:=f2 b hb
   exact(List.mem_cons.mp (I2.ly b hf)).elim h1 h2
 have I3:Inv X' [] (stC tn.length σ fvi) (upd H2 D (.lst [])) {s2 with heap:=h₁}:=by
   refine⟨okX,rfl,I2.bare,Un.laid old (Nat.le_of_eq hD) nD,⟨_,hns₁,fun i x v hx hv vis=>?_⟩,fun x c hx=>?_,?_,fun x c hx=>?_,fun p hp=>(nomatch hp),I2.aB.laid old (Nat.le_of_eq hD) ⟨Nat.zero_le _,[],0,.nil,hacc⟩,?_⟩
   · have hx:(tn++fv)[i]? =some x:=hx
     by_cases hn:i<tn.length
     · unfold stC at hv
       rw[List.getElem?_append_left (by simpa using hn),List.getElem?_replicate,if_pos hn]at hv
       cases hv
     · have hn':tn.length≤i:=by omega
       rw[List.getElem?_append_right hn']at hx
       unfold stC at hv
       rw[List.getElem?_append_right (by simpa using hn'),List.length_replicate,List.getElem?_map]at hv
       cases ei:fvi[i - tn.length]? with
       |none=>rw[ei]at hv;cases hv
       | some k=>
         rw[ei]at hv
         obtain⟨x',hx',hN,hf⟩:=ok.yV _ _ ei
         rw[hx]at hx'
         cases hx'
         have hv':σ[k]? =some (some v):=by
           have hv2:(σ[k]?).getD none=some v:=by simpa using hv
           cases ek:σ[k]? with
           |none=>rw[ek]at hv2;cases hv2
           |some z=>rw[ek]at hv2;exact congrArg some hv2
         obtain⟨m,hm,hl⟩:=I2.loc
         have hcell:X.env.scope.names.lookup x=some .cell:=ok.free _ hf rfl
         obtain⟨u,ru,lk⟩:=hl k x v hN hv' (.inr (.inl hcell))
         refine⟨u,ru,.inr ⟨?_,?_⟩⟩
         ·exact mT (env:=X.env) (ok.sr _ hf rfl)
         · rcases lk with⟨h1,_⟩|⟨_,c,hcc,cc⟩
           ·rw[show X.env.kindOf x=X.env.scope.names.lookup x from rfl,hcell]at h1;cases h1
           · obtain⟨c',hc'⟩:=hhas x hf
             have:=hsub x c' hc'
             rw[hcc]at this
             cases this
             refine⟨c,cold x c hc' fun hm=>?_,cc.keeps old⟩
             have h1:=ok.cells _ hm rfl
             have h2:=ok.sr _ hf rfl
             dsimp only at h1 h2
             rw[h1]at h2;cases h2
   · rcases csub x c hx with hx|⟨_,cc⟩
     · obtain⟨v,cc⟩:=I2.cell x c (hsub x c hx)
       exact⟨v,cc.keeps old⟩
     ·exact⟨_,cc⟩
   · show upd H2 D (.lst []) C=none
     rw[L2.az (Ne.symm hDC)];exact nC
   · show upd H2 D (.lst []) c=none
     rcases csub x c hx with hx|⟨hc0,_⟩
     · have h0:=I2.d8 x c (hsub x c hx)
       obtain⟨v,cc⟩:=I2.cell x c (hsub x c hx)
       rw[L2.az (lt2 c cc.lt).2];exact h0
     ·rw[L2.az (Nat.ne_of_gt (by omega))];exact I2.aB.fresh (by omega)
   · show(stC tn.length σ fvi).length=(tn++fv).length
     unfold stC;simp[ok.len]
 have hM:ar X'=ar X:=rfl
 have ent_un:∀(j:Nat) z,(ent tn.length ρ fvi)[j]? =some z→z=.un∨∃d,z=.sh d:=fun j z h=>(gR h).imp (fun h=>h) fun h=>h.1
 have ent_on:∀(j:Nat) xss,(ent tn.length ρ fvi)[j]? ≠some (.on xss):=fun j xss e=>by rcases ent_un j _ e with z|⟨_,z⟩<;>cases z
 have mvD:∀ {H'':Hp} {F':Addr→Prop} {bs:List Addr},(∀b,F' b↔F b∨b=D∨b∈bs)→(∀b∈bs,H2 b=none)→ah H2 H''→Mv F H2 F' H'':=fun hF hb sm b o n e=>⟨fun h=>((hF b).mp h).elim n (fun z=>z.elim (fun z=>by subst z;rw[nD]at e;cases e) fun z=>by rw[hb b z]at e;cases e),sm b o e⟩
 have r3:aI (ar X) (upd H2 D (.lst [])) (fun b=>F b∨b=D∨b∈([]:List Addr)) (stC tn.length σ fvi) (ent tn.length ρ fvi):=by
   have r0:=(zl (n:=tn.length) (fv:=fvi) r2)
   exact⟨r0.len,fun b f=>by
       by_cases hb:b=D
       ·subst hb;exact⟨_,L2.aV⟩
       · obtain⟨o,ho⟩:=r0.aK b (f.resolve_right fun z=>z.elim hb fun z=>nomatch z)
         exact⟨o,sub1 _ _ ho⟩,fun i d e=>let⟨v,h1,h2⟩:=r0.sh i d e;⟨v,h1,h2.mv (mvD (bs:=[]) (fun _=>Iff.rfl) (fun _ z=>nomatch z) sub1)⟩,fun i d e=>(gi ent_un (.inl ⟨_,e⟩)).elim,fun i k d e=>(gi ent_un (.inr ⟨_,_,e⟩)).elim,fun i j a o=>(gi ent_un o).elim,.no ent_on⟩
 let R0:Result→Shared→Prop:=compPost (model X.prog X.w) X.A X.xe use Qc (.ref D) C
 have loop:codeAny (model X.prog X.w) X.A (.compLoop (.ListComp elt [⟨target,iter,ifs,0⟩] scope pos) 0 (.ref ita) (.ref D) X'.env) R0 {s2 with heap:=h₁}:=by
   refine xI (fun n s'=>∃i σ' H' vs as bs F',n=ds.length - i∧i≤ds.length∧Inv X' [] σ' H' s'∧tn' i s'.heap∧(∀b∈fp,H' b=none)∧ah H2 H'∧H' D=some (.lst vs)∧vs.length≤i∧((∀b,F' b↔F b∨b=D∨b∈bs)∧(∀b∈bs,H2 b=none∧b≠D)∧bs.Nodup)∧ag (ar X) H' F' as vs bs∧
       aI (ar X) H' F' σ' (ent tn.length ρ fvi)∧∃rest,dZ tg cs el (ent tn.length ρ fvi) (ds.drop i)=.ok rest∧as++rest=all) ?_ ds.length
     ⟨0,_,_,[],[],[],_,rfl,Nat.zero_le _,I3,T.keep _ _ _ st2 fun b _ o e=>old b o e,fun b hb=>?_,sub1,L2.aV,Nat.zero_le _,⟨fun _=>Iff.rfl,fun _ z=>(nomatch z),List.nodup_nil⟩,by rw[ag];exact⟨rfl,rfl⟩,r3,all,ey,rfl⟩
   · rintro n s' ⟨i,σ',H',vs,as,bs,F',rfl,hi',I',st',fr',sm',eD,hvs,⟨hF,hbs,ndb⟩,ras,rS,rest,erest,eall⟩
     obtain⟨g1,g2⟩:=gv H' F' (mvD hF (fun b hb=>(hbs b hb).1) sm') rS.aK
     by_cases hlt:i<ds.length
     · obtain ⟨go,gy⟩:=g1 i ds[i] (by simp[hlt])
       refine L2.aD (T.item X' rfl rfl rfl hc i [] s' σ' H' _ I' (fpX fr') st' go) fun r s4 ⟨u,hr',h4⟩=>?_
       subst hr'
       refine L2.aD h4 fun _ s5 ⟨x,H5,I5,r5,y5,st5,fr5⟩=>?_
       obtain⟨s5',rx⟩:=gy x H5 y5
       rw[List.drop_eq_getElem_cons hlt]at erest
       unfold dZ at erest
       obtain⟨ρ1,eg,erest⟩:=aj.mp erest
       obtain⟨t,et,erest⟩:=aj.mp erest
       have rS5:=rS.same s5'
       have rG:aG (ar X) H2 (fun _=>False) H5 F' σ' (ent tn.length ρ fvi):=⟨rS5,sm'.trans s5',fun _ h=>h.elim,fun _ h=>h.elim,fun j a o=>(gi ent_un o).elim,fun j xss _ e=>absurd e (ent_on j xss)⟩
       have I5':Inv X' ([]++L2.iZ fp s5.heap) σ' H5 s5:=I5.pinned (fpX fr5) (T.obj _ _ st5)
       refine wpAny_mono (ht cells C s2 H2 fp (fun _=>False) _ s5 σ' H5 x u (fun σ6 H6=>H6=H5∧aG (ar X) H2 (fun _=>False) H5 F' σ6 ρ1) I5' r5 ⟨ent tn.length ρ fvi,F',ds[i],ρ1,rG,rx,eg,fun σ6 r6=>⟨rfl,r6⟩⟩) (fun _ s6 ⟨σ6,H6,I6,h6,r6⟩=>?_) (fun e s f=>(hxe e s f).elim)
       subst h6
       refine wpAny_mono (qF (X:=X') (M:=ar X) (E:=X.xe) rfl (fun _ _ h=>h) (hcs cells C s2 H2 fp) (Q:=fun b H7=>b=t∧ah H6 H7) I6 r6.rs et (fun H7 s7=>⟨rfl,s7⟩)) (fun b s7 ⟨H7,I7,hb,s7'⟩=>?_) (fun e s f=>(hxe e s f).elim)
       subst hb
       have sm7:ah H2 H7:=(sm'.trans s5').trans s7'
       have D7:H7 D=some (.lst vs):=s7' _ _ (s5' _ _ eD)
       have lowr:=low _ _ _ eg
       have back:∀ {H'':Hp} {F'':Addr→Prop},aI (ar X) H'' F'' σ6 ρ1→aI (ar X) H'' F'' σ6 (ent tn.length ρ fvi):=fun r=>r.less lowr.1.symm fun j z hz=>by
         rcases gR hz with h|⟨h,hn,_⟩
         ·exact .inl h
         ·exact .inr ⟨h,by rw[lowr.2 j hn];exact hz⟩
       have again:∀ {s8:Shared} {H8:Hp},Inv X' ([]++L2.iZ fp s5.heap) σ6 H8 s8→Inv X' [] σ6 H8 s8∧tn' (i+1) s8.heap∧∀b∈fp,H8 b=none:=fun {s8 H8} I8=>by
         refine⟨I8.lJ,T.keep _ _ _ st5 fun b hb o e=>(I8.pin (b,o) (List.mem_append_right _ (List.mem_append_right _ (L2.lq hb e)))).1,fun b hb=>?_⟩
         obtain⟨o,e,d⟩:=T.obj _ _ st5 b hb
         exact(I8.pin (b,o) (List.mem_append_right _ (List.mem_append_right _ (L2.lq hb e)))).2.1
       cases b with
       | false=>
         rw[if_neg (by decide)]at erest
         rw[if_neg (by decide)]
         obtain⟨a1,a2,a3⟩:=again I7
         exact⟨ds.length - (i+1),by omega,i+1,σ6,H7,vs,as,bs,F',rfl,hlt,a1,a2,a3,sm7,D7,by omega,⟨hF,hbs,ndb⟩,ras.mv (.same (s5'.trans s7')) (fun b _ u f hu=>⟨f,s7' _ _ (s5' _ _ hu)⟩),back (r6.rs.same s7'),rest,erest,eall⟩
       | true=>
         rw[if_pos rfl]at erest
         rw[if_pos rfl]
         obtain⟨y,ey1,erest⟩:=aj.mp erest
         obtain⟨ys1,ey2,erest⟩:=aj.mp erest
         cases erest
         refine wpAny_mono (hel cells C s2 H2 fp _ s7 σ6 H7 (fun v H8=>∃F8 as8,ah H7 H8∧(∀b∈as8,H7 b=none)∧as8.Nodup∧(∀b,F8 b↔F' b∨b∈as8)∧af (ar X) H8 F8 y v as8) I7 ⟨ρ1,F',y,r6.rs.same s7',ey1,fun v H8 F8 as8 s8 h1 h2 h3 h4=>⟨F8,as8,s8,h1,h2,h3,h4⟩⟩) (fun u2 s8 ⟨v,H8,I8,rv8,F8,as8,s8',hn8,nd8,hF8,rep8⟩=>?_) (fun e s f=>(hxe e s f).elim)
         have D8:H8 D=some (.lst vs):=s8' _ _ D7
         refine wpAny_mono (L2.y8 (X:=X') _ s8 σ6 H8 (.ref D) [v] (.ref D) [u2] (fun _ H9=>H9=upd H8 D (.lst (vs++[v]))) I8 rfl (.cons rv8 .nil) ⟨D,vs,v,rfl,rfl,D8,by omega,rfl⟩) (fun _ s9 ⟨_,H9,I9,_,h9⟩=>?_) (fun e s f=>(hxe e s f).elim)
         subst h9
         obtain⟨a1,a2,a3⟩:=again I9
         have D8n:D∉as8:=fun h=>by rw[hn8 D h]at D7;cases D7
         have fD:F8 D:=(hF8 D).mpr (.inl ((hF D).mpr (.inr (.inl rfl))))
         have mv9:Mv F8 H8 F8 (upd H8 D (.lst (vs++[v]))):=fun b o n e=>⟨n,by rw[L2.az (fun z=>by subst z;exact n fD)];exact e⟩
         have mv8:Mv F' H' F8 H8:=fun b o n e=>by
           have e7:=s7' _ _ (s5' _ _ e)
           exact⟨fun f=>((hF8 b).mp f).elim n (fun hb=>by rw[hn8 b hb]at e7;cases e7),s8' _ _ e7⟩
         have mvA:Mv F' H' F8 (upd H8 D (.lst (vs++[v]))):=Mv.trans mv8 mv9
         have apart:∀a∈bs,∀b∈as8,a≠b:=fun a ha b hb z=>by
           subst z
           obtain⟨_,u,hu⟩:=ras.fs a ha
           have:=s7' _ _ (s5' _ _ hu)
           rw[hn8 a hb]at this;cases this
         have keepB:∀b∈bs,∀u,F' b→H' b=some u→F8 b∧upd H8 D (.lst (vs++[v])) b=some u:=fun b hb u f hu=>⟨(hF8 b).mpr (.inl f),by rw[L2.az (hbs b hb).2];exact s8' _ _ (s7' _ _ (s5' _ _ hu))⟩
         have keep8:∀b∈as8,∀u,F8 b→H8 b=some u→F8 b∧upd H8 D (.lst (vs++[v])) b=some u:=fun b hb u f hu=>⟨f,by rw[L2.az (fun z=>by subst z;exact D8n hb)];exact hu⟩
         have r8:=back ((r6.rs.same s7').wide s8' hn8 hF8 (fun b hb=>(rep8.fs b hb).2)).2
         refine⟨ds.length - (i+1),by omega,i+1,σ6,_,vs++[v],as++[y],bs++as8,F8,rfl,hlt,a1,a2,a3,fun b o e=>?_,L2.aV,by simp;omega,⟨fun b=>?_,fun b hb=>?_,List.nodup_append.mpr ⟨ndb,nd8,apart⟩⟩,ag.append (ras.mv mvA keepB) ?_,?_,ys1,ey2,by rw[List.append_assoc];exact eall⟩
         ·rw[L2.az (fun z=>by subst z;rw[nD]at e;cases e)];exact s8' _ _ (sm7 _ _ e)
         ·rw[hF8 b,hF b,List.mem_append,or_assoc,or_assoc]
         · rcases List.mem_append.mp hb with hb|hb
           ·exact hbs b hb
           ·exact⟨sm7.free (hn8 b hb),fun z=>by subst z;exact D8n hb⟩
         · rw[show as8=as8++[] by simp]
           simp only[ag]
           exact⟨v,[],as8,[],rfl,rfl,rep8.mv mv9 keep8,rfl,rfl⟩
         · exact⟨r8.len,fun b f=>by
             by_cases hb:b=D
             ·subst hb;exact⟨_,L2.aV⟩
             · obtain⟨o,ho⟩:=r8.aK b f
               exact⟨o,by rw[L2.az hb];exact ho⟩,fun i d e=>let⟨v,h1,h2⟩:=r8.sh i d e;⟨v,h1,h2.mv mv9⟩,fun i d e=>(gi ent_un (.inl ⟨_,e⟩)).elim,fun i k d e=>(gi ent_un (.inr ⟨_,_,e⟩)).elim,fun i j a o=>(gi ent_un o).elim,.no ent_on⟩
     · have ei:i=ds.length:=by omega
       subst ei
       rw[List.drop_length]at erest
       cases erest
       rw[List.append_nil]at eall
       subst eall
       refine L2.aD (T.done X' rfl rfl rfl hc _ [] s' σ' H' _ I' (fpX fr') st' g2) fun r s4 ⟨hr',I4⟩=>?_
       subst hr'
       obtain⟨m,hm,_⟩:=I4.loc
       have C4:H' C=none:=I4.free
       have u4:Un (L2.bX X.stack) fp H2 H' s2.heap s4.heap:=I4.base
       have I5:Inv X pins σ H' s4:=I2.nG (s':=s4) (ch:=fp) I4.os u4 I4.aB I4.bare fun b hb=>by
         obtain⟨_,a1,a2,a3,a4,a5⟩:=f2 b hb
         exact⟨a3,a1,a4,a5⟩
       have fC:bY X pins H' C:=I2.iW (by omega) C4
       have hH:∃Hq:Hp,ah H Hq∧Hq D=none∧ag (ar X) Hq (fun b=>F b∨b∈bs) as vs bs∧upd Hq D (.lst vs)=H':=by
         refine⟨fun b=>if b=D then none else H' b,fun b o e=>?_,by simp,?_,?_⟩
         · have hb:b≠D:=fun z=>by subst z;have:=sm2 _ _ e;rw[nD]at this;cases this
           simp only[if_neg hb]
           exact sm' _ _ (sm2 _ _ e)
         · refine ras.mv (fun b o n e=>⟨fun f=>n ((hF b).mpr (f.imp id .inr)),?_⟩) fun b hb u f hu=>⟨.inr hb,?_⟩
           · have hb:b≠D:=fun z=>n ((hF b).mpr (.inr (.inl z)))
             simp only[if_neg hb]
             exact e
           · simp only[if_neg (hbs b hb).2]
             exact hu
         · funext b
           unfold upd
           by_cases hb:b=D
           ·simp only[if_pos hb];rw[hb];exact eD.symm
           ·simp only[if_neg hb]
       obtain⟨Hq,q1,q2,q3,q4⟩:=hH
       exact hend D C s4 H' vs Hq bs _ _ ⟨m,hm⟩ I5 fC q1 q2 (fun b hb=>sm2.free (hbs b hb).1) ndb (fun _=>Iff.rfl) q3 q4
   · show upd H2 D (.lst []) b=none
     obtain⟨o,ho,_⟩:=T.obj _ _ st2 b hb
     rw[L2.az (lt2 b (Heap.lt_size ho)).2]
     exact(f2 b hb).1
 exact codeAny_compStart_list loop (T.self _ 0 _ _ _ (T.keep _ _ _ st2 fun b _ o e=>old b o e) loop)
theorem yN(tn fv:List Str)(fvi:List Nat){elt iter target:Expr}{ifs:List Expr}{scope:Scope}{it:bc}{tg:bf}{cs:List aF}{el:Ex}(hxe:∀e s,¬X.xe e s)(hc:X.calm=true)(ok:g0 X scope tn fv fvi)(hi:JI X target iter it)(low:gd tn.length tg)
   (ht:∀cl C s H fp,JG (cb X scope cl C (tn++fv) s H fp) target tg) (hcs:∀cl C s H fp,i5 (cb X scope cl C (tn++fv) s H fp) ifs cs) (hel:∀cl C s H fp,JE (cb X scope cl C (tn++fv) s H fp) elt el)
   (hs:∀x,foldedSetIterable iter X.env x=pure x) {use:Option (Value→Sem Unit)} {Qc:Value→Shared→Prop} {pins:List (Addr×Obj)} {s:Shared} {all:List D} {p1:Pos} (I:Inv X pins σ H s) (hr:aI (ar X) H F σ ρ) (e:cn it tn.length fvi tg cs el ρ=.ok (.lst all))
   (hend:∀D C s4 H' vs Hq f,(∃m,s4.heap.Ns C m)→Inv X pins σ H' s4→bY X pins H' C→ah H Hq→Hq D=none→ab (ar X) Hq F all vs→upd Hq D (.lst vs)=H'→compPost (model X.prog X.w) X.A X.xe use Qc (.ref D) C (.ok f) s4):
   wpAny (model X.prog X.w) X.A (comprehension (.ListComp elt [⟨target,iter,ifs,0⟩] scope pos) scope X.env p1 (newList []) false (eval iter X.env) use) Qc X.xe s:=by
 obtain⟨ds,ed,e⟩:=aj.mp e
 have hlen:ds.length≤da:=by
   by_cases h:ds.length≤da
   ·exact h
   ·rw[if_neg h]at e;cases e
 rw[if_pos hlen]at e
 obtain⟨ys,ey,e⟩:=aj.mp e
 cases e
 refine pj (all:=all.map .d) (el:=xD el) tn fv fvi hxe hc ok hi low ht hcs (fun cl C s H fp=>sG (hel cl C s H fp)) hs I hr (by unfold kl;rw[ed,R.bg,if_pos hlen];exact mi ey) fun D C s4 H' vs Hq bs F2 f hm I5 fC q1 q2 q3 q4 q5 q6 q7=>?_
 obtain⟨rfl,rs⟩:=gX.mp q6
 exact hend D C s4 H' vs Hq f hm I5 fC q1 q2 (rs.mv fun b o n e=>⟨fun h=>n ((q5 b).mpr (.inl h)),e⟩) q7
theorem AW(tn fv:List Str)(fvi:List Nat){elt iter target:Expr}{ifs:List Expr}{scope:Scope}{it:bc}{tg:bf}{cs:List aF}{el:Ex}(hxe:∀e s,¬X.xe e s)(hc:X.calm=true)(ok:g0 X scope tn fv fvi)(hi:JI X target iter it)(low:gd tn.length tg)
   (ht:∀cl C s H fp,JG (cb X scope cl C (tn++fv) s H fp) target tg) (hcs:∀cl C s H fp,i5 (cb X scope cl C (tn++fv) s H fp) ifs cs) (hel:∀cl C s H fp,JE (cb X scope cl C (tn++fv) s H fp) elt el)
   (hs:∀x,foldedSetIterable iter X.env x=pure x):JF X (.ListComp elt [⟨target,iter,ifs,0⟩] scope pos) (cn it tn.length fvi tg cs el):=by
 intro pins s σ H Q I ⟨ρ,F,all,hr,e,q⟩
 show wpAny _ _ (comprehension (.ListComp elt [⟨target,iter,ifs,0⟩] scope pos) scope X.env _ (newList []) false (eval iter X.env) none) _ _ s
 refine yN tn fv fvi hxe hc ok hi low ht hcs hel hs I hr e fun D C s4 H' vs Hq f hm I5 fC q1 q2 q3 q4=>?_
 obtain⟨m,hm⟩:=hm
 refine⟨m,hm,fun h' hsb=>⟨.ref D,H',I5.turned (t':=s4.toks) (fun b o n e=>by rw[hsb.2 b n];exact e) fC.1 fC.2.1 fC.2.2.2.1 fC.2.2.2.2.1 fC.2.2.2.2.2,rfl,?_⟩⟩
 rw[←q4]
 exact q D Hq vs q1 q2 q3
end
section
variable{X:Cx}{M:Md}{G H H':Hp}{F0 F F':Addr→Prop}{σ:L2.St}{ρ:En}{pos:Pos}{pins:List (Addr×Obj)}{s:Shared}
theorem Bp{e:Expr}{f:Ex}(h:JF X e f)(hl:∀ρ d,f ρ=.ok d→∃ds,d=.lst ds):JE X e f:=
 aY h fun σ H Q ⟨ρ,F,d,hr,e,q⟩=>by
   obtain⟨ds,rfl⟩:=hl _ _ e
   exact⟨ρ,F,ds,hr,e,fun p H' xs sm hp rs=>q _ _ (sm.trans (ah.bS hp _)) (mq (hr.same sm).aK hp rs)⟩
theorem Bx{it:bc}{n:Nat}{fv:List Nat}{tg:bf}{cs:List aF}{el:Ex}(ρ:En)(d:D)(h:cn it n fv tg cs el ρ=.ok d):∃ds,d=.lst ds:=by
 obtain⟨ds,_,h⟩:=aj.mp h
 split at h
 · obtain⟨ys,_,h⟩:=aj.mp h
   cases h
   exact⟨_,rfl⟩
 ·cases h
noncomputable def tm(sc0:Scope)(N0:List Str)(scope:Scope)(fv:List Str)(fvi:List Nat):Bool:=
 decide (scope.kind=.function)&&scope.names.all (fun y=>(decide (y.2≠.cell)||decide (scope.names.lookup y.1=some .cell))&&(decide (y.2≠.local)||decide (scope.names.lookup y.1=some .local))&&(decide (y.2≠.free)||(decide (sc0.names.lookup y.1=some .cell)&&decide (scope.names.lookup y.1=some .free))))
   &&decide (fv.length=fvi.length)&&(fvi.zip fv).all (fun p=>decide (N0[p.1]? =some p.2)&&decide ((p.2,NameKind.free)∈scope.names))
theorem gM{scope:Scope}{tn fv:List Str}{fvi:List Nat}(sc0:Scope)(N0:List Str)(h1:X.env.scope=sc0)(h2:X.N=N0)(h:tm sc0 N0 scope fv fvi=true):g0 X scope tn fv fvi:=by
 subst h1 h2
 unfold tm at h
 rw[Bool.and_eq_true,Bool.and_eq_true,Bool.and_eq_true,decide_eq_true_eq,decide_eq_true_eq,List.all_eq_true,List.all_eq_true]at h
 obtain⟨⟨⟨hk,hn⟩,hl⟩,hf⟩:=h
 have hn':∀y∈scope.names,(y.2≠.cell∨scope.names.lookup y.1=some .cell)∧(y.2≠.local∨scope.names.lookup y.1=some .local)∧(y.2≠.free∨(X.env.scope.names.lookup y.1=some .cell∧scope.names.lookup y.1=some .free)):=fun y hy=>by
   have:=hn y hy
   simp only[Bool.and_eq_true,Bool.or_eq_true,decide_eq_true_eq]at this
   exact⟨this.1.1,this.1.2,this.2⟩
 refine⟨hk,fun y hy hl=>(hn' y hy).1.resolve_left (fun h=>h hl),fun y hy hl=>(hn' y hy).2.1.resolve_left (fun h=>h hl),fun y hy hl=>((hn' y hy).2.2.resolve_left (fun h=>h hl)).1,fun y hy hl=>((hn' y hy).2.2.resolve_left (fun h=>h hl)).2,fun j i hj=>?_,hl⟩
 obtain⟨hjl,_⟩:=List.getElem?_eq_some_iff.mp hj
 have hx:fv[j]? =some (fv[j]'(by omega)):=List.getElem?_eq_getElem (by omega)
 have hm:(i,fv[j]'(by omega))∈fvi.zip fv:=by
   refine List.mem_iff_getElem?.mpr ⟨j,?_⟩
   rw[List.getElem?_zip_eq_some]
   exact⟨hj,hx⟩
 have:=hf _ hm
 simp only[Bool.and_eq_true,decide_eq_true_eq]at this
 exact⟨_,hx,this.1,this.2⟩
theorem qq{d:D}{v:V}(f:flat d=true)(r:Rep M H F d v):L2.eQ v=true:=by
 cases d<;>first|(simp only[Rep]at r;subst r;rfl)|(cases f)
theorem rZ:∀ {ds:List D} {vs:List V},ds.all flat=true→ab M H F ds vs→vs.all L2.eQ=true
 |[],_,_,r=>by simp only[ab]at r;subst r;rfl
 | d::ds,_,f,r=>by
   rw[List.all_cons,Bool.and_eq_true]at f
   simp only[ab]at r
   obtain⟨x,t,rfl,r1,r2⟩:=r
   rw[List.all_cons,qq f.1 r1,rZ f.2 r2];rfl
theorem xw{a b:D}{x y:V}(fa:flat a=true)(fb:flat b=true)(ra:Rep M H F a x)(rb:Rep M H F b y):L2.d9 x y=bj a b:=by
 cases a<;>(try cases fa)<;>cases b<;>(try cases fb)<;>simp only[Rep]at ra rb<;>subst ra<;>subst rb<;>first|rfl|(simp only[L2.d9,bj];exact str_beq _ _)
theorem rO:∀ {ds:List D} {vs:List V} {b:D} {y:V},ds.all flat=true→flat b=true→ab M H F ds vs→Rep M H F b y→L2.kG y vs=ds.any fun d=>bj d b
 |[],_,_,_,_,_,r,_=>by simp only[ab]at r;subst r;rfl
 | d::ds,_,b,y,f,fb,r,rb=>by
   rw[List.all_cons,Bool.and_eq_true]at f
   simp only[ab]at r
   obtain⟨x,t,rfl,r1,r2⟩:=r
   show(L2.d9 x y||L2.kG y t)=(bj d b||ds.any fun d=>bj d b)
   rw[xw f.1 fb r1 rb,rO f.2 fb r2 rb]
theorem rn{ks:List Ky}{xs:List V}{ds:List D}:∀(k:Ky),ks.length=xs.length→ab M H F ds xs→(bB k ks ds=none→L2.bT (ks.zip xs) k=none)∧∀d,bB k ks ds=some d→∃v,L2.bT (ks.zip xs) k=some v∧Rep M H F d v:=by
 induction ks generalizing xs ds with
 | nil=>
   intro k hl r
   cases xs with
   |nil=>exact⟨fun _=>rfl,fun d h=>by simp[bB]at h⟩
   |cons _ _=>simp at hl
 | cons a ks ih=>
   intro k hl r
   cases xs with
   |nil=>simp at hl
   | cons x xs=>
     cases ds with
     |nil=>simp only[ab]at r;cases r
     | cons d0 ds=>
       simp only[ab]at r
       obtain⟨x',t,e,r1,r2⟩:=r
       cases e
       have ih:=ih (xs:=xs) (ds:=ds) k (by simpa using hl) r2
       have hz:(a::ks).zip (x::xs)=(a,x)::ks.zip xs:=rfl
       rw[hz]
       by_cases hk:a=k
       · subst hk
         have h1:L2.bT ((a,x)::ks.zip xs) a=some x:=by simp[L2.bT]
         refine⟨fun h=>by simp[bB]at h,fun d h=>⟨x,h1,?_⟩⟩
         simp[bB]at h
         subst h
         exact r1
       · have h1:L2.bT ((a,x)::ks.zip xs) k=L2.bT (ks.zip xs) k:=by simp[L2.bT,hk]
         rw[h1]
         refine⟨fun h=>ih.1 (by simpa[bB,hk] using h),fun d h=>ih.2 d (by simpa[bB,hk] using h)⟩
theorem gm{d:D}{k:Ky}{v:V}(h:keyOf d=some k)(r:Rep M H F d v):v=L2.kV k:=by
 cases d with
 |int i=>cases h;exact bh r
 |str x=>cases h;exact dB r
 |_=>cases h
theorem rh{a:Addr}{ks:List Ky}{ds:List D}{xs:List V}(I:Inv X pins σ H s)(h:dy (ar X) H F a (ks.zip xs))(hl:ks.length=xs.length)(rs:ab (ar X) H F ds xs)(k:Ky):
   ∃vs,s.heap.DictOf (L2.bA X.prog X.w) a vs∧(a==sysModules)=false∧(bB k ks ds=none→valueAt vs k=none)∧∀d,bB k ks ds=some d→∃v u,valueAt vs k=some u∧RelV v u∧Rep (ar X) H F d v:=by
 obtain⟨z,hd,vs,rel,dd⟩:=gF I h
 obtain⟨f1,f2⟩:=rn (M:=ar X) (H:=H) (F:=F) k hl rs
 refine⟨vs,dd,hd,fun hn=>?_,fun d hdd=>?_⟩
 ·exact L2.cR.none_of (by rw[←f1 hn];exact L2.KV.val rel k)
 · obtain⟨v,hv,rv⟩:=f2 d hdd
   obtain⟨u,hu,ru⟩:=L2.cR.some_of (v:=v) (o:=valueAt vs k) (by rw[←hv];exact L2.KV.val rel k)
   exact⟨v,u,hu,ru,rv⟩
noncomputable def rE(M:Md):R2:=fun x y H Q=>L2.lj M.K x y H Q∨∃F a b d,Rep M H F a x∧Rep M H F b y∧ja a b=.ok d∧∀v,Rep M H F d v→Q v H
theorem uY:L2.dn X (rE (ar X)):=by
 refine L2.dn.or L2.qG ?_
 intro value slice pins s σ H x y v u Q I rx ry h hs
 obtain⟨F,a,b,d,ra,rb,e,q⟩:=h
 unfold ja at e
 split at e
 · rename_i ks vs
   split at e
   · rename_i k hk
     split at e
     · rename_i d' hf
       cases e
       simp only[Rep]at ra
       obtain⟨p,xs,rfl,h1,hl,rs⟩:=ra
       cases rx
       cases gm hk rb
       obtain⟨ws,dd,hd,f1,f2⟩:=rh I h1 hl rs k
       obtain⟨w,w',hw,rw',rd⟩:=f2 _ hf
       exact PyProof.Rows.tail_any dd.typeIs PySem.F.slot_dict_getitem.lookup (wpAny_getItem_of (L2.gL ry) dd.mapOf hw ⟨w,H,I.tok _,rw',q w rd⟩) hs
     ·cases e
   ·cases e
 ·cases e
theorem xM:b7 M av (rE M):=by
 intro F H x y a b d Q tr ra rb e q
 cases a with
 |lst xs=>exact .inl (ma F H x y _ b d Q tr ra rb e q)
 |tup xs=>exact .inl (ma F H x y _ b d Q tr ra rb e q)
 |str z=>exact .inl (ma F H x y _ b d Q tr ra rb e q)
 |aA ks vs=>exact .inr ⟨F,_,b,d,ra,rb,e,fun v rv=>q v H (ah.refl H) rv⟩
 |_=>cases e
theorem w6{a b:Expr}{fa fb:Ex}(ha:JE X a fa)(hb:JE X b fb)(hs:L2.gf b:=by exact fun _ _=>rfl):JE X (.Subscript a b pos) (e2 av fa fb):=
 aY (L2.mw uY ha hb hs) fun σ H Q h=>lL xM h
noncomputable def rK(M:Md)(neg:Bool):R2:=fun x y H Q=>∃F a b k,Rep M H F a x∧Rep M H F b y∧dM a b=.ok (.bl k)∧Q (.bl (if neg then !k else k)) H
theorem vY{a b:D}{k:Bool}(h:dM a b=.ok (.bl k)):(∃ys,(b=.lst ys∨b=.tup ys)∧flat a=true∧ys.all flat=true∧k=ys.any fun y=>bj y a)∨∃ks vs q,b=.aA ks vs∧keyOf a=some q∧k=(bB q ks vs).isSome:=by
 cases b with
 | lst ys=>
   have h':(if flat a=true∧ys.all flat=true then(R.ok (D.bl (ys.any fun y=>bj y a)):R D)else .bad)=.ok (.bl k):=by cases a<;>exact h
   split at h'
   ·rename_i c;cases h';exact .inl ⟨ys,.inl rfl,c.1,c.2,rfl⟩
   ·cases h'
 | tup ys=>
   have h':(if flat a=true∧ys.all flat=true then(R.ok (D.bl (ys.any fun y=>bj y a)):R D)else .bad)=.ok (.bl k):=by cases a<;>exact h
   split at h'
   ·rename_i c;cases h';exact .inl ⟨ys,.inr rfl,c.1,c.2,rfl⟩
   ·cases h'
 | aA ks vs=>
   cases hq:keyOf a with
   |none=>cases a<;>simp[hq]at h
   | some q=>
     refine .inr ⟨ks,vs,q,rfl,rfl,?_⟩
     cases a<;>simp[hq]at h<;>exact h.symm
 |str y=>cases a<;>simp at h
 |_=>cases a<;>simp at h
theorem m5(hu:X.A.units+64<cLine):aN X (compareOp .In) (rK (ar X) false):=by
 intro pins s σ H x y v u Q I rx ry h
 obtain⟨F,a,b,k,ra,rb,e,q⟩:=h
 rcases vY e with⟨ys,hb,fa,fs,rfl⟩|⟨ks,vs,q',rfl,hq,rfl⟩
 · have:∃p xs,y=.ref p∧(aT X.K H p xs∨aX X.K H p xs)∧ab (ar X) H F ys xs:=by
     rcases hb with rfl|rfl
     ·simp only[Rep]at rb;obtain⟨p,xs,e,h1,h2⟩:=rb;exact⟨p,xs,e,.inl h1.sq,h2⟩
     ·simp only[Rep]at rb;obtain⟨p,xs,e,h1,h2⟩:=rb;exact⟨p,xs,e,.inr h1.sq,h2⟩
   obtain⟨p,xs,rfl,hs,rs⟩:=this
   refine L2.Az pins s σ H x (.ref p) v u Q I rx ry ⟨p,xs,rfl,hs,qq fa ra,rZ fs rs,?_⟩
   rw[rO fs fa rs ra]
   exact q
 · simp only[Rep]at rb
   obtain⟨p,xs,rfl,h1,hl,rs⟩:=rb
   cases ry
   cases gm hq ra
   obtain⟨ws,dd,hd,f1,f2⟩:=rh I h1 hl rs q'
   refine wpAny_in_of (L2.gL rx) hd dd.mapOf ?_
   cases hf:bB q' ks vs with
   |none=>rw[f1 hf];rw[hf]at q;exact⟨.bl _,H,I.tok _,rfl,q⟩
   |some d=>obtain⟨_,w,hw,_⟩:=f2 d hf;rw[hw];rw[hf]at q;exact⟨.bl _,H,I.tok _,rfl,q⟩
theorem uR{a b d:D}(h:dM a b=.ok d):∃k,d=.bl k:=by
 cases b with
 | lst ys=>
   have h':(if flat a=true∧ys.all flat=true then(R.ok (D.bl (ys.any fun y=>bj y a)):R D)else .bad)=.ok d:=by cases a<;>exact h
   split at h'<;>cases h'
   exact⟨_,rfl⟩
 | tup ys=>
   have h':(if flat a=true∧ys.all flat=true then(R.ok (D.bl (ys.any fun y=>bj y a)):R D)else .bad)=.ok d:=by cases a<;>exact h
   split at h'<;>cases h'
   exact⟨_,rfl⟩
 | aA ks vs=>
   cases hq:keyOf a with
   |none=>cases a<;>simp[hq]at h
   |some q=>cases a<;>simp[hq]at h<;>exact⟨_,h.symm⟩
 |str y=>cases a<;>simp at h
 |_=>cases a<;>simp at h
theorem mC:b7 M dM (rK M false):=by
 intro F H x y a b d Q tr ra rb e q
 obtain⟨k,rfl⟩:=uR e
 exact⟨F,a,b,k,ra,rb,e,q _ _ (ah.refl _) cO⟩
end
section
variable{X:Cx}{M:Md}{G H H':Hp}{F0 F F':Addr→Prop}{σ:L2.St}{ρ:En}{pos:Pos}{pins:List (Addr×Obj)}{s:Shared}
theorem qN:∀ {ds:List D} {d:D},allB ds=.ok d→∃bs:List Bool,ds=bs.map D.bl∧d=.bl (bs.all id)
 |[],d,h=>by cases h;exact⟨[],rfl,rfl⟩
 | x::ds,d,h=>by
   cases x with
   | bl b=>
     obtain⟨z,hz,h⟩:=aj.mp h
     obtain⟨bs,rfl,rfl⟩:=qN hz
     cases h
     exact⟨b::bs,rfl,rfl⟩
   |_=>cases h
theorem o8:∀ {bs:List Bool} {xs:List V},ab M H F (bs.map D.bl) xs→xs=bs.map V.bl
 |[],_,r=>by simpa[ab] using r
 | b::bs,_,r=>by
   simp only[List.map_cons,ab]at r
   obtain⟨x,t,rfl,h1,h2⟩:=r
   rw[o8 h2,eU h1];rfl
theorem o6:∀ {bs:List Bool} {us:List Value},Vals (bs.map V.bl) us→us=bs.map Value.bool
 |[],_,.nil=>rfl
 |b::bs,_,.cons r t=>by cases r;rw[o6 t];rfl
theorem all_range(bs:List Bool):((List.range bs.length).drop 0).all (fun i=>bs.getD i false)=bs.all id:=by
 rw[List.drop_zero]
 induction bs with
 |nil=>rfl
 | cons b bs ih=>
   rw[List.length_cons,List.range_succ_eq_map,List.all_cons,List.all_map,List.all_cons, ←ih]
   rfl
theorem tw(hc:X.calm=true):aZ X (.builtin "all") (fun xs H Q=>∃(F:Addr→Prop) (p:Addr) (bs:List Bool),xs=[.ref p]∧Rep (ar X) H F (.lst (bs.map D.bl)) (.ref p)∧Q (.bl (bs.all id)) H):=by
 intro pins s σ H xs us Q I r h
 obtain⟨F,p,bs,rfl,rp,q⟩:=h
 obtain⟨u,rfl,ru⟩:=L2.vals1 r
 cases ru
 simp only[Rep]at rp
 obtain⟨p',xs,e,hl,rs⟩:=rp
 cases e
 obtain⟨its,rv,pl,hz⟩:=I.list hl.sq
 cases o8 rs
 cases o6 rv
 have hh:X.A.in1.in1.handled=none:=I.ok.hd hc
 have hlt:p<s.heap.objs.size:=by obtain⟨o,n,e,_⟩:=pl;exact Heap.lt_size e
 refine call_function_tree PySem.F.kind_all PySem.F.plain_all PySem.F.entry_all (PySem.F.args_all1 _) ?_
 show wpAny _ _ (pyIter (.ref p) >>= _) _ _ s
 refine wpAny_bind (wpAny_pyIter_list pl.isList (wpAny_pure ⟨plainId_quiet PySem.F.plain_all_loop _,?_⟩))
 have hsz:((bs.map Value.bool).toArray).size=bs.length:=by simp
 have W:=Walks.list (prog:=X.prog) (w:=X.w) (A:=X.A.in1) (I.ok.hd hc) s.heap.objs.size p (Nat.ne_of_lt hlt) (bs.map Value.bool).toArray
 rw[hsz]at W
 refine codeAny_all_loop (A:=X.A) W (fun i=>bs.getD i false) (fun i v s' Q' E' hP hQ=>?_) (bs.length - 0) 0 _ rfl (Nat.zero_le _) ⟨⟨_,Heap.get?_push_size _ rfl,rfl,rfl⟩,Heap.IsList.push pl.isList _⟩ (fun h' tk hk=>?_)
 · have hP:(bs.map Value.bool).toArray[i]? =some v:=hP
   have hQ:Q' (bs.getD i false) s':=hQ
   have:∃b,v=.bool b∧bs.getD i false=b:=by
     rw[List.getElem?_toArray,List.getElem?_map]at hP
     cases e:bs[i]? with
     |none=>rw[e]at hP;cases hP
     |some b=>rw[e]at hP;cases hP;exact⟨b,rfl,by simp[e]⟩
   obtain⟨b,rfl,hb⟩:=this
   rw[hb]at hQ
   exact wpAny_truthy_bool hQ
 · show EP X pins σ Q _ _
   rw[all_range]
   have I1:Inv X pins σ H {s with heap:=s.heap.push {cls:=.type "list_iterator",data:=.fields #[.ref p,.int 0 0]} }:=I.kept (t':=s.toks) fun b o e=>Heap.get?_push_of_some _ e
   have fp:=I.iW (H':=H) (b:=s.heap.objs.size) (Nat.le_refl _) (I.aB.fresh (Nat.le_refl _))
   obtain⟨f0,f1,f2,f3,f4,f5⟩:=fp
   exact⟨.bl _,H,I1.turned (it:=s.heap.objs.size) (t':=tk) (fun b o hb e=>hk b o (by simpa using hb) e) f0 f1 f3 f4 f5,rfl,q⟩
theorem sj:dJ M (g1 gw) (fun xs H Q=>∃(F:Addr→Prop) (p:Addr) (bs:List Bool),xs=[.ref p]∧Rep M H F (.lst (bs.map D.bl)) (.ref p)∧Q (.bl (bs.all id)) H):=by
 intro F H xs as d Q tr rs e q
 unfold g1 at e
 split at e
 · obtain⟨x,rfl,r⟩:=rs.one
   unfold gw at e
   split at e
   · obtain⟨bs,rfl,rfl⟩:=qN e
     have r':=r
     simp only[Rep]at r
     obtain⟨p,ys,rfl,_⟩:=r
     exact⟨F,p,bs,rfl,r',q _ _ (ah.refl _) cO⟩
   ·cases e
 ·cases e
end
section
variable{prog:Program}{w:World}{A:Around}{E:Value→Shared→Prop}{s:Shared}
theorem ud{it t:Addr}{i:Nat}{items:Array Value}{x:Value}{Q:Value→Shared→Prop}(hit:s.heap.IsTupleIter it t i)(ht:s.heap.IsTuple t items)(hx:items[i]? =some x)
   (hQ:∀h',h'.IsTupleIter it t (i+1)→Heap.SameBut it s.heap h'→Q x {s with heap:=h'}):wpAny (model prog w) A (Builtin.SmallTypes.nextOf (.ref it)) Q E s:=by
 obtain⟨oi,hoi,hci,hdi⟩:=id hit
 obtain⟨ot,hot,_,nt,hdt⟩:=ht
 unfold Builtin.SmallTypes.nextOf
 refine wpAny_bind (wpAny_callSpecial?_slot (name:=Str.ofString "__next__") hit.typeIs PySem.F.slot_tuple_iterator_next (wpAny_call_entry PySem.F.slot_tuple_iterator_next hit.typeIs PySem.F.entry_tuple_iterator_next ?_ (PySem.F.args_tuple_iterator_next_1 _)))
 show wpAny _ _ (PySem.field (.ref it) 0 >>= _) _ _ s;refine wpAny_bind (wpAny_field hoi hdi (x:=.ref t) rfl ?_)
 show wpAny _ _ (if(Value.ref t==Value.none)=true then _ else _) _ _ s;rw[if_neg (show ¬((Value.ref t==Value.none)=true)from Bool.false_ne_true)]
 show wpAny _ _ (PySem.field (.ref it) 1 >>= _) _ _ s;refine wpAny_bind (wpAny_field hoi hdi (x:=.int i 0) rfl ?_)
 show wpAny _ _ (seqItems? (.ref t) >>= _) _ _ s;refine wpAny_bind (wpAny_seqItems hot hdt ?_)
 simp only[Int.toNat_natCast,hx]
 exact wpAny_bind (wpAny_setField hoi hdi (by simp) (wpAny_pure ⟨x,rfl,wpAny_pure (hQ _ ⟨_,Heap.get?_update_self _ hoi (Obj.isFreed_of_fields (Obj.data_mapFields hdi _)),(Obj.cls_mapFields ..).trans hci,by rw[Obj.data_mapFields hdi];simp[rawInt]⟩ (Heap.SameBut.update ..))⟩))
theorem BB{it t:Addr}{i:Nat}{items:Array Value}{Q:Value→Shared→Prop}(hh:A.handled=none)(hit:s.heap.IsTupleIter it t i)(ht:s.heap.IsTuple t items)(hx:items[i]? =none)
   (hE:∀h' e,Heap.ExtBut it s.heap h'→(∃o,h'.get? e=some o∧o.cls=.type "StopIteration")→E (.ref e) {s with heap:=h'}):wpAny (model prog w) A (Builtin.SmallTypes.nextOf (.ref it)) Q E s:=by
 obtain⟨oi,hoi,hci,hdi⟩:=id hit
 obtain⟨ot,hot,_,nt,hdt⟩:=ht
 unfold Builtin.SmallTypes.nextOf
 refine wpAny_bind (wpAny_callSpecial?_slot (name:=Str.ofString "__next__") hit.typeIs PySem.F.slot_tuple_iterator_next (wpAny_call_entry PySem.F.slot_tuple_iterator_next hit.typeIs PySem.F.entry_tuple_iterator_next ?_ (PySem.F.args_tuple_iterator_next_1 _)))
 show wpAny _ _ (PySem.field (.ref it) 0 >>= _) _ _ s;refine wpAny_bind (wpAny_field hoi hdi (x:=.ref t) rfl ?_)
 show wpAny _ _ (if(Value.ref t==Value.none)=true then _ else _) _ _ s;rw[if_neg (show ¬((Value.ref t==Value.none)=true)from Bool.false_ne_true)]
 show wpAny _ _ (PySem.field (.ref it) 1 >>= _) _ _ s;refine wpAny_bind (wpAny_field hoi hdi (x:=.int i 0) rfl ?_)
 show wpAny _ _ (seqItems? (.ref t) >>= _) _ _ s;refine wpAny_bind (wpAny_seqItems hot hdt ?_)
 simp only[Int.toNat_natCast,hx]
 refine wpAny_bind (wpAny_rule (wpAny_bind (wpAny_setField hoi hdi (by simp) ?_)))
 show wpAny _ _ (newExc (.type "StopIteration") [] >>= _) _ _ _;refine wpAny_bind ?_
 simp only[newExc,newTuple]
 refine wpAny_bind (wpAny_newObj_type (wpAny_bind (m:=firstArgMember _ _) (wpAny_of_eq (a:=Value.none) (by first|rfl|(simp only[firstArgMember];rfl)) (wpAny_newObj_type ?_ (by size_fits)))) (by size_fits))
 simp only[raiseNew]
 refine wpAny_bind (wpAny_handled ?_)
 first|rw[show A.in1.handled=none from hh]|rw[hh]
 exact wpAny_bind (wpAny_pure (wpAny_throw (hE _ _ (((Heap.SameBut.update ..).extBut.push _).push _) ⟨_,Heap.get?_push_size _ rfl,rfl⟩)))
end
theorem uq{prog:Program}{w:World}{A:Around}(hh:A.handled=none)(it l:Addr)(hne:l≠it)(items:Array Value):
   Draws prog w A it [it,l] items.size (fun i v=>items[i]? =some v) (fun i h=>h.IsTupleIter it l i∧h.IsTuple l items) where
 live _ _ st:=let⟨o,ho,_⟩:=st.1;⟨o,ho⟩
 frame _ _ _ st hk:=⟨let⟨o,ho,r⟩:=st.1;⟨o,hk it (by simp) o ho,r⟩,let⟨o,ho,r⟩:=st.2;⟨o,hk l (by simp) o ho,r⟩⟩
 item i s Q E hi st hQ:=ud st.1 st.2 (x:=items[i]) (by simp[hi]) fun h' hit' hs'=>hQ _ h' s.toks (by simp[hi]) ⟨hit',let⟨o,ho,r⟩:=st.2;⟨o,hs'.extBut l o hne ho,r⟩⟩ hs'
 done s Q E st hE:=BB hh st.1 st.2 (by simp) hE
structure kK(z TI TO i1 i2:Addr)(f1 f2:List Addr):Prop where
 TIz:TI≠z
 TOz:TO≠z
 i1z:i1≠z
 i2z:i2≠z
 TITO:TI≠TO
 TIi1:TI≠i1
 TIi2:TI≠i2
 TOi1:TO≠i1
 TOi2:TO≠i2
 i12:i1≠i2
 lu:z∉f1
 pP:TO∉f1
 vW:i2∉f1
 nY:z∉f2
 oB:TO∉f2
 pb:i1∉f2
section
variable{prog:Program}{w:World}{A:Around}{E:Value→Shared→Prop}{s:Shared}{z TI TO i1 i2:Addr}{f1 f2:List Addr}{n1 n2 k:Nat}{P1 P2:Nat→Value→Prop}{S1 S2:Nat→Heap→Prop}{a b:Value}
theorem fr_but{prog:Program}{w:World}{A:Around}{it:Addr}{fp:List Addr}{n:Nat}{P:Nat→Value→Prop}{St:Nat→Heap→Prop}(D:Draws prog w A it fp n P St){i:Nat}{c:Addr}{h h':Heap}(st:St i h)(hc:c∉fp)(hs:Heap.SameBut c h h'):St i h':=
 D.frame i h h' st fun b hb o e=>hs.extBut b o (fun q=>hc (by rw[←q];exact hb)) e
theorem zO(D1:Draws prog w A i1 f1 n1 P1 S1)(D2:Draws prog w A i2 f2 n2 P2 S2)(ap:kK z TI TO i1 i2 f1 f2)(hz:IsZip s.heap z TI TO .none)(hTI:IsPair s.heap TI (.ref i1) (.ref i2))(hTO:IsPair s.heap TO a b)
   (bo:S1 k s.heap) (st2:S2 k s.heap) (h1:k<n1) (h2:k<n2) {Q:Value→Shared→Prop}
   (hQ:∀x y h' tk,P1 k x→P2 k y→IsZip h' z TI TO (rawInt s.heap.objs.size)→IsPair h' TO x y→S1 (k+1) h'→S2 (k+1) h'→IsPair h' s.heap.objs.size x y→
     (∀c o,c≠z→c≠TO→c≠i1→c≠i2→s.heap.get? c=some o→h'.get? c=some o)→Q (.ref s.heap.objs.size) {s with heap:=h',toks:=tk}):
   wpAny (model prog w) A (Builtin.«zip.__next__» ⟨[.ref z],[]⟩) (fun fin s'=>∃v,fin=.done (.ret v)∧Q v s') E s:=by
 show wpAny _ _ (PySem.field (.ref z) 2 >>= _) _ _ _;refine wpAny_bind (wpAny_field hz rfl (x:=.bool false) rfl ?_)
 show wpAny _ _ (PySem.field (.ref z) 3 >>= _) _ _ _;refine wpAny_bind (wpAny_field hz rfl (x:=.ref TI) rfl (wpAny_bind (wpAny_seqItems hTI rfl ?_)))
 show wpAny _ _ (Builtin.SmallTypes.ownedTupleIsFree (.ref z) >>= _) _ _ _;refine wpAny_bind ?_
 unfold Builtin.SmallTypes.ownedTupleIsFree
 refine wpAny_bind (wpAny_field hz rfl (x:=.none) rfl (wpAny_pure ?_));simp only[if_true]
 refine wpAny_bind (wpAny_rule (wpAny_bind (wpAny_field hz rfl (x:=.ref TO) rfl (wpAny_bind (wpAny_setField_rec hz (by simp) fun ha hza hsa=>?_)))))
 replace hza:IsZip ha z TI TO .ellipsis:=hza
 refine wpAny_bind ?_
 simp only[List.zipIdx_cons,List.zipIdx_nil,List.forIn_cons,List.forIn_nil]
 refine wpAny_bind (wpAny_bind (wpAny_onRaise ?_));show wpAny _ _ (Builtin.SmallTypes.nextOf (.ref i1) >>= _) _ _ _
 refine wpAny_bind (D1.item k _ _ _ h1 (fr_but D1 bo ap.lu hsa) fun x hb tb px sb1 hsb=>wpAny_pure ?_)
 have hTOb:IsPair hb TO a b:=hsb.extBut _ _ ap.TOi1 (hsa.extBut _ _ ap.TOz hTO)
 refine wpAny_bind (wpAny_seqItems hTOb rfl (wpAny_bind (wpAny_updateSeq_pair hTOb fun hc hTOc hsc=>?_)))
 replace hTOc:IsPair hc TO x b:=hTOc
 refine wpAny_bind (wpAny_letGo (wpAny_pure (wpAny_bind (wpAny_bind (wpAny_onRaise ?_)))));show wpAny _ _ (Builtin.SmallTypes.nextOf (.ref i2) >>= _) _ _ _
 refine wpAny_bind (D2.item k _ _ _ h2 (fr_but D2 (fr_but D2 (fr_but D2 st2 ap.nY hsa) ap.pb hsb) ap.oB hsc) fun y hd td py sd2 hsd=>wpAny_pure ?_)
 have hTOd:IsPair hd TO x b:=hsd.extBut _ _ ap.TOi2 hTOc
 refine wpAny_bind (wpAny_seqItems hTOd rfl (wpAny_bind (wpAny_updateSeq_pair hTOd fun he hTOe hse=>?_)))
 replace hTOe:IsPair he TO x y:=hTOe
 refine wpAny_bind (wpAny_letGo (wpAny_pure (wpAny_pure (wpAny_bind (wpAny_seqItems hTOe rfl (wpAny_bind (wpAny_newTuple ?_)))))))
 have hsz:he.objs.size=s.heap.objs.size:=by rw[hse.1,hsd.1,hsc.1,hsb.1,hsa.1]
 have hze:IsZip he z TI TO .ellipsis:=hse.extBut _ _ ap.TOz.symm (hsd.extBut _ _ ap.i2z.symm (hsc.extBut _ _ ap.TOz.symm (hsb.extBut _ _ ap.i1z.symm hza)))
 have hke:∀c o,c≠z→c≠TO→c≠i1→c≠i2→s.heap.get? c=some o→he.get? c=some o:=fun c o c1 c2 c3 c4 e=>hse.extBut _ _ c2 (hsd.extBut _ _ c4 (hsc.extBut _ _ c2 (hsb.extBut _ _ c3 (hsa.extBut _ _ c1 e))))
 have s1e:S1 (k+1) he:=fr_but D1 (fr_but D1 (fr_but D1 sb1 ap.pP hsc) ap.vW hsd) ap.pP hse
 have s2e:S2 (k+1) he:=fr_but D2 sd2 ap.oB hse
 have hzlt:z<he.objs.size:=Heap.lt_size hze
 show wpAny _ _ (Builtin.SmallTypes.ownedTupleHandOut (.ref z) (.ref he.objs.size) >>= _) _ _ _
 refine wpAny_bind ?_
 unfold Builtin.SmallTypes.ownedTupleHandOut
 have hzf:IsZip (he.push {cls:=.type "tuple",data:=.seq #[x,y]}) z TI TO .ellipsis:=Heap.get?_push_of_some _ hze
 refine wpAny_bind (wpAny_setField_rec hzf (by simp) fun hg hzg hsg=>?_)
 replace hzg:IsZip hg z TI TO (rawInt he.objs.size):=hzg
 refine wpAny_setField_rec hzg (by simp) fun hi hzi hsi=>?_
 replace hzi:IsZip hi z TI TO (rawInt he.objs.size):=hzi
 have up:∀c o,c≠z→he.get? c=some o→hi.get? c=some o:=fun c o c1 e=>hsi.extBut _ _ c1 (hsg.extBut _ _ c1 (Heap.get?_push_of_some _ e))
 have hTi:IsPair hi he.objs.size x y:=hsi.extBut _ _ (Nat.ne_of_gt hzlt) (hsg.extBut _ _ (Nat.ne_of_gt hzlt) (Heap.get?_push_size _ rfl))
 rw[hsz]at hzi hTi
 refine wpAny_pure ⟨_,rfl,?_⟩
 show Q (.ref he.objs.size) _
 rw[hsz]
 exact hQ x y hi td px py hzi (up _ _ ap.TOz hTOe) (D1.frame _ _ _ s1e fun c hc' o e=>up c o (fun q=>ap.lu (by rw[←q];exact hc')) e) (D2.frame _ _ _ s2e fun c hc' o e=>up c o (fun q=>ap.nY (by rw[←q];exact hc')) e) hTi
   fun c o c1 c2 c3 c4 e=>up c o c1 (hke c o c1 c2 c3 c4 e)
theorem ug(D1:Draws prog w A i1 f1 n1 P1 S1)(D2:Draws prog w A i2 f2 n2 P2 S2)(ap:kK z TI TO i1 i2 f1 f2)(hz:IsZip s.heap z TI TO .none)(hTI:IsPair s.heap TI (.ref i1) (.ref i2))(hTO:IsPair s.heap TO a b)
   (bo:S1 k s.heap) (st2:S2 k s.heap) (hend:k=n1∨(k<n1∧k=n2)) {Q:Fin→Shared→Prop}
   (hE:∀h' tk e,(∀c o,c≠z→c≠TO→c≠i1→c≠i2→s.heap.get? c=some o→h'.get? c=some o)→(∃o,h'.get? e=some o∧o.cls=.type "StopIteration")→E (.ref e) {s with heap:=h',toks:=tk}):
   wpAny (model prog w) A (Builtin.«zip.__next__» ⟨[.ref z],[]⟩) Q E s:=by
 show wpAny _ _ (PySem.field (.ref z) 2 >>= _) _ _ _;refine wpAny_bind (wpAny_field hz rfl (x:=.bool false) rfl ?_)
 show wpAny _ _ (PySem.field (.ref z) 3 >>= _) _ _ _;refine wpAny_bind (wpAny_field hz rfl (x:=.ref TI) rfl (wpAny_bind (wpAny_seqItems hTI rfl ?_)))
 show wpAny _ _ (Builtin.SmallTypes.ownedTupleIsFree (.ref z) >>= _) _ _ _;refine wpAny_bind ?_
 unfold Builtin.SmallTypes.ownedTupleIsFree
 refine wpAny_bind (wpAny_field hz rfl (x:=.none) rfl (wpAny_pure ?_));simp only[if_true]
 refine wpAny_bind (wpAny_rule (wpAny_bind (wpAny_field hz rfl (x:=.ref TO) rfl (wpAny_bind (wpAny_setField_rec hz (by simp) fun ha hza hsa=>?_)))))
 replace hza:IsZip ha z TI TO .ellipsis:=hza
 refine wpAny_bind ?_
 simp only[List.zipIdx_cons,List.zipIdx_nil,List.forIn_cons,List.forIn_nil]
 refine wpAny_bind (wpAny_bind (wpAny_onRaise ?_));show wpAny _ _ (Builtin.SmallTypes.nextOf (.ref i1) >>= _) _ _ _
 rcases hend with rfl|⟨h1,rfl⟩
 · refine wpAny_bind (D1.done _ _ _ (fr_but D1 bo ap.lu hsa) fun hb e hsb he=>?_)
   obtain⟨oe,hoe,hce⟩:=he
   have hzb:IsZip hb z TI TO .ellipsis:=hsb _ _ ap.i1z.symm hza
   have hez:e≠z:=fun x=>by subst x;rw[hzb]at hoe;cases hoe;simp at hce
   exact wpAny_setField_rec hzb (by simp) fun hc _ hsc=>hE hc _ e (fun c o c1 _ c3 _ x=>hsc.extBut _ _ c1 (hsb _ _ c3 (hsa.extBut _ _ c1 x))) ⟨oe,hsc.extBut _ _ hez hoe,hce⟩
 · refine wpAny_bind (D1.item k _ _ _ h1 (fr_but D1 bo ap.lu hsa) fun x hb tb px sb1 hsb=>wpAny_pure ?_)
   have hTOb:IsPair hb TO a b:=hsb.extBut _ _ ap.TOi1 (hsa.extBut _ _ ap.TOz hTO)
   refine wpAny_bind (wpAny_seqItems hTOb rfl (wpAny_bind (wpAny_updateSeq_pair hTOb fun hc hTOc hsc=>?_)))
   refine wpAny_bind (wpAny_letGo (wpAny_pure (wpAny_bind (wpAny_bind (wpAny_onRaise ?_)))));show wpAny _ _ (Builtin.SmallTypes.nextOf (.ref i2) >>= _) _ _ _
   refine wpAny_bind (D2.done _ _ _ (fr_but D2 (fr_but D2 (fr_but D2 st2 ap.nY hsa) ap.pb hsb) ap.oB hsc) fun hd e hsd he=>?_)
   obtain⟨oe,hoe,hce⟩:=he
   have hzd:IsZip hd z TI TO .ellipsis:=hsd _ _ ap.i2z.symm (hsc.extBut _ _ ap.TOz.symm (hsb.extBut _ _ ap.i1z.symm hza))
   have hez:e≠z:=fun x=>by subst x;rw[hzd]at hoe;cases hoe;simp at hce
   exact wpAny_setField_rec hzd (by simp) fun hf _ hsf=>hE hf _ e (fun c o c1 c2 c3 c4 x=>hsf.extBut _ _ c1 (hsd _ _ c4 (hsc.extBut _ _ c2 (hsb.extBut _ _ c3 (hsa.extBut _ _ c1 x))))) ⟨oe,hsf.extBut _ _ hez hoe,hce⟩
end
inductive Sd where
 |l (a:Addr)|t (a:Addr)|s (z:Str)
noncomputable def Sd.at(K:PySem.W.Frag)(H:Hp):Sd→List V→Prop
 |.l a,xs=>aT K H a xs
 |.t a,xs=>aX K H a xs
 |.s z,xs=>xs=z.cps.toList.map fun c=>.str ⟨#[c]⟩
noncomputable def Sd.val:Sd→Tok→Value
 |.l a,_=>.ref a
 |.t a,_=>.ref a
 |.s z,tk=>.str z tk
noncomputable def Sd.obj:Sd→Tok→Obj
 |.l a,_=>{cls:=.type "list_iterator",data:=.fields #[.ref a,.int 0 0]}
 |.t a,_=>{cls:=.type "tuple_iterator",data:=.fields #[.ref a,.int 0 0]}
 |.s z,tk=>{cls:=.type (if z.cps.all (· <128)then "str_ascii_iterator" else "str_iterator"),data:=.fields #[.str z tk,.int 0 0]}
noncomputable def Sd.ft(it:Addr)(i:Nat)(h:Heap)(tk:Tok):Sd→Prop
 |.l a=>h.IsListIter it a i
 |.t a=>h.IsTupleIter it a i
 |.s z=>h.IsStrIter it (if z.cps.all (· <128)then "str_ascii_iterator" else "str_iterator") z tk i
section
variable{X:Cx}{pins:List (Addr×Obj)}{σ:L2.St}{H:Hp}{s:Shared}{d:Sd}{xs:List V}
theorem Sd.inj(I:Inv X pins σ H s){ys:List V}(h:d.at X.K H xs)(h':d.at X.K H ys):xs=ys:=by
 cases d with
 |l a=>exact I.o9 h h'
 |t a=>exact I.rV h h'
 |s z=>exact h.trans h'.symm
theorem Sd.draws{it:Addr}{tk:Tok}{A:Around}(I:Inv X pins σ H s)(hh:A.handled=none)(h:d.at X.K H xs)(hn:H it=none)(hK:X.K.lookup it=none):
   ∃(fp:List Addr) (P:Nat→Value→Prop) (St:Nat→Heap→Prop),Draws X.prog X.w A it fp xs.length P St∧(∀i x,P i x→∃v,xs[i]? =some v∧RelV v x)∧(∀i h',St i h'→d.ft it i h' tk)∧(∀i,d.ft it i s.heap tk→St i s.heap)∧
     (∀c∈fp,c=it∨(H c≠none∨∃o,X.K.lookup c=some o)):=by
 have nl:∀a:Addr,(H a≠none∨∃o,X.K.lookup a=some o)→a≠it:=fun a h z=>by
   subst z
   rcases h with h|⟨o,h⟩
   ·exact h hn
   ·rw[hK]at h;cases h
 cases d with
 | l a=>
   obtain⟨its,rv,pl,hz⟩:=I.list h
   have tr:H a≠none∨∃o,X.K.lookup a=some o:=by
     rcases h with(h|⟨o,h⟩)|⟨o,_,_,h,_⟩
     ·exact .inl (by rw[h];simp)
     ·exact .inl (by rw[h];simp)
     ·exact .inr ⟨o,h⟩
   have D:=Draws.list (prog:=X.prog) (w:=X.w) (A:=A) hh it a (nl a tr) its.toArray
   rw[List.size_toArray, ←rv.length]at D
   refine⟨_,_,_,D,fun i x hx=>?_,fun i h' st=>st.1,fun i st=>⟨st,pl.isList⟩,fun c hc=>?_⟩
   · have hx:its[i]? =some x:=by simpa using hx
     have hi:i<xs.length:=by rw[rv.length];exact(List.getElem?_eq_some_iff.mp hx).1
     obtain⟨u,hu,ru⟩:=rv.get (List.getElem?_eq_getElem hi)
     rw[hx]at hu;cases hu
     exact⟨_,List.getElem?_eq_getElem hi,ru⟩
   · simp only[List.mem_cons,List.not_mem_nil,or_false]at hc
     rcases hc with rfl|rfl
     ·exact .inl rfl
     ·exact .inr tr
 | t a=>
   obtain⟨its,rv,pl,hz⟩:=I.tuple h
   have tr:H a≠none∨∃o,X.K.lookup a=some o:=by
     rcases h with(h|⟨o,h⟩)|⟨o,_,_,h,_⟩
     ·exact .inl (by rw[h];simp)
     ·exact .inl (by rw[h];simp)
     ·exact .inr ⟨o,h⟩
   have D:=uq (prog:=X.prog) (w:=X.w) (A:=A) hh it a (nl a tr) its.toArray
   rw[List.size_toArray, ←rv.length]at D
   refine⟨_,_,_,D,fun i x hx=>?_,fun i h' st=>st.1,fun i st=>⟨st,pl⟩,fun c hc=>?_⟩
   · have hx:its[i]? =some x:=by simpa using hx
     have hi:i<xs.length:=by rw[rv.length];exact(List.getElem?_eq_some_iff.mp hx).1
     obtain⟨u,hu,ru⟩:=rv.get (List.getElem?_eq_getElem hi)
     rw[hx]at hu;cases hu
     exact⟨_,List.getElem?_eq_getElem hi,ru⟩
   · simp only[List.mem_cons,List.not_mem_nil,or_false]at hc
     rcases hc with rfl|rfl
     ·exact .inl rfl
     ·exact .inr tr
 | s z=>
   have h:xs=z.cps.toList.map fun c=>.str ⟨#[c]⟩:=h
   subst h
   have key:∀(i:Nat) (x:Value),(∃c u,z.cps[i]? =some c∧x=.str ⟨#[c]⟩ u)→∃v,(z.cps.toList.map fun c=>V.str ⟨#[c]⟩)[i]? =some v∧RelV v x:=by
     rintro i x ⟨c,u,hc,rfl⟩
     exact⟨.str ⟨#[c]⟩,by simp[hc],⟨u,rfl⟩⟩
   cases ha:z.cps.all (· <128)with
   | true=>
     have D:=Draws.strAscii (prog:=X.prog) (w:=X.w) (A:=A) hh it z tk
     refine⟨_,_,_,by simpa using D,key,fun i h' st=>?_,fun i st=>?_,fun c hc=>.inl (by simpa using hc)⟩
     · show h'.IsStrIter it (if z.cps.all (· <128)then "str_ascii_iterator" else "str_iterator") z tk i
       rw[ha];exact st
     · have st:s.heap.IsStrIter it (if z.cps.all (· <128)then "str_ascii_iterator" else "str_iterator") z tk i:=st
       rw[ha]at st;exact st
   | false=>
     have D:=Draws.strWide (prog:=X.prog) (w:=X.w) (A:=A) hh it z tk
     refine⟨_,_,_,by simpa using D,key,fun i h' st=>?_,fun i st=>?_,fun c hc=>.inl (by simpa using hc)⟩
     · show h'.IsStrIter it (if z.cps.all (· <128)then "str_ascii_iterator" else "str_iterator") z tk i
       rw[ha];exact st
     · have st:s.heap.IsStrIter it (if z.cps.all (· <128)then "str_ascii_iterator" else "str_iterator") z tk i:=st
       rw[ha]at st;exact st
end
theorem Sd.lM{d:Sd}{it:Addr}{i:Nat}{h h':Heap}{t:Tok}(st:d.ft it i h t)(k:∀o,h.get? it=some o→h'.get? it=some o):d.ft it i h' t:=by
 cases d with
 |l a=>obtain⟨o,e,r⟩:=st;exact⟨o,k o e,r⟩
 |t a=>obtain⟨o,e,r⟩:=st;exact⟨o,k o e,r⟩
 |s z=>obtain⟨o,e,r⟩:=st;exact⟨o,k o e,r⟩
theorem Sd.lP{d:Sd}{it:Addr}{i:Nat}{h:Heap}{t:Tok}(st:d.ft it i h t):∃o,h.get? it=some o∧∀v,o.data≠.cell v:=by
 cases d with
 |l a=>obtain⟨o,e,c,r⟩:=st;exact⟨o,e,fun v z=>by rw[r]at z;cases z⟩
 |t a=>obtain⟨o,e,c,r⟩:=st;exact⟨o,e,fun v z=>by rw[r]at z;cases z⟩
 |s z=>obtain⟨o,e,c,r⟩:=st;exact⟨o,e,fun v z=>by rw[r]at z;cases z⟩
noncomputable def mX(K:PySem.W.Frag)(d e:Sd):It where
 go i H:=∃xs ys,d.at K H xs∧e.at K H ys∧i<xs.length∧i<ys.length
 j4 i H v H':=∃t x y,v=.ref t∧H t=none∧(∀xs,d.at K H xs→xs[i]? =some x)∧(∀ys,e.at K H ys→ys[i]? =some y)∧H'=upd H t (.tup [x,y])
 stop i H:=∃xs ys,d.at K H xs∧e.at K H ys∧(i=xs.length∨(i<xs.length∧i=ys.length))
noncomputable def xX(d e:Sd)(td te:Tok)(z TI TO i1 i2:Addr)(i:Nat)(h:Heap):Prop:=
 IsZip h z TI TO .none∧IsPair h TI (.ref i1) (.ref i2)∧(∃a b,IsPair h TO a b)∧d.ft i1 i h td∧e.ft i2 i h te
theorem zF{P:Program}{w:World}{K:PySem.W.Frag}{elts:List Expr}{k:Nat}{tp:Pos}(d e:Sd)(td te:Tok)(z TI TO i1 i2:Addr)(ne:[z,TI,TO,i1,i2].Nodup)(hK:∀b∈[z,TI,TO,i1,i2],K.lookup b=none):
   Turn P w K (.Tuple elts k tp) (mX K d e) [z,TI,TO,i1,i2] z (xX d e td te z TI TO i1 i2) where
 mem:=by simp
 obj i h st b hb:=by
   obtain⟨hz,hTI,⟨a,b',hTO⟩,h1,h2⟩:=st
   simp only[List.mem_cons,List.not_mem_nil,or_false]at hb
   rcases hb with rfl|rfl|rfl|rfl|rfl
   ·exact⟨_,hz,fun v q=>by cases q⟩
   ·exact⟨_,hTI,fun v q=>by cases q⟩
   ·exact⟨_,hTO,fun v q=>by cases q⟩
   ·exact Sd.lP h1
   ·exact Sd.lP h2
 keep i h h' st kk:=by
   obtain⟨hz,hTI,⟨a,b',hTO⟩,h1,h2⟩:=st
   exact⟨kk z (by simp) _ hz,kk TI (by simp) _ hTI,⟨a,b',kk TO (by simp) _ hTO⟩,Sd.lM h1 fun o q=>kk i1 (by simp) o q,Sd.lM h2 fun o q=>kk i2 (by simp) o q⟩
 item := by
   intro X hP hw hKX hc i pins s σ H E I hf st hg
   subst hP hw hKX
   obtain⟨xs,ys,ax,ay,hx,hy⟩:=hg
   obtain⟨hz,hTI,⟨a,b,hTO⟩,h1,h2⟩:=st
   have hh:X.A.in1.handled=none:=I.ok.hd hc
   have un:∀b∈[z,TI,TO,i1,i2],H b=none:=fun b hb=>(hf b hb).1
   obtain⟨f1,P1,S1,D1,p1,s1,s1',q1⟩:=Sd.draws (it:=i1) (tk:=td) (A:=X.A.in1) I hh ax (un i1 (by simp)) (hK i1 (by simp))
   obtain⟨f2,P2,S2,D2,p2,s2,s2',q2⟩:=Sd.draws (it:=i2) (tk:=te) (A:=X.A.in1) I hh ay (un i2 (by simp)) (hK i2 (by simp))
   have out:∀ {fp:List Addr} {it:Addr},(∀c∈fp,c=it∨(H c≠none∨∃o,X.K.lookup c=some o))→∀b∈[z,TI,TO,i1,i2],b≠it→b∉fp:=fun q b hb hne hm=>by
     rcases q b hm with h|h|⟨o,h⟩
     ·exact hne h
     ·exact h (un b hb)
     ·rw[hK b hb]at h;cases h
   simp only[List.nodup_cons,List.mem_cons,List.not_mem_nil,or_false,not_or,List.nodup_nil,and_true,not_false_eq_true]at ne
   obtain⟨⟨n1,n2,n3,n4⟩,⟨n5,n6,n7⟩,⟨n8,n9⟩,n10⟩:=ne
   have ap:kK z TI TO i1 i2 f1 f2:=⟨Ne.symm n1,Ne.symm n2,Ne.symm n3,Ne.symm n4,n5,n6,n7,n8,n9,n10,out q1 z (by simp) n3,out q1 TO (by simp) n8,out q1 i2 (by simp) (Ne.symm n10),out q2 z (by simp) n4,out q2 TO (by simp) n9,out q2 i1 (by simp) n10⟩
   have hT:s.TypeIs (.ref z) "zip":=⟨_,hz,rfl⟩
   unfold pyNext
   refine wpAny_bind (wpAny_attempt (wpAny_callSpecial?_slot (name:=Str.ofString "__next__") hT PySem.F.slot_zip_next (wpAny_call_entry PySem.F.slot_zip_next hT PySem.F.entry_zip_next (zO D1 D2 ap hz hTI hTO (s1' i h1) (s2' i h2) hx hy fun x y h' tk px py hz' hTO' bo st2 hp hk=>wpAny_pure ?_) (PySem.F.args_zip_next_1 _))))
   obtain⟨v1,e1,r1⟩:=p1 i x px
   obtain⟨v2,e2,r2⟩:=p2 i y py
   refine⟨_,rfl,wpAny_letOwnedTupleGo_zip hz' fun h2' hz2 hs2=>?_⟩
   have hzlt:z<s.heap.objs.size:=Heap.lt_size hz
   have Tz:s.heap.objs.size≠z:=Nat.ne_of_gt hzlt
   have hk2:∀c o,c≠z→c≠TO→c≠i1→c≠i2→s.heap.get? c=some o→h2'.get? c=some o:=fun c o c1 c2 c3 c4 q=>hs2.extBut _ _ c1 (hk c o c1 c2 c3 c4 q)
   have hp2:IsPair h2' s.heap.objs.size x y:=hs2.extBut _ _ Tz hp
   have nT:H s.heap.objs.size=none:=I.aB.fresh (Nat.le_refl _)
   have aK:∀c u,H c=some u→c≠z∧c≠TO∧c≠i1∧c≠i2:=fun c u q=>by refine⟨?_,?_,?_,?_⟩<;>(intro w;rw[w,un _ (by simp)]at q;cases q)
   have nch:∀c,c∉[z,TO,i1,i2]→c≠z∧c≠TO∧c≠i1∧c≠i2:=fun c hc'=>by simpa[not_or] using hc'
   have u:Un (L2.bX X.stack) [z,TO,i1,i2] H (upd H s.heap.objs.size (.tup [v1,v2])) s.heap h2':=
     ⟨fun b o q n hf' hx'=>let m:=nch b hx';hk2 b o m.1 m.2.1 m.2.2.1 m.2.2.2 q,fun b o q n hf' hx'=>let m:=nch b hx';⟨o.slots,hk2 b o m.1 m.2.1 m.2.2.1 m.2.2.2 q⟩,fun b o q n hx'=>by rw[L2.az (Nat.ne_of_lt (Heap.lt_size q))];exact n,
       fun b o q hx'=>let m:=nch b hx';⟨o,hk2 b o m.1 m.2.1 m.2.2.1 m.2.2.2 q⟩,fun b zs q=>by rw[L2.az (L2.en q nT)];exact q,fun b o zs q=>by rw[L2.az (L2.en q nT)];exact q,fun b ps q=>⟨#[],by rw[L2.az (L2.en q nT),q];simp⟩⟩
   have aB:L2.ba X.prog X.w (upd H s.heap.objs.size (.tup [v1,v2])) h2':=fun b ob q=>by
     by_cases hb:b=s.heap.objs.size
     · subst hb
       rw[L2.aV]at q
       cases q
       exact⟨show 2≤sizeLine by decide,[x,y],.cons r1 (.cons r2 .nil),⟨_,hp2,rfl,_,rfl⟩⟩
     · rw[L2.az hb]at q
       refine(I.aB b ob q).fI (fun c v hcv w=>?_) (fun c w=>by rw[L2.az (L2.en w nT)];exact w) fun c zs w=>by rw[L2.az (L2.en w nT)];exact w
       have tc:∃u,H c=some u:=by
         rcases hcv with rfl|hcv
         ·exact⟨_,q⟩
         ·exact⟨_,hcv⟩
       obtain⟨u',hu'⟩:=tc
       have m:=aK c u' hu'
       exact hk2 c v m.1 m.2.1 m.2.2.1 m.2.2.2 w
   have I2:Inv X pins σ (upd H s.heap.objs.size (.tup [v1,v2])) {s with heap:=h2',toks:=tk}:=I.nG (s':={s with heap:=h2',toks:=tk}) (ch:=[z,TO,i1,i2]) rfl u aB I.bare fun b hb=>by
     have hb':b∈[z,TI,TO,i1,i2]:=by
       simp only[List.mem_cons,List.not_mem_nil,or_false]at hb ⊢
       rcases hb with h|h|h|h<;>simp[h]
     obtain⟨_,a1,a2,a3,a4,a5⟩:=hf b hb'
     exact⟨a3,a1,a4,a5⟩
   have ltb:∀b∈[z,TI,TO,i1,i2],b≠s.heap.objs.size:=fun b hb=>by
     have:∃o,s.heap.get? b=some o:=by
       simp only[List.mem_cons,List.not_mem_nil,or_false]at hb
       rcases hb with rfl|rfl|rfl|rfl|rfl
       ·exact⟨_,hz⟩
       ·exact⟨_,hTI⟩
       ·exact⟨_,hTO⟩
       ·exact let⟨o,q,_⟩:=Sd.lP h1;⟨o,q⟩
       ·exact let⟨o,q,_⟩:=Sd.lP h2;⟨o,q⟩
     obtain⟨o,q⟩:=this
     exact Nat.ne_of_lt (Heap.lt_size q)
   refine⟨.ref s.heap.objs.size,_,I2,rfl,⟨_,v1,v2,rfl,nT,fun xs' hx'=>by rw[Sd.inj I hx' ax];exact e1,fun ys' hy'=>by rw[Sd.inj I hy' ay];exact e2,rfl⟩,⟨hz2,?_,⟨_,_,hs2.extBut _ _ (Ne.symm n2) hTO'⟩,Sd.lM (s1 _ _ bo) fun o q=>hs2.extBut _ _ (Ne.symm n3) q,Sd.lM (s2 _ _ st2) fun o q=>hs2.extBut _ _ (Ne.symm n4) q⟩,fun b hb=>?_⟩
   ·exact hk2 TI _ (Ne.symm n1) n5 n6 n7 hTI
   · show upd H _ _ b=none
     rw[L2.az (ltb b hb)];exact un b hb
 done := by
   intro X hP hw hKX hc i pins s σ H E I hf st hg
   subst hP hw hKX
   obtain⟨xs,ys,ax,ay,hend⟩:=hg
   obtain⟨hz,hTI,⟨a,b,hTO⟩,h1,h2⟩:=st
   have hh:X.A.in1.handled=none:=I.ok.hd hc
   have un:∀b∈[z,TI,TO,i1,i2],H b=none:=fun b hb=>(hf b hb).1
   obtain⟨f1,P1,S1,D1,p1,s1,s1',q1⟩:=Sd.draws (it:=i1) (tk:=td) (A:=X.A.in1) I hh ax (un i1 (by simp)) (hK i1 (by simp))
   obtain⟨f2,P2,S2,D2,p2,s2,s2',q2⟩:=Sd.draws (it:=i2) (tk:=te) (A:=X.A.in1) I hh ay (un i2 (by simp)) (hK i2 (by simp))
   have out:∀ {fp:List Addr} {it:Addr},(∀c∈fp,c=it∨(H c≠none∨∃o,X.K.lookup c=some o))→∀b∈[z,TI,TO,i1,i2],b≠it→b∉fp:=fun q b hb hne hm=>by
     rcases q b hm with h|h|⟨o,h⟩
     ·exact hne h
     ·exact h (un b hb)
     ·rw[hK b hb]at h;cases h
   simp only[List.nodup_cons,List.mem_cons,List.not_mem_nil,or_false,not_or,List.nodup_nil,and_true,not_false_eq_true]at ne
   obtain⟨⟨n1,n2,n3,n4⟩,⟨n5,n6,n7⟩,⟨n8,n9⟩,n10⟩:=ne
   have ap:kK z TI TO i1 i2 f1 f2:=⟨Ne.symm n1,Ne.symm n2,Ne.symm n3,Ne.symm n4,n5,n6,n7,n8,n9,n10,out q1 z (by simp) n3,out q1 TO (by simp) n8,out q1 i2 (by simp) (Ne.symm n10),out q2 z (by simp) n4,out q2 TO (by simp) n9,out q2 i1 (by simp) n10⟩
   have hT:s.TypeIs (.ref z) "zip":=⟨_,hz,rfl⟩
   unfold pyNext
   refine wpAny_bind (wpAny_attempt (wpAny_callSpecial?_slot (name:=Str.ofString "__next__") hT PySem.F.slot_zip_next (wpAny_call_entry PySem.F.slot_zip_next hT PySem.F.entry_zip_next (ug D1 D2 ap hz hTI hTO (s1' i h1) (s2' i h2) hend fun h' tk e' hk he=>?_) (PySem.F.args_zip_next_1 _))))
   obtain⟨o,ho,hce⟩:=he
   refine wpAny_bind (wpAny_isInstance (T:="StopIteration") (b:=true) ⟨o,ho,hce⟩ isSubtype_stop (wpAny_pure ⟨rfl,?_⟩))
   have nch:∀c,c∉[z,TO,i1,i2]→c≠z∧c≠TO∧c≠i1∧c≠i2:=fun c hc'=>by simpa[not_or] using hc'
   have aK:∀c u,H c=some u→c≠z∧c≠TO∧c≠i1∧c≠i2:=fun c u q=>by refine⟨?_,?_,?_,?_⟩<;>(intro w;rw[w,un _ (by simp)]at q;cases q)
   have u:Un (L2.bX X.stack) [z,TO,i1,i2] H H s.heap h':=
     ⟨fun b o q n hf' hx'=>let m:=nch b hx';hk b o m.1 m.2.1 m.2.2.1 m.2.2.2 q,fun b o q n hf' hx'=>let m:=nch b hx';⟨o.slots,hk b o m.1 m.2.1 m.2.2.1 m.2.2.2 q⟩,fun b o q n hx'=>n,
       fun b o q hx'=>let m:=nch b hx';⟨o,hk b o m.1 m.2.1 m.2.2.1 m.2.2.2 q⟩,fun b zs q=>q,fun b o zs q=>q,fun b ps q=>⟨#[],by rw[q];simp⟩⟩
   exact I.nG (s':={s with heap:=h',toks:=tk}) (ch:=[z,TO,i1,i2]) rfl u (fun b ob q=>(I.aB b ob q).fI (fun c v hcv w=>by
       have tc:∃u,H c=some u:=by
         rcases hcv with rfl|hcv
         ·exact⟨_,q⟩
         ·exact⟨_,hcv⟩
       obtain⟨u',hu'⟩:=tc
       have m:=aK c u' hu'
       exact hk c v m.1 m.2.1 m.2.2.1 m.2.2.2 w) (fun _ w=>w) fun _ _ w=>w) I.bare fun b hb=>by
     have hb':b∈[z,TI,TO,i1,i2]:=by
       simp only[List.mem_cons,List.not_mem_nil,or_false]at hb ⊢
       rcases hb with h|h|h|h<;>simp[h]
     obtain⟨_,a1,a2,a3,a4,a5⟩:=hf b hb'
     exact⟨a3,a1,a4,a5⟩
 self _ _ _ _ _ st h:=wpAny_pyIter_zip st.1 h
noncomputable def Sd.is(h:Heap):Sd→Prop
 |.l a=>∃xs,h.IsList a xs
 |.t a=>∃xs,h.IsTuple a xs
 |.s _=>True
theorem Sd.zN{h:Heap}{d:Sd}(o:Obj)(x:d.is h):d.is (h.push o):=by
 cases d with
 |l a=>obtain⟨xs,ob,e,r⟩:=x;exact⟨xs,ob,Heap.get?_push_of_some _ e,r⟩
 |t a=>obtain⟨xs,ob,e,r⟩:=x;exact⟨xs,ob,Heap.get?_push_of_some _ e,r⟩
 |s z=>trivial
theorem Sd.iter{prog:Program}{w:World}{A:Around}{E:Value→Shared→Prop}{s:Shared}{d:Sd}{tk:Tok}{Q:Value→Shared→Prop}(x:d.is s.heap)(h:Q (.ref s.heap.objs.size) {s with heap:=s.heap.push (d.obj tk)}):
   wpAny (model prog w) A (pyIter (d.val tk)) Q E s:=by
 cases d with
 |l a=>obtain⟨xs,x⟩:=x;exact wpAny_pyIter_list x h
 |t a=>obtain⟨xs,x⟩:=x;exact wpAny_pyIter_tuple x h
 | s z=>
   have h:Q (.ref s.heap.objs.size) {s with heap:=s.heap.push {cls:=.type (if z.cps.all (· <128)then "str_ascii_iterator" else "str_iterator"),data:=.fields #[.str z tk,.int 0 0]} }:=h
   cases ha:z.cps.all (· <128)with
   |true=>rw[ha]at h;exact wpAny_pyIter_ascii ha h
   |false=>rw[ha]at h;exact wpAny_pyIter_wide ha h
noncomputable abbrev kS(h:Heap)(d:Sd)(td:Tok):Heap:=h.push (d.obj td)
noncomputable abbrev lC(h:Heap)(d e:Sd)(td te:Tok):Heap:=(kS h d td).push (e.obj te)
noncomputable abbrev kB(h:Heap)(d e:Sd)(td te:Tok):Heap:=(lC h d e td te).push {cls:=.type "tuple",data:=.seq #[.ref h.objs.size,.ref (kS h d td).objs.size]}
noncomputable abbrev lz(h:Heap)(d e:Sd)(td te:Tok):Heap:=(kB h d e td te).push {cls:=.type "tuple",data:=.seq #[.none,.none]}
noncomputable abbrev fS(h:Heap)(d e:Sd)(td te:Tok):Heap:=(lz h d e td te).push {cls:=.type "zip",data:=.fields #[.none,.bool false,.bool false,.ref (lC h d e td te).objs.size,.ref (kB h d e td te).objs.size]}
theorem yL(d e:Sd)(td te:Tok):Meets (Builtin.«zip.__new__» ⟨[.type "zip",d.val td,e.val te],[]⟩) (fun _ R s=>d.is s.heap∧e.is s.heap∧R (.ok (.ret (.ref (lz s.heap d e td te).objs.size))) {s with heap:=fS s.heap d e td te}):=
 .of_wp fun prog w A R s h=>by
   obtain⟨hp,g,dr,tk,os⟩:=s;obtain⟨h1,h2,h⟩:=h
   have hsub:=sub_zip
   have a1:d.is (Shared.heap ⟨hp,g,dr,tk,os⟩):=h1
   have a2:e.is (Shared.heap ⟨hp.push (d.obj td),g,dr,tk,os⟩):=Sd.zN _ h2
   wp_walk using Sd.iter a1,Sd.iter a2
   exact⟨_,rfl,h⟩
section
variable{X:Cx}{M:Md}{G H H':Hp}{F0 F F':Addr→Prop}{σ:L2.St}{ρ:En}{pos:Pos}{pins:List (Addr×Obj)}{s:Shared}
theorem Sd.o7{d:Sd}{xs:List V}(I:Inv X pins σ H s)(h:d.at X.K H xs):d.is s.heap:=by
 cases d with
 |l a=>obtain⟨its,_,pl,_⟩:=I.list h;exact⟨_,pl.isList⟩
 |t a=>obtain⟨its,_,pl,_⟩:=I.tuple h;exact⟨_,pl⟩
 |s z=>trivial
noncomputable def BC(K:PySem.W.Frag)(ta:TA):TI:=fun σ H R=>ta σ H fun vs H1=>∃(x y:V) (d e:Sd) (xs ys:List V),vs=[x,y]∧(∀u,RelV x u→∃tk,u=d.val tk)∧(∀u,RelV y u→∃tk,u=e.val tk)∧d.at K H1 xs∧e.at K H1 ys∧R (mX K d e) H1
theorem za:bootBuiltins "zip"=some (.type "zip"):=by decide+kernel
theorem xH{elts:List Expr}{k:Nat}{tp:Pos}{a b:Expr}{ta:TA}{p:Pos}(hg:L2.Gl X "zip")(hm:X.mg "zip"=none)(ha:PA X [a,b] ta)(hs:starEach [a,b] X.env=(false,eval a X.env)::starEach [b] X.env)(hs2:starEach [b] X.env=(false,eval b X.env)::starEach [] X.env):
   L2.PI X (.Tuple elts k tp) (.Call (.Name "zip" p) [a,b] [] pos) (BC X.K ta):=by
 intro pins s σ H R I h
 refine PyProof.Rows.Call_ (L2.jN I hg hm za (PyProof.Rows.callWith_type1 (L2.aD (ha pos pins s σ H _ I h) fun us s1 ⟨vs,H1,I1,r1,q1⟩=>?_) hs (by rw[hs2];rfl)))
 obtain⟨x,y,d,e,xs,ys,rfl,hx,hy,ax,ay,q⟩:=q1
 obtain⟨u1,u2,rfl,ru1,ru2⟩:=L2.vals2 r1
 obtain⟨td,rfl⟩:=hx u1 ru1
 obtain⟨te,rfl⟩:=hy u2 ru2
 refine callType_new PySem.F.called_zip (by decide) (PySem.F.typeCall_zip_2 _ _) (PySem.F.newCall_zip_2 _ _) (fun obj=>PySem.F.args_object_init_3 obj _ _) PySem.F.entry_zip_new (yL d e td te) ⟨Sd.o7 I1 ax,Sd.o7 I1 ay,?_⟩
 have z1:(kS s1.heap d td).objs.size=s1.heap.objs.size+1:=Heap.size_push ..
 have z2:(lC s1.heap d e td te).objs.size=s1.heap.objs.size+2:=by rw[Heap.size_push,z1]
 have z3:(kB s1.heap d e td te).objs.size=s1.heap.objs.size+3:=by rw[Heap.size_push,z2]
 have z4:(lz s1.heap d e td te).objs.size=s1.heap.objs.size+4:=by rw[Heap.size_push,z3]
 have nf:∀(d:Sd) tk,(d.obj tk).isFreed=false:=fun d tk=>by cases d<;>rfl
 have g5:(fS s1.heap d e td te).get? (lz s1.heap d e td te).objs.size=some _:=Heap.get?_push_size _ rfl
 have g4:(fS s1.heap d e td te).get? (kB s1.heap d e td te).objs.size=some _:=Heap.get?_push_of_some _ (Heap.get?_push_size _ rfl)
 have g3:(fS s1.heap d e td te).get? (lC s1.heap d e td te).objs.size=some _:=Heap.get?_push_of_some _ (Heap.get?_push_of_some _ (Heap.get?_push_size _ rfl))
 have g2:(fS s1.heap d e td te).get? (kS s1.heap d td).objs.size=some (e.obj te):=Heap.get?_push_of_some _ (Heap.get?_push_of_some _ (Heap.get?_push_of_some _ (Heap.get?_push_size _ (nf e te))))
 have g1:(fS s1.heap d e td te).get? s1.heap.objs.size=some (d.obj td):=Heap.get?_push_of_some _ (Heap.get?_push_of_some _ (Heap.get?_push_of_some _ (Heap.get?_push_of_some _ (Heap.get?_push_size _ (nf d td)))))
 have old:∀c o,s1.heap.get? c=some o→(fS s1.heap d e td te).get? c=some o:=fun c o x=>Heap.get?_push_of_some _ (Heap.get?_push_of_some _ (Heap.get?_push_of_some _ (Heap.get?_push_of_some _ (Heap.get?_push_of_some _ x))))
 rw[z2,z3,z4]at g5
 rw[z1,z2]at g3
 rw[z3]at g4
 rw[z1]at g2
 show _∧_
 rw[z4]
 refine⟨⟨_,g5,rfl⟩,wpAny_pyIter_zip g5 ?_⟩
 have I2:Inv X pins σ H1 {s1 with heap:=fS s1.heap d e td te}:=I1.kept (t':=s1.toks) old
 have hK:∀b,s1.heap.objs.size≤b→X.K.lookup b=none:=fun b hb=>by
   cases q:X.K.lookup b with
   |none=>rfl
   |some o=>exact absurd (Nat.lt_of_lt_of_le (Heap.lt_size (I1.bI b o q)) hb) (Nat.lt_irrefl _)
 have itr0:∀ {d:Sd} {it:Addr} {tk:Tok} {h:Heap},h.get? it=some (d.obj tk)→d.ft it 0 h tk:=fun {d it tk h} q=>by
   cases d with
   |l a=>exact⟨_,q,rfl,rfl⟩
   |t a=>exact⟨_,q,rfl,rfl⟩
   |s z=>exact⟨_,q,rfl,rfl⟩
 refine⟨s1.heap.objs.size+4,[s1.heap.objs.size+4,s1.heap.objs.size+2,s1.heap.objs.size+3,s1.heap.objs.size,s1.heap.objs.size+1],_,_,H1,rfl,I2,zF d e td te _ _ _ _ _ ?_ ?_,⟨g5,g3,⟨_,_,g4⟩,itr0 g1,itr0 g2⟩,fun b hb=>?_,q⟩
 ·simp
 · intro b hb
   refine hK b ?_
   simp only[List.mem_cons,List.not_mem_nil,or_false]at hb
   rcases hb with rfl|rfl|rfl|rfl|rfl<;>omega
 · have hb':s1.heap.objs.size≤b:=by
     simp only[List.mem_cons,List.not_mem_nil,or_false]at hb
     rcases hb with rfl|rfl|rfl|rfl|rfl<;>omega
   exact I1.iW hb' (I1.aB.fresh hb')
theorem r9{d:D}{ds:List D}{x:V}(e:items d=.ok ds)(r:Rep M H F d x):∃(q:Sd) (xs:List V),(∀u,RelV x u→∃tk,u=q.val tk)∧ab M H F ds xs∧∀H' F',Mv F H F' H'→q.at M.K H' xs:=by
 unfold items at e
 split at e
 · cases e
   simp only[Rep]at r
   obtain⟨a,xs,rfl,h,rs⟩:=r
   exact⟨.l a,xs,fun u ru=>⟨0,ru⟩,rs,fun H' F' m=>(h.mv m).sq⟩
 · cases e
   simp only[Rep]at r
   obtain⟨a,xs,rfl,h,rs⟩:=r
   exact⟨.t a,xs,fun u ru=>⟨0,ru⟩,rs,fun H' F' m=>(h.mv m).sq⟩
 · rename_i z
   cases e
   cases dB r
   refine⟨.s z,z.cps.toList.map fun c=>.str ⟨#[c]⟩,fun u ⟨tk,ru⟩=>⟨tk,ru⟩,?_,fun _ _ _=>rfl⟩
   generalize z.cps.toList=l
   induction l with
   |nil=>exact ab.nil
   |cons c l ih=>exact ab.cons g8 ih
 ·cases e
theorem sZ:∀ {xs ys:List D},(fe xs ys).length=min xs.length ys.length
 |[],_=>by simp
 |_::_,[]=>by simp
 |x::xs,y::ys=>by simp[sZ (xs:=xs) (ys:=ys)]
theorem qR:∀ {xs ys:List D} {i:Nat} {d:D},(fe xs ys)[i]? =some d→∃x y,d=.tup [x,y]∧xs[i]? =some x∧ys[i]? =some y
 |[],_,_,_,h=>by simp at h
 |_::_,[],_,_,h=>by simp at h
 |x::xs,y::ys,0,d,h=>by simp at h;exact⟨x,y,h.symm,rfl,rfl⟩
 | x::xs,y::ys,i+1,d,h=>by
   have h:(fe xs ys)[i]? =some d:=by simpa using h
   obtain⟨a,b,h1,h2,h3⟩:=qR h
   exact⟨a,b,h1,by simpa using h2,by simpa using h3⟩
theorem vt{q r:Sd}{xs ys:List V}{ds es:List D}(h1:∀H' F',Mv F H F' H'→q.at M.K H' xs)(h2:∀H' F',Mv F H F' H'→r.at M.K H' ys)(rs:ab M H F ds xs)(ss:ab M H F es ys)
   (inj1:∀H' F' zs,Mv F H F' H'→q.at M.K H' zs→True):Gives M (mX M.K q r) H F (fe ds es):=by
 intro H' F' mv tr
 have a1:=h1 H' F' mv
 have a2:=h2 H' F' mv
 have rs':=rs.mv mv
 have ss':=ss.mv mv
 refine⟨fun i d hd=>?_,?_⟩
 · obtain⟨x,y,rfl,hx,hy⟩:=qR hd
   obtain⟨vx,ex,rx⟩:=rs'.get hx
   obtain⟨vy,ey,ry⟩:=ss'.get hy
   refine⟨⟨xs,ys,a1,a2,(List.getElem?_eq_some_iff.mp ex).1,(List.getElem?_eq_some_iff.mp ey).1⟩,fun v H2 hv=>?_⟩
   obtain⟨t,wx,wy,rfl,ht,g1,g2,rfl⟩:=hv
   have q1:=g1 xs a1
   have q2:=g2 ys a2
   rw[ex]at q1
   rw[ey]at q2
   cases q1
   cases q2
   exact⟨ah.bS ht _,kj tr ht (ab.cons rx (ab.cons ry ab.nil))⟩
 · refine⟨xs,ys,a1,a2,?_⟩
   rw[sZ,rs.length,ss.length]
   omega
theorem y3{elts:List Expr}{k:Nat}{tp:Pos}{a b:Expr}{fa fb:Ex}{p:Pos}(hg:L2.Gl X "zip")(hm:X.mg "zip"=none)(ha:JE X a fa)(hb:JE X b fb)(hs:starEach [a,b] X.env=(false,eval a X.env)::starEach [b] X.env)(hs2:starEach [b] X.env=(false,eval b X.env)::starEach [] X.env):
   JI X (.Tuple elts k tp) (.Call (.Name "zip" p) [a,b] [] pos) (jL fa fb):=
 ky (xH hg hm (d7 ha (d7 hb fh hs2) hs) hs hs2) fun σ H Q ⟨ρ,F,ds,r,e,q⟩=>by
   obtain⟨d1,ed1,e⟩:=aj.mp e
   obtain⟨d2,ed2,e⟩:=aj.mp e
   obtain⟨xs,exs,e⟩:=aj.mp e
   obtain⟨ys,eys,e⟩:=aj.mp e
   cases e
   refine⟨ρ,F,[d1,d2],r,by show(fa ρ).bind _=_;rw[ed1];show((fb ρ).bind _).bind _=_;rw[ed2];rfl,fun vs H1 s1 rv=>?_⟩
   obtain⟨x,y,rfl,rx,ry⟩:=rv.two
   obtain⟨sd1,vx,u1,rr1,at1⟩:=r9 exs rx
   obtain⟨sd2,vy,u2,rr2,at2⟩:=r9 eys ry
   exact⟨x,y,sd1,sd2,vx,vy,rfl,u1,u2,at1 H1 F Mv.refl,at2 H1 F Mv.refl,q _ H1 s1 (vt (M:=ar X) at1 at2 rr1 rr2 fun _ _ _ _ _=>trivial)⟩
end
noncomputable def sg:D→Value→Prop
 |.ai,u=>u=.none
 |.bl b,u=>u=.bool b
 |.int i,u=>∃t,u=.int i t
 |.str x,u=>∃t,u=.str x t
 |_,_=>False
theorem zo{d:D}{u:Value}(h:sg d u):∃v,RelV v u∧∀(M:Md) H F,Rep M H F d v:=by
 cases d with
 |ai=>exact⟨.ai,h,fun _ _ _=>nQ⟩
 |bl b=>exact⟨.bl b,h,fun _ _ _=>cO⟩
 |int i=>exact⟨.int i,h,fun _ _ _=>cP⟩
 |str x=>exact⟨.str x,h,fun _ _ _=>g8⟩
 |_=>exact h.elim
section
variable{P:Program}{w:World}{K:PySem.W.Frag}{h:Heap}{mg:Str→Option Value}{x:Str}
theorem wq{u:Value}{d:D}(X:K.In h)(G:h.Ns mainGlobals mg)(e1:PySem.W.nsIn K mainGlobals x=some (some u))(hm:sg d u):jq P w K mg x d:=by
 obtain⟨v,rv,hv⟩:=zo hm
 exact⟨v,u,PySem.W.mg_of X G e1,rv,fun H F=>hv _ H F⟩
end
end PL
namespace PL
open PySem
end PL
set_option maxHeartbeats 1000000
namespace PL
open PySem PySem.Spec
open L2 (V Hp HO Cx PE PT PW PA PS bz PG cu VK TE TT TA TS TI TG Inv RelV Vals Rd aT aX upd ah Key XK Ends aN dY aZ R2 EP It Turn bY Un)
section
variable{X:Cx}{M:Md}{G H H':Hp}{F0 F F':Addr→Prop}{σ:L2.St}{ρ:En}{pos:Pos}{pins:List (Addr×Obj)}{s:Shared}
theorem aI.fresh{p:Addr}{o:HO}(r:aI M H F σ ρ)(hp:H p=none):aI M (upd H p o) (fun b=>F b∨b=p) σ ρ:=by
 have ne:∀b u,H b=some u→b≠p:=fun b u e z=>by subst z;rw[hp]at e;cases e
 have mv:Mv F H (fun b=>F b∨b=p) (upd H p o):=fun b u n e=>⟨fun h=>h.elim n (ne b u e),by rw[L2.az (ne b u e)];exact e⟩
 have sm:ah H (upd H p o):=ah.bS hp _
 exact⟨r.len,fun b f=>by
   by_cases hb:b=p
   ·subst hb;exact⟨_,L2.aV⟩
   ·obtain⟨u,hu⟩:=r.aK b (f.resolve_right hb);exact⟨u,sm _ _ hu⟩,
   fun i d e=>let⟨v,h1,h2⟩:=r.sh i d e;⟨v,h1,h2.mv mv⟩,
   fun i ds e=>let⟨a,xs,e1,f,e2,q⟩:=r.ol i ds e;⟨a,xs,e1,.inl f,sm _ _ e2,q.mv mv⟩,
   fun i ks ds e=>let⟨a,xs,e1,f,e2,l,q⟩:=r.od i ks ds e;⟨a,xs,e1,.inl f,sm _ _ e2,l,q.mv mv⟩,
   r.bE,r.on.mv mv (fun j xss e=>⟨e,rfl⟩) (fun j xss b u e hb f hu=>⟨.inl f,sm _ _ hu⟩) fun j xss b e hb k ok=>(r.on j xss e).2.1 b hb k ok⟩
noncomputable def JP(X:Cx)(pos:Pos)(keys:List (Option Expr))(values:List Expr)(ks:List Ky)(fs:List Ex):Prop:=
 ∃trs,L2.iI X pos keys values trs∧∀(F:Addr→Prop) (σ:L2.St) (H:Hp) (ρ:En) (ds:List D) (Q:List (V×V)→Hp→Prop),aI (ar X) H F σ ρ→eList fs ρ=.ok ds→
   (∀xs H',ah H H'→ab (ar X) H' F ds xs→Q ((ks.zip xs).map fun kv=>(L2.kV kv.1,kv.2)) H')→L2.jA trs σ H Q
theorem u7:JP X pos [] [] [] []:=⟨[],L2.oT,fun F σ H ρ ds Q r e q=>by cases e;exact q [] H (ah.refl H) ab.nil⟩
theorem xt{k v:Expr}{z:Str}{f:Ex}{keys:List (Option Expr)}{values:List Expr}{ks:List Ky}{fs:List Ex}(hk:JE X k (eC (.str z)))(hv:JE X v f)(hr:JP X pos keys values ks fs):JP X pos (some k::keys) (v::values) (.inr z::ks) (f::fs):=by
 obtain⟨trs,h,g⟩:=hr
 refine⟨_,L2.oS hk hv h,fun F σ H ρ ds Q r e q=>?_⟩
 obtain⟨a,ea,e⟩:=aj.mp e
 obtain⟨as,eas,e⟩:=aj.mp e
 cases e
 refine⟨ρ,F,.str z,r,rfl,fun x H1 s1 rx=>⟨ρ,F,a,r.same s1,ea,fun y H2 s2 ry=>g F σ H2 ρ as _ ((r.same s1).same s2) eas fun xs H3 s3 rs=>?_⟩⟩
 cases dB rx
 exact q (y::xs) H3 ((s1.trans s2).trans s3) (ab.cons (ry.mv (.same s3)) rs)
theorem y7{kvs:List (Key×V)}{k:Key}{v:V}(h:k∉kvs.map (·.1)):L2.putK kvs k v=kvs++[(k,v)]:=by
 unfold L2.putK
 rw[if_neg]
 intro h1
 rw[List.any_eq_true]at h1
 obtain⟨kv,hm,hk⟩:=h1
 exact h (List.mem_map.mpr ⟨kv,hm,by simpa using hk⟩)
theorem kc:∀ {more kvs:List (Key×V)},(kvs.map (·.1)++more.map (·.1)).Nodup→L2.ck kvs more=kvs++more
 |[],kvs,_=>by show kvs=_;rw[List.append_nil]
 | p::r,kvs,h=>by
   show L2.ck (L2.putK kvs p.1 p.2) r=_
   have hp:p.1∉kvs.map (·.1):=fun hm=>by
     rw[List.map_cons,List.nodup_append]at h
     exact h.2.2 _ hm _ List.mem_cons_self rfl
   rw[y7 hp,kc (by simpa using h),List.append_assoc]
   rfl
theorem yf{keys:List (Option Expr)}{values:List Expr}{ks:List Ky}{fs:List Ex}(h:JP X pos keys values ks fs)(hall:keys.all (·.isSome)=true)(hl:keys.length=values.length)(h0:keys≠[])(h15:keys.length≤15)(hk:ks.length=fs.length)(hk15:ks.length≤15)(hn:ks.Nodup):JE X (.Dict keys values pos) (b9 ks fs):=by
 obtain⟨trs,hp,g⟩:=h
 refine mx (L2.nz hp hall hl h0 h15) fun σ H Q ⟨ρ,F,d,hr,e,q⟩=>?_
 obtain⟨as,ea,e⟩:=aj.mp e
 cases e
 intro p hp
 have hfr:=hr.fresh (o:=.dK []) hp
 refine g _ σ _ ρ as _ hfr ea fun xs H2 s2 rs=>?_
 have hlx:ks.length=xs.length:=by rw[←rs.length,fV ea,hk]
 have e2:H2 p=some (.dK []):=s2 _ _ L2.aV
 have hm:L2.ck [] (ks.zip xs)=ks.zip xs:=by
   rw[kc (by simp only[List.map_nil,List.nil_append];rw[show(ks.zip xs).map (·.1)=ks from by rw[List.map_fst_zip];omega];exact hn)]
   rfl
 refine⟨e2,ks.zip xs,rfl,by rw[List.length_zip];omega,?_⟩
 rw[hm]
 refine⟨p,ks.zip xs,rfl,L2.aV,fun ob=>?_⟩
 rw[L2.om]
 have sm:ah H (upd H2 p (.frz ob (.dK (ks.zip xs)))):=fun b u e=>by
   have ne:b≠p:=fun z=>by subst z;rw[hp]at e;cases e
   rw[L2.az ne]
   exact s2 _ _ (by rw[L2.az ne];exact e)
 have nF:¬F p:=jf hr.aK hp
 have mv:Mv (fun b=>F b∨b=p) H2 F (upd H2 p (.frz ob (.dK (ks.zip xs)))):=fun b u n e=>⟨fun h=>n (.inl h),by rw[L2.az (fun z=>n (.inr z))];exact e⟩
 refine q _ _ sm ?_
 simp only[Rep]
 exact⟨p,xs,rfl,.inl ⟨nF,ob,L2.aV⟩,hlx,rs.mv mv⟩
end
section
variable{X:Cx}{M:Md}{G H H':Hp}{F0 F F':Addr→Prop}{σ:L2.St}{ρ:En}{pos:Pos}{pins:List (Addr×Obj)}{s:Shared}
end
section
variable{X:Cx}{M:Md}{G H H':Hp}{F0 F F':Addr→Prop}{σ:L2.St}{ρ:En}{pos:Pos}{pins:List (Addr×Obj)}{s:Shared}
end
section
variable{X:Cx}{M:Md}{G H H':Hp}{F0 F F':Addr→Prop}{σ:L2.St}{ρ:En}{pos:Pos}{pins:List (Addr×Obj)}{s:Shared}
end
noncomputable def mY(i:Int):Bool:=decide (i.natAbs.log2<100000)
@[simp] noncomputable def CF:D→D→R D
 |.int i,.int j=>if(mY i&&mY j)=true then .ok (.int (i*j))else .bad
 |_,_=>.bad
@[simp] noncomputable def BL:D→D→R D
 |.int i,.int j=>if 0<j∧j.natAbs.log2<9000 then .ok (.int (i / j))else .bad
 |_,_=>.bad
@[simp] noncomputable def Cp:D→D→R D
 |.int i,.int j=>if 0≤j∧j≤1000∧mY i=true then .ok (.int (i ^ j.toNat))else .bad
 |_,_=>.bad
@[simp] noncomputable def B2:D→D→R D
 |.int i,.int j=>.ok (.int (if j>i then j else i))
 |_,_=>.bad
noncomputable def frz(i:Nat)(ρ:En):En:=match ρ[i]? with
 |some (.ol xs)=>ρ.set i (.sh (.lst xs))
 |_=>ρ
mutual
noncomputable def cf:D→Bool
 |.ai=>true
 |.bl _=>true
 |.int _=>true
 |.str _=>true
 |.tup xs=>gr xs
 |_=>false
noncomputable def gr:List D→Bool
 |[]=>true
 |x::xs=>cf x&&gr xs
end
@[simp] noncomputable def BM(i:Nat)(f:Ex):Ex:=fun ρ=>(f (frz i ρ)).bind fun d=>if cf d=true then .ok d else .bad
@[simp] noncomputable def BO(i:Nat)(f:aF):aF:=fun ρ=>f (frz i ρ)
section
variable{X:Cx}{M:Md}{G H H':Hp}{F0 F F':Addr→Prop}{σ:L2.St}{ρ:En}{pos:Pos}{pins:List (Addr×Obj)}{s:Shared}
theorem aI.frz(r:aI M H F σ ρ)(i:Nat):∃F',(∀b,F b→F' b∨∃u,H b=some u∧((∃xs,u=.lst xs)∨∃kvs,u=.dK kvs))∧aI M H F' σ (frz i ρ):=by
 by_cases ol:∃ds,ρ[i]? =some (.ol ds)
 · obtain⟨ds,q0⟩:=ol
   have oi:aW ρ i:=.inl ⟨_,q0⟩
   obtain⟨a,xs,ei,fa,e2,rs⟩:=r.ol i ds q0
   have mv:Mv F H (fun b=>F b∧b≠a) H:=fun b v n e=>⟨fun h=>n h.1,e⟩
   have hrep:Rep M H (fun b=>F b∧b≠a) (.lst ds) (.ref a):=by
     simp only[Rep]
     exact⟨a,xs,rfl,.inl ⟨fun h=>h.2 rfl,.inl e2⟩,rs.mv mv⟩
   refine⟨fun b=>F b∧b≠a,fun b h=>?_,?_⟩
   · by_cases hb:b=a
     · subst hb
       exact .inr ⟨_,e2,.inl ⟨_,rfl⟩⟩
     ·exact .inl ⟨h,hb⟩
   unfold PL.frz
   rw[q0]
   refine⟨by simp[r.len],fun b h=>r.aK b h.1,?_,?_,?_,?_,qL r.on oi ei mv (fun b f n=>⟨f,n⟩)⟩
   · intro j e q
     rcases get_set q with⟨rfl,hx,hl⟩|⟨hne,q⟩
     · cases hx
       exact⟨_,ei,hrep⟩
     · obtain⟨w,e1,g⟩:=r.sh j e q
       exact⟨w,e1,g.mv mv⟩
   · intro j e q
     rcases get_set q with⟨rfl,x,hl⟩|⟨hne,q⟩
     ·cases x
     · obtain⟨b,xs,e1,f,e3,g⟩:=r.ol j e q
       exact⟨b,xs,e1,⟨f,fun z=>by subst z;exact hne (r.bE i j _ oi (.inl ⟨_,q⟩) ei e1)⟩,e3,g.mv mv⟩
   · intro j k e q
     rcases get_set q with⟨rfl,x,hl⟩|⟨hne,q⟩
     ·cases x
     · obtain⟨b,xs,e1,f,e3,l,g⟩:=r.od j k e q
       exact⟨b,xs,e1,⟨f,fun z=>by subst z;exact hne (r.bE i j _ oi (.inr ⟨_,_,q⟩) ei e1)⟩,e3,l,g.mv mv⟩
   · intro j k b oj ok ej ek
     exact r.bE j k b oj.cQ.2 ok.cQ.2 ej ek
 · refine⟨F,fun _ h=>.inl h,?_⟩
   unfold PL.frz
   cases q:ρ[i]? with
   |none=>exact r
   | some s=>
     cases s with
     |ol xs=>exact absurd ⟨_,q⟩ ol
     |_=>exact r
noncomputable def Out(F F':Addr→Prop)(H:Hp):Prop:=∀b,F b→F' b∨∃u,H b=some u∧((∃xs,u=.lst xs)∨∃kvs,u=.dK kvs)
theorem Out.tup{a:Addr}{xs:List V}(o:Out F F' H)(h:cC M H F' a xs):cC M H F a xs:=by
 rcases h with⟨n,h⟩|h
 · refine .inl ⟨fun f=>?_,h⟩
   rcases o a f with f'|⟨u,hu,z⟩
   ·exact n f'
   · rcases h with h|⟨ob,h⟩
     ·rw[hu]at h;cases h;rcases z with⟨_,z⟩|⟨_,z⟩<;>cases z
     ·rw[hu]at h;cases h;rcases z with⟨_,z⟩|⟨_,z⟩<;>cases z
 ·exact .inr h
mutual
theorem Rep.cf(o:Out F F' H):∀ {d:D} {v:V},cf d=true→Rep M H F' d v→Rep M H F d v
 |.ai,_,_,h=>by simp only[Rep]at h ⊢;exact h
 |.bl _,_,_,h=>by simp only[Rep]at h ⊢;exact h
 |.int _,_,_,h=>by simp only[Rep]at h ⊢;exact h
 |.str _,_,_,h=>by simp only[Rep]at h ⊢;exact h
 | .tup ds,_,n,h=>by
   simp only[Rep]at h ⊢
   obtain⟨a,xs,e,t,r⟩:=h
   exact⟨a,xs,e,o.tup t,ab.cf o (by unfold PL.cf at n;exact n) r⟩
 |.lst _,_,n,_=>by unfold PL.cf at n;cases n
 |.aA _ _,_,n,_=>by unfold PL.cf at n;cases n
 |.bG _ _ _,_,n,_=>by unfold PL.cf at n;cases n
theorem ab.cf(o:Out F F' H):∀ {ds:List D} {xs:List V},gr ds=true→ab M H F' ds xs→ab M H F ds xs
 |[],_,_,h=>by simp only[ab]at h ⊢;exact h
 | d::ds,_,n,h=>by
   unfold gr at n
   rw[Bool.and_eq_true]at n
   simp only[ab]at h ⊢
   obtain⟨x,r,e,h1,h2⟩:=h
   exact⟨x,r,e,Rep.cf o n.1 h1,ab.cf o n.2 h2⟩
end
theorem Out.same(o:Out F F' H)(s:ah H H'):Out F F' H':=fun b f=>(o b f).imp (fun h=>h) fun⟨u,hu,z⟩=>⟨u,s _ _ hu,z⟩
noncomputable def gB(env:Env)(o k:Expr)(p3:Pos):Prop:=∀v,assign (.Subscript o k p3) env v=(do
     let ov ←holding [v] (eval o env)
     let iv ←holding [v,ov] (eval k env)
     standAt p3
     holding [v,ov,iv] (setItem ov iv v)
     release [v,ov,iv] [])
theorem zC(i:Nat){x:Str}{e k:Expr}{f g:Ex}{p2 p3:Pos}(he:JE X e f)(hk:JE X k g)(hN:X.N[i]? =some x:=by rfl)(hv:L2.cg X.env.scope x:=by first|exact Or.inl rfl|exact Or.inr (Or.inl rfl)|exact Or.inr (Or.inr rfl))(hd:(x==("__debug__":Str))=false:=by decide)
   (hcd:(x==("__classdict__":Str))=false:=by decide)
   (ha:gB X.env (.Name x p2) k p3)
   (hs:swapsWithSole [.Subscript (.Name x p2) k p3] e pos.line X.env=pure false:=by rfl) (hw:swappedStores [.Subscript (.Name x p2) k p3] e X.env=pure none:=by rfl) (h1:(assignEach [.Subscript (.Name x p2) k p3] X.env).map (·.2)=[assign (.Subscript (.Name x p2) k p3) X.env]:=by rfl):
   JS X (.Assign [.Subscript (.Name x p2) k p3] e pos) (kH i g f):=fun F0=>
 cE (L2.nK he (L2.qa (L2.pv i hN hv hd hcd) hk L2.set_list ha) hs hw h1) fun D σ H ⟨ρ,F,fl,r,e,q⟩=>by
   obtain⟨d,ed,e⟩:=aj.mp e
   obtain⟨y,ey,e⟩:=aj.mp e
   split at e
   · rename_i xs j q1
     split at e
     · rename_i m hm
       cases e
       have oi:aW ρ i:=.inl ⟨_,q1⟩
       obtain⟨a,ys,ea,fa,haa,rs⟩:=r.rs.ol i _ q1
       refine⟨ρ,F,d,r.rs,ed,fun v H1 s1 rv=>⟨_,ea,ρ,F,_,(r.same s1).rs,ey,fun z H2 s2 rz=>?_⟩⟩
       have r2:=(r.same s1).same s2
       refine⟨a,ys,j,m,rfl,bh rz,s2 _ _ (s1 _ _ haa),by rw[←rs.length];exact hm,?_⟩
       obtain⟨mv,r'⟩:=r2.chg (s:=.ol (xs.set m d)) oi ea (.inl ⟨_,ys.set m v,rfl,rfl,ab.set m (rv.mv (.same s2)) (rs.mv (.same (s1.trans s2)))⟩)
       exact q _ _ _ (Mv.trans (.same (s1.trans s2)) mv) r'
     ·cases e
   ·cases e
end
section
variable{X:Cx}{M:Md}{G H H':Hp}{F0 F F':Addr→Prop}{σ:L2.St}{ρ:En}{pos:Pos}{pins:List (Addr×Obj)}{s:Shared}
theorem Bv{a:Expr}{fa:Ex}{p:Pos}(hgl:L2.Gl X "list")(hm:X.mg "list"=none)(ha:JE X a fa)(hs:starEach [a] X.env=(false,eval a X.env)::starEach [] X.env:=by rfl):JF X (.Call (.Name "list" p) [a] [] pos) (e1 iz fa):=
 aY (L2.kN L2.A9 hgl hm jg (d7 ha fh hs) (by decide) (by decide) hs) fun σ H Q ⟨ρ,F,ds,hr,e,q⟩=>by
   obtain⟨d,ed,e⟩:=aj.mp e
   refine⟨ρ,F,[d],hr,by show(fa ρ).bind _=_;rw[ed];rfl,fun vs H1 s1 rv=>?_⟩
   obtain⟨y,rfl,ry⟩:=rv.one
   unfold iz at e
   split at e
   · cases e
     simp only[Rep]at ry
     obtain⟨p,ys,rfl,h,rs⟩:=ry
     exact⟨p,ys,rfl,.inl h.sq,fun l hl=>q l H1 ys s1 hl rs⟩
   · cases e
     simp only[Rep]at ry
     obtain⟨p,ys,rfl,h,rs⟩:=ry
     exact⟨p,ys,rfl,.inr h.sq,fun l hl=>q l H1 ys s1 hl rs⟩
   ·cases e
end
noncomputable def intsOf:List D→Option (List Int)
 |[]=>some []
 |.int i::r=>(intsOf r).map (i:: ·)
 |_=>none
@[simp] noncomputable def Ct:D→R D
 | .lst xs=>match intsOf xs with
   |some ns=>.ok (.int ns.sum)
   |none=>.bad
 | .tup xs=>match intsOf xs with
   |some ns=>.ok (.int ns.sum)
   |none=>.bad
 |_=>.bad
noncomputable def qg:List D→Option (List Bool)
 |[]=>some []
 |.bl i::r=>(qg r).map (i:: ·)
 |_=>none
@[simp] noncomputable def CA:D→R D
 | .lst xs=>match qg xs with
   |some ns=>.ok (.bl (ns.any id))
   |none=>.bad
 |_=>.bad
noncomputable def unlike(ns:List Int):Nat:=(PyProof.Rows.firstMet (fun i=>ns.getD i 0) ns.length).length
@[simp] noncomputable def B4:D→R D
 | .lst xs=>match intsOf xs with
   |some ns=>if ns.length≤4000 then .ok (.int (unlike ns))else .bad
   |none=>.bad
 |_=>.bad
@[simp] noncomputable def Cb:D→D→R D
 |.tup x,.int j=>if 1<j∧j<1000∧x.length≤1000∧x.isEmpty=false then .ok (.tup (List.replicate j.toNat x).flatten)else .bad
 |_,_=>.bad
@[simp] noncomputable def Ck:D→D→R D
 |.int i,.int j=>if inR i=true∧inR j=true∧j - i≤16777216 then .ok (.lst (dR i j))else .bad
 |_,_=>.bad
section
variable{X:Cx}{M:Md}{G H H':Hp}{F0 F F':Addr→Prop}{σ:L2.St}{ρ:En}{pos:Pos}{pins:List (Addr×Obj)}{s:Shared}
end
section
variable{X:Cx}{M:Md}{G H H':Hp}{F0 F F':Addr→Prop}{σ:L2.St}{ρ:En}{pos:Pos}{pins:List (Addr×Obj)}{s:Shared}
end
section
variable{prog:Program}{w:World}{A:Around}{E:Value→Shared→Prop}{s:Shared}{e it:Addr}{fp:List Addr}{n i:Nat}{c:Int}{P:Nat→Value→Prop}{St:Nat→Heap→Prop}{old:Value}
end
noncomputable def kx(c0:Int)(d:Sd)(td:Tok)(e it:Addr)(i:Nat)(h:Heap):Prop:=(∃old,IsEnum h e it (c0+(i:Int)) old)∧d.ft it i h td
section
variable{X:Cx}{M:Md}{G H H':Hp}{F0 F F':Addr→Prop}{σ:L2.St}{ρ:En}{pos:Pos}{pins:List (Addr×Obj)}{s:Shared}
noncomputable def rD:Int→List D→List D
 |_,[]=>[]
 |k,x::xs=>.tup [.int k,x]::rD (k+1) xs
@[simp] noncomputable def BZ(c:Int)(a:Ex):bc:=fun ρ=>(a ρ).bind fun x=>(items x).bind fun xs=>.ok (rD c xs)
end
section
variable{prog:Program}{w:World}{A:Around}{E:Value→Shared→Prop}{s:Shared}
end
section
variable{X:Cx}{M:Md}{G H H':Hp}{F0 F F':Addr→Prop}{σ:L2.St}{ρ:En}{pos:Pos}{pins:List (Addr×Obj)}{s:Shared}
end
end PL
namespace PL
open PySem PySem.Spec PySem.W
open L2 (V Hp HO Cx PE PT PW PA PS bz PG cu VK TE TT TA TS TI TG Inv RelV Vals Rd aT aX upd ah Key XK Ends aN dY aZ R2 EP It Turn bY Un ba bM bX)
theorem Au{P:Program}{w:World}{H:Hp}{h:Heap}{a:Addr}{o:HO}(x:bM P w H h a o):∃ob,h.get? a=some ob:=by
 cases o with
 |lst xs=>obtain⟨_,_,_,_,e⟩:=x;exact⟨_,e⟩
 |tup xs=>obtain⟨_,_,_,ob,e,_⟩:=x;exact⟨_,e⟩
 |dK kvs=>obtain⟨_,_,_,_,o,_,_,e,_⟩:=x;exact⟨_,e⟩
 |dT kvs=>obtain⟨_,_,_,_,o,_,_,e,_⟩:=x;exact⟨_,e⟩
 |set S n=>obtain⟨o,_,_,_,e,_⟩:=x;exact⟨_,e⟩
 |ins C dx fs=>obtain⟨_,_,_,e,_⟩:=x;exact⟨_,e⟩
 |own y=>obtain⟨_,e⟩:=x;exact⟨_,e⟩
 |xd fs=>obtain⟨_,⟨_,_,_,e,_⟩,_⟩:=x;exact⟨_,e⟩
 |kf lo hi=>obtain⟨_,_,_,e⟩:=x;exact⟨_,e⟩
 |frz ob u=>obtain⟨e,_⟩:=x;exact⟨_,e⟩
 |gg ps=>exact⟨_,show h.get? a=some _ from x⟩
 |met f y=>exact⟨_,show h.get? a=some _ from x⟩
 |ext φ=>obtain⟨_,⟨_,e⟩,_⟩:=x;exact⟨_,e⟩
theorem xh{P:Program}{w:World}{H:Hp}{h h':Heap}(x:ba P w H h)(k:∀b o,H b≠none→h.get? b=some o→h'.get? b=some o):ba P w H h':=fun a o e=>
 (x a o e).fI (fun b u hb q=>k b u (by rcases hb with rfl|hb<;>simp_all) q) (fun _ q=>q) fun _ _ q=>q
section
variable{P:Program}{w:World}{K:PySem.W.Frag}{mg:Str→Option Value}{base:Heap}{N:List Str}{qual:Str}{scope:Scope}{f:Addr}{cdv:Value}{A:Around}{outer:List Env}{s:Shared}{H:Hp}{E:XK}
noncomputable def rz(n:Nat)(c:Str)(t:aF):List D→R D:=fun ds=>match t (ds.map Slot.sh++List.replicate (n - ds.length) .un)with
 |.ok true=>.exc (.bG c [] [])
 |_=>.bad
end
section
variable{M:Model}{A:Around}{E:Value→Shared→Prop}{K:PySem.W.Frag}{h:Heap}{g:Array GenState}{d:Drawn}{t:Nat}{os:OsState}{e C U:Addr}{oe:Obj}
end
section
variable{X:Cx}{pins:List (Addr×Obj)}{σ:L2.St}{H:Hp}{s:Shared}
end
structure jk(P:Program)(w:World)(C:Addr)(l:List Env)(H1 H':Hp)(h1:Heap)(a t:Addr)(B:Heap)(h:Heap):Prop where
 un:Un (bX l) [] H1 H' h1 h
 aB:ba P w H' h
 fl:Heap.FlyingW B l a (.ref C) (.ref t) h
 jc:∀b o,h.get? b=some o→(H' b≠none∨((∃o',h1.get? b=some o')∧b∉bX l))→B.get? b=some o
section
variable{P:Program}{w:World}{C:Addr}{l:List Env}{H1 H':Hp}{h1 h h5:Heap}{a t:Addr}{B:Heap}
theorem jk.step(x:jk P w C l H1 H' h1 a t B h)(st:B.StaysIn h5)(sm:h.UpToSlots h5):Un (bX l) [] H1 H' h1 h5∧ba P w H' h5∧∀b o,h5.get? b=some o→(H' b≠none∨((∃o',h1.get? b=some o')∧b∉bX l))→B.get? b=some o:=by
 have sl:∀b o,h.get? b=some o→b∈bX l→∃sl,h5.get? b=some {o with slots:=sl}:=fun b o e hb=>by
   obtain⟨_,o',ho',hnf⟩:=x.fl.2.2.1.mem hb
   rw[e]at ho';cases ho'
   exact sm b o e hnf
 refine⟨⟨fun b o e n hb hx'=>st _ _ (x.jc b o (x.un.keep b o e n hb hx') (.inr ⟨⟨o,e⟩,hb⟩)),fun b o e n hb hx'=>?_,x.un.free,fun b o e hx'=>?_,x.un.cU,x.un.cJ,x.un.dh⟩,xh x.aB fun b o hb q=>st _ _ (x.jc b o q (.inl hb)),fun b o eo hc=>?_⟩
 · obtain⟨s2,e2⟩:=x.un.slot b o e n hb hx'
   obtain⟨s3,e3⟩:=sl b _ e2 hb
   exact⟨s3,e3⟩
 · obtain⟨o',e'⟩:=x.un.there b o e hx'
   by_cases hb:b∈bX l
   · obtain⟨s3,e3⟩:=sl b _ e' hb
     exact⟨_,e3⟩
   ·exact⟨o',st _ _ (x.jc b o' e' (.inr ⟨⟨o,e⟩,hb⟩))⟩
 · rcases hc with hb|⟨⟨o',e'⟩,hb⟩
   · cases q:H' b with
     |none=>exact absurd q hb
     | some u=>
       obtain⟨ob,z⟩:=Au (x.aB _ _ q)
       have z2:=x.jc b ob z (.inl hb)
       have z3:=st _ _ z2
       rw[z3]at eo;cases eo
       exact z2
   · obtain⟨o2,e2⟩:=x.un.there b o' e' (by intro z;cases z)
     have z2:=x.jc b o2 e2 (.inr ⟨⟨o',e'⟩,hb⟩)
     have z3:=st _ _ z2
     rw[z3]at eo;cases eo
     exact z2
theorem jk.on(x:jk P w C l H1 H' h1 a t B h)(f5:Heap.FlyingW B l a (.ref C) (.ref t) h5)(sm:h.UpToSlots h5):jk P w C l H1 H' h1 a t B h5:=
 let⟨u,k,c⟩:=x.step f5.1 sm
 ⟨u,k,f5,c⟩
end
section
variable{X:Cx}{pins:List (Addr×Obj)}{σ:L2.St}{H:Hp}{s:Shared}{a:Addr}
end
section
variable{X:Cx}
end
section
variable{X:Cx}{pos:Pos}
end
end PL
namespace PL
open PySem PySem.Spec
open L2 (V Hp HO Cx PE PT PW PA PS bz PG cu VK TE TT TA TS TI TG Inv RelV Vals Rd aT aX upd ah Key XK Ends aN dY aZ R2 EP It Turn bY Un ju)
noncomputable abbrev dT(xs:List D):D:=.bG ⟨#[]⟩ [⟨#[116]⟩] xs
@[simp] noncomputable def vh:D→R D
 |.tup xs=>.ok (dT xs)
 |_=>.bad
@[simp] noncomputable def BV:D→R D
 |.bG _ (_::_) xs=>.ok (.tup xs)
 |_=>.bad
@[simp] noncomputable def BW:D→D→R D
 | .bG _ (_::_) xs,.int k=>match intsOf xs with
   |some ns=>.ok (.int (ns.count k:Nat))
   |none=>.bad
 |_,_=>.bad
@[simp] noncomputable def Ca(a:Ex)(lo hi:Option Ex):Ex:=e1 vh (BD a lo hi)
section
variable{X:Cx}{M:Md}{G H H':Hp}{F0 F F':Addr→Prop}{σ:L2.St}{ρ:En}{pos:Pos}{pins:List (Addr×Obj)}{s:Shared}
end
section
variable{X:Cx}{M:Md}
end
section
variable{X:Cx}{M:Md}{G H H':Hp}{F0 F F':Addr→Prop}{σ:L2.St}{ρ:En}{pos:Pos}{pins:List (Addr×Obj)}{s:Shared}
@[simp] noncomputable def BK(a:Ex):bc:=fun ρ=>(a ρ).bind fun x=>match x with
 |.lst xs=>.ok xs.reverse
 |_=>.bad
end
end PL
set_option maxHeartbeats 2000000
namespace PL
open PySem PySem.Spec PySem.W
section
variable{prog:Program}{w:World}{A:Around}{E:Value→Shared→Prop}{s:Shared}
noncomputable def jm(h:Heap)(a l:Addr)(i:Int):Prop:=∃o,h.get? a=some o∧o.cls=.type "reversed"∧o.data=.fields #[.ref l,rawInt i]
theorem jm.typeIs{a l:Addr}{i:Int}(x:jm s.heap a l i):s.TypeIs (.ref a) "reversed":=let⟨o,ho,hc,_⟩:=x;⟨o,ho,hc⟩
theorem jm.at{h h':Heap}{a l:Addr}{i:Int}(x:jm h a l i)(e:∀o,h.get? a=some o→h'.get? a=some o):jm h' a l i:=let⟨o,ho,r⟩:=x;⟨o,e _ ho,r⟩
end
section
open L2 (V Hp HO Cx PE PT PW PA PS bz PG cu VK TE TT TA TS TI TG Inv RelV Vals Rd aT aX upd ah Key XK Ends aN dY aZ R2 EP It Turn bY Un)
variable{X:Cx}{M:Md}{G H H':Hp}{F0 F F':Addr→Prop}{σ:L2.St}{ρ:En}{pos:Pos}{pins:List (Addr×Obj)}{s:Shared}
@[simp] noncomputable def Cw(a:Ex):bc:=fun ρ=>(a ρ).bind fun x=>match x with
 |.lst xs=>.ok xs.reverse
 |.tup xs=>.ok xs.reverse
 |_=>.bad
end
end PL
namespace PL
open PySem PySem.Spec
open PyProof.Rows (assign_Tuple)
open L2 (V Hp HO Cx PE PT PW PA PS bz PG cu VK TE TT TA TS TI TG Inv RelV Vals Rd aT aX upd ah Key XK Ends aN dY aZ R2 EP)
section
variable{prog:Program}{w:World}{A:Around}{E:Value→Shared→Prop}{s:Shared}
end
section
variable{X:Cx}{M:Md}{G H H':Hp}{F0 F F':Addr→Prop}{σ:L2.St}{ρ:En}{pos:Pos}{DE:Ends}
end
end PL
set_option maxHeartbeats 1000000
namespace PL
open PySem PySem.Spec
open L2 (V Hp HO Cx PE PT PW PA PS bz PG cu VK TE TT TA TS TI TG Inv RelV Vals Rd aT aX upd ah Key XK Ends aN dY aZ R2 EP It Turn bY Un)
section
variable{X:Cx}{M:Md}{G H H':Hp}{F0 F F':Addr→Prop}{σ:L2.St}{ρ:En}{pos:Pos}{pins:List (Addr×Obj)}{s:Shared}
end
noncomputable def bu:Ky→D
 |.inl i=>.int i
 |.inr x=>.str x
noncomputable def gz(P:Program)(w:World)(K:PySem.W.Frag)(H:Hp)(a:Addr)(ob:Obj)(kvs:List (Key×V)):Prop:=
 H a=some (.frz ob (.dK kvs))∨(K.lookup a=some ob∧∃(es:Array DictEntry) (ep:Nat) (vs:List (Key×Value)),ob.ExactDict∧ob.data=.dict es ep∧KeysOf (L2.bA P w) es∧Pairs (L2.bA P w) es.toList vs∧
   (vs.map (·.1)).Nodup∧L2.KV kvs vs∧kvs.length≤sizeLine∧(a==sysModules)=false)
theorem yq{M:Md}{H:Hp}{F:Addr→Prop}{a:Addr}{kvs:List (Key×V)}(h:dy M H F a kvs):∃ob,((¬F a∧H a=some (.frz ob (.dK kvs)))∨gz M.P M.w M.K (fun _=>none) a ob kvs)∧gz M.P M.w M.K H a ob kvs:=by
 rcases h with⟨n,ob,h⟩|⟨o,es,ep,vs,h1,h2,h3,h4,h5,h6,h7,h8,h9⟩
 ·exact⟨ob,.inl ⟨n,h⟩,.inl h⟩
 ·exact⟨o,.inr (.inr ⟨h1,es,ep,vs,h2,h3,h4,h5,h6,h7,h8,h9⟩),.inr ⟨h1,es,ep,vs,h2,h3,h4,h5,h6,h7,h8,h9⟩⟩
section
variable{X:Cx}{M:Md}{G H H':Hp}{F0 F F':Addr→Prop}{σ:L2.St}{ρ:En}{pos:Pos}{pins:List (Addr×Obj)}{s:Shared}
theorem ox{a:Addr}{ob:Obj}{kvs:List (Key×V)}(I:Inv X pins σ H s)(h:gz X.prog X.w X.K H a ob kvs):kvs.length≤sizeLine∧(a==sysModules)=false∧∃vs es ep,L2.KV kvs vs∧ob.data=.dict es ep∧s.heap.DictAt (L2.bA X.prog X.w) a vs ep:=by
 rcases h with h|⟨h1,es,ep,vs,h2,h3,h4,h5,h6,h7,h8,h9⟩
 · obtain⟨e0,z,y,vs,r,ob',es,ep,e1,c1,c2,c3,c4,c5⟩:=I.aB a _ h
   rw[e0]at e1
   cases e1
   exact⟨z,y,vs,es,ep,r,c2,ob,es,e0,c1,c2,c3,c4,c5⟩
 ·exact⟨h8,h9,vs,es,ep,h7,h3,ob,es,I.bI a ob h1,h2,h3,h4,h5,h6⟩
noncomputable def oI(P:Program)(w:World)(K:PySem.W.Frag)(a:Addr)(ob:Obj)(kvs:List (Key×V)):It:=
 ⟨fun i H=>gz P w K H a ob kvs∧i<kvs.length,fun i H x H'=>H'=H∧∃kv,kvs[i]? =some kv∧x=L2.kV kv.1,fun i H=>gz P w K H a ob kvs∧i=kvs.length⟩
theorem jP{kvs:List (Key×V)}{vs:List (Key×Value)}(h:L2.KV kvs vs):kvs.length=vs.length:=by
 unfold L2.KV at h
 induction h with
 |nil=>rfl
 |cons _ _ ih=>simp[ih]
theorem AK{kvs:List (Key×V)}{vs:List (Key×Value)}(h:L2.KV kvs vs):∀ {i:Nat} {p:Key×Value},vs[i]? =some p→∃q,kvs[i]? =some q∧q.1=p.1:=by
 unfold L2.KV at h
 induction h with
 |nil=>intro i p e;simp at e
 | cons hd _ ih=>
   intro i p e
   cases i with
   |zero=>simp at e;subst e;exact⟨_,rfl,hd.1⟩
   |succ i=>simpa using ih (i:=i) (by simpa using e)
theorem Bh{k:Key}{u:Value}(h:L2.gK k u=true):RelV (L2.kV k) u:=by
 rcases L2.eM h with⟨i,t,rfl,rfl⟩|⟨x,t,rfl,rfl⟩
 ·exact⟨t,rfl⟩
 ·exact⟨t,rfl⟩
theorem w8{P:Program}{w:World}{K:PySem.W.Frag}{tg:Expr}(a it:Addr)(ob:Obj)(es:Array DictEntry)(ep:Nat)(hda:ob.data=.dict es ep)(kvs:List (Key×V)):Turn P w K tg (oI P w K a ob kvs) [it] it (fun i h=>h.IsKeyIter it a i kvs.length ep) where
 mem:=by simp
 obj:=fun i h st b hb=>by
   have e:b=it:=by simpa using hb
   subst e
   obtain⟨o,e,c,d⟩:=st
   exact⟨o,e,fun v z=>by rw[d]at z;cases z⟩
 keep:=fun i h h' st k=>st.at fun o e=>k it (by simp) o e
 item:=by
   intro X hP hw hK hc i pins s σ H E I hf st hg
   subst hP hw hK
   obtain⟨dz,hi⟩:=hg
   obtain⟨hz,hs,vs,es',ep',rel,hda',dat⟩:=ox I dz
   rw[hda]at hda'
   cases hda'
   have hl:=jP rel
   have hx:vs[i]? =some vs[i]:=List.getElem?_eq_getElem (by omega)
   obtain⟨q,hq,eq⟩:=AK rel hx
   obtain⟨f0,f1,f2,f3,f4,f5⟩:=hf it (by simp)
   rw[hl]at st
   refine wpAny_pyNext_dict_item (k:=vs[i].1) (v:=vs[i].2) st dat hx fun key h' hkey st' sb=>?_
   have I1:Inv X pins σ H {s with heap:=h'}:=I.turned (t':=s.toks) (fun b o hb e=>(sb.2 b hb).trans e) f0 f1 f3 f4 f5
   obtain⟨o,e,c,d⟩:=id st'
   rw[←hl]at st'
   exact⟨key,rfl,L2.iJ (s:={s with heap:=h'}) e c d (by decide) ⟨L2.kV q.1,H,I1,by rw[eq];exact Bh hkey,⟨rfl,q,hq,rfl⟩,st',fun b hb=>(hf b hb).1⟩⟩
 done:=by
   intro X hP hw hK hc i pins s σ H E I hf st hg
   subst hP hw hK
   obtain⟨dz,hi⟩:=hg
   obtain⟨hz,hs,vs,es',ep',rel,hda',dat⟩:=ox I dz
   rw[hda]at hda'
   cases hda'
   have hl:=jP rel
   obtain⟨f0,f1,f2,f3,f4,f5⟩:=hf it (by simp)
   rw[hl]at st
   exact wpAny_pyNext_dict_end (I.ok.hd hc) st dat (List.getElem?_eq_none_iff.mpr (by omega)) fun h' eb=>⟨rfl,I.turned (t':=s.toks) (fun b o hb e=>eb b o hb e) f0 f1 f3 f4 f5⟩
 self:=fun _ _ _ _ _ st h=>wpAny_pyIter_keyiter st h
noncomputable def vP(P:Program)(w:World)(K:PySem.W.Frag)(tl:TE):TI:=fun σ H R=>tl σ H fun x H1=>∃a ob kvs,x=.ref a∧gz P w K H1 a ob kvs∧R (oI P w K a ob kvs) H1
theorem xO{tg l:Expr}{tl:TE}(hl:PE X l tl):L2.PI X tg l (vP X.prog X.w X.K tl):=by
 intro pins s σ H R I h
 refine L2.aD (hl pins s σ H _ I h) fun v s1 ⟨x,H1,I1,r1,q1⟩=>?_
 obtain⟨a,ob,kvs,e,dz,q⟩:=q1
 subst e
 cases r1
 obtain⟨hz,hs,vs,es,ep,rel,hda,dat⟩:=ox I1 dz
 have hlen:=jP rel
 refine wpAny_pyIter_dict hs dat ?_
 rw[←hlen]
 refine⟨s1.heap.objs.size,[s1.heap.objs.size],_,_,H1,rfl,I1.kept (t':=s1.toks) fun b o e=>Heap.get?_push_of_some _ e,w8 a _ ob es ep hda kvs,⟨_,Heap.get?_push_size _ rfl,rfl,rfl⟩,fun b hb=>?_,q⟩
 have e:b=s1.heap.objs.size:=by simpa using hb
 subst e
 exact I1.iW (Nat.le_refl _) (I1.aB.fresh (Nat.le_refl _))
noncomputable def gp(a:Ex):bc:=fun ρ=>(a ρ).bind fun x=>match x with
 |.aA ks _=>.ok (ks.map bu)
 |_=>.bad
theorem vn{k:Ky}:Rep M H F (bu k) (L2.kV k):=by
 cases k with
 |inl i=>exact cP
 |inr x=>exact g8
theorem uM{a:Addr}{ob:Obj}{ks:List Ky}{xs:List V}(hd:(¬F a∧H a=some (.frz ob (.dK (ks.zip xs))))∨gz M.P M.w M.K (fun _=>none) a ob (ks.zip xs))(hl:ks.length=xs.length):Gives M (oI M.P M.w M.K a ob (ks.zip xs)) H F (ks.map bu):=by
 intro H' F' mv tr
 have hzl:(ks.zip xs).length=ks.length:=by rw[List.length_zip];omega
 have dz:gz M.P M.w M.K H' a ob (ks.zip xs):=by
   rcases hd with⟨n,h⟩|h
   ·exact .inl (mv _ _ n h).2
   · rcases h with h|h
     ·cases h
     ·exact .inr h
 refine⟨fun i d hd'=>?_,?_⟩
 · obtain⟨hi,_⟩:=List.getElem?_eq_some_iff.mp hd'
   rw[List.length_map]at hi
   rw[List.getElem?_map,List.getElem?_eq_getElem hi]at hd'
   cases hd'
   refine⟨⟨dz,by omega⟩,fun y H2 hy=>?_⟩
   obtain⟨rfl,kv,hkv,rfl⟩:=hy
   obtain⟨hk,e⟩:=List.getElem?_eq_some_iff.mp hkv
   have:kv.1=ks[i]:=by rw[←e,List.getElem_zip]
   rw[this]
   exact⟨ah.refl _,vn⟩
 ·exact⟨dz,by rw[List.length_map,hzl]⟩
theorem Am{tg l:Expr}{fa:Ex}(ha:JE X l fa):JI X tg l (gp fa):=
 ky (xO ha) fun σ H Q ⟨ρ,F,ds,r,e,q⟩=>by
   obtain⟨d,ed,e⟩:=aj.mp e
   cases d with
   | aA ks vs=>
     cases e
     refine⟨ρ,F,_,r,ed,fun v H1 s1 rv=>?_⟩
     simp only[Rep]at rv
     obtain⟨a,xs,rfl,h,hl,rs⟩:=rv
     obtain⟨ob,h1,h2⟩:=yq h
     exact⟨a,ob,_,rfl,h2,q _ H1 s1 (uM (M:=ar X) h1 hl)⟩
   |_=>cases e
end
noncomputable def putL(k:Ky)(d:D)(ks:List Ky)(vs:List D):List Ky×List D:=if(ks.any fun a=>decide (a=k))=true then(ks,List.zipWith (fun a v=>if a=k then d else v) ks vs)else(ks++[k],vs++[d])
noncomputable def bC(i:Nat)(k e:Ex):Sm:=fun ρ=>(e ρ).bind fun d=>(k ρ).bind fun q=>match ρ[i]?,keyOf q with
 |some (.od ks vs),some y=>if ks.length<1000 then .ok (.next (ρ.set i (.od (putL y d ks vs).1 (putL y d ks vs).2)))else .bad
 |_,_=>.bad
section
variable{X:Cx}{M:Md}{G H H':Hp}{F0 F F':Addr→Prop}{σ:L2.St}{ρ:En}{pos:Pos}{pins:List (Addr×Obj)}{s:Shared}
theorem nB{ks:List Ky}{xs:List V}(k:Ky)(v:V)(hl:ks.length=xs.length):
   L2.putK (ks.zip xs) k v=(if(ks.any fun a=>decide (a=k))=true then ks.zip (List.zipWith (fun a x=>if a=k then v else x) ks xs)else(ks++[k]).zip (xs++[v])):=by
 have hany:∀ {ks:List Ky} {xs:List V},ks.length=xs.length→((ks.zip xs).any fun kv=>decide (kv.1=k))=(ks.any fun a=>decide (a=k)):=by
   intro ks
   induction ks with
   |nil=>intro xs _;simp
   | cons a ks ih=>
     intro xs hl
     cases xs with
     |nil=>simp at hl
     |cons x xs=>rw[List.zip_cons_cons,List.any_cons,List.any_cons,ih (by simpa using hl)]
 unfold L2.putK
 rw[hany hl]
 by_cases h:(ks.any fun a=>decide (a=k))=true
 · rw[if_pos h,if_pos h]
   have e:∀ {ks:List Ky} {xs:List V},ks.length=xs.length→(ks.zip xs).map (fun kv=>if kv.1=k then(kv.1,v)else kv)=ks.zip (List.zipWith (fun a x=>if a=k then v else x) ks xs):=by
     intro ks
     induction ks with
     |nil=>intro xs _;simp
     | cons a ks ih=>
       intro xs hl
       cases xs with
       |nil=>simp at hl
       | cons x xs=>
         rw[List.zip_cons_cons,List.map_cons,ih (by simpa using hl),List.zipWith_cons_cons,List.zip_cons_cons]
         by_cases h:a=k
         ·simp[h]
         ·simp[h]
   exact e hl
 · rw[if_neg h,if_neg h,List.zip_append hl]
   rfl
theorem mr{k:Ky}{d:D}{v:V}(rd:Rep M H F d v):∀ {ks:List Ky} {ds:List D} {xs:List V},ab M H F ds xs→ab M H F (List.zipWith (fun a y=>if a=k then d else y) ks ds) (List.zipWith (fun a x=>if a=k then v else x) ks xs)
 |[],_,_,_=>by simpa using ab.nil
 | a::ks,[],xs,r=>by
   simp only[ab]at r;subst r
   simpa using ab.nil
 | a::ks,y::ds,xs,r=>by
   simp only[ab]at r
   obtain⟨x,xs',rfl,r1,r2⟩:=r
   rw[List.zipWith_cons_cons,List.zipWith_cons_cons]
   refine ab.cons ?_ (mr rd r2)
   by_cases h:a=k
   ·rw[if_pos h,if_pos h];exact rd
   ·rw[if_neg h,if_neg h];exact r1
theorem Av(i:Nat){x:Str}{e k:Expr}{f g:Ex}{p2 p3:Pos}(hu:X.A.units+64<cLine)(hk:JE X k g)(he:JE X e f)(hN:X.N[i]? =some x:=by rfl)(hv:L2.cg X.env.scope x:=by first|exact Or.inl rfl|exact Or.inr (Or.inl rfl)|exact Or.inr (Or.inr rfl))(hd:(x==("__debug__":Str))=false:=by decide)
   (hcd:(x==("__classdict__":Str))=false:=by decide) (hs:swapsWith e (some (.Subscript (.Name x p2) k p3)) pos.line X.env=pure false:=by rfl):
   JS X (.Assign [.Subscript (.Name x p2) k p3] e pos) (bC i g f):=fun F0=>
 cE (L2.qp (by omega) (L2.pv i hN hv hd hcd) hk he hs) fun D σ H ⟨ρ,F,fl,r,e,q⟩=>by
   obtain⟨d,ed,e⟩:=aj.mp e
   obtain⟨y,ey,e⟩:=aj.mp e
   have ⟨ks,vs,z,q1,hk,e9⟩:∃ks vs z,ρ[i]? =some (.od ks vs)∧keyOf y=some z∧(if ks.length<1000 then R.ok (Fl.next (ρ.set i (.od (putL z d ks vs).1 (putL z d ks vs).2)))else .bad)=.ok fl:=by
     cases hq:ρ[i]? with
     |none=>rw[hq]at e;cases e
     | some s=>
       rw[hq]at e
       cases s with
       | od ks vs=>
         cases hz:keyOf y with
         |none=>rw[hz]at e;cases e
         |some z=>rw[hz]at e;exact⟨ks,vs,z,rfl,rfl,e⟩
       |_=>cases e
   by_cases hlt:ks.length<1000
   · rw[if_pos hlt]at e9
     cases e9
     have oi:aW ρ i:=.inr ⟨_,_,q1⟩
     obtain⟨a,xs,ea,fa,ha,hl,rs⟩:=r.rs.od i _ _ q1
     refine⟨ρ,F,d,r.rs,ed,fun v H1 s1 rv=>⟨_,ea,ρ,F,y,(r.same s1).rs,ey,fun w H2 s2 rw'=>?_⟩⟩
     have r2:=(r.same s1).same s2
     have ha2:=s2 _ _ (s1 _ _ ha)
     cases gm hk rw'
     have rv2:=rv.mv (M:=ar X) (F':=F) (.same s2)
     have rs2:=rs.mv (M:=ar X) (F':=F) (.same (s1.trans s2))
     have hzl:(ks.zip xs).length<sizeLine:=by
       have:(sizeLine:Nat)=16777216:=sizeLine_eq
       rw[List.length_zip];omega
     refine⟨a,_,rfl,L2.fW.k ha2 hzl,?_⟩
     rw[nB z v hl]
     unfold putL at q
     by_cases hm:(ks.any fun a=>decide (a=z))=true
     · rw[if_pos hm]at q ⊢
       obtain⟨mv,r'⟩:=r2.chg (s:=.od ks (List.zipWith (fun a y=>if a=z then d else y) ks vs)) oi ea (.inr ⟨_,_,_,rfl,rfl,by rw[List.length_zipWith];omega,mr rv2 rs2⟩)
       exact q _ _ _ (Mv.trans (.same (s1.trans s2)) mv) r'
     · rw[if_neg hm]at q ⊢
       obtain⟨mv,r'⟩:=r2.chg (s:=.od (ks++[z]) (vs++[d])) oi ea (.inr ⟨_,_,_,rfl,rfl,by rw[List.length_append,List.length_append,hl];rfl,rs2.append (ab.cons rv2 ab.nil)⟩)
       exact q _ _ _ (Mv.trans (.same (s1.trans s2)) mv) r'
   ·rw[if_neg hlt]at e9;cases e9
end
section
variable{X:Cx}{M:Md}{G H H':Hp}{F0 F F':Addr→Prop}{σ:L2.St}{ρ:En}{pos:Pos}{pins:List (Addr×Obj)}{s:Shared}
end
section
variable{X:Cx}{M:Md}{G H H':Hp}{F0 F F':Addr→Prop}{σ:L2.St}{ρ:En}{pos:Pos}{pins:List (Addr×Obj)}{s:Shared}
end
section
variable{X:Cx}{M:Md}{G H H':Hp}{F0 F F':Addr→Prop}{σ:L2.St}{ρ:En}{pos:Pos}{pins:List (Addr×Obj)}{s:Shared}
end
section
variable{X:Cx}{M:Md}{G H H':Hp}{F0 F F':Addr→Prop}{σ:L2.St}{ρ:En}{pos:Pos}{pins:List (Addr×Obj)}{s:Shared}
end
section
variable{X:Cx}{M:Md}{G H H':Hp}{F0 F F':Addr→Prop}{σ:L2.St}{ρ:En}{pos:Pos}{pins:List (Addr×Obj)}{s:Shared}
end
section
variable{X:Cx}{M:Md}{G H H':Hp}{F0 F F':Addr→Prop}{σ:L2.St}{ρ:En}{pos:Pos}{pins:List (Addr×Obj)}{s:Shared}
end
section
variable{X:Cx}{M:Md}{G H H':Hp}{F0 F F':Addr→Prop}{σ:L2.St}{ρ:En}{pos:Pos}{pins:List (Addr×Obj)}{s:Shared}
noncomputable def mD(M:Md)(G:Hp)(F0:Addr→Prop)(H:Hp)(F:Addr→Prop)(i:Nat)(v:Option (Option V))(D:Ends):Fl→Prop
 |.next ρ'=>∀σ' H' F',Mv F H F' H'→aG M G F0 H' F' σ' ρ'→σ'[i]? =v→D.nx σ' H'
 |.brk ρ'=>∀σ' H' F',Mv F H F' H'→aG M G F0 H' F' σ' ρ'→σ'[i]? =v→D.bk σ' H'
 |.cont ρ'=>∀σ' H' F',Mv F H F' H'→aG M G F0 H' F' σ' ρ'→σ'[i]? =v→D.ct σ' H'
 |.ret d=>∀v H' F',Mv F H F' H'→ah G H'→(∀a,F0 a→F' a)→Rep M H' F' d v→D.rt v H'
 |.eZ _=>False
 |.cy _=>False
theorem mD.mv{i:Nat}{v:Option (Option V)}{DE:Ends}(m:Mv F H F' H'):∀ {fl:Fl},mD M G F0 H F i v DE fl→mD M G F0 H' F' i v DE fl
 |.next _,h=>fun σ' H2 F2 m2 r=>h σ' H2 F2 (m.trans m2) r
 |.brk _,h=>fun σ' H2 F2 m2 r=>h σ' H2 F2 (m.trans m2) r
 |.cont _,h=>fun σ' H2 F2 m2 r=>h σ' H2 F2 (m.trans m2) r
 |.ret _,h=>fun σ' H2 F2 m2 a b r=>h σ' H2 F2 (m.trans m2) a b r
 |.eZ _,h=>h
 |.cy _,h=>h
end
end PL
namespace PySem
theorem xv:typeLookup (.type "list") "keys"=pure none:=am_miss_of_fast (by decide+kernel)
theorem zT{prog:Program}{w:World}{A:Around}{E:Value→Shared→Prop}{s:Shared}{a:Addr}{o:Obj}{xs:Array Value}{k:Nat}{Q:Option Value→Shared→Prop}
   (hx:s.heap.get? a=some o) (hc:o.cls=.type "list") (hdat:o.data=.seq xs k) (hd:o.dict=none) (hA:A.handled=none)
   (h:∀h' tk,(∀b ob,s.heap.get? b=some ob→h'.get? b=some ob)→Q none {s with heap:=h',toks:=tk}):
   wpAny (model prog w) A (getAttr? (.ref a) "keys") Q E s:=by
 obtain⟨c,aA,dat,sl⟩:=o
 simp only at hc hdat hd
 subst hc hdat hd
 obtain⟨hp,g,d,tk,os⟩:=s
 have hT:∀tk',(⟨hp,g,d,tk',os⟩:Shared).TypeIs (.ref a) "list":=fun _=>⟨_,hx,rfl⟩
 have f1:=sub_AttributeError
 have f3:=F.slot_list_getattribute.lookup
 have f4:=F.slot_list_getattribute.bind (.ref a)
 have f5:=am_list_getattr_none
 unfold getAttr? getAttrBy? getAttrBy
 repeat (any_goals (first|assumption|exact hT _|((with_reducible show wpAny _ _ (call (Value.builtin "list.__getattribute__") _ _) _ _ _);refine call_meets F.slot_list_getattribute (hT _) am_entry_list_getattribute (F.args_list_getattribute_2 _ _) (meets_getattribute_miss_list a xs k sl "keys" _ xv (by decide+kernel) (by size_fits)) ⟨hx,hA,fun h' tk' e hx'=>?_⟩)|wp_step))
 obtain⟨t',u',he⟩:=hx'.there
 show wpAny _ _ (getattributeRaised _ _ _ _ _ _ _) _ _ _
 unfold getattributeRaised
 repeat (any_goals (first|assumption|wp_step))
 exact h _ _ hx'.keeps
theorem kI:plainId "dict.update.loop"=true:=by decide+kernel
theorem pD:entryFor table "dict.update.loop"=some Builtin.«dict.update.loop»:=entryFor_of_tree (by kernel_rfl)
section
variable{prog:Program}{w:World}{A:Around}{R:Result→Shared→Prop}{I ax:Addr}
noncomputable def mW{K:Type} [DecidableEq K] (knd:KeyKind prog w K) (h:Heap) (v:Value) (p:K×Value):Prop:=∃a key,v=.ref a∧PyProof.Rows.IsTup h a #[key,p.2]∧knd.is p.1 key=true
theorem ym{K:Type} [DecidableEq K] {knd:KeyKind prog w K} (hh:A.in1.handled=none) {d:Addr} {items:Array Value} {res:Value} (hne:ax≠I) (hdI:d≠I) (hdx:d≠ax):∀(more:List (K×Value)) (i:Nat) (z:Int) (kvs:List (K×Value)) (s:Shared),items.size - i=more.length→i≤items.size→
   s.heap.IsListIter I ax i→s.heap.IsList ax items→s.heap.DictOf knd d kvs→kvs.length+more.length≤sizeLine→(∀(j:Nat) p,more[j]? =some p→∃v,items[i+j]? =some v∧mW knd s.heap v p)→
   (∀h' tk,(∀b o,b≠I→b≠d→s.heap.get? b=some o→h'.get? b=some o)→h'.DictOf knd d (merged kvs more)→R (.ok (.ret res)) {s with heap:=h',toks:=tk})→
   codeAny (model prog w) A (.builtin "dict.update.loop" ⟨[.ref d,.ref I,rawInt z,res],[]⟩) R s:=by
 intro more
 induction more with
 | nil=>
   intro i z kvs s hk hi hit hl hd hsz hp hR
   have hin:i=items.size:=by simp at hk;omega
   subst hin
   refine codeAny_builtin pD ?_
   rw[Around.under_plainId kI _]
   show wpAny _ A.in1 (pyNext (.ref I) >>= _) _ _ s
   refine wpAny_bind (wpAny_pyNext_list_end hh hit hl (by simp) fun h' he'=>?_)
   show wpAny _ _ (Builtin.Dict.addKeywords d [] >>= _) _ _ _
   refine wpAny_bind (wpAny_pure (wpAny_pure ?_))
   exact hR h' s.toks (fun b o hb _ e=>he' b o hb e) (hd.extBut he' hdI)
 | cons p more ih=>
   intro i z kvs s hk hi hit hl hd hsz hp hR
   obtain⟨v,hv,hpv⟩:=hp 0 p rfl
   rw[Nat.add_zero]at hv
   obtain⟨a,key,rfl,hta,hkey⟩:=hpv
   refine codeAny_builtin pD ?_
   rw[Around.under_plainId kI _]
   show wpAny _ A.in1 (pyNext (.ref I) >>= _) _ _ s
   refine wpAny_bind (wpAny_pyNext_list_item hit hl hv fun h' hit' hs'=>?_)
   refine wpAny_bind (wpAny_holding ?_)
   have hd':h'.DictOf knd d kvs:=hd.extBut hs'.extBut hdI
   have hl':h'.IsList ax items:=hl.extBut hs'.extBut hne
   have kx:∀ {b xs},PyProof.Rows.IsTup s.heap b xs→b≠I∧b≠d:=fun {b xs} ht=>by
     obtain⟨o,ho,hc,_⟩:=ht
     refine⟨fun e=>?_,fun e=>?_⟩
     · obtain⟨o2,ho2,hc2,_⟩:=hit
       rw[←e,ho]at ho2
       cases ho2
       rw[hc]at hc2
       exact absurd hc2 (by decide)
     · obtain⟨o2,_,_,ho2,hc2,_⟩:=hd
       rw[←e,ho]at ho2
       cases ho2
       exact absurd (hc.symm.trans hc2.1) (by decide)
   have hta':PyProof.Rows.IsTup h' a #[key,p.2]:=hta.extBut hs'.extBut (kx hta).1
   obtain⟨o,ho,hc,n,hda⟩:=id hta'
   refine wpAny_bind (wpAny_tryCatch ?_)
   unfold Builtin.Dict.pairItems
   refine wpAny_bind (wpAny_typeOf (show Shared.TypeIs {s with heap:=h'} (.ref a) "tuple" from⟨o,ho,hc⟩) ?_)
   rw[if_pos (by decide)]
   refine wpAny_bind (wpAny_seqItems ho hda (wpAny_pure ?_))
   show wpAny _ _ (holding [key,p.2] (dictSet d key p.2)) _ _ _
   refine wpAny_holding (wpAny_dictSet_pairs hkey hd' (fun h'' hd'' hs''=>?_) (by rw[List.length_cons]at hsz;omega))
   refine wpAny_pure ⟨plainId_quiet kI _,ih (i+1) (z+1) (stored kvs p.1 p.2) _ (by simp at hk ⊢;omega) (by simp at hk;omega) (hit'.extBut hs''.extBut (Ne.symm hdI)) (hl'.extBut hs''.extBut (Ne.symm hdx)) hd'' ?_ (fun j q hq=>?_) fun h3 tk3 k3 d3=>?_⟩
   · have:=stored_length_le kvs p.1 p.2
     rw[List.length_cons]at hsz
     omega
   · obtain⟨v2,hv2,b,key2,rfl,ht2,hk2⟩:=hp (j+1) q (by simpa using hq)
     refine⟨_,by rw[show i+1+j=i+(j+1) by omega];exact hv2,b,key2,rfl,?_,hk2⟩
     exact(ht2.extBut hs'.extBut (kx ht2).1).extBut hs''.extBut (kx ht2).2
   · refine hR h3 tk3 (fun b o hb hbd e=>k3 b o hb hbd ?_) d3
     rw[hs''.2 b hbd,hs'.2 b hb];exact e
theorem vz{E:Value→Shared→Prop}{s:Shared}{K:Type} [DecidableEq K] {knd:KeyKind prog w K} {a:Addr} {o:Obj} {items:Array Value} {n:Nat} {more:List (K×Value)} {Q:Value→Shared→Prop} (hh:A.handled=none)
   (hx:s.heap.get? a=some o) (hc:o.cls=.type "list") (hdat:o.data=.seq items n) (hdi:o.dict=none) (hlen:items.size=more.length) (hsz:more.length≤sizeLine) (hp:∀(j:Nat) p,more[j]? =some p→∃v,items[j]? =some v∧mW knd s.heap v p)
   (h:∀h' tk,(∀b ob,s.heap.get? b=some ob→h'.get? b=some ob)→h'.DictOf knd s.heap.objs.size (merged [] more)→Q (.ref s.heap.objs.size) {s with heap:=h',toks:=tk}):
   wpAny (model prog w) A (call (.type "dict") [.ref a]) Q E s:=by
 refine callType_codes (Q₁:=fun obj s₁=>obj=.ref s.heap.objs.size∧s₁={s with heap:=s.heap.push {cls:=.type "dict",data:=.dict #[]} }) F.kt_called_dict (F.kt_typeCall_dict_1 _) F.entry_dict_init (kt_code_dict_new _ ⟨rfl,rfl⟩) ?_
 rintro obj s₁ ⟨rfl,rfl⟩
 have hnew:(s.heap.push {cls:=.type "dict",data:=.dict #[]}).DictOf knd s.heap.objs.size []:=Heap.DictOf.new s.heap
 have hx':(s.heap.push {cls:=.type "dict",data:=.dict #[]}).get? a=some o:=Heap.get?_push_of_some _ hx
 have hlt:a<s.heap.objs.size:=Heap.lt_size hx
 have hTl:Shared.TypeIs {s with heap:=s.heap.push {cls:=.type "dict",data:=.dict #[]} } (.ref a) "list":=⟨o,hx',hc⟩
 refine⟨hnew.typeIs,F.args_dict_init_2 _ _,?_⟩
 unfold Builtin.«dict.__init__»
 refine wpAny_bind ?_
 unfold Builtin.Dict.selfAndRest
 refine wpAny_bind (wpAny_notOrdered_dict hnew.typeIs ?_)
 show wpAny _ _ (pure (s.heap.objs.size,[Value.ref a])) _ _ _
 refine wpAny_pure ?_
 show wpAny _ _ (Builtin.Dict.updateFrom "dict.__init__" s.heap.objs.size (.ref a) [] .none) _ _ _
 unfold Builtin.Dict.updateFrom
 refine wpAny_bind (wpAny_typeOf hTl ?_)
 rw[if_pos (by decide)]
 refine wpAny_bind (zT hx' hc hdat hdi hh fun h1 tk1 k1=>?_)
 show wpAny _ _ (rule "dict.__init__.from-pairs" >>= _) _ _ _
 refine wpAny_bind (wpAny_rule ?_)
 have hl1:h1.IsList a items:=⟨o,k1 _ _ hx',hc,n,hdat⟩
 refine wpAny_bind (wpAny_pyIter_list hl1 ?_)
 have hsz1:s.heap.objs.size<h1.objs.size:=by
   obtain⟨o',_,_,ho',_⟩:=hnew
   exact Heap.lt_size (k1 _ _ ho')
 refine wpAny_pure ⟨plainId_quiet kI _,?_⟩
 refine ym (knd:=knd) (prog:=prog) (w:=w) (A:=A.in1) (I:=h1.objs.size) (ax:=a) hh (Nat.ne_of_lt (Nat.lt_trans hlt hsz1)) (Nat.ne_of_lt hsz1) (Nat.ne_of_gt hlt) more 0 0 [] _ (by simpa using hlen) (Nat.zero_le _) ?_ ?_ ?_ (by simpa using hsz) (fun j p hj=>?_) fun h2 tk2 k2 d2=>?_
 ·exact⟨_,Heap.get?_push_size _ rfl,rfl,rfl⟩
 ·exact hl1.push _
 · obtain⟨o',es,ep,ho',r⟩:=hnew
   exact⟨o',es,ep,Heap.get?_push_of_some _ (k1 _ _ ho'),r⟩
 · obtain⟨v,hv,b,key,rfl,ht,hk⟩:=hp j p hj
   exact⟨_,by rw[Nat.zero_add];exact hv,b,key,rfl,((ht.push _).keeps k1).push _,hk⟩
 · refine⟨rfl,h h2 tk2 (fun b ob hb=>?_) d2⟩
   have hbl:b<s.heap.objs.size:=Heap.lt_size hb
   exact k2 b ob (Nat.ne_of_lt (Nat.lt_trans hbl hsz1)) (Nat.ne_of_lt hbl) (Heap.get?_push_of_some _ (k1 _ _ (Heap.get?_push_of_some _ hb)))
end
end PySem
namespace PL
open PySem PySem.Spec
open L2 (V Hp HO Cx PE PT PW PA PS bz PG cu VK TE TT TA TS TI TG Inv RelV Vals Rd aT aX upd ah Key XK Ends aN dY aZ R2 EP It Turn bY Un)
noncomputable def wg:List D→List Ky→List D→R D
 |[],ks,vs=>.ok (.aA ks vs)
 | .tup [k,v]::r,ks,vs=>match keyOf k with
   |some q=>wg r (putL q v ks vs).1 (putL q v ks vs).2
   |none=>.bad
 |_,_,_=>.bad
section
variable{X:Cx}{M:Md}{G H H':Hp}{F0 F F':Addr→Prop}{σ:L2.St}{ρ:En}{pos:Pos}{pins:List (Addr×Obj)}{s:Shared}
theorem zY{k:Ky}{d:D}{v:V}{ks:List Ky}{vs:List D}{xs:List V}(hl:ks.length=xs.length)(rs:ab M H F vs xs)(rd:Rep M H F d v):
   ∃ys,L2.putK (ks.zip xs) k v=(putL k d ks vs).1.zip ys∧(putL k d ks vs).1.length=ys.length∧ab M H F (putL k d ks vs).2 ys:=by
 rw[nB k v hl]
 unfold putL
 by_cases hm:(ks.any fun a=>decide (a=k))=true
 · rw[if_pos hm,if_pos hm]
   exact⟨_,rfl,by rw[List.length_zipWith];show ks.length=min ks.length xs.length;omega,mr rd rs⟩
 · rw[if_neg hm,if_neg hm]
   exact⟨_,rfl,by rw[List.length_append,List.length_append,hl];rfl,rs.append (ab.cons rd ab.nil)⟩
noncomputable def iN(M:Md)(H:Hp)(F:Addr→Prop):List V→List (Key×V)→Prop
 |[],[]=>True
 |x::xs,p::ps=>(∃a,x=.ref a∧cC M H F a [L2.kV p.1,p.2])∧iN M H F xs ps
 |_,_=>False
theorem pd(I:Inv X pins σ H s):∀ {ps:List V} {more:List (Key×V)} {its:List Value},iN (ar X) H F ps more→Vals ps its→∃ms:List (Key×Value),L2.KV more ms∧ms.length=its.length∧∀(j:Nat) p,ms[j]? =some p→∃v,its[j]? =some v∧mW (L2.bA X.prog X.w) s.heap v p
 |[],[],its,_,hv=>by cases hv;exact⟨[],.nil,rfl,fun j p h=>by simp at h⟩
 | x::ps,p::more,its,h,hv=>by
   obtain⟨⟨a,rfl,ht⟩,h⟩:=h
   cases hv with
   | cons rv hv=>
     cases rv
     obtain⟨ms,k1,k2,k3⟩:=pd I h hv
     obtain⟨ts,tv,tt,_⟩:=ip I ht
     obtain⟨u1,u2,rfl,ru1,ru2⟩:=L2.vals2 tv
     refine⟨(p.1,u2)::ms,.cons ⟨rfl,ru2⟩ k1,by simp[k2],fun j q hq=>?_⟩
     cases j with
     |zero=>cases hq;exact⟨_,rfl,a,u1,rfl,tt,L2.gL ru1⟩
     |succ j=>exact k3 j q hq
 |[],_::_,_,h,_=>h.elim
 |_::_,[],_,h,_=>h.elim
noncomputable def wU(M:Md):List V→Hp→VK→Prop:=fun xs H Q=>∃F l ps more,xs=[.ref l]∧d5 M H F l ps∧iN M H F ps more∧more.length≤1000∧∀p,H p=none→Q (.ref p) (upd H p (.dK (L2.ck [] more)))
theorem xf(hc:X.calm=true):aZ X (.type "dict") (wU (ar X)):=by
 intro pins s σ H xs us Q I r h
 obtain⟨F,l,ps,more,rfl,hl,hp,hz,q⟩:=h
 obtain⟨u,rfl,ru⟩:=L2.vals1 r
 cases ru
 obtain⟨its,n,sl,hv,hg,_⟩:=iO I hl
 obtain⟨ms,k1,k2,k3⟩:=pd I hp hv
 have hlen:=k1.length
 have h3:(sizeLine:Nat)=16777216:=sizeLine_eq
 refine vz (knd:=L2.bA X.prog X.w) (more:=ms) (I.ok.hd hc) hg rfl rfl rfl (by rw[List.size_toArray];exact k2.symm) (by omega) (fun j p hj=>by rw[List.getElem?_toArray];exact k3 j p hj) fun h' tk hk dd=>?_
 have hm:(L2.ck [] more).length≤sizeLine:=by
   have:=L2.kR more []
   rw[List.length_nil]at this
   omega
 exact⟨.ref _,_,I.laid (a:=s.heap.objs.size) (o:=.dK (L2.ck [] more)) (t':=tk) hk (Nat.le_refl _) (L2.jC hm (beq_eq_false_iff_ne.mpr (Ne.symm (Nat.ne_of_lt I.big))) (k1.merge .nil) dd),rfl,q _ (I.aB.fresh (Nat.le_refl _))⟩
noncomputable def Ao(M:Md)(f:Ex):TE:=fun σ H Q=>∃ρ F ks ds,aI M H F σ ρ∧f ρ=.ok (.aA ks ds)∧∀p H' xs,ah H H'→H' p=none→ks.length=xs.length→ab M H' F ds xs→Q (.ref p) (upd H' p (.dK (ks.zip xs)))
noncomputable abbrev JD(X:Cx)(e:Expr)(f:Ex):Prop:=PE X e (Ao (ar X) f)
theorem yS(i:Nat){x:Str}{e:Expr}{f:Ex}{p2:Pos}(hN:X.N.Nodup)(he:JD X e f)(hi:X.N[i]? =some x)(hx:L2.Loc X.env.scope x)(hf:X.fn x=true∨X.env.scope.names.lookup x=some .local)
   (hs:swapsWith e (some (.Name x p2)) pos.line X.env=pure false):JS X (.Assign [.Name x p2] e pos) (jD i f):=fun F0=>
 cE (L2.jW hN hi hx he hs hf) fun D σ H ⟨ρ,F,fl,r,e,q⟩=>by
   obtain⟨d,ed,e⟩:=aj.mp e
   split at e
   · cases e
     refine⟨ρ,F,_,_,r.rs,ed,fun p H1 xs s1 hp hl rs=>?_⟩
     obtain⟨mv,r'⟩:=(r.same s1).new (i:=i) (s:=.od _ _) hp (.inr ⟨_,_,xs,rfl,rfl,hl,rs⟩)
     exact q _ _ _ (Mv.trans (.same s1) mv) r'
   ·cases e
theorem zW{e:Expr}{f:Ex}(he:JD X e f)(hl:∀ρ d,f ρ=.ok d→∃ks ds,d=.aA ks ds):JE X e f:=
 mx he fun σ H Q ⟨ρ,F,d,hr,e,q⟩=>by
   obtain⟨ks,ds,rfl⟩:=hl _ _ e
   refine⟨ρ,F,ks,ds,hr,e,fun p H1 xs s1 hp hl rs=>⟨p,ks.zip xs,rfl,L2.aV,fun ob=>?_⟩⟩
   rw[L2.om]
   refine q _ _ (s1.trans (ah.bS hp _)) ?_
   simp only[Rep]
   exact⟨p,xs,rfl,.inl ⟨jf (hr.same s1).aK hp,ob,L2.aV⟩,hl,rs.mv (.same (ah.bS hp _))⟩
noncomputable def eS:List Ky→List D→List Ky→List D→List Ky×List D
 |k::ks,v::vs,as,bs=>eS ks vs (putL k v as bs).1 (putL k v as bs).2
 |_,_,as,bs=>(as,bs)
noncomputable def mz(i:Nat)(e:Ex):Sm:=fun ρ=>(e ρ).bind fun d=>match d,ρ[i]? with
 |.aA ks vs,some (.od as bs)=>if ks.length+as.length<1000 then .ok (.next (ρ.set i (.od (eS ks vs as bs).1 (eS ks vs as bs).2)))else .bad
 |_,_=>.bad
theorem rA:∀ {ks:List Ky} {vs:List D} {ys:List V} {as:List Ky} {bs:List D} {xs:List V},ks.length=ys.length→ab M H F vs ys→as.length=xs.length→ab M H F bs xs→
   ∃zs,L2.ck (as.zip xs) (ks.zip ys)=(eS ks vs as bs).1.zip zs∧(eS ks vs as bs).1.length=zs.length∧ab M H F (eS ks vs as bs).2 zs
 | [],vs,ys,as,bs,xs,_,_,hl,rs=>by
   have:eS [] vs as bs=(as,bs):=by unfold eS;cases vs<;>rfl
   rw[this]
   exact⟨xs,rfl,hl,rs⟩
 | k::ks,vs,ys,as,bs,xs,h,rv,hl,rs=>by
   cases ys with
   |nil=>cases h
   | cons y ys=>
     cases vs with
     |nil=>simp only[ab]at rv;cases rv
     | cons v vs=>
       simp only[ab]at rv
       obtain⟨_,_,e,r1,r2⟩:=rv
       cases e
       obtain⟨zs,e1,l1,rs1⟩:=zY (k:=k) hl rs r1
       obtain⟨ws,e2,l2,rs2⟩:=rA (by simpa using h) r2 l1 rs1
       refine⟨ws,?_,l2,rs2⟩
       show L2.ck (L2.putK (as.zip xs) k y) (ks.zip ys)=_
       rw[e1];exact e2
theorem tL{H1:Hp}{s1:Shared}{a:Addr}{ob:Obj}{kvs:List (Key×V)}(I0:Inv X pins σ H s)(e0:H a=some (.dK kvs))(I1:Inv X pins σ H1 s1)(e1:H1 a=some (.frz ob (.dK kvs))):Inv X pins σ (upd H1 a (.dK kvs)) s1:=by
 have nn:∀ {b},H1 b=none→upd H1 a (.dK kvs) b=none:=fun {b} h=>by rw[L2.az (fun z=>by subst z;rw[e1]at h;cases h)];exact h
 refine⟨I1.ok,I1.os,I1.bare,⟨I1.base.keep,I1.base.slot,fun b o h n x=>nn (I1.base.free b o h n x),I1.base.there,fun b xs h=>?_,fun b o u h=>?_,fun b ps h=>?_⟩,I1.loc,I1.cell,nn I1.free,fun x c h=>nn (I1.d8 x c h),fun p hp=>?_,fun b o h=>?_,I1.len⟩
 · have h1:=I1.base.cU b xs h
   rw[L2.az (fun z=>by subst z;rw[e1]at h1;cases h1)];exact h1
 · have h0:=I0.base.cJ b o u h
   rw[L2.az (fun z=>by subst z;rw[e0]at h0;cases h0)];exact I1.base.cJ b o u h
 · obtain⟨more,h1⟩:=I1.base.dh b ps h
   exact⟨more,by rw[L2.az (fun z=>by subst z;rw[e1]at h1;cases h1)];exact h1⟩
 · obtain⟨h1,h2,h3⟩:=I1.pin p hp
   exact⟨h1,nn h2,h3⟩
 · by_cases hb:b=a
   · subst hb
     rw[L2.aV]at h
     cases h
     obtain⟨_,z,y,vs,r,dd⟩:=I1.aB b _ e1
     exact⟨z,y,vs,r,dd⟩
   · rw[L2.az hb]at h
     refine(I1.aB b o h).fI (fun c u _ q=>q) (fun c q=>?_) fun c xs q=>?_
     ·rw[L2.az (fun z=>by subst z;rw[e1]at q;cases q)];exact q
     ·rw[L2.az (fun z=>by subst z;rw[e1]at q;cases q)];exact q
mutual
theorem Rep.iR{H2:Hp}{F2:Addr→Prop}(o:∀a xs,cC M H F a xs→cC M H2 F2 a xs):∀ {d:D} {v:V},cf d=true→Rep M H F d v→Rep M H2 F2 d v
 |.ai,_,_,h=>by simp only[Rep]at h ⊢;exact h
 |.bl _,_,_,h=>by simp only[Rep]at h ⊢;exact h
 |.int _,_,_,h=>by simp only[Rep]at h ⊢;exact h
 |.str _,_,_,h=>by simp only[Rep]at h ⊢;exact h
 | .tup ds,_,n,h=>by
   simp only[Rep]at h ⊢
   obtain⟨a,xs,e,t,r⟩:=h
   exact⟨a,xs,e,o _ _ t,ab.iR o (by unfold PL.cf at n;exact n) r⟩
 |.lst _,_,n,_=>by unfold PL.cf at n;cases n
 |.aA _ _,_,n,_=>by unfold PL.cf at n;cases n
 |.bG _ _ _,_,n,_=>by unfold PL.cf at n;cases n
theorem ab.iR{H2:Hp}{F2:Addr→Prop}(o:∀a xs,cC M H F a xs→cC M H2 F2 a xs):∀ {ds:List D} {xs:List V},gr ds=true→ab M H F ds xs→ab M H2 F2 ds xs
 |[],_,_,h=>by simp only[ab]at h ⊢;exact h
 | d::ds,_,n,h=>by
   unfold gr at n
   rw[Bool.and_eq_true]at n
   simp only[ab]at h ⊢
   obtain⟨x,r,e,h1,h2⟩:=h
   exact⟨x,r,e,Rep.iR o n.1 h1,ab.iR o n.2 h2⟩
end
end
end PL
namespace PySem
namespace F
end F
section
variable{prog:Program}{w:World}{A:Around}{E:Value→Shared→Prop}{s:Shared}{a:Addr}{o:Obj}{ep:Nat}{t:SetTable}
end
end PySem
namespace PL
open PySem PySem.Spec
open L2 (V Hp HO Cx PE PT PW PA PS bz PG cu VK TE TT TA TS TI TG Inv RelV Vals Rd aT aX upd ah Key XK Ends aN dY aZ R2 EP It Turn bY Un)
section
variable{X:Cx}{M:Md}{G H H':Hp}{F0 F F':Addr→Prop}{σ:L2.St}{ρ:En}{pos:Pos}{pins:List (Addr×Obj)}{s:Shared}
end
mutual
noncomputable def T.toD:T→D
 |.d x=>x
 |.l ts=>.lst (T.fO ts)
 |.m ks ts=>.aA ks (T.fO ts)
 |.tu ts=>.tup (T.fO ts)
noncomputable def T.fO:List T→List D
 |[]=>[]
 |t::ts=>T.toD t::T.fO ts
end
noncomputable def T.at:T→List Nat→Option T
 |t,[]=>some t
 | .l ts,k::p=>match ts[k]? with
   |some t=>T.at t p
   |none=>none
 | .m _ ts,k::p=>match ts[k]? with
   |some t=>T.at t p
   |none=>none
 | .tu ts,k::p=>match ts[k]? with
   |some t=>T.at t p
   |none=>none
 |.d _,_::_=>none
noncomputable def T.put(n:T):T→List Nat→T
 |_,[]=>n
 | .l ts,k::p=>match ts[k]? with
   |some t=>.l (ts.set k (T.put n t p))
   |none=>.l ts
 | .m ks ts,k::p=>match ts[k]? with
   |some t=>.m ks (ts.set k (T.put n t p))
   |none=>.m ks ts
 | .tu ts,k::p=>match ts[k]? with
   |some t=>.tu (ts.set k (T.put n t p))
   |none=>.tu ts
 |.d x,_::_=>.d x
section
variable{X:Cx}{M:Md}{G H H':Hp}{F0 F F':Addr→Prop}{σ:L2.St}{ρ:En}{pos:Pos}{pins:List (Addr×Obj)}{s:Shared}
mutual
theorem af.less(hs:∀a,F' a→F a):∀ {t:T} {v:V} {as:List Addr},(∀b∈as,F' b)→af M H F t v as→af M H F' t v as
 | .d x,v,as,_,h=>by
   simp only[af]at h ⊢
   exact⟨h.1,h.2.sub hs⟩
 | .l ts,v,as,k,h=>by
   simp only[af]at h ⊢
   obtain⟨a,xs,bs,e1,rfl,f,e2,r⟩:=h
   exact⟨a,xs,bs,e1,rfl,k a List.mem_cons_self,e2,ag.less hs (fun b hb=>k b (List.mem_cons_of_mem _ hb)) r⟩
 | .m ks ts,v,as,k,h=>by
   simp only[af]at h ⊢
   obtain⟨a,xs,bs,e1,rfl,f,e2,l,r⟩:=h
   exact⟨a,xs,bs,e1,rfl,k a List.mem_cons_self,e2,l,ag.less hs (fun b hb=>k b (List.mem_cons_of_mem _ hb)) r⟩
 | .tu ts,v,as,k,h=>by
   simp only[af]at h ⊢
   obtain⟨a,xs,e1,f,e2,r⟩:=h
   exact⟨a,xs,e1,fun z=>f (hs a z),e2,ag.less hs k r⟩
theorem ag.less(hs:∀a,F' a→F a):∀ {ts:List T} {xs:List V} {as:List Addr},(∀b∈as,F' b)→ag M H F ts xs as→ag M H F' ts xs as
 |[],xs,as,_,h=>by simp only[ag]at h ⊢;exact h
 | t::ts,xs,as,k,h=>by
   simp only[ag]at h ⊢
   obtain⟨x,r,bs,cs,e1,rfl,h1,h2⟩:=h
   exact⟨x,r,bs,cs,e1,rfl,af.less hs (fun b hb=>k b (List.mem_append_left _ hb)) h1,ag.less hs (fun b hb=>k b (List.mem_append_right _ hb)) h2⟩
end
theorem ag.part:∀ {ts:List T} {xs:List V} {as:List Addr} {k:Nat} {t:T},ag M H F ts xs as→ts[k]? =some t→∃x bs,xs[k]? =some x∧af M H F t x bs∧bs.Sublist as
 |[],_,_,_,_,_,e=>by simp at e
 | t::ts,xs,as,0,_,h,e=>by
   simp only[ag]at h
   obtain⟨x,r,bs,cs,rfl,rfl,h1,h2⟩:=h
   cases e
   exact⟨x,bs,rfl,h1,List.sublist_append_left _ _⟩
 | t::ts,xs,as,k+1,_,h,e=>by
   simp only[ag]at h
   obtain⟨x,r,bs,cs,rfl,rfl,h1,h2⟩:=h
   obtain⟨y,ds,h3,h4,h5⟩:=ag.part h2 (by simpa using e)
   exact⟨y,ds,by simpa using h3,h4,h5.trans (List.sublist_append_right _ _)⟩
theorem ag.chg{H2:Hp}{F2:Addr→Prop}{N:List Addr}{c:Addr}{t':T}{x:V}(m:Mv F H F2 H2)(hk:∀b u,b≠c→H b=some u→H2 b=some u)(hF2:∀b,F b→F2 b):∀ {j:Nat} {ts:List T} {xs:List V} {as:List Addr} {t:T},ag M H F ts xs as→as.Nodup→ts[j]? =some t→xs[j]? =some x→
   (∀bs,af M H F t x bs→bs.Nodup→c∈bs∧∃bs',af M H2 F2 t' x bs'∧bs'.Nodup∧(∀b∈bs',b∈bs∨(b∈N∧H b=none))∧∀b∈N,b∈bs')→
   c∈as∧∃as',ag M H2 F2 (ts.set j t') xs as'∧as'.Nodup∧(∀b∈as',b∈as∨(b∈N∧H b=none))∧∀b∈N,b∈as'
 |j,[],_,_,_,_,_,e,_,_=>by simp at e
 | 0,t::ts,xs,as,_,h,nd,e,ex,k=>by
   simp only[ag]at h
   obtain⟨y,r,bs,cs,rfl,rfl,h1,h2⟩:=h
   cases e;cases ex
   have nd2:=List.nodup_append.mp nd
   obtain⟨hc,bs',k1,k2,k3,k4⟩:=k bs h1 nd2.1
   refine⟨List.mem_append_left _ hc,bs'++cs,?_,List.nodup_append.mpr ⟨k2,nd2.2.1,fun a ha b hb z=>?_⟩,fun b hb=>?_,fun b hb=>List.mem_append_left _ (k4 b hb)⟩
   · rw[List.set_cons_zero]
     simp only[ag]
     refine⟨_,r,bs',cs,rfl,rfl,k1,h2.mv m fun b hb u f hu=>⟨hF2 b f,hk b u (fun z=>?_) hu⟩⟩
     subst z
     exact nd2.2.2 b hc b hb rfl
   · subst z
     rcases k3 a ha with h|⟨_,h⟩
     ·exact nd2.2.2 a h a hb rfl
     · obtain⟨_,u,hu⟩:=h2.fs a hb
       rw[h]at hu;cases hu
   · rcases List.mem_append.mp hb with hb|hb
     ·exact(k3 b hb).imp (List.mem_append_left _) id
     ·exact .inl (List.mem_append_right _ hb)
 | j+1,t::ts,xs,as,_,h,nd,e,ex,k=>by
   simp only[ag]at h
   obtain⟨y,r,bs,cs,rfl,rfl,h1,h2⟩:=h
   have nd2:=List.nodup_append.mp nd
   obtain⟨hc,cs',k1,k2,k3,k4⟩:=ag.chg m hk hF2 h2 nd2.2.1 (by simpa using e) (by simpa using ex) k
   refine⟨List.mem_append_right _ hc,bs++cs',?_,List.nodup_append.mpr ⟨nd2.1,k2,fun a ha b hb z=>?_⟩,fun b hb=>?_,fun b hb=>List.mem_append_right _ (k4 b hb)⟩
   · rw[List.set_cons_succ]
     simp only[ag]
     refine⟨y,r,bs,cs',rfl,rfl,h1.mv m fun b hb u f hu=>⟨hF2 b f,hk b u (fun z=>?_) hu⟩,k1⟩
     subst z
     exact nd2.2.2 b hb b hc rfl
   · subst z
     rcases k3 a hb with h|⟨_,h⟩
     ·exact nd2.2.2 a ha a h rfl
     · obtain⟨_,u,hu⟩:=h1.fs a ha
       rw[h]at hu;cases hu
   · rcases List.mem_append.mp hb with hb|hb
     ·exact .inl (List.mem_append_left _ hb)
     ·exact(k3 b hb).imp (List.mem_append_right _) id
theorem zip_inj{ks:List Ky}{xs ys:List V}(l1:ks.length=xs.length)(l2:ks.length=ys.length)(h:ks.zip xs=ks.zip ys):xs=ys:=by
 have h1:=congrArg (List.map Prod.snd) h
 rw[List.map_snd_zip (by omega),List.map_snd_zip (by omega)]at h1
 exact h1
structure dU(M:Md)(H H2:Hp)(F F2:Addr→Prop)(c:Addr)(n0 n1:T)(bs0 bs1:List Addr):Prop where
 old:af M H F n0 (.ref c) bs0
 mem:c∈bs0
 new:af M H2 F2 n1 (.ref c) bs1
 nd:bs1.Nodup
 out:∀b u,b≠c→H b=some u→H2 b=some u
 fs:∀b,F2 b↔F b∨b∈bs1
 ie:∀b∈bs1,b∈bs0∨H b=none
theorem dU.fc{H2:Hp}{F2:Addr→Prop}{c:Addr}{n0 n1:T}{bs0 bs1:List Addr}(C:dU M H H2 F F2 c n0 n1 bs0 bs1):F c:=(C.old.fs c C.mem).1
theorem dU.mv{H2:Hp}{F2:Addr→Prop}{c:Addr}{n0 n1:T}{bs0 bs1:List Addr}(C:dU M H H2 F F2 c n0 n1 bs0 bs1):Mv F H F2 H2:=fun b o n e=>
 ⟨fun f=>((C.fs b).mp f).elim n fun hb=>(C.ie b hb).elim (fun h=>n (C.old.fs b h).1) (fun h=>by rw[h]at e;cases e),C.out b o (fun z=>by subst z;exact n C.fc) e⟩
theorem af.put{H2:Hp}{F2:Addr→Prop}{n0 n1:T}{c:Addr}{bs0 bs1:List Addr}(C:dU M H H2 F F2 c n0 n1 bs0 bs1):∀ {p:List Nat} {t:T} {v:V} {as:List Addr},af M H F t v as→as.Nodup→ak H t v p n0 (.ref c)→
   c∈as∧∃as1,af M H2 F2 (T.put n1 t p) v as1∧as1.Nodup∧(∀b∈as1,b∈as∨(b∈bs1∧H b=none))∧∀b∈bs1,b∈as1
 | [],t,v,as,h,nd,e=>by
   have e':t=n0∧v=.ref c:=by cases t<;>exact e
   obtain⟨rfl,rfl⟩:=e'
   have:=af.fZ C.old h
   subst this
   have ep:T.put n1 t []=n1:=by cases t<;>rfl
   rw[ep]
   exact⟨C.mem,bs1,C.new,C.nd,fun b hb=>(C.ie b hb).imp id fun h=>⟨hb,h⟩,fun b hb=>hb⟩
 | k::p,.l ts,v,as,h,nd,e=>by
   simp only[ak]at e
   simp only[af]at h
   obtain⟨a,xs,t1,x1,rfl,e2,et,ex,e⟩:=e
   obtain⟨a',ys,bs,ea,rfl,f,e2',r⟩:=h
   cases ea
   have e9:xs=ys:=by rw[e2']at e2;injection e2 with e2;injection e2 with e2;exact e2.symm
   subst e9
   have nd2:=List.nodup_cons.mp nd
   obtain⟨hc,as',k1,k2,k3,k4⟩:=ag.chg (t':=T.put n1 t1 p) C.mv C.out (fun b f=>(C.fs b).mpr (.inl f)) r nd2.2 et ex fun bs' hb' nb'=>af.put C hb' nb' e
   have hca:a≠c:=fun z=>by subst z;exact nd2.1 hc
   refine⟨List.mem_cons_of_mem _ hc,a::as',?_,List.nodup_cons.mpr ⟨fun ha=>?_,k2⟩,fun b hb=>?_,fun b hb=>List.mem_cons_of_mem _ (k4 b hb)⟩
   · show af M _ _ (match ts[k]? with|some t=>T.l (ts.set k (T.put n1 t p))|none=>T.l ts) _ _
     rw[et]
     simp only[af]
     exact⟨a,_,as',rfl,rfl,(C.fs a).mpr (.inl f),C.out a _ hca e2',k1⟩
   · rcases k3 a ha with h|⟨_,h⟩
     ·exact nd2.1 h
     ·rw[h]at e2';cases e2'
   · rcases List.mem_cons.mp hb with rfl|hb
     ·exact .inl List.mem_cons_self
     ·exact(k3 b hb).imp (List.mem_cons_of_mem _) id
 | k::p,.m ks0 ts,v,as,h,nd,e=>by
   simp only[ak]at e
   simp only[af]at h
   obtain⟨a,xs,t1,x1,rfl,e2,l1,et,ex,e⟩:=e
   obtain⟨a',ys,bs,ea,rfl,f,e2',l2,r⟩:=h
   cases ea
   have e9:xs=ys:=zip_inj l1 l2 (by rw[e2']at e2;injection e2 with z;injection z with z;exact z.symm)
   subst e9
   have nd2:=List.nodup_cons.mp nd
   obtain⟨hc,as',k1,k2,k3,k4⟩:=ag.chg (t':=T.put n1 t1 p) C.mv C.out (fun b f=>(C.fs b).mpr (.inl f)) r nd2.2 et ex fun bs' hb' nb'=>af.put C hb' nb' e
   have hca:a≠c:=fun z=>by subst z;exact nd2.1 hc
   refine⟨List.mem_cons_of_mem _ hc,a::as',?_,List.nodup_cons.mpr ⟨fun ha=>?_,k2⟩,fun b hb=>?_,fun b hb=>List.mem_cons_of_mem _ (k4 b hb)⟩
   · show af M _ _ (match ts[k]? with|some t=>T.m ks0 (ts.set k (T.put n1 t p))|none=>T.m ks0 ts) _ _
     rw[et]
     simp only[af]
     exact⟨a,xs,as',rfl,rfl,(C.fs a).mpr (.inl f),C.out a _ hca e2',l1,k1⟩
   · rcases k3 a ha with h|⟨_,h⟩
     ·exact nd2.1 h
     ·rw[h]at e2';cases e2'
   · rcases List.mem_cons.mp hb with rfl|hb
     ·exact .inl List.mem_cons_self
     ·exact(k3 b hb).imp (List.mem_cons_of_mem _) id
 | k::p,.tu ts,v,as,h,nd,e=>by
   simp only[ak]at e
   simp only[af]at h
   obtain⟨a,xs,t1,x1,rfl,e2,et,ex,e⟩:=e
   obtain⟨a',ys,ea,f,e2',r⟩:=h
   cases ea
   have e9:xs=ys:=by rw[e2']at e2;injection e2 with e2;injection e2 with e2;exact e2.symm
   subst e9
   obtain⟨hc,as',k1,k2,k3,k4⟩:=ag.chg (t':=T.put n1 t1 p) C.mv C.out (fun b f=>(C.fs b).mpr (.inl f)) r nd et ex fun bs' hb' nb'=>af.put C hb' nb' e
   refine⟨hc,as',?_,k2,k3,k4⟩
   show af M _ _ (match ts[k]? with|some t=>T.tu (ts.set k (T.put n1 t p))|none=>T.tu ts) _ _
   rw[et]
   simp only[af]
   exact⟨a,_,rfl,(C.mv _ _ f e2').1,(C.mv _ _ f e2').2,k1⟩
 |k::p,.d _,v,as,h,nd,e=>e.elim
end
section
variable{X:Cx}{M:Md}{G H H':Hp}{F0 F F':Addr→Prop}{σ:L2.St}{ρ:En}{pos:Pos}{pins:List (Addr×Obj)}{s:Shared}
theorem T.vA{n:T}(hn:n.own=true):∀ {t:T} {p:List Nat},t.own=true→(T.put n t p).own=true
 |t,[],_=>by cases t<;>exact hn
 |.l ts,k::p,_=>by unfold T.put;split<;>rfl
 |.m ks ts,k::p,_=>by unfold T.put;split<;>rfl
 |.d x,k::p,h=>by cases h
 |.tu ts,k::p,h=>by cases h
theorem ak.part:∀ {p:List Nat} {t:T} {v:V} {t1:T} {w:V} {as:List Addr},af M H F t v as→ak H t v p t1 w→∃bs,af M H F t1 w bs∧bs.Sublist as
 | [],t,v,t1,w,as,tr,h=>by
   have e':t=t1∧v=w:=by cases t<;>exact h
   obtain⟨rfl,rfl⟩:=e'
   exact⟨as,tr,List.Sublist.refl _⟩
 | k::p,.l ts,v,t1,w,as,tr,h=>by
   simp only[ak]at h
   simp only[af]at tr
   obtain⟨a,xs,tp,xp,rfl,e2,etp,exp,h⟩:=h
   obtain⟨a2,ys,bs,ea2,rfl,f,e22,r⟩:=tr
   cases ea2
   have e9:xs=ys:=by rw[e22]at e2;injection e2 with z;injection z with z;exact z.symm
   subst e9
   obtain⟨xp',dp,exp1,rp,subp⟩:=r.part etp
   rw[exp]at exp1;cases exp1
   obtain⟨cs,h1,h2⟩:=ak.part rp h
   exact⟨cs,h1,(h2.trans subp).trans (List.sublist_cons_self _ _)⟩
 | k::p,.m ks0 ts,v,t1,w,as,tr,h=>by
   simp only[ak]at h
   simp only[af]at tr
   obtain⟨a,xs,tp,xp,rfl,e2,l1,etp,exp,h⟩:=h
   obtain⟨a2,ys,bs,ea2,rfl,f,e22,l2,r⟩:=tr
   cases ea2
   have e9:xs=ys:=zip_inj l1 l2 (by rw[e22]at e2;injection e2 with z;injection z with z;exact z.symm)
   subst e9
   obtain⟨xp',dp,exp1,rp,subp⟩:=r.part etp
   rw[exp]at exp1;cases exp1
   obtain⟨cs,h1,h2⟩:=ak.part rp h
   exact⟨cs,h1,(h2.trans subp).trans (List.sublist_cons_self _ _)⟩
 | k::p,.tu ts,v,t1,w,as,tr,h=>by
   simp only[ak]at h
   simp only[af]at tr
   obtain⟨a,xs,tp,xp,rfl,e2,etp,exp,h⟩:=h
   obtain⟨a2,ys,ea2,f,e22,r⟩:=tr
   cases ea2
   have e9:xs=ys:=by rw[e22]at e2;injection e2 with z;injection z with z;exact z.symm
   subst e9
   obtain⟨xp',dp,exp1,rp,subp⟩:=r.part etp
   rw[exp]at exp1;cases exp1
   obtain⟨cs,h1,h2⟩:=ak.part rp h
   exact⟨cs,h1,h2.trans subp⟩
 |k::p,.d _,v,t1,w,as,tr,h=>h.elim
theorem ag.apart:∀ {ts:List T} {xs:List V} {as:List Addr} {j k:Nat} {tj tk:T} {xj xk:V} {bs cs:List Addr},ag M H F ts xs as→as.Nodup→j≠k→ts[j]? =some tj→ts[k]? =some tk→xs[j]? =some xj→xs[k]? =some xk→af M H F tj xj bs→af M H F tk xk cs→∀b∈bs,b∉cs
 |[],_,_,_,_,_,_,_,_,_,_,_,_,_,e,_,_,_,_,_=>by simp at e
 | t::ts,xs,as,j,k,tj,tk,xj,xk,bs,cs,h,nd,hne,ej,ek,exj,exk,rj,rk=>by
   simp only[ag]at h
   obtain⟨x,r,b1,c1,rfl,rfl,h1,h2⟩:=h
   have nd2:=List.nodup_append.mp nd
   cases j with
   | zero=>
     cases k with
     |zero=>exact absurd rfl hne
     | succ k=>
       cases ej;cases exj
       have:=af.fZ h1 rj
       subst this
       obtain⟨y,ds,ey,ry,sub⟩:=h2.part (k:=k) (by simpa using ek)
       have ey2:r[k]? =some xk:=by simpa using exk
       rw[ey]at ey2;cases ey2
       have:=af.fZ ry rk
       subst this
       exact fun b hb hc=>nd2.2.2 b hb b (sub.subset hc) rfl
   | succ j=>
     cases k with
     | zero=>
       cases ek;cases exk
       have:=af.fZ h1 rk
       subst this
       obtain⟨y,ds,ey,ry,sub⟩:=h2.part (k:=j) (by simpa using ej)
       have ey2:r[j]? =some xj:=by simpa using exj
       rw[ey]at ey2;cases ey2
       have:=af.fZ ry rj
       subst this
       exact fun b hb hc=>nd2.2.2 b hc b (sub.subset hb) rfl
     |succ k=>exact ag.apart (j:=j) (k:=k) h2 nd2.2.1 (by omega) (by simpa using ej) (by simpa using ek) (by simpa using exj) (by simpa using exk) rj rk
theorem nA{α:Type}{l:List α}{k:Nat}{a b:α}(h:l[k]? =some a):(l.set k b)[k]? =some b:=by
 rw[List.getElem?_set_self (List.getElem?_eq_some_iff.mp h).1]
noncomputable def below:List Nat→List Nat→Bool
 |[],_::_=>true
 |k::p,j::q=>decide (k=j)&&below p q
 |_,_=>false
theorem af.head{t:T}{c:Addr}{as:List Addr}(h:af M H F t (.ref c) as)(ho:t.own=true):c∈as:=by
 cases t with
 |d x=>cases ho
 |tu ts=>cases ho
 |l ts=>simp only[af]at h;obtain⟨a,xs,bs,e,rfl,_⟩:=h;cases e;exact List.mem_cons_self
 |m ks ts=>simp only[af]at h;obtain⟨a,xs,bs,e,rfl,_⟩:=h;cases e;exact List.mem_cons_self
theorem ak.ie:∀ {p q:List Nat} {t:T} {v:V} {n0 t1:T} {x w:V},ak H t v p n0 x→ak H t v q t1 w→below p q=true→∃k r,ak H n0 x (k::r) t1 w
 |[],[],_,_,_,_,_,_,_,_,hb=>by cases hb
 | [],k::r,t,v,n0,t1,x,w,hp,hq,_=>by
   have e':t=n0∧v=x:=by cases t<;>exact hp
   obtain⟨rfl,rfl⟩:=e'
   exact⟨k,r,hq⟩
 |k::p,[],_,_,_,_,_,_,_,_,hb=>by cases hb
 | k::p,k'::q,.l ts,v,n0,t1,x,w,hp,hq,hb=>by
   unfold below at hb
   rw[Bool.and_eq_true,decide_eq_true_eq]at hb
   obtain⟨rfl,hb⟩:=hb
   simp only[ak]at hp hq
   obtain⟨a,xs,tp,xp,rfl,e2,etp,exp,hp⟩:=hp
   obtain⟨a1,xs1,tq,xq,ea1,e21,etq,exq,hq⟩:=hq
   cases ea1
   have e8:xs1=xs:=by rw[e2]at e21;injection e21 with z;injection z with z;exact z.symm
   subst e8
   rw[etp]at etq;cases etq
   rw[exp]at exq;cases exq
   exact ak.ie hp hq hb
 | k::p,k'::q,.m ks ts,v,n0,t1,x,w,hp,hq,hb=>by
   unfold below at hb
   rw[Bool.and_eq_true,decide_eq_true_eq]at hb
   obtain⟨rfl,hb⟩:=hb
   simp only[ak]at hp hq
   obtain⟨a,xs,tp,xp,rfl,e2,l1,etp,exp,hp⟩:=hp
   obtain⟨a1,xs1,tq,xq,ea1,e21,l2,etq,exq,hq⟩:=hq
   cases ea1
   have e8:xs1=xs:=zip_inj l2 l1 (by rw[e2]at e21;injection e21 with z;injection z with z;exact z.symm)
   subst e8
   rw[etp]at etq;cases etq
   rw[exp]at exq;cases exq
   exact ak.ie hp hq hb
 | k::p,k'::q,.tu ts,v,n0,t1,x,w,hp,hq,hb=>by
   unfold below at hb
   rw[Bool.and_eq_true,decide_eq_true_eq]at hb
   obtain⟨rfl,hb⟩:=hb
   simp only[ak]at hp hq
   obtain⟨a,xs,tp,xp,rfl,e2,etp,exp,hp⟩:=hp
   obtain⟨a1,xs1,tq,xq,ea1,e21,etq,exq,hq⟩:=hq
   cases ea1
   have e8:xs1=xs:=by rw[e2]at e21;injection e21 with z;injection z with z;exact z.symm
   subst e8
   rw[etp]at etq;cases etq
   rw[exp]at exq;cases exq
   exact ak.ie hp hq hb
 |k::p,k'::q,.d _,v,n0,t1,x,w,hp,hq,hb=>hp.elim
theorem ak.put{H2:Hp}{F2:Addr→Prop}{n0 n1:T}{c:Addr}{bs0 bs1:List Addr}(C:dU M H H2 F F2 c n0 n1 bs0 bs1)(o1:n1.own=true):∀ {q:List Nat} {p:List Nat} {t:T} {v:V} {t1:T} {w:V} {as:List Addr},af M H F t v as→as.Nodup→ak H t v p n0 (.ref c)→ak H t v q t1 w→t1.own=true→below p q=false→
   ∃t2,t2.own=true∧ak H2 (T.put n1 t p) v q t2 w
 | [],p,t,v,t1,w,as,tr,nd,hp,hq,ho,_=>by
   have e':t=t1∧v=w:=by cases t<;>exact hq
   obtain⟨rfl,rfl⟩:=e'
   refine⟨T.put n1 t p,T.vA o1 ho,?_⟩
   generalize T.put n1 t p=t2
   cases t2<;>exact⟨rfl,rfl⟩
 |k'::q,[],t,v,t1,w,as,tr,nd,hp,hq,ho,hb=>by cases hb
 | k'::q,k::p,.l ts,v,t1,w,as,tr,nd,hp,hq,ho,hb=>by
   simp only[ak]at hp hq
   simp only[af]at tr
   obtain⟨a,xs,tp,xp,rfl,e2,etp,exp,hp⟩:=hp
   obtain⟨a1,xs1,tq,xq,ea1,e21,etq,exq,hq⟩:=hq
   obtain⟨a2,ys,bs,ea2,rfl,f,e22,r⟩:=tr
   cases ea1;cases ea2
   have e8:xs1=ys:=by rw[e22]at e21;injection e21 with z;injection z with z;exact z.symm
   have e9:xs=ys:=by rw[e22]at e2;injection e2 with z;injection z with z;exact z.symm
   subst e8 e9
   have nd2:=List.nodup_cons.mp nd
   obtain⟨xp',dp,exp1,rp,subp⟩:=r.part etp
   rw[exp]at exp1;cases exp1
   obtain⟨hc,_⟩:=af.put C rp (nd2.2.sublist subp) hp
   have hca:a≠c:=fun z=>by subst z;exact nd2.1 (subp.subset hc)
   show ∃t2,t2.own=true∧ak _ (match ts[k]? with|some t=>T.l (ts.set k (T.put n1 t p))|none=>T.l ts) _ _ t2 w
   rw[etp]
   by_cases hkk:k=k'
   · subst hkk
     rw[etp]at etq;cases etq
     rw[exp]at exq;cases exq
     obtain⟨t2,o2,h2⟩:=ak.put C o1 rp (nd2.2.sublist subp) hp hq ho (by simpa[below] using hb)
     refine⟨t2,o2,?_⟩
     simp only[ak]
     exact⟨a,_,_,_,rfl,C.out a _ hca e22,nA etp,exp,h2⟩
   · obtain⟨xq',dq,exq1,rq,subq⟩:=r.part etq
     rw[exq]at exq1;cases exq1
     refine⟨t1,ho,?_⟩
     simp only[ak]
     refine⟨a,_,tq,xq,rfl,C.out a _ hca e22,by rw[List.getElem?_set_ne hkk];exact etq,exq,hq.mv (fun a o n e=>(C.mv a o n e).2) rq fun b hb u fb hu=>C.out b u (fun z=>?_) hu⟩
     subst z;exact ag.apart r nd2.2 hkk etp etq exp exq rp rq _ hc hb
 | k'::q,k::p,.m ks0 ts,v,t1,w,as,tr,nd,hp,hq,ho,hb=>by
   simp only[ak]at hp hq
   simp only[af]at tr
   obtain⟨a,xs,tp,xp,rfl,e2,l0,etp,exp,hp⟩:=hp
   obtain⟨a1,xs1,tq,xq,ea1,e21,l1,etq,exq,hq⟩:=hq
   obtain⟨a2,ys,bs,ea2,rfl,f,e22,l2,r⟩:=tr
   cases ea1;cases ea2
   have e8:xs1=ys:=zip_inj l1 l2 (by rw[e22]at e21;injection e21 with z;injection z with z;exact z.symm)
   have e9:xs=ys:=zip_inj l0 l2 (by rw[e22]at e2;injection e2 with z;injection z with z;exact z.symm)
   subst e8 e9
   have nd2:=List.nodup_cons.mp nd
   obtain⟨xp',dp,exp1,rp,subp⟩:=r.part etp
   rw[exp]at exp1;cases exp1
   obtain⟨hc,_⟩:=af.put C rp (nd2.2.sublist subp) hp
   have hca:a≠c:=fun z=>by subst z;exact nd2.1 (subp.subset hc)
   show ∃t2,t2.own=true∧ak _ (match ts[k]? with|some t=>T.m ks0 (ts.set k (T.put n1 t p))|none=>T.m ks0 ts) _ _ t2 w
   rw[etp]
   by_cases hkk:k=k'
   · subst hkk
     rw[etp]at etq;cases etq
     rw[exp]at exq;cases exq
     obtain⟨t2,o2,h2⟩:=ak.put C o1 rp (nd2.2.sublist subp) hp hq ho (by simpa[below] using hb)
     refine⟨t2,o2,?_⟩
     simp only[ak]
     exact⟨a,_,_,_,rfl,C.out a _ hca e22,l2,nA etp,exp,h2⟩
   · obtain⟨xq',dq,exq1,rq,subq⟩:=r.part etq
     rw[exq]at exq1;cases exq1
     refine⟨t1,ho,?_⟩
     simp only[ak]
     refine⟨a,_,tq,xq,rfl,C.out a _ hca e22,l2,by rw[List.getElem?_set_ne hkk];exact etq,exq,hq.mv (fun a o n e=>(C.mv a o n e).2) rq fun b hb u fb hu=>C.out b u (fun z=>?_) hu⟩
     subst z;exact ag.apart r nd2.2 hkk etp etq exp exq rp rq _ hc hb
 | k'::q,k::p,.tu ts,v,t1,w,as,tr,nd,hp,hq,ho,hb=>by
   simp only[ak]at hp hq
   simp only[af]at tr
   obtain⟨a,xs,tp,xp,rfl,e2,etp,exp,hp⟩:=hp
   obtain⟨a1,xs1,tq,xq,ea1,e21,etq,exq,hq⟩:=hq
   obtain⟨a2,ys,ea2,f,e22,r⟩:=tr
   cases ea1;cases ea2
   have e8:xs1=ys:=by rw[e22]at e21;injection e21 with z;injection z with z;exact z.symm
   have e9:xs=ys:=by rw[e22]at e2;injection e2 with z;injection z with z;exact z.symm
   subst e8 e9
   obtain⟨xp',dp,exp1,rp,subp⟩:=r.part etp
   rw[exp]at exp1;cases exp1
   obtain⟨hc,_⟩:=af.put C rp (nd.sublist subp) hp
   show ∃t2,t2.own=true∧ak _ (match ts[k]? with|some t=>T.tu (ts.set k (T.put n1 t p))|none=>T.tu ts) _ _ t2 w
   rw[etp]
   by_cases hkk:k=k'
   · subst hkk
     rw[etp]at etq;cases etq
     rw[exp]at exq;cases exq
     obtain⟨t2,o2,h2⟩:=ak.put C o1 rp (nd.sublist subp) hp hq ho (by simpa[below] using hb)
     refine⟨t2,o2,?_⟩
     simp only[ak]
     exact⟨a,_,_,_,rfl,(C.mv _ _ f e22).2,nA etp,exp,h2⟩
   · obtain⟨xq',dq,exq1,rq,subq⟩:=r.part etq
     rw[exq]at exq1;cases exq1
     refine⟨t1,ho,?_⟩
     simp only[ak]
     refine⟨a,_,tq,xq,rfl,(C.mv _ _ f e22).2,by rw[List.getElem?_set_ne hkk];exact etq,exq,hq.mv (fun a o n e=>(C.mv a o n e).2) rq fun b hb u fb hu=>C.out b u (fun z=>?_) hu⟩
     subst z;exact ag.apart r nd hkk etp etq exp exq rp rq _ hc hb
 |k'::q,k::p,.d _,v,t1,w,as,tr,nd,hp,hq,ho,_=>hp.elim
theorem aG.un{ρ':En}(r:aG M G F0 H F σ ρ)(hl:ρ'.length=ρ.length)(h:∀(j:Nat) s,ρ'[j]? =some s→s=.un∨ρ[j]? =some s):aG M G F0 H F σ ρ':=by
 have ow:∀j,aW ρ' j→aW ρ j:=fun j o=>by
   rcases o with⟨ds,e⟩|⟨ks,ds,e⟩
   · rcases h j _ e with z|z
     ·cases z
     ·exact .inl ⟨_,z⟩
   · rcases h j _ e with z|z
     ·cases z
     ·exact .inr ⟨_,_,z⟩
 have on:∀(j:Nat) x,ρ'[j]? =some (.on x)→ρ[j]? =some (.on x):=fun j x e=>(h j _ e).resolve_left fun z=>nomatch z
 have at':∀(j:Nat) b,cw M H F σ ρ' j b→cw M H F σ ρ j b:=fun j b ⟨t,v,as,e,z⟩=>⟨t,v,as,on j _ e,z⟩
 refine⟨⟨by rw[hl,r.rs.len],r.rs.aK,fun i d e=>?_,fun i d e=>?_,fun i k d e=>?_,fun i j a oi oj=>r.rs.bE i j a (ow i oi) (ow j oj),fun i x e=>?_⟩,r.sm,r.sub,r.cK,fun i a o=>r.own i a (ow i o),fun i x b e hb=>r.dW i x b (on i x e) (at' i b hb)⟩
 ·exact r.rs.sh i d ((h i _ e).resolve_left fun z=>nomatch z)
 ·exact r.rs.ol i d ((h i _ e).resolve_left fun z=>nomatch z)
 ·exact r.rs.od i k d ((h i _ e).resolve_left fun z=>nomatch z)
 · obtain⟨h1,h2,h3⟩:=r.rs.on i x (on i x e)
   refine⟨?_,fun b hb k ok=>h2 b (at' i b hb) k (ow k ok),fun t ht j t' ej=>h3 t ht j t' (on j _ ej)⟩
   cases x with
   |tr t=>exact h1
   |al k p=>exact fun t et=>h1 t (on k _ et)
noncomputable def fQ(i:Nat)(p:List Nat)(ρ:En):En:=ρ.map fun s=>match s with
 |.on (.al k q)=>if k=i∧below p q=true then .un else s
 |s=>s
noncomputable def kW(i:Nat)(p:List Nat)(s:Slot):Slot:=match s with
 |.on (.al k q)=>if k=i∧below p q=true then .un else s
 |s=>s
theorem xx{i:Nat}{p:List Nat}:∀(z:Slot),kW i p z=.un∨(kW i p z=z∧∀q,z=.on (.al i q)→below p q=false)
 |.un=>.inl rfl
 |.sh _=>.inr ⟨rfl,fun _ h=>nomatch h⟩
 |.ol _=>.inr ⟨rfl,fun _ h=>nomatch h⟩
 |.od _ _=>.inr ⟨rfl,fun _ h=>nomatch h⟩
 |.on (.tr _)=>.inr ⟨rfl,fun _ h=>nomatch h⟩
 | .on (.al k q)=>by
   by_cases hc:k=i∧below p q=true
   ·exact .inl (if_pos hc)
   · refine .inr ⟨if_neg hc,fun q' hq=>?_⟩
     injection hq with hq
     injection hq with h1 h2
     subst h1 h2
     cases hb:below p q with
     |false=>rfl
     |true=>exact absurd ⟨rfl,hb⟩ hc
theorem qU{i:Nat}{p:List Nat}{j:Nat}{s:Slot}(h:(fQ i p ρ)[j]? =some s):s=.un∨(ρ[j]? =some s∧∀q,s=.on (.al i q)→below p q=false):=by
 have h:(ρ.map (kW i p))[j]? =some s:=h
 rw[List.getElem?_map]at h
 cases e:ρ[j]? with
 |none=>rw[e]at h;cases h
 | some z=>
   rw[e]at h
   have h:kW i p z=s:=Option.some.inj h
   rcases xx (i:=i) (p:=p) z with h1|⟨h1,h2⟩
   ·exact .inl (h.symm.trans h1)
   ·rw[h1]at h;subst h;exact .inr ⟨rfl,h2⟩
theorem aG.drop(i:Nat)(p:List Nat)(r:aG M G F0 H F σ ρ):aG M G F0 H F σ (fQ i p ρ):=r.un (by unfold fQ;simp) fun j s h=>(qU h).imp id And.left
theorem aG.zg{i:Nat}{t t':T}{v:V}{as as':List Addr}(r:aG M G F0 H F σ ρ)(e:ρ[i]? =some (.on (.tr t)))(ev:σ[i]? =some (some v))(tr:af M H F t v as)(hnew:∀b∈as',b∈as∨H b=none)(hout:∀b u,b∉as'→H b=some u→H' b=some u)
   (hF:∀b,F' b↔F b∨b∈as') (tr':af M H' F' t' v as') (nd:as'.Nodup) (hal:∀(j:Nat) p,ρ[j]? =some (Slot.on (.al i p))→∀t1 w,ak H t v p t1 w→t1.own=true→∃t2,t2.own=true∧ak H' t' v p t2 w):
   Mv F H F' H'∧aG M G F0 H' F' σ (ρ.set i (.on (.tr t'))):=by
 have at0:∀b∈as,cw M H F σ ρ i b:=fun b hb=>⟨t,v,as,e,ev,tr,hb⟩
 have fs:=tr.fs
 have mv:Mv F H F' H':=fun b o n eo=>by
   have nb:b∉as':=fun hb=>by
     rcases hnew b hb with h|h
     ·exact n (fs b h).1
     ·rw[h]at eo;cases eo
   exact⟨fun h=>((hF b).mp h).elim n nb,hout b _ nb eo⟩
 have ro:=r.rs.on i _ e
 have hi:i<ρ.length:=(List.getElem?_eq_some_iff.mp e).1
 have old:∀(j:Nat) x,j≠i→(ρ.set i (.on (.tr t')))[j]? =some x→ρ[j]? =some x:=fun j x hj h=>by rw[List.getElem?_set_ne (Ne.symm hj)]at h;exact h
 have self:(ρ.set i (.on (.tr t')))[i]? =some (.on (.tr t')):=List.getElem?_set_self hi
 have nself:∀(j:Nat) x,(∀y,x≠Slot.on y)→(ρ.set i (.on (.tr t')))[j]? =some x→ρ[j]? =some x:=fun j x hx h=>by
   by_cases hj:j=i
   ·subst hj;rw[self]at h;cases h;exact absurd rfl (hx _)
   ·exact old j x hj h
 have ownd:∀j,aW (ρ.set i (.on (.tr t'))) j→aW ρ j:=fun j h=>by
   rcases h with⟨ds,h⟩|⟨ks,ds,h⟩
   ·exact .inl ⟨ds,nself j _ (fun y z=>nomatch z) h⟩
   ·exact .inr ⟨ks,ds,nself j _ (fun y z=>nomatch z) h⟩
 have keep:∀(j:Nat) b u,aW ρ j→σ[j]? =some (some (.ref b))→F b→H b=some u→F' b∧H' b=some u:=fun j b u oj ej fb hu=>by
   refine⟨(hF b).mpr (.inl fb),?_⟩
   refine hout b u (fun hb=>?_) hu
   rcases hnew b hb with h|h
   ·exact ro.2.1 b (at0 b h) j oj ej
   ·rw[h]at hu;cases hu
 have aK:∀a,F' a→∃o,H' a=some o:=fun a fa=>by
   by_cases ha:a∈as'
   ·exact(tr'.fs a ha).2
   · obtain⟨o,ho⟩:=r.rs.aK a (((hF a).mp fa).resolve_right ha)
     exact⟨o,hout a _ ha ho⟩
 have rs:aI M H' F' σ (ρ.set i (.on (.tr t'))):=by
   refine⟨by simp[r.rs.len],aK,fun j d h=>?_,fun j ds h=>?_,fun j ks ds h=>?_,fun j k a oj ok ej ek=>r.rs.bE j k a (ownd j oj) (ownd k ok) ej ek,?_⟩
   · obtain⟨w,e1,g⟩:=r.rs.sh j d (nself j _ (fun y z=>nomatch z) h)
     exact⟨w,e1,g.mv mv⟩
   · have h0:=nself j (.ol ds) (fun y z=>nomatch z) h
     obtain⟨a,xs,e1,f,e2,g⟩:=r.rs.ol j ds h0
     obtain⟨f',e3⟩:=keep j a _ (.inl ⟨_,h0⟩) e1 f e2
     exact⟨a,xs,e1,f',e3,g.mv mv⟩
   · have h0:=nself j (.od ks ds) (fun y z=>nomatch z) h
     obtain⟨a,xs,e1,f,e2,l,g⟩:=r.rs.od j ks ds h0
     obtain⟨f',e3⟩:=keep j a _ (.inr ⟨_,_,h0⟩) e1 f e2
     exact⟨a,xs,e1,f',e3,l,g.mv mv⟩
   · intro j x h
     have onat:∀b,cw M H' F' σ (ρ.set i (.on (.tr t'))) j b→j=i∧b∈as':=fun b hb=>by
       obtain⟨t1,v1,as1,e1,ev1,tr1,hb⟩:=hb
       have hj:j=i:=by
         by_cases hj:j=i
         ·exact hj
         ·exact ro.2.2 t rfl j t1 (old j _ hj e1)
       subst hj
       rw[self]at e1;cases e1
       rw[ev]at ev1;cases ev1
       have:=af.fZ tr' tr1
       subst this
       exact⟨rfl,hb⟩
     refine⟨?_,fun b hb k ok ek=>?_,fun t1 ht k t2 hk=>?_⟩
     · by_cases hj:j=i
       · subst hj
         rw[self]at h;cases h
         exact⟨v,as',ev,tr',nd⟩
       · have h0:=old j _ hj h
         cases x with
         |tr t1=>exact absurd (ro.2.2 t rfl j t1 h0) hj
         | al k p=>
           intro t1 ht1
           have⟨hk,et⟩:k=i∧t1=t':=by
             by_cases hk:k=i
             ·subst hk;rw[self]at ht1;cases ht1;exact⟨rfl,rfl⟩
             ·exact absurd (ro.2.2 t rfl k t1 (old k _ hk ht1)) hk
           subst hk et
           obtain⟨v1,w,t2,e1,e2,at2,o2⟩:=(r.rs.on j _ h0).1 t e
           rw[ev]at e1;cases e1
           obtain⟨t3,o3,at3⟩:=hal j p h0 t2 w at2 o2
           exact⟨v,w,t3,ev,e2,at3,o3⟩
     · obtain⟨rfl,hb'⟩:=onat b hb
       rcases hnew b hb' with h2|h2
       ·exact ro.2.1 b (at0 b h2) k (ownd k ok) ek
       · obtain⟨a,_,u,_,e1,_,e2,_⟩:=r.rs.ownAt (ownd k ok)
         rw[ek]at e1;cases e1
         rw[h2]at e2;cases e2
     · subst ht
       have hj:j=i:=by
         by_cases hj:j=i
         ·exact hj
         ·exact ro.2.2 t rfl j t1 (old j _ hj h)
       by_cases hk2:k=i
       ·rw[hk2,hj]
       ·exact absurd (ro.2.2 t rfl k t2 (old k _ hk2 hk)) hk2
 refine⟨mv,⟨rs,fun b u hb=>?_,fun b f=>(hF b).mpr (.inl (r.sub b f)),r.cK,fun j a oj ej=>r.own j a (ownd j oj) ej,fun j x b h hb=>?_⟩⟩
 · have hu:=r.sm b u hb
   refine hout b u (fun hb2=>?_) hu
   rcases hnew b hb2 with h2|h2
   ·rw[r.dW i _ b e (at0 b h2)]at hb;cases hb
   ·rw[h2]at hu;cases hu
 · obtain⟨t1,v1,as1,e1,ev1,tr1,hb⟩:=hb
   have hj:j=i:=by
     by_cases hj:j=i
     ·exact hj
     ·exact ro.2.2 t rfl j t1 (old j _ hj e1)
   subst hj
   rw[self]at e1;cases e1
   rw[ev]at ev1;cases ev1
   have:=af.fZ tr' tr1
   subst this
   rcases hnew b hb with h2|h2
   ·exact r.dW j _ b e (at0 b h2)
   ·exact r.sm.free h2
theorem Bu{i j:Nat}{p:List Nat}{t:T}(h:ρ[j]? =some (.on (.tr t))):(fQ i p ρ)[j]? =some (.on (.tr t)):=by
 unfold fQ
 rw[List.getElem?_map,h];rfl
theorem aG.oh{H2:Hp}{F2:Addr→Prop}{i:Nat}{t n0 n1:T}{w:V}{p:List Nat}{c:Addr}{bs0 bs1:List Addr}(r:aG M G F0 H F σ ρ)(e1:ρ[i]? =some (.on (.tr t)))(e2:σ[i]? =some (some w))(hat:ak H t w p n0 (.ref c))(C:dU M H H2 F F2 c n0 n1 bs0 bs1)(o1:n1.own=true):
   Mv F H F2 H2∧aG M G F0 H2 F2 σ ((fQ i p ρ).set i (.on (.tr (T.put n1 t p)))):=by
 obtain⟨⟨w',as,ew,tr,nd⟩,_,_⟩:=r.rs.on i _ e1
 rw[e2]at ew;cases ew
 obtain⟨hc,as1,tr',nd1,k1,k2⟩:=af.put C tr nd hat
 have hc1:c∈as1:=k2 c (C.new.head o1)
 exact(r.drop i p).zg (Bu e1) e2 tr (fun b hb=>(k1 b hb).imp id And.right) (fun b u hb hu=>C.out b u (fun z=>by subst z;exact hb hc1) hu) (fun b=>by
     rw[C.fs b]
     exact⟨fun h=>h.imp id (k2 b),fun h=>h.elim .inl fun hb=>(k1 b hb).elim (fun h=>.inl (tr.fs b h).1) fun h=>.inr h.1⟩) tr' nd1
   fun j q hq t1 w1 hq1 ho=>ak.put C o1 tr nd hat hq1 ho (((qU hq).resolve_left fun z=>nomatch z).2 q rfl)
end
noncomputable def jR(ρ:En):Bool:=ρ.all fun s=>match s with
 |.on _=>false
 |_=>true
noncomputable def xF(e:Ex):Xt:=fun ρ=>(e ρ).bind fun d=>match d with
 |.lst ds=>.ok (.l (ds.map .d))
 |_=>.bad
noncomputable def cW:List Xt→En→R (List T)
 |[],_=>.ok []
 |f::fs,ρ=>(f ρ).bind fun t=>(cW fs ρ).bind fun ts=>.ok (t::ts)
noncomputable def hV(i:Nat)(f:Xt):Sm:=fun ρ=>(f ρ).bind fun t=>if jR ρ=true then .ok (.next (ρ.set i (.on (.tr t))))else .bad
section
variable{X:Cx}{M:Md}{G H H':Hp}{F0 F F':Addr→Prop}{σ:L2.St}{ρ:En}{pos:Pos}{pins:List (Addr×Obj)}{s:Shared}{as:List Addr}
noncomputable def oN(M:Md)(f:En→R (List T)):TA:=fun σ H Q=>∃ρ F ts,aI M H F σ ρ∧f ρ=.ok ts∧∀vs H' F' as,ah H H'→(∀b∈as,H b=none)→as.Nodup→(∀b,F' b↔F b∨b∈as)→ag M H' F' ts vs as→Q vs H'
noncomputable abbrev jE(X:Cx)(es:List Expr)(f:En→R (List T)):Prop:=PA X es (oN (ar X) f)
theorem yj{e:Expr}{f:Ex}(h:JF X e f):JX X e (xF f):=
 aY h fun σ H Q ⟨ρ,F,t,hr,e,q⟩=>by
   obtain⟨d,ed,e⟩:=aj.mp e
   cases d with
   | lst ds=>
     cases e
     refine⟨ρ,F,ds,hr,ed,fun p H1 xs s1 hp rs=>?_⟩
     refine q (.ref p) _ (fun b=>F b∨b=p) [p] (s1.trans (ah.bS hp _)) (fun b hb=>by rw[List.mem_singleton.mp hb];exact s1.free hp) (by simp) (fun b=>by simp) ?_
     simp only[af]
     refine⟨p,xs,[],rfl,rfl,.inr rfl,L2.aV,gX.mpr ⟨rfl,rs.mv fun b o n e=>?_⟩⟩
     have hb:b≠p:=fun z=>by subst z;rw[hp]at e;cases e
     exact⟨fun f=>f.elim n hb,by rw[L2.az hb];exact e⟩
   |_=>cases e
theorem vS:jE X [] (cW []):=
 lr L2.iS fun σ H Q ⟨ρ,F,ts,hr,e,q⟩=>by
   cases e
   exact q [] H F [] (ah.refl _) (fun _ hb=>nomatch hb) List.nodup_nil (fun b=>by simp) (by rw[ag];exact⟨rfl,rfl⟩)
theorem yK{f:Xt}{fs:List Xt}{Q:List V→Hp→Prop}{te:TE}{ta:TA}(h1:∀σ H Q,mV M f σ H Q→te σ H Q)(h2:∀σ H Q,oN M (cW fs) σ H Q→ta σ H Q)(h:oN M (cW (f::fs)) σ H Q):L2.qP te ta σ H Q:=by
 obtain⟨ρ,F,ts,hr,e,q⟩:=h
 obtain⟨t,et,e⟩:=aj.mp e
 obtain⟨us,eu,e⟩:=aj.mp e
 cases e
 refine h1 _ _ _ ⟨ρ,F,t,hr,et,fun v H1 F1 as s1 hn nd hF tr=>?_⟩
 obtain⟨mv1,r1⟩:=hr.wide s1 hn hF (fun b hb=>(tr.fs b hb).2)
 refine h2 _ _ _ ⟨ρ,F1,us,r1,eu,fun vs H2 F2 bs s2 hn2 nd2 hF2 trs=>?_⟩
 have apart:∀a∈as,∀b∈bs,a≠b:=fun a ha b hb z=>by
   subst z
   obtain⟨_,u,hu⟩:=tr.fs a ha
   rw[hn2 a hb]at hu;cases hu
 have mv2:Mv F1 H1 F2 H2:=fun b o n e=>⟨fun f=>((hF2 b).mp f).elim n (fun hb=>by rw[hn2 b hb]at e;cases e),s2 _ _ e⟩
 refine q (v::vs) H2 F2 (as++bs) (s1.trans s2) (fun b hb=>?_) (List.nodup_append.mpr ⟨nd,nd2,apart⟩) (fun b=>?_) ?_
 · rcases List.mem_append.mp hb with hb|hb
   ·exact hn b hb
   ·exact s1.free (hn2 b hb)
 ·rw[hF2 b,hF b,List.mem_append,or_assoc]
 · simp only[ag]
   exact⟨v,vs,as,bs,rfl,rfl,tr.mv mv2 fun b hb u f hu=>⟨(hF2 b).mpr (.inl f),s2 _ _ hu⟩,trs⟩
theorem zb{e:Expr}{es:List Expr}{f:Xt}{fs:List Xt}(h1:JX X e f)(h2:jE X es (cW fs))(hs:starEach (e::es) X.env=(false,eval e X.env)::starEach es X.env:=by rfl):jE X (e::es) (cW (f::fs)):=
 lr (L2.ff h1 h2 hs) fun σ H Q h=>yK (fun _ _ _ h=>h) (fun _ _ _ h=>h) h
theorem sk:∀ {fs:List Xt} {ts:List T},cW fs ρ=.ok ts→ts.length=fs.length
 |[],ts,h=>by cases h;rfl
 | f::fs,ts,h=>by
   obtain⟨t,et,h⟩:=aj.mp h
   obtain⟨us,eu,h⟩:=aj.mp h
   cases h
   simp[sk eu]
theorem xJ{ts:List T}{vs:List V}{p:Addr}(s1:ah H H')(hn:∀b∈as,H b=none)(nd:as.Nodup)(hF:∀b,F' b↔F b∨b∈as)(tr:ag M H' F' ts vs as)(hp:H' p=none):
   ah H (upd H' p (.lst vs))∧(∀b∈p::as,H b=none)∧(p::as).Nodup∧af M (upd H' p (.lst vs)) (fun b=>F b∨b∈p::as) (.l ts) (.ref p) (p::as):=by
 have hpa:p∉as:=fun hb=>by obtain⟨_,u,hu⟩:=tr.fs p hb;rw[hp]at hu;cases hu
 refine⟨s1.trans (ah.bS hp _),fun b hb=>?_,List.nodup_cons.mpr ⟨hpa,nd⟩,?_⟩
 · rcases List.mem_cons.mp hb with rfl|hb
   ·exact s1.free hp
   ·exact hn b hb
 · simp only[af]
   refine⟨p,vs,as,rfl,rfl,.inr List.mem_cons_self,L2.aV,tr.mv (fun b o n e=>?_) fun b hb u f hu=>?_⟩
   · have hb:b≠p:=fun z=>by subst z;rw[hp]at e;cases e
     refine⟨fun f=>?_,by rw[L2.az hb];exact e⟩
     rcases f with f|f
     ·exact n ((hF b).mpr (.inl f))
     · rcases List.mem_cons.mp f with f|f
       ·exact hb f
       ·exact n ((hF b).mpr (.inr f))
   · have hb':b≠p:=fun z=>by subst z;exact hpa hb
     exact⟨.inr (List.mem_cons_of_mem _ hb),by rw[L2.az hb'];exact hu⟩
theorem gq{i j:Nat}{x:Sp}(h:aW (ρ.set i (.on x)) j):i≠j∧aW ρ j:=by
 rcases h with⟨ds,q⟩|⟨ks,ds,q⟩
 · rcases get_set q with⟨_,z,_⟩|⟨hne,q⟩
   ·cases z
   ·exact⟨hne,.inl ⟨ds,q⟩⟩
 · rcases get_set q with⟨_,z,_⟩|⟨hne,q⟩
   ·cases z
   ·exact⟨hne,.inr ⟨ks,ds,q⟩⟩
theorem A7(h:jR ρ=true)(j:Nat)(x:Sp):ρ[j]? ≠some (.on x):=fun e=>by
 have:=List.all_eq_true.mp h _ (List.mem_of_getElem? e)
 cases this
theorem aG.w5{i:Nat}{t:T}{v:V}(r:aG M G F0 H F σ ρ)(no:jR ρ=true)(s1:ah H H')(hn:∀b∈as,H b=none)(nd:as.Nodup)(hF:∀b,F' b↔F b∨b∈as)(tr:af M H' F' t v as):
   Mv F H F' H'∧aG M G F0 H' F' (σ.set i (some v)) (ρ.set i (.on (.tr t))):=by
 obtain⟨mv,rs⟩:=r.rs.wide s1 hn hF (fun b hb=>(tr.fs b hb).2)
 have only:∀(j:Nat) x,(ρ.set i (.on (.tr t)))[j]? =some (.on x)→i=j∧x=.tr t∧i<ρ.length:=fun j x h=>by
   rcases get_set h with⟨h1,h2,h3⟩|⟨_,h⟩
   ·injection h2 with h2;exact⟨h1,h2.symm,h3⟩
   ·exact absurd h (A7 no j x)
 have self:i<ρ.length→(σ.set i (some v))[i]? =some (some v):=fun h=>List.getElem?_set_self (by rw[←r.rs.len];exact h)
 have onat:∀(j:Nat) b,cw M H' F' (σ.set i (some v)) (ρ.set i (.on (.tr t))) j b→b∈as:=fun j b ⟨t1,v1,as1,e1,ev1,tr1,hb⟩=>by
   obtain⟨rfl,z,hl⟩:=only j _ e1
   cases z
   rw[self hl]at ev1
   cases ev1
   have:=af.fZ tr tr1
   subst this
   exact hb
 refine⟨mv,⟨⟨by simp[rs.len],rs.aK,fun j d q=>?_,fun j d q=>?_,fun j k d q=>?_,fun j k b oj ok ej ek=>?_,fun j x h=>?_⟩,r.sm.trans s1,fun b f=>(hF b).mpr (.inl (r.sub b f)),r.cK,fun j a oj e=>?_,fun j x b e hb=>r.sm.free (hn b (onat j b hb))⟩⟩
 · rcases get_set q with⟨_,z,_⟩|⟨hne,q⟩
   ·cases z
   · obtain⟨w,e1,g⟩:=rs.sh j d q
     exact⟨w,by rw[List.getElem?_set_ne hne];exact e1,g⟩
 · rcases get_set q with⟨_,z,_⟩|⟨hne,q⟩
   ·cases z
   · obtain⟨a,xs,e1,g⟩:=rs.ol j d q
     exact⟨a,xs,by rw[List.getElem?_set_ne hne];exact e1,g⟩
 · rcases get_set q with⟨_,z,_⟩|⟨hne,q⟩
   ·cases z
   · obtain⟨a,xs,e1,g⟩:=rs.od j k d q
     exact⟨a,xs,by rw[List.getElem?_set_ne hne];exact e1,g⟩
 · obtain⟨nj,oj⟩:=gq oj
   obtain⟨nk,ok⟩:=gq ok
   rw[List.getElem?_set_ne nj]at ej
   rw[List.getElem?_set_ne nk]at ek
   exact rs.bE j k b oj ok ej ek
 · obtain⟨rfl,rfl,hl⟩:=only j x h
   refine⟨⟨v,as,self hl,tr,nd⟩,fun b hb k ok ek=>?_,fun t1 _ k t2 hk=>((only k _ hk).1).symm⟩
   obtain⟨nk,ok⟩:=gq ok
   rw[List.getElem?_set_ne nk]at ek
   obtain⟨a,_,u,_,e1,_,e2,_⟩:=r.rs.ownAt ok
   rw[ek]at e1;cases e1
   rw[hn _ (onat _ _ hb)]at e2;cases e2
 · obtain⟨nj,oj⟩:=gq oj
   rw[List.getElem?_set_ne nj]at e
   exact r.own j a oj e
theorem zd(i:Nat){x:Str}{e:Expr}{f:Xt}{p2:Pos}(hN:X.N.Nodup)(he:JX X e f)(hi:X.N[i]? =some x:=by rfl)(hx:L2.Loc X.env.scope x:=by exact Or.inl rfl)(hf:X.fn x=true∨X.env.scope.names.lookup x=some .local:=by first|exact .inl rfl|exact .inr rfl)
   (hs:swapsWith e (some (.Name x p2)) pos.line X.env=pure false:=by rfl):JS X (.Assign [.Name x p2] e pos) (hV i f):=fun F0=>
 cE (L2.jW hN hi hx he hs hf) fun D σ H ⟨ρ,F,fl,r,e,q⟩=>by
   obtain⟨t,et,e⟩:=aj.mp e
   by_cases no:jR ρ=true
   · rw[if_pos no]at e
     cases e
     refine⟨ρ,F,t,r.rs,et,fun v H1 F1 as s1 hn nd hF tr=>?_⟩
     obtain⟨mv,r'⟩:=r.w5 (i:=i) no s1 hn nd hF tr
     exact q _ _ _ mv r'
   ·rw[if_neg no]at e;cases e
end
noncomputable abbrev Pt:=En→R (List Nat)
noncomputable def pN:Pt:=fun _=>.ok []
noncomputable def pI(i:Nat)(f:Pt)(e:Ex):Pt:=fun ρ=>(f ρ).bind fun p=>(e ρ).bind fun x=>match ρ[i]?,x with
 | some (.on (.tr t)),.int k=>match T.at t p with
   | some (.l ts)=>match cA ts.length k with
     |some m=>.ok (p++[m])
     |none=>.bad
   |_=>.bad
 |_,_=>.bad
noncomputable def lB(j i:Nat)(f:Pt):Sm:=fun ρ=>(f ρ).bind fun p=>match ρ[i]? with
 | some (.on (.tr t))=>match T.at t p with
   |some t1=>if t1.own=true∧i≠j then .ok (.next (ρ.set j (.on (.al i p))))else .bad
   |none=>.bad
 |_=>.bad
noncomputable def j1:List T→Option (List D)
 |[]=>some []
 |.d x::r=>(j1 r).map (x:: ·)
 |_::_=>none
section
variable{X:Cx}{M:Md}{G H H':Hp}{F0 F F':Addr→Prop}{σ:L2.St}{ρ:En}{pos:Pos}{pins:List (Addr×Obj)}{s:Shared}{as:List Addr}
theorem qW:∀ {ts:List T} {vs:List D},j1 ts=some vs→ts=vs.map .d
 |[],vs,h=>by cases h;rfl
 | .d x::r,vs,h=>by
   unfold j1 at h
   cases e:j1 r with
   |none=>rw[e]at h;cases h
   |some us=>rw[e]at h;cases h;rw[qW e];rfl
 |.l _::r,vs,h=>by cases h
 |.m _ _::r,vs,h=>by cases h
 |.tu _::r,vs,h=>by cases h
theorem ak.ji:∀ {p:List Nat} {t:T} {v:V} {t1:T} {w:V},ak H t v p t1 w→T.at t p=some t1
 | [],t,v,t1,w,h=>by
   have e':t=t1∧v=w:=by cases t<;>exact h
   rw[e'.1];cases t1<;>rfl
 | k::p,.l ts,v,t1,w,h=>by
   simp only[ak]at h
   obtain⟨a,xs,t2,x2,_,_,e1,_,h⟩:=h
   unfold T.at
   rw[e1]
   exact h.ji
 | k::p,.m ks ts,v,t1,w,h=>by
   simp only[ak]at h
   obtain⟨a,xs,t2,x2,_,_,_,e1,_,h⟩:=h
   unfold T.at
   rw[e1]
   exact h.ji
 | k::p,.tu ts,v,t1,w,h=>by
   simp only[ak]at h
   obtain⟨a,xs,t2,x2,_,_,e1,_,h⟩:=h
   unfold T.at
   rw[e1]
   exact h.ji
 |k::p,.d _,v,t1,w,h=>h.elim
theorem ak.snoc{n0:T}{x:V}{m:Nat}{t1:T}{x1:V}(h1:ak H n0 x [m] t1 x1):∀ {p:List Nat} {t:T} {v:V},ak H t v p n0 x→ak H t v (p++[m]) t1 x1
 | [],t,v,h=>by
   have e':t=n0∧v=x:=by cases t<;>exact h
   obtain⟨rfl,rfl⟩:=e'
   exact h1
 | k::p,.l us,v,h=>by
   show ak H (.l us) v (k::(p++[m])) t1 x1
   simp only[ak]at h ⊢
   obtain⟨b,ys,t2,x2,h1',h2,h3,h4,h⟩:=h
   exact⟨b,ys,t2,x2,h1',h2,h3,h4,ak.snoc h1 h⟩
 | k::p,.m ks us,v,h=>by
   show ak H (.m ks us) v (k::(p++[m])) t1 x1
   simp only[ak]at h ⊢
   obtain⟨b,ys,t2,x2,h1',h2,h0,h3,h4,h⟩:=h
   exact⟨b,ys,t2,x2,h1',h2,h0,h3,h4,ak.snoc h1 h⟩
 | k::p,.tu us,v,h=>by
   show ak H (.tu us) v (k::(p++[m])) t1 x1
   simp only[ak]at h ⊢
   obtain⟨b,ys,t2,x2,h1',h2,h3,h4,h⟩:=h
   exact⟨b,ys,t2,x2,h1',h2,h3,h4,ak.snoc h1 h⟩
 |k::p,.d _,v,h=>h.elim
theorem ak.here(t:T)(v:V):ak H t v [] t v:=by cases t<;>exact⟨rfl,rfl⟩
theorem ak.AZ{a:Addr}{xs:List V}{ts:List T}{m:Nat}{t1:T}{x1:V}(ha:H a=some (.lst xs))(h1:ts[m]? =some t1)(hx:xs[m]? =some x1):ak H (.l ts) (.ref a) [m] t1 x1:=by
 unfold ak;exact⟨a,xs,t1,x1,rfl,ha,h1,hx,ak.here _ _⟩
theorem ak.yU{a:Addr}{xs:List V}{ts:List T}{m:Nat}{t1:T}{x1:V}(ha:H a=some (.tup xs))(h1:ts[m]? =some t1)(hx:xs[m]? =some x1):ak H (.tu ts) (.ref a) [m] t1 x1:=by
 unfold ak;exact⟨a,xs,t1,x1,rfl,ha,h1,hx,ak.here _ _⟩
theorem ak.Bj{a:Addr}{xs:List V}{ks:List Ky}{ts:List T}{m:Nat}{t1:T}{x1:V}(ha:H a=some (.dK (ks.zip xs)))(hl:ks.length=xs.length)(h1:ts[m]? =some t1)(hx:xs[m]? =some x1):ak H (.m ks ts) (.ref a) [m] t1 x1:=by
 unfold ak;exact⟨a,xs,t1,x1,rfl,ha,hl,h1,hx,ak.here _ _⟩
theorem T.lg{n0:T}{m:Nat}:∀ {p:List Nat} {t:T},T.at t p=some n0→T.at t (p++[m])=T.at n0 [m]
 | [],t,h=>by
   have:t=n0:=by cases t<;>(injection h)
   subst this;rfl
 | k::p,.l us,h=>by
   have h:(match us[k]? with|some t=>T.at t p|none=>none)=some n0:=h
   show(match us[k]? with|some t=>T.at t (p++[m])|none=>none)=T.at n0 [m]
   cases e:us[k]? with
   |none=>rw[e]at h;cases h
   |some u=>rw[e]at h;exact T.lg h
 | k::p,.m ks us,h=>by
   have h:(match us[k]? with|some t=>T.at t p|none=>none)=some n0:=h
   show(match us[k]? with|some t=>T.at t (p++[m])|none=>none)=T.at n0 [m]
   cases e:us[k]? with
   |none=>rw[e]at h;cases h
   |some u=>rw[e]at h;exact T.lg h
 | k::p,.tu us,h=>by
   have h:(match us[k]? with|some t=>T.at t p|none=>none)=some n0:=h
   show(match us[k]? with|some t=>T.at t (p++[m])|none=>none)=T.at n0 [m]
   cases e:us[k]? with
   |none=>rw[e]at h;cases h
   |some u=>rw[e]at h;exact T.lg h
 |k::p,.d _,h=>by cases h
theorem T.wY{ts:List T}{m:Nat}:T.at (.l ts) [m]=ts[m]? :=by
 unfold T.at
 cases e:ts[m]? with
 |none=>rfl
 |some u=>cases u<;>rfl
noncomputable def Bg(M:Md)(i:Nat)(f:Pt):TE:=fun σ H Q=>∃ρ F t w p t1,aI M H F σ ρ∧ρ[i]? =some (.on (.tr t))∧σ[i]? =some (some w)∧f ρ=.ok p∧T.at t p=some t1∧∀v H',ah H H'→ak H' t w p t1 v→Q v H'
noncomputable abbrev JL(X:Cx)(i:Nat)(e:Expr)(f:Pt):Prop:=PE X e (Bg (ar X) i f)
theorem wj(i:Nat){x:Str}(hN:X.N[i]? =some x:=by rfl)(hv:L2.cg X.env.scope x:=by first|exact Or.inl rfl|exact Or.inr (Or.inl rfl)|exact Or.inr (Or.inr rfl))(hd:(x==("__debug__":Str))=false:=by decide)
   (hcd:(x==("__classdict__":Str))=false:=by decide):JL X i (.Name x pos) pN:=
 aY (L2.pv i hN hv hd hcd) fun σ H Q ⟨ρ,F,t,w,p,t1,r,e1,e2,ef,eat,q⟩=>by
   cases ef
   have:t1=t:=by cases t<;>(injection eat with eat;exact eat.symm)
   subst this
   exact⟨w,e2,q w H (ah.refl _) (by cases t1<;>exact⟨rfl,rfl⟩)⟩
theorem ak.same{t:T}{v w:V}{p:List Nat}{t1:T}{i:Nat}(r:aI M H F σ ρ)(e1:ρ[i]? =some (.on (.tr t)))(e2:σ[i]? =some (some v))(s1:ah H H')(h:ak H t v p t1 w):ak H' t v p t1 w:=by
 obtain⟨⟨v',as,ev,tr,_⟩,_,_⟩:=r.on i _ e1
 rw[e2]at ev;cases ev
 exact h.mv (fun _ _ _ e=>s1 _ _ e) tr fun b hb u f hu=>s1 _ _ hu
theorem aG.uz{i j:Nat}{t:T}{w v:V}{p:List Nat}{t1:T}(r:aG M G F0 H F σ ρ)(e1:ρ[i]? =some (.on (.tr t)))(e2:σ[i]? =some (some w))(hat:ak H t w p t1 v)(ho:t1.own=true)(hij:i≠j):
   aG M G F0 H F (σ.set j (some v)) (ρ.set j (.on (.al i p))):=by
 have back:∀(k:Nat) b,cw M H F (σ.set j (some v)) (ρ.set j (.on (.al i p))) k b→j≠k∧cw M H F σ ρ k b:=fun k b ⟨t1,v1,as1,h1,hv1,tr1,hb⟩=>by
   rcases get_set h1 with⟨_,z,_⟩|⟨hne,h1⟩
   ·cases z
   · rw[List.getElem?_set_ne hne]at hv1
     exact⟨hne,t1,v1,as1,h1,hv1,tr1,hb⟩
 refine⟨⟨by simp[r.rs.len],r.rs.aK,fun k d q=>?_,fun k d q=>?_,fun k ks d q=>?_,fun k l b ok ol ek el=>?_,fun k x h=>?_⟩,r.sm,r.sub,r.cK,fun k a ok e=>?_,fun k x b e hb=>?_⟩
 · rcases get_set q with⟨_,z,_⟩|⟨hne,q⟩
   ·cases z
   · obtain⟨w,e1,g⟩:=r.rs.sh k d q
     exact⟨w,by rw[List.getElem?_set_ne hne];exact e1,g⟩
 · rcases get_set q with⟨_,z,_⟩|⟨hne,q⟩
   ·cases z
   · obtain⟨a,xs,e1,g⟩:=r.rs.ol k d q
     exact⟨a,xs,by rw[List.getElem?_set_ne hne];exact e1,g⟩
 · rcases get_set q with⟨_,z,_⟩|⟨hne,q⟩
   ·cases z
   · obtain⟨a,xs,e1,g⟩:=r.rs.od k ks d q
     exact⟨a,xs,by rw[List.getElem?_set_ne hne];exact e1,g⟩
 · obtain⟨nk,ok⟩:=gq ok
   obtain⟨nl,ol⟩:=gq ol
   rw[List.getElem?_set_ne nk]at ek
   rw[List.getElem?_set_ne nl]at el
   exact r.rs.bE k l b ok ol ek el
 · rcases get_set h with⟨rfl,z,hl⟩|⟨hne,h⟩
   · injection z with z
     subst z
     refine⟨fun t' h'=>?_,fun b hb=>absurd rfl (back _ b hb).1,fun t' ht=>nomatch ht⟩
     rw[List.getElem?_set_ne (Ne.symm hij),e1]at h'
     cases h'
     exact⟨w,v,t1,by rw[List.getElem?_set_ne (Ne.symm hij)];exact e2,List.getElem?_set_self (by rw[←r.rs.len];exact hl),hat,ho⟩
   · obtain⟨h1,h2,h3⟩:=r.rs.on k x h
     refine⟨?_,fun b hb l ol el=>?_,fun t' ht l t2 hl=>?_⟩
     · cases x with
       | tr t0=>
         obtain⟨v0,as0,ev0,tr0,nd0⟩:=h1
         exact⟨v0,as0,by rw[List.getElem?_set_ne hne];exact ev0,tr0,nd0⟩
       | al i0 p0=>
         intro t0 h0
         rcases get_set h0 with⟨_,z,_⟩|⟨hne0,h0⟩
         ·cases z
         · obtain⟨v0,w0,t2,a1,a2,a3,a4⟩:=h1 t0 h0
           exact⟨v0,w0,t2,by rw[List.getElem?_set_ne hne0];exact a1,by rw[List.getElem?_set_ne hne];exact a2,a3,a4⟩
     · obtain⟨nl,ol⟩:=gq ol
       rw[List.getElem?_set_ne nl]at el
       exact h2 b (back k b hb).2 l ol el
     · rcases get_set hl with⟨_,z,_⟩|⟨_,hl⟩
       ·cases z
       ·exact h3 t' ht l t2 hl
 · obtain⟨nk,ok⟩:=gq ok
   rw[List.getElem?_set_ne nk]at e
   exact r.own k a ok e
 · obtain⟨hne,hb⟩:=back k b hb
   rw[List.getElem?_set_ne hne]at e
   exact r.dW k x b e hb
theorem tJ (j i:Nat) {x:Str} {e:Expr} {f:Pt} {p2:Pos} (hN:X.N.Nodup) (he:JL X i e f) (hi:X.N[j]? =some x:=by rfl) (hx:L2.Loc X.env.scope x:=by exact Or.inl rfl) (hf:X.fn x=true∨X.env.scope.names.lookup x=some .local:=by first|exact .inl rfl|exact .inr rfl)
   (hs:swapsWith e (some (.Name x p2)) pos.line X.env=pure false:=by rfl):JS X (.Assign [.Name x p2] e pos) (lB j i f):=fun F0=>
 cE (L2.jW hN hi hx he hs hf) fun D σ H ⟨ρ,F,fl,r,e,q⟩=>by
   obtain⟨p,ep,e⟩:=aj.mp e
   cases h1:ρ[i]? with
   |none=>rw[h1]at e;cases e
   | some s=>
     rw[h1]at e
     cases s with
     | on x=>
       cases x with
       | tr t=>
         have e:(match T.at t p with|some t1=>if t1.own=true∧i≠j then R.ok (Fl.next (ρ.set j (.on (.al i p))))else .bad|none=>.bad)=.ok fl:=e
         cases hat:T.at t p with
         |none=>rw[hat]at e;cases e
         | some t1=>
           rw[hat]at e
           have e:(if t1.own=true∧i≠j then R.ok (Fl.next (ρ.set j (.on (.al i p))))else .bad)=.ok fl:=e
           by_cases hc:t1.own=true∧i≠j
           · rw[if_pos hc]at e
             cases e
             obtain⟨⟨w,as,ew,tr,nd⟩,_,_⟩:=r.rs.on i _ h1
             exact⟨ρ,F,t,w,p,t1,r.rs,h1,ew,ep,hat,fun v H1 s1 at1=>q _ _ F (.same s1) ((r.same s1).uz h1 ew at1 hc.1 hc.2)⟩
           ·rw[if_neg hc]at e;cases e
       |al _ _=>cases e
     |_=>cases e
end
noncomputable def gW(i:Nat):Sm:=fun ρ=>match ρ[i]? with
 |some (.on (.tr t))=>.ok (.next (ρ.set i (.sh (T.toD t))))
 |_=>.bad
section
variable{X:Cx}{M:Md}{G H H':Hp}{F0 F F':Addr→Prop}{σ:L2.St}{ρ:En}{pos:Pos}{pins:List (Addr×Obj)}{s:Shared}{as:List Addr}
noncomputable def fi(H H':Hp)(b:Addr):Prop:=(H' b=H b∧∃xs,H b=some (.lst xs))∨∃ob kvs,H b=some (.dK kvs)∧H' b=some (.frz ob (.dK kvs))
mutual
theorem af.frz:∀ {t:T} {H:Hp} {v:V} {as:List Addr},Inv X pins σ H s→af M H F t v as→as.Nodup→∃H',Inv X pins σ H' s∧(∀b,b∉as→H' b=H b)∧∀b∈as,fi H H' b
 | .d x,H,v,as,I,h,_=>by
   simp only[af]at h
   exact⟨H,I,fun _ _=>rfl,fun b hb=>by rw[h.1]at hb;cases hb⟩
 | .l ts,H,v,as,I,h,nd=>by
   simp only[af]at h
   obtain⟨a,xs,bs,rfl,rfl,f,e2,r⟩:=h
   have nd2:=List.nodup_cons.mp nd
   obtain⟨H1,I1,h1,k1⟩:=ag.frz I r nd2.2
   refine⟨H1,I1,fun b hb=>h1 b fun hb2=>hb (List.mem_cons_of_mem _ hb2),fun b hb=>?_⟩
   rcases List.mem_cons.mp hb with rfl|hb
   ·exact .inl ⟨h1 b nd2.1,_,e2⟩
   ·exact k1 b hb
 | .m ks ts,H,v,as,I,h,nd=>by
   simp only[af]at h
   obtain⟨a,xs,bs,rfl,rfl,f,e2,l,r⟩:=h
   have nd2:=List.nodup_cons.mp nd
   obtain⟨H1,I1,h1,k1⟩:=ag.frz I r nd2.2
   have ha:H1 a=some (.dK (ks.zip xs)):=by rw[h1 a nd2.1];exact e2
   obtain⟨ob,I2⟩:=ni I1 ha
   refine⟨_,I2,fun b hb=>?_,fun b hb=>?_⟩
   · have hb':b≠a:=fun z=>by subst z;exact hb List.mem_cons_self
     rw[L2.az hb'];exact h1 b fun hb2=>hb (List.mem_cons_of_mem _ hb2)
   · rcases List.mem_cons.mp hb with h9|h9
     ·subst h9;exact .inr ⟨ob,_,e2,L2.aV⟩
     · have hb':b≠a:=fun z=>nd2.1 (z▸h9)
       unfold fi
       rw[L2.az hb']
       exact k1 b h9
 | .tu ts,H,v,as,I,h,nd=>by
   simp only[af]at h
   obtain⟨a,xs,rfl,f,e2,r⟩:=h
   exact ag.frz I r nd
theorem ag.frz:∀ {ts:List T} {H:Hp} {xs:List V} {as:List Addr},Inv X pins σ H s→ag M H F ts xs as→as.Nodup→∃H',Inv X pins σ H' s∧(∀b,b∉as→H' b=H b)∧∀b∈as,fi H H' b
 | [],H,xs,as,I,h,_=>by
   simp only[ag]at h
   exact⟨H,I,fun _ _=>rfl,fun b hb=>by rw[h.2]at hb;cases hb⟩
 | t::ts,H,xs,as,I,h,nd=>by
   simp only[ag]at h
   obtain⟨x,r,bs,cs,rfl,rfl,h1,h2⟩:=h
   have nd2:=List.nodup_append.mp nd
   obtain⟨H1,I1,o1,k1⟩:=af.frz I h1 nd2.1
   have fs1:=h1.fs
   have mv1:Mv F H F H1:=fun b o n e=>⟨n,by rw[o1 b fun hb=>n (fs1 b hb).1];exact e⟩
   have h2':ag M H1 F ts r cs:=ag.mv mv1 (fun b hb u f hu=>⟨f,by rw[o1 b fun hb2=>nd2.2.2 b hb2 b hb rfl];exact hu⟩) h2
   obtain⟨H2,I2,o2,k2⟩:=ag.frz I1 h2' nd2.2.1
   refine⟨H2,I2,fun b hb=>?_,fun b hb=>?_⟩
   ·rw[o2 b fun hb2=>hb (List.mem_append_right _ hb2),o1 b fun hb2=>hb (List.mem_append_left _ hb2)]
   · rcases List.mem_append.mp hb with hb|hb
     · have:=k1 b hb
       unfold fi at this ⊢
       rw[o2 b fun hb2=>nd2.2.2 b hb b hb2 rfl];exact this
     · have:=k2 b hb
       unfold fi at this ⊢
       rw[o1 b fun hb2=>nd2.2.2 b hb2 b hb rfl]at this;exact this
end
mutual
theorem af.seen(m:Mv F H F' H'):∀ {t:T} {v:V} {as:List Addr},af M H F t v as→(∀b∈as,fi H H' b∧¬F' b)→Rep M H' F' (T.toD t) v
 | .d x,v,as,h,_=>by
   simp only[af]at h
   exact h.2.mv m
 | .l ts,v,as,h,k=>by
   simp only[af]at h
   obtain⟨a,xs,bs,rfl,rfl,f,e2,r⟩:=h
   obtain⟨ka,na⟩:=k a List.mem_cons_self
   simp only[T.toD,Rep]
   refine⟨a,xs,rfl,.inl ⟨na,.inl ?_⟩,ag.seen m r fun b hb=>k b (List.mem_cons_of_mem _ hb)⟩
   rcases ka with⟨z,_⟩|⟨ob,kvs,z,_⟩
   ·rw[z];exact e2
   ·rw[e2]at z;cases z
 | .m ks ts,v,as,h,k=>by
   simp only[af]at h
   obtain⟨a,xs,bs,rfl,rfl,f,e2,l,r⟩:=h
   obtain⟨ka,na⟩:=k a List.mem_cons_self
   simp only[T.toD,Rep]
   rcases ka with⟨_,ys,z⟩|⟨ob,kvs,z,z2⟩
   ·rw[e2]at z;cases z
   · rw[e2]at z;cases z
     exact⟨a,xs,rfl,.inl ⟨na,ob,z2⟩,l,ag.seen m r fun b hb=>k b (List.mem_cons_of_mem _ hb)⟩
 | .tu ts,v,as,h,k=>by
   simp only[af]at h
   obtain⟨a,xs,rfl,f,e2,r⟩:=h
   simp only[T.toD,Rep]
   exact⟨a,xs,rfl,.inl ⟨(m _ _ f e2).1,.inl (m _ _ f e2).2⟩,ag.seen m r k⟩
theorem ag.seen(m:Mv F H F' H'):∀ {ts:List T} {xs:List V} {as:List Addr},ag M H F ts xs as→(∀b∈as,fi H H' b∧¬F' b)→ab M H' F' (T.fO ts) xs
 | [],xs,as,h,_=>by
   simp only[ag]at h
   rw[h.1];exact ab.nil
 | t::ts,xs,as,h,k=>by
   simp only[ag]at h
   obtain⟨x,r,bs,cs,rfl,rfl,h1,h2⟩:=h
   exact ab.cons (af.seen m h1 fun b hb=>k b (List.mem_append_left _ hb)) (ag.seen m h2 fun b hb=>k b (List.mem_append_right _ hb))
end
theorem aI.wZ{i:Nat}{t:T}{w:V}{d:D}(r:aI M H F σ ρ)(e1:ρ[i]? =some (.on (.tr t)))(e2:σ[i]? =some (some w))(tr:af M H F t w as)(hH:∀b,b∉as→H' b=H b)(hF:∀b,F' b↔F b∧b∉as)(hd:Rep M H' F' d w):
   Mv F H F' H'∧aI M H' F' σ (ρ.set i (.sh d)):=by
 have fs:=tr.fs
 have mv:Mv F H F' H':=fun b o n e=>⟨fun h=>n ((hF b).mp h).1,by rw[hH b fun hb=>n (fs b hb).1];exact e⟩
 have ro:=r.on i _ e1
 have at0:∀b∈as,cw M H F σ ρ i b:=fun b hb=>⟨t,w,as,e1,e2,tr,hb⟩
 have keep:∀(j:Nat) b u,aW ρ j→σ[j]? =some (some (.ref b))→F b→H b=some u→F' b∧H' b=some u:=fun j b u oj ej fb hu=>by
   have hb:b∉as:=fun hb=>ro.2.1 b (at0 b hb) j oj ej
   exact⟨(hF b).mpr ⟨fb,hb⟩,by rw[hH b hb];exact hu⟩
 refine⟨mv,⟨by simp[r.len],fun b h=>?_,fun j e q=>?_,fun j ds q=>?_,fun j ks ds q=>?_,fun j k b oj ok ej ek=>r.bE j k b oj.cQ.2 ok.cQ.2 ej ek,?_⟩⟩
 · obtain⟨f,hb⟩:=(hF b).mp h
   obtain⟨o,e⟩:=r.aK b f
   exact⟨o,by rw[hH b hb];exact e⟩
 · rcases get_set q with⟨rfl,hx,hl⟩|⟨hne,q⟩
   · cases hx
     exact⟨_,e2,hd⟩
   · obtain⟨w,e1,g⟩:=r.sh j e q
     exact⟨w,e1,g.mv mv⟩
 · rcases get_set q with⟨rfl,x,hl⟩|⟨hne,q⟩
   ·cases x
   · obtain⟨b,ys,e1,f,e3,g⟩:=r.ol j ds q
     obtain⟨f',e'⟩:=keep j b _ (.inl ⟨_,q⟩) e1 f e3
     exact⟨b,ys,e1,f',e',g.mv mv⟩
 · rcases get_set q with⟨rfl,x,hl⟩|⟨hne,q⟩
   ·cases x
   · obtain⟨b,ys,e1,f,e3,l,g⟩:=r.od j ks ds q
     obtain⟨f',e'⟩:=keep j b _ (.inr ⟨_,_,q⟩) e1 f e3
     exact⟨b,ys,e1,f',e',l,g.mv mv⟩
 · have old:∀(j:Nat) x,(ρ.set i (.sh d))[j]? =some (.on x)→i≠j∧ρ[j]? =some (.on x):=fun j x e=>by
     rcases get_set e with⟨_,z,_⟩|⟨hne,e⟩
     ·cases z
     ·exact⟨hne,e⟩
   refine r.on.mv mv (fun j x e=>⟨(old j x e).2,rfl⟩) (fun j x b u e hb f hu=>?_) fun j x b e hb k ok=>(r.on j x (old j x e).2).2.1 b hb k ok.cQ.2
   obtain⟨t2,v2,as2,h2,_⟩:=hb
   exact absurd (ro.2.2 t rfl j t2 h2).symm (old j x e).1
theorem vL(i:Nat){rest:List Stmt}{fs:List Sm}(h:cm X rest (aC fs)):cm X rest (aC (gW i::fs)):=fun F0 pins s σ H D I ⟨ρ,F,fl,r,e,q⟩=>by
 obtain⟨f1,e1,e⟩:=aj.mp e
 unfold gW at e1
 split at e1
 · rename_i t q1
   cases e1
   obtain⟨⟨w,as,ew,tr,nd⟩,_,_⟩:=r.rs.on i _ q1
   obtain⟨H1,I1,o1,k1⟩:=af.frz I tr nd
   have fs1:=tr.fs
   have mv0:Mv F H (fun b=>F b∧b∉as) H1:=fun b o n e=>⟨fun h=>n h.1,by rw[o1 b fun hb=>n (fs1 b hb).1];exact e⟩
   obtain⟨mv,rs⟩:=r.rs.wZ q1 ew tr o1 (F':=fun b=>F b∧b∉as) (fun _=>Iff.rfl) (af.seen mv0 tr fun b hb=>⟨k1 b hb,fun h=>h.2 hb⟩)
   have hG:∀b∈as,X.eV b=none:=fun b hb=>r.dW i _ b q1 ⟨t,w,as,q1,ew,tr,hb⟩
   refine h F0 pins s σ H1 D I1 ⟨_,_,fl,⟨rs,fun b u hb=>?_,fun b f=>⟨r.sub b f,fun hb=>?_⟩,r.cK,fun j b oj ej=>r.own j b oj.cQ.2 ej,fun j x b ex hb=>?_⟩,e,q.mv mv⟩
   ·rw[o1 b fun hb2=>by rw[hG b hb2]at hb;cases hb];exact r.sm b u hb
   · obtain⟨o,eo⟩:=r.cK b f
     rw[hG b hb]at eo;cases eo
   · obtain⟨t2,v2,as2,h2,_⟩:=hb
     rcases get_set h2 with⟨_,z,_⟩|⟨hne,h2⟩
     ·cases z
     ·exact absurd ((r.rs.on i _ q1).2.2 t rfl j t2 h2).symm hne
 ·cases e1
end
noncomputable def vi(ns:List Int):List Int:=ns.mergeSort fun a b=>decide (a≤b)
noncomputable def pw:List Ky→Option (List Int)
 |[]=>some []
 |.inl i::r=>(pw r).map (i:: ·)
 |.inr _::_=>none
noncomputable def CH:D→R D
 | .aA ks _=>match pw ks with
   |some ns=>if ns.length<64 then .ok (.lst ((vi ns).map .int))else .bad
   |none=>.bad
 |_=>.bad
noncomputable def dw:D→R D
 |.aA ks _=>.ok (.int ks.length)
 |x=>iK x
section
variable{X:Cx}{M:Md}{G H H':Hp}{F0 F F':Addr→Prop}{σ:L2.St}{ρ:En}{pos:Pos}{pins:List (Addr×Obj)}{s:Shared}
noncomputable def pz(M:Md):List V→Hp→VK→Prop:=fun xs H Q=>nW M xs H Q∨∃F p kvs,xs=[.ref p]∧dy M H F p kvs∧Q (.int kvs.length) H
theorem lS:aZ X (.builtin "len") (pz (ar X)):=by
 intro pins s σ H xs us Q I r h
 rcases h with h|⟨F,p,kvs,rfl,hd,q⟩
 ·exact qK pins s σ H xs us Q I r h
 · obtain⟨u,rfl,ru⟩:=L2.vals1 r
   cases ru
   obtain⟨z,hsys,vs,rel,dd⟩:=gF I hd
   have hl:=jP rel
   refine call_len_dict hsys dd (by rw[←hl];rw[sizeLine_eq]at z;omega) ?_
   rw[←hl]
   exact⟨.int _,H,I.tok _,⟨_,rfl⟩,q⟩
theorem kC:dJ M (g1 dw) (pz M):=by
 intro F H xs as d Q tr rs e q
 have e0:=e
 unfold g1 at e
 split at e
 · rename_i a
   by_cases hd:∃ks vs,a=.aA ks vs
   · obtain⟨ks,vs,rfl⟩:=hd
     cases e
     obtain⟨x,rfl,r⟩:=rs.one
     simp only[Rep]at r
     obtain⟨p,ys,rfl,h1,hl,rs⟩:=r
     refine .inr ⟨F,p,_,rfl,h1,?_⟩
     rw[List.length_zip,show min ks.length ys.length=ks.length by omega]
     exact q _ _ (ah.refl _) cP
   · refine .inl (rW F H xs _ d Q tr rs ?_ q)
     show iK a=.ok d
     cases a with
     |aA ks vs=>exact absurd ⟨ks,vs,rfl⟩ hd
     |_=>exact e
 ·cases e
end
end PL
namespace PL
open PySem PySem.Spec
end PL
namespace PL
open PySem PySem.Spec
open L2 (V Hp HO Cx PE PT PW PA PS bz PG cu VK TE TT TA TS TI TG Inv RelV Vals Rd aT aX upd ah Key XK Ends aN dY aZ R2 EP It Turn bY Un)
noncomputable def dm(f:Xt):Sm:=fun ρ=>(f ρ).bind fun t=>.ok (.cy t)
noncomputable def gu(n:Nat)(body:Sm):List D→R T:=fun ds=>(body (ds.map .sh++List.replicate (n - ds.length) .un)).bind fun f=>match f with
 |.cy t=>.ok t
 |_=>.bad
noncomputable def spT(M:Md)(m:List D→R T)(n:Nat):L2.Sp:=fun vs H Q _=>∃F ds t,(∀p,F p→∃o,H p=some o)∧ab M H F ds vs∧ds.length=n∧m ds=.ok t∧∀v H' F' as,ah H H'→(∀b∈as,H b=none)→as.Nodup→(∀b,F' b↔F b∨b∈as)→af M H' F' t v as→Q v H'
noncomputable def bO(m:List D→R T)(fs:List Ex):Xt:=fun ρ=>(eList fs ρ).bind m
noncomputable def eX(f:Xt):Ex:=fun ρ=>(f ρ).bind fun t=>.ok (T.toD t)
section
variable{X:Cx}{M:Md}{G H H':Hp}{F0 F F':Addr→Prop}{σ:L2.St}{ρ:En}{pos:Pos}{pins:List (Addr×Obj)}{s:Shared}{as:List Addr}
theorem vR{a:Expr}{f:Xt}(ha:JX X a f):JS X (.Return (some a) pos) (dm f):=fun F0=>
 cE (L2.nP ha) fun D σ H ⟨ρ,F,fl,r,e,q⟩=>by
   obtain⟨t,et,e⟩:=aj.mp e
   cases e
   exact⟨ρ,F,t,r.rs,et,fun v H1 F1 as s1 hn nd hF tr=>q v H1 F F1 as (.same s1) (r.sm.trans s1) r.sub (fun b hb=>r.sm.free (hn b hb)) nd hF tr⟩
theorem Bq{N:List Str}{n:Nat}{body:Sm}{vs:List V}{Q:VK}{E:XK}{t:TS}(ht:∀F0 D σ H,cT M G F0 body D σ H→t D σ H)(h:spT M (gu N.length body) n vs G Q E)(hn:n≤N.length):t {nx:=fun _ H'=>Q .ai H',rt:=Q} (L2.start N vs) G:=by
 obtain⟨F,ds,t',tr,rs,hl,e,q⟩:=h
 obtain⟨f,ef,e⟩:=aj.mp e
 refine ht F _ _ _ ⟨_,F,f,so tr rs hl hn,ef,?_⟩
 cases f with
 | cy t1=>
   cases e
   exact fun v H' F1 F2 as mv sm sub hG nd hF tr=>q v H' (fun b=>F b∨b∈as) as sm hG nd (fun _=>Iff.rfl) (af.less (fun b f=>(hF b).mpr (f.imp (sub b) id)) (fun b hb=>.inr hb) tr)
 |_=>cases e
structure bR(P:Program)(w:World)(K:PySem.W.Frag)(mg:Str→Option Value)(base:Heap)(x:Str)(k n:Nat)(m:List D→R T):Prop where
 ex:∃f fd ps,L2.b5 P w K mg base L2.cL k f fd ps (spT ⟨K,P,w⟩ m n)∧L2.Binds K fd ps []∧PySem.W.keepIn K (.ref f)=true∧mg x=some (.ref f)
theorem kg{P:Program}{w:World}{K:PySem.W.Frag}{mg:Str→Option Value}{base:Heap}{x qual:Str}{st:Stmt}{f:Addr}{fd:FuncData}{N ps:List Str}{k n:Nat}{body:Sm}(Fu:L2.bq K x qual st f fd)(hm:mg x=some (.ref f))(S:L2.bF N ps (L2.aE st))(hb:L2.Binds K fd ps [])
   (h:∀(cdv:Value) (A:Around) (outer:List Env) (s:Shared) (H:Hp) (E:XK),L2.bb k (A.deeper (PyProof.Rows.envOfC qual (L2.aE st) s.heap.objs.size f cdv))→cm (L2.d6 L2.cL P w K mg base N qual (L2.aE st) f cdv A outer s H E).cY (L2.bp st) body)
   (hn:ps.length=n:=by rfl):bR P w K mg base x (k+1) n (gu N.length body):=by
 refine⟨f,fd,ps,Fu.ok S (fun vs H Q E h=>?_) (fun cdv A outer s H vs Q E hr hsp=>?_),hb,Fu.kp,hm⟩
 · obtain⟨F,ds,d,_,rs,hl,_⟩:=h
   rw[←rs.length,hl,hn]
 · refine⟨fun D σ H'=>∃F0,cT ⟨K,P,w⟩ H F0 body D σ H',fun pins s' σ H' D I ⟨F0,q⟩=>h cdv A outer s H E hr F0 pins s' σ H' D I q,?_⟩
   refine Bq (G:=H) (t:=fun D σ H'=>∃F0,cT ⟨K,P,w⟩ H F0 body D σ H') (fun F0 D σ H' h=>⟨F0,h⟩) hsp ?_
   have:=congrArg List.length S.pre
   rw[List.length_take]at this
   omega
theorem t9{m:List D→R T}{n:Nat}{fs:List Ex}{Q:VK}{E:XK}(hn:fs.length=n)(h:mV M (bO m fs) σ H Q):L2.lG (spT M m n) [] E (kF M (eList fs)) σ H Q:=by
 obtain⟨ρ,F,t,hr,e,q⟩:=h
 obtain⟨ds,eds,e⟩:=aj.mp e
 refine⟨ρ,F,ds,hr,eds,fun vs H1 s1 rs=>?_⟩
 show spT M m n (vs++[]) H1 Q E
 rw[List.append_nil]
 exact⟨F,ds,t,(hr.same s1).aK,rs,by rw[fV eds];exact hn,e,fun v H2 F2 as s2 hn nd hF tr=>q v H2 F2 as (s1.trans s2) (fun b hb=>s1.free (hn b hb)) nd hF tr⟩
theorem A6{x:Str}{k j n:Nat}{m:List D→R T}{e:Expr}{es:List Expr}{fs:List Ex}{p:Pos}(d:bR X.prog X.w X.K X.mg X.base x k n m)(hr:L2.bb j X.A)(hg:L2.Gl X x)(ha:JA X (e::es) (eList fs))(hk:k≤j:=by decide)(hn:fs.length=n:=by rfl)
   (hdb:(x==("__debug__":Str))=false:=by decide) (he:starEach (e::es) X.env=(false,eval e X.env)::starEach es X.env:=by rfl) (hpl:(backTo pos (starEach es X.env)).any (·.1)=false:=by rfl):JX X (.Call (.Name x p) (e::es) [] pos) (bO m fs):=by
 obtain⟨f,fd,ps,h1,h2,h3,h4⟩:=d.ex
 exact aY (L2.oF h1 (hr.mono hk) hg h4 h3 h2 .nil L2.lF ha hdb he hpl) fun σ H Q h=>t9 hn h
theorem uQ{x:Str}{k j:Nat}{m:List D→R T}{p:Pos}(d:bR X.prog X.w X.K X.mg X.base x k 0 m)(hr:L2.bb j X.A)(hg:L2.Gl X x)(hk:k≤j:=by decide)(hdb:(x==("__debug__":Str))=false:=by decide):JX X (.Call (.Name x p) [] [] pos) (bO m []):=by
 obtain⟨f,fd,ps,h1,h2,h3,h4⟩:=d.ex
 refine aY (L2.AE h1 (hr.mono hk) hg h4 h3 h2 .nil L2.lF hdb) fun σ H Q ⟨ρ,F,d,hr,e,q⟩=>?_
 exact⟨F,[],d,hr.aK,ab.nil,rfl,e,q⟩
theorem wk{e:Expr}{f:Xt}(h:JX X e f):JE X e (eX f):=by
 intro pins s σ H Q I ⟨ρ,F,d,hr,e,q⟩
 obtain⟨t,et,e⟩:=aj.mp e
 cases e
 refine L2.aD (h pins s σ H (fun v H'=>∃F' as,ah H H'∧(∀b∈as,H b=none)∧as.Nodup∧(∀b,F' b↔F b∨b∈as)∧af (ar X) H' F' t v as) I ⟨ρ,F,t,hr,et,fun v H' F' as a b c d e=>⟨F',as,a,b,c,d,e⟩⟩) fun u s1 ⟨v,H1,I1,rv,F1,as,sm,hn,nd,hF,tr⟩=>?_
 obtain⟨H2,I2,o2,k2⟩:=af.frz I1 tr nd
 have fs:=tr.fs
 have nF:∀b∈as,¬F b:=fun b hb f=>by obtain⟨o,e⟩:=hr.aK b f;rw[hn b hb]at e;cases e
 refine⟨v,H2,I2,rv,q v H2 (fun b o e=>?_) (af.seen (fun b o n e=>⟨fun f=>n ((hF b).mpr (.inl f)),?_⟩) tr fun b hb=>⟨k2 b hb,nF b hb⟩)⟩
 ·rw[o2 b fun hb=>by rw[hn b hb]at e;cases e];exact sm _ _ e
 ·rw[o2 b fun hb=>n ((hF b).mpr (.inr hb))];exact e
noncomputable def xT(fs:List Xt):Xt:=fun ρ=>(cW fs ρ).bind fun ts=>.ok (.tu ts)
theorem BH{es:List Expr}{fs:List Xt}{k1}(h:jE X es (cW fs))(hl:fs.length≤1000:=by decide):JX X (.Tuple es k1 pos) (xT fs):=
 aY (L2.mQ h) fun σ H Q ⟨ρ,F,t,hr,e,q⟩=>by
   obtain⟨ts,ets,e⟩:=aj.mp e
   cases e
   refine⟨ρ,F,ts,hr,ets,fun vs H1 F1 as s1 hn nd hF tr=>⟨?_,fun p hp=>?_⟩⟩
   ·rw[←tr.len,sk ets];exact Nat.le_trans hl (by decide)
   · have hpF:¬F1 p:=fun f=>by
       rcases(hF p).mp f with f|f
       · obtain⟨o,eo⟩:=hr.aK p f
         rw[s1 _ _ eo]at hp;cases hp
       · obtain⟨_,u,hu⟩:=tr.fs p f
         rw[hp]at hu;cases hu
     refine q _ _ F1 as (s1.trans (ah.bS hp _)) hn nd hF ?_
     simp only[af]
     have ne:∀b u,H1 b=some u→b≠p:=fun b u e z=>by subst z;rw[hp]at e;cases e
     exact⟨p,vs,rfl,hpF,L2.aV,tr.mv (fun b o n e=>⟨n,by rw[L2.az (ne b o e)];exact e⟩) fun b hb u f hu=>⟨f,by rw[L2.az (ne b u hu)];exact hu⟩⟩
noncomputable def fE(it:bc)(n:Nat)(fv:List Nat)(tg:bf)(cs:List aF)(el:Xt):Xt:=fun ρ=>(kl it n fv tg cs el ρ).bind fun ts=>.ok (.l ts)
theorem wz(tn fv:List Str)(fvi:List Nat){elt iter target:Expr}{ifs:List Expr}{scope:Scope}{it:bc}{tg:bf}{cs:List aF}{el:Xt}(hxe:∀e s,¬X.xe e s)(hc:X.calm=true)(ok:g0 X scope tn fv fvi)(hi:JI X target iter it)(low:gd tn.length tg)
   (ht:∀cl C s H fp,JG (cb X scope cl C (tn++fv) s H fp) target tg) (hcs:∀cl C s H fp,i5 (cb X scope cl C (tn++fv) s H fp) ifs cs) (hel:∀cl C s H fp,JX (cb X scope cl C (tn++fv) s H fp) elt el)
   (hs:∀x,foldedSetIterable iter X.env x=pure x):JX X (.ListComp elt [⟨target,iter,ifs,0⟩] scope pos) (fE it tn.length fvi tg cs el):=by
 intro pins s σ H Q I ⟨ρ,F,t,hr,e,q⟩
 obtain⟨all,ea,e⟩:=aj.mp e
 cases e
 show wpAny _ _ (comprehension (.ListComp elt [⟨target,iter,ifs,0⟩] scope pos) scope X.env _ (newList []) false (eval iter X.env) none) _ _ s
 refine pj tn fv fvi hxe hc ok hi low ht hcs hel hs I hr ea fun D C s4 H' vs Hq bs F2 f hm I5 fC q1 q2 q3 q5 q6 q7 q4=>?_
 obtain⟨m,hm⟩:=hm
 refine⟨m,hm,fun h' hsb=>⟨.ref D,H',I5.turned (t':=s4.toks) (fun b o n e=>by rw[hsb.2 b n];exact e) fC.1 fC.2.1 fC.2.2.2.1 fC.2.2.2.2.1 fC.2.2.2.2.2,rfl,?_⟩⟩
 rw[←q4]
 obtain⟨a1,a2,a3,a4⟩:=xJ q1 q3 q5 q6 q7 q2
 exact q _ _ _ _ a1 a2 a3 (fun _=>Iff.rfl) a4
end
noncomputable def lO(i:Nat)(t:T):Slot→Slot
 | .on (.al k p)=>if k=i then(match T.at t p with
   |some t1=>.sh (T.toD t1)
   |none=>.un)else .un
 |s=>s
noncomputable def cI(i:Nat)(t:T)(ρ:En):En:=(ρ.map (lO i t)).set i (.sh (T.toD t))
noncomputable def gT(i:Nat)(f:Ex):Ex:=fun ρ=>match ρ[i]? with
 |some (.on (.tr t))=>(f (cI i t ρ)).bind fun d=>if cf d=true then .ok d else .bad
 |_=>.bad
noncomputable def gJ(i:Nat)(f:aF):aF:=fun ρ=>match ρ[i]? with
 |some (.on (.tr t))=>f (cI i t ρ)
 |_=>.bad
noncomputable def jz(i:Nat)(f:Ex):Ex:=fun ρ=>match ρ[i]? with
 | some (.on (.tr t))=>(f (cI i t ρ)).bind fun d=>match d with
   |.lst ds=>if gr ds=true then .ok (.lst ds)else .bad
   |_=>.bad
 |_=>.bad
section
variable{X:Cx}{M:Md}{G H H':Hp}{F0 F F':Addr→Prop}{σ:L2.St}{ρ:En}{pos:Pos}{pins:List (Addr×Obj)}{s:Shared}{as:List Addr}
theorem qS(I0:Inv X pins σ H s):∀ {as:List Addr} {H1:Hp} {s1:Shared},Inv X pins σ H1 s1→(∀b∈as,H1 b=H b∨∃ob kvs,H b=some (.dK kvs)∧H1 b=some (.frz ob (.dK kvs)))→as.Nodup→∃H2,Inv X pins σ H2 s1∧(∀b∈as,H2 b=H b)∧∀b,b∉as→H2 b=H1 b
 |[],H1,s1,I1,_,_=>⟨H1,I1,(fun _ hb=>nomatch hb),fun _ _=>rfl⟩
 | a::as,H1,s1,I1,k,nd=>by
   have nd2:=List.nodup_cons.mp nd
   obtain⟨H2,I2,k2,o2⟩:=qS I0 I1 (fun b hb=>k b (List.mem_cons_of_mem _ hb)) nd2.2
   have ea:H2 a=H1 a:=o2 a nd2.1
   rcases k a List.mem_cons_self with h|⟨ob,kvs,h1,h2⟩
   · refine⟨H2,I2,fun b hb=>?_,fun b hb=>o2 b fun hb2=>hb (List.mem_cons_of_mem _ hb2)⟩
     rcases List.mem_cons.mp hb with rfl|hb
     ·rw[ea];exact h
     ·exact k2 b hb
   · refine⟨_,tL I0 h1 I2 (by rw[ea];exact h2),fun b hb=>?_,fun b hb=>?_⟩
     · by_cases hba:b=a
       ·subst hba;rw[L2.aV,h1]
       · rw[L2.az hba]
         exact k2 b ((List.mem_cons.mp hb).resolve_left hba)
     · have hba:b≠a:=fun z=>by subst z;exact hb List.mem_cons_self
       rw[L2.az hba];exact o2 b fun hb2=>hb (List.mem_cons_of_mem _ hb2)
theorem aI.cI{i:Nat}{t:T}{w:V}(r:aI M H F σ ρ)(e1:ρ[i]? =some (.on (.tr t)))(e2:σ[i]? =some (some w))(tr:af M H F t w as)(hH:∀b,b∉as→H' b=H b)(hz:∀b∈as,fi H H' b):
   Mv F H (fun b=>F b∧b∉as) H'∧aI M H' (fun b=>F b∧b∉as) σ (PL.cI i t ρ):=by
 have fs:=tr.fs
 have mv:Mv F H (fun b=>F b∧b∉as) H':=fun b o n e=>⟨fun h=>n h.1,by rw[hH b fun hb=>n (fs b hb).1];exact e⟩
 have ro:=r.on i _ e1
 have at0:∀b∈as,cw M H F σ ρ i b:=fun b hb=>⟨t,w,as,e1,e2,tr,hb⟩
 have keep:∀(j:Nat) b u,aW ρ j→σ[j]? =some (some (.ref b))→F b→H b=some u→(F b∧b∉as)∧H' b=some u:=fun j b u oj ej fb hu=>by
   have hb:b∉as:=fun hb=>ro.2.1 b (at0 b hb) j oj ej
   exact⟨⟨fb,hb⟩,by rw[hH b hb];exact hu⟩
 have root:Rep M H' (fun b=>F b∧b∉as) (T.toD t) w:=af.seen mv tr fun b hb=>⟨hz b hb,fun h=>h.2 hb⟩
 have get:∀(j:Nat) s,(PL.cI i t ρ)[j]? =some s→(j=i∧s=.sh (T.toD t))∨(j≠i∧∃z,ρ[j]? =some z∧lO i t z=s):=fun j s h=>by
   unfold PL.cI at h
   rcases get_set h with⟨h1,h2,_⟩|⟨hne,h⟩
   ·exact .inl ⟨h1.symm,h2.symm⟩
   · rw[List.getElem?_map]at h
     cases e:ρ[j]? with
     |none=>rw[e]at h;cases h
     |some z=>rw[e]at h;exact .inr ⟨Ne.symm hne,z,rfl,by simpa using h⟩
 have same:∀ {z s:Slot},lO i t z=s→(s=z∧∀k p,z≠.on (.al k p))∨s=.un∨∃p t1,z=.on (.al i p)∧T.at t p=some t1∧s=.sh (T.toD t1):=fun {z s} h=>by
   unfold lO at h
   split at h
   · rename_i k p
     by_cases hk:k=i
     · subst hk
       rw[if_pos rfl]at h
       split at h
       · rename_i t1 h1
         exact .inr (.inr ⟨p,t1,rfl,h1,h.symm⟩)
       ·exact .inr (.inl h.symm)
     ·rw[if_neg hk]at h;exact .inr (.inl h.symm)
   · rename_i hne
     exact .inl ⟨h.symm,fun k p z=>hne k p z⟩
 have owned:∀j,aW (PL.cI i t ρ) j→aW ρ j:=fun j h=>by
   rcases h with⟨ds,h⟩|⟨ks,ds,h⟩
   · rcases get j _ h with⟨_,z⟩|⟨_,z,hz1,hz2⟩
     ·cases z
     · rcases same hz2 with⟨z1,_⟩|z1|⟨_,_,_,_,z1⟩
       ·subst z1;exact .inl ⟨_,hz1⟩
       ·cases z1
       ·cases z1
   · rcases get j _ h with⟨_,z⟩|⟨_,z,hz1,hz2⟩
     ·cases z
     · rcases same hz2 with⟨z1,_⟩|z1|⟨_,_,_,_,z1⟩
       ·subst z1;exact .inr ⟨_,_,hz1⟩
       ·cases z1
       ·cases z1
 refine⟨mv,⟨by unfold PL.cI;simp[r.len],fun b h=>?_,fun j d h=>?_,fun j ds h=>?_,fun j ks ds h=>?_,fun j k b oj ok ej ek=>r.bE j k b (owned j oj) (owned k ok) ej ek,.no fun j x h=>?_⟩⟩
 · obtain⟨o,e⟩:=r.aK b h.1
   exact⟨o,by rw[hH b h.2];exact e⟩
 · rcases get j _ h with⟨rfl,z⟩|⟨_,z,hz1,hz2⟩
   ·cases z;exact⟨w,e2,root⟩
   · rcases same hz2 with⟨z1,_⟩|z1|⟨p,t1,z1,hat,z2⟩
     · subst z1
       obtain⟨v,ev,rv⟩:=r.sh j d hz1
       exact⟨v,ev,rv.mv mv⟩
     ·cases z1
     · subst z1
       cases z2
       obtain⟨v0,w1,t2,a1,a2,a3,_⟩:=(r.on j _ hz1).1 t e1
       rw[e2]at a1;cases a1
       have:=a3.ji
       rw[hat]at this;cases this
       obtain⟨bs,tp,sub⟩:=ak.part tr a3
       exact⟨w1,a2,af.seen mv tp fun b hb=>⟨hz b (sub.subset hb),fun h=>h.2 (sub.subset hb)⟩⟩
 · rcases get j _ h with⟨_,z⟩|⟨_,z,hz1,hz2⟩
   ·cases z
   · rcases same hz2 with⟨z1,_⟩|z1|⟨_,_,_,_,z1⟩
     · subst z1
       obtain⟨b,ys,e3,f,e4,g⟩:=r.ol j ds hz1
       obtain⟨f',e'⟩:=keep j b _ (.inl ⟨_,hz1⟩) e3 f e4
       exact⟨b,ys,e3,f',e',g.mv mv⟩
     ·cases z1
     ·cases z1
 · rcases get j _ h with⟨_,z⟩|⟨_,z,hz1,hz2⟩
   ·cases z
   · rcases same hz2 with⟨z1,_⟩|z1|⟨_,_,_,_,z1⟩
     · subst z1
       obtain⟨b,ys,e3,f,e4,l,g⟩:=r.od j ks ds hz1
       obtain⟨f',e'⟩:=keep j b _ (.inr ⟨_,_,hz1⟩) e3 f e4
       exact⟨b,ys,e3,f',e',l,g.mv mv⟩
     ·cases z1
     ·cases z1
 · rcases get j _ h with⟨_,z⟩|⟨hj,z,hz1,hz2⟩
   ·cases z
   · rcases same hz2 with⟨z1,hn⟩|z1|⟨_,_,_,_,z1⟩
     · subst z1
       cases x with
       |tr t'=>exact hj (ro.2.2 t rfl j t' hz1)
       |al k p=>exact hn k p rfl
     ·cases z1
     ·cases z1
theorem mP{H1:Hp}{s1:Shared}(I:Inv X pins σ H s)(nd:as.Nodup)(hH:∀b,b∉as→H' b=H b)(hz:∀b∈as,fi H H' b)(I1:Inv X pins σ H1 s1)(sm:ah H' H1):
   ∃H2,Inv X pins σ H2 s1∧ah H H2∧(∀b,b∉as→H2 b=H1 b)∧(∀b∈as,H2 b=H b)∧(∀b∈as,∃u,H1 b=some u)∧∀a xs,cC M H1 (fun b=>F b∧b∉as) a xs→cC M H2 F a xs:=by
 have k1:∀b∈as,(H1 b=H b∧∃xs,H b=some (.lst xs))∨∃ob kvs,H b=some (.dK kvs)∧H1 b=some (.frz ob (.dK kvs)):=fun b hb=>by
   rcases hz b hb with⟨h1,xs,h2⟩|⟨ob,kvs,h1,h2⟩
   ·exact .inl ⟨by rw[h2]at h1 ⊢;exact sm _ _ h1,xs,h2⟩
   ·exact .inr ⟨ob,kvs,h1,sm _ _ h2⟩
 obtain⟨H2,I2,a2,o2⟩:=qS I I1 (fun b hb=>(k1 b hb).imp And.left id) nd
 refine⟨H2,I2,fun b o e=>?_,o2,a2,fun b hb=>?_,fun a xs h=>?_⟩
 · by_cases hb:b∈as
   ·rw[a2 b hb];exact e
   ·rw[o2 b hb];exact sm _ _ (by rw[hH b hb];exact e)
 · rcases k1 b hb with⟨h1,xs,h2⟩|⟨ob,kvs,h1,h2⟩
   ·exact⟨_,h1.trans h2⟩
   ·exact⟨_,h2⟩
 · rcases h with⟨n,h⟩|h
   · have ha:a∉as:=fun ha=>by
       rcases k1 a ha with⟨h1,ys,h2⟩|⟨ob,kvs,h1,h2⟩
       · rcases h with h|⟨o,h⟩
         ·rw[h1,h2]at h;cases h
         ·rw[h1,h2]at h;cases h
       · rcases h with h|⟨o,h⟩
         ·rw[h2]at h;cases h
         ·rw[h2]at h;cases h
     refine .inl ⟨fun f=>n ⟨f,ha⟩,?_⟩
     rcases h with h|⟨o,h⟩
     ·exact .inl (by rw[o2 a ha];exact h)
     ·exact .inr ⟨o,by rw[o2 a ha];exact h⟩
   ·exact .inr h
theorem wX(i:Nat){e:Expr}{f:Ex}(h:JE X e f):JE X e (gT i f):=by
 intro pins s σ H Q I ⟨ρ,F,d,hr,e,q⟩
 unfold gT at e
 split at e
 · rename_i t q1
   obtain⟨d',ed,e⟩:=aj.mp e
   by_cases hf:PL.cf d'=true
   · rw[if_pos hf]at e
     cases e
     obtain⟨⟨w,as,ew,tr,nd⟩,_,_⟩:=hr.on i _ q1
     obtain⟨H',I',hH,hz⟩:=af.frz I tr nd
     obtain⟨mv,rs⟩:=hr.cI q1 ew tr hH hz
     refine L2.aD (h pins s σ _ _ I' ⟨_,_,_,rs,ed,fun v H1 s1 rv=>(⟨s1,rv⟩:ah H' H1∧Rep (ar X) H1 (fun b=>F b∧b∉as) d v)⟩) fun u s1 ⟨x,H1,I1,rx,sm,rv⟩=>?_
     obtain⟨H2,I2,s2,_,_,_,tp⟩:=mP (M:=ar X) (F:=F) I nd hH hz I1 sm
     exact⟨x,H2,I2,rx,q _ _ s2 (Rep.iR tp hf rv)⟩
   ·rw[if_neg hf]at e;cases e
 ·cases e
theorem yG(i:Nat){e:Expr}{f:aF}(h:JT X e f):JT X e (gJ i f):=by
 intro pins s σ H Q I ⟨ρ,F,d,hr,e,q⟩
 unfold gJ at e
 split at e
 · rename_i t q1
   obtain⟨⟨w,as,ew,tr,nd⟩,_,_⟩:=hr.on i _ q1
   obtain⟨H',I',hH,hz⟩:=af.frz I tr nd
   obtain⟨mv,rs⟩:=hr.cI q1 ew tr hH hz
   refine L2.aD (h pins s σ _ (fun b H1=>b=d∧ah H' H1) I' ⟨_,_,_,rs,e,fun H1 s1=>⟨rfl,s1⟩⟩) fun b s1 ⟨H1,I1,hb,sm⟩=>?_
   subst hb
   obtain⟨H2,I2,s2,_,_,_,tp⟩:=mP (M:=ar X) (F:=F) I nd hH hz I1 sm
   exact⟨H2,I2,q _ s2⟩
 ·cases e
theorem ya (i:Nat) {e:Expr} {f:Ex} (h:JF X e f):JF X e (jz i f):=by
 intro pins s σ H Q I ⟨ρ,F,ds,hr,e,q⟩
 unfold jz at e
 split at e
 · rename_i t q1
   obtain⟨d',ed,e⟩:=aj.mp e
   split at e
   · rename_i ds'
     by_cases hf:PL.gr ds'=true
     · rw[if_pos hf]at e
       cases e
       obtain⟨⟨w,as,ew,tr,nd⟩,_,_⟩:=hr.on i _ q1
       obtain⟨H',I',hH,hz⟩:=af.frz I tr nd
       obtain⟨mv,rs⟩:=hr.cI q1 ew tr hH hz
       refine L2.aD (h pins s σ _ (fun v H9=>∃p H1 xs,v=.ref p∧H9=upd H1 p (.lst xs)∧ah H' H1∧H1 p=none∧ab (ar X) H1 (fun b=>F b∧b∉as) ds xs) I' ⟨_,_,_,rs,ed,fun p H1 xs s1 hp rv=>⟨p,H1,xs,rfl,rfl,s1,hp,rv⟩⟩) fun u s1 ⟨x,H9,I1,rx,p,H1,xs,ex,eH,sm,hp,rv⟩=>?_
       subst ex eH
       obtain⟨H2,I2,s2,o2,a2,t2,tp⟩:=mP (M:=ar X) (F:=F) I nd hH hz I1 (sm.trans (ah.bS hp _))
       have hpa:p∉as:=fun hb=>by
         rcases hz p hb with⟨h1,ys,h2⟩|⟨ob,kvs,h1,h2⟩
         ·rw[sm _ _ (h1.trans h2)]at hp;cases hp
         ·rw[sm _ _ h2]at hp;cases hp
       have e2:H2=upd (fun b=>if b=p then none else H2 b) p (.lst xs):=by
         funext b
         unfold upd
         by_cases hb:b=p
         ·simp only[if_pos hb];rw[hb,o2 p hpa,L2.aV]
         ·simp only[if_neg hb]
       rw[e2]at I2
       refine⟨.ref p,_,I2,rx,q p _ xs (fun b o e=>?_) (by simp) (ab.iR (fun a ys ht=>?_) hf (rv.mv (F':=fun b=>F b∧b∉as) (.same (ah.bS hp (.lst xs)))))⟩
       · have hb:b≠p:=fun z=>by subst z;have:=hH b hpa;rw[e]at this;rw[sm _ _ this]at hp;cases hp
         simp only[if_neg hb];exact s2 _ _ e
       · have ht2:=tp a ys ht
         have hap:¬F a→Rd H2 a (.tup ys)→Rd (fun b=>if b=p then none else H2 b) a (.tup ys):=fun n h=>by
           have ha:a≠p:=fun z=>by
             subst z
             rw[e2]at h
             rcases h with h|⟨o,h⟩
             ·rw[L2.aV]at h;cases h
             ·rw[L2.aV]at h;cases h
           rcases h with h|⟨o,h⟩
           ·exact .inl (by simp only[if_neg ha];exact h)
           ·exact .inr ⟨o,by simp only[if_neg ha];exact h⟩
         rcases ht2 with⟨n,h⟩|h
         ·exact .inl ⟨n,hap n h⟩
         ·exact .inr h
     ·rw[if_neg hf]at e;cases e
   ·cases e
 ·cases e
end
noncomputable def gA(z:Ky):List Ky→Option Nat
 |[]=>none
 |a::ks=>if a=z then some 0 else(gA z ks).map (· +1)
noncomputable def stepT:T→D→Option Nat
 |.l ts,.int k=>cA ts.length k
 |.tu ts,.int k=>cA ts.length k
 | .m ks _,x=>match keyOf x with
   |some z=>gA z ks
   |none=>none
 |_,_=>none
noncomputable def pX(i:Nat)(f:Pt)(e:Ex):Pt:=fun ρ=>(f ρ).bind fun p=>(e ρ).bind fun x=>match ρ[i]? with
 | some (.on (.tr t))=>match T.at t p with
   | some n=>match stepT n x with
     |some m=>.ok (p++[m])
     |none=>.bad
   |none=>.bad
 |_=>.bad
noncomputable def pA(i j:Nat):Pt:=fun ρ=>match ρ[j]? with
 |some (.on (.al k p))=>if k=i then .ok p else .bad
 |_=>.bad
noncomputable def ny(z:Ky)(u:T)(ks:List Ky)(ts:List T):List Ky×List T:=if(ks.any fun a=>decide (a=z))=true then(ks,List.zipWith (fun a t=>if a=z then u else t) ks ts)else(ks++[z],ts++[u])
noncomputable def eA(i:Nat)(f:Pt)(k e:Ex):Sm:=fun ρ=>(e ρ).bind fun d=>(f ρ).bind fun p=>(k ρ).bind fun q=>match ρ[i]?,keyOf q with
 | some (.on (.tr t)),some z=>match T.at t p with
   |some (.m ks ts)=>if ks.length<1000 then .ok (.next ((fQ i p ρ).set i (.on (.tr (T.put (.m (ny z (.d d) ks ts).1 (ny z (.d d) ks ts).2) t p)))))else .bad
   |_=>.bad
 |_,_=>.bad
noncomputable def ll(i:Nat)(f:Pt)(k e:Ex):Sm:=fun ρ=>(e ρ).bind fun d=>(f ρ).bind fun p=>(k ρ).bind fun q=>match ρ[i]?,q with
 | some (.on (.tr t)),.int j=>match T.at t p with
   | some (.l ts)=>match cA ts.length j with
     |some m=>.ok (.next ((fQ i p ρ).set i (.on (.tr (T.put (.l (ts.set m (.d d))) t p)))))
     |none=>.bad
   |_=>.bad
 |_,_=>.bad
section
variable{X:Cx}{M:Md}{G H H':Hp}{F0 F F':Addr→Prop}{σ:L2.St}{ρ:En}{pos:Pos}{pins:List (Addr×Obj)}{s:Shared}{as:List Addr}
noncomputable def vX:R2:=fun x y H Q=>∃p kvs k v,x=.ref p∧y=L2.kV k∧Rd H p (.dK kvs)∧L2.bT kvs k=some v∧Q v H
theorem tH:L2.dn X (fun x y H Q=>L2.lj X.K x y H Q∨vX x y H Q):=by
 refine L2.dn.or L2.qG ?_
 intro value slice pins s σ H x y v u Q I rx ry h hs
 obtain⟨p,kvs,k,w,rfl,rfl,hd,hv,q⟩:=h
 cases rx
 obtain⟨z,hsys,vs,rel,dd⟩:=L2.nu I.aB hd
 have r:=L2.KV.val rel k
 rw[hv]at r
 obtain⟨w',hw,rw'⟩:=L2.cR.some_of r
 exact PyProof.Rows.tail_any dd.typeIs PySem.F.slot_dict_getitem.lookup (wpAny_getItem_of (L2.gL ry) dd.mapOf hw ⟨w,H,I.tok _,rw',q⟩) hs
theorem sP{z:Ky}:∀ {ks:List Ky} {xs:List V} {m:Nat},ks.length=xs.length→gA z ks=some m→∃x,xs[m]? =some x∧L2.bT (ks.zip xs) z=some x
 |[],_,_,_,h=>by cases h
 |a::ks,[],_,l,_=>by simp at l
 | a::ks,x::xs,m,l,h=>by
   unfold gA at h
   unfold L2.bT
   rw[List.zip_cons_cons,List.find?_cons]
   by_cases hz:a=z
   · rw[if_pos hz]at h
     cases h
     exact⟨x,rfl,by simp[hz]⟩
   · rw[if_neg hz]at h
     cases e:gA z ks with
     |none=>rw[e]at h;cases h
     | some j=>
       rw[e]at h
       cases h
       obtain⟨y,h1,h2⟩:=sP (xs:=xs) (by simpa using l) e
       refine⟨y,by simpa using h1,?_⟩
       simp only[decide_eq_false hz]
       exact h2
theorem tN(i j:Nat){x:Str}(hN:X.N[j]? =some x:=by rfl)(hv:L2.cg X.env.scope x:=by first|exact Or.inl rfl|exact Or.inr (Or.inl rfl)|exact Or.inr (Or.inr rfl))(hd:(x==("__debug__":Str))=false:=by decide)
   (hcd:(x==("__classdict__":Str))=false:=by decide):JL X i (.Name x pos) (pA i j):=
 aY (L2.pv j hN hv hd hcd) fun σ H Q ⟨ρ,F,t,w,p,t1,r,e1,e2,ef,eat,q⟩=>by
   unfold pA at ef
   split at ef
   · rename_i k p' h1
     by_cases hk:k=i
     · rw[if_pos hk]at ef
       cases ef
       subst hk
       obtain⟨v,w1,t2,a1,a2,a3,_⟩:=(r.on j _ h1).1 t e1
       rw[e2]at a1;cases a1
       have:=a3.ji
       rw[eat]at this;cases this
       exact⟨w1,a2,q w1 H (ah.refl _) a3⟩
     ·rw[if_neg hk]at ef;cases ef
   ·cases ef
theorem xS{i:Nat}{a b:Expr}{f:Pt}{fb:Ex}(ha:JL X i a f)(hb:JE X b fb)(hs:L2.gf b:=by exact fun _ _=>rfl):JL X i (.Subscript a b pos) (pX i f fb):=
 aY (L2.mw tH ha hb hs) fun σ H Q ⟨ρ,F,t,w,p',t1,r,e1,e2,ef,eat,q⟩=>by
   obtain⟨p,ep,ef⟩:=aj.mp ef
   obtain⟨x,ex,ef⟩:=aj.mp ef
   rw[e1]at ef
   have ef:(match T.at t p with|some n=>(match stepT n x with|some m=>R.ok (p++[m])|none=>.bad)|none=>.bad)=.ok p':=ef
   cases hat:T.at t p with
   |none=>rw[hat]at ef;cases ef
   | some n=>
     rw[hat]at ef
     have ef:(match stepT n x with|some m=>R.ok (p++[m])|none=>.bad)=.ok p':=ef
     cases hm:stepT n x with
     |none=>rw[hm]at ef;cases ef
     | some m=>
       rw[hm]at ef
       cases ef
       refine⟨ρ,F,t,w,p,n,r,e1,e2,ep,hat,fun v H1 s1 at1=>⟨ρ,F,x,r.same s1,ex,fun y H2 s2 ry=>?_⟩⟩
       have r2:=(r.same s1).same s2
       obtain⟨⟨w',as,ew,tr,nd⟩,_,_⟩:=r2.on i _ e1
       rw[e2]at ew;cases ew
       have at2:=at1.same (r.same s1) e1 e2 s2
       obtain⟨bs,tp,_⟩:=ak.part tr at2
       have h1:=eat
       rw[T.lg hat]at h1
       cases n with
       |d _=>cases x<;>cases hm
       | l ts=>
         cases x with
         | int k=>
           simp only[af]at tp
           obtain⟨a,xs,cs,rfl,rfl,fa,ha,trs⟩:=tp
           rw[T.wY]at h1
           have hlen:=trs.len
           have hx:∃x1,xs[m]? =some x1:=by
             obtain⟨hl,_⟩:=List.getElem?_eq_some_iff.mp h1
             exact⟨xs[m]'(by omega),List.getElem?_eq_getElem (by omega)⟩
           obtain⟨x1,hx⟩:=hx
           have hm:cA ts.length k=some m:=hm
           have h3:bW xs k=some x1:=by unfold bW;rw[←hlen,hm];exact hx
           exact .inl (.inl ⟨a,xs,k,x1,rfl,bh ry,aT.of ha,h3,q x1 H2 (s1.trans s2) (ak.snoc (ak.AZ ha h1 hx) at2)⟩)
         |_=>cases hm
       | tu ts=>
         cases x with
         | int k=>
           simp only[af]at tp
           obtain⟨a,xs,rfl,fa,ha,trs⟩:=tp
           have h1:ts[m]? =some t1:=by
             unfold T.at at h1
             cases e:ts[m]? with
             |none=>rw[e]at h1;cases h1
             |some u=>rw[e]at h1;cases u<;>exact h1
           have hlen:=trs.len
           have hx:∃x1,xs[m]? =some x1:=by
             obtain⟨hl,_⟩:=List.getElem?_eq_some_iff.mp h1
             exact⟨xs[m]'(by omega),List.getElem?_eq_getElem (by omega)⟩
           obtain⟨x1,hx⟩:=hx
           have hm:cA ts.length k=some m:=hm
           have h3:bW xs k=some x1:=by unfold bW;rw[←hlen,hm];exact hx
           exact .inl (.inr (.inl ⟨a,xs,k,x1,rfl,bh ry,.inl (.inl ha),h3,q x1 H2 (s1.trans s2) (ak.snoc (ak.yU ha h1 hx) at2)⟩))
         |_=>cases hm
       | m ks ts=>
         have hm:(match keyOf x with|some z=>gA z ks|none=>none)=some m:=by cases x<;>exact hm
         cases hz:keyOf x with
         |none=>rw[hz]at hm;cases hm
         | some z=>
           rw[hz]at hm
           have hm:gA z ks=some m:=hm
           simp only[af]at tp
           obtain⟨a,xs,cs,rfl,rfl,fa,ha,hl,trs⟩:=tp
           have h1:ts[m]? =some t1:=by
             unfold T.at at h1
             cases e:ts[m]? with
             |none=>rw[e]at h1;cases h1
             |some u=>rw[e]at h1;cases u<;>exact h1
           obtain⟨x1,hx,hv⟩:=sP hl hm
           exact .inr ⟨a,_,z,x1,rfl,gm hz ry,.inl ha,hv,q x1 H2 (s1.trans s2) (ak.snoc (ak.Bj ha hl h1 hx) at2)⟩
theorem dU.of{n0 n1:T}{c:Addr}{cs cs':List Addr}{o:HO}(h0:af M H F n0 (.ref c) (c::cs))(nd:(c::cs).Nodup)(sub:cs'.Sublist cs)(h1:af M (upd H c o) F n1 (.ref c) (c::cs')):dU M H (upd H c o) F F c n0 n1 (c::cs) (c::cs'):=
 have s2:(c::cs').Sublist (c::cs):=List.Sublist.cons₂ c sub
 ⟨h0,List.mem_cons_self,h1,nd.sublist s2,fun b u n e=>by rw[L2.az n];exact e,fun b=>⟨.inl,fun h=>h.elim id fun hb=>(h0.fs b (s2.subset hb)).1⟩,fun b hb=>.inl (s2.subset hb)⟩
theorem ag.pK{d:D}{v:V}(rd:Rep M H F d v):∀ {m:Nat} {ts:List T} {xs:List V} {as:List Addr},ag M H F ts xs as→∃as',ag M H F (ts.set m (.d d)) (xs.set m v) as'∧as'.Sublist as
 | m,[],xs,as,h=>by
   simp only[ag]at h
   obtain⟨rfl,rfl⟩:=h
   exact⟨[],by simp[ag],List.Sublist.refl _⟩
 | 0,t::ts,xs,as,h=>by
   simp only[ag]at h
   obtain⟨x,r,bs,cs,rfl,rfl,h1,h2⟩:=h
   refine⟨cs,?_,List.sublist_append_right _ _⟩
   rw[List.set_cons_zero,List.set_cons_zero]
   simp only[ag,af]
   exact⟨v,r,[],cs,rfl,rfl,⟨rfl,rd⟩,h2⟩
 | m+1,t::ts,xs,as,h=>by
   simp only[ag]at h
   obtain⟨x,r,bs,cs,rfl,rfl,h1,h2⟩:=h
   obtain⟨cs',k1,k2⟩:=ag.pK rd (m:=m) h2
   refine⟨bs++cs',?_,List.Sublist.append (List.Sublist.refl _) k2⟩
   rw[List.set_cons_succ,List.set_cons_succ]
   simp only[ag]
   exact⟨x,_,bs,cs',rfl,rfl,h1,k1⟩
theorem ag.p7{d:D}{v:V}{z:Ky}(rd:Rep M H F d v):∀ {ks:List Ky} {ts:List T} {xs:List V} {as:List Addr},ag M H F ts xs as→∃as',ag M H F (List.zipWith (fun a t=>if a=z then T.d d else t) ks ts) (List.zipWith (fun a x=>if a=z then v else x) ks xs) as'∧as'.Sublist as
 |[],ts,xs,as,h=>⟨[],by simp[ag],List.nil_sublist _⟩
 | a::ks,[],xs,as,h=>by
   simp only[ag]at h
   obtain⟨rfl,rfl⟩:=h
   exact⟨[],by simp[ag],List.Sublist.refl _⟩
 | a::ks,t::ts,xs,as,h=>by
   simp only[ag]at h
   obtain⟨x,r,bs,cs,rfl,rfl,h1,h2⟩:=h
   obtain⟨cs',k1,k2⟩:=ag.p7 (z:=z) rd (ks:=ks) h2
   rw[List.zipWith_cons_cons,List.zipWith_cons_cons]
   by_cases hz:a=z
   · refine⟨cs',?_,k2.trans (List.sublist_append_right _ _)⟩
     rw[if_pos hz,if_pos hz]
     simp only[ag,af]
     exact⟨v,_,[],cs',rfl,rfl,⟨rfl,rd⟩,k1⟩
   · refine⟨bs++cs',?_,List.Sublist.append (List.Sublist.refl _) k2⟩
     rw[if_neg hz,if_neg hz]
     simp only[ag]
     exact⟨x,_,bs,cs',rfl,rfl,h1,k1⟩
theorem Bl (i:Nat) {o e k:Expr} {f:Pt} {g h:Ex} {p3:Pos} (hu:X.A.units+64<cLine) (ho:JL X i o f) (hk:JE X k g) (he:JE X e h) (hs:swapsWith e (some (.Subscript o k p3)) pos.line X.env=pure false:=by rfl):
   JS X (.Assign [.Subscript o k p3] e pos) (eA i f g h):=fun F0=>
 cE (L2.qp (by omega) ho hk he hs) fun D σ H ⟨ρ,F,fl,r,e,q⟩=>by
   obtain⟨d,ed,e⟩:=aj.mp e
   obtain⟨p,ep,e⟩:=aj.mp e
   obtain⟨y,ey,e⟩:=aj.mp e
   split at e
   · rename_i t z q1 hz
     split at e
     · rename_i ks ts hat
       split at e
       · rename_i hlt
         cases e
         obtain⟨⟨w,as,ew,tr,nd⟩,_,_⟩:=r.rs.on i _ q1
         refine⟨ρ,F,d,r.rs,ed,fun v H1 s1 rv=>⟨ρ,F,t,w,p,_,(r.same s1).rs,q1,ew,ep,hat,fun v0 H2 s2 at2=>⟨ρ,F,y,((r.same s1).same s2).rs,ey,fun w2 H3 s3 rw'=>?_⟩⟩⟩
         have r2:=(r.same s1).same s2
         have r3:=r2.same s3
         have at3:=at2.same r2.rs q1 ew s3
         obtain⟨⟨w',as',ew',tr',nd'⟩,_,_⟩:=r3.rs.on i _ q1
         rw[ew]at ew';cases ew'
         obtain⟨bs,tp,sub⟩:=ak.part tr' at3
         have tp0:=tp
         simp only[af]at tp
         obtain⟨a,xs,cs,rfl,rfl,fa,ha,hl,trs⟩:=tp
         have ndb:=nd'.sublist sub
         have ndc:=List.nodup_cons.mp ndb
         cases gm hz rw'
         have rv3:=rv.mv (M:=ar X) (F':=F) (.same (s2.trans s3))
         have hzl:(ks.zip xs).length<sizeLine:=by
           have:(sizeLine:Nat)=16777216:=sizeLine_eq
           rw[List.length_zip];omega
         refine⟨a,_,rfl,L2.fW.k ha hzl,?_⟩
         rw[nB z v hl]
         have mvu:∀o:HO,Mv F H3 F (upd H3 a o):=fun o b u n e=>⟨n,by rw[L2.az (fun z=>by subst z;exact n fa)];exact e⟩
         have kp:∀(o:HO) {cs':List Addr},cs'.Sublist cs→∀b∈cs',∀u,F b→H3 b=some u→F b∧upd H3 a o b=some u:=fun o cs' hs b hb u f hu=>⟨f,by rw[L2.az (fun z=>by subst z;exact ndc.1 (hs.subset hb))];exact hu⟩
         unfold ny at q
         by_cases hm:(ks.any fun a=>decide (a=z))=true
         · rw[if_pos hm]at q ⊢
           obtain⟨cs',k1,k2⟩:=ag.p7 (z:=z) rv3 (ks:=ks) trs
           obtain⟨mv,r'⟩:=r3.oh (H2:=upd H3 a (.dK (ks.zip (List.zipWith (fun a x=>if a=z then v else x) ks xs)))) (F2:=F) (n1:=.m ks (List.zipWith (fun a t=>if a=z then T.d d else t) ks ts)) q1 ew at3 (dU.of tp0 ndb k2 (by
             simp only[af]
             exact⟨a,_,cs',rfl,rfl,fa,L2.aV,by rw[List.length_zipWith];omega,k1.mv (mvu _) (kp _ k2)⟩)) rfl
           exact q _ _ _ (Mv.trans (.same (s1.trans (s2.trans s3))) mv) r'
         · rw[if_neg hm]at q ⊢
           obtain⟨mv,r'⟩:=r3.oh (H2:=upd H3 a (.dK ((ks++[z]).zip (xs++[v])))) (F2:=F) (n1:=.m (ks++[z]) (ts++[T.d d])) q1 ew at3 (dU.of tp0 ndb (List.Sublist.refl _) (by
             simp only[af]
             refine⟨a,_,cs,rfl,rfl,fa,L2.aV,by rw[List.length_append,List.length_append,hl];rfl,?_⟩
             have:=ag.append (trs.mv (mvu (.dK ((ks++[z]).zip (xs++[v])))) (kp _ (List.Sublist.refl _))) (gX (vs:=[d]) (xs:=[v]) (as:=[]) |>.mpr ⟨rfl,ab.cons (rv3.mv (mvu _)) ab.nil⟩)
             simpa using this)) rfl
           exact q _ _ _ (Mv.trans (.same (s1.trans (s2.trans s3))) mv) r'
       ·cases e
     ·cases e
   ·cases e
theorem uc (i:Nat) {o e k:Expr} {f:Pt} {g h:Ex} {p3:Pos} (ho:JL X i o f) (he:JE X e h) (hk:JE X k g)
   (ha:gB X.env o k p3)
   (hs:swapsWithSole [.Subscript o k p3] e pos.line X.env=pure false:=by rfl) (hw:swappedStores [.Subscript o k p3] e X.env=pure none:=by rfl) (h1:(assignEach [.Subscript o k p3] X.env).map (·.2)=[assign (.Subscript o k p3) X.env]:=by rfl):
   JS X (.Assign [.Subscript o k p3] e pos) (ll i f g h):=fun F0=>
 cE (L2.nK he (L2.qa ho hk L2.set_list ha) hs hw h1) fun D σ H ⟨ρ,F,fl,r,e,q⟩=>by
   obtain⟨d,ed,e⟩:=aj.mp e
   obtain⟨p,ep,e⟩:=aj.mp e
   obtain⟨y,ey,e⟩:=aj.mp e
   split at e
   · rename_i t j q1
     split at e
     · rename_i ts hat
       split at e
       · rename_i m hm
         cases e
         obtain⟨⟨w,as,ew,tr,nd⟩,_,_⟩:=r.rs.on i _ q1
         refine⟨ρ,F,d,r.rs,ed,fun v H1 s1 rv=>⟨ρ,F,t,w,p,_,(r.same s1).rs,q1,ew,ep,hat,fun v0 H2 s2 at2=>⟨ρ,F,_,((r.same s1).same s2).rs,ey,fun w2 H3 s3 rw'=>?_⟩⟩⟩
         have r2:=(r.same s1).same s2
         have r3:=r2.same s3
         have at3:=at2.same r2.rs q1 ew s3
         obtain⟨⟨w',as',ew',tr',nd'⟩,_,_⟩:=r3.rs.on i _ q1
         rw[ew]at ew';cases ew'
         obtain⟨bs,tp,sub⟩:=ak.part tr' at3
         have tp0:=tp
         simp only[af]at tp
         obtain⟨a,xs,cs,rfl,rfl,fa,ha,trs⟩:=tp
         have ndb:=nd'.sublist sub
         have ndc:=List.nodup_cons.mp ndb
         have rv3:=rv.mv (M:=ar X) (F':=F) (.same (s2.trans s3))
         refine⟨a,xs,j,m,rfl,bh rw',ha,by rw[←trs.len];exact hm,?_⟩
         have mvu:∀o:HO,Mv F H3 F (upd H3 a o):=fun o b u n e=>⟨n,by rw[L2.az (fun z=>by subst z;exact n fa)];exact e⟩
         obtain⟨cs',k1,k2⟩:=ag.pK rv3 (m:=m) trs
         obtain⟨mv,r'⟩:=r3.oh (H2:=upd H3 a (.lst (xs.set m v))) (F2:=F) (n1:=.l (ts.set m (T.d d))) q1 ew at3 (dU.of tp0 ndb k2 (by
           simp only[af]
           exact⟨a,_,cs',rfl,rfl,fa,L2.aV,k1.mv (mvu _) fun b hb u f hu=>⟨f,by rw[L2.az (fun z=>by subst z;exact ndc.1 (k2.subset hb))];exact hu⟩⟩)) rfl
         exact q _ _ _ (Mv.trans (.same (s1.trans (s2.trans s3))) mv) r'
       ·cases e
     ·cases e
   ·cases e
end
noncomputable def eY:D→R D
 |.aA ks vs=>.ok (.aA ks vs)
 |_=>.bad
section
variable{X:Cx}{M:Md}{G H H':Hp}{F0 F F':Addr→Prop}{σ:L2.St}{ρ:En}{pos:Pos}{pins:List (Addr×Obj)}{s:Shared}{as:List Addr}
theorem zJ:aZ X (.type "dict") (fun xs H Q=>∃F p kvs,xs=[.ref p]∧dy (ar X) H F p kvs∧∀l,H l=none→Q (.ref l) (upd H l (.dK kvs))):=by
 intro pins s σ H xs us Q I r h
 obtain⟨F,p,kvs,rfl,hd,q⟩:=h
 obtain⟨u,rfl,ru⟩:=L2.vals1 r
 cases ru
 obtain⟨z,hsys,vs,rel,dd⟩:=gF I hd
 have hl:=jP rel
 refine kt_call_dict (knd:=L2.bA X.prog X.w) hsys dd (by omega) fun h' d1 sb=>?_
 have keep:∀b o,s.heap.get? b=some o→h'.get? b=some o:=fun b o e=>by
   rw[sb.2 b (Nat.ne_of_lt (Heap.lt_size e))]
   exact Heap.get?_push_of_some _ e
 exact⟨.ref _,_,I.laid (a:=s.heap.objs.size) (o:=.dK kvs) (t':=s.toks) keep (Nat.le_refl _) (L2.jC z (beq_eq_false_iff_ne.mpr (Ne.symm (Nat.ne_of_lt I.big))) rel d1),rfl,q _ (I.aB.fresh (Nat.le_refl _))⟩
theorem Aj{a:Expr}{fa:Ex}{p:Pos}(hg:L2.Gl X "dict")(hm:X.mg "dict"=none)(ha:JE X a fa)(hs:starEach [a] X.env=(false,eval a X.env)::starEach [] X.env):JD X (.Call (.Name "dict" p) [a] [] pos) (e1 eY fa):=
 aY (L2.kN zJ hg hm jF (d7 ha fh hs) (by decide) (by decide) hs) fun σ H Q ⟨ρ,F,ks,ds,hr,e,q⟩=>by
   obtain⟨d1,ed,e⟩:=aj.mp e
   refine⟨ρ,F,[d1],hr,by show(fa ρ).bind _=_;rw[ed];rfl,fun vs H1 s1 rv=>?_⟩
   obtain⟨y,rfl,ry⟩:=rv.one
   unfold eY at e
   split at e
   · cases e
     simp only[Rep]at ry
     obtain⟨a,xs,rfl,h1,hl,rs⟩:=ry
     exact⟨F,a,_,rfl,h1,fun l hn=>q l H1 xs s1 hn hl rs⟩
   ·cases e
theorem mG{fa:Ex}(ρ:En)(d:D)(h:e1 eY fa ρ=.ok d):∃ks ds,d=.aA ks ds:=by
 obtain⟨x,ex,e⟩:=aj.mp h
 unfold eY at e
 split at e
 ·cases e;exact⟨_,_,rfl⟩
 ·cases e
theorem dy.ne{a b:Addr}{kvs more:List (Key×V)}(I:Inv X pins σ H s)(ha:H a=some (.dK kvs))(hb:dy (ar X) H F b more):a≠b:=by
 rintro rfl
 rcases hb with⟨_,ob,hb⟩|⟨o,es,ep,vs,hk,_⟩
 ·rw[ha]at hb;cases hb
 · have:=(I.bs a o (I.mod.kM a o hk)).2
   rw[ha]at this;cases this
noncomputable def zk(M:Md):V→List V→Hp→VK→Prop:=fun x vs H Q=>∃F a b kvs more,x=.ref a∧vs=[.ref b]∧H a=some (.dK kvs)∧dy M H F b more∧kvs.length+more.length≤1000∧Q .ai (upd H a (.dK (L2.ck kvs more)))
theorem Bk:L2.sF X "dict.update" (zk (ar X)):=by
 intro pins s σ H x vs v us Q I rx rv h
 obtain⟨F,a,b,kvs,more,rfl,rfl,ha,hb,hz,q⟩:=h
 cases rx
 obtain⟨u,rfl,ru⟩:=rv.one
 cases ru
 obtain⟨z,hsys,ws,rel,dd⟩:=L2.oG I.aB ha
 obtain⟨z2,hsys2,ws2,rel2,dd2⟩:=gF I hb
 have h3:(sizeLine:Nat)=16777216:=sizeLine_eq
 refine call_meetsIn PySem.F.slot_dict_update dd.typeIs PySem.F.entry_dict_update (PySem.F.args_dict_update_2 _ _) (meets_dict_update (L2.bA X.prog X.w) a b (dy.ne I ha hb) hsys2) ⟨ws,ws2,dd,dd2,by rw[←rel.length, ←rel2.length];omega,fun h' d1 d2 hs=>?_⟩
 have he:∃q,h'.get? a=some q:=let⟨q,_,_,hq,_⟩:=d1;⟨q,hq⟩
 have hl:(L2.ck kvs more).length≤sizeLine:=by have:=L2.kR more kvs;omega
 exact⟨.ai,_,L2.kU I (by rw[ha];exact True.intro) hs he (L2.jC hl hsys (rel2.merge rel) d1),rfl,q⟩
theorem AR(i:Nat){x:Str}{e:Expr}{f:Ex}{p2 apos cpos:Pos}(he:JE X e f)(hN:X.N[i]? =some x)(hv:L2.cg X.env.scope x)(hd:(x==("__debug__":Str))=false)
   (hcd:(x==("__classdict__":Str))=false) (hbase:attributeBase (.Name x p2) "update" X.env (eval (.Name x p2) X.env)=eval (.Name x p2) X.env)
   (hfew:((backTo cpos (starEach [e] X.env)).all (fun x=> !x.1)&&(backToKw cpos (keywordEach [] X.env)).all (fun x=>x.1.isSome)
     &&decide (([e]:List Expr).length+([]:List Keyword).length+(if([]:List Keyword).isEmpty then 0 else 1)<30))=true)
   (hline:(apos.endLine==cpos.line)=true) (hs:starEach [e] X.env=(false,eval e X.env)::starEach [] X.env)
   (hsw:swapsWith (.Call (.Attribute (.Name x p2) "update" apos) [e] [] cpos) none pos.line X.env=pure false):
   JS X (.Expr (.Call (.Attribute (.Name x p2) "update" apos) [e] [] cpos) pos) (mz i f):=fun F0=>
 cE (L2.vK (L2.yn PySem.F.plainAttrs_dict PySem.F.slot_dict_update PySem.F.type_dict_update Bk (L2.pv i hN hv hd hcd) (d7 he fh hs) hbase hfew hline hs) hsw) fun D σ H ⟨ρ,F,fl,r,e,q⟩=>by
   obtain⟨d,ed,e⟩:=aj.mp e
   split at e
   · rename_i ks vs as bs q1
     split at e
     · rename_i hlt
       cases e
       have oi:aW ρ i:=.inr ⟨_,_,q1⟩
       obtain⟨a,xs,ea,fa,ha,hl,rs⟩:=r.rs.od i _ _ q1
       refine⟨_,ea,.inr (.inr (.inl ⟨rfl,.inl ⟨_,ha⟩⟩)),ρ,F,[.aA ks vs],r.rs,by show(f ρ).bind _=_;rw[ed];rfl,fun us H1 s1 rv=>?_⟩
       obtain⟨y,rfl,ry⟩:=rv.one
       simp only[Rep]at ry
       obtain⟨b,ys,rfl,h1,hly,ry⟩:=ry
       have r1:=r.same s1
       have ha2:=s1 _ _ ha
       obtain⟨zs,e1,l1,rs1⟩:=rA (M:=ar X) (H:=H1) (F:=F) hly ry hl (rs.mv (.same s1))
       refine⟨F,a,b,_,_,rfl,rfl,ha2,h1,by rw[List.length_zip,List.length_zip];omega,?_⟩
       rw[e1]
       obtain⟨mv,r'⟩:=r1.chg (s:=.od (eS ks vs as bs).1 (eS ks vs as bs).2) oi ea (.inr ⟨_,_,zs,rfl,rfl,l1,rs1⟩)
       exact q _ _ _ (Mv.trans (.same s1) mv) r'
     ·cases e
   ·cases e
noncomputable def kP:List (Ex×Xt)→En→R (List Ky×List T)
 |[],_=>.ok ([],[])
 | (fk,fv)::r,ρ=>(fk ρ).bind fun q=>(fv ρ).bind fun t=>match keyOf q with
   |some z=>(kP r ρ).bind fun y=>.ok (z::y.1,t::y.2)
   |none=>.bad
noncomputable def nU(kfs:List (Ex×Xt)):Xt:=fun ρ=>(kP kfs ρ).bind fun y=>if y.1.Nodup then .ok (.m y.1 y.2)else .bad
noncomputable def jV(X:Cx)(pos:Pos)(keys:List (Option Expr))(values:List Expr)(kfs:List (Ex×Xt)):Prop:=
 ∃trs,L2.iI X pos keys values trs∧∀(F:Addr→Prop) (σ:L2.St) (H:Hp) (ρ:En) (ks:List Ky) (ts:List T) (Q:List (V×V)→Hp→Prop),aI (ar X) H F σ ρ→kP kfs ρ=.ok (ks,ts)→
   (∀xs H' F' as,ah H H'→(∀b∈as,H b=none)→as.Nodup→(∀b,F' b↔F b∨b∈as)→ks.length=xs.length→ag (ar X) H' F' ts xs as→Q ((ks.zip xs).map fun kv=>(L2.kV kv.1,kv.2)) H')→L2.jA trs σ H Q
theorem yY:jV X pos [] [] []:=⟨[],L2.oT,fun F σ H ρ ks ts Q r e q=>by
 cases e
 exact q [] H F [] (ah.refl _) (fun _ hb=>nomatch hb) List.nodup_nil (fun b=>by simp) rfl (by rw[ag];exact⟨rfl,rfl⟩)⟩
theorem Bz{k v:Expr}{fk:Ex}{fv:Xt}{keys:List (Option Expr)}{values:List Expr}{kfs:List (Ex×Xt)}(hk:JE X k fk)(hv:JX X v fv)(hr:jV X pos keys values kfs):jV X pos (some k::keys) (v::values) ((fk,fv)::kfs):=by
 obtain⟨trs,h,g⟩:=hr
 refine⟨_,L2.oS hk hv h,fun F σ H ρ ks ts Q r e q=>?_⟩
 obtain⟨d,ed,e⟩:=aj.mp e
 obtain⟨t,et,e⟩:=aj.mp e
 cases hz:keyOf d with
 |none=>rw[hz]at e;cases e
 | some z=>
   rw[hz]at e
   obtain⟨⟨ks',ts'⟩,ey,e⟩:=aj.mp e
   cases e
   refine⟨ρ,F,d,r,ed,fun x H1 s1 rx=>⟨ρ,F,t,r.same s1,et,fun y H2 F2 as s2 hn nd hF tr=>?_⟩⟩
   obtain⟨mv2,r2⟩:=(r.same s1).wide s2 hn hF (fun b hb=>(tr.fs b hb).2)
   refine g F2 σ H2 ρ ks' ts' _ r2 ey fun xs H3 F3 bs s3 hn3 nd3 hF3 hl trs=>?_
   have apart:∀a∈as,∀b∈bs,a≠b:=fun a ha b hb z=>by
     subst z
     obtain⟨_,u,hu⟩:=tr.fs a ha
     rw[hn3 a hb]at hu;cases hu
   have mv3:Mv F2 H2 F3 H3:=fun b o n e=>⟨fun f=>((hF3 b).mp f).elim n (fun hb=>by rw[hn3 b hb]at e;cases e),s3 _ _ e⟩
   cases gm hz rx
   refine q (y::xs) H3 F3 (as++bs) (s1.trans (s2.trans s3)) (fun b hb=>?_) (List.nodup_append.mpr ⟨nd,nd3,apart⟩) (fun b=>?_) (by simp[hl]) ?_
   · rcases List.mem_append.mp hb with hb|hb
     ·exact s1.free (hn b hb)
     ·exact s1.free (s2.free (hn3 b hb))
   ·rw[hF3 b,hF b,List.mem_append,or_assoc]
   · simp only[ag]
     exact⟨y,xs,as,bs,rfl,rfl,tr.mv mv3 fun b hb u f hu=>⟨(hF3 b).mpr (.inl f),s3 _ _ hu⟩,trs⟩
theorem qy:∀ {kfs:List (Ex×Xt)} {y:List Ky×List T},kP kfs ρ=.ok y→y.1.length=kfs.length
 |[],y,h=>by cases h;rfl
 | (fk,fv)::r,y,h=>by
   obtain⟨q,eq,h⟩:=aj.mp h
   obtain⟨t,et,h⟩:=aj.mp h
   split at h
   · obtain⟨z,ez,h⟩:=aj.mp h
     cases h
     simp[qy ez]
   ·cases h
theorem ux{keys:List (Option Expr)}{values:List Expr}{kfs:List (Ex×Xt)}(h:jV X pos keys values kfs)(hall:keys.all (·.isSome)=true)(hl:keys.length=values.length)(h0:keys≠[])(h15:keys.length≤15)(hk:kfs.length≤15):JX X (.Dict keys values pos) (nU kfs):=by
 obtain⟨trs,hp,g⟩:=h
 refine aY (L2.nz hp hall hl h0 h15) fun σ H Q ⟨ρ,F,t,hr,e,q⟩=>?_
 obtain⟨⟨ks,ts⟩,ey,e⟩:=aj.mp e
 by_cases hnd:ks.Nodup
 · rw[if_pos hnd]at e
   cases e
   intro p hp
   have hfr:=hr.fresh (o:=.dK []) hp
   refine g _ σ _ ρ ks ts _ hfr ey fun xs H2 F2 as s2 hn nd hF hlx rs=>?_
   have e2:H2 p=some (.dK []):=s2 _ _ L2.aV
   have hm:L2.ck [] (ks.zip xs)=ks.zip xs:=by
     rw[kc (by simp only[List.map_nil,List.nil_append];rw[show(ks.zip xs).map (·.1)=ks from by rw[List.map_fst_zip];omega];exact hnd)]
     rfl
   have hk9:ks.length=kfs.length:=qy ey
   refine⟨e2,ks.zip xs,rfl,by rw[List.length_zip];omega,?_⟩
   rw[hm]
   have hpa:p∉as:=fun hb=>by have:=hn p hb;rw[L2.aV]at this;cases this
   have sm:ah H (upd H2 p (.dK (ks.zip xs))):=fun b u e=>by
     have ne:b≠p:=fun z=>by subst z;rw[hp]at e;cases e
     rw[L2.az ne]
     exact s2 _ _ (by rw[L2.az ne];exact e)
   refine q _ _ F2 (p::as) sm (fun b hb=>?_) (List.nodup_cons.mpr ⟨hpa,nd⟩) (fun b=>?_) ?_
   · rcases List.mem_cons.mp hb with h9|h9
     ·rw[h9];exact hp
     · have:=hn b h9
       have hne:b≠p:=fun z=>by rw[z]at h9;exact hpa h9
       rwa[L2.az hne]at this
   ·rw[hF b,List.mem_cons,or_assoc]
   · simp only[af]
     have fp:F2 p:=(hF p).mpr (.inl (.inr rfl))
     exact⟨p,xs,as,rfl,rfl,fp,L2.aV,hlx,rs.mv (fun b o n e=>⟨n,by rw[L2.az (fun z=>by subst z;exact n fp)];exact e⟩) fun b hb u f hu=>⟨f,by rw[L2.az (fun z=>by subst z;exact hpa hb)];exact hu⟩⟩
 ·rw[if_neg hnd]at e;cases e
noncomputable def gn:List T→Option (List Ky×List T)
 |[]=>some ([],[])
 | .tu [.d q,u]::r=>match keyOf q,gn r with
   |some z,some y=>some (z::y.1,u::y.2)
   |_,_=>none
 |_=>none
noncomputable def j2(f:Xt):Xt:=fun ρ=>(f ρ).bind fun t=>match t with
 | .l ps=>match gn ps with
   |some y=>if y.1.Nodup∧y.1.length≤1000 then .ok (.m y.1 y.2)else .bad
   |none=>.bad
 |_=>.bad
theorem rm:∀ {ps:List T} {y:List Ky×List T} {vs:List V} {as:List Addr},gn ps=some y→ag M H F ps vs as→∃xs,y.1.length=xs.length∧iN M H F vs (y.1.zip xs)∧ag M H F y.2 xs as
 | [],y,vs,as,h,tr=>by
   cases h
   simp only[ag]at tr
   obtain⟨rfl,rfl⟩:=tr
   exact⟨[],rfl,True.intro,by rw[ag];exact⟨rfl,rfl⟩⟩
 | t::ps,y,vs,as,h,tr=>by
   unfold gn at h
   split at h
   ·rename_i h0;cases h0
   · rename_i q u r h0
     cases h0
     cases hz:keyOf q with
     |none=>rw[hz]at h;cases h
     | some z=>
       rw[hz]at h
       cases hr:gn ps with
       |none=>rw[hr]at h;cases h
       | some y'=>
         rw[hr]at h
         cases h
         simp only[ag]at tr
         obtain⟨x,r,bs,cs,rfl,rfl,h1,h2⟩:=tr
         obtain⟨xs,l,k1,k2⟩:=rm hr h2
         simp only[af,ag]at h1
         obtain⟨a,ys,rfl,nf,ha,x1,r1,b1,c1,rfl,rfl,⟨rfl,rq⟩,x2,r2,b2,c2,rfl,rfl,hu,rfl,rfl⟩:=h1
         cases gm hz rq
         refine⟨x2::xs,by simp[l],⟨⟨a,rfl,.inl ⟨nf,.inl ha⟩⟩,k1⟩,?_⟩
         simp only[ag]
         refine⟨x2,xs,b2,cs,rfl,by simp,hu,k2⟩
   ·cases h
theorem BE{a:Expr}{f:Xt}{p:Pos}(hc:X.calm=true)(hg:L2.Gl X "dict")(hm:X.mg "dict"=none)(ha:JX X a f)(hs:starEach [a] X.env=(false,eval a X.env)::starEach [] X.env):JX X (.Call (.Name "dict" p) [a] [] pos) (j2 f):=
 aY (L2.kN (xf hc) hg hm jF (L2.ff ha L2.iS hs) (by decide) (by decide) hs) fun σ H Q ⟨ρ,F,t,hr,e,q⟩=>by
   obtain⟨t1,et,e⟩:=aj.mp e
   refine⟨ρ,F,t1,hr,et,fun v H1 F1 as s1 hn nd hF tr=>?_⟩
   split at e
   · rename_i ps
     split at e
     · rename_i y hy
       by_cases hnd:y.1.Nodup∧y.1.length≤1000
       · rw[if_pos hnd]at e
         cases e
         simp only[af]at tr
         obtain⟨l,vs,bs,rfl,rfl,fl,hl,trs⟩:=tr
         have nd2:=List.nodup_cons.mp nd
         obtain⟨xs,lx,k1,k2⟩:=rm hy trs
         have hm:L2.ck [] (y.1.zip xs)=y.1.zip xs:=by
           rw[kc (by simp only[List.map_nil,List.nil_append];rw[show(y.1.zip xs).map (·.1)=y.1 from by rw[List.map_fst_zip];omega];exact hnd.1)]
           rfl
         have mv1:Mv F1 H1 (fun b=>F1 b∧b≠l) H1:=fun b o n e=>⟨fun h=>n h.1,e⟩
         have prv:∀ {ws:List V} {more:List (Key×V)},iN (ar X) H1 F1 ws more→iN (ar X) H1 (fun b=>F1 b∧b≠l) ws more:=by
           intro ws
           induction ws with
           | nil=>intro more h;cases more with
             |nil=>exact h
             |cons _ _=>exact h.elim
           | cons w ws ih=>intro more h;cases more with
             |nil=>exact h.elim
             | cons p more=>
               obtain⟨⟨a,e1,e2⟩,h⟩:=h
               exact⟨⟨a,e1,e2.mv mv1⟩,ih h⟩
         refine⟨fun b=>F1 b∧b≠l,l,vs,y.1.zip xs,rfl,.inl ⟨fun h=>h.2 rfl,.inl hl⟩,prv k1,by rw[List.length_zip];omega,fun p hp=>?_⟩
         rw[hm]
         have hpb:p∉bs:=fun hb=>by obtain⟨_,u,hu⟩:=k2.fs p hb;rw[hp]at hu;cases hu
         have ne:∀b u,H1 b=some u→b≠p:=fun b u e z=>by subst z;rw[hp]at e;cases e
         refine q _ _ (fun b=>F b∨b∈p::bs) (p::bs) (s1.trans (ah.bS hp _)) (fun b hb=>?_) (List.nodup_cons.mpr ⟨hpb,nd2.2⟩) (fun _=>Iff.rfl) ?_
         · rcases List.mem_cons.mp hb with rfl|hb
           ·exact s1.free hp
           ·exact hn b (List.mem_cons_of_mem _ hb)
         · simp only[af]
           refine⟨p,xs,bs,rfl,rfl,.inr List.mem_cons_self,L2.aV,lx,k2.mv (fun b o n e=>⟨fun f=>?_,by rw[L2.az (ne b o e)];exact e⟩) fun b hb u f hu=>⟨.inr (List.mem_cons_of_mem _ hb),by rw[L2.az (ne b u hu)];exact hu⟩⟩
           rcases f with f|f
           ·exact n ((hF b).mpr (.inl f))
           · rcases List.mem_cons.mp f with f|f
             ·exact ne b o e f
             ·exact n ((hF b).mpr (.inr (List.mem_cons_of_mem _ f)))
       ·rw[if_neg hnd]at e;cases e
     ·cases e
   ·cases e
end
noncomputable def fP:D→R D
 |.lst _=>.ok (.bl true)
 |.tup _=>.ok (.bl true)
 |.bG _ _ _=>.bad
 |_=>.ok (.bl false)
section
variable{X:Cx}{M:Md}{G H H':Hp}{F0 F F':Addr→Prop}{σ:L2.St}{ρ:En}{pos:Pos}{pins:List (Addr×Obj)}{s:Shared}{as:List Addr}
theorem wu:aZ X (.builtin "isinstance") (fun xs H Q=>∃F d x tp b,xs=[x,.ref tp]∧Rep (ar X) H F d x∧H tp=some (.tup [.ty "list",.ty "tuple"])∧fP d=.ok (.bl b)∧Q (.bl b) H):=by
 intro pins s σ H xs us Q I r h
 obtain⟨F,d,x,tp,b,rfl,rd,ht,e,q⟩:=h
 obtain⟨u,w,rfl,ru,rw'⟩:=L2.vals2 r
 cases (show w=Value.ref tp from rw')
 obtain⟨_,its,rv,o,ho,hc,n,hd⟩:=I.aB _ _ ht
 obtain⟨oc,od,oda,osl⟩:=o
 simp only at hc hd
 subst hc hd
 have hi:its=[.type "list",.type "tuple"]:=by
   obtain⟨u1,u2,rfl,r1,r2⟩:=L2.vals2 rv
   cases (show u1=Value.type "list" from r1)
   cases (show u2=Value.type "tuple" from r2)
   rfl
 subst hi
 have fin:∀tk,EP X pins σ Q (.bool b) {s with toks:=tk}:=fun tk=>⟨.bl _,H,I.tok tk,rfl,q⟩
 cases d with
 |ai=>cases kJ rd;cases ru;cases e;exact PySem.W.kia_tup PySem.W.kitx_none I.bI True.intro ho rfl (fun z=>nomatch z) fin
 |bl y=>cases eU rd;cases ru;cases e;exact PySem.W.kia_tup PySem.W.kitx_bool I.bI True.intro ho rfl (fun z=>nomatch z) fin
 |int i=>cases bh rd;obtain⟨t,rfl⟩:=ru;cases e;exact PySem.W.kia_tup PySem.W.kitx_int I.bI True.intro ho rfl (fun z=>nomatch z) fin
 |str z=>cases dB rd;obtain⟨t,rfl⟩:=ru;cases e;exact PySem.W.kia_tup PySem.W.kitx_str I.bI True.intro ho rfl (fun z=>nomatch z) fin
 | tup ds=>
   simp only[Rep]at rd
   obtain⟨p,xs,rfl,h,_⟩:=rd
   cases ru
   obtain⟨its,_,⟨o,h1,h2,_⟩,_⟩:=ip I h
   cases e;exact PySem.W.kia_tup PySem.W.kitx_tuple I.bI ⟨o,h1,h2⟩ ho rfl (fun z=>nomatch z) fin
 | lst ds=>
   simp only[Rep]at rd
   obtain⟨p,xs,rfl,h,_⟩:=rd
   cases ru
   obtain⟨its,n,sl,_,h1,_⟩:=iO I h
   cases e;exact PySem.W.kia_tup PySem.W.kitx_list I.bI ⟨_,h1,rfl⟩ ho rfl (fun z=>nomatch z) fin
 | aA ks ds=>
   simp only[Rep]at rd
   obtain⟨p,xs,rfl,h,_⟩:=rd
   cases ru
   obtain⟨_,_,vs,_,o,es,ep,e1,e2,e3,_⟩:=gF I h
   cases e;exact PySem.W.kia_tup PySem.W.kitx_dict I.bI ⟨o,e1,e2.1⟩ ho rfl (fun z=>nomatch z) fin
 |bG c ns vs=>cases e
theorem yr{d r:D}(h:fP d=.ok r):∃b,r=.bl b:=by
 unfold fP at h
 split at h<;>cases h<;>exact⟨_,rfl⟩
theorem zr{a:Expr}{fa:Ex}{p p2 p3 p4:Pos}{k1}(ha:JE X a fa)(hg:L2.Gl X "isinstance")(hm:X.mg "isinstance"=none)(hgL:L2.Gl X "list")(hmL:X.mg "list"=none)(hgT:L2.Gl X "tuple")(hmT:X.mg "tuple"=none)
   (hs:starEach [a,.Tuple [.Name "list" p3,.Name "tuple" p4] k1 p2] X.env=(false,eval a X.env)::starEach [.Tuple [.Name "list" p3,.Name "tuple" p4] k1 p2] X.env) (hs2:starEach [.Tuple [.Name "list" p3,.Name "tuple" p4] k1 p2] X.env=(false,eval (.Tuple [.Name "list" p3,.Name "tuple" p4] k1 p2) X.env)::starEach [] X.env)
   (hs3:starEach [.Name "list" p3,.Name "tuple" p4] X.env=(false,eval (.Name "list" p3) X.env)::starEach [.Name "tuple" p4] X.env) (hs4:starEach [.Name "tuple" p4] X.env=(false,eval (.Name "tuple" p4) X.env)::starEach [] X.env):
   JE X (.Call (.Name "isinstance" p) [a,.Tuple [.Name "list" p3,.Name "tuple" p4] k1 p2] [] pos) (e1 fP fa):=
 aY (L2.lp wu hg hm qX (L2.ff ha (L2.ff (L2.mQ (L2.ff (L2.lV (v:=.ty "list") hgL hmL jg rfl (by decide) (by decide)) (L2.ff (L2.lV (v:=.ty "tuple") hgT hmT jx rfl (by decide) (by decide)) L2.iS hs4) hs3)) L2.iS hs2) hs) (by decide) (by decide) hs (by rw[hs2];rfl)) fun σ H Q ⟨ρ,F,d,hr,e,q⟩=>by
   obtain⟨a,ea,e⟩:=aj.mp e
   obtain⟨b,rfl⟩:=yr e
   refine⟨ρ,F,a,hr,ea,fun x H1 s1 rx=>⟨by decide,fun tp hn=>⟨F,a,x,tp,b,rfl,rx.mv (.same (ah.bS hn _)),L2.aV,e,q _ _ (s1.trans (ah.bS hn _)) cO⟩⟩⟩
structure jB(P:Program)(w:World)(K:PySem.W.Frag)(mg:Str→Option Value)(base:Heap)(x:Str)(k n:Nat)(m:List D→R D):Prop where
 ex:∃f fd ps,L2.b5 P w K mg base L2.cL k f fd ps (eR ⟨K,P,w⟩ m n)∧L2.Binds K fd ps [.none]∧PySem.W.keepIn K (.ref f)=true∧mg x=some (.ref f)
theorem AM{x:Str}{k j n:Nat}{m:List D→R D}{e:Expr}{es:List Expr}{fs:List Ex}{p:Pos}(d:jB X.prog X.w X.K X.mg X.base x k n m)(hr:L2.bb j X.A)(hg:L2.Gl X x)(ha:JA X (e::es) (eList fs))(hk:k≤j:=by decide)(hn:fs.length+1=n:=by rfl)
   (hdb:(x==("__debug__":Str))=false:=by decide) (he:starEach (e::es) X.env=(false,eval e X.env)::starEach es X.env:=by rfl) (hpl:(backTo pos (starEach es X.env)).any (·.1)=false:=by rfl):JE X (.Call (.Name x p) (e::es) [] pos) (aJ (fun ds=>m (ds++[.ai])) fs):=by
 obtain⟨f,fd,ps,h1,h2,h3,h4⟩:=d.ex
 refine aY (L2.oF h1 (hr.mono hk) hg h4 h3 h2 (dvs:=[.ai]) (.cons (show RelV .ai Value.none from rfl) .nil) L2.lF ha hdb he hpl) fun σ H Q ⟨ρ,F,d,hr,e,q⟩=>?_
 obtain⟨ds,eds,e⟩:=aj.mp e
 refine⟨ρ,F,ds,hr,eds,fun vs H1 s1 rs=>?_⟩
 exact⟨F,ds++[.ai],d,(hr.same s1).aK,rs.append (ab.cons nQ ab.nil),by rw[List.length_append,fV eds];exact hn,e,fun v H2 s2 rv=>q v H2 (s1.trans s2) rv⟩
structure su(K:PySem.W.Frag)(x qual:Str)(st:Stmt)(f:Addr)(fd:FuncData):Prop where
 ex:∃(oc:Value) (od:Option Addr) (tp:Addr) (kV doc pm:Value) (an:Option Addr) (cdv ct:Value) (osl:Array (Option Value)) (to:Obj) (n:Nat),
   fd=PySem.W.fnOf x qual (L2.bH st) (L2.bp st) (L2.aE st) (.ref tp) kV doc pm an cdv ct∧K.lookup f=some ⟨oc,od,.func fd,osl⟩∧PySem.W.codeIn K cdv qual=true∧K.lookup tp=some to∧to.data=.seq #[.none] n
 kp:PySem.W.keepIn K (.ref f)=true
theorem AQ{P:Program}{w:World}{K:PySem.W.Frag}{mg:Str→Option Value}{base:Heap}{x qual:Str}{st:Stmt}{f:Addr}{fd:FuncData}{N ps:List Str}{k n:Nat}{body:Sm}(Fu:su K x qual st f fd)(hm:mg x=some (.ref f))(S:L2.bF N ps (L2.aE st))(hb:L2.Binds K fd ps [.none])
   (h:∀(cdv:Value) (A:Around) (outer:List Env) (s:Shared) (H:Hp) (E:XK),L2.bb k (A.deeper (PyProof.Rows.envOfC qual (L2.aE st) s.heap.objs.size f cdv))→cm (L2.d6 L2.cL P w K mg base N qual (L2.aE st) f cdv A outer s H E).cY (L2.bp st) body)
   (hn:ps.length=n:=by rfl):jB P w K mg base x (k+1) n (fn N.length body):=by
 refine⟨f,fd,ps,?_,hb,Fu.kp,hm⟩
 obtain⟨oc,od,tp,kV,doc,pm,an,cdv,ct,osl,to,n',rfl,lk,hcd,_,_⟩:=Fu.ex
 refine L2.p5 lk hcd S (fun vs H Q E h=>?_) fun A outer s H vs Q E hr hsp=>?_
 · obtain⟨F,ds,d,_,rs,hl,_⟩:=h
   rw[←rs.length,hl,hn]
 · have hps:L2.bz (L2.d6 L2.cL P w K mg base N qual (L2.aE st) f cdv A outer s H E).cY (L2.bp st) (fun D σ H'=>∃F0,cT ⟨K,P,w⟩ H F0 body D σ H'):=fun pins s' σ H' D I ⟨F0,q⟩=>h cdv A outer s H E hr F0 pins s' σ H' D I q
   refine⟨_,hps.cY,?_⟩
   refine pE (G:=H) (t:=fun D σ H'=>∃F0,cT ⟨K,P,w⟩ H F0 body D σ H') (fun F0 D σ H' h=>⟨F0,h⟩) hsp ?_
   have:=congrArg List.length S.pre
   rw[List.length_take]at this
   omega
theorem sd{sts:List Stmt}:cm X sts (fun _=>.bad):=fun F0 pins s σ H D I ⟨ρ,F,fl,r,e,q⟩=>by cases e
end
noncomputable def hJ(b:(List D→R T)→List D→R T):Nat→List D→R T
 |0=>fun _=>.bad
 |n+1=>b (hJ b n)
noncomputable def iy(b:(List D→R D)→List D→R D):Nat→List D→R D
 |0=>fun _=>.bad
 |n+1=>b (iy b n)
theorem bR.j6{P:Program}{w:World}{K:PySem.W.Frag}{mg:Str→Option Value}{base:Heap}{x:Str}{k n:Nat}{b:(List D→R T)→List D→R T}(h0:bR P w K mg base x k n fun _=>.bad)(h:∀j m,bR P w K mg base x (k+j) n m→bR P w K mg base x (k+(j+1)) n (b m)):∀j,bR P w K mg base x (k+j) n (hJ b j)
 |0=>h0
 |j+1=>h j _ (bR.j6 h0 h j)
theorem Df.j6{P:Program}{w:World}{K:PySem.W.Frag}{mg:Str→Option Value}{base:Heap}{x:Str}{k n:Nat}{b:(List D→R D)→List D→R D}(h0:Df P w K mg base x k n fun _=>.bad)(h:∀j m,Df P w K mg base x (k+j) n m→Df P w K mg base x (k+(j+1)) n (b m)):∀j,Df P w K mg base x (k+j) n (iy b j)
 |0=>h0
 |j+1=>h j _ (Df.j6 h0 h j)
noncomputable def nL(i:Nat)(e:Ex):Ex:=fun ρ=>(e ρ).bind fun x=>match ρ[i]? with
 |some (.od ks vs)=>ja (.aA ks vs) x
 |_=>.bad
noncomputable def i9(i:Nat)(f:Xt):Sm:=fun ρ=>(f ρ).bind fun t=>match t with
 | .m ks ts=>match j1 ts with
   |some vs=>.ok (.next (ρ.set i (.od ks vs)))
   |none=>.bad
 |_=>.bad
noncomputable def lU(i:Nat):Sm:=fun ρ=>match ρ[i]? with
 |some (.od ks vs)=>.ok (.cy (.m ks (vs.map .d)))
 |_=>.bad
section
variable{X:Cx}{M:Md}{G H H':Hp}{F0 F F':Addr→Prop}{σ:L2.St}{ρ:En}{pos:Pos}{pins:List (Addr×Obj)}{s:Shared}{as:List Addr}
theorem u5(i:Nat){x:Str}{b:Expr}{fb:Ex}{p2:Pos}(hb:JE X b fb)(hN:X.N[i]? =some x:=by rfl)(hv:L2.cg X.env.scope x:=by first|exact Or.inl rfl|exact Or.inr (Or.inl rfl)|exact Or.inr (Or.inr rfl))(hd:(x==("__debug__":Str))=false:=by decide)
   (hcd:(x==("__classdict__":Str))=false:=by decide) (hs:L2.gf b:=by exact fun _ _=>rfl):JE X (.Subscript (.Name x p2) b pos) (nL i fb):=
 aY (L2.mw tH (L2.pv i hN hv hd hcd) hb hs) fun σ H Q ⟨ρ,F,d,hr,e,q⟩=>by
   obtain⟨y,ey,e⟩:=aj.mp e
   split at e
   · rename_i ks vs q1
     obtain⟨a,ys,ea,fa,ha,hl,rs⟩:=hr.od i _ _ q1
     refine⟨_,ea,ρ,F,y,hr,ey,fun z H1 s1 rz=>?_⟩
     have e:(match keyOf y with|some q=>(match bB q ks vs with|some v=>R.ok v|none=>.bad)|none=>.bad)=.ok d:=e
     cases hk:keyOf y with
     |none=>rw[hk]at e;cases e
     | some k=>
       rw[hk]at e
       cases hf:bB k ks vs with
       | none=>
         have e:(match bB k ks vs with|some v=>R.ok v|none=>.bad)=.ok d:=e
         rw[hf]at e;cases e
       | some v=>
         have e:(match bB k ks vs with|some v=>R.ok v|none=>.bad)=.ok d:=e
         rw[hf]at e
         cases e
         obtain⟨w,hw,rw'⟩:=(rn (M:=ar X) (H:=H1) (F:=F) k hl (rs.mv (.same s1))).2 _ hf
         exact .inr ⟨a,_,k,w,rfl,gm hk rz,.inl (s1 _ _ ha),hw,q _ _ s1 rw'⟩
   ·cases e
theorem wA{k v:Expr}{z:Int}{f:Ex}{keys:List (Option Expr)}{values:List Expr}{ks:List Ky}{fs:List Ex}(hk:JE X k (eC (.int z)))(hv:JE X v f)(hr:JP X pos keys values ks fs):JP X pos (some k::keys) (v::values) (.inl z::ks) (f::fs):=by
 obtain⟨trs,h,g⟩:=hr
 refine⟨_,L2.oS hk hv h,fun F σ H ρ ds Q r e q=>?_⟩
 obtain⟨a,ea,e⟩:=aj.mp e
 obtain⟨as,eas,e⟩:=aj.mp e
 cases e
 refine⟨ρ,F,.int z,r,rfl,fun x H1 s1 rx=>⟨ρ,F,a,r.same s1,ea,fun y H2 s2 ry=>g F σ H2 ρ as _ ((r.same s1).same s2) eas fun xs H3 s3 rs=>?_⟩⟩
 cases bh rx
 exact q (y::xs) H3 ((s1.trans s2).trans s3) (ab.cons (ry.mv (.same s3)) rs)
theorem xN{keys:List (Option Expr)}{values:List Expr}{ks:List Ky}{fs:List Ex}(h:JP X pos keys values ks fs)(hall:keys.all (·.isSome)=true)(hl:keys.length=values.length)(h0:keys≠[])(h15:keys.length≤15)(hk:ks.length=fs.length)(hk15:ks.length≤15)(hn:ks.Nodup):JD X (.Dict keys values pos) (b9 ks fs):=by
 obtain⟨trs,hp,g⟩:=h
 refine aY (L2.nz hp hall hl h0 h15) fun σ H Q ⟨ρ,F,ks',ds',hr,e,q⟩=>?_
 obtain⟨as,ea,e⟩:=aj.mp e
 cases e
 intro p hp
 have hfr:=hr.fresh (o:=.dK []) hp
 refine g _ σ _ ρ _ _ hfr ea fun xs H2 s2 rs=>?_
 have hlx:ks.length=xs.length:=by rw[←rs.length,fV ea,hk]
 have e2:H2 p=some (.dK []):=s2 _ _ L2.aV
 have hm:L2.ck [] (ks.zip xs)=ks.zip xs:=by
   rw[kc (by simp only[List.map_nil,List.nil_append];rw[show(ks.zip xs).map (·.1)=ks from by rw[List.map_fst_zip];omega];exact hn)]
   rfl
 refine⟨e2,ks.zip xs,rfl,by rw[List.length_zip];omega,?_⟩
 rw[hm]
 have e3:upd H2 p (.dK (ks.zip xs))=upd (fun b=>if b=p then none else H2 b) p (.dK (ks.zip xs)):=by
   funext b
   unfold upd
   by_cases hb:b=p
   ·simp only[if_pos hb]
   ·simp only[if_neg hb]
 rw[e3]
 refine q p _ xs (fun b u e=>?_) (by simp) hlx (rs.mv fun b u n e=>⟨fun h=>n (.inl h),?_⟩)
 · have ne:b≠p:=fun z=>by subst z;rw[hp]at e;cases e
   simp only[if_neg ne]
   exact s2 _ _ (by rw[L2.az ne];exact e)
 · have ne:b≠p:=fun z=>n (.inr z)
   simp only[if_neg ne]
   exact e
theorem zS(i:Nat){x:Str}{e:Expr}{f:Xt}{p2:Pos}(hN:X.N.Nodup)(he:JX X e f)(hi:X.N[i]? =some x:=by rfl)(hx:L2.Loc X.env.scope x:=by exact Or.inl rfl)(hf:X.fn x=true∨X.env.scope.names.lookup x=some .local:=by first|exact .inl rfl|exact .inr rfl)
   (hs:swapsWith e (some (.Name x p2)) pos.line X.env=pure false:=by rfl):JS X (.Assign [.Name x p2] e pos) (i9 i f):=fun F0=>
 cE (L2.jW hN hi hx he hs hf) fun D σ H ⟨ρ,F,fl,r,e,q⟩=>by
   obtain⟨t,et,e⟩:=aj.mp e
   split at e
   · rename_i ks ts
     split at e
     · rename_i vs hv
       cases e
       cases qW hv
       refine⟨ρ,F,_,r.rs,et,fun v H1 F1 as s1 hn nd hF tr=>?_⟩
       simp only[af]at tr
       obtain⟨a,xs,bs,rfl,rfl,fa,ha,hl,trs⟩:=tr
       obtain⟨rfl,rs⟩:=gX.mp trs
       have nF:¬F a:=fun f=>by obtain⟨o,eo⟩:=r.rs.aK a f;rw[hn a List.mem_cons_self]at eo;cases eo
       have hsm:ah H (fun b=>if b=a then none else H1 b):=fun b o e=>by
         have hb:b≠a:=fun z=>by subst z;rw[hn b List.mem_cons_self]at e;cases e
         simp only[if_neg hb];exact s1 _ _ e
       have e3:H1=upd (fun b=>if b=a then none else H1 b) a (.dK (ks.zip xs)):=by
         funext b
         unfold upd
         by_cases hb:b=a
         ·simp only[if_pos hb];rw[hb];exact ha
         ·simp only[if_neg hb]
       have rs':ab (ar X) (fun b=>if b=a then none else H1 b) F vs xs:=rs.mv fun b o n e=>by
         have hb:b≠a:=fun z=>by subst z;exact n fa
         exact⟨fun f=>n ((hF b).mpr (.inl f)),by simp only[if_neg hb];exact e⟩
       obtain⟨mv,r'⟩:=(r.same hsm).new (i:=i) (p:=a) (s:=.od ks vs) (by simp) (.inr ⟨_,_,xs,rfl,rfl,hl,rs'⟩)
       rw[←e3]at mv r'
       exact q _ _ _ (Mv.trans (.same hsm) mv) r'
     ·cases e
   ·cases e
theorem zA(i:Nat){x:Str}{p2:Pos}(hN:X.N[i]? =some x:=by rfl)(hv:L2.cg X.env.scope x:=by first|exact Or.inl rfl|exact Or.inr (Or.inl rfl)|exact Or.inr (Or.inr rfl))(hd:(x==("__debug__":Str))=false:=by decide)
   (hcd:(x==("__classdict__":Str))=false:=by decide):JS X (.Return (some (.Name x p2)) pos) (lU i):=fun F0=>
 cE (L2.nP (L2.pv i hN hv hd hcd)) fun D σ H ⟨ρ,F,fl,r,e,q⟩=>by
   unfold lU at e
   split at e
   · rename_i ks vs q1
     cases e
     obtain⟨a,xs,ea,fa,ha,hl,rs⟩:=r.rs.od i _ _ q1
     have hG:=r.own i a (.inr ⟨_,_,q1⟩) ea
     refine⟨_,ea,q _ H (fun b=>F b∧b≠a) F [a] (fun b o n e=>⟨fun h=>n h.1,e⟩) r.sm (fun b f=>⟨r.sub b f,fun z=>?_⟩) (fun b hb=>by rw[List.mem_singleton.mp hb];exact hG) (by simp) (fun b=>?_) ?_⟩
     ·subst z;obtain⟨o,e⟩:=r.cK _ f;rw[hG]at e;cases e
     · by_cases hb:b=a
       ·subst hb;exact⟨fun _=>.inr List.mem_cons_self,fun _=>fa⟩
       ·exact⟨fun f=>.inl ⟨f,hb⟩,fun h=>h.elim And.left fun h=>absurd (List.mem_singleton.mp h) hb⟩
     · simp only[af]
       exact⟨a,xs,[],rfl,rfl,fa,ha,hl,gX.mpr ⟨rfl,rs⟩⟩
   ·cases e
theorem Bi{e a b:Expr}{p:Pos}{l:Nat}{env:Env}:swapsWith e (some (.Subscript a b p)) l env=pure false:=by cases e<;>rfl
theorem w9{us:List Value}(h:(us++[Value.none]).length=4):∃a b c,us=[a,b,c]:=by
 rw[List.length_append]at h
 match us,h with
 |[a,b,c],_=>exact⟨a,b,c,rfl⟩
 |[],h=>simp at h
 |[_],h=>simp at h
 |[_,_],h=>simp at h
 |_::_::_::_::_,h=>simp at h
end
end PL
namespace PL
namespace eO
open PySem
noncomputable abbrev S(x:String):D:=.str (Str.ofString x)
noncomputable def nO:D:=(.int 4294967291)
noncomputable def ic:Sm:=bZ (aM 2) (e2 oDiv (aa 2) (e2 fR (eC (.int 10)) (eC (.int 24))))
noncomputable def iH:List D→R D:=fn 4 (aC [aQ (tV (e2 ig (aa 0) (e2 fR (eC (.int 10)) (eC (.int 18))))) (aC [bZ (aM 2) (e2 lQ (aa 0) (e2 fR (eC (.int 10)) (eC (.int 18)))),jG (eT (e2 oMod (aa 1) (eC (.int 16)))) (aM 3) ic,aR (e2 oMod (aa 2) (e2 fR (eC (.int 10)) (eC (.int 24))))]) (aS),bZ (aM 2) (e2 oMod (e2 du (e2 dS (e2 dS (aa 0) (e2 du (e2 du (eC (.int 7919)) (aa 1)) (aa 1))) (eC (.int 1))) (eC (.int 48271))) (eC (.int 2147483647))),aR (e2 oMod (e2 du (aa 2) (aa 2)) (eC (.int 2147483629)))])
noncomputable def nM:List D→R T:=gu 0 (dm (nU [(eC (S "tasks"),xD (b9 [] [])),(eC (S "lent"),xD (b9 [] [])),(eC (S "nodes"),xD (b9 [(.inl 0)] [dF [eC (S "folder"),b9 [] []]])),(eC (S "boxes"),xD (b9 [] [])),(eC (S "clock"),xD (eC (.int 0)))]))
noncomputable def kX:List D→R T:=gu 2 (aC [jD 1 (b9 [(.inr (Str.ofString "parent")),(.inr (Str.ofString "rank")),(.inr (Str.ofString "regs")),(.inr (Str.ofString "row")),(.inr (Str.ofString "pages")),(.inr (Str.ofString "handles"))] [aa 0,eC (.int 1),dE [eC (.int 0),eC (.int 1),eC (.int 2),eC (.int 3),eC (.int 4),eC (.int 5),eC (.int 6),eC (.int 7)],eC (.int 0),b9 [] [],b9 [] []]),bC 1 (eC (S "waits")) (eC .ai),bC 1 (eC (S "handler")) (eC (.int 0)),bC 1 (eC (S "rung")) (eC (.bl false)),bC 1 (eC (S "saved")) (eC .ai),lU 1])
noncomputable def jU:List D→R D:=fn 7 (aC [bZ (aM 2) (aJ iH [aa 0,e2 dS (e2 du (eC (.int 16)) (aa 1)) (eC (.int 1))]),i9 3 (bO nM []),i9 4 (bO kX [eC (.int 0)]),i9 5 (bO kX [eC (.int 0)]),bC 4 (eC (S "rung")) (e2 oEq (e2 oMod (aa 2) (eC (.int 2))) (eC (.int 1))),bC 4 (eC (S "handler")) (e2 av (dE [eC (.int 0),e2 dS (eC (.int 1)) (e2 oMod (e2 oDiv (aa 2) (eC (.int 64))) (eC (.int 4294967295)))]) (e2 oMod (e2 oDiv (aa 2) (eC (.int 2))) (eC (.int 2)))),bC 4 (eC (S "regs")) (cn (eT (eC (.int 8))) 1 [2] (aM 0) [] (e2 oMod (e2 dS (e2 oDiv (aa 1) (eC (.int 7))) (e2 du (e2 du (aa 0) (aa 0)) (eC (.int 65537)))) (eC (.int 4294967296)))),bC 4 (eC (S "row")) (e2 oMod (aJ iH [aa 0,e2 dS (e2 du (eC (.int 16)) (aa 1)) (eC (.int 2))]) (eC (.int 4294967296))),aQ (tV (e2 oEq (e2 oMod (e2 oDiv (aa 2) (eC (.int 4))) (eC (.int 3))) (eC (.int 1)))) (bC 4 (eC (S "saved")) (dF [cn (eT (eC (.int 8))) 1 [2] (aM 0) [] (e2 oMod (e2 du (aa 0) (aa 1)) (eC (.int 4294967296))),e2 oMod (e2 oDiv (aa 2) (eC (.int 5))) (eC (.int 4294967296))])) (aS),bZ (aM 6) (e2 oMod (e2 oDiv (aa 2) (eC (.int 12))) (eC (.int 5))),bC 3 (eC (S "boxes")) (b9 [(.inl 3),(.inl 9)] [dF [eC (.int 2),dE []],dF [eC (.int 1),dE [e2 oMod (aa 2) (eC (.int 1000))]]]),bC 3 (eC (S "clock")) (eC (.int 4)),aQ (tV (e2 oEq (aa 6) (eC (.int 1)))) (aC [bC 5 (eC (S "parent")) (eC (.int 6)),bC 4 (eC (S "waits")) (dF [eC (S "child")])]) (aS),aQ (tV (e2 oEq (aa 6) (eC (.int 2)))) (bC 4 (eC (S "waits")) (dF [eC (S "take"),eC (.int 3),eC (.int 3)])) (aS),aQ (tV (e2 oEq (aa 6) (eC (.int 3)))) (bC 4 (eC (S "waits")) (dF [eC (S "send"),eC (.int 9),e2 oMod (aa 2) (eC (.int 4294967296)),eC (.int 0)])) (aS),aQ (tV (e2 oEq (aa 6) (eC (.int 4)))) (aC [bC 4 (eC (S "parent")) (eC (.int 2)),bC 4 (eC (S "waits")) (dF [eC (S "ended"),e2 oMod (e2 oDiv (aa 2) (eC (.int 3))) (eC (.int 4294967296))]),bC 4 (eC (S "rung")) (eC (.bl false)),bC 4 (eC (S "saved")) (eC .ai)]) (aS),fM 4,fM 5,bC 3 (eC (S "tasks")) (b9 [(.inl 6),(.inl 2)] [aa 4,aa 5]),fM 3,aR (aa 3)])
noncomputable def mR(rec:List D→R T):List D→R T:=gu 1 (aC [aQ (tV (e1 (aU .dict) (aa 0))) (dm (j2 (fE (gp (aa 0)) 1 [0] (aM 0) [] (xT [xD (aa 0),bO rec [e2 av (aa 1) (aa 0)]])))) (aS),aQ (tV (e1 (aU .list) (aa 0))) (dm (fE (iB (aa 0)) 1 [] (aM 0) [] (bO rec [aa 0]))) (aS),aQ (tV (e1 (aU .tuple) (aa 0))) (dm (xD (e1 lA (cn (iB (aa 0)) 1 [] (aM 0) [] (eX (bO rec [aa 0])))))) (aS),dm (xD (aa 0))])
noncomputable def fU:List D→R T:=hJ mR 9
noncomputable def kh:List D→R D:=fn 3 (aC [jD 2 (e1 eY (aa 0)),mz 2 (aa 1),fM 2,aR (aa 2)])
noncomputable def gP:List D→R D:=fn 4 (aC [jD 3 (e1 eY (e2 av (aa 0) (eC (S "tasks")))),bC 3 (aa 1) (aJ kh [nL 3 (aa 1),aa 2]),fM 3,aR (aJ kh [aa 0,b9 [(.inr (Str.ofString "tasks"))] [aa 3]])])
noncomputable def m9:List D→R D:=fn 1 (aR (b6 (e1 (aU .int) (aa 0)) (e1 ir (e1 (aU .bool) (aa 0)))))
noncomputable def eG:List D→R D:=fn 2 (aR (b6 (aJ m9 [aa 1]) (b6 (e2 dM (aa 1) (e2 av (aa 0) (eC (S "tasks")))) (e1 cM (e2 av (e2 av (e2 av (aa 0) (eC (S "tasks"))) (aa 1)) (eC (S "waits")))))))
noncomputable def ko:List D→R D:=fn 4 (aC [aQ (bP (tV (aJ eG [aa 0,aa 1]))) (aR (e1 eY (aa 0))) (aS),bZ (aM 2) (e2 av (e2 av (aa 0) (eC (S "tasks"))) (aa 1)),aQ (cv (bP (tV (e2 av (aa 2) (eC (S "rung"))))) (cv (tV (e2 oEq (e2 av (aa 2) (eC (S "handler"))) (eC (.int 0)))) (tV (e1 cV (e2 av (aa 2) (eC (S "saved"))))))) (aR (e1 eY (aa 0))) (aS),bZ (aM 3) (b9 [(.inr (Str.ofString "saved")),(.inr (Str.ofString "rung")),(.inr (Str.ofString "row"))] [dF [e2 av (aa 2) (eC (S "regs")),e2 av (aa 2) (eC (S "row"))],eC (.bl false),e2 av (aa 2) (eC (S "handler"))]),aR (aJ gP [aa 0,aa 1,aa 3])])
noncomputable def oM:List D→R D:=fn 1 (aR (b6 (e1 cV (aa 0)) (e2 oEq (e2 av (aa 0) (eC (.int 0))) (eC (S "ended")))))
noncomputable def oO:List D→R D:=fn 2 (aR (b6 (e2 dM (aa 1) (e2 av (aa 0) (eC (S "tasks")))) (e1 ir (aJ oM [e2 av (e2 av (e2 av (aa 0) (eC (S "tasks"))) (aa 1)) (eC (S "waits"))]))))
noncomputable def oy:List D→R D:=fn 4 (aC [oE 3 (e1 iz (aa 0)),kH 3 (eC (.int 0)) (aa 1),aQ (tV (e1 cV (aa 2))) (kH 3 (eC (.int 1)) (aa 2)) (aS),fM 3,aR (aa 3)])
noncomputable def mf:List D→R D:=fn 5 (aC [bZ (aM 4) (aJ oy [e2 av (e2 av (e2 av (aa 0) (eC (S "tasks"))) (aa 1)) (eC (S "regs")),aa 2,aa 3]),aR (aJ gP [aa 0,aa 1,b9 [(.inr (Str.ofString "regs")),(.inr (Str.ofString "waits"))] [aa 4,eC .ai]])])
noncomputable def jZ:List D→R D:=fn 4 (aC [aQ (bP (tV (aJ oO [aa 0,aa 1]))) (aR (e1 eY (aa 0))) (aS),bZ (aM 2) (aJ gP [aa 0,aa 1,b9 [(.inr (Str.ofString "rung"))] [eC (.bl true)]]),bZ (aM 3) (e2 av (e2 av (aa 2) (eC (S "tasks"))) (aa 1)),aQ (b8 (tV (e1 cV (e2 av (aa 3) (eC (S "waits"))))) (b8 (tV (e2 cz (e2 av (aa 3) (eC (S "handler"))) (eC (.int 0)))) (tV (e1 cM (e2 av (aa 3) (eC (S "saved"))))))) (aR (aJ (fun ds=>mf (ds++[.ai])) [aa 2,aa 1,eC nO])) (aS),aR (aa 2)])
noncomputable def nR(rec:List D→R D):List D→R D:=fn 2 (aC [aQ (tV (e1 (aU .dict) (aa 1))) (aC [aQ (cv (bP (tV (e1 (aU .dict) (aa 0)))) (tV (e2 cz (e1 dw (aa 0)) (e1 dw (aa 1))))) (aR (eC (.bl false))) (aS),aR (e1 gw (cn (gp (aa 1)) 1 [0,1] (aM 0) [] (b6 (e2 dM (aa 0) (aa 1)) (aJ rec [e2 av (aa 1) (aa 0),e2 av (aa 2) (aa 0)]))))]) (aS),aQ (tV (e1 fP (aa 1))) (aC [aQ (cv (tV (e2 cz (e1 (aU .list) (aa 0)) (e1 (aU .list) (aa 1)))) (tV (e2 cz (e1 (aU .tuple) (aa 0)) (e1 (aU .tuple) (aa 1))))) (aR (eC (.bl false))) (aS),aR (b6 (e2 oEq (e1 dw (aa 0)) (e1 dw (aa 1))) (e1 gw (cn (jL (aa 0) (aa 1)) 2 [] (eP [0,1]) [] (aJ rec [aa 0,aa 1]))))]) (aS),aR (b6 (e2 oEq (aa 0) (aa 1)) (e2 oEq (e1 (aU .bool) (aa 0)) (e1 (aU .bool) (aa 1))))])
noncomputable def eh:List D→R D:=iy nR 9
noncomputable def i6:List D→R D:=fn 3 (aC [hV 1 (bO fU [aa 0]),lB 2 1 (pX 1 (pX 1 (pN) (eC (S "tasks"))) (eC (.int 6))),aQ (gJ 1 (b8 (tV (e1 cM (e2 av (aa 2) (eC (S "waits"))))) (b8 (tV (e2 av (aa 2) (eC (S "rung")))) (b8 (tV (e2 fu (e2 av (aa 2) (eC (S "handler"))) (eC (.int 0)))) (tV (e1 cM (e2 av (aa 2) (eC (S "saved"))))))))) (aC [eA 1 (pA 1 2) (eC (S "saved")) (eX (xT [xF (jz 1 (e1 iz (e2 av (aa 2) (eC (S "regs"))))),xD (gT 1 (e2 av (aa 2) (eC (S "row"))))])),eA 1 (pA 1 2) (eC (S "rung")) (eC (.bl false)),eA 1 (pA 1 2) (eC (S "row")) (gT 1 (e2 av (aa 2) (eC (S "handler"))))]) (aS),gW 1,aR (aa 1)])
noncomputable def gD:List D→R D:=fn 3 (aC [hV 1 (bO fU [aa 0]),lB 2 1 (pX 1 (pX 1 (pN) (eC (S "tasks"))) (eC (.int 6))),eA 1 (pA 1 2) (eC (S "rung")) (eC (.bl true)),aQ (gJ 1 (b8 (tV (e1 cV (e2 av (aa 2) (eC (S "waits"))))) (b8 (tV (e2 fu (e2 av (aa 2) (eC (S "handler"))) (eC (.int 0)))) (tV (e1 cM (e2 av (aa 2) (eC (S "saved")))))))) (aC [eA 1 (pA 1 2) (eC (S "waits")) (eC .ai),ll 1 (pX 1 (pA 1 2) (eC (S "regs"))) (eC (.int 0)) (eC (.int 4294967291))]) (aS),gW 1,aR (aa 1)])
noncomputable def iP:Sm:=aC [bZ (aM 2) (aJ jU [e2 av (aa 0) (aa 1),aa 1]),bZ (aM 3) (eX (bO fU [aa 2])),bZ (aM 4) (aJ ko [aa 3,eC (.int 6)]),aQ (cv (bP (tV (aJ eh [aa 4,aJ i6 [aa 2]]))) (bP (tV (aJ eh [aa 3,aa 2])))) (aR (eC (.bl false))) (aS),bZ (aM 5) (b6 (e1 cV (e2 av (e2 av (e2 av (aa 2) (eC (S "tasks"))) (eC (.int 6))) (eC (S "waits")))) (e2 oEq (e2 av (e2 av (e2 av (e2 av (aa 2) (eC (S "tasks"))) (eC (.int 6))) (eC (S "waits"))) (eC (.int 0))) (eC (S "ended")))),aQ (bP (tV (aa 5))) (aC [bZ (aM 4) (aJ jZ [aa 3,eC (.int 6)]),aQ (cv (bP (tV (aJ eh [aa 4,aJ gD [aa 2]]))) (bP (tV (aJ eh [aa 3,aa 2])))) (aR (eC (.bl false))) (aS)]) (aS),bZ (aM 6) (dE [aJ eG [aa 3,eC (.int 6)],aJ eG [aa 3,eC (.int 2)],aJ eG [aa 3,eC (.int 5)]]),aQ (cv (bP (tV (aJ eh [aa 6,dE [e1 cM (e2 av (e2 av (e2 av (aa 2) (eC (S "tasks"))) (eC (.int 6))) (eC (S "waits"))),eC (.bl true),eC (.bl false)]]))) (bP (tV (aJ eh [aa 3,aa 2])))) (aR (eC (.bl false))) (aS)]
noncomputable def j9:List D→R D:=fn 7 (aC [jG (eT (e2 ku (e1 iK (aa 0)) (eC (.int 60)))) (aM 1) iP,aR (eC (.bl true))])
end eO
end PL
set_option maxRecDepth 1000
namespace PL
open PySem
theorem mn{tg:bf}{body:Sm}(P:En→Prop):∀ {ds:List D},(∀d∈ds,∀ρ,P ρ→∃ρ1,tg d ρ=.ok ρ1∧∃ρ2,body ρ1=.ok (.next ρ2)∧P ρ2)→
   ∀ {ρ:En},P ρ→∃ρ',forL tg body ds ρ=.ok (.next ρ')∧P ρ'
 |[],_,ρ,h=>⟨ρ,rfl,h⟩
 | d::ds,hs,ρ,h=>by
   obtain⟨ρ1,e1,ρ2,e2,h2⟩:=hs d (List.mem_cons_self ..) ρ h
   obtain⟨ρ',e,h'⟩:=mn (ds:=ds) P (fun d hd=>hs d (List.mem_cons_of_mem _ hd)) h2
   exact⟨ρ',by simp[forL,e1,e2,e],h'⟩
theorem zV{a b:Int}{d:D}(h:d∈dR a b):∃k:Int,d=.int k∧a≤k∧k<b:=by
 unfold dR at h
 obtain⟨k,hk,e⟩:=List.mem_map.mp h
 have:=List.mem_range.mp hk
 exact⟨a+k,e.symm,by omega,by omega⟩
theorem xa{α:Type}{xs:List α}{i:Int}(h0:0≤i)(h:i<xs.length):bW xs i=some (xs[i.toNat]'(by omega)):=by
 unfold bW cA
 rw[if_pos h0,if_pos h]
 have:i.toNat<xs.length:=by omega
 simp[this]
theorem Ae{xs:List Int}{i:Int}(h0:0≤i)(h:i<xs.length):∃x,x∈xs∧bW (xs.map D.int) i=some (.int x):=by
 refine⟨xs[i.toNat]'(by omega),List.getElem_mem _,?_⟩
 rw[xa h0 (by simpa using h)]
 simp
theorem qY{i:Int}(h1: -1000000<i)(h2:i<1000000):inR i=true:=by
 unfold inR
 rw[decide_eq_true (show -4611686018427387904≤i by omega),decide_eq_true (show i<4611686018427387904 by omega)];rfl
theorem sx{i:Int}(h1:0≤i)(h2:i<18446744073709551616):small i=true:=by
 unfold small
 rw[decide_eq_true (show -18446744073709551616<i by omega),decide_eq_true h2];rfl
theorem eE{c:aF}{a b:Sm}{ρ:En}(h:c ρ=.ok true):aQ c a b ρ=a ρ:=by simp[h]
theorem aO{a:Sm}{r:List Sm}{ρ ρ':En}(h:a ρ=.ok (.next ρ')):aC (a::r) ρ=aC r ρ':=by
 show(a ρ).bind _=_
 rw[h];rfl
theorem dj{a:Sm}{r:List Sm}{ρ:En}{d:D}(h:a ρ=.ok (.ret d)):aC (a::r) ρ=.ok (.ret d):=by
 show(a ρ).bind _=_
 rw[h];rfl
theorem cj{c:aF}{a:Sm}{ρ:En}(h:c ρ=.ok false):aQ c a aS ρ=.ok (.next ρ):=by simp[h]
theorem gZ{n:Nat}{b:Sm}{ds:List D}{d:D}(h:b (ds.map .sh++List.replicate (n - ds.length) .un)=.ok (.ret d)):fn n b ds=.ok d:=by
 unfold fn;rw[h];rfl
theorem qr{a:Ex}{ρ:En}{L:Int}(h:a ρ=.ok (.int L))(h2:inR L=true):eT a ρ=.ok (dR 0 L):=by
 simp[h,h2]
set_option maxRecDepth 2000
namespace G
theorem fz{o:D→R D}{a:Ex}{ρ:En}{x d:D}(ha:a ρ=.ok x)(h:o x=.ok d):e1 o a ρ=.ok d:=by
 show(a ρ).bind _=_
 rw[ha,R.bg,h]
theorem b0{o:D→D→R D}{a b:Ex}{ρ:En}{x y d:D}(ha:a ρ=.ok x)(hb:b ρ=.ok y)(h:o x y=.ok d):e2 o a b ρ=.ok d:=by
 show(a ρ).bind _=_
 rw[ha,R.bg]
 show(b ρ).bind _=_
 rw[hb,R.bg,h]
theorem rY{f:List D→R D}{a:Ex}{ρ:En}{x d:D}(ha:a ρ=.ok x)(h:f [x]=.ok d):aJ f [a] ρ=.ok d:=by
 simp only[aJ,eList,ha,R.bg];exact h
theorem cX{f:List D→R D}{a b:Ex}{ρ:En}{x y d:D}(ha:a ρ=.ok x)(hb:b ρ=.ok y)(h:f [x,y]=.ok d):aJ f [a,b] ρ=.ok d:=by
 simp only[aJ,eList,ha,hb,R.bg];exact h
theorem jO{a b:Ex}{ρ:En}{i u:Int}(ha:a ρ=.ok (.int i))(hb:b ρ=.ok (.int u)):e2 dS a b ρ=.ok (.int (i+u)):=b0 ha hb rfl
theorem Ar{a b:Ex}{ρ:En}{i u:Int}(ha:a ρ=.ok (.int i))(hb:b ρ=.ok (.int u)):e2 lQ a b ρ=.ok (.int (i - u)):=b0 ha hb rfl
theorem dO{a b:Ex}{ρ:En}{i u:Int}(ha:a ρ=.ok (.int i))(hb:b ρ=.ok (.int u))(h:0<u):e2 oMod a b ρ=.ok (.int (i % u)):=b0 ha hb (if_pos h)
theorem b4{a:Ex}{ρ:En}{b:Bool}(ha:a ρ=.ok (.bl b)):tV a ρ=.ok b:=by
 simp only[tV,ha,R.bg,truth]
theorem iQ{t:aF}{ρ:En}{b:Bool}(h:t ρ=.ok b):bP t ρ=.ok (!b):=by
 simp only[bP,h,R.bg]
theorem lN{t u:aF}{ρ:En}{b c:Bool}(h:t ρ=.ok b)(h':u ρ=.ok c):cv t u ρ=.ok (b||c):=by
 simp only[cv,h,R.bg]
 cases b
 ·rw[if_neg (by decide),h'];rfl
 ·rfl
theorem dg{t u:aF}{ρ:En}{b c:Bool}(h:t ρ=.ok b)(h':u ρ=.ok c):b8 t u ρ=.ok (b&&c):=by
 simp only[b8,h,R.bg]
 cases b
 ·rfl
 ·rw[if_pos rfl,h'];rfl
theorem fT{t u:aF}{ρ:En}(h:t ρ=.ok false):b8 t u ρ=.ok false:=by
 simp only[b8,h,R.bg];rfl
theorem lh{a b:Ex}{ρ:En}{x:Bool}{d:D}(ha:a ρ=.ok (.bl true))(hb:b ρ=.ok d):b6 a b ρ=.ok d:=by
 simp only[b6,ha,R.bg];exact hb
theorem fw{a:Ex}{ρ:En}{d:D}(h:a ρ=.ok d):aR a ρ=.ok (.ret d):=by
 simp only[aR,h,R.bg]
theorem d4{i:Nat}{a:Ex}{ρ:En}{d:D}(h:a ρ=.ok d):bZ (aM i) a ρ=.ok (.next (ρ.set i (.sh d))):=by
 simp only[bZ,h,R.bg,aM]
theorem we{xs:List D}{i:Int}{d:D}(h:bW xs i=some d):av (.lst xs) (.int i)=.ok d:=by simp[h]
theorem eq_int(i j:Int):oEq (.int i) (.int j)=.ok (.bl (decide (i=j))):=by
 unfold oEq
 rw[Aa,if_pos rfl]
 show R.ok (D.bl (i==j))=_
 rfl
mutual
theorem oa:∀d:D,lay d=true→bj d d=true
 |.ai,_=>rfl
 |.bl b,_=>by simp
 |.int i,_=>by simp
 |.str x,_=>by simp
 |.tup xs,h=>by unfold bj;exact oo xs (by unfold lay at h;exact h)
 |.lst xs,h=>by unfold bj;exact oo xs (by unfold lay at h;exact h)
 |.aA _ _,h=>by unfold lay at h;cases h
 |.bG _ _ _,h=>by unfold lay at h;cases h
theorem oo:∀ds:List D,cZ ds=true→gC ds ds=true
 |[],_=>rfl
 | d::ds,h=>by
   unfold cZ at h
   rw[Bool.and_eq_true]at h
   unfold gC
   rw[oa d h.1,oo ds h.2];rfl
end
theorem sf{d:D}(h:lay d=true)(h2:dep d≤60):dA d d=true:=by
 unfold dA
 rw[h,decide_eq_true (show min (dep d) (dep d)≤60 by omega)];simp
theorem ne_self{d:D}(h:lay d=true)(h2:dep d≤60):cz d d=.ok (.bl false):=by
 unfold cz
 rw[if_pos (sf h h2),oa d h];rfl
theorem eq_self{d:D}(h:lay d=true)(h2:dep d≤60):oEq d d=.ok (.bl true):=by
 unfold oEq cB
 rw[sf h h2,oa d h];rfl
theorem jY{α:Type}{tg:bf}{el:Ex}{ρ:En}(u:α→D)(v:α→D):∀ {xs:List α},(∀x∈xs,∃ρ1,tg (u x) ρ=.ok ρ1∧el ρ1=.ok (v x))→eB tg [] el ρ (xs.map u)=.ok (xs.map v)
 |[],_=>rfl
 | x::xs,h=>by
   obtain⟨ρ1,e1,e2⟩:=h x List.mem_cons_self
   rw[List.map_cons,eB,e1,R.bg]
   show(R.ok true).bind _=_
   rw[R.bg,if_pos rfl,e2,R.bg,jY u v (fun y hy=>h y (List.mem_cons_of_mem _ hy))]
   rfl
theorem lD{it:bc}{n:Nat}{fv:List Nat}{tg:bf}{cs:List aF}{el:Ex}{ρ:En}{ds ys:List D}(hi:it ρ=.ok ds)(hl:ds.length≤16777216)(hc:eB tg cs el (List.replicate n .un++frees ρ fv) ds=.ok ys):cn it n fv tg cs el ρ=.ok (.lst ys):=by
 show(it ρ).bind _=_
 rw[hi,R.bg,if_pos hl,hc];rfl
theorem o5{it:bc}{tg:bf}{body:Sm}{ρ:En}{ds:List D}{r:R Fl}(hi:it ρ=.ok ds)(h:forL tg body ds ρ=r):jG it tg body ρ=r:=by
 show(it ρ).bind _=_
 rw[hi,R.bg,h]
end G
end PL
set_option maxRecDepth 4000
set_option maxHeartbeats 400000
namespace PL
namespace C
open PySem G
noncomputable def j8(rec:List D→R T):List D→R T:=gu 1 (aC [aQ (tV (e1 (aU .dict) (aa 0))) (dm (j2 (fE (gp (aa 0)) 1 [0] (aM 0) [] (xT [xD (aa 0),bO rec [e2 av (aa 1) (aa 0)]])))) (aS),aQ (tV (e1 (aU .list) (aa 0))) (dm (fE (iB (aa 0)) 1 [] (aM 0) [] (bO rec [aa 0]))) (aS),aQ (tV (e1 (aU .tuple) (aa 0))) (dm (xD (e1 lA (cn (iB (aa 0)) 1 [] (aM 0) [] (eX (bO rec [aa 0])))))) (aS),dm (xD (aa 0))])
noncomputable def jS(rec:List D→R D):List D→R D:=fn 2 (aC [aQ (tV (e1 (aU .dict) (aa 1))) (aC [aQ (cv (bP (tV (e1 (aU .dict) (aa 0)))) (tV (e2 cz (e1 dw (aa 0)) (e1 dw (aa 1))))) (aR (eC (.bl false))) (aS),aR (e1 gw (cn (gp (aa 1)) 1 [0,1] (aM 0) [] (b6 (e2 dM (aa 0) (aa 1)) (aJ rec [e2 av (aa 1) (aa 0),e2 av (aa 2) (aa 0)]))))]) (aS),aQ (tV (e1 fP (aa 1))) (aC [aQ (cv (tV (e2 cz (e1 (aU .list) (aa 0)) (e1 (aU .list) (aa 1)))) (tV (e2 cz (e1 (aU .tuple) (aa 0)) (e1 (aU .tuple) (aa 1))))) (aR (eC (.bl false))) (aS),aR (b6 (e2 oEq (e1 dw (aa 0)) (e1 dw (aa 1))) (e1 gw (cn (jL (aa 0) (aa 1)) 2 [] (eP [0,1]) [] (aJ rec [aa 0,aa 1]))))]) (aS),aR (b6 (e2 oEq (aa 0) (aa 1)) (e2 oEq (e1 (aU .bool) (aa 0)) (e1 (aU .bool) (aa 1))))])
mutual
noncomputable def nice:D→Bool
 |.str x=>x.cps.all (· <0x110000)
 |.tup xs=>decide (xs.length≤1000)&&iY xs
 |.lst xs=>decide (xs.length≤1000)&&iY xs
 |.aA ks vs=>decide ks.Nodup&&decide (ks.length=vs.length)&&decide (ks.length≤1000)&&iY vs
 |.bG _ _ _=>false
 |_=>true
noncomputable def iY:List D→Bool
 |[]=>true
 |d::ds=>nice d&&iY ds
end
mutual
noncomputable def cx:D→Nat
 |.tup xs=>dH xs+1
 |.lst xs=>dH xs+1
 |.aA _ vs=>dH vs+1
 |_=>0
noncomputable def dH:List D→Nat
 |[]=>0
 |d::ds=>max (cx d) (dH ds)
end
mutual
noncomputable def deep:D→T
 |.lst xs=>.l (eK xs)
 |.aA ks vs=>.m ks (eK vs)
 |x=>.d x
noncomputable def eK:List D→List T
 |[]=>[]
 |d::ds=>deep d::eK ds
end
theorem mm:∀ds:List D,eK ds=ds.map deep
 |[]=>rfl
 |d::ds=>by show deep d::eK ds=_;rw[mm ds];rfl
mutual
theorem fo:∀d:D,T.toD (deep d)=d
 |.lst xs=>by show D.lst (T.fO (eK xs))=_;rw[oD xs]
 |.aA ks vs=>by show D.aA ks (T.fO (eK vs))=_;rw[oD vs]
 |.ai=>rfl
 |.bl _=>rfl
 |.int _=>rfl
 |.str _=>rfl
 |.tup _=>rfl
 |.bG _ _ _=>rfl
theorem oD:∀ds:List D,T.fO (eK ds)=ds
 |[]=>rfl
 |d::ds=>by show T.toD (deep d)::T.fO (eK ds)=_;rw[fo d,oD ds]
end
theorem gI:∀ {ds:List D},iY ds=true→∀d∈ds,nice d=true
 |[],_,_,h=>nomatch h
 | d::ds,h,x,hx=>by
   unfold iY at h
   rw[Bool.and_eq_true]at h
   rcases List.mem_cons.mp hx with rfl|hx
   ·exact h.1
   ·exact gI h.2 x hx
theorem gO:∀ {ds:List D} {d:D},d∈ds→cx d≤dH ds
 |[],_,h=>nomatch h
 | x::ds,d,h=>by
   show cx d≤max (cx x) (dH ds)
   rcases List.mem_cons.mp h with rfl|h
   ·omega
   ·have:=gO h;omega
theorem nJ{α:Type}{tg:bf}{el:Xt}{ρ:En}(u:α→D)(v:α→T):∀ {xs:List α},(∀x∈xs,∃ρ1,tg (u x) ρ=.ok ρ1∧el ρ1=.ok (v x))→dZ tg [] el ρ (xs.map u)=.ok (xs.map v)
 |[],_=>rfl
 | x::xs,h=>by
   obtain⟨ρ1,e1,e2⟩:=h x List.mem_cons_self
   rw[List.map_cons,dZ,e1,R.bg]
   show(R.ok true).bind _=_
   rw[R.bg,if_pos rfl,e2,R.bg,nJ u v (fun y hy=>h y (List.mem_cons_of_mem _ hy))]
   rfl
theorem pJ{it:bc}{n:Nat}{fv:List Nat}{tg:bf}{cs:List aF}{el:Xt}{ρ:En}{ds:List D}{ts:List T}(hi:it ρ=.ok ds)(hl:ds.length≤16777216)(hc:dZ tg cs el (List.replicate n .un++frees ρ fv) ds=.ok ts):fE it n fv tg cs el ρ=.ok (.l ts):=by
 unfold fE kl
 rw[hi,R.bg,if_pos hl,hc];rfl
theorem nN{z:Ky}{v:D}:∀ {ks:List Ky} {vs:List D},ks.Nodup→(z,v)∈ks.zip vs→bB z ks vs=some v
 |[],_,_,h=>by simp at h
 |_::_,[],_,h=>by simp at h
 | a::ks,x::vs,hn,h=>by
   rw[List.zip_cons_cons]at h
   unfold bB
   have hn:=List.nodup_cons.mp hn
   rcases List.mem_cons.mp h with h|h
   ·cases h;rw[if_pos rfl]
   · have hz:a≠z:=fun e=>by subst e;exact hn.1 (List.of_mem_zip h).1
     rw[if_neg hz];exact nN hn.2 h
theorem lY(z:Ky):keyOf (bu z)=some z:=by cases z<;>rfl
theorem mJ{z:Ky}{v:D}{ks:List Ky}{vs:List D}(h:bB z ks vs=some v):av (.aA ks vs) (bu z)=.ok v:=by
 show(match keyOf (bu z)with|some q=>(match bB q ks vs with|some v=>R.ok v|none=>.bad)|none=>.bad)=_
 rw[lY]
 show(match bB z ks vs with|some v=>R.ok v|none=>.bad)=_
 rw[h]
theorem zB{z:Ky}{v:D}{ks:List Ky}{vs:List D}(h:bB z ks vs=some v):dM (bu z) (.aA ks vs)=.ok (.bl true):=by
 have:dM (bu z) (.aA ks vs)=(match keyOf (bu z)with|some k=>R.ok (D.bl (bB k ks vs).isSome)|none=>.bad):=by cases z<;>rfl
 rw[this,lY]
 show R.ok (D.bl (bB z ks vs).isSome)=_
 rw[h];rfl
theorem sM:∀(ps:List (Ky×D)),gn (ps.map fun p=>.tu [.d (bu p.1),deep p.2])=some (ps.map (·.1),ps.map fun p=>deep p.2)
 |[]=>rfl
 | p::ps=>by
   show(match keyOf (bu p.1),gn (ps.map fun p=>.tu [.d (bu p.1),deep p.2])with|some z,some y=>some (z::y.1,deep p.2::y.2)|_,_=>none)=_
   rw[lY,sM ps];rfl
theorem oA{f:Xt}{ρ:En}{t:T}(h:f ρ=.ok t):dm f ρ=.ok (.cy t):=by unfold dm;rw[h];rfl
theorem oH{a:Sm}{r:List Sm}{ρ:En}{t:T}(h:a ρ=.ok (.cy t)):aC (a::r) ρ=.ok (.cy t):=by
 show(a ρ).bind _=_
 rw[h];rfl
theorem yc{n:Nat}{b:Sm}{ds:List D}{t:T}(h:b (ds.map .sh++List.replicate (n - ds.length) .un)=.ok (.cy t)):gu n b ds=.ok t:=by
 unfold gu;rw[h];rfl
theorem g9{m:List D→R T}{a:Ex}{ρ:En}{x:D}{t:T}(ha:a ρ=.ok x)(h:m [x]=.ok t):bO m [a] ρ=.ok t:=by
 unfold bO;simp only[eList,ha,R.bg];exact h
theorem si{f:Xt}{ρ:En}{t:T}(h:f ρ=.ok t):eX f ρ=.ok (T.toD t):=by unfold eX;rw[h];rfl
theorem rX:∀(n:Nat) (d:D),nice d=true→cx d<n→hJ j8 n [d]=.ok (deep d)
 |0,_,_,h=>absurd h (Nat.not_lt_zero _)
 | n+1,d,hd,hn=>by
   show j8 (hJ j8 n) [d]=_
   have ih:=fun x hx=>rX n x hx
   generalize hrec:hJ j8 n=rec at ih
   unfold j8
   refine yc ?_
   cases d with
   |ai=>rfl
   |bl b=>rfl
   |int i=>rfl
   |str x=>rfl
   |bG _ _ _=>cases hd
   | tup xs=>
     unfold nice at hd
     rw[Bool.and_eq_true,decide_eq_true_eq]at hd
     have hm:=gI hd.2
     have hdp:∀x∈xs,cx x<n:=fun x hx=>by have:=gO hx;have:dH xs+1<n+1:=hn;omega
     show aC _ [.sh (.tup xs)]=_
     rw[aO (cj rfl),aO (cj rfl)]
     refine oH ?_
     rw[eE rfl]
     refine oA (t:=.d (.tup xs)) ?_
     unfold xD
     rw[fz (x:=.lst xs) (d:=.tup xs) (lD (ds:=xs) rfl (by omega) ?_) rfl]
     ·rfl
     · have:=jY (tg:=aM 0) (el:=eX (bO rec [aa 0])) (ρ:=List.replicate 1 .un++frees [.sh (.tup xs)] []) (u:=fun x:D=>x) (v:=fun x=>x) (xs:=xs) fun x hx=>⟨[.sh x],rfl,by rw[si (g9 rfl (ih x (hm x hx) (hdp x hx))),fo]⟩
       simpa using this
   | lst xs=>
     unfold nice at hd
     rw[Bool.and_eq_true,decide_eq_true_eq]at hd
     have hm:=gI hd.2
     have hdp:∀x∈xs,cx x<n:=fun x hx=>by have:=gO hx;have:dH xs+1<n+1:=hn;omega
     show aC _ [.sh (.lst xs)]=_
     rw[aO (cj rfl)]
     refine oH ?_
     rw[eE rfl]
     refine oA (pJ (ds:=xs) rfl (by omega) ?_)
     have:=nJ (tg:=aM 0) (el:=bO rec [aa 0]) (ρ:=List.replicate 1 .un++frees [.sh (.lst xs)] []) (u:=fun x:D=>x) (v:=deep) (xs:=xs) fun x hx=>⟨[.sh x],rfl,g9 rfl (ih x (hm x hx) (hdp x hx))⟩
     rw[mm]
     simpa using this
   | aA ks vs=>
     unfold nice at hd
     rw[Bool.and_eq_true,Bool.and_eq_true,Bool.and_eq_true,decide_eq_true_eq,decide_eq_true_eq,decide_eq_true_eq]at hd
     obtain⟨⟨⟨hnd,hl⟩,h1000⟩,hns⟩:=hd
     have hm:=gI hns
     have hdp:∀x∈vs,cx x<n:=fun x hx=>by have:=gO hx;have:dH vs+1<n+1:=hn;omega
     show aC _ [.sh (.aA ks vs)]=_
     refine oH ?_
     rw[eE rfl]
     refine oA ?_
     have e1':fE (gp (aa 0)) 1 [0] (aM 0) [] (xT [xD (aa 0),bO rec [e2 av (aa 1) (aa 0)]]) [.sh (.aA ks vs)]=.ok (.l ((ks.zip vs).map fun p=>.tu [.d (bu p.1),deep p.2])):=by
       refine pJ (ds:=(ks.zip vs).map fun p=>bu p.1) ?_ (by rw[List.length_map,List.length_zip];omega) ?_
       · show R.ok (ks.map bu)=_
         rw[show((ks.zip vs).map fun p=>bu p.1)=((ks.zip vs).map (·.1)).map bu by rw[List.map_map];rfl,List.map_fst_zip (by omega)]
       · refine nJ (u:=fun p:Ky×D=>bu p.1) (v:=fun p=>.tu [.d (bu p.1),deep p.2]) fun p hp=>⟨[.sh (bu p.1),.sh (.aA ks vs)],rfl,?_⟩
         have hv:p.2∈vs:=(List.of_mem_zip (show(p.1,p.2)∈ks.zip vs from hp)).2
         have hc:bO rec [e2 av (aa 1) (aa 0)] [.sh (bu p.1),.sh (.aA ks vs)]=.ok (deep p.2):=g9 (b0 rfl rfl (mJ (nN hnd hp))) (ih p.2 (hm _ hv) (hdp _ hv))
         unfold xT
         simp only[cW,hc,R.bg]
         rfl
     unfold j2
     rw[e1',R.bg]
     show(match gn ((ks.zip vs).map fun p=>.tu [.d (bu p.1),deep p.2])with|some y=>if y.1.Nodup∧y.1.length≤1000 then R.ok (T.m y.1 y.2)else .bad|none=>.bad)=_
     rw[sM]
     show(if((ks.zip vs).map (·.1)).Nodup∧((ks.zip vs).map (·.1)).length≤1000 then R.ok (T.m ((ks.zip vs).map (·.1)) ((ks.zip vs).map fun p=>deep p.2))else .bad)=_
     rw[List.map_fst_zip (by omega),if_pos ⟨hnd,h1000⟩,show((ks.zip vs).map fun p=>deep p.2)=((ks.zip vs).map (·.2)).map deep by rw[List.map_map];rfl,List.map_snd_zip (by omega)]
     show _=R.ok (T.m ks (eK vs))
     rw[mm]
theorem all_true:∀ {α:Type} (xs:List α),allB (xs.map fun _=>D.bl true)=.ok (.bl true)
 |_,[]=>rfl
 | _,x::xs=>by
   show allB (D.bl true::xs.map fun _=>D.bl true)=_
   unfold allB
   rw[all_true xs];rfl
theorem nZ:∀xs:List D,fe xs xs=xs.map fun x=>.tup [x,x]
 |[]=>rfl
 |x::xs=>by show D.tup [x,x]::fe xs xs=_;rw[nZ xs];rfl
theorem qk(i:Int):oEq (.int i) (.int i)=.ok (.bl true):=by rw[eq_int,decide_eq_true rfl]
theorem uG(i:Int):cz (.int i) (.int i)=.ok (.bl false):=ne_self rfl (Nat.zero_le _)
theorem sT:∀(n:Nat) (d:D),nice d=true→cx d<n→iy jS n [d,d]=.ok (.bl true)
 |0,_,_,h=>absurd h (Nat.not_lt_zero _)
 | n+1,d,hd,hn=>by
   show jS (iy jS n) [d,d]=_
   have ih:=fun x hx=>sT n x hx
   generalize hrec:iy jS n=rec at ih
   unfold jS
   refine gZ ?_
   have leaf:∀d:D,lay d=true→dep d=0→aU .dict d=.ok (.bl false)→fP d=.ok (.bl false)→(∃b,aU .bool d=.ok (.bl b))→aC [aQ (tV (e1 (aU .dict) (aa 1))) (aC [aQ (cv (bP (tV (e1 (aU .dict) (aa 0)))) (tV (e2 cz (e1 dw (aa 0)) (e1 dw (aa 1))))) (aR (eC (.bl false))) (aS),aR (e1 gw (cn (gp (aa 1)) 1 [0,1] (aM 0) [] (b6 (e2 dM (aa 0) (aa 1)) (aJ rec [e2 av (aa 1) (aa 0),e2 av (aa 2) (aa 0)]))))]) (aS),aQ (tV (e1 fP (aa 1))) (aC [aQ (cv (tV (e2 cz (e1 (aU .list) (aa 0)) (e1 (aU .list) (aa 1)))) (tV (e2 cz (e1 (aU .tuple) (aa 0)) (e1 (aU .tuple) (aa 1))))) (aR (eC (.bl false))) (aS),aR (b6 (e2 oEq (e1 dw (aa 0)) (e1 dw (aa 1))) (e1 gw (cn (jL (aa 0) (aa 1)) 2 [] (eP [0,1]) [] (aJ rec [aa 0,aa 1]))))]) (aS),aR (b6 (e2 oEq (aa 0) (aa 1)) (e2 oEq (e1 (aU .bool) (aa 0)) (e1 (aU .bool) (aa 1))))] [.sh d,.sh d]=.ok (.ret (.bl true)):=fun d h1 h2 h3 h4 h5=>by
     obtain⟨b,hb⟩:=h5
     rw[aO (cj (b4 (fz rfl h3))),aO (cj (b4 (fz rfl h4)))]
     exact dj (fw (lh (x:=true) (b0 (o:=oEq) rfl rfl (eq_self h1 (by omega))) (b0 (o:=oEq) (fz rfl hb) (fz rfl hb) (eq_self rfl (Nat.zero_le _)))))
   cases d with
   |ai=>exact leaf _ rfl rfl rfl rfl ⟨_,rfl⟩
   |bl b=>exact leaf _ rfl rfl rfl rfl ⟨_,rfl⟩
   |int i=>exact leaf _ rfl rfl rfl rfl ⟨_,rfl⟩
   |str x=>exact leaf _ (by unfold nice at hd;unfold lay;exact hd) rfl rfl rfl ⟨_,rfl⟩
   |bG _ _ _=>cases hd
   | tup xs=>
     unfold nice at hd
     rw[Bool.and_eq_true,decide_eq_true_eq]at hd
     have hm:=gI hd.2
     have hdp:∀x∈xs,cx x<n:=fun x hx=>by have:=gO hx;have:dH xs+1<n+1:=hn;omega
     show aC _ [.sh (.tup xs),.sh (.tup xs)]=_
     rw[aO (cj rfl)]
     refine dj ?_
     rw[eE rfl,aO (cj rfl)]
     refine dj (fw (lh (x:=true) (b0 (x:=.int xs.length) (y:=.int xs.length) rfl rfl (qk _)) ?_))
     refine fz (x:=.lst (xs.map fun _=>.bl true)) (lD (ds:=xs.map fun x=>.tup [x,x]) (by show R.ok (fe xs xs)=_;rw[nZ]) (by rw[List.length_map];omega) ?_) (all_true xs)
     exact jY (u:=fun x:D=>.tup [x,x]) (v:=fun _=>.bl true) fun x hx=>⟨[.sh x,.sh x],rfl,cX rfl rfl (ih x (hm x hx) (hdp x hx))⟩
   | lst xs=>
     unfold nice at hd
     rw[Bool.and_eq_true,decide_eq_true_eq]at hd
     have hm:=gI hd.2
     have hdp:∀x∈xs,cx x<n:=fun x hx=>by have:=gO hx;have:dH xs+1<n+1:=hn;omega
     show aC _ [.sh (.lst xs),.sh (.lst xs)]=_
     rw[aO (cj rfl)]
     refine dj ?_
     rw[eE rfl,aO (cj rfl)]
     refine dj (fw (lh (x:=true) (b0 (x:=.int xs.length) (y:=.int xs.length) rfl rfl (qk _)) ?_))
     refine fz (x:=.lst (xs.map fun _=>.bl true)) (lD (ds:=xs.map fun x=>.tup [x,x]) (by show R.ok (fe xs xs)=_;rw[nZ]) (by rw[List.length_map];omega) ?_) (all_true xs)
     exact jY (u:=fun x:D=>.tup [x,x]) (v:=fun _=>.bl true) fun x hx=>⟨[.sh x,.sh x],rfl,cX rfl rfl (ih x (hm x hx) (hdp x hx))⟩
   | aA ks vs=>
     unfold nice at hd
     rw[Bool.and_eq_true,Bool.and_eq_true,Bool.and_eq_true,decide_eq_true_eq,decide_eq_true_eq,decide_eq_true_eq]at hd
     obtain⟨⟨⟨hnd,hl⟩,h1000⟩,hns⟩:=hd
     have hm:=gI hns
     have hdp:∀x∈vs,cx x<n:=fun x hx=>by have:=gO hx;have:dH vs+1<n+1:=hn;omega
     show aC _ [.sh (.aA ks vs),.sh (.aA ks vs)]=_
     refine dj ?_
     rw[eE rfl,aO (cj (lN (b:=false) (c:=false) rfl (b4 (b0 (x:=.int ks.length) (y:=.int ks.length) rfl rfl (uG _)))))]
     refine dj (fw (fz (x:=.lst ((ks.zip vs).map fun _=>.bl true)) (lD (ds:=(ks.zip vs).map fun p=>bu p.1) ?_ (by rw[List.length_map,List.length_zip];omega) ?_) (all_true _)))
     · show R.ok (ks.map bu)=_
       rw[show((ks.zip vs).map fun p=>bu p.1)=((ks.zip vs).map (·.1)).map bu by rw[List.map_map];rfl,List.map_fst_zip (by omega)]
     · refine jY (u:=fun p:Ky×D=>bu p.1) (v:=fun _=>.bl true) fun p hp=>⟨[.sh (bu p.1),.sh (.aA ks vs),.sh (.aA ks vs)],rfl,?_⟩
       have hf:=nN hnd (show(p.1,p.2)∈ks.zip vs from hp)
       have hv:p.2∈vs:=(List.of_mem_zip (show(p.1,p.2)∈ks.zip vs from hp)).2
       exact lh (x:=true) (b0 rfl rfl (zB hf)) (cX (b0 rfl rfl (mJ hf)) (b0 rfl rfl (mJ hf)) (ih p.2 (hm _ hv) (hdp _ hv)))
end C
end PL
set_option maxRecDepth 100000
namespace PL
namespace eO
open PySem G C
theorem pG{a b:Ex}{ρ:En}{i u:Int}(ha:a ρ=.ok (.int i))(hb:b ρ=.ok (.int u)):e2 ig a b ρ=.ok (.bl (decide (u≤i))):=b0 ha hb rfl
theorem hU{a b:Ex}{ρ:En}{i u:Int}(ha:a ρ=.ok (.int i))(hb:b ρ=.ok (.int u)):e2 fu a b ρ=.ok (.bl (decide (u<i))):=b0 ha hb rfl
theorem oJ{a b:Ex}{ρ:En}{i u:Int}(ha:a ρ=.ok (.int i))(hb:b ρ=.ok (.int u)):e2 oEq a b ρ=.ok (.bl (decide (i=u))):=b0 ha hb (eq_int i u)
theorem ij{a b:Ex}{ρ:En}{i u:Int}(ha:a ρ=.ok (.int i))(hb:b ρ=.ok (.int u))(h:small i=true∨small u=true):e2 du a b ρ=.ok (.int (i*u)):=b0 ha hb (if_pos (by rcases h with h|h<;>simp[h]))
theorem g6{a b:Ex}{ρ:En}{i u:Int}(ha:a ρ=.ok (.int i))(hb:b ρ=.ok (.int u))(h:oK u=true):e2 oDiv a b ρ=.ok (.int (i / u)):=b0 ha hb (if_pos h)
theorem mH{i:Nat}{k e:Ex}{ρ:En}{d q:D}{z:Ky}{ks ks':List Ky}{vs vs':List D}(he:e ρ=.ok d)(hk:k ρ=.ok q)(hz:keyOf q=some z)(hi:ρ[i]? =some (.od ks vs))(hl:ks.length<1000)(hp:putL z d ks vs=(ks',vs')):bC i k e ρ=.ok (.next (ρ.set i (.od ks' vs'))):=by
 unfold bC
 simp only[he,hk,R.bg,hi,hz]
 rw[if_pos hl,hp]
theorem nH(ρ:En):(e2 fR (eC (.int 10)) (eC (.int 18))) ρ=.ok (.int 1000000000000000000):=rfl
theorem rN(ρ:En):(e2 fR (eC (.int 10)) (eC (.int 24))) ρ=.ok (.int 1000000000000000000000000):=rfl
theorem qD(c:Int){k:Int}(h0:0≤k)(h1:k<100000):∃z:Int,0≤z∧iH [.int c,.int k]=.ok (.int z):=by
 rw[iH]
 by_cases hc:1000000000000000000≤c
 · obtain⟨ρ',eL,M,s3,rfl⟩:=mn (tg:=aM 3) (body:=ic) (fun ρ=>∃M s3,ρ=[.sh (.int c),.sh (.int k),.sh (.int M),s3]) (ds:=dR 0 (k % 16)) (by
     rintro d hd ρ ⟨M,s3,rfl⟩
     refine⟨_,rfl,[.sh (.int c),.sh (.int k),.sh (.int (M / 1000000000000000000000000)),.sh d],?_,_,_,rfl⟩
     show ic [.sh (.int c),.sh (.int k),.sh (.int M),.sh d]=_
     rw[ic,d4 (g6 rfl (rN _) (by decide))]
     rfl) (ρ:=[.sh (.int c),.sh (.int k),.sh (.int (c - 1000000000000000000)),.un]) ⟨_,_,rfl⟩
   refine⟨M % 1000000000000000000000000,Int.emod_nonneg _ (by decide),gZ (dj ?_)⟩
   show aQ _ _ _ [.sh (.int c),.sh (.int k),.un,.un]=_
   rw[eE (b4 (b:=true) (by rw[pG rfl (nH _),decide_eq_true hc]))]
   rw[aO (d4 (Ar rfl (nH _)))]
   show aC _ [.sh (.int c),.sh (.int k),.sh (.int (c - 1000000000000000000)),.un]=_
   rw[aO (o5 (qr (dO rfl rfl (by decide)) (qY (by omega) (by omega))) eL)]
   exact dj (fw (dO rfl (rN _) (by decide)))
 · generalize hm:(c+7919*k*k+1)*48271 % 2147483647=M
   have hM:0≤M∧M<2147483647:=by rw[←hm];exact⟨Int.emod_nonneg _ (by decide),Int.emod_lt_of_pos _ (by decide)⟩
   refine⟨M*M % 2147483629,Int.emod_nonneg _ (by decide),gZ ?_⟩
   show aC _ [.sh (.int c),.sh (.int k),.un,.un]=_
   rw[aO (cj (b4 (by rw[pG rfl (nH _),decide_eq_false hc])))]
   rw[aO (d4 (d:=.int M) (by
     rw[←hm]
     exact dO (ij (jO (jO rfl (ij (ij rfl rfl (.inl (by decide))) rfl (.inr (sx h0 (by omega))))) rfl) rfl (.inr (by decide))) rfl (by decide)))]
   show aC _ [.sh (.int c),.sh (.int k),.sh (.int M),.un]=_
   exact dj (fw (dO (ij rfl rfl (.inl (sx hM.1 (by omega)))) rfl (by decide)))
noncomputable def KS:List Ky:=[.inr (Str.ofString "parent"),.inr (Str.ofString "rank"),.inr (Str.ofString "regs"),.inr (Str.ofString "row"),.inr (Str.ofString "pages"),.inr (Str.ofString "handles"),.inr (Str.ofString "waits"),.inr (Str.ofString "handler"),.inr (Str.ofString "rung"),.inr (Str.ofString "saved")]
noncomputable def df(p:Int)(rg:List D)(rw:Int)(wt hd ru sv:D):List D:=[.int p,.int 1,.lst rg,.int rw,.aA [] [],.aA [] [],wt,hd,ru,sv]
noncomputable def tk(p:Int)(rg:List D)(rw:Int)(wt hd ru sv:D):D:=.aA KS (df p rg rw wt hd ru sv)
noncomputable def SK:List Ky:=[.inr (Str.ofString "tasks"),.inr (Str.ofString "lent"),.inr (Str.ofString "nodes"),.inr (Str.ofString "boxes"),.inr (Str.ofString "clock")]
noncomputable def L8(r:Nat→Int):List D:=[.int (r 0),.int (r 1),.int (r 2),.int (r 3),.int (r 4),.int (r 5),.int (r 6),.int (r 7)]
noncomputable def ot(p:Int):D:=tk p [.int 0,.int 1,.int 2,.int 3,.int 4,.int 5,.int 6,.int 7] 0 .ai (.int 0) (.bl false) .ai
noncomputable def bx(x:Int):D:=.aA [.inl 3,.inl 9] [.tup [.int 2,.lst []],.tup [.int 1,.lst [.int x]]]
noncomputable def st(one:D)(po x:Int):D:=.aA SK [.aA [.inl 6,.inl 2] [one,ot po],.aA [] [],.aA [.inl 0] [.tup [S "folder",.aA [] []]],bx x,.int 4]
noncomputable def Wt(d:D):Prop:=d=.ai∨d=.tup [S "child"]∨d=.tup [S "take",.int 3,.int 3]∨(∃x,d=.tup [S "send",.int 9,.int x,.int 0])∨∃x,d=.tup [S "ended",.int x]
noncomputable def Hd(d:D):Prop:=d=.int 0∨∃n:Nat,d=.int ((n+1:Nat):Int)
noncomputable def Sv(d:D):Prop:=d=.ai∨∃r x,d=.tup [.lst (L8 r),.int x]
theorem fY{p rw po x:Int}{r:Nat→Int}{wt hd sv:D}{b:Bool}(hw:Wt wt)(hh:Hd hd)(hs:Sv sv):nice (st (tk p (L8 r) rw wt hd (.bl b) sv) po x)=true∧cx (st (tk p (L8 r) rw wt hd (.bl b) sv) po x)<9:=by
 refine⟨?_,of_decide_eq_true ?_⟩
 ·rcases hw with rfl|rfl|rfl|⟨_,rfl⟩|⟨_,rfl⟩<;>rcases hh with rfl|⟨_,rfl⟩<;>rcases hs with rfl|⟨_,_,rfl⟩<;>kernel_rfl
 ·rcases hw with rfl|rfl|rfl|⟨_,rfl⟩|⟨_,rfl⟩<;>rcases hh with rfl|⟨_,rfl⟩<;>rcases hs with rfl|⟨_,_,rfl⟩<;>kernel_rfl
theorem mE{d:D}(h:nice d=true∧cx d<9):fU [d]=.ok (deep d):=rX 9 d h.1 h.2
theorem same_self{d:D}(h:nice d=true∧cx d<9):eh [d,d]=.ok (.bl true):=sT 9 d h.1 h.2
theorem v9{h:Int}(h0:0<h):∃n:Nat,h=((n+1:Nat):Int):=⟨h.toNat - 1,by omega⟩
noncomputable def Good(X:R Fl):Prop:=∃(p rw po x:Int) (r:Nat→Int) (wt hd sv:D) (b:Bool),Wt wt∧Hd hd∧Sv sv∧X=.ok (.ret (st (tk p (L8 r) rw wt hd (.bl b) sv) po x))
theorem vH(c:Int){k:Int}(h0:0≤k)(h1:k<1000):∃(p rw po x:Int) (r:Nat→Int) (wt hd sv:D) (b:Bool),Wt wt∧Hd hd∧Sv sv∧jU [.int c,.int k]=.ok (st (tk p (L8 r) rw wt hd (.bl b) sv) po x):=by
 obtain⟨z,hz,ez⟩:=qD c (k:=16*k+1) (by omega) (by omega)
 obtain⟨y,hy,ey⟩:=qD c (k:=16*k+2) (by omega) (by omega)
 let r:Nat→Int:=fun j=>(z / 7+(j:Int)*(j:Int)*65537) % 4294967296
 let r2:Nat→Int:=fun j=>(j:Int)*z % 4294967296
 let pl:List D:=[.aA [] [],.aA [] [],.aA [.inl 0] [.tup [S "folder",.aA [] []]],.aA [] [],.int 0]
 let tk0:List D:=df 0 [.int 0,.int 1,.int 2,.int 3,.int 4,.int 5,.int 6,.int 7] 0 .ai (.int 0) (.bl false) .ai
 rw[jU]
 suffices H:Good _ by
   obtain⟨p,rw',po,x,r',wt,hd,sv,b,a1,a2,a3,a4⟩:=H
   exact⟨p,rw',po,x,r',wt,hd,sv,b,a1,a2,a3,gZ a4⟩
 show Good (aC _ [.sh (.int c),.sh (.int k),.un,.un,.un,.un,.un])
 rw[aO (d4 (cX rfl (jO (ij rfl rfl (.inl (by decide))) rfl) ez))]
 show Good (aC _ [.sh (.int c),.sh (.int k),.sh (.int z),.un,.un,.un,.un])
 rw[aO (ρ':=[.sh (.int c),.sh (.int k),.sh (.int z),.od SK pl,.un,.un,.un]) (by kernel_rfl)]
 rw[aO (ρ':=[.sh (.int c),.sh (.int k),.sh (.int z),.od SK pl,.od KS tk0,.un,.un]) (by kernel_rfl)]
 rw[aO (ρ':=[.sh (.int c),.sh (.int k),.sh (.int z),.od SK pl,.od KS tk0,.od KS tk0,.un]) (by kernel_rfl)]
 rw[aO (mH (d:=.bl (decide (z % 2=1))) (oJ (dO rfl rfl (by decide)) rfl) rfl rfl rfl (by decide) (ks':=KS) (vs':=df 0 [.int 0,.int 1,.int 2,.int 3,.int 4,.int 5,.int 6,.int 7] 0 .ai (.int 0) (.bl (decide (z % 2=1))) .ai) (by kernel_rfl))]
 generalize decide (z % 2=1)=b
 show Good (aC _ [.sh (.int c),.sh (.int k),.sh (.int z),.od SK pl,.od KS (df 0 [.int 0,.int 1,.int 2,.int 3,.int 4,.int 5,.int 6,.int 7] 0 .ai (.int 0) (.bl b) .ai),.od KS tk0,.un])
 obtain⟨hd,hh,ehd⟩:∃hd:D,Hd hd∧(e2 av (dE [eC (.int 0),e2 dS (eC (.int 1)) (e2 oMod (e2 oDiv (aa 2) (eC (.int 64))) (eC (.int 4294967295)))]) (e2 oMod (e2 oDiv (aa 2) (eC (.int 2))) (eC (.int 2)))) [.sh (.int c),.sh (.int k),.sh (.int z),.od SK pl,.od KS (df 0 [.int 0,.int 1,.int 2,.int 3,.int 4,.int 5,.int 6,.int 7] 0 .ai (.int 0) (.bl b) .ai),.od KS tk0,.un]=.ok hd:=by
   have q:(dE [eC (.int 0),e2 dS (eC (.int 1)) (e2 oMod (e2 oDiv (aa 2) (eC (.int 64))) (eC (.int 4294967295)))]) [.sh (.int c),.sh (.int k),.sh (.int z),.od SK pl,.od KS (df 0 [.int 0,.int 1,.int 2,.int 3,.int 4,.int 5,.int 6,.int 7] 0 .ai (.int 0) (.bl b) .ai),.od KS tk0,.un]=.ok (.lst [.int 0,.int (1+z / 64 % 4294967295)]):=by
     have a:(e2 dS (eC (.int 1)) (e2 oMod (e2 oDiv (aa 2) (eC (.int 64))) (eC (.int 4294967295)))) [.sh (.int c),.sh (.int k),.sh (.int z),.od SK pl,.od KS (df 0 [.int 0,.int 1,.int 2,.int 3,.int 4,.int 5,.int 6,.int 7] 0 .ai (.int 0) (.bl b) .ai),.od KS tk0,.un]=.ok (.int (1+z / 64 % 4294967295)):=jO rfl (dO (g6 rfl rfl (by decide)) rfl (by decide))
     simp only[dE,eList,a,R.bg,eC]
   have h2:z / 2 % 2=0∨z / 2 % 2=1:=by omega
   rcases h2 with h|h
   ·exact⟨.int 0,.inl rfl,b0 q (dO (g6 rfl rfl (by decide)) rfl (by decide)) (by rw[h];rfl)⟩
   · obtain⟨n,hn⟩:=v9 (h:=1+z / 64 % 4294967295) (by have:=Int.emod_nonneg (z / 64) (show(4294967295:Int)≠0 by decide);omega)
     exact⟨.int ((n+1:Nat):Int),.inr ⟨n,rfl⟩,b0 q (dO (g6 rfl rfl (by decide)) rfl (by decide)) (by rw[h,hn];rfl)⟩
 rw[aO (mH ehd rfl rfl rfl (by decide) (ks':=KS) (vs':=df 0 [.int 0,.int 1,.int 2,.int 3,.int 4,.int 5,.int 6,.int 7] 0 .ai hd (.bl b) .ai) (by kernel_rfl))]
 show Good (aC _ [.sh (.int c),.sh (.int k),.sh (.int z),.od SK pl,.od KS (df 0 [.int 0,.int 1,.int 2,.int 3,.int 4,.int 5,.int 6,.int 7] 0 .ai hd (.bl b) .ai),.od KS tk0,.un])
 rw[aO (ρ':=[.sh (.int c),.sh (.int k),.sh (.int z),.od SK pl,.od KS (df 0 (L8 r) 0 .ai hd (.bl b) .ai),.od KS tk0,.un]) (by kernel_rfl)]
 rw[aO (mH (d:=.int (y % 4294967296)) (dO (cX rfl (jO (ij rfl rfl (.inl (by decide))) rfl) ey) rfl (by decide)) rfl rfl rfl (by decide) (ks':=KS) (vs':=df 0 (L8 r) (y % 4294967296) .ai hd (.bl b) .ai) (by kernel_rfl))]
 generalize y % 4294967296=rw'
 show Good (aC _ [.sh (.int c),.sh (.int k),.sh (.int z),.od SK pl,.od KS (df 0 (L8 r) rw' .ai hd (.bl b) .ai),.od KS tk0,.un])
 obtain⟨sv,hs,esv⟩:∃sv:D,Sv sv∧aQ (tV (e2 oEq (e2 oMod (e2 oDiv (aa 2) (eC (.int 4))) (eC (.int 3))) (eC (.int 1)))) (bC 4 (eC (S "saved")) (dF [cn (eT (eC (.int 8))) 1 [2] (aM 0) [] (e2 oMod (e2 du (aa 0) (aa 1)) (eC (.int 4294967296))),e2 oMod (e2 oDiv (aa 2) (eC (.int 5))) (eC (.int 4294967296))])) (aS) [.sh (.int c),.sh (.int k),.sh (.int z),.od SK pl,.od KS (df 0 (L8 r) rw' .ai hd (.bl b) .ai),.od KS tk0,.un]=.ok (.next [.sh (.int c),.sh (.int k),.sh (.int z),.od SK pl,.od KS (df 0 (L8 r) rw' .ai hd (.bl b) sv),.od KS tk0,.un]):=by
   by_cases h:z / 4 % 3=1
   · refine⟨.tup [.lst (L8 r2),.int (z / 5 % 4294967296)],.inr ⟨_,_,rfl⟩,?_⟩
     rw[eE (b4 (b:=true) (by rw[oJ (dO (g6 rfl rfl (by decide)) rfl (by decide)) rfl,decide_eq_true h]))]
     kernel_rfl
   ·exact⟨.ai,.inl rfl,cj (b4 (by rw[oJ (dO (g6 rfl rfl (by decide)) rfl (by decide)) rfl,decide_eq_false h]))⟩
 rw[aO esv]
 have hw:z / 12 % 5=0∨z / 12 % 5=1∨z / 12 % 5=2∨z / 12 % 5=3∨z / 12 % 5=4:=by omega
 rw[aO (d4 (dO (g6 rfl rfl (by decide)) rfl (by decide)))]
 rcases hw with h|h|h|h|h<;>rw[h]
 ·exact⟨0,rw',0,z % 1000,r,.ai,hd,sv,b,.inl rfl,hh,hs,by kernel_rfl⟩
 ·exact⟨0,rw',6,z % 1000,r,.tup [S "child"],hd,sv,b,.inr (.inl rfl),hh,hs,by kernel_rfl⟩
 ·exact⟨0,rw',0,z % 1000,r,.tup [S "take",.int 3,.int 3],hd,sv,b,.inr (.inr (.inl rfl)),hh,hs,by kernel_rfl⟩
 ·exact⟨0,rw',0,z % 1000,r,.tup [S "send",.int 9,.int (z % 4294967296),.int 0],hd,sv,b,.inr (.inr (.inr (.inl ⟨_,rfl⟩))),hh,hs,by kernel_rfl⟩
 ·exact⟨2,rw',0,z % 1000,r,.tup [S "ended",.int (z / 3 % 4294967296)],hd,.ai,false,.inr (.inr (.inr (.inr ⟨_,rfl⟩))),hh,.inl rfl,by kernel_rfl⟩
end eO
end PL
namespace PL
open PySem PySem.Spec
open L2 (V Hp HO Cx PE PT PW PA PS bz PG cu VK TE TT TA TS TI TG Inv RelV Vals Rd aT aX upd ah Key XK Ends aN dY aZ R2 EP It Turn bY)
structure XE(X:Cx)(e:Expr)(f:Ex):Prop where
 out:JE X e f
structure XF(X:Cx)(e:Expr)(f:Ex):Prop where
 out:JF X e f
structure XT(X:Cx)(e:Expr)(f:aF):Prop where
 out:JT X e f
structure XW(X:Cx)(e:Expr)(f:aF):Prop where
 out:JW X e f
structure XA(X:Cx)(e:List Expr)(f:En→R (List D)):Prop where
 out:JA X e f
structure XS(X:Cx)(e:Stmt)(f:Sm):Prop where
 out:JS X e f
structure dI(X:Cx)(e:List Stmt)(f:Sm):Prop where
 out:cm X e f
structure XG(X:Cx)(e:Expr)(f:bf):Prop where
 out:JG X e f
structure kQ(X:Cx)(e:List Expr)(f:List D→En→R En):Prop where
 out:jy X e f
structure nE(X:Cx)(e:List Expr)(f:List aF):Prop where
 out:i5 X e f
structure XP(X:Cx)(pos:Pos)(keys:List (Option Expr))(values:List Expr)(ks:List Ky)(fs:List Ex):Prop where
 out:JP X pos keys values ks fs
structure XI(X:Cx)(tg e:Expr)(f:bc):Prop where
 out:JI X tg e f
structure XD(X:Cx)(e:Expr)(f:Ex):Prop where
 out:JD X e f
structure XX(X:Cx)(e:Expr)(f:Xt):Prop where
 out:JX X e f
structure lE(X:Cx)(e:List Expr)(f:En→R (List T)):Prop where
 out:jE X e f
structure XL(X:Cx)(i:Nat)(e:Expr)(f:Pt):Prop where
 out:JL X i e f
structure kz(X:Cx)(pos:Pos)(keys:List (Option Expr))(values:List Expr)(kfs:List (Ex×Xt)):Prop where
 out:jV X pos keys values kfs
theorem ae{X:L2.Cx}{pos:Pos}(i:Nat){x:Str}(hN:X.N[i]? =some x:=by rfl)(hv:L2.cg X.env.scope x:=by first|exact Or.inl rfl|exact Or.inr (Or.inl rfl)|exact Or.inr (Or.inr rfl))(hd:(x==("__debug__":Str))=false:=by decide)(hcd:(x==("__classdict__":Str))=false:=by decide):XE X (.Name x pos) (aa i):=⟨Be i hN hv hd hcd⟩
theorem aq{X:L2.Cx}{pos:Pos}{i:Int}{j:Nat}:XE X (.Constant (.int i) j pos) (eC (.int i)):=⟨vb ⟩
theorem de{X:L2.Cx}{pos:Pos}{b:Bool}{j:Nat}:XE X (.Constant (.bool b) j pos) (eC (.bl b)):=⟨zm ⟩
theorem j3{X:L2.Cx}{pos:Pos}{j:Nat}:XE X (.Constant .none j pos) (eC .ai):=⟨zL ⟩
theorem aw{X:L2.Cx}{pos:Pos}{x:Str}{j:Nat}:XE X (.Constant (.str x) j pos) (eC (.str x)):=⟨wo ⟩
theorem aP{X:L2.Cx}{pos:Pos}{op:Operator}{g:D→D→R D}{r:R2}{a b:Expr}{fa fb:Ex}(ho:aN X (binaryOp op) r)(hg:b7 (ar X) g r)(ha:XE X a fa)(hb:XE X b fb):XE X (.BinOp a op b pos) (e2 g fa fb):=⟨wB ho hg ha.out hb.out⟩
theorem fB{X:L2.Cx}{pos:Pos}{op:CmpOp}{g:D→D→R D}{r:R2}{a b:Expr}{fa fb:Ex}(ho:aN X (compareOp op) r)(hg:b7 (ar X) g r)(ha:XE X a fa)(hb:XE X b fb)(hm:behindInMarks op b=false:=by first|exact L2.qQ _|rfl):XE X (.Compare a [op] [b] pos) (e2 g fa fb):=⟨xi ho hg ha.out hb.out hm⟩
theorem q9{X:L2.Cx}{pos:Pos}{j:Nat}{p2:Pos}{a:Expr}{fa:Ex}(ha:XE X a fa):XE X (.Compare a [.Is] [.Constant .none j p2] pos) (e1 cM fa):=⟨uS ha.out⟩
theorem qb{X:L2.Cx}{pos:Pos}{j:Nat}{p2:Pos}{a:Expr}{fa:Ex}(ha:XE X a fa):XE X (.Compare a [.IsNot] [.Constant .none j p2] pos) (e1 cV fa):=⟨Bo ha.out⟩
theorem gc{X:L2.Cx}{pos:Pos}{op:BoolOp}{a:Expr}{fa:Ex}(h:XE X a fa):XE X (.BoolOp op [a] pos) fa:=⟨xm h.out⟩
theorem fq{X:L2.Cx}{pos:Pos}{a b:Expr}{rest:List Expr}{fa fb:Ex}(ha:XE X a fa)(hb:XE X (.BoolOp .And (b::rest) pos) fb):XE X (.BoolOp .And (a::b::rest) pos) (b6 fa fb):=⟨AY ha.out hb.out⟩
theorem cD{X:L2.Cx}{a:Expr}{fa:Ex}(ha:XE X a fa)(he:∀whole,isTrue a X.env whole=(do let v ←whole;standAt a.pos;holding [v] (truthy v)):=by exact wV (by rfl)):XT X a (tV fa):=⟨A5 ha.out he⟩
theorem dv{X:L2.Cx}{pos:Pos}{op:CmpOp}{g:D→D→R D}{r:R2}{a b:Expr}{fa fb:Ex}(ho:aN X (compareOp op) r)(hg:b7 (ar X) g r)(hB:ix g)(ha:XE X a fa)(hb:XE X b fb)(hm:behindInMarks op b=false:=by exact L2.qQ _):XT X (.Compare a [op] [b] pos) (tV (e2 g fa fb)):=⟨xo ho hg hB ha.out hb.out hm⟩
theorem lI{X:L2.Cx}{pos:Pos}{j:Nat}{p2:Pos}{a:Expr}{fa:Ex}(ha:XE X a fa):XT X (.Compare a [.Is] [.Constant .none j p2] pos) (tV (e1 cM fa)):=⟨yC ha.out⟩
theorem kL{X:L2.Cx}{pos:Pos}{j:Nat}{p2:Pos}{a:Expr}{fa:Ex}(ha:XE X a fa):XT X (.Compare a [.IsNot] [.Constant .none j p2] pos) (tV (e1 cV fa)):=⟨Ai ha.out⟩
theorem eF{X:L2.Cx}{pos:Pos}{a:Expr}{c:aF}(ha:XT X a c):XT X (.UnaryOp .Not a pos) (bP c):=⟨xn ha.out⟩
theorem nc{X:L2.Cx}{pos:Pos}{a:Expr}{c:aF}(ha:XT X a c):XW X (.BoolOp .And [a] pos) c:=⟨AO ha.out⟩
theorem iU{X:L2.Cx}{pos:Pos}{a:Expr}{c:aF}(ha:XT X a c):XW X (.BoolOp .Or [a] pos) c:=⟨xQ ha.out⟩
theorem gY{X:L2.Cx}{pos:Pos}{a b:Expr}{rest:List Expr}{c c':aF}(ha:XT X a c)(hb:XW X (.BoolOp .And (b::rest) pos) c'):XW X (.BoolOp .And (a::b::rest) pos) (b8 c c'):=⟨Af ha.out hb.out⟩
theorem gH{X:L2.Cx}{pos:Pos}{a b:Expr}{rest:List Expr}{c c':aF}(ha:XT X a c)(hb:XW X (.BoolOp .Or (b::rest) pos) c'):XW X (.BoolOp .Or (a::b::rest) pos) (cv c c'):=⟨z5 ha.out hb.out⟩
theorem fF{X:L2.Cx}{e:Expr}{c:aF}(h:XW X e c):XT X e c:=⟨uh h.out⟩
theorem qH{X:L2.Cx}{pos:Pos}{a:Expr}{fa:Ex}(ha:XE X a fa):XE X (.UnaryOp .Not a pos) (e1 ir fa):=⟨yi ha.out⟩
theorem aH{X:L2.Cx}:XA X [] (eList []):=⟨fh ⟩
theorem ao{X:L2.Cx}{e:Expr}{es:List Expr}{f:Ex}{fs:List Ex}(ha:XE X e f)(hr:XA X es (eList fs))(hs:starEach (e::es) X.env=(false,eval e X.env)::starEach es X.env:=by exact bo (by rfl)):XA X (e::es) (eList (f::fs)):=⟨d7 ha.out hr.out hs⟩
theorem fg{X:L2.Cx}{pos:Pos}{es:List Expr}{fs:List Ex}{k:Nat}(h:XA X es (eList fs))(hl:fs.length≤1000:=by decide):XE X (.Tuple es k pos) (dF fs):=⟨Bf h.out hl⟩
theorem iF{X:L2.Cx}{pos:Pos}{es:List Expr}{fs:List Ex}(h:XA X es (eList fs))(hl:fs.length≤1000:=by decide):XE X (.List es pos) (dE fs):=⟨yJ h.out hl⟩
theorem iu{X:L2.Cx}{pos:Pos}:XE X (.Dict [] [] pos) (b9 [] []):=⟨zZ ⟩
theorem gU{X:L2.Cx}{pos:Pos}{g:D→R D}{r:List V→Hp→VK→Prop}{x:Str}{id:String}{a:Expr}{fa:Ex}{p:Pos}(hc:aZ X (.builtin id) r)(hg:dJ (ar X) (g1 g) r)(hm:X.mg x=none)(hv:bootBuiltins x=some (.builtin id))(ha:XE X a fa)(hgl:L2.Gl X x:=by rfl)(hs:starEach [a] X.env=(false,eval a X.env)::starEach [] X.env:=by exact bo (by rfl))(hn:x≠"__name__":=by decide)(hdb:(x==("__debug__":Str))=false:=by decide):XE X (.Call (.Name x p) [a] [] pos) (e1 g fa):=⟨yF hc hg hgl hm hv ha.out hs hn hdb⟩
theorem yd{X:L2.Cx}{pos:Pos}{g:D→D→R D}{r:List V→Hp→VK→Prop}{x:Str}{id:String}{a b:Expr}{fa fb:Ex}{p:Pos}(hc:aZ X (.builtin id) r)(hg:dJ (ar X) (g2 g) r)(hm:X.mg x=none)(hv:bootBuiltins x=some (.builtin id))(ha:XE X a fa)(hb:XE X b fb)(hgl:L2.Gl X x:=by rfl)(hs:starEach [a,b] X.env=(false,eval a X.env)::starEach [b] X.env:=by exact bo (by rfl))(hs2:starEach [b] X.env=(false,eval b X.env)::starEach [] X.env:=by exact bo (by rfl))(hn:x≠"__name__":=by decide)(hdb:(x==("__debug__":Str))=false:=by decide):XE X (.Call (.Name x p) [a,b] [] pos) (e2 g fa fb):=⟨vk hc hg hgl hm hv ha.out hb.out hs hs2 hn hdb⟩
theorem tY{X:L2.Cx}{pos:Pos}{g:D→R D}{r:List V→Hp→VK→Prop}{x:Str}{T:String}{a:Expr}{fa:Ex}{p:Pos}(hc:aZ X (.type T) r)(hg:dJ (ar X) (g1 g) r)(hm:X.mg x=none)(hv:bootBuiltins x=some (.type T))(ha:XE X a fa)(hgl:L2.Gl X x:=by rfl)(hs:starEach [a] X.env=(false,eval a X.env)::starEach [] X.env:=by exact bo (by rfl))(hn:x≠"__name__":=by decide)(hdb:(x==("__debug__":Str))=false:=by decide):XE X (.Call (.Name x p) [a] [] pos) (e1 g fa):=⟨wJ hc hg hgl hm hv ha.out hs hn hdb⟩
theorem dk{X:L2.Cx}{pos:Pos}(ty:Ty){a:Expr}{fa:Ex}{p p2:Pos}{T:Str}(ha:XE X a fa)(hm:X.mg "isinstance"=none)(hmT:X.mg T=none)(hvT:bootBuiltins T=some (.type (jj ty)))(hg:L2.Gl X "isinstance":=by rfl)(hgT:L2.Gl X T:=by rfl)(hs:starEach [a,.Name T p2] X.env=(false,eval a X.env)::starEach [.Name T p2] X.env:=by exact bo (by rfl))(hs2:starEach [.Name T p2] X.env=(false,eval (.Name T p2) X.env)::starEach [] X.env:=by exact bo (by rfl))(hnT:T≠"__name__":=by decide)(hdT:(T==("__debug__":Str))=false:=by decide):XE X (.Call (.Name "isinstance" p) [a,.Name T p2] [] pos) (e1 (aU ty) fa):=⟨uP ty ha.out hg hm hgT hmT hvT hs hs2 hnT hdT⟩
theorem bL{X:L2.Cx}:dI X [] (aC []):=⟨pC ⟩
theorem bK{X:L2.Cx}:dI X [] aS:=⟨ur ⟩
theorem au{X:L2.Cx}{st:Stmt}{rest:List Stmt}{f:Sm}{fs:List Sm}(h1:XS X st f)(h2:dI X rest (aC fs)):dI X (st::rest) (aC (f::fs)):=⟨Ak h1.out h2.out⟩
theorem bQ{X:L2.Cx}{st:Stmt}{f:Sm}(h:XS X st f):dI X [st] f:=⟨vO h.out⟩
theorem bJ{X:L2.Cx}{pos:Pos}{c:Expr}{a b:List Stmt}{fc:aF}{fa fb:Sm}(hc:XT X c fc)(ha:dI X a fa)(hb:dI X b fb):XS X (.If c a b pos) (aQ fc fa fb):=⟨BG hc.out ha.out hb.out⟩
theorem bt{X:L2.Cx}{pos:Pos}{a:Expr}{fa:Ex}(ha:XE X a fa):XS X (.Return (some a) pos) (aR fa):=⟨uE ha.out⟩
theorem bD{X:L2.Cx}{pos:Pos}(i:Nat){x:Str}(hN:X.N.Nodup)(hi:X.N[i]? =some x:=by rfl)(hx:L2.Loc X.env.scope x:=by first|exact Or.inl rfl|exact Or.inr rfl)(hf:X.fn x=true∨X.env.scope.names.lookup x=some .local:=by first|exact .inl rfl|exact .inr rfl):XG X (.Name x pos) (aM i):=⟨zj i hN hi hx hf⟩
theorem ui{X:L2.Cx}:kQ X [] (cG []):=⟨uX ⟩
theorem o4{X:L2.Cx}(i:Nat){is:List Nat}{e:Expr}{es:List Expr}(h1:XG X e (aM i))(h2:kQ X es (cG is))(hs:(assignEach (e::es) X.env).map (·.2)=assign e X.env::(assignEach es X.env).map (·.2):=by exact kD (by rfl)):kQ X (e::es) (cG (i::is)):=⟨zG i h1.out h2.out hs⟩
theorem vp{X:L2.Cx}{pos:Pos}{is:List Nat}{es:List Expr}{k:Nat}(h:kQ X es (cG is))(hn:(assignEach es X.env).length=is.length)(hc:X.calm=true:=by rfl)(hst:(assignEach es X.env).findIdx? (·.1)=none:=by exact qj (by rfl)):XG X (.Tuple es k pos) (eP is):=⟨zM hc h.out hn hst⟩
theorem cH{X:L2.Cx}{pos:Pos}{tg e:Expr}{fa:Ex}{g:bf}(ha:XE X e fa)(hg:XG X tg g)(hs:swapsWithSole [tg] e pos.line X.env=pure false:=by exact mK (by rfl))(hw:swappedStores [tg] e X.env=pure none:=by exact uB (by rfl))(h1:(assignEach [tg] X.env).map (·.2)=[assign tg X.env]:=by exact kD (by rfl)):XS X (.Assign [tg] e pos) (bZ g fa):=⟨Ah ha.out hg.out hs hw h1⟩
theorem oU{X:L2.Cx}{pos:Pos}{tg iter:Expr}{body:List Stmt}{it:bc}{g:bf}{f:Sm}(hi:XI X tg iter it)(hg:XG X tg g)(hb:dI X body f)(hp:PassesOwn (model X.prog X.w) X.A X.env X.xe:=by exact PassesOwn.never)(hc:X.calm=true:=by exact rfl)(hs:∀x,foldedSetIterable iter X.env x=pure x:=by exact oq (by rfl)):XS X (.For tg iter body [] pos) (jG it g f):=⟨xB hp hc hi.out hg.out hb.out hs⟩
theorem lH{X:L2.Cx}{pos:Pos}{tg a:Expr}{fa:Ex}{p:Pos}(hm:X.mg "range"=none)(ha:XE X a fa)(hg:L2.Gl X "range":=by rfl)(hs:starEach [a] X.env=(false,eval a X.env)::starEach [] X.env:=by exact bo (by rfl)):XI X tg (.Call (.Name "range" p) [a] [] pos) (eT fa):=⟨A3 hg hm ha.out hs⟩
theorem iA{X:L2.Cx}(i:Nat){rest:List Stmt}{fs:List Sm}(h:dI X rest (aC fs)):dI X rest (aC (fM i::fs)):=⟨uy i h.out⟩
theorem Ab{X:L2.Cx}{pos:Pos}(i:Nat){x:Str}{e:Expr}{f:Ex}{p2:Pos}(hN:X.N.Nodup)(he:XF X e f)(hi:X.N[i]? =some x:=by rfl)(hx:L2.Loc X.env.scope x:=by exact Or.inl rfl)(hf:X.fn x=true∨X.env.scope.names.lookup x=some .local:=by exact .inl rfl)(hs:swapsWith e (some (.Name x p2)) pos.line X.env=pure false:=by exact br (by rfl)):XS X (.Assign [.Name x p2] e pos) (oE i f):=⟨uH i hN he.out hi hx hf hs⟩
theorem bw{X:L2.Cx}{pos:Pos}{x:Str}{k j n:Nat}{m:List D→R D}{e:Expr}{es:List Expr}{fs:List Ex}{p:Pos}(d:Df X.prog X.w X.K X.mg X.base x k n m)(hr:L2.bb j X.A)(ha:XA X (e::es) (eList fs))(hk:k≤j)(hg:L2.Gl X x:=by rfl)(hn:fs.length=n:=by rfl)(hdb:(x==("__debug__":Str))=false:=by decide)(he:starEach (e::es) X.env=(false,eval e X.env)::starEach es X.env:=by exact bo (by rfl))(hpl:(backTo pos (starEach es X.env)).any (·.1)=false:=by exact kO (by rfl)):XE X (.Call (.Name x p) (e::es) [] pos) (aJ m fs):=⟨A0 d hr hg ha.out hk hn hdb he hpl⟩
theorem pQ{X:L2.Cx}{tg l:Expr}{fa:Ex}(ha:XE X l fa):XI X tg l (iB fa):=⟨u0 ha.out⟩
theorem t7{X:Cx}{pos:Pos}{x:Str}{d:D}(g:jq X.prog X.w X.K X.mg x d)(hg:L2.Gl X x:=by rfl)(hd:(x==("__debug__":Str))=false:=by decide):XE X (.Name x pos) (eC d):=⟨xu g hg hd⟩
theorem fm{X:Cx}{e:Expr}{f:Ex}(h:XE X e f):XX X e (xD f):=⟨sG h.out⟩
theorem aL{X:L2.Cx}{pos:Pos}{a b:Expr}{fa fb:Ex}(ha:XE X a fa)(hb:XE X b fb)(hs:L2.gf b:=by exact mL (by rfl)):XE X (.Subscript a b pos) (e2 av fa fb):=⟨w6 ha.out hb.out hs⟩
theorem zz{X:L2.Cx}{pos:Pos}{elts:List Expr}{k:Nat}{tp:Pos}{a b:Expr}{fa fb:Ex}{p:Pos}(hm:X.mg "zip"=none)(ha:XE X a fa)(hb:XE X b fb)(hg:L2.Gl X "zip":=by rfl)(hs:starEach [a,b] X.env=(false,eval a X.env)::starEach [b] X.env:=by exact bo (by rfl))(hs2:starEach [b] X.env=(false,eval b X.env)::starEach [] X.env:=by exact bo (by rfl)):XI X (.Tuple elts k tp) (.Call (.Name "zip" p) [a,b] [] pos) (jL fa fb):=⟨y3 hg hm ha.out hb.out hs hs2⟩
theorem gk{X:L2.Cx}{pos:Pos}:XP X pos [] [] [] []:=⟨u7 ⟩
theorem dD{X:L2.Cx}{pos:Pos}{k v:Expr}{z:Str}{f:Ex}{keys:List (Option Expr)}{values:List Expr}{ks:List Ky}{fs:List Ex}(hk:XE X k (eC (.str z)))(hv:XE X v f)(hr:XP X pos keys values ks fs):XP X pos (some k::keys) (v::values) (.inr z::ks) (f::fs):=⟨xt hk.out hv.out hr.out⟩
theorem gQ{X:L2.Cx}{pos:Pos}{keys:List (Option Expr)}{values:List Expr}{ks:List Ky}{fs:List Ex}(h:XP X pos keys values ks fs)(hall:keys.all (·.isSome)=true:=by rfl)(hl:keys.length=values.length:=by rfl)(h0:keys≠[]:=by simp)(h15:keys.length≤15:=by decide)(hk:ks.length=fs.length:=by rfl)(hk15:ks.length≤15:=by decide)(hn:ks.Nodup:=by decide+kernel):XE X (.Dict keys values pos) (b9 ks fs):=⟨yf h.out hall hl h0 h15 hk hk15 hn⟩
theorem qB{X:L2.Cx}{pos:Pos}(i:Nat){x:Str}{e k:Expr}{f g:Ex}{p2 p3:Pos}(he:XE X e f)(hk:XE X k g)(ha:gB X.env (.Name x p2) k p3)(hN:X.N[i]? =some x:=by rfl)(hv:L2.cg X.env.scope x:=by exact Or.inl rfl)(hd:(x==("__debug__":Str))=false:=by decide)(hcd:(x==("__classdict__":Str))=false:=by decide)(hs:swapsWithSole [.Subscript (.Name x p2) k p3] e pos.line X.env=pure false:=by exact mK (by rfl))(hw:swappedStores [.Subscript (.Name x p2) k p3] e X.env=pure none:=by exact rP (by rfl))(h1:(assignEach [.Subscript (.Name x p2) k p3] X.env).map (·.2)=[assign (.Subscript (.Name x p2) k p3) X.env]:=by exact kD (by rfl)):XS X (.Assign [.Subscript (.Name x p2) k p3] e pos) (kH i g f):=⟨zC i he.out hk.out hN hv hd hcd ha hs hw h1⟩
theorem rL{X:L2.Cx}{pos:Pos}{a:Expr}{fa:Ex}{p:Pos}(hm:X.mg "list"=none)(ha:XE X a fa)(hgl:L2.Gl X "list":=by rfl)(hs:starEach [a] X.env=(false,eval a X.env)::starEach [] X.env:=by exact bo (by rfl)):XF X (.Call (.Name "list" p) [a] [] pos) (e1 iz fa):=⟨Bv hgl hm ha.out hs⟩
theorem pM{X:L2.Cx}{tg l:Expr}{fa:Ex}(ha:XE X l fa):XI X tg l (gp fa):=⟨Am ha.out⟩
theorem bV{X:L2.Cx}{pos:Pos}(i:Nat){x:Str}{e k:Expr}{f g:Ex}{p2 p3:Pos}(hu:X.A.units+64<cLine)(hk:XE X k g)(he:XE X e f)(hs:swapsWith e (some (.Subscript (.Name x p2) k p3)) pos.line X.env=pure false)(hN:X.N[i]? =some x:=by rfl)(hv:L2.cg X.env.scope x:=by exact Or.inl rfl)(hd:(x==("__debug__":Str))=false:=by decide)(hcd:(x==("__classdict__":Str))=false:=by decide):XS X (.Assign [.Subscript (.Name x p2) k p3] e pos) (bC i g f):=⟨Av i hu hk.out he.out hN hv hd hcd hs⟩
theorem ml{X:L2.Cx}{pos:Pos}(i:Nat){x:Str}{e:Expr}{f:Ex}{p2:Pos}(hN:X.N.Nodup)(he:XD X e f)(hi:X.N[i]? =some x:=by rfl)(hx:L2.Loc X.env.scope x:=by exact Or.inl rfl)(hf:X.fn x=true∨X.env.scope.names.lookup x=some .local:=by exact .inl rfl)(hs:swapsWith e (some (.Name x p2)) pos.line X.env=pure false:=by exact br (by rfl)):XS X (.Assign [.Name x p2] e pos) (jD i f):=⟨yS i hN he.out hi hx hf hs⟩
theorem m8{X:L2.Cx}{e:Expr}{f:Ex}(he:XD X e f)(hl:∀ρ d,f ρ=.ok d→∃ks ds,d=.aA ks ds):XE X e f:=⟨zW he.out hl⟩
theorem vc{X:L2.Cx}{e:Expr}{f:Ex}(h:XF X e f):XX X e (xF f):=⟨yj h.out⟩
theorem qM{X:L2.Cx}:lE X [] (cW []):=⟨vS ⟩
theorem km{X:L2.Cx}{e:Expr}{es:List Expr}{f:Xt}{fs:List Xt}(h1:XX X e f)(h2:lE X es (cW fs))(hs:starEach (e::es) X.env=(false,eval e X.env)::starEach es X.env:=by exact bo (by rfl)):lE X (e::es) (cW (f::fs)):=⟨zb h1.out h2.out hs⟩
theorem tf{X:L2.Cx}{pos:Pos}(i:Nat){x:Str}{e:Expr}{f:Xt}{p2:Pos}(hN:X.N.Nodup)(he:XX X e f)(hi:X.N[i]? =some x:=by rfl)(hx:L2.Loc X.env.scope x:=by exact Or.inl rfl)(hf:X.fn x=true∨X.env.scope.names.lookup x=some .local:=by exact .inl rfl)(hs:swapsWith e (some (.Name x p2)) pos.line X.env=pure false:=by exact br (by rfl)):XS X (.Assign [.Name x p2] e pos) (hV i f):=⟨zd i hN he.out hi hx hf hs⟩
theorem rH{X:L2.Cx}{pos:Pos}(i:Nat){x:Str}(hN:X.N[i]? =some x:=by rfl)(hv:L2.cg X.env.scope x:=by exact Or.inl rfl)(hd:(x==("__debug__":Str))=false:=by decide)(hcd:(x==("__classdict__":Str))=false:=by decide):XL X i (.Name x pos) pN:=⟨wj i hN hv hd hcd⟩
theorem qz{X:L2.Cx}{pos:Pos}(j:Nat)(i:Nat){x:Str}{e:Expr}{f:Pt}{p2:Pos}(hN:X.N.Nodup)(he:XL X i e f)(hi:X.N[j]? =some x:=by rfl)(hx:L2.Loc X.env.scope x:=by exact Or.inl rfl)(hf:X.fn x=true∨X.env.scope.names.lookup x=some .local:=by exact .inl rfl)(hs:swapsWith e (some (.Name x p2)) pos.line X.env=pure false:=by exact br (by rfl)):XS X (.Assign [.Name x p2] e pos) (lB j i f):=⟨tJ j i hN he.out hi hx hf hs⟩
theorem rQ{X:L2.Cx}(i:Nat){rest:List Stmt}{fs:List Sm}(h:dI X rest (aC fs)):dI X rest (aC (gW i::fs)):=⟨vL i h.out⟩
theorem jr{X:L2.Cx}{pos:Pos}{a:Expr}{f:Xt}(ha:XX X a f):XS X (.Return (some a) pos) (dm f):=⟨vR ha.out⟩
theorem gj{X:L2.Cx}{pos:Pos}{x:Str}{k j n:Nat}{m:List D→R T}{e:Expr}{es:List Expr}{fs:List Ex}{p:Pos}(d:bR X.prog X.w X.K X.mg X.base x k n m)(hr:L2.bb j X.A)(ha:XA X (e::es) (eList fs))(hk:k≤j)(hg:L2.Gl X x:=by rfl)(hn:fs.length=n:=by rfl)(hdb:(x==("__debug__":Str))=false:=by decide)(he:starEach (e::es) X.env=(false,eval e X.env)::starEach es X.env:=by exact bo (by rfl))(hpl:(backTo pos (starEach es X.env)).any (·.1)=false:=by exact kO (by rfl)):XX X (.Call (.Name x p) (e::es) [] pos) (bO m fs):=⟨A6 d hr hg ha.out hk hn hdb he hpl⟩
theorem AI{X:L2.Cx}{pos:Pos}{x:Str}{k j:Nat}{m:List D→R T}{p:Pos}(d:bR X.prog X.w X.K X.mg X.base x k 0 m)(hr:L2.bb j X.A)(hg:L2.Gl X x:=by rfl)(hk:k≤j:=by decide)(hdb:(x==("__debug__":Str))=false:=by decide):XX X (.Call (.Name x p) [] [] pos) (bO m []):=⟨uQ d hr hg hk hdb⟩
theorem mN{X:L2.Cx}{e:Expr}{f:Xt}(h:XX X e f):XE X e (eX f):=⟨wk h.out⟩
theorem sV{X:L2.Cx}{pos:Pos}{es:List Expr}{fs:List Xt}{k1}(h:lE X es (cW fs))(hl:fs.length≤1000):XX X (.Tuple es k1 pos) (xT fs):=⟨BH h.out hl⟩
theorem sQ{X:L2.Cx}(i:Nat){e:Expr}{f:Ex}(h:XE X e f):XE X e (gT i f):=⟨wX i h.out⟩
theorem sO{X:L2.Cx}(i:Nat){e:Expr}{f:aF}(h:XT X e f):XT X e (gJ i f):=⟨yG i h.out⟩
theorem yB{X:L2.Cx}(i:Nat){e:Expr}{f:Ex}(h:XF X e f):XF X e (jz i f):=⟨ya i h.out⟩
theorem iX{X:L2.Cx}{pos:Pos}(i:Nat)(j:Nat){x:Str}(hN:X.N[j]? =some x:=by rfl)(hv:L2.cg X.env.scope x:=by exact Or.inl rfl)(hd:(x==("__debug__":Str))=false:=by decide)(hcd:(x==("__classdict__":Str))=false:=by decide):XL X i (.Name x pos) (pA i j):=⟨tN i j hN hv hd hcd⟩
theorem js{X:L2.Cx}{pos:Pos}{i:Nat}{a b:Expr}{f:Pt}{fb:Ex}(ha:XL X i a f)(hb:XE X b fb)(hs:L2.gf b:=by exact mL (by rfl)):XL X i (.Subscript a b pos) (pX i f fb):=⟨xS ha.out hb.out hs⟩
theorem jJ{X:L2.Cx}{pos:Pos}(i:Nat){o e k:Expr}{f:Pt}{g h:Ex}{p3:Pos}(hu:X.A.units+64<cLine)(ho:XL X i o f)(hk:XE X k g)(he:XE X e h)(hs:swapsWith e (some (.Subscript o k p3)) pos.line X.env=pure false:=by exact br (by rfl)):XS X (.Assign [.Subscript o k p3] e pos) (eA i f g h):=⟨Bl i hu ho.out hk.out he.out hs⟩
theorem vQ{X:L2.Cx}{pos:Pos}(i:Nat){o e k:Expr}{f:Pt}{g h:Ex}{p3:Pos}(ho:XL X i o f)(he:XE X e h)(hk:XE X k g)(ha:gB X.env o k p3)(hs:swapsWithSole [.Subscript o k p3] e pos.line X.env=pure false:=by exact mK (by rfl))(hw:swappedStores [.Subscript o k p3] e X.env=pure none:=by exact rP (by rfl))(h1:(assignEach [.Subscript o k p3] X.env).map (·.2)=[assign (.Subscript o k p3) X.env]:=by exact kD (by rfl)):XS X (.Assign [.Subscript o k p3] e pos) (ll i f g h):=⟨uc i ho.out he.out hk.out ha hs hw h1⟩
theorem jM{X:L2.Cx}{pos:Pos}{a:Expr}{fa:Ex}{p:Pos}(hm:X.mg "dict"=none)(ha:XE X a fa)(hg:L2.Gl X "dict":=by rfl)(hs:starEach [a] X.env=(false,eval a X.env)::starEach [] X.env:=by exact bo (by rfl)):XD X (.Call (.Name "dict" p) [a] [] pos) (e1 eY fa):=⟨Aj hg hm ha.out hs⟩
theorem zK{X:L2.Cx}{pos:Pos}(i:Nat){x:Str}{e:Expr}{f:Ex}{p2 apos cpos:Pos}(he:XE X e f)(hN:X.N[i]? =some x:=by rfl)(hv:L2.cg X.env.scope x:=by exact Or.inl rfl)(hd:(x==("__debug__":Str))=false:=by decide)(hcd:(x==("__classdict__":Str))=false:=by decide)(hbase:attributeBase (.Name x p2) "update" X.env (eval (.Name x p2) X.env)=eval (.Name x p2) X.env:=by exact vG)(hfew:((backTo cpos (starEach [e] X.env)).all (fun x=> !x.1)&&(backToKw cpos (keywordEach [] X.env)).all (fun x=>x.1.isSome)&&decide (([e]:List Expr).length+([]:List Keyword).length+(if([]:List Keyword).isEmpty then 0 else 1)<30))=true:=by exact uf (by rfl) (by decide))(hline:(apos.endLine==cpos.line)=true:=by rfl)(hs:starEach [e] X.env=(false,eval e X.env)::starEach [] X.env:=by exact bo (by rfl))(hsw:swapsWith (.Call (.Attribute (.Name x p2) "update" apos) [e] [] cpos) none pos.line X.env=pure false:=by exact br (by rfl)):XS X (.Expr (.Call (.Attribute (.Name x p2) "update" apos) [e] [] cpos) pos) (mz i f):=⟨AR i he.out hN hv hd hcd hbase hfew hline hs hsw⟩
theorem ub{X:L2.Cx}{pos:Pos}:kz X pos [] [] []:=⟨yY ⟩
theorem jl{X:L2.Cx}{pos:Pos}{k v:Expr}{fk:Ex}{fv:Xt}{keys:List (Option Expr)}{values:List Expr}{kfs:List (Ex×Xt)}(hk:XE X k fk)(hv:XX X v fv)(hr:kz X pos keys values kfs):kz X pos (some k::keys) (v::values) ((fk,fv)::kfs):=⟨Bz hk.out hv.out hr.out⟩
theorem yP{X:L2.Cx}{pos:Pos}{keys:List (Option Expr)}{values:List Expr}{kfs:List (Ex×Xt)}(h:kz X pos keys values kfs)(hall:keys.all (·.isSome)=true:=by rfl)(hl:keys.length=values.length:=by rfl)(h0:keys≠[]:=by simp)(h15:keys.length≤15:=by decide)(hk:kfs.length≤15:=by decide):XX X (.Dict keys values pos) (nU kfs):=⟨ux h.out hall hl h0 h15 hk⟩
theorem yA{X:L2.Cx}{pos:Pos}{a:Expr}{f:Xt}{p:Pos}(hm:X.mg "dict"=none)(ha:XX X a f)(hc:X.calm=true:=by rfl)(hg:L2.Gl X "dict":=by rfl)(hs:starEach [a] X.env=(false,eval a X.env)::starEach [] X.env:=by exact bo (by rfl)):XX X (.Call (.Name "dict" p) [a] [] pos) (j2 f):=⟨BE hc hg hm ha.out hs⟩
theorem uV{X:L2.Cx}{pos:Pos}{a:Expr}{fa:Ex}{p p2 p3 p4:Pos}{k1}(ha:XE X a fa)(hm:X.mg "isinstance"=none)(hmL:X.mg "list"=none)(hmT:X.mg "tuple"=none)(hg:L2.Gl X "isinstance":=by rfl)(hgL:L2.Gl X "list":=by rfl)(hgT:L2.Gl X "tuple":=by rfl)(hs:starEach [a,.Tuple [.Name "list" p3,.Name "tuple" p4] k1 p2] X.env=(false,eval a X.env)::starEach [.Tuple [.Name "list" p3,.Name "tuple" p4] k1 p2] X.env:=by exact bo (by rfl))(hs2:starEach [.Tuple [.Name "list" p3,.Name "tuple" p4] k1 p2] X.env=(false,eval (.Tuple [.Name "list" p3,.Name "tuple" p4] k1 p2) X.env)::starEach [] X.env:=by exact bo (by rfl))(hs3:starEach [.Name "list" p3,.Name "tuple" p4] X.env=(false,eval (.Name "list" p3) X.env)::starEach [.Name "tuple" p4] X.env:=by exact bo (by rfl))(hs4:starEach [.Name "tuple" p4] X.env=(false,eval (.Name "tuple" p4) X.env)::starEach [] X.env:=by exact bo (by rfl)):XE X (.Call (.Name "isinstance" p) [a,.Tuple [.Name "list" p3,.Name "tuple" p4] k1 p2] [] pos) (e1 fP fa):=⟨zr ha.out hg hm hgL hmL hgT hmT hs hs2 hs3 hs4⟩
theorem wN{X:L2.Cx}{pos:Pos}{x:Str}{k j n:Nat}{m:List D→R D}{e:Expr}{es:List Expr}{fs:List Ex}{p:Pos}(d:jB X.prog X.w X.K X.mg X.base x k n m)(hr:L2.bb j X.A)(ha:XA X (e::es) (eList fs))(hg:L2.Gl X x:=by rfl)(hk:k≤j:=by decide)(hn:fs.length+1=n:=by rfl)(hdb:(x==("__debug__":Str))=false:=by decide)(he:starEach (e::es) X.env=(false,eval e X.env)::starEach es X.env:=by exact bo (by rfl))(hpl:(backTo pos (starEach es X.env)).any (·.1)=false:=by exact kO (by rfl)):XE X (.Call (.Name x p) (e::es) [] pos) (aJ (fun ds=>m (ds++[.ai])) fs):=⟨AM d hr hg ha.out hk hn hdb he hpl⟩
theorem wK{X:L2.Cx}{pos:Pos}(i:Nat){x:Str}{b:Expr}{fb:Ex}{p2:Pos}(hb:XE X b fb)(hN:X.N[i]? =some x:=by rfl)(hv:L2.cg X.env.scope x:=by exact Or.inl rfl)(hd:(x==("__debug__":Str))=false:=by decide)(hcd:(x==("__classdict__":Str))=false:=by decide)(hs:L2.gf b:=by exact mL (by rfl)):XE X (.Subscript (.Name x p2) b pos) (nL i fb):=⟨u5 i hb.out hN hv hd hcd hs⟩
theorem jI{X:L2.Cx}{pos:Pos}{k v:Expr}{z:Int}{f:Ex}{keys:List (Option Expr)}{values:List Expr}{ks:List Ky}{fs:List Ex}(hk:XE X k (eC (.int z)))(hv:XE X v f)(hr:XP X pos keys values ks fs):XP X pos (some k::keys) (v::values) (.inl z::ks) (f::fs):=⟨wA hk.out hv.out hr.out⟩
theorem vg{X:L2.Cx}{pos:Pos}{keys:List (Option Expr)}{values:List Expr}{ks:List Ky}{fs:List Ex}(h:XP X pos keys values ks fs)(hall:keys.all (·.isSome)=true:=by rfl)(hl:keys.length=values.length:=by rfl)(h0:keys≠[]:=by simp)(h15:keys.length≤15:=by decide)(hk:ks.length=fs.length:=by rfl)(hk15:ks.length≤15:=by decide)(hn:ks.Nodup:=by decide+kernel):XD X (.Dict keys values pos) (b9 ks fs):=⟨xN h.out hall hl h0 h15 hk hk15 hn⟩
theorem nX{X:L2.Cx}{pos:Pos}(i:Nat){x:Str}{e:Expr}{f:Xt}{p2:Pos}(hN:X.N.Nodup)(he:XX X e f)(hi:X.N[i]? =some x:=by rfl)(hx:L2.Loc X.env.scope x:=by exact Or.inl rfl)(hf:X.fn x=true∨X.env.scope.names.lookup x=some .local:=by exact .inl rfl)(hs:swapsWith e (some (.Name x p2)) pos.line X.env=pure false:=by exact br (by rfl)):XS X (.Assign [.Name x p2] e pos) (i9 i f):=⟨zS i hN he.out hi hx hf hs⟩
theorem yu{X:L2.Cx}{pos:Pos}(i:Nat){x:Str}{p2:Pos}(hN:X.N[i]? =some x:=by rfl)(hv:L2.cg X.env.scope x:=by exact Or.inl rfl)(hd:(x==("__debug__":Str))=false:=by decide)(hcd:(x==("__classdict__":Str))=false:=by decide):XS X (.Return (some (.Name x p2)) pos) (lU i):=⟨zA i hN hv hd hcd⟩
theorem jH{X:L2.Cx}{pos:Pos}(tn:List Str)(fv:List Str)(fvi:List Nat){elt iter target:Expr}{ifs:List Expr}{scope:Scope}{it:bc}{tg:bf}{cs:List aF}{el:Ex}(ok:g0 X scope tn fv fvi)(hi:XI X target iter it)(ht:∀cl C s H fp,XG (cb X scope cl C (tn++fv) s H fp) target tg)(hcs:∀cl C s H fp,nE (cb X scope cl C (tn++fv) s H fp) ifs cs)(hel:∀cl C s H fp,XE (cb X scope cl C (tn++fv) s H fp) elt el)(hxe:∀e s,¬X.xe e s:=by exact fun _ _ h=>h)(hc:X.calm=true:=by rfl)(low:gd tn.length tg:=by first|exact pS (by decide)|exact xP (by decide))(hs:∀x,foldedSetIterable iter X.env x=pure x:=by exact oq (by rfl)):XF X (.ListComp elt [⟨target,iter,ifs,0⟩] scope pos) (cn it tn.length fvi tg cs el):=
 ⟨AW tn fv fvi hxe hc ok hi.out low (fun cl C s H fp=>(ht cl C s H fp).out) (fun cl C s H fp=>(hcs cl C s H fp).out) (fun cl C s H fp=>(hel cl C s H fp).out) hs⟩
theorem jd{X:L2.Cx}{e:Expr}{it:bc}{n:Nat}{fv:List Nat}{tg:bf}{cs:List aF}{el:Ex}(h:XF X e (cn it n fv tg cs el)):XE X e (cn it n fv tg cs el):=⟨Bp h.out Bx⟩
theorem gG{X:L2.Cx}:nE X [] []:=⟨.nil⟩
theorem sJ{X:L2.Cx}{pos:Pos}(tn:List Str)(fv:List Str)(fvi:List Nat){elt iter target:Expr}{ifs:List Expr}{scope:Scope}{it:bc}{tg:bf}{cs:List aF}{el:Xt}(ok:g0 X scope tn fv fvi)(hi:XI X target iter it)(ht:∀cl C s H fp,XG (cb X scope cl C (tn++fv) s H fp) target tg)(hcs:∀cl C s H fp,nE (cb X scope cl C (tn++fv) s H fp) ifs cs)(hel:∀cl C s H fp,XX (cb X scope cl C (tn++fv) s H fp) elt el)(hxe:∀e s,¬X.xe e s:=by exact fun _ _ h=>h)(hc:X.calm=true:=by rfl)(low:gd tn.length tg:=by exact pS (by decide))(hs:∀x,foldedSetIterable iter X.env x=pure x:=by exact oq (by rfl)):XX X (.ListComp elt [⟨target,iter,ifs,0⟩] scope pos) (fE it tn.length fvi tg cs el):=
 ⟨wz tn fv fvi hxe hc ok hi.out low (fun cl C s H fp=>(ht cl C s H fp).out) (fun cl C s H fp=>(hcs cl C s H fp).out) (fun cl C s H fp=>(hel cl C s H fp).out) hs⟩
end PL
namespace PL
namespace eO
open PySem PySem.Spec
open L2 (Hp XK)
section
variable{P:Program}{w:World}{K:PySem.W.Frag}{mg:Str→Option Value}{base:Heap}{f:Addr}{fd:FuncData}
noncomputable def top(i:Nat):Stmt:=PySem.Challenge.pw_underfloor_k20_bells.main.body.getD i (.Pass ⟨0,0,0,0⟩)
noncomputable abbrev iq:Stmt:=top 17
theorem yW:L2.bF ["_law_cell","_law_k","_law_number","_law_j"] ["_law_cell","_law_k"] (L2.aE iq):=⟨rfl,rfl,rfl,by decide+kernel,rfl,by decide+kernel,by decide+kernel⟩
theorem vv(Fu:L2.bq K "_law_mixed" "_law_mixed" iq f fd)(hm:mg "_law_mixed"=some (.ref f))(mg_range:mg "range"=none):Df P w K mg base "_law_mixed" 1 2 iH:=by
 have sc:=yW
 refine cS (k:=0) Fu hm sc (Fu.binds (ps:=["_law_cell","_law_k"]) fun _ _ _ _ _ _ us hl=>match us,hl with|[_,_],_=>rfl) (fun cdv A outer s H E hr=>?_)
 exact((au (bJ (dv L2.wC vJ xA (ae 0) (aP L2.kT lK aq aq)) (au (cH (aP L2.An yb (ae 0) (aP L2.kT lK aq aq)) (bD 2 sc.nd)) (au (oU (f:=ic) (lH mg_range (aP L2.cF cN (ae 1) aq)) (bD 3 sc.nd) (by delta ic;exact(bQ (cH (aP gx fX (ae 2) (aP L2.kT lK aq aq)) (bD 2 sc.nd))))) (au (bt (aP L2.cF cN (ae 2) (aP L2.kT lK aq aq))) bL))) bK) (au (cH (aP L2.cF cN (aP L2.fJ fK (aP gb iC (aP gb iC (ae 0) (aP L2.fJ fK (aP L2.fJ fK aq (ae 1)) (ae 1))) aq) aq) aq) (bD 2 sc.nd)) (au (bt (aP L2.cF cN (aP L2.fJ fK (ae 2) (ae 2)) aq)) bL)))).out
noncomputable abbrev iT:Stmt:=top 21
theorem vM:L2.bF [] [] (L2.aE iT):=⟨rfl,rfl,rfl,by decide+kernel,rfl,by decide+kernel,by decide+kernel⟩
theorem xZ(Fu:L2.bq K "_law_plain" "_law_plain" iT f fd)(hm:mg "_law_plain"=some (.ref f)):bR P w K mg base "_law_plain" 1 0 nM:=by
 have sc:=vM
 refine kg (k:=0) Fu hm sc (Fu.binds (ps:=[]) fun _ _ _ _ _ _ us hl=>match us,hl with|[],_=>rfl) (fun cdv A outer s H E hr=>?_)
 refine(bQ ?_).out
 refine jr ?_
 exact(yP (jl aw (fm iu) (jl aw (fm iu) (jl aw (fm (gQ (jI aq (fg (ao aw (ao iu aH))) gk))) (jl aw (fm iu) (jl aw (fm aq) ub))))))
noncomputable abbrev ik:Stmt:=top 20
theorem x3:L2.bF ["_law_parent","_law_one"] ["_law_parent"] (L2.aE ik):=⟨rfl,rfl,rfl,by decide+kernel,rfl,by decide+kernel,by decide+kernel⟩
theorem y4(Fu:L2.bq K "_law_task" "_law_task" ik f fd)(hm:mg "_law_task"=some (.ref f)):bR P w K mg base "_law_task" 1 1 kX:=by
 have sc:=x3
 refine kg (k:=0) Fu hm sc (Fu.binds (ps:=["_law_parent"]) fun _ _ _ _ _ _ us hl=>match us,hl with|[_],_=>rfl) (fun cdv A outer s H E hr=>?_)
 exact((au (ml 1 sc.nd (vg (dD aw (ae 0) (dD aw aq (dD aw (iF (ao aq (ao aq (ao aq (ao aq (ao aq (ao aq (ao aq (ao aq aH))))))))) (dD aw aq (dD aw iu (dD aw iu gk)))))))) (au (bV 1 hr.units aw j3 (br (by rfl))) (au (bV 1 hr.units aw aq (br (by rfl))) (au (bV 1 hr.units aw de (br (by rfl))) (au (bV 1 hr.units aw j3 (br (by rfl))) (au (yu 1) bL))))))).out
noncomputable abbrev gh:Stmt:=top 22
theorem u9:L2.bF ["_law_cell","_law_k","_law_draw","_law_state_here","_law_one","_law_other","_law_way"] ["_law_cell","_law_k"] (L2.aE gh):=⟨rfl,rfl,rfl,by decide+kernel,rfl,by decide+kernel,by decide+kernel⟩
theorem xY(Fu:L2.bq K "_law_state" "_law_state" gh f fd)(hm:mg "_law_state"=some (.ref f))(mg_range:mg "range"=none)(df_law_mixed:Df P w K mg base "_law_mixed" 1 2 iH)(df_law_plain:bR P w K mg base "_law_plain" 1 0 nM)(df_law_task:bR P w K mg base "_law_task" 1 1 kX):Df P w K mg base "_law_state" 2 2 jU:=by
 have sc:=u9
 refine cS (k:=1) Fu hm sc (Fu.binds (ps:=["_law_cell","_law_k"]) fun _ _ _ _ _ _ us hl=>match us,hl with|[_,_],_=>rfl) (fun cdv A outer s H E hr=>?_)
 exact((au (cH (bw df_law_mixed hr (ao (ae 0) (ao (aP gb iC (aP L2.fJ fK aq (ae 1)) aq) aH)) (by decide)) (bD 2 sc.nd)) (au (nX 3 sc.nd (AI df_law_plain hr)) (au (nX 4 sc.nd (gj df_law_task hr (ao aq aH) (by decide))) (au (nX 5 sc.nd (gj df_law_task hr (ao aq aH) (by decide))) (au (bV 4 hr.units aw (fB (dP hr.units) dQ (aP L2.cF cN (ae 2) aq) aq) (br (by rfl))) (au (bV 4 hr.units aw (aL (iF (ao aq (ao (aP gb iC aq (aP L2.cF cN (aP gx fX (ae 2) aq) aq)) aH))) (aP L2.cF cN (aP gx fX (ae 2) aq) aq)) (br (by rfl))) (au (bV 4 hr.units aw (jd (jH ["_law_j"] ["_law_draw"] [2] (gM (L2.aE gh) ["_law_cell","_law_k","_law_draw","_law_state_here","_law_one","_law_other","_law_way"] (by rfl) (by rfl) (by decide+kernel)) (lH mg_range aq) (fun cl C s H fp=>by exact(bD 0 (show List.Nodup (["_law_j","_law_draw"]:List Str)from by decide+kernel))) (fun cl C s H fp=>by exact gG) (fun cl C s H fp=>by exact(aP L2.cF cN (aP gb iC (aP gx fX (ae 1) aq) (aP L2.fJ fK (aP L2.fJ fK (ae 0) (ae 0)) aq)) aq)))) Bi) (au (bV 4 hr.units aw (aP L2.cF cN (bw df_law_mixed hr (ao (ae 0) (ao (aP gb iC (aP L2.fJ fK aq (ae 1)) aq) aH)) (by decide)) aq) (br (by rfl))) (au (bJ (dv (dP hr.units) dQ iE (aP L2.cF cN (aP gx fX (ae 2) aq) aq) aq) (bQ (bV 4 hr.units aw (fg (ao (jd (jH ["_law_j"] ["_law_draw"] [2] (gM (L2.aE gh) ["_law_cell","_law_k","_law_draw","_law_state_here","_law_one","_law_other","_law_way"] (by rfl) (by rfl) (by decide+kernel)) (lH mg_range aq) (fun cl C s H fp=>by exact(bD 0 (show List.Nodup (["_law_j","_law_draw"]:List Str)from by decide+kernel))) (fun cl C s H fp=>by exact gG) (fun cl C s H fp=>by exact(aP L2.cF cN (aP L2.fJ fK (ae 0) (ae 1)) aq)))) (ao (aP L2.cF cN (aP gx fX (ae 2) aq) aq) aH))) (br (by rfl)))) bK) (au (cH (aP L2.cF cN (aP gx fX (ae 2) aq) aq) (bD 6 sc.nd)) (au (bV 3 hr.units aw (gQ (jI aq (fg (ao aq (ao (iF aH) aH))) (jI aq (fg (ao aq (ao (iF (ao (aP L2.cF cN (ae 2) aq) aH)) aH))) gk))) (br (by rfl))) (au (bV 3 hr.units aw aq (br (by rfl))) (au (bJ (dv (dP hr.units) dQ iE (ae 6) aq) (au (bV 5 hr.units aw aq (br (by rfl))) (au (bV 4 hr.units aw (fg (ao aw aH)) (br (by rfl))) bL)) bK) (au (bJ (dv (dP hr.units) dQ iE (ae 6) aq) (bQ (bV 4 hr.units aw (fg (ao aw (ao aq (ao aq aH)))) (br (by rfl)))) bK) (au (bJ (dv (dP hr.units) dQ iE (ae 6) aq) (bQ (bV 4 hr.units aw (fg (ao aw (ao aq (ao (aP L2.cF cN (ae 2) aq) (ao aq aH))))) (br (by rfl)))) bK) (au (bJ (dv (dP hr.units) dQ iE (ae 6) aq) (au (bV 4 hr.units aw aq (br (by rfl))) (au (bV 4 hr.units aw (fg (ao aw (ao (aP L2.cF cN (aP gx fX (ae 2) aq) aq) aH))) (br (by rfl))) (au (bV 4 hr.units aw de (br (by rfl))) (au (bV 4 hr.units aw j3 (br (by rfl))) bL)))) bK) (iA 4 (iA 5 (au (bV 3 hr.units aw (gQ (jI aq (ae 4) (jI aq (ae 5) gk))) (br (by rfl))) (iA 3 (au (bt (ae 3)) bL)))))))))))))))))))))).out
noncomputable abbrev eW:Stmt:=top 18
theorem pe:L2.bF ["_law_thing"] ["_law_thing"] (L2.aE eW):=⟨rfl,rfl,rfl,by decide+kernel,rfl,by decide+kernel,by decide+kernel⟩
theorem tM(Fu:L2.bq K "_law_copied" "_law_copied" eW f fd)(hm:mg "_law_copied"=some (.ref f))(mg_dict:mg "dict"=none)(mg_isinstance:mg "isinstance"=none)(mg_list:mg "list"=none)(mg_tuple:mg "tuple"=none){j:Nat}{m:List D→R T}(df_rec:bR P w K mg base "_law_copied" (1+j) 1 m):bR P w K mg base "_law_copied" (1+(j+1)) 1 (mR m):=by
 have sc:=pe
 refine kg (k:=1+j) Fu hm sc (Fu.binds (ps:=["_law_thing"]) fun _ _ _ _ _ _ us hl=>match us,hl with|[_],_=>rfl) (fun cdv A outer s H E hr=>?_)
 exact((au (bJ (cD (dk .dict (ae 0) mg_isinstance mg_dict jF)) (bQ (jr (yA mg_dict (sJ ["_law_key"] ["_law_thing"] [0] (gM (L2.aE eW) ["_law_thing"] (by rfl) (by rfl) (by decide+kernel)) (pM (ae 0)) (fun cl C s H fp=>by exact(bD 0 (show List.Nodup (["_law_key","_law_thing"]:List Str)from by decide+kernel))) (fun cl C s H fp=>by exact gG) (fun cl C s H fp=>by exact(sV (km (fm (ae 0)) (km (gj df_rec hr (ao (aL (ae 1) (ae 0)) aH) (Nat.le_refl _)) qM)) (show 2≤1000 from by decide))))))) bK) (au (bJ (cD (dk .list (ae 0) mg_isinstance mg_list jg)) (bQ (jr (sJ ["_law_one"] [] [] (gM (L2.aE eW) ["_law_thing"] (by rfl) (by rfl) (by decide+kernel)) (pQ (ae 0)) (fun cl C s H fp=>by exact(bD 0 (show List.Nodup (["_law_one"]:List Str)from by decide+kernel))) (fun cl C s H fp=>by exact gG) (fun cl C s H fp=>by exact(gj df_rec hr (ao (ae 0) aH) (Nat.le_refl _)))))) bK) (au (bJ (cD (dk .tuple (ae 0) mg_isinstance mg_tuple jx)) (bQ (jr (fm (tY L2.vj z8 mg_tuple jx (jd (jH ["_law_one"] [] [] (gM (L2.aE eW) ["_law_thing"] (by rfl) (by rfl) (by decide+kernel)) (pQ (ae 0)) (fun cl C s H fp=>by exact(bD 0 (show List.Nodup (["_law_one"]:List Str)from by decide+kernel))) (fun cl C s H fp=>by exact gG) (fun cl C s H fp=>by exact(mN (gj df_rec hr (ao (ae 0) aH) (Nat.le_refl _)))))))))) bK) (au (jr (fm (ae 0))) bL))))).out
theorem AU(Fu:L2.bq K "_law_copied" "_law_copied" eW f fd)(hm:mg "_law_copied"=some (.ref f))(mg_dict:mg "dict"=none)(mg_isinstance:mg "isinstance"=none)(mg_list:mg "list"=none)(mg_tuple:mg "tuple"=none):bR P w K mg base "_law_copied" 10 1 fU:=by
 exact bR.j6 (k:=1) (b:=mR) (kg (body:=fun _=>.bad) (k:=0) Fu hm pe (Fu.binds (ps:=["_law_thing"]) fun _ _ _ _ _ _ us hl=>match us,hl with|[_],_=>rfl) (fun cdv A outer s H E hr=>sd)) (fun j m h=>tM Fu hm mg_dict mg_isinstance mg_list mg_tuple h) 9
noncomputable abbrev ib:Stmt:=top 3
theorem uT:L2.bF ["old","news","new"] ["old","news"] (L2.aE ib):=⟨rfl,rfl,rfl,by decide+kernel,rfl,by decide+kernel,by decide+kernel⟩
theorem yo(Fu:L2.bq K "changed" "changed" ib f fd)(hm:mg "changed"=some (.ref f))(mg_dict:mg "dict"=none):Df P w K mg base "changed" 1 2 kh:=by
 have sc:=uT
 refine cS (k:=0) Fu hm sc (Fu.binds (ps:=["old","news"]) fun _ _ _ _ _ _ us hl=>match us,hl with|[_,_],_=>rfl) (fun cdv A outer s H E hr=>?_)
 exact((au (ml 2 sc.nd (jM mg_dict (ae 0))) (au (zK 2 (ae 1)) (iA 2 (au (bt (ae 2)) bL))))).out
noncomputable abbrev iV:Stmt:=top 9
theorem vC:L2.bF ["state","task","news","tasks"] ["state","task","news"] (L2.aE iV):=⟨rfl,rfl,rfl,by decide+kernel,rfl,by decide+kernel,by decide+kernel⟩
theorem Bc(Fu:L2.bq K "with_task" "with_task" iV f fd)(hm:mg "with_task"=some (.ref f))(mg_dict:mg "dict"=none)(df_changed:Df P w K mg base "changed" 1 2 kh):Df P w K mg base "with_task" 2 3 gP:=by
 have sc:=vC
 refine cS (k:=1) Fu hm sc (Fu.binds (ps:=["state","task","news"]) fun _ _ _ _ _ _ us hl=>match us,hl with|[_,_,_],_=>rfl) (fun cdv A outer s H E hr=>?_)
 exact((au (ml 3 sc.nd (jM mg_dict (aL (ae 0) aw))) (au (bV 3 hr.units (ae 1) (bw df_changed hr (ao (wK 3 (ae 1)) (ao (ae 2) aH)) (by decide)) (br (by rfl))) (iA 3 (au (bt (bw df_changed hr (ao (ae 0) (ao (gQ (dD aw (ae 3) gk)) aH)) (by decide))) bL))))).out
noncomputable abbrev iL:Stmt:=top 1
theorem uL:L2.bF ["thing"] ["thing"] (L2.aE iL):=⟨rfl,rfl,rfl,by decide+kernel,rfl,by decide+kernel,by decide+kernel⟩
theorem zQ(Fu:L2.bq K "is_whole" "is_whole" iL f fd)(hm:mg "is_whole"=some (.ref f))(mg_bool:mg "bool"=none)(mg_int:mg "int"=none)(mg_isinstance:mg "isinstance"=none):Df P w K mg base "is_whole" 1 1 m9:=by
 have sc:=uL
 refine cS (k:=0) Fu hm sc (Fu.binds (ps:=["thing"]) fun _ _ _ _ _ _ us hl=>match us,hl with|[_],_=>rfl) (fun cdv A outer s H E hr=>?_)
 exact((bQ (bt (fq (dk .int (ae 0) mg_isinstance mg_int wb) (gc (qH (dk .bool (ae 0) mg_isinstance mg_bool nS))))))).out
noncomputable abbrev il:Stmt:=top 7
theorem vN:L2.bF ["state","task"] ["state","task"] (L2.aE il):=⟨rfl,rfl,rfl,by decide+kernel,rfl,by decide+kernel,by decide+kernel⟩
theorem wR(Fu:L2.bq K "is_ready" "is_ready" il f fd)(hm:mg "is_ready"=some (.ref f))(df_is_whole:Df P w K mg base "is_whole" 1 1 m9):Df P w K mg base "is_ready" 2 2 eG:=by
 have sc:=vN
 refine cS (k:=1) Fu hm sc (Fu.binds (ps:=["state","task"]) fun _ _ _ _ _ _ us hl=>match us,hl with|[_,_],_=>rfl) (fun cdv A outer s H E hr=>?_)
 exact((bQ (bt (fq (bw df_is_whole hr (ao (ae 1) aH) (by decide)) (fq (fB (m5 hr.units) mC (ae 1) (aL (ae 0) aw)) (gc (q9 (aL (aL (aL (ae 0) aw) (ae 1)) aw)))))))).out
noncomputable abbrev i4:Stmt:=top 14
theorem uN:L2.bF ["state","task","own","news"] ["state","task"] (L2.aE i4):=⟨rfl,rfl,rfl,by decide+kernel,rfl,by decide+kernel,by decide+kernel⟩
theorem y0(Fu:L2.bq K "plain_bell" "plain_bell" i4 f fd)(hm:mg "plain_bell"=some (.ref f))(mg_dict:mg "dict"=none)(df_is_ready:Df P w K mg base "is_ready" 2 2 eG)(df_with_task:Df P w K mg base "with_task" 2 3 gP):Df P w K mg base "plain_bell" 3 2 ko:=by
 have sc:=uN
 refine cS (k:=2) Fu hm sc (Fu.binds (ps:=["state","task"]) fun _ _ _ _ _ _ us hl=>match us,hl with|[_,_],_=>rfl) (fun cdv A outer s H E hr=>?_)
 exact((au (bJ (eF (cD (bw df_is_ready hr (ao (ae 0) (ao (ae 1) aH)) (by decide)))) (bQ (bt (m8 (jM mg_dict (ae 0)) mG))) bK) (au (cH (aL (aL (ae 0) aw) (ae 1)) (bD 2 sc.nd)) (au (bJ (fF (gH (eF (cD (aL (ae 2) aw))) (gH (dv (dP hr.units) dQ iE (aL (ae 2) aw) aq) (iU (kL (aL (ae 2) aw)))))) (bQ (bt (m8 (jM mg_dict (ae 0)) mG))) bK) (au (cH (gQ (dD aw (fg (ao (aL (ae 2) aw) (ao (aL (ae 2) aw) aH))) (dD aw de (dD aw (aL (ae 2) aw) gk)))) (bD 3 sc.nd)) (au (bt (bw df_with_task hr (ao (ae 0) (ao (ae 1) (ao (ae 3) aH))) (by decide))) bL)))))).out
noncomputable abbrev iM:Stmt:=top 8
theorem x5:L2.bF ["waits"] ["waits"] (L2.aE iM):=⟨rfl,rfl,rfl,by decide+kernel,rfl,by decide+kernel,by decide+kernel⟩
theorem tO(Fu:L2.bq K "has_ended" "has_ended" iM f fd)(hm:mg "has_ended"=some (.ref f)):Df P w K mg base "has_ended" 1 1 oM:=by
 have sc:=x5
 refine cS (k:=0) Fu hm sc (Fu.binds (ps:=["waits"]) fun _ _ _ _ _ _ us hl=>match us,hl with|[_],_=>rfl) (fun cdv A outer s H E hr=>?_)
 exact((bQ (bt (fq (qb (ae 0)) (gc (fB (dP hr.units) dQ (aL (ae 0) aq) aw)))))).out
noncomputable abbrev hZ:Stmt:=top 12
theorem uJ:L2.bF ["state","task"] ["state","task"] (L2.aE hZ):=⟨rfl,rfl,rfl,by decide+kernel,rfl,by decide+kernel,by decide+kernel⟩
theorem xc(Fu:L2.bq K "can_be_rung" "can_be_rung" hZ f fd)(hm:mg "can_be_rung"=some (.ref f))(df_has_ended:Df P w K mg base "has_ended" 1 1 oM):Df P w K mg base "can_be_rung" 2 2 oO:=by
 have sc:=uJ
 refine cS (k:=1) Fu hm sc (Fu.binds (ps:=["state","task"]) fun _ _ _ _ _ _ us hl=>match us,hl with|[_,_],_=>rfl) (fun cdv A outer s H E hr=>?_)
 exact((bQ (bt (fq (fB (m5 hr.units) mC (ae 1) (aL (ae 0) aw)) (gc (qH (bw df_has_ended hr (ao (aL (aL (aL (ae 0) aw) (ae 1)) aw) aH) (by decide)))))))).out
noncomputable abbrev i7:Stmt:=top 4
theorem vD:L2.bF ["regs","answer","second","new"] ["regs","answer","second"] (L2.aE i7):=⟨rfl,rfl,rfl,by decide+kernel,rfl,by decide+kernel,by decide+kernel⟩
theorem As(Fu:L2.bq K "answered_regs" "answered_regs" i7 f fd)(hm:mg "answered_regs"=some (.ref f))(mg_list:mg "list"=none):Df P w K mg base "answered_regs" 1 3 oy:=by
 have sc:=vD
 refine cS (k:=0) Fu hm sc (Fu.binds (ps:=["regs","answer","second"]) fun _ _ _ _ _ _ us hl=>match us,hl with|[_,_,_],_=>rfl) (fun cdv A outer s H E hr=>?_)
 exact((au (Ab 3 sc.nd (rL mg_list (ae 0))) (au (qB 3 (ae 1) aq (by delta gB;intro _;rfl)) (au (bJ (kL (ae 2)) (bQ (qB 3 (ae 2) aq (by delta gB;intro _;rfl))) bK) (iA 3 (au (bt (ae 3)) bL)))))).out
noncomputable abbrev jX:Stmt:=top 10
theorem zP:L2.bF ["state","task","answer","second","regs"] ["state","task","answer","second"] (L2.aE jX):=⟨rfl,rfl,rfl,by decide+kernel,rfl,by decide+kernel,by decide+kernel⟩
theorem AG(Fu:su K "answered" "answered" jX f fd)(hm:mg "answered"=some (.ref f))(df_answered_regs:Df P w K mg base "answered_regs" 1 3 oy)(df_with_task:Df P w K mg base "with_task" 2 3 gP)(hbd:L2.Binds K fd ["state","task","answer","second"] [.none]):jB P w K mg base "answered" 3 4 mf:=by
 have sc:=zP
 refine AQ (k:=2) Fu hm sc hbd (fun cdv A outer s H E hr=>?_)
 exact((au (cH (bw df_answered_regs hr (ao (aL (aL (aL (ae 0) aw) (ae 1)) aw) (ao (ae 2) (ao (ae 3) aH))) (by decide)) (bD 4 sc.nd)) (au (bt (bw df_with_task hr (ao (ae 0) (ao (ae 1) (ao (gQ (dD aw (ae 4) (dD aw j3 gk))) aH))) (by decide))) bL))).out
noncomputable abbrev iD:Stmt:=top 13
theorem v3:L2.bF ["state","task","behind","other"] ["state","task"] (L2.aE iD):=⟨rfl,rfl,rfl,by decide+kernel,rfl,by decide+kernel,by decide+kernel⟩
theorem Bb(Fu:L2.bq K "rung_plain" "rung_plain" iD f fd)(hm:mg "rung_plain"=some (.ref f))(mg_dict:mg "dict"=none)(gl_BELL:jq P w K mg "BELL" nO)(df_can_be_rung:Df P w K mg base "can_be_rung" 2 2 oO)(df_with_task:Df P w K mg base "with_task" 2 3 gP)(df_answered:jB P w K mg base "answered" 3 4 mf):Df P w K mg base "rung_plain" 4 2 jZ:=by
 have sc:=v3
 refine cS (k:=3) Fu hm sc (Fu.binds (ps:=["state","task"]) fun _ _ _ _ _ _ us hl=>match us,hl with|[_,_],_=>rfl) (fun cdv A outer s H E hr=>?_)
 exact((au (bJ (eF (cD (bw df_can_be_rung hr (ao (ae 0) (ao (ae 1) aH)) (by decide)))) (bQ (bt (m8 (jM mg_dict (ae 0)) mG))) bK) (au (cH (bw df_with_task hr (ao (ae 0) (ao (ae 1) (ao (gQ (dD aw de gk)) aH))) (by decide)) (bD 2 sc.nd)) (au (cH (aL (aL (ae 2) aw) (ae 1)) (bD 3 sc.nd)) (au (bJ (fF (gY (kL (aL (ae 3) aw)) (gY (dv (kA hr.units) kn kr (aL (ae 3) aw) aq) (nc (lI (aL (ae 3) aw)))))) (bQ (bt (wN df_answered hr (ao (ae 2) (ao (ae 1) (ao (t7 gl_BELL) aH)))))) bK) (au (bt (ae 2)) bL)))))).out
noncomputable abbrev fN:Stmt:=top 19
theorem p9:L2.bF ["_law_found","_law_due"] ["_law_found","_law_due"] (L2.aE fN):=⟨rfl,rfl,rfl,by decide+kernel,rfl,by decide+kernel,by decide+kernel⟩
theorem yR(Fu:L2.bq K "_law_same" "_law_same" fN f fd)(hm:mg "_law_same"=some (.ref f))(mg_all:mg "all"=none)(mg_bool:mg "bool"=none)(mg_dict:mg "dict"=none)(mg_isinstance:mg "isinstance"=none)(mg_len:mg "len"=none)(mg_list:mg "list"=none)(mg_tuple:mg "tuple"=none)(mg_zip:mg "zip"=none){j:Nat}{m:List D→R D}(df_rec:Df P w K mg base "_law_same" (1+j) 2 m):Df P w K mg base "_law_same" (1+(j+1)) 2 (nR m):=by
 have sc:=p9
 refine cS (k:=1+j) Fu hm sc (Fu.binds (ps:=["_law_found","_law_due"]) fun _ _ _ _ _ _ us hl=>match us,hl with|[_,_],_=>rfl) (fun cdv A outer s H E hr=>?_)
 exact((au (bJ (cD (dk .dict (ae 1) mg_isinstance mg_dict jF)) (au (bJ (fF (gH (eF (cD (dk .dict (ae 0) mg_isinstance mg_dict jF))) (iU (dv (kA hr.units) kn kr (gU lS kC mg_len jT (ae 0)) (gU lS kC mg_len jT (ae 1)))))) (bQ (bt de)) bK) (au (bt (gU (tw rfl) sj mg_all pY (jd (jH ["_law_key"] ["_law_found","_law_due"] [0,1] (gM (L2.aE fN) ["_law_found","_law_due"] (by rfl) (by rfl) (by decide+kernel)) (pM (ae 1)) (fun cl C s H fp=>by exact(bD 0 (show List.Nodup (["_law_key","_law_found","_law_due"]:List Str)from by decide+kernel))) (fun cl C s H fp=>by exact gG) (fun cl C s H fp=>by exact(fq (fB (m5 hr.units) mC (ae 0) (ae 1)) (gc (bw df_rec hr (ao (aL (ae 1) (ae 0)) (ao (aL (ae 2) (ae 0)) aH)) (Nat.le_refl _))))))))) bL)) bK) (au (bJ (cD (uV (ae 1) mg_isinstance mg_list mg_tuple)) (au (bJ (fF (gH (dv (kA hr.units) kn kr (dk .list (ae 0) mg_isinstance mg_list jg) (dk .list (ae 1) mg_isinstance mg_list jg)) (iU (dv (kA hr.units) kn kr (dk .tuple (ae 0) mg_isinstance mg_tuple jx) (dk .tuple (ae 1) mg_isinstance mg_tuple jx))))) (bQ (bt de)) bK) (au (bt (fq (fB (dP hr.units) dQ (gU lS kC mg_len jT (ae 0)) (gU lS kC mg_len jT (ae 1))) (gc (gU (tw rfl) sj mg_all pY (jd (jH ["_law_one","_law_other"] [] [] (gM (L2.aE fN) ["_law_found","_law_due"] (by rfl) (by rfl) (by decide+kernel)) (zz mg_zip (ae 0) (ae 1)) (fun cl C s H fp=>by exact(vp (o4 0 (bD 0 (show List.Nodup (["_law_one","_law_other"]:List Str)from by decide+kernel)) (o4 1 (bD 1 (show List.Nodup (["_law_one","_law_other"]:List Str)from by decide+kernel)) ui)) pW)) (fun cl C s H fp=>by exact gG) (fun cl C s H fp=>by exact(bw df_rec hr (ao (ae 0) (ao (ae 1) aH)) (Nat.le_refl _))))))))) bL)) bK) (au (bt (fq (fB (dP hr.units) dQ (ae 0) (ae 1)) (gc (fB (dP hr.units) dQ (dk .bool (ae 0) mg_isinstance mg_bool nS) (dk .bool (ae 1) mg_isinstance mg_bool nS))))) bL)))).out
theorem AF(Fu:L2.bq K "_law_same" "_law_same" fN f fd)(hm:mg "_law_same"=some (.ref f))(mg_all:mg "all"=none)(mg_bool:mg "bool"=none)(mg_dict:mg "dict"=none)(mg_isinstance:mg "isinstance"=none)(mg_len:mg "len"=none)(mg_list:mg "list"=none)(mg_tuple:mg "tuple"=none)(mg_zip:mg "zip"=none):Df P w K mg base "_law_same" 10 2 eh:=by
 exact Df.j6 (k:=1) (b:=nR) (cS (body:=fun _=>.bad) (k:=0) Fu hm p9 (Fu.binds (ps:=["_law_found","_law_due"]) fun _ _ _ _ _ _ us hl=>match us,hl with|[_,_],_=>rfl) (fun cdv A outer s H E hr=>sd)) (fun j m h=>yR Fu hm mg_all mg_bool mg_dict mg_isinstance mg_len mg_list mg_tuple mg_zip h) 9
noncomputable abbrev i3:Stmt:=top 23
theorem yI:L2.bF ["_law_state_here","_law_due","_law_one"] ["_law_state_here"] (L2.aE i3):=⟨rfl,rfl,rfl,by decide+kernel,rfl,by decide+kernel,by decide+kernel⟩
theorem uI(Fu:L2.bq K "_law_entered" "_law_entered" i3 f fd)(hm:mg "_law_entered"=some (.ref f))(mg_list:mg "list"=none)(df_law_copied:bR P w K mg base "_law_copied" 10 1 fU):Df P w K mg base "_law_entered" 11 1 i6:=by
 have sc:=yI
 refine cS (k:=10) Fu hm sc (Fu.binds (ps:=["_law_state_here"]) fun _ _ _ _ _ _ us hl=>match us,hl with|[_],_=>rfl) (fun cdv A outer s H E hr=>?_)
 exact((au (tf 1 sc.nd (gj df_law_copied hr (ao (ae 0) aH) (by decide))) (au (qz 2 1 sc.nd (js (js (rH 1) aw) aq)) (au (bJ (sO 1 (fF (gY (lI (aL (ae 2) aw)) (gY (cD (aL (ae 2) aw)) (gY (dv L2.qC rC p8 (aL (ae 2) aw) aq) (nc (lI (aL (ae 2) aw)))))))) (au (jJ 1 hr.units (iX 1 2) aw (mN (sV (km (vc (yB 1 (rL mg_list (aL (ae 2) aw)))) (km (fm (sQ 1 (aL (ae 2) aw))) qM)) (show 2≤1000 from by decide)))) (au (jJ 1 hr.units (iX 1 2) aw de) (au (jJ 1 hr.units (iX 1 2) aw (sQ 1 (aL (ae 2) aw))) bL))) bK) (rQ 1 (au (bt (ae 1)) bL)))))).out
noncomputable abbrev hX:Stmt:=top 24
theorem yt:L2.bF ["_law_state_here","_law_due","_law_one"] ["_law_state_here"] (L2.aE hX):=⟨rfl,rfl,rfl,by decide+kernel,rfl,by decide+kernel,by decide+kernel⟩
theorem va(Fu:L2.bq K "_law_rung" "_law_rung" hX f fd)(hm:mg "_law_rung"=some (.ref f))(df_law_copied:bR P w K mg base "_law_copied" 10 1 fU):Df P w K mg base "_law_rung" 11 1 gD:=by
 have sc:=yt
 refine cS (k:=10) Fu hm sc (Fu.binds (ps:=["_law_state_here"]) fun _ _ _ _ _ _ us hl=>match us,hl with|[_],_=>rfl) (fun cdv A outer s H E hr=>?_)
 exact((au (tf 1 sc.nd (gj df_law_copied hr (ao (ae 0) aH) (by decide))) (au (qz 2 1 sc.nd (js (js (rH 1) aw) aq)) (au (jJ 1 hr.units (iX 1 2) aw de) (au (bJ (sO 1 (fF (gY (kL (aL (ae 2) aw)) (gY (dv L2.qC rC p8 (aL (ae 2) aw) aq) (nc (lI (aL (ae 2) aw))))))) (au (jJ 1 hr.units (iX 1 2) aw j3) (au (vQ 1 (js (iX 1 2) aw) aq aq (by delta gB;intro _;rfl)) bL)) bK) (rQ 1 (au (bt (ae 1)) bL))))))).out
noncomputable abbrev fH:Stmt:=top 25
theorem yD:L2.bF ["_law_script","_law_k","_law_state_here","_law_handed","_law_found","_law_over","_law_ready"] ["_law_script"] (L2.aE fH):=⟨rfl,rfl,rfl,by decide+kernel,rfl,by decide+kernel,by decide+kernel⟩
theorem uO(Fu:L2.bq K "law" "law" fH f fd)(hm:mg "law"=some (.ref f))(mg_len:mg "len"=none)(mg_min:mg "min"=none)(mg_range:mg "range"=none)(df_law_state:Df P w K mg base "_law_state" 2 2 jU)(df_law_copied:bR P w K mg base "_law_copied" 10 1 fU)(df_plain_bell:Df P w K mg base "plain_bell" 3 2 ko)(df_law_entered:Df P w K mg base "_law_entered" 11 1 i6)(df_law_same:Df P w K mg base "_law_same" 10 2 eh)(df_rung_plain:Df P w K mg base "rung_plain" 4 2 jZ)(df_law_rung:Df P w K mg base "_law_rung" 11 1 gD)(df_is_ready:Df P w K mg base "is_ready" 2 2 eG):L2.b5 P w K mg base L2.cL 12 f fd ["_law_script"] (eR ⟨K,P,w⟩ j9 1):=by
 have sc:=yD
 refine sN (k:=11) Fu sc (fun cdv A outer s H E hr=>?_)
 exact((au (oU (f:=iP) (lH mg_range (yd (L2.A1 rfl) yl mg_min Ad (gU qK rW mg_len jT (ae 0)) aq)) (bD 1 sc.nd) (by delta iP;exact(au (cH (bw df_law_state hr (ao (aL (ae 0) (ae 1)) (ao (ae 1) aH)) (by decide)) (bD 2 sc.nd)) (au (cH (mN (gj df_law_copied hr (ao (ae 2) aH) (by decide))) (bD 3 sc.nd)) (au (cH (bw df_plain_bell hr (ao (ae 3) (ao aq aH)) (by decide)) (bD 4 sc.nd)) (au (bJ (fF (gH (eF (cD (bw df_law_same hr (ao (ae 4) (ao (bw df_law_entered hr (ao (ae 2) aH) (by decide)) aH)) (by decide)))) (iU (eF (cD (bw df_law_same hr (ao (ae 3) (ao (ae 2) aH)) (by decide))))))) (bQ (bt de)) bK) (au (cH (fq (qb (aL (aL (aL (ae 2) aw) aq) aw)) (gc (fB (dP hr.units) dQ (aL (aL (aL (aL (ae 2) aw) aq) aw) aq) aw))) (bD 5 sc.nd)) (au (bJ (eF (cD (ae 5))) (au (cH (bw df_rung_plain hr (ao (ae 3) (ao aq aH)) (by decide)) (bD 4 sc.nd)) (au (bJ (fF (gH (eF (cD (bw df_law_same hr (ao (ae 4) (ao (bw df_law_rung hr (ao (ae 2) aH) (by decide)) aH)) (by decide)))) (iU (eF (cD (bw df_law_same hr (ao (ae 3) (ao (ae 2) aH)) (by decide))))))) (bQ (bt de)) bK) bL)) bK) (au (cH (iF (ao (bw df_is_ready hr (ao (ae 3) (ao aq aH)) (by decide)) (ao (bw df_is_ready hr (ao (ae 3) (ao aq aH)) (by decide)) (ao (bw df_is_ready hr (ao (ae 3) (ao aq aH)) (by decide)) aH)))) (bD 6 sc.nd)) (au (bJ (fF (gH (eF (cD (bw df_law_same hr (ao (ae 6) (ao (iF (ao (q9 (aL (aL (aL (ae 2) aw) aq) aw)) (ao de (ao de aH)))) aH)) (by decide)))) (iU (eF (cD (bw df_law_same hr (ao (ae 3) (ao (ae 2) aH)) (by decide))))))) (bQ (bt de)) bK) bL)))))))))) (au (bt de) bL))).out
end
theorem all_mk{w:World}{K:PySem.W.Frag}{h:Heap}{mg:Str→Option Value}{fa f0 f1 f2 f3 f4 f5 f6 f7 f8 f9 f10 f11 f12 f13 f14 f15 f16 f17 f18:Addr}(X:K.In h)(G:h.Ns mainGlobals mg)(hfa:mg "law"=some (.ref fa))
   {od0 an0 od1 an1 od2 an2 od3 an3 od4 an4 od5 an5 od6 an6 od7 an7 od8 an8 od9 an9 od10 an10 od11 an11 od12 an12 od13 an13 od14 an14 od15 an15 od16 an16 od17 an17 od18 an18:Option Addr} {sl0 sl1 sl2 sl3 sl4 sl5 sl6 sl7 sl8 sl9 sl10 sl11 sl12 sl13 sl14 sl15 sl16 sl17 sl18:Array (Option Value)} {oc0 kV0 dc0 pm0 cd0 ct0 oc1 kV1 dc1 pm1 cd1 ct1 oc2 kV2 dc2 pm2 cd2 ct2 oc3 kV3 dc3 pm3 cd3 ct3 oc4 kV4 dc4 pm4 cd4 ct4 oc5 kV5 dc5 pm5 cd5 ct5 oc6 kV6 dc6 pm6 cd6 ct6 oc7 kV7 dc7 pm7 cd7 ct7 oc8 kV8 dc8 pm8 cd8 ct8 oc9 kV9 dc9 pm9 cd9 ct9 oc10 kV10 dc10 pm10 cd10 ct10 oc11 kV11 dc11 pm11 cd11 ct11 oc12 kV12 dc12 pm12 cd12 ct12 oc13 kV13 dc13 pm13 cd13 ct13 oc14 kV14 dc14 pm14 cd14 ct14 oc15 kV15 dc15 pm15 cd15 ct15 oc16 kV16 dc16 pm16 cd16 ct16 oc17 kV17 dc17 pm17 cd17 ct17 oc18 kV18 dc18 pm18 cd18 ct18:Value} {tp13:Addr} {tc13:Value} {td13:Option Addr} {tn13:Nat} {ts13:Array (Option Value)}
   (a0:PySem.W.nsIn K mainGlobals "_law_mixed"=some (some (.ref f0))) (l0:K.lookup f0=some ⟨oc0,od0,.func (PySem.W.fnOf "_law_mixed" "_law_mixed" (L2.bH iq) (L2.bp iq) (L2.aE iq) .none kV0 dc0 pm0 an0 cd0 ct0),sl0⟩) (c0:PySem.W.codeIn K cd0 "_law_mixed"=true) (k0:PySem.W.keepIn K (.ref f0)=true)
   (a1:PySem.W.nsIn K mainGlobals "_law_plain"=some (some (.ref f1))) (l1:K.lookup f1=some ⟨oc1,od1,.func (PySem.W.fnOf "_law_plain" "_law_plain" (L2.bH iT) (L2.bp iT) (L2.aE iT) .none kV1 dc1 pm1 an1 cd1 ct1),sl1⟩) (c1:PySem.W.codeIn K cd1 "_law_plain"=true) (k1:PySem.W.keepIn K (.ref f1)=true)
   (a2:PySem.W.nsIn K mainGlobals "_law_task"=some (some (.ref f2))) (l2:K.lookup f2=some ⟨oc2,od2,.func (PySem.W.fnOf "_law_task" "_law_task" (L2.bH ik) (L2.bp ik) (L2.aE ik) .none kV2 dc2 pm2 an2 cd2 ct2),sl2⟩) (c2:PySem.W.codeIn K cd2 "_law_task"=true) (k2:PySem.W.keepIn K (.ref f2)=true)
   (a3:PySem.W.nsIn K mainGlobals "_law_state"=some (some (.ref f3))) (l3:K.lookup f3=some ⟨oc3,od3,.func (PySem.W.fnOf "_law_state" "_law_state" (L2.bH gh) (L2.bp gh) (L2.aE gh) .none kV3 dc3 pm3 an3 cd3 ct3),sl3⟩) (c3:PySem.W.codeIn K cd3 "_law_state"=true) (k3:PySem.W.keepIn K (.ref f3)=true)
   (a4:PySem.W.nsIn K mainGlobals "_law_copied"=some (some (.ref f4))) (l4:K.lookup f4=some ⟨oc4,od4,.func (PySem.W.fnOf "_law_copied" "_law_copied" (L2.bH eW) (L2.bp eW) (L2.aE eW) .none kV4 dc4 pm4 an4 cd4 ct4),sl4⟩) (c4:PySem.W.codeIn K cd4 "_law_copied"=true) (k4:PySem.W.keepIn K (.ref f4)=true)
   (a5:PySem.W.nsIn K mainGlobals "changed"=some (some (.ref f5))) (l5:K.lookup f5=some ⟨oc5,od5,.func (PySem.W.fnOf "changed" "changed" (L2.bH ib) (L2.bp ib) (L2.aE ib) .none kV5 dc5 pm5 an5 cd5 ct5),sl5⟩) (c5:PySem.W.codeIn K cd5 "changed"=true) (k5:PySem.W.keepIn K (.ref f5)=true)
   (a6:PySem.W.nsIn K mainGlobals "with_task"=some (some (.ref f6))) (l6:K.lookup f6=some ⟨oc6,od6,.func (PySem.W.fnOf "with_task" "with_task" (L2.bH iV) (L2.bp iV) (L2.aE iV) .none kV6 dc6 pm6 an6 cd6 ct6),sl6⟩) (c6:PySem.W.codeIn K cd6 "with_task"=true) (k6:PySem.W.keepIn K (.ref f6)=true)
   (a7:PySem.W.nsIn K mainGlobals "is_whole"=some (some (.ref f7))) (l7:K.lookup f7=some ⟨oc7,od7,.func (PySem.W.fnOf "is_whole" "is_whole" (L2.bH iL) (L2.bp iL) (L2.aE iL) .none kV7 dc7 pm7 an7 cd7 ct7),sl7⟩) (c7:PySem.W.codeIn K cd7 "is_whole"=true) (k7:PySem.W.keepIn K (.ref f7)=true)
   (a8:PySem.W.nsIn K mainGlobals "is_ready"=some (some (.ref f8))) (l8:K.lookup f8=some ⟨oc8,od8,.func (PySem.W.fnOf "is_ready" "is_ready" (L2.bH il) (L2.bp il) (L2.aE il) .none kV8 dc8 pm8 an8 cd8 ct8),sl8⟩) (c8:PySem.W.codeIn K cd8 "is_ready"=true) (k8:PySem.W.keepIn K (.ref f8)=true)
   (a9:PySem.W.nsIn K mainGlobals "plain_bell"=some (some (.ref f9))) (l9:K.lookup f9=some ⟨oc9,od9,.func (PySem.W.fnOf "plain_bell" "plain_bell" (L2.bH i4) (L2.bp i4) (L2.aE i4) .none kV9 dc9 pm9 an9 cd9 ct9),sl9⟩) (c9:PySem.W.codeIn K cd9 "plain_bell"=true) (k9:PySem.W.keepIn K (.ref f9)=true)
   (a10:PySem.W.nsIn K mainGlobals "has_ended"=some (some (.ref f10))) (l10:K.lookup f10=some ⟨oc10,od10,.func (PySem.W.fnOf "has_ended" "has_ended" (L2.bH iM) (L2.bp iM) (L2.aE iM) .none kV10 dc10 pm10 an10 cd10 ct10),sl10⟩) (c10:PySem.W.codeIn K cd10 "has_ended"=true) (k10:PySem.W.keepIn K (.ref f10)=true)
   (a11:PySem.W.nsIn K mainGlobals "can_be_rung"=some (some (.ref f11))) (l11:K.lookup f11=some ⟨oc11,od11,.func (PySem.W.fnOf "can_be_rung" "can_be_rung" (L2.bH hZ) (L2.bp hZ) (L2.aE hZ) .none kV11 dc11 pm11 an11 cd11 ct11),sl11⟩) (c11:PySem.W.codeIn K cd11 "can_be_rung"=true) (k11:PySem.W.keepIn K (.ref f11)=true)
   (a12:PySem.W.nsIn K mainGlobals "answered_regs"=some (some (.ref f12))) (l12:K.lookup f12=some ⟨oc12,od12,.func (PySem.W.fnOf "answered_regs" "answered_regs" (L2.bH i7) (L2.bp i7) (L2.aE i7) .none kV12 dc12 pm12 an12 cd12 ct12),sl12⟩) (c12:PySem.W.codeIn K cd12 "answered_regs"=true) (k12:PySem.W.keepIn K (.ref f12)=true)
   (a13:PySem.W.nsIn K mainGlobals "answered"=some (some (.ref f13))) (l13:K.lookup f13=some ⟨oc13,od13,.func (PySem.W.fnOf "answered" "answered" (L2.bH jX) (L2.bp jX) (L2.aE jX) (.ref tp13) kV13 dc13 pm13 an13 cd13 ct13),sl13⟩) (t13:K.lookup tp13=some ⟨tc13,td13,.seq #[.none] tn13,ts13⟩) (c13:PySem.W.codeIn K cd13 "answered"=true) (k13:PySem.W.keepIn K (.ref f13)=true)
   (a14:PySem.W.nsIn K mainGlobals "rung_plain"=some (some (.ref f14))) (l14:K.lookup f14=some ⟨oc14,od14,.func (PySem.W.fnOf "rung_plain" "rung_plain" (L2.bH iD) (L2.bp iD) (L2.aE iD) .none kV14 dc14 pm14 an14 cd14 ct14),sl14⟩) (c14:PySem.W.codeIn K cd14 "rung_plain"=true) (k14:PySem.W.keepIn K (.ref f14)=true)
   (a15:PySem.W.nsIn K mainGlobals "_law_same"=some (some (.ref f15))) (l15:K.lookup f15=some ⟨oc15,od15,.func (PySem.W.fnOf "_law_same" "_law_same" (L2.bH fN) (L2.bp fN) (L2.aE fN) .none kV15 dc15 pm15 an15 cd15 ct15),sl15⟩) (c15:PySem.W.codeIn K cd15 "_law_same"=true) (k15:PySem.W.keepIn K (.ref f15)=true)
   (a16:PySem.W.nsIn K mainGlobals "_law_entered"=some (some (.ref f16))) (l16:K.lookup f16=some ⟨oc16,od16,.func (PySem.W.fnOf "_law_entered" "_law_entered" (L2.bH i3) (L2.bp i3) (L2.aE i3) .none kV16 dc16 pm16 an16 cd16 ct16),sl16⟩) (c16:PySem.W.codeIn K cd16 "_law_entered"=true) (k16:PySem.W.keepIn K (.ref f16)=true)
   (a17:PySem.W.nsIn K mainGlobals "_law_rung"=some (some (.ref f17))) (l17:K.lookup f17=some ⟨oc17,od17,.func (PySem.W.fnOf "_law_rung" "_law_rung" (L2.bH hX) (L2.bp hX) (L2.aE hX) .none kV17 dc17 pm17 an17 cd17 ct17),sl17⟩) (c17:PySem.W.codeIn K cd17 "_law_rung"=true) (k17:PySem.W.keepIn K (.ref f17)=true)
   (a18:PySem.W.nsIn K mainGlobals "law"=some (some (.ref f18))) (l18:K.lookup f18=some ⟨oc18,od18,.func (PySem.W.fnOf "law" "law" (L2.bH fH) (L2.bp fH) (L2.aE fH) .none kV18 dc18 pm18 an18 cd18 ct18),sl18⟩) (c18:PySem.W.codeIn K cd18 "law"=true) (k18:PySem.W.keepIn K (.ref f18)=true)
   (z_all:PySem.W.nsIn K mainGlobals "all"=some none)
   (z_bool:PySem.W.nsIn K mainGlobals "bool"=some none)
   (z_dict:PySem.W.nsIn K mainGlobals "dict"=some none)
   (z_int:PySem.W.nsIn K mainGlobals "int"=some none)
   (z_isinstance:PySem.W.nsIn K mainGlobals "isinstance"=some none)
   (z_len:PySem.W.nsIn K mainGlobals "len"=some none)
   (z_list:PySem.W.nsIn K mainGlobals "list"=some none)
   (z_min:PySem.W.nsIn K mainGlobals "min"=some none)
   (z_range:PySem.W.nsIn K mainGlobals "range"=some none)
   (z_tuple:PySem.W.nsIn K mainGlobals "tuple"=some none)
   (z_zip:PySem.W.nsIn K mainGlobals "zip"=some none)
   (gl_BELL:jq PySem.Challenge.pw_underfloor_k20_bells w K mg "BELL" nO):
   ∃fd:FuncData,(∀(s:Shared) (v:Value),BindsTo s fd ⟨[v],[]⟩ [("_law_script",v)])∧∀base:Heap,K.In base→base.Ns mainGlobals mg→L2.b5 PySem.Challenge.pw_underfloor_k20_bells w K mg base L2.cL 12 fa fd ["_law_script"] (eR ⟨K,PySem.Challenge.pw_underfloor_k20_bells,w⟩ j9 1):=by
 have e:=hfa.symm.trans (PySem.W.mg_of X G a18)
 cases e
 have mg_all:=PySem.W.mg_none_of X G z_all
 have mg_bool:=PySem.W.mg_none_of X G z_bool
 have mg_dict:=PySem.W.mg_none_of X G z_dict
 have mg_int:=PySem.W.mg_none_of X G z_int
 have mg_isinstance:=PySem.W.mg_none_of X G z_isinstance
 have mg_len:=PySem.W.mg_none_of X G z_len
 have mg_list:=PySem.W.mg_none_of X G z_list
 have mg_min:=PySem.W.mg_none_of X G z_min
 have mg_range:=PySem.W.mg_none_of X G z_range
 have mg_tuple:=PySem.W.mg_none_of X G z_tuple
 have mg_zip:=PySem.W.mg_none_of X G z_zip
 refine⟨PySem.W.fnOf "law" "law" (L2.bH fH) (L2.bp fH) (L2.aE fH) .none kV18 dc18 pm18 an18 cd18 ct18,fun s v=>.of_eq rfl,fun base _ _=>?_⟩
 have df_law_mixed:=vv (P:=PySem.Challenge.pw_underfloor_k20_bells) (w:=w) (base:=base) (L2.cq (st:=iq) l0 c0 k0) (PySem.W.mg_of X G a0) mg_range
 have df_law_plain:=xZ (P:=PySem.Challenge.pw_underfloor_k20_bells) (w:=w) (base:=base) (L2.cq (st:=iT) l1 c1 k1) (PySem.W.mg_of X G a1)
 have df_law_task:=y4 (P:=PySem.Challenge.pw_underfloor_k20_bells) (w:=w) (base:=base) (L2.cq (st:=ik) l2 c2 k2) (PySem.W.mg_of X G a2)
 have df_law_state:=xY (P:=PySem.Challenge.pw_underfloor_k20_bells) (w:=w) (base:=base) (L2.cq (st:=gh) l3 c3 k3) (PySem.W.mg_of X G a3) mg_range df_law_mixed df_law_plain df_law_task
 have df_law_copied:=AU (P:=PySem.Challenge.pw_underfloor_k20_bells) (w:=w) (base:=base) (L2.cq (st:=eW) l4 c4 k4) (PySem.W.mg_of X G a4) mg_dict mg_isinstance mg_list mg_tuple
 have df_changed:=yo (P:=PySem.Challenge.pw_underfloor_k20_bells) (w:=w) (base:=base) (L2.cq (st:=ib) l5 c5 k5) (PySem.W.mg_of X G a5) mg_dict
 have df_with_task:=Bc (P:=PySem.Challenge.pw_underfloor_k20_bells) (w:=w) (base:=base) (L2.cq (st:=iV) l6 c6 k6) (PySem.W.mg_of X G a6) mg_dict df_changed
 have df_is_whole:=zQ (P:=PySem.Challenge.pw_underfloor_k20_bells) (w:=w) (base:=base) (L2.cq (st:=iL) l7 c7 k7) (PySem.W.mg_of X G a7) mg_bool mg_int mg_isinstance
 have df_is_ready:=wR (P:=PySem.Challenge.pw_underfloor_k20_bells) (w:=w) (base:=base) (L2.cq (st:=il) l8 c8 k8) (PySem.W.mg_of X G a8) df_is_whole
 have df_plain_bell:=y0 (P:=PySem.Challenge.pw_underfloor_k20_bells) (w:=w) (base:=base) (L2.cq (st:=i4) l9 c9 k9) (PySem.W.mg_of X G a9) mg_dict df_is_ready df_with_task
 have df_has_ended:=tO (P:=PySem.Challenge.pw_underfloor_k20_bells) (w:=w) (base:=base) (L2.cq (st:=iM) l10 c10 k10) (PySem.W.mg_of X G a10)
 have df_can_be_rung:=xc (P:=PySem.Challenge.pw_underfloor_k20_bells) (w:=w) (base:=base) (L2.cq (st:=hZ) l11 c11 k11) (PySem.W.mg_of X G a11) df_has_ended
 have df_answered_regs:=As (P:=PySem.Challenge.pw_underfloor_k20_bells) (w:=w) (base:=base) (L2.cq (st:=i7) l12 c12 k12) (PySem.W.mg_of X G a12) mg_list
 have df_answered:=AG (P:=PySem.Challenge.pw_underfloor_k20_bells) (w:=w) (base:=base) ⟨⟨_,_,_,_,_,_,_,_,_,_,_,_,rfl,l13,c13,t13,rfl⟩,k13⟩ (PySem.W.mg_of X G a13) df_answered_regs df_with_task (fun s us X hl=>by obtain⟨_,_,_,rfl⟩:=w9 hl;exact PySem.W.binds_K X rfl t13 rfl rfl rfl)
 have df_rung_plain:=Bb (P:=PySem.Challenge.pw_underfloor_k20_bells) (w:=w) (base:=base) (L2.cq (st:=iD) l14 c14 k14) (PySem.W.mg_of X G a14) mg_dict gl_BELL df_can_be_rung df_with_task df_answered
 have df_law_same:=AF (P:=PySem.Challenge.pw_underfloor_k20_bells) (w:=w) (base:=base) (L2.cq (st:=fN) l15 c15 k15) (PySem.W.mg_of X G a15) mg_all mg_bool mg_dict mg_isinstance mg_len mg_list mg_tuple mg_zip
 have df_law_entered:=uI (P:=PySem.Challenge.pw_underfloor_k20_bells) (w:=w) (base:=base) (L2.cq (st:=i3) l16 c16 k16) (PySem.W.mg_of X G a16) mg_list df_law_copied
 have df_law_rung:=va (P:=PySem.Challenge.pw_underfloor_k20_bells) (w:=w) (base:=base) (L2.cq (st:=hX) l17 c17 k17) (PySem.W.mg_of X G a17) df_law_copied
 have df_law:=uO (P:=PySem.Challenge.pw_underfloor_k20_bells) (w:=w) (base:=base) (L2.cq (st:=fH) l18 c18 k18) (PySem.W.mg_of X G a18) mg_len mg_min mg_range df_law_state df_law_copied df_plain_bell df_law_entered df_law_same df_rung_plain df_law_rung df_is_ready
 exact df_law
end eO
end PL
namespace PL
namespace eO
open PySem G C
theorem qt{i:Nat}{f:Xt}{ρ:En}{t:T}(h:f ρ=.ok t)(hn:jR ρ=true):hV i f ρ=.ok (.next (ρ.set i (.on (.tr t)))):=by
 unfold hV
 rw[h,R.bg,if_pos hn]
theorem rT{i:Nat}{ρ:En}{t:T}(h:ρ[i]? =some (.on (.tr t))):gW i ρ=.ok (.next (ρ.set i (.sh (T.toD t)))):=by
 unfold gW
 rw[h]
section
variable{p rw po x:Int}{r:Nat→Int}{wt hd sv:D}{b:Bool}
theorem xE (hw:Wt wt) (hh:Hd hd) (hs:Sv sv):∃X:D,nice X=true∧cx X<9∧ko [st (tk p (L8 r) rw wt hd (.bl b) sv) po x,.int 6]=.ok X∧i6 [st (tk p (L8 r) rw wt hd (.bl b) sv) po x]=.ok X:=by
 have hn:=fY (p:=p) (rw:=rw) (po:=po) (x:=x) (r:=r) (b:=b) hw hh hs
 have ent:∀(c:Bool) (X:D),(b8 (tV (e1 cM (e2 av (aa 2) (eC (S "waits"))))) (b8 (tV (e2 av (aa 2) (eC (S "rung")))) (b8 (tV (e2 fu (e2 av (aa 2) (eC (S "handler"))) (eC (.int 0)))) (tV (e1 cM (e2 av (aa 2) (eC (S "saved")))))))) [.sh (st (tk p (L8 r) rw wt hd (.bl b) sv) po x),.sh (st (tk p (L8 r) rw wt hd (.bl b) sv) po x),.sh (tk p (L8 r) rw wt hd (.bl b) sv)]=.ok c→
     (if c=true then aC [eA 1 (pA 1 2) (eC (S "saved")) (eX (xT [xF (jz 1 (e1 iz (e2 av (aa 2) (eC (S "regs"))))),xD (gT 1 (e2 av (aa 2) (eC (S "row"))))])),eA 1 (pA 1 2) (eC (S "rung")) (eC (.bl false)),eA 1 (pA 1 2) (eC (S "row")) (gT 1 (e2 av (aa 2) (eC (S "handler"))))] [.sh (st (tk p (L8 r) rw wt hd (.bl b) sv) po x),.on (.tr (deep (st (tk p (L8 r) rw wt hd (.bl b) sv) po x))),.on (.al 1 [0,0])]else .ok (.next [.sh (st (tk p (L8 r) rw wt hd (.bl b) sv) po x),.on (.tr (deep (st (tk p (L8 r) rw wt hd (.bl b) sv) po x))),.on (.al 1 [0,0])]))=.ok (.next [.sh (st (tk p (L8 r) rw wt hd (.bl b) sv) po x),.on (.tr (deep X)),.on (.al 1 [0,0])])→
     i6 [st (tk p (L8 r) rw wt hd (.bl b) sv) po x]=.ok X:=fun c X h1 h2=>by
   rw[i6]
   refine gZ ?_
   show aC _ [.sh (st (tk p (L8 r) rw wt hd (.bl b) sv) po x),.un,.un]=_
   rw[aO (qt (g9 rfl (mE hn)) rfl)]
   rw[aO (ρ':=[.sh (st (tk p (L8 r) rw wt hd (.bl b) sv) po x),.on (.tr (deep (st (tk p (L8 r) rw wt hd (.bl b) sv) po x))),.on (.al 1 [0,0])]) (by kernel_rfl)]
   have pk:∀f:aF,gJ 1 f [.sh (st (tk p (L8 r) rw wt hd (.bl b) sv) po x),.on (.tr (deep (st (tk p (L8 r) rw wt hd (.bl b) sv) po x))),.on (.al 1 [0,0])]=f [.sh (st (tk p (L8 r) rw wt hd (.bl b) sv) po x),.sh (st (tk p (L8 r) rw wt hd (.bl b) sv) po x),.sh (tk p (L8 r) rw wt hd (.bl b) sv)]:=fun f=>by
     have e:cI 1 (deep (st (tk p (L8 r) rw wt hd (.bl b) sv) po x)) [.sh (st (tk p (L8 r) rw wt hd (.bl b) sv) po x),.on (.tr (deep (st (tk p (L8 r) rw wt hd (.bl b) sv) po x))),.on (.al 1 [0,0])]=[.sh (st (tk p (L8 r) rw wt hd (.bl b) sv) po x),.sh (T.toD (deep (st (tk p (L8 r) rw wt hd (.bl b) sv) po x))),.sh (T.toD (deep (tk p (L8 r) rw wt hd (.bl b) sv)))]:=by kernel_rfl
     show f (cI 1 (deep (st (tk p (L8 r) rw wt hd (.bl b) sv) po x)) [.sh (st (tk p (L8 r) rw wt hd (.bl b) sv) po x),.on (.tr (deep (st (tk p (L8 r) rw wt hd (.bl b) sv) po x))),.on (.al 1 [0,0])])=_
     rw[e,fo,fo]
   rw[aO (ρ':=[.sh (st (tk p (L8 r) rw wt hd (.bl b) sv) po x),.on (.tr (deep X)),.on (.al 1 [0,0])]) (by
     cases c with
     |true=>rw[eE (by rw[pk];exact h1)];exact h2
     |false=>rw[cj (by rw[pk];exact h1)];exact h2)]
   rw[aO (rT rfl),fo]
   exact dj (fw rfl)
 by_cases hc:wt=.ai∧b=true∧(∃n:Nat,hd=.int ((n+1:Nat):Int))∧sv=.ai
 · obtain⟨rfl,rfl,⟨n,rfl⟩,rfl⟩:=hc
   refine⟨st (tk p (L8 r) ((n+1:Nat):Int) .ai (.int ((n+1:Nat):Int)) (.bl false) (.tup [.lst (L8 r),.int rw])) po x,(fY (.inl rfl) (.inr ⟨n,rfl⟩) (.inr ⟨_,_,rfl⟩)).1,(fY (.inl rfl) (.inr ⟨n,rfl⟩) (.inr ⟨_,_,rfl⟩)).2,by kernel_rfl,ent true _ ?_ (by kernel_rfl)⟩
   rw[dg (b:=true) (c:=true) (by kernel_rfl) (dg (b:=true) (c:=true) (by kernel_rfl) (dg (b:=true) (c:=true) (b4 (by rw[hU (i:=((n+1:Nat):Int)) (by kernel_rfl) rfl,decide_eq_true (by omega)])) (by kernel_rfl)))];rfl
 · refine ⟨_,hn.1,hn.2,?_,ent false _ ?_ rfl⟩
   · rcases hw with rfl|rfl|rfl|⟨_,rfl⟩|⟨_,rfl⟩
     · cases b with
       |false=>kernel_rfl
       | true=>
         rcases hh with rfl|⟨n,rfl⟩
         ·kernel_rfl
         · rcases hs with rfl|⟨_,_,rfl⟩
           ·exact absurd ⟨rfl,rfl,⟨n,rfl⟩,rfl⟩ hc
           ·kernel_rfl
     ·kernel_rfl
     ·kernel_rfl
     ·kernel_rfl
     ·kernel_rfl
   · have w1:∀ {d:D},d=wt→fA d=false→(tV (e1 cM (e2 av (aa 2) (eC (S "waits"))))) [.sh (st (tk p (L8 r) rw wt hd (.bl b) sv) po x),.sh (st (tk p (L8 r) rw wt hd (.bl b) sv) po x),.sh (tk p (L8 r) rw wt hd (.bl b) sv)]=.ok false:=fun {d} e h=>by
       subst e
       have:(e1 cM (e2 av (aa 2) (eC (S "waits")))) [.sh (st (tk p (L8 r) rw d hd (.bl b) sv) po x),.sh (st (tk p (L8 r) rw d hd (.bl b) sv) po x),.sh (tk p (L8 r) rw d hd (.bl b) sv)]=.ok (.bl (fA d)):=by kernel_rfl
       rw[b4 this,h]
     rcases hw with rfl|rfl|rfl|⟨_,rfl⟩|⟨_,rfl⟩
     · cases b with
       |false=>rw[dg (b:=true) (c:=false) (by kernel_rfl) (fT (by kernel_rfl))];rfl
       | true=>
         rcases hh with rfl|⟨n,rfl⟩
         ·rw[dg (b:=true) (c:=false) (by kernel_rfl) (dg (b:=true) (c:=false) (by kernel_rfl) (fT (b4 (by rw[hU (i:=0) (by kernel_rfl) rfl];rfl))))];rfl
         · rcases hs with rfl|⟨_,_,rfl⟩
           ·exact absurd ⟨rfl,rfl,⟨n,rfl⟩,rfl⟩ hc
           ·rw[dg (b:=true) (c:=false) (by kernel_rfl) (dg (b:=true) (c:=false) (by kernel_rfl) (dg (b:=true) (c:=false) (b4 (by rw[hU (i:=((n+1:Nat):Int)) (by kernel_rfl) rfl,decide_eq_true (by omega)])) (by kernel_rfl)))];rfl
     ·exact fT (w1 rfl rfl)
     ·exact fT (w1 rfl rfl)
     ·exact fT (w1 rfl rfl)
     ·exact fT (w1 rfl rfl)
theorem vU(hw:Wt wt)(he:∀y,wt≠.tup [S "ended",.int y])(hh:Hd hd)(hs:Sv sv):∃X:D,nice X=true∧cx X<9∧jZ [st (tk p (L8 r) rw wt hd (.bl b) sv) po x,.int 6]=.ok X∧gD [st (tk p (L8 r) rw wt hd (.bl b) sv) po x]=.ok X:=by
 have hn:=fY (p:=p) (rw:=rw) (po:=po) (x:=x) (r:=r) (b:=b) hw hh hs
 have hn2:=fY (p:=p) (rw:=rw) (po:=po) (x:=x) (r:=r) (b:=true) hw hh hs
 let r':Nat→Int:=fun j=>if j=0 then 4294967291 else r j
 have run:∀(c:Bool) (X:D),(b8 (tV (e1 cV (e2 av (aa 2) (eC (S "waits"))))) (b8 (tV (e2 fu (e2 av (aa 2) (eC (S "handler"))) (eC (.int 0)))) (tV (e1 cM (e2 av (aa 2) (eC (S "saved"))))))) [.sh (st (tk p (L8 r) rw wt hd (.bl b) sv) po x),.sh (st (tk p (L8 r) rw wt hd (.bl true) sv) po x),.sh (tk p (L8 r) rw wt hd (.bl true) sv)]=.ok c→
     (if c=true then aC [eA 1 (pA 1 2) (eC (S "waits")) (eC .ai),ll 1 (pX 1 (pA 1 2) (eC (S "regs"))) (eC (.int 0)) (eC (.int 4294967291))] [.sh (st (tk p (L8 r) rw wt hd (.bl b) sv) po x),.on (.tr (deep (st (tk p (L8 r) rw wt hd (.bl true) sv) po x))),.on (.al 1 [0,0])]else .ok (.next [.sh (st (tk p (L8 r) rw wt hd (.bl b) sv) po x),.on (.tr (deep (st (tk p (L8 r) rw wt hd (.bl true) sv) po x))),.on (.al 1 [0,0])]))=.ok (.next [.sh (st (tk p (L8 r) rw wt hd (.bl b) sv) po x),.on (.tr (deep X)),.on (.al 1 [0,0])])→
     gD [st (tk p (L8 r) rw wt hd (.bl b) sv) po x]=.ok X:=fun c X h1 h2=>by
   rw[gD]
   refine gZ ?_
   show aC _ [.sh (st (tk p (L8 r) rw wt hd (.bl b) sv) po x),.un,.un]=_
   rw[aO (qt (g9 rfl (mE hn)) rfl)]
   rw[aO (ρ':=[.sh (st (tk p (L8 r) rw wt hd (.bl b) sv) po x),.on (.tr (deep (st (tk p (L8 r) rw wt hd (.bl b) sv) po x))),.on (.al 1 [0,0])]) (by kernel_rfl)]
   rw[aO (ρ':=[.sh (st (tk p (L8 r) rw wt hd (.bl b) sv) po x),.on (.tr (deep (st (tk p (L8 r) rw wt hd (.bl true) sv) po x))),.on (.al 1 [0,0])]) (by kernel_rfl)]
   have pk:∀f:aF,gJ 1 f [.sh (st (tk p (L8 r) rw wt hd (.bl b) sv) po x),.on (.tr (deep (st (tk p (L8 r) rw wt hd (.bl true) sv) po x))),.on (.al 1 [0,0])]=f [.sh (st (tk p (L8 r) rw wt hd (.bl b) sv) po x),.sh (st (tk p (L8 r) rw wt hd (.bl true) sv) po x),.sh (tk p (L8 r) rw wt hd (.bl true) sv)]:=fun f=>by
     have e:cI 1 (deep (st (tk p (L8 r) rw wt hd (.bl true) sv) po x)) [.sh (st (tk p (L8 r) rw wt hd (.bl b) sv) po x),.on (.tr (deep (st (tk p (L8 r) rw wt hd (.bl true) sv) po x))),.on (.al 1 [0,0])]=[.sh (st (tk p (L8 r) rw wt hd (.bl b) sv) po x),.sh (T.toD (deep (st (tk p (L8 r) rw wt hd (.bl true) sv) po x))),.sh (T.toD (deep (tk p (L8 r) rw wt hd (.bl true) sv)))]:=by kernel_rfl
     show f (cI 1 (deep (st (tk p (L8 r) rw wt hd (.bl true) sv) po x)) [.sh (st (tk p (L8 r) rw wt hd (.bl b) sv) po x),.on (.tr (deep (st (tk p (L8 r) rw wt hd (.bl true) sv) po x))),.on (.al 1 [0,0])])=_
     rw[e,fo,fo]
   rw[aO (ρ':=[.sh (st (tk p (L8 r) rw wt hd (.bl b) sv) po x),.on (.tr (deep X)),.on (.al 1 [0,0])]) (by
     cases c with
     |true=>rw[eE (by rw[pk];exact h1)];exact h2
     |false=>rw[cj (by rw[pk];exact h1)];exact h2)]
   rw[aO (rT rfl),fo]
   exact dj (fw rfl)
 rcases hw with rfl|hw
 ·exact⟨_,hn2.1,hn2.2,by rcases hh with rfl|⟨n,rfl⟩<;>rcases hs with rfl|⟨_,_,rfl⟩<;>kernel_rfl,run false _ (by rw[fT (by kernel_rfl)]) rfl⟩
 · have hw1:(tV (e1 cV (e2 av (aa 2) (eC (S "waits"))))) [.sh (st (tk p (L8 r) rw wt hd (.bl b) sv) po x),.sh (st (tk p (L8 r) rw wt hd (.bl true) sv) po x),.sh (tk p (L8 r) rw wt hd (.bl true) sv)]=.ok true:=by
     have:(e1 cV (e2 av (aa 2) (eC (S "waits")))) [.sh (st (tk p (L8 r) rw wt hd (.bl b) sv) po x),.sh (st (tk p (L8 r) rw wt hd (.bl true) sv) po x),.sh (tk p (L8 r) rw wt hd (.bl true) sv)]=.ok (.bl (!fA wt)):=by kernel_rfl
     rw[b4 this]
     rcases hw with rfl|rfl|⟨_,rfl⟩|⟨_,rfl⟩<;>rfl
   rcases hh with rfl|⟨n,rfl⟩
   · refine⟨_,hn2.1,hn2.2,?_,run false _ ?_ rfl⟩
     · rcases hw with rfl|rfl|⟨_,rfl⟩|⟨y,rfl⟩
       ·kernel_rfl
       ·kernel_rfl
       ·kernel_rfl
       ·exact absurd rfl (he y)
     ·rw[dg (b:=true) (c:=false) hw1 (fT (b4 (by rw[hU (i:=0) (by kernel_rfl) rfl];rfl)))];rfl
   · rcases hs with rfl|⟨_,_,rfl⟩
     · refine⟨st (tk p (L8 r') rw .ai (.int ((n+1:Nat):Int)) (.bl true) .ai) po x,(fY (.inl rfl) (.inr ⟨n,rfl⟩) (.inl rfl)).1,(fY (.inl rfl) (.inr ⟨n,rfl⟩) (.inl rfl)).2,?_,run true _ ?_ (by rcases hw with rfl|rfl|⟨_,rfl⟩|⟨_,rfl⟩<;>kernel_rfl)⟩
       · rcases hw with rfl|rfl|⟨_,rfl⟩|⟨y,rfl⟩
         ·kernel_rfl
         ·kernel_rfl
         ·kernel_rfl
         ·exact absurd rfl (he y)
       ·rw[dg (b:=true) (c:=true) hw1 (dg (b:=true) (c:=true) (b4 (by rw[hU (i:=((n+1:Nat):Int)) (by kernel_rfl) rfl,decide_eq_true (by omega)])) (by kernel_rfl))];rfl
     · refine⟨_,hn2.1,hn2.2,?_,run false _ ?_ rfl⟩
       · rcases hw with rfl|rfl|⟨_,rfl⟩|⟨y,rfl⟩
         ·kernel_rfl
         ·kernel_rfl
         ·kernel_rfl
         ·exact absurd rfl (he y)
       ·rw[dg (b:=true) (c:=false) hw1 (dg (b:=true) (c:=false) (b4 (by rw[hU (i:=((n+1:Nat):Int)) (by kernel_rfl) rfl,decide_eq_true (by omega)])) (by kernel_rfl))];rfl
end
theorem AB{ns:List Int}{k c:Int}(h0:0≤k)(h1:k<1000)(hc:bW (ns.map D.int) k=some (.int c))(s2 s3 s4 s5 s6:Slot):∃t2 t3 t4 t5 t6:Slot,iP [.sh (.lst (ns.map .int)),.sh (.int k),s2,s3,s4,s5,s6]=.ok (.next [.sh (.lst (ns.map .int)),.sh (.int k),t2,t3,t4,t5,t6]):=by
 obtain⟨p,rw',po,x,r,wt,hd,sv,b,hw,hh,hs,est⟩:=vH c h0 h1
 have hn:=fY (p:=p) (rw:=rw') (po:=po) (x:=x) (r:=r) (b:=b) hw hh hs
 obtain⟨X,x1,x2,eb,ee⟩:=xE (p:=p) (rw:=rw') (po:=po) (x:=x) (r:=r) (b:=b) hw hh hs
 generalize hone:tk p (L8 r) rw' wt hd (.bl b) sv=one at*
 rw[iP]
 rw[aO (d4 (cX (b0 rfl rfl (we hc)) rfl est))]
 show ∃t2 t3 t4 t5 t6:Slot,aC _ [.sh (.lst (ns.map .int)),.sh (.int k),.sh (st one po x),s3,s4,s5,s6]=_
 rw[aO (d4 (d:=st one po x) (by rw[si (g9 rfl (mE hn)),fo]))]
 show ∃t2 t3 t4 t5 t6:Slot,aC _ [.sh (.lst (ns.map .int)),.sh (.int k),.sh (st one po x),.sh (st one po x),s4,s5,s6]=_
 rw[aO (d4 (cX rfl rfl eb))]
 show ∃t2 t3 t4 t5 t6:Slot,aC _ [.sh (.lst (ns.map .int)),.sh (.int k),.sh (st one po x),.sh (st one po x),.sh X,s5,s6]=_
 rw[aO (cj (lN (b:=false) (c:=false) (iQ (b4 (b:=true) (cX rfl (rY rfl ee) (same_self ⟨x1,x2⟩)))) (iQ (b4 (b:=true) (cX rfl rfl (same_self hn))))))]
 obtain⟨ov,hov,eov⟩:∃ov:Bool,(ov=false→∀y,wt≠.tup [S "ended",.int y])∧(b6 (e1 cV (e2 av (e2 av (e2 av (aa 2) (eC (S "tasks"))) (eC (.int 6))) (eC (S "waits")))) (e2 oEq (e2 av (e2 av (e2 av (e2 av (aa 2) (eC (S "tasks"))) (eC (.int 6))) (eC (S "waits"))) (eC (.int 0))) (eC (S "ended")))) [.sh (.lst (ns.map .int)),.sh (.int k),.sh (st one po x),.sh (st one po x),.sh X,s5,s6]=.ok (.bl ov):=by
   subst hone
   rcases hw with rfl|rfl|rfl|⟨y,rfl⟩|⟨y,rfl⟩
   ·exact⟨false,(fun _ _ h=>by cases h),by kernel_rfl⟩
   ·exact⟨false,(fun _ _ h=>by cases h),by kernel_rfl⟩
   ·exact⟨false,(fun _ _ h=>by cases h),by kernel_rfl⟩
   ·exact⟨false,(fun _ _ h=>by cases h),by kernel_rfl⟩
   ·exact⟨true,(fun h=>by cases h),by kernel_rfl⟩
 rw[aO (d4 eov)]
 show ∃t2 t3 t4 t5 t6:Slot,aC _ [.sh (.lst (ns.map .int)),.sh (.int k),.sh (st one po x),.sh (st one po x),.sh X,.sh (.bl ov),s6]=_
 obtain⟨Y,eif⟩:∃Y:D,aQ (bP (tV (aa 5))) (aC [bZ (aM 4) (aJ jZ [aa 3,eC (.int 6)]),aQ (cv (bP (tV (aJ eh [aa 4,aJ gD [aa 2]]))) (bP (tV (aJ eh [aa 3,aa 2])))) (aR (eC (.bl false))) (aS)]) (aS) [.sh (.lst (ns.map .int)),.sh (.int k),.sh (st one po x),.sh (st one po x),.sh X,.sh (.bl ov),s6]=.ok (.next [.sh (.lst (ns.map .int)),.sh (.int k),.sh (st one po x),.sh (st one po x),.sh Y,.sh (.bl ov),s6]):=by
   cases ov with
   |true=>exact⟨X,cj rfl⟩
   | false=>
     obtain⟨Y,y1,y2,er,el⟩:=vU (p:=p) (rw:=rw') (po:=po) (x:=x) (r:=r) (b:=b) hw (hov rfl) hh hs
     rw[hone]at er el
     refine⟨Y,?_⟩
     rw[eE rfl,aO (d4 (cX rfl rfl er))]
     show aC _ [.sh (.lst (ns.map .int)),.sh (.int k),.sh (st one po x),.sh (st one po x),.sh Y,.sh (.bl false),s6]=_
     rw[aO (cj (lN (b:=false) (c:=false) (iQ (b4 (b:=true) (cX rfl (rY rfl el) (same_self ⟨y1,y2⟩)))) (iQ (b4 (b:=true) (cX rfl rfl (same_self hn))))))]
     rfl
 rw[aO eif]
 have erd:(dE [aJ eG [aa 3,eC (.int 6)],aJ eG [aa 3,eC (.int 2)],aJ eG [aa 3,eC (.int 5)]]) [.sh (.lst (ns.map .int)),.sh (.int k),.sh (st one po x),.sh (st one po x),.sh Y,.sh (.bl ov),s6]=.ok (.lst [.bl (fA wt),.bl true,.bl false]):=by
   subst hone
   kernel_rfl
 rw[aO (d4 erd)]
 show ∃t2 t3 t4 t5 t6:Slot,aC _ [.sh (.lst (ns.map .int)),.sh (.int k),.sh (st one po x),.sh (st one po x),.sh Y,.sh (.bl ov),.sh (.lst [.bl (fA wt),.bl true,.bl false])]=_
 have edue:(dE [e1 cM (e2 av (e2 av (e2 av (aa 2) (eC (S "tasks"))) (eC (.int 6))) (eC (S "waits"))),eC (.bl true),eC (.bl false)]) [.sh (.lst (ns.map .int)),.sh (.int k),.sh (st one po x),.sh (st one po x),.sh Y,.sh (.bl ov),.sh (.lst [.bl (fA wt),.bl true,.bl false])]=.ok (.lst [.bl (fA wt),.bl true,.bl false]):=by
   subst hone
   kernel_rfl
 rw[aO (cj (lN (b:=false) (c:=false) (iQ (b4 (b:=true) (cX rfl edue (same_self ⟨rfl,by show 0+1<9;decide⟩)))) (iQ (b4 (b:=true) (cX rfl rfl (same_self hn))))))]
 exact⟨_,_,_,_,_,rfl⟩
theorem AA(ns:List Int)(h:ns.length≤63):j9 [.lst (ns.map .int)]=.ok (.bl true):=by
 rw[j9]
 refine gZ ?_
 show aC _ [.sh (.lst (ns.map .int)),.un,.un,.un,.un,.un,.un]=_
 have em:(e2 ku (e1 iK (aa 0)) (eC (.int 60))) [.sh (.lst (ns.map .int)),.un,.un,.un,.un,.un,.un]=.ok (.int (if(60:Int)<ns.length then 60 else ns.length)):=by
   refine b0 (x:=.int ns.length) (y:=.int 60) ?_ rfl rfl
   refine fz rfl ?_
   show R.ok (D.int ((ns.map D.int).length:Int))=_
   rw[List.length_map]
 obtain⟨ρ',eL,s1,s2,s3,s4,s5,s6,rfl⟩:=mn (tg:=aM 1) (body:=iP) (fun ρ=>∃s1 s2 s3 s4 s5 s6,ρ=[.sh (.lst (ns.map .int)),s1,s2,s3,s4,s5,s6]) (ds:=dR 0 (if(60:Int)<ns.length then 60 else ns.length)) (by
   rintro d hd ρ ⟨s1,s2,s3,s4,s5,s6,rfl⟩
   obtain⟨k,rfl,k0,k1⟩:=zV hd
   have hk:k<ns.length∧k<1000:=by split at k1<;>omega
   obtain⟨c,_,hc⟩:=Ae (xs:=ns) k0 hk.1
   obtain⟨t2,t3,t4,t5,t6,et⟩:=AB k0 hk.2 hc s2 s3 s4 s5 s6
   exact⟨_,rfl,_,et,_,_,_,_,_,_,rfl⟩) (ρ:=[.sh (.lst (ns.map .int)),.un,.un,.un,.un,.un,.un]) ⟨_,_,_,_,_,_,rfl⟩
 rw[aO (o5 (qr em (qY (by split<;>omega) (by split<;>omega))) eL)]
 exact dj (fw rfl)
end eO
end PL
open PySem PySem.W PyProof.Rows
set_option maxRecDepth 100000 in
set_option maxHeartbeats 0 in
theorem PySem.Challenge.cw_underfloor_k20_bells_holds : PySem.Challenge.rw_underfloor_k20_bells.Holds := by
  w_on; o_law; k_head; (case hw => w_witness2)
  k_fill
  refine PL.walk (l := PySem.Challenge.rw_underfloor_k20_bells) (k := 12) (x := "_law_script") (m := PL.eO.j9) rfl rfl ⟨rfl, by decide, by decide⟩ (fun w h Y => PySem.W.kIn_of Y) ?F PL.eO.AA
  case F =>
    intro w mg fa h KX G hmg
    refine' PL.eO.all_mk KX G hmg ?a0 ?l0 ?c0 ?k0 ?a1 ?l1 ?c1 ?k1 ?a2 ?l2 ?c2 ?k2 ?a3 ?l3 ?c3 ?k3 ?a4 ?l4 ?c4 ?k4 ?a5 ?l5 ?c5 ?k5 ?a6 ?l6 ?c6 ?k6 ?a7 ?l7 ?c7 ?k7 ?a8 ?l8 ?c8 ?k8 ?a9 ?l9 ?c9 ?k9 ?a10 ?l10 ?c10 ?k10 ?a11 ?l11 ?c11 ?k11 ?a12 ?l12 ?c12 ?k12 ?a13 ?l13 ?t13 ?c13 ?k13 ?a14 ?l14 ?c14 ?k14 ?a15 ?l15 ?c15 ?k15 ?a16 ?l16 ?c16 ?k16 ?a17 ?l17 ?c17 ?k17 ?a18 ?l18 ?c18 ?k18 ?z_all ?z_bool ?z_dict ?z_int ?z_isinstance ?z_len ?z_list ?z_min ?z_range ?z_tuple ?z_zip ?gl_BELL
    (case a0 => k_is)
    (case l0 => k_is)
    (case c0 => k_is)
    (case k0 => k_is)
    (case a1 => k_is)
    (case l1 => k_is)
    (case c1 => k_is)
    (case k1 => k_is)
    (case a2 => k_is)
    (case l2 => k_is)
    (case c2 => k_is)
    (case k2 => k_is)
    (case a3 => k_is)
    (case l3 => k_is)
    (case c3 => k_is)
    (case k3 => k_is)
    (case a4 => k_is)
    (case l4 => k_is)
    (case c4 => k_is)
    (case k4 => k_is)
    (case a5 => k_is)
    (case l5 => k_is)
    (case c5 => k_is)
    (case k5 => k_is)
    (case a6 => k_is)
    (case l6 => k_is)
    (case c6 => k_is)
    (case k6 => k_is)
    (case a7 => k_is)
    (case l7 => k_is)
    (case c7 => k_is)
    (case k7 => k_is)
    (case a8 => k_is)
    (case l8 => k_is)
    (case c8 => k_is)
    (case k8 => k_is)
    (case a9 => k_is)
    (case l9 => k_is)
    (case c9 => k_is)
    (case k9 => k_is)
    (case a10 => k_is)
    (case l10 => k_is)
    (case c10 => k_is)
    (case k10 => k_is)
    (case a11 => k_is)
    (case l11 => k_is)
    (case c11 => k_is)
    (case k11 => k_is)
    (case a12 => k_is)
    (case l12 => k_is)
    (case c12 => k_is)
    (case k12 => k_is)
    (case a13 => k_is)
    (case l13 => k_is)
    (case t13 => k_is)
    (case c13 => k_is)
    (case k13 => k_is)
    (case a14 => k_is)
    (case l14 => k_is)
    (case c14 => k_is)
    (case k14 => k_is)
    (case a15 => k_is)
    (case l15 => k_is)
    (case c15 => k_is)
    (case k15 => k_is)
    (case a16 => k_is)
    (case l16 => k_is)
    (case c16 => k_is)
    (case k16 => k_is)
    (case a17 => k_is)
    (case l17 => k_is)
    (case c17 => k_is)
    (case k17 => k_is)
    (case a18 => k_is)
    (case l18 => k_is)
    (case c18 => k_is)
    (case k18 => k_is)
    (case z_all => k_is)
    (case z_bool => k_is)
    (case z_dict => k_is)
    (case z_int => k_is)
    (case z_isinstance => k_is)
    (case z_len => k_is)
    (case z_list => k_is)
    (case z_min => k_is)
    (case z_range => k_is)
    (case z_tuple => k_is)
    (case z_zip => k_is)
    (case gl_BELL => refine' PL.wq KX G ?x1_BELL ?x2_BELL; (case x1_BELL => k_is); (case x2_BELL => exact ⟨_, rfl⟩))

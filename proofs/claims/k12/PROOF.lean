import PyProof.Rows.All
import Wide.All
import OpenK.AllK
import Wide.FinOn
import Lean
import PyProof.EqAt
import PyProof.EqKinds
import PyProof.TupleCall
import KE.KIntText
import Wide.Seal
import PyProof.Rows.SortStr
import KE.KDictList
import PyProof.StrBlockH
import KE.KSortedL
import KE.KSorted
import PyProof.Rows.SortWalk
import PySem.Challenge.RW_underfloor_k12_words_in_pages
set_option Elab.async false
set_option linter.all false
set_option maxRecDepth 100000
namespace L2
open PySem PySem.Spec PyProof.Rows
noncomputable abbrev Key:=Sum Int Str
noncomputable def iH:Key→Value→Bool
 |.inl k,v=>Value.isInt k v
 |.inr x,v=>Value.isStrOf x v
noncomputable def AA(w:World):Key→Int
 |.inl k=>hashInt k
 |.inr x=>hashStr w x
theorem fU:∀ {k:Key} {v:Value},iH k v=true→(∃i t,k=Sum.inl i∧v=Value.int i t)∨(∃x t,k=Sum.inr x∧v=Value.str x t)
 | .inl i,v,h=>by
   obtain⟨t,e⟩:=Value.isInt_shape (k:=i) (v:=v) h
   exact .inl ⟨i,t,rfl,e⟩
 | .inr x,v,h=>by
   obtain⟨t,e⟩:=Value.isStrOf_shape (x:=x) (v:=v) h
   exact .inr ⟨x,t,rfl,e⟩
theorem xK(i:Int)(t:Tok):iH (.inl i) (.int i t)=true:=by simp[iH,Value.isInt]
theorem An(x:Str)(t:Tok):iH (.inr x) (.str x t)=true:=by simp[iH,Value.isStrOf]
theorem zp(a b:Int):decide ((Sum.inl a:Key)=Sum.inl b)=(a==b):=by
 by_cases e:a=b
 ·subst e;simp
 · have h:¬(Sum.inl a:Key)=Sum.inl b:=fun q=>e (Sum.inl.inj q)
   rw[decide_eq_false h]
   exact(beq_eq_false_iff_ne.mpr e).symm
theorem EN(a b:Str):decide ((Sum.inr a:Key)=Sum.inr b)=decide (a=b):=by
 by_cases e:a=b
 ·subst e;simp
 · have h:¬(Sum.inr a:Key)=Sum.inr b:=fun q=>e (Sum.inr.inj q)
   rw[decide_eq_false h,decide_eq_false e]
theorem wX(a:Int)(b:Str):decide ((Sum.inl a:Key)=Sum.inr b)=false:=decide_eq_false (fun q=>nomatch q)
theorem wb(a:Str)(b:Int):decide ((Sum.inr a:Key)=Sum.inl b)=false:=decide_eq_false (fun q=>nomatch q)
noncomputable def bL(prog:Program)(w:World):PySem.KeyKind prog w Key where
 is:=iH
 hash:=AA w
 inj:=fun v a b ha hb=>by
   rcases fU ha with⟨i,t,rfl,rfl⟩|⟨x,t,rfl,rfl⟩
   · rcases fU hb with⟨j,u,rfl,e⟩|⟨y,u,rfl,e⟩
     ·injection e with e1 _;rw[e1]
     ·exact nomatch e
   · rcases fU hb with⟨j,u,rfl,e⟩|⟨y,u,rfl,e⟩
     ·exact nomatch e
     ·injection e with e1 _;rw[e1]
 byValue:=fun k v h=>by
   rcases fU h with⟨i,t,rfl,rfl⟩|⟨x,t,rfl,rfl⟩<;>rfl
 pyHash:=fun hv h=>by
   rcases fU hv with⟨i,t,rfl,rfl⟩|⟨x,t,rfl,rfl⟩
   ·exact wpAny_pyHash_int h
   ·exact wpAny_pyHash_str h
 eqBool:=fun hu hv h=>by
   rcases fU hu with⟨i,t,rfl,rfl⟩|⟨x,t,rfl,rfl⟩
   · rcases fU hv with⟨j,u,rfl,rfl⟩|⟨y,u,rfl,rfl⟩
     ·rw[zp]at h;exact wpAny_eqBool_int h
     ·rw[wX]at h;exact SeqAt.EqAt.int_str i t y u _ _ _ _ h
   · rcases fU hv with⟨j,u,rfl,rfl⟩|⟨y,u,rfl,rfl⟩
     ·rw[wb]at h;exact SeqAt.EqAt.str_int x t j u _ _ _ _ h
     ·rw[EN]at h;exact wpAny_eqBool_str h
 «strs»:=fun k x t v h=>by
   rcases fU h with⟨i,u,rfl,e⟩|⟨y,u,rfl,e⟩
   ·exact nomatch e
   · injection e with e1 _
     subst e1
     cases v<;>rfl
theorem zu(prog:Program)(w:World)(i:Int)(t:Tok):(bL prog w).is (.inl i) (.int i t)=true:=xK i t
theorem zH(prog:Program)(w:World)(x:Str)(t:Tok):(bL prog w).is (.inr x) (.str x t)=true:=An x t
end L2
namespace L2
open PySem PySem.Spec PyProof.Rows
inductive V where
 |aA|bl (b:Bool)|int (i:Int)|str (x:Str)|jU (b:Array UInt8)|mM (b:UInt64)|ref (a:Addr)|ty (n:String)
 deriving DecidableEq
noncomputable def RelV:V→Value→Prop
 |.aA,u=>u=Value.none
 |.bl b,u=>u=Value.bool b
 |.int i,u=>∃t,u=Value.int i t
 |.str x,u=>∃t,u=Value.str x t
 |.jU b,u=>∃t,u=Value.bytes b t
 |.mM b,u=>∃t,u=Value.float b t
 |.ref a,u=>u=Value.ref a
 |.ty n,u=>u=Value.type n
noncomputable abbrev Vals:List V→List Value→Prop:=Paired RelV
theorem Vals.length{xs:List V}{us:List Value}(r:Vals xs us):xs.length=us.length:=Paired.length r
theorem Vals.get:∀ {xs:List V} {us:List Value} {i:Nat} {x:V},Vals xs us→xs[i]? =some x→∃u,us[i]? =some u∧RelV x u
 |_,_,_,_,.nil,e=>by simp at e
 |_,_,0,_,.cons r _,e=>by simp at e;subst e;exact⟨_,rfl,r⟩
 | _,_,i+1,x,.cons _ t,e=>by
   obtain⟨u,h1,h2⟩:=Vals.get (i:=i) (x:=x) t (by simpa using e)
   exact⟨u,by simpa using h1,h2⟩
theorem Vals.set{x:V}{u:Value}(r:RelV x u):∀ {xs:List V} {us:List Value} (i:Nat),Vals xs us→Vals (xs.set i x) (us.set i u)
 |_,_,_,.nil=>.nil
 |_,_,0,.cons _ t=>.cons r t
 |_,_,i+1,.cons q t=>.cons q (Vals.set r i t)
theorem Vals.append:∀ {xs ys:List V} {us ws:List Value},Vals xs us→Vals ys ws→Vals (xs++ys) (us++ws)
 |_,_,_,_,.nil,s=>s
 |_,_,_,_,.cons r t,s=>.cons r (Vals.append t s)
theorem Vals.take:∀ {xs:List V} {us:List Value} (n:Nat),Vals xs us→Vals (xs.take n) (us.take n)
 |_,_,0,_=>.nil
 |_,_,_+1,.nil=>.nil
 |_,_,n+1,.cons r t=>.cons r (Vals.take n t)
theorem Vals.drop:∀ {xs:List V} {us:List Value} (n:Nat),Vals xs us→Vals (xs.drop n) (us.drop n)
 |_,_,0,r=>r
 |_,_,_+1,.nil=>.nil
 |_,_,n+1,.cons _ t=>Vals.drop n t
theorem Vals.none_of:∀ {xs:List V} {us:List Value} {i:Nat},Vals xs us→xs[i]? =none→us[i]? =none:=fun {xs us i} r e=>by
 have h1:=r.length
 have h2:xs.length≤i:=List.getElem?_eq_none_iff.mp e
 exact List.getElem?_eq_none_iff.mpr (by omega)
noncomputable def dF:Option V→Option Value→Prop
 |some v,some u=>RelV v u
 |none,none=>True
 |_,_=>False
noncomputable def KV{κ:Type}:List (κ×V)→List (κ×Value)→Prop:=Paired fun(p:κ×V) (q:κ×Value)=>p.1=q.1∧RelV p.2 q.2
noncomputable def kV:Key→V
 |.inl i=>.int i
 |.inr x=>.str x
inductive HO where
 |lst (xs:List V)
 |tup (xs:List V)
 |dK (kvs:List (Key×V))|dT (kvs:List (List Key×V))
 |set (S:Int→Bool) (n:Nat)
 |ins (C dx:Addr) (fs:List (Str×V))
 |own (x:Addr)
 |xd (fs:List (Str×V))
 |met (f x:Addr)
 |lS (lo hi:Int)
 |frz (o:Obj) (u:HO)
 |gO (ps:Array Value)
 |ext (φ:Heap→Prop)
noncomputable abbrev Hp:=Addr→Option HO
noncomputable def upd(H:Hp)(a:Addr)(o:HO):Hp:=fun b=>if b=a then some o else H b
theorem bt{H:Hp}{a:Addr}{o:HO}:upd H a o a=some o:=by unfold upd;rw[if_pos rfl]
theorem aC{H:Hp}{a b:Addr}{o:HO}(h:b≠a):upd H a o b=H b:=by unfold upd;rw[if_neg h]
theorem o9{H:Hp}{a:Addr}{o u:HO}:upd (upd H a o) a u=upd H a u:=by
 funext b;unfold upd;split<;>rfl
theorem BB{H:Hp}{a b:Addr}{o u:HO}(h:H a=some o)(h':H b=some u)(d:o≠u):a≠b:=by
 intro e;subst e;rw[h]at h';exact d (Option.some.inj h')
theorem fg{H:Hp}{a b:Addr}{o:HO}(h:H a=some o)(h':H b=none):a≠b:=by
 intro e;subst e;rw[h]at h';cases h'
section
variable(P:Program)(w:World)
noncomputable def cf(H:Hp)(h:Heap)(a:Addr):HO→Prop
 |.lst xs=>xs.length≤sizeLine∧∃(its:List Value) (n:Nat),Vals xs its∧h.get? a=some {cls:=.type "list",data:=.seq its.toArray n}
 |.tup xs=>xs.length≤sizeLine∧∃its:List Value,Vals xs its∧IsTup h a its.toArray
 |.dK kvs=>kvs.length≤sizeLine∧(a==sysModules)=false∧∃vs,KV kvs vs∧h.DictOf (bL P w) a vs
 |.dT kvs=>kvs.length≤sizeLine∧(a==sysModules)=false∧∃xs:List (List Key×Addr×Value),
     Paired (fun(p:List Key×V) (q:List Key×Addr×Value)=>p.1=q.1∧H q.2.1=some (.tup (p.1.map kV))∧RelV p.2 q.2.2) kvs xs∧
     ∃o es ep,h.get? a=some o∧o.ExactDict∧o.data=.dict es ep∧es.toList=xs.map (entryOfKey (tupleKind (bL P w)))∧(xs.map (·.1)).Nodup
 |.set S n=>h.SetOf (intKind P w) a S n
 |.ins C dx fs=>H dx=some (.own a)∧fs.length≤1000∧dx≠a∧h.get? a=some (PySem.W.instObj C dx)∧
     ∃mA,h.Ns1 dx mA∧(∀f,dF (fs.lookup f) (mA f))∧PySem.Within mA (fs.map (·.1))
 |.own _=>∃o,h.get? a=some o
 |.xd fs=>∃mA,h.Ns1 a mA∧∀f,dF (fs.lookup f) (mA f)
 |.lS lo hi=>∃t u v,h.get? a=some {cls:=.type "range",data:=.fields #[.int lo t,.int hi u,.int 1 v]}
 |.frz o u=>h.get? a=some o∧cf H h a u
 |.gO ps=>h.get? a=some {cls:=.none,data:=.fields ps}
 |.met f x=>h.get? a=some (PySem.W.methodObj (.ref f) (.ref x))
 |.ext φ=>φ h∧(∃o,h.get? a=some o)∧∀h1 h2:Heap,φ h1→(∀o,h1.get? a=some o→h2.get? a=some o)→φ h2
noncomputable def bp(H:Hp)(h:Heap):Prop:=∀a o,H a=some o→cf P w H h a o
end
section
variable{P:Program}{w:World}{H H':Hp}{h h':Heap}{a:Addr}{o:HO}
theorem cf.lt(x:cf P w H h a o):a<h.objs.size:=by
 cases o with
 |lst xs=>obtain⟨_,_,_,_,e⟩:=x;exact Heap.lt_size e
 |tup xs=>obtain⟨_,_,_,p⟩:=x;exact p.lt
 |dK kvs=>obtain⟨_,_,_,_,o,_,_,e,_⟩:=x;exact Heap.lt_size e
 |dT kvs=>obtain⟨_,_,_,_,o,_,_,e,_⟩:=x;exact Heap.lt_size e
 |set S n=>obtain⟨o,_,_,_,e,_⟩:=x;exact Heap.lt_size e
 |ins C dx fs=>obtain⟨_,_,_,e,_⟩:=x;exact Heap.lt_size e
 |own y=>obtain⟨_,e⟩:=x;exact Heap.lt_size e
 |xd fs=>obtain⟨_,⟨_,_,_,e,_⟩,_⟩:=x;exact Heap.lt_size e
 |lS lo hi=>obtain⟨_,_,_,e⟩:=x;exact Heap.lt_size e
 |frz ob u=>obtain⟨e,_⟩:=x;exact Heap.lt_size e
 |gO ps=>exact Heap.lt_size (show h.get? a=some _ from x)
 |met f y=>exact Heap.lt_size (show h.get? a=some _ from x)
 |ext φ=>obtain⟨_,⟨_,e⟩,_⟩:=x;exact Heap.lt_size e
theorem Paired.pC{α β:Type}{F G:α→β→Prop}:∀ {l₁:List α} {l₂:List β},Paired F l₁ l₂→(∀a b,F a b→G a b)→Paired G l₁ l₂
 |_,_,.nil,_=>.nil
 |_,_,.cons r t,f=>.cons (f _ _ r) (Paired.pC t f)
theorem cf.gk(x:cf P w H h a o)(k:∀b u,(b=a∨H b=some (.own a))→h.get? b=some u→h'.get? b=some u)
   (ho:∀b,H b=some (.own a)→H' b=some (.own a)) (ht:∀b xs,H b=some (.tup xs)→H' b=some (.tup xs)):cf P w H' h' a o:=by
 induction o with
 |lst xs=>obtain⟨z,its,n,r,e⟩:=x;exact⟨z,its,n,r,k _ _ (.inl rfl) e⟩
 |tup xs=>obtain⟨z,its,r,ob,e,c⟩:=x;exact⟨z,its,r,ob,k _ _ (.inl rfl) e,c⟩
 |dK kvs=>obtain⟨z,y,vs,r,ob,es,ep,e,c⟩:=x;exact⟨z,y,vs,r,ob,es,ep,k _ _ (.inl rfl) e,c⟩
 | dT kvs=>
   obtain⟨z,y,xs,r,ob,es,ep,e,c⟩:=x
   exact⟨z,y,xs,Paired.pC r fun p q z=>⟨z.1,ht _ _ z.2.1,z.2.2⟩,ob,es,ep,k _ _ (.inl rfl) e,c⟩
 |set S n=>obtain⟨ob,es,ep,t,e,c⟩:=x;exact⟨ob,es,ep,t,k _ _ (.inl rfl) e,c⟩
 | ins C dx fs=>
   obtain⟨d,z,ne,e,mA,⟨od,es,ep,e2,c⟩,r⟩:=x
   exact⟨ho _ d,z,ne,k _ _ (.inl rfl) e,mA,⟨od,es,ep,k _ _ (.inr d) e2,c⟩,r⟩
 |own y=>obtain⟨ob,e⟩:=x;exact⟨ob,k _ _ (.inl rfl) e⟩
 |xd fs=>obtain⟨mA,⟨od,es,ep,e,c⟩,r⟩:=x;exact⟨mA,⟨od,es,ep,k _ _ (.inl rfl) e,c⟩,r⟩
 |lS lo hi=>obtain⟨t,u,v,e⟩:=x;exact⟨t,u,v,k _ _ (.inl rfl) e⟩
 |frz ob u ih=>obtain⟨e,q⟩:=x;exact⟨k _ _ (.inl rfl) e,ih q⟩
 | gO ps=>
   have e:h.get? a=some {cls:=.none,data:=.fields ps}:=x
   show h'.get? a=some {cls:=.none,data:=.fields ps}
   exact k a _ (.inl rfl) e
 | met f y=>
   have e:h.get? a=some (PySem.W.methodObj (.ref f) (.ref y)):=x
   show h'.get? a=some (PySem.W.methodObj (.ref f) (.ref y))
   exact k a _ (.inl rfl) e
 |ext φ=>obtain⟨p,⟨o,e⟩,st⟩:=x;exact⟨st _ _ p fun o q=>k _ _ (.inl rfl) q,⟨o,k _ _ (.inl rfl) e⟩,st⟩
theorem bp.lt(x:bp P w H h)(e:H a=some o):a<h.objs.size:=(x a o e).lt
theorem bp.fresh(x:bp P w H h)(e:h.objs.size≤a):H a=none:=by
 cases q:H a with
 |none=>rfl
 |some u=>exact absurd (Nat.lt_of_lt_of_le (x.lt q) e) (Nat.lt_irrefl _)
theorem bp.kept(x:bp P w H h)(k:∀b u,h.get? b=some u→h'.get? b=some u):bp P w H h':=fun a o e=>
 (x a o e).gk (fun b u _ q=>k b u q) (fun _ q=>q) fun _ _ q=>q
theorem bp.laid(x:bp P w H h)(k:∀b u,h.get? b=some u→h'.get? b=some u)(hp:h.objs.size≤a)(new:cf P w (upd H a o) h' a o):bp P w (upd H a o) h':=fun b u e=>by
 have hn:=x.fresh hp
 by_cases hb:b=a
 ·subst hb;rw[bt]at e;cases e;exact new
 · rw[aC hb]at e
   exact(x b u e).gk (fun c v _ q=>k c v q) (fun c q=>by rw[aC (fg q hn)];exact q) fun c xs q=>by rw[aC (fg q hn)];exact q
end
noncomputable def Rd(H:Hp)(a:Addr)(u:HO):Prop:=H a=some u∨∃o,H a=some (.frz o u)
theorem Rd.of{H:Hp}{a:Addr}{u:HO}(h:H a=some u):Rd H a u:=.inl h
theorem Rd.ok{P:Program}{w:World}{H:Hp}{h:Heap}{a:Addr}{u:HO}(r:Rd H a u)(x:bp P w H h):cf P w H h a u:=by
 rcases r with r|⟨o,r⟩
 ·exact x a u r
 · obtain⟨_,q⟩:=x a _ r
   exact q
noncomputable def lF:Option HO→Prop
 |some (.lst _)=>True
 |some (.dK _)=>True
 |some (.dT _)=>True
 |some (.set _ _)=>True
 |some (.ins _ _ _)=>True
 |some (.ext _)=>True
 |_=>False
section
variable{P:Program}{w:World}{H:Hp}{h h':Heap}{x e:Addr}{o':HO}
theorem bp.write(ok:bp P w H h)(mu:lF (H x))(he:e=x∨H e=some (.own x))(k:∀b u,b≠e→h.get? b=some u→h'.get? b=some u)(heo:∃u,h'.get? e=some u)
   (new:cf P w (upd H x o') h' x o'):bp P w (upd H x o') h':=fun b u q=>by
 have nown:∀c y,H c=some (.own y)→c≠x:=fun c y r z=>by subst z;rw[r]at mu;exact mu
 have ntup:∀c xs,H c=some (.tup xs)→c≠x:=fun c xs r z=>by subst z;rw[r]at mu;exact mu
 by_cases hb:b=x
 ·subst hb;rw[bt]at q;cases q;exact new
 · rw[aC hb]at q
   by_cases hbe:b=e
   · have q':H b=some (.own x):=by
       rcases he with z|z
       ·exact absurd (hbe.trans z) hb
       ·rw[hbe];exact z
     rw[q]at q';cases q'
     obtain⟨v,hv⟩:=heo
     exact⟨v,by rw[hbe];exact hv⟩
   · refine(ok b u q).gk (fun c v hc r=>k c v ?_ r) (fun c r=>by rw[aC (nown c b r)];exact r) fun c xs r=>by rw[aC (ntup c xs r)];exact r
     rcases hc with rfl|hc
     ·exact hbe
     · rintro rfl
       rcases he with z|z
       ·exact nown c b hc z
       ·rw[hc]at z;cases z;exact hb rfl
end
structure Un(fs ex:List Addr)(H H':Hp)(h h':Heap):Prop where
 keep:∀b o,h.get? b=some o→H b=none→b∉fs→b∉ex→h'.get? b=some o
 slot:∀b o,h.get? b=some o→H b=none→b∈fs→b∉ex→∃sl,h'.get? b=some {o with slots:=sl}
 free:∀b o,h.get? b=some o→H b=none→b∉ex→H' b=none
 there:∀b o,h.get? b=some o→b∉ex→∃o',h'.get? b=some o'
 dO:∀b xs,H b=some (.tup xs)→H' b=some (.tup xs)
 dw:∀b o u,H b=some (.frz o u)→H' b=some (.frz o u)
 dR:∀b ps,H b=some (.gO ps)→∃more,H' b=some (.gO (ps++more))
section
variable{fs fs' ex ex':List Addr}{H H1 H2:Hp}{h h1 h2 h':Heap}{a x e:Addr}{o:HO}
theorem Un.any(u:Un fs ex H H1 h h1){b:Addr}{ob:Obj}(q:h.get? b=some ob)(n:H b=none)(hx:b∉ex):∃sl,h1.get? b=some {ob with slots:=sl}:=by
 by_cases hb:b∈fs
 ·exact u.slot b ob q n hb hx
 ·exact⟨ob.slots,u.keep b ob q n hb hx⟩
theorem Un.trans(a:Un fs ex H H1 h h1)(b:Un fs ex H1 H2 h1 h2):Un fs ex H H2 h h2 where
 keep:=fun c ob q n hc hx=>b.keep c ob (a.keep c ob q n hc hx) (a.free c ob q n hx) hc hx
 slot:=fun c ob q n hc hx=>by
   obtain⟨sl,e1⟩:=a.slot c ob q n hc hx
   obtain⟨sl',e2⟩:=b.slot c _ e1 (a.free c ob q n hx) hc hx
   exact⟨sl',e2⟩
 free:=fun c ob q n hx=>by
   obtain⟨o',e1⟩:=a.there c ob q hx
   exact b.free c o' e1 (a.free c ob q n hx) hx
 there:=fun c ob q hx=>by
   obtain⟨o',e1⟩:=a.there c ob q hx
   exact b.there c o' e1 hx
 dO:=fun c xs q=>b.dO c xs (a.dO c xs q)
 dw:=fun c ob xs q=>b.dw c ob xs (a.dw c ob xs q)
 dR:=fun c ps q=>by
   obtain⟨m1,e1⟩:=a.dR c ps q
   obtain⟨m2,e2⟩:=b.dR c _ e1
   exact⟨m1++m2,by rw[e2,Array.append_assoc]⟩
theorem Un.kept(k:∀b u,h.get? b=some u→h'.get? b=some u):Un fs ex H H h h':=
 ⟨fun b ob q _ _ _=>k b ob q,fun b ob q _ _ _=>⟨ob.slots,k b ob q⟩,fun _ _ _ n _=>n,fun b ob q _=>⟨ob,k b ob q⟩,fun _ _ q=>q,fun _ _ _ q=>q,fun _ ps q=>⟨#[],by rw[q];simp⟩⟩
theorem Un.refl:Un fs ex H H h h:=Un.kept fun _ _ q=>q
theorem Un.laid(k:∀b u,h.get? b=some u→h'.get? b=some u)(hp:h.objs.size≤a)(hn:H a=none):Un fs ex H (upd H a o) h h' where
 keep:=fun b u q _ _ _=>k b u q
 slot:=fun b u q _ _ _=>⟨u.slots,k b u q⟩
 free:=fun b u q n _=>by rw[aC (Nat.ne_of_lt (Nat.lt_of_lt_of_le (Heap.lt_size q) hp))];exact n
 there:=fun b u q _=>⟨u,k b u q⟩
 dO:=fun b xs q=>by rw[aC (fg q hn)];exact q
 dw:=fun b u xs q=>by rw[aC (fg q hn)];exact q
 dR:=fun b ps q=>⟨#[],by rw[aC (fg q hn),q];simp⟩
theorem Un.write(mu:lF (H x))(he:e=x∨H e=some (.own x))(k:∀b u,b≠e→h.get? b=some u→h'.get? b=some u)(heo:∃u,h'.get? e=some u):Un fs ex H (upd H x o) h h':=by
 have hx:∀b,H b=none→b≠x:=fun b n z=>by subst z;rw[n]at mu;exact mu
 have hb:∀b,H b=none→b≠e:=fun b n z=>by
   subst z
   rcases he with r|r
   ·exact hx b n r
   ·rw[n]at r;cases r
 have hm:∀b u,H b=some u→¬lF (some u)→b≠x:=fun b u q nm z=>by subst z;rw[q]at mu;exact nm mu
 refine⟨fun b u q n _ _=>k b u (hb b n) q,fun b u q n _ _=>⟨u.slots,k b u (hb b n) q⟩,fun b u q n _=>by rw[aC (hx b n)];exact n,fun b u q _=>?_,
   fun b xs q=>by rw[aC (hm b _ q fun z=>z)];exact q,fun b u xs q=>by rw[aC (hm b _ q fun z=>z)];exact q,fun b ps q=>⟨#[],by rw[aC (hm b _ q fun z=>z),q];simp⟩⟩
 by_cases hbe:b=e
 ·subst hbe;exact heo
 ·exact⟨u,k b u hbe q⟩
theorem Un.mono(u:Un fs ex H H1 h h1)(hs:∀b∈fs,b∈fs')(hx:∀b∈ex,b∈ex'):Un fs' ex' H H1 h h1:=
 ⟨fun b ob q n hb he=>u.keep b ob q n (fun z=>hb (hs b z)) fun z=>he (hx b z),fun _ _ q n _ he=>u.any q n fun z=>he (hx _ z),fun b ob q n he=>u.free b ob q n fun z=>he (hx b z),fun b ob q he=>u.there b ob q fun z=>he (hx b z),u.dO,u.dw,u.dR⟩
end
noncomputable def aT(h:Heap)(H:Hp):List Addr:=(List.range h.objs.size).filter fun a=>(H a).isSome
noncomputable def gC(h:Heap)(H:Hp):Heap:=PySem.W.hideAll h (aT h H)
theorem yN(h:Heap)(H:Hp):(gC h H).objs.size=h.objs.size:=PySem.W.hideAll_size _ _
theorem Cv{h:Heap}{H:Hp}{b:Addr}{o:Obj}(e:h.get? b=some o)(n:H b=none):(gC h H).get? b=some o:=
 PySem.W.hideAll_get _ e fun hm=>by
   have q:(H b).isSome=true:=(List.mem_filter.mp hm).2
   rw[n]at q;simp at q
theorem EK{h:Heap}{H:Hp}{b:Addr}{o:Obj}(e:(gC h H).get? b=some o):h.get? b=some o∧H b=none:=by
 have e':h.get? b=some o:=PySem.W.of_hideAll (aT h H) e
 refine⟨e',?_⟩
 cases q:H b with
 |none=>rfl
 | some x=>
   have hm:b∈aT h H:=List.mem_filter.mpr ⟨List.mem_range.mpr (Heap.lt_size e'),by simp[q]⟩
   have z:(gC h H).get? b=none:=PySem.W.hideAll_none (aT h H) hm
   rw[z]at e;cases e
noncomputable def zr(g h:Heap)(L:Addr):List (Addr×Obj):=(List.range h.objs.size).filterMap fun a=>if a=L∨(g.get? a).isSome=true then none else(h.get? a).map fun o=>(a,o)
noncomputable def rest(g h:Heap)(L d:Addr):List (Addr×Obj):=(zr g h L).filter fun p=>decide (p.1≠d)
end L2
namespace L2
open PySem PySem.Spec PyProof.Rows
structure Mod(K:PySem.W.Frag)(mg:Str→Option Value)(base:Heap):Prop where
 mG:K.In base
 glob:base.Ns mainGlobals mg
 blt:∃mb,base.Ns builtinsNs mb∧∀x:Str,x≠"__name__"→mb x=bootBuiltins x
 nolimit:base.NoLimit
structure Cx where
 prog:Program
 w:World
 K:PySem.W.Frag
 mg:Str→Option Value
 base:Heap
 A:Around
 N:List Str
 b8:Shared
 fj:Hp
 env:Env
 outer:List Env
 stack:List Env
 ex:List Addr
 fn:Str→Bool
 calm:Bool
 pn:List (Addr×Obj)
 xe:Value→Shared→Prop
noncomputable def cv(l:List Env):List Addr:=l.filterMap (·.frame)
noncomputable abbrev Cx.fs(X:Cx):List Addr:=cv X.outer
noncomputable def cR(sc:Scope)(x:Str):Prop:=sc.names.lookup x=some .local∨sc.names.lookup x=some .cell∨sc.names.lookup x=some .free
noncomputable def Loc(sc:Scope)(x:Str):Prop:=sc.names.lookup x=some .local∨sc.names.lookup x=some .cell
noncomputable def Look(env:Env)(h:Heap)(m:Str→Option Value)(x:Str)(u:Value):Prop:=
 (env.kindOf x=some .local∧m x=some u)∨((env.kindOf x=some .cell∨env.kindOf x=some .free)∧∃c,env.cells.lookup x=some c∧h.IsCell c (some u))
structure Cx.Ok(X:Cx):Prop where
 mod:Mod X.K X.mg X.base
 kind:X.env.scope.kind=.function
 glob:X.env.globals=mainGlobals
 blt:X.env.builtins=builtinsNs
 above:X.b8.heap.objs.size≤X.env.locals
 inj:∀x y c,X.env.cells.lookup x=some c→X.env.cells.lookup y=some c→x=y
 has:∀x,(X.env.kindOf x=some .cell∨X.env.kindOf x=some .free)→∃c,X.env.cells.lookup x=some c
 kx:∀x c,X.fn x=true→X.env.cells.lookup x=some c→X.b8.heap.objs.size≤c
 hd:X.calm=true→X.A.handled=none
 frames:X.A.frames=some X.stack
 nv:X.stack=X.outer∨(X.stack=X.env::X.outer∧X.env.frame=some X.env.locals)
 tO:∀b∈X.ex,b≠X.env.locals∧∀x c,X.env.cells.lookup x=some c→c≠b
 bs:∀b o,X.base.get? b=some o→X.b8.heap.get? b=some o∧X.fj b=none
 gx:X.base.objs.size≤X.b8.heap.objs.size
 kK:∀b o,X.base.get? b=some o→b∉X.ex
 lV:∀b∈X.ex,b∉X.fs
 eV:X.b8.heap.FunFrames X.base X.outer
 iP:∀b∈X.fs,X.fj b=none
structure Inv(X:Cx)(pins:List (Addr×Obj))(σ:List (Option V))(H:Hp)(s:Shared):Prop where
 ok:X.Ok
 os:s.os=X.b8.os
 bare:AllBare s.gens
 base:Un X.fs X.ex X.fj H X.b8.heap s.heap
 loc:∃m,s.heap.Ns X.env.locals m∧∀(i:Nat) (x:Str) (v:V),X.N[i]? =some x→σ[i]? =some (some v)→cR X.env.scope x→∃u,RelV v u∧Look X.env s.heap m x u
 cell:∀x c,X.env.cells.lookup x=some c→∃v,s.heap.IsCell c v
 free:H X.env.locals=none
 ff:∀x c,X.env.cells.lookup x=some c→H c=none
 pin:∀p∈X.pn++pins,s.heap.get? p.1=some p.2∧H p.1=none∧p.1≠X.env.locals∧p.1∉X.fs∧∀v,p.2.data≠.cell v
 aD:bp X.prog X.w H s.heap
 len:σ.length=X.N.length
section
variable{X:Cx}{pins:List (Addr×Obj)}{σ:List (Option V)}{H H':Hp}{s:Shared}{h':Heap}
theorem Cx.Ok.AO(ok:X.Ok){b:Addr}{o:Obj}(e:X.base.get? b=some o):b∉X.fs:=fun hb=>by
 have:=(ok.eV.mem hb).1
 rw[e]at this;cases this
theorem Inv.bs(I:Inv X pins σ H s):∀b o,X.base.get? b=some o→s.heap.get? b=some o∧H b=none:=fun b o e=>
 ⟨I.base.keep b o (I.ok.bs b o e).1 (I.ok.bs b o e).2 (I.ok.AO e) (I.ok.kK b o e),I.base.free b o (I.ok.bs b o e).1 (I.ok.bs b o e).2 (I.ok.kK b o e)⟩
theorem Inv.bk(I:Inv X pins σ H s):∀b o,X.base.get? b=some o→s.heap.get? b=some o:=fun b o e=>(I.bs b o e).1
theorem Inv.mod(I:Inv X pins σ H s):Mod X.K X.mg X.base:=I.ok.mod
theorem Inv.b5(I:Inv X pins σ H s):X.K.In s.heap:=I.ok.mod.mG.keeps I.bk
theorem Inv.nolimit(I:Inv X pins σ H s):s.heap.NoLimit:=I.ok.mod.nolimit.keeps I.bk
theorem Inv.lt(I:Inv X pins σ H s):X.env.locals<s.heap.objs.size:=let⟨_,hn,_⟩:=I.loc;hn.lt
theorem Inv.sz(I:Inv X pins σ H s):X.b8.heap.objs.size≤s.heap.objs.size:=Nat.le_trans I.ok.above (Nat.le_of_lt I.lt)
theorem Inv.xX(I:Inv X pins σ H s){a:Addr}(h:s.heap.objs.size≤a):a∉X.fs:=fun hb=>by
 obtain⟨_,o,ho,_⟩:=I.ok.eV.mem hb
 exact absurd (Nat.lt_of_lt_of_le (Heap.lt_size ho) (Nat.le_trans I.sz h)) (Nat.lt_irrefl _)
theorem Inv.fO(I:Inv X pins σ H s):∀x c,X.env.cells.lookup x=some c→c≠X.env.locals:=fun x c e z=>by
 obtain⟨v,o,ho,hd⟩:=I.cell x c e
 obtain⟨m,⟨o',es,ep,ho',hd',_⟩,_⟩:=I.loc
 rw[z,ho']at ho;cases ho;rw[hd']at hd;cases hd
theorem Inv.eV(I:Inv X pins σ H s):s.heap.FunFrames X.base X.outer:=by
 have all:∀(l:List Env),(∀b∈cv l,b∈X.fs)→X.b8.heap.FunFrames X.base l→s.heap.FunFrames X.base l:=by
   intro l
   induction l with
   |nil=>intro _ _;trivial
   | cons env r ih=>
     intro hs hl
     obtain⟨hk,⟨L,o,hf,hn,ho,hd⟩,hr⟩:=hl
     have hL:L∈X.fs:=hs L (by unfold cv;rw[List.filterMap_cons,hf];exact List.mem_cons_self)
     obtain⟨sl,e⟩:=I.base.slot L o ho (I.ok.iP L hL) hL fun z=>I.ok.lV L z hL
     exact⟨hk,⟨L,_,hf,hn,e,hd⟩,ih (fun b hb=>hs b (by unfold cv;rw[List.filterMap_cons,hf];exact List.mem_cons_of_mem _ hb)) hr⟩
 exact all X.outer (fun _ hb=>hb) I.ok.eV
theorem Inv.stack(I:Inv X pins σ H s):s.heap.FunFrames X.base X.stack:=by
 rcases I.ok.nv with e|⟨e,hf⟩
 ·rw[e];exact I.eV
 · rw[e]
   obtain⟨m,hn,_⟩:=I.loc
   refine .cons (by rw[I.ok.kind];decide) hf hn ?_ I.eV
   exact Heap.get?_none_of_le (Nat.le_trans I.ok.gx I.ok.above)
theorem Inv.mJ(I:Inv X pins σ H s):∀b∈cv X.stack,b∈X.env.locals::X.fs:=fun b hb=>by
 rcases I.ok.nv with e|⟨e,hf⟩
 ·rw[e]at hb;exact List.mem_cons_of_mem _ hb
 · rw[e]at hb
   unfold cv at hb
   rw[List.filterMap_cons,hf]at hb
   exact hb
theorem Inv.sD(I:Inv X pins σ H s):∀b∈cv X.stack,H b=none:=fun b hb=>by
 rcases List.mem_cons.mp (I.mJ b hb)with e|hb
 ·rw[e];exact I.free
 · obtain⟨_,o,ho,_⟩:=I.ok.eV.mem hb
   exact I.base.free b o ho (I.ok.iP b hb) fun z=>I.ok.lV b z hb
theorem Inv.step{g':Array GenState}{t':Nat}{d':Drawn}{ch:List Addr}(I:Inv X pins σ H s)
   (hch:∀b∈ch,(b∈X.ex∨X.b8.heap.objs.size≤b)∧b≠X.env.locals∧(∀x c,X.env.cells.lookup x=some c→c≠b)∧∀p∈X.pn++pins,p.1≠b)
   (keep:∀b o,b≠X.env.locals→b∉X.fs→b∉ch→s.heap.get? b=some o→H b=none→h'.get? b=some o)
   (slot:∀b o,b≠X.env.locals→b∈X.fs→b∉ch→s.heap.get? b=some o→H b=none→∃sl,h'.get? b=some {o with slots:=sl}) (free:∀b o,b∉ch→s.heap.get? b=some o→H b=none→H' b=none)
   (there:∀b o,b∉ch→s.heap.get? b=some o→∃o',h'.get? b=some o')
   (dO:∀b xs,H b=some (.tup xs)→H' b=some (.tup xs)) (dw:∀b o u,H b=some (.frz o u)→H' b=some (.frz o u)) (dR:∀b ps,H b=some (.gO ps)→∃more,H' b=some (.gO (ps++more)))
   (ns:∀m,s.heap.Ns X.env.locals m→h'.Ns X.env.locals m) (aD:bp X.prog X.w H' h') (hg:AllBare g'):
   Inv X pins σ H' {s with heap:=h',gens:=g',drawn:=d',toks:=t'}:=by
 have neL:∀b o,X.b8.heap.get? b=some o→b≠X.env.locals:=fun b o e=>Nat.ne_of_lt (Nat.lt_of_lt_of_le (Heap.lt_size e) I.ok.above)
 have neC:∀b o,X.b8.heap.get? b=some o→b∉X.ex→b∉ch:=fun b o e hx hb=>by
   rcases(hch b hb).1 with z|z
   ·exact hx z
   ·exact absurd (Nat.lt_of_lt_of_le (Heap.lt_size e) z) (Nat.lt_irrefl _)
 have cellK:∀x c,X.env.cells.lookup x=some c→∀v,s.heap.IsCell c v→h'.IsCell c v:=fun x c e v ⟨o,ho,hd⟩=>by
   have nch:c∉ch:=fun z=>(hch c z).2.2.1 x c e rfl
   by_cases hc:c∈X.fs
   · obtain⟨sl,q⟩:=slot c o (I.fO x c e) hc nch ho (I.ff x c e)
     exact⟨_,q,hd⟩
   ·exact⟨o,keep c o (I.fO x c e) hc nch ho (I.ff x c e),hd⟩
 refine⟨I.ok,I.os,hg,⟨fun b o e n hb hx=>?_,fun b o e n hb hx=>?_,fun b o e n hx=>?_,fun b o e hx=>?_,fun b xs e=>dO b xs (I.base.dO b xs e),fun b o xs e=>dw b o xs (I.base.dw b o xs e),fun b ps e=>?_⟩,?_,fun x c e=>?_,?_,fun x c e=>?_,fun p hp=>?_,aD,I.len⟩
 ·exact keep b o (neL b o e) hb (neC b o e hx) (I.base.keep b o e n hb hx) (I.base.free b o e n hx)
 · obtain⟨sl,e1⟩:=I.base.slot b o e n hb hx
   obtain⟨sl',e2⟩:=slot b _ (neL b o e) hb (neC b o e hx) e1 (I.base.free b o e n hx)
   exact⟨sl',e2⟩
 · obtain⟨o',e1⟩:=I.base.there b o e hx
   exact free b o' (neC b o e hx) e1 (I.base.free b o e n hx)
 · obtain⟨o',e1⟩:=I.base.there b o e hx
   exact there b o' (neC b o e hx) e1
 · obtain⟨m1,e1⟩:=I.base.dR b ps e
   obtain⟨m2,e2⟩:=dR b _ e1
   exact⟨m1++m2,by rw[e2,Array.append_assoc]⟩
 · obtain⟨m,hn,hl⟩:=I.loc
   refine⟨m,ns m hn,fun i x v e1 e2 e3=>?_⟩
   obtain⟨u,r,l⟩:=hl i x v e1 e2 e3
   refine⟨u,r,?_⟩
   rcases l with l|⟨k,c,e,z⟩
   ·exact .inl l
   ·exact .inr ⟨k,c,e,cellK x c e _ z⟩
 · obtain⟨v,z⟩:=I.cell x c e
   exact⟨v,cellK x c e v z⟩
 · obtain⟨m,⟨o,_,_,ho,_⟩,_⟩:=I.loc
   exact free _ o (fun z=>(hch _ z).2.1 rfl) ho I.free
 · obtain⟨v,o,ho,hd⟩:=I.cell x c e
   exact free c o (fun z=>(hch c z).2.2.1 x c e rfl) ho (I.ff x c e)
 · obtain⟨e,n,ne,nf,d⟩:=I.pin p hp
   have nch:p.1∉ch:=fun z=>(hch p.1 z).2.2.2 p hp rfl
   exact⟨keep p.1 p.2 ne nf nch e n,free p.1 p.2 nch e n,ne,nf,d⟩
theorem Inv.un{t':Nat}(I:Inv X pins σ H s)(u:Un X.fs [] H H' s.heap h')(aD:bp X.prog X.w H' h'):Inv X pins σ H' {s with heap:=h',toks:=t'}:=by
 obtain⟨m,⟨o,es,ep,ho,r⟩,_⟩:=id I.loc
 obtain⟨sl,hL⟩:=u.any ho I.free (by simp)
 exact I.step (g':=s.gens) (d':=s.drawn) (ch:=[]) (fun _ z=>nomatch z) (fun b o _ hb _ e n=>u.keep b o e n hb (by simp)) (fun b o _ hb _ e n=>u.slot b o e n hb (by simp)) (fun b o _ e n=>u.free b o e n (by simp)) (fun b o _ e=>u.there b o e (by simp)) u.dO u.dw u.dR (fun m' hm=>by
   obtain⟨o',es',ep',ho',r'⟩:=hm
   rw[ho]at ho';cases ho'
   exact⟨_,es',ep',hL,r'⟩) aD I.bare
theorem Inv.call{g':Array GenState}{t':Nat}{d':Drawn}{ch:List Addr}(I:Inv X pins σ H s)(u:Un (cv X.stack) ch H H' s.heap h')(aD:bp X.prog X.w H' h')(hg:AllBare g')
   (hch:∀b∈ch,(b∈X.ex∨X.b8.heap.objs.size≤b)∧b≠X.env.locals∧(∀x c,X.env.cells.lookup x=some c→c≠b)∧∀p∈X.pn++pins,p.1≠b):
   Inv X pins σ H' {s with heap:=h',gens:=g',drawn:=d',toks:=t'}:=by
 obtain⟨m,⟨o,es,ep,ho,r⟩,_⟩:=id I.loc
 obtain⟨sl,hL⟩:=u.any ho I.free fun z=>(hch _ z).2.1 rfl
 exact I.step (ch:=ch) hch (fun b o hL hb hc e n=>u.keep b o e n (fun z=>(List.mem_cons.mp (I.mJ b z)).elim hL hb) hc) (fun b o _ _ hc e n=>u.any e n hc) (fun b o hc e n=>u.free b o e n hc) (fun b o hc e=>u.there b o e hc) u.dO u.dw u.dR (fun m' hm=>by
   obtain⟨o',es',ep',ho',r'⟩:=hm
   rw[ho]at ho';cases ho'
   exact⟨_,es',ep',hL,r'⟩) aD hg
theorem Inv.turned{t':Nat}{it:Addr}(I:Inv X pins σ H s)(k:∀b o,b≠it→s.heap.get? b=some o→h'.get? b=some o)(hn:H it=none)(hL:it≠X.env.locals)
   (h1:it∈X.ex∨X.b8.heap.objs.size≤it) (h2:∀x c,X.env.cells.lookup x=some c→c≠it) (h3:∀p∈X.pn++pins,p.1≠it):Inv X pins σ H {s with heap:=h',toks:=t'}:=by
 have nit:∀b u,H b=some u→b≠it:=fun b u e z=>by rw[z,hn]at e;cases e
 refine I.step (g':=s.gens) (d':=s.drawn) (ch:=[it]) (fun b hb=>?_) (fun b o _ _ hc e _=>k b o (fun z=>hc (by simp[z])) e) (fun b o _ _ hc e _=>⟨o.slots,k b o (fun z=>hc (by simp[z])) e⟩) (fun _ _ _ _ n=>n)
   (fun b o hc e=>⟨o,k b o (fun z=>hc (by simp[z])) e⟩) (fun _ _ e=>e) (fun _ _ _ e=>e) (fun b ps e=>⟨#[],by rw[e];simp⟩) (fun m hm=>?_) (fun b u e=>?_) I.bare
 · have e:b=it:=by simpa using hb
   subst e
   exact⟨h1,hL,h2,h3⟩
 · obtain⟨o,es,ep,ho,r⟩:=hm
   exact⟨o,es,ep,k _ o (Ne.symm hL) ho,r⟩
 · refine(I.aD b u e).gk (fun c v hc q=>k c v ?_ q) (fun _ q=>q) fun _ _ q=>q
   rcases hc with z|z
   ·rw[z];exact nit b u e
   ·exact nit c _ z
theorem Inv.tok(I:Inv X pins σ H s)(t:Nat):Inv X pins σ H {s with toks:=t}:=I.un (h':=s.heap) (t':=t) Un.refl I.aD
theorem Inv.kept{t':Nat}(I:Inv X pins σ H s)(k:∀b u,s.heap.get? b=some u→h'.get? b=some u):Inv X pins σ H {s with heap:=h',toks:=t'}:=I.un (Un.kept k) (I.aD.kept k)
theorem Inv.laid{a:Addr}{o:HO}{t':Nat}(I:Inv X pins σ H s)(k:∀b u,s.heap.get? b=some u→h'.get? b=some u)(hp:s.heap.objs.size≤a)(new:cf X.prog X.w (upd H a o) h' a o):
   Inv X pins σ (upd H a o) {s with heap:=h',toks:=t'}:=I.un (Un.laid k hp (I.aD.fresh hp)) (I.aD.laid k hp new)
theorem Inv.write{x e:Addr}{o:HO}{t':Nat}(I:Inv X pins σ H s)(mu:lF (H x))(he:e=x∨H e=some (.own x))(k:∀b u,b≠e→s.heap.get? b=some u→h'.get? b=some u)(heo:∃u,h'.get? e=some u)
   (new:cf X.prog X.w (upd H x o) h' x o):Inv X pins σ (upd H x o) {s with heap:=h',toks:=t'}:=I.un (Un.write mu he k heo) (I.aD.write mu he k heo new)
theorem Inv.sG{pins':List (Addr×Obj)}(I:Inv X pins σ H s)(h:∀p∈pins',s.heap.get? p.1=some p.2∧H p.1=none∧p.1≠X.env.locals∧p.1∉X.fs∧∀v,p.2.data≠.cell v):Inv X pins' σ H s:=
 ⟨I.ok,I.os,I.bare,I.base,I.loc,I.cell,I.free,I.ff,fun p hp=>(List.mem_append.mp hp).elim (fun z=>I.pin p (List.mem_append_left _ z)) (h p),I.aD,I.len⟩
theorem qZ{N:List Str}(hN:N.Nodup){i j:Nat}{x:Str}(a:N[i]? =some x)(b:N[j]? =some x):i=j:=by
 obtain⟨h1,e1⟩:=List.getElem?_eq_some_iff.mp a
 obtain⟨h2,e2⟩:=List.getElem?_eq_some_iff.mp b
 exact(List.getElem_inj hN).mp (e1.trans e2.symm)
theorem v9{M:Model}{A:Around}{E:Value→Shared→Prop}{i:Nat}{x:Str}{v:V}{u:Value}{Q:Unit→Shared→Prop}(I:Inv X pins σ H s)(hN:X.N.Nodup)(hi:X.N[i]? =some x)(hx:Loc X.env.scope x)(r:RelV v u)
   (h:∀s',Inv X pins (σ.set i (some v)) H s'→(∃a,Heap.SameBut a s.heap s'.heap∧(a=X.env.locals∨X.env.cells.lookup x=some a))→Q () s') (hf:X.fn x=true∨X.env.scope.names.lookup x=some .local:=by first|exact .inl rfl|exact .inr rfl|assumption):wpAny M A (storeName X.env x u) Q E s:=by
 obtain⟨m,hn,hl⟩:=id I.loc
 have hcls:(X.env.scope.kind==.class||(X.env.scope.kind==.module&&X.env.locals != X.env.globals))=false:=by rw[I.ok.kind];rfl
 have hiσ:i<σ.length:=by rw[I.len];exact(List.getElem?_eq_some_iff.mp hi).1
 have fO:=I.fO
 have tracked:∀ {a:Addr} {h':Heap},(∃o,s.heap.get? a=some o∧H a=none)→Heap.SameBut a s.heap h'→bp X.prog X.w H h':=fun {a h'} ha hs b ob e=>by
   obtain⟨_,_,hfree⟩:=ha
   refine(I.aD b ob e).gk (fun c w' hc q=>(hs.2 c ?_).trans q) (fun _ q=>q) fun _ _ q=>q
   rintro rfl
   rcases hc with rfl|hc
   ·rw[hfree]at e;cases e
   ·rw[hfree]at hc;cases hc
 rcases hx with hk|hk
 · refine wpAny_storeName_local hk hn (fun h' hn' hs=>?_) hcls
   obtain⟨oL,_,_,hoL,_⟩:=id hn
   refine h _ ⟨I.ok,I.os,I.bare,⟨fun b o e n hb hx=>?_,fun b o e n hb hx=>?_,I.base.free,fun b o e hx=>?_,I.base.dO,I.base.dw,I.base.dR⟩,⟨_,hn',fun j y v' e1 e2 e3=>?_⟩,fun y c e=>?_,I.free,I.ff,fun p hp=>?_,tracked ⟨oL,hoL,I.free⟩ hs,by simpa using I.len⟩ ⟨_,hs,.inl rfl⟩
   ·exact(hs.2 b (Nat.ne_of_lt (Nat.lt_of_lt_of_le (Heap.lt_size e) I.ok.above))).trans (I.base.keep b o e n hb hx)
   · obtain⟨sl,e1⟩:=I.base.slot b o e n hb hx
     exact⟨sl,(hs.2 b (Nat.ne_of_lt (Nat.lt_of_lt_of_le (Heap.lt_size e) I.ok.above))).trans e1⟩
   · obtain⟨o',e1⟩:=I.base.there b o e hx
     exact⟨o',(hs.2 b (Nat.ne_of_lt (Nat.lt_of_lt_of_le (Heap.lt_size e) I.ok.above))).trans e1⟩
   · by_cases hj:j=i
     · subst hj
       rw[hi]at e1;cases e1
       rw[List.getElem?_set_self hiσ]at e2
       cases e2
       exact⟨u,r,.inl ⟨hk,by simp⟩⟩
     · rw[List.getElem?_set_ne (Ne.symm hj)]at e2
       obtain⟨u',r',q⟩:=hl j y v' e1 e2 e3
       refine⟨u',r',?_⟩
       rcases q with⟨k,e⟩|⟨k,c,e,z⟩
       · refine .inl ⟨k,?_⟩
         have:y≠x:=fun e=>hj (qZ hN e1 (e▸hi))
         simp[this,e]
       ·exact .inr ⟨k,c,e,z.sameBut hs (fO y c e)⟩
   · obtain⟨w',z⟩:=I.cell y c e
     exact⟨w',z.sameBut hs (fO y c e)⟩
   · obtain⟨e,n,ne,nf,d⟩:=I.pin p hp
     exact⟨(hs.2 p.1 ne).trans e,n,ne,nf,d⟩
 · have hfn:X.fn x=true:=by
     rcases hf with z|z
     ·exact z
     ·rw[z]at hk;cases hk
   obtain⟨c,hc⟩:=I.ok.has x (.inl hk)
   obtain⟨w',z⟩:=I.cell x c hc
   refine wpAny_storeName_cell I.ok.kind hk hc z (fun h' hc' hs=>?_)
   obtain⟨oc,hoc,hocd⟩:=id z
   refine h {s with heap:=h'} ⟨I.ok,I.os,I.bare,⟨fun b o e n hb hx=>?_,fun b o e n hb hx=>?_,I.base.free,fun b o e hx=>?_,I.base.dO,I.base.dw,I.base.dR⟩,⟨m,hn.sameBut hs (Ne.symm (fO x c hc)),fun j y v' e1 e2 e3=>?_⟩,fun y c' e=>?_,I.free,I.ff,fun p hp=>?_,tracked ⟨oc,hoc,I.ff x c hc⟩ hs,by simpa using I.len⟩ ⟨c,hs,.inr hc⟩
   ·exact(hs.2 b (Nat.ne_of_lt (Nat.lt_of_lt_of_le (Heap.lt_size e) (I.ok.kx x c hfn hc)))).trans (I.base.keep b o e n hb hx)
   · obtain⟨sl,e1⟩:=I.base.slot b o e n hb hx
     exact⟨sl,(hs.2 b (Nat.ne_of_lt (Nat.lt_of_lt_of_le (Heap.lt_size e) (I.ok.kx x c hfn hc)))).trans e1⟩
   · obtain⟨o',e1⟩:=I.base.there b o e hx
     exact⟨o',(hs.2 b (Nat.ne_of_lt (Nat.lt_of_lt_of_le (Heap.lt_size e) (I.ok.kx x c hfn hc)))).trans e1⟩
   · by_cases hj:j=i
     · subst hj
       rw[hi]at e1;cases e1
       rw[List.getElem?_set_self hiσ]at e2
       cases e2
       exact⟨u,r,.inr ⟨.inl hk,c,hc,hc'⟩⟩
     · rw[List.getElem?_set_ne (Ne.symm hj)]at e2
       obtain⟨u',r',q⟩:=hl j y v' e1 e2 e3
       refine⟨u',r',?_⟩
       rcases q with q|⟨k,c',e,z'⟩
       ·exact .inl q
       · refine .inr ⟨k,c',e,z'.sameBut hs ?_⟩
         rintro rfl
         exact hj (qZ hN e1 (I.ok.inj _ _ _ e hc▸hi))
   · by_cases hcc:c'=c
     ·subst hcc;exact⟨_,hc'⟩
     · obtain⟨w2,z2⟩:=I.cell y c' e
       exact⟨w2,z2.sameBut hs hcc⟩
   · obtain⟨e,n,ne,nf,d⟩:=I.pin p hp
     refine⟨(hs.2 p.1 ?_).trans e,n,ne,nf,d⟩
     intro q
     rw[q,hoc]at e
     have q':oc=p.2:=Option.some.inj e
     exact d w' (by rw[←q'];exact hocd)
theorem vP{M:Model}{A:Around}{E:Value→Shared→Prop}{i:Nat}{x:Str}{v:V}{u:Value}{Q:Unit→Shared→Prop}(I:Inv X pins σ H s)(hN:X.N.Nodup)(hi:X.N[i]? =some x)(hx:Loc X.env.scope x)(r:RelV v u)
   (h:∀s',Inv X pins (σ.set i (some v)) H s'→Q () s') (hf:X.fn x=true∨X.env.scope.names.lookup x=some .local:=by first|exact .inl rfl|exact .inr rfl|assumption):wpAny M A (storeName X.env x u) Q E s:=
 v9 I hN hi hx r (fun s' I' _=>h s' I') hf
theorem Inv.oW{s':Shared}{ch:List Addr}(I:Inv X pins σ H s)(ho:s'.os=s.os)(u:Un (cv X.stack) ch H H' s.heap s'.heap)(aD:bp X.prog X.w H' s'.heap)(hg:AllBare s'.gens)
   (hch:∀b∈ch,(b∈X.ex∨X.b8.heap.objs.size≤b)∧b≠X.env.locals∧(∀x c,X.env.cells.lookup x=some c→c≠b)∧∀p∈X.pn++pins,p.1≠b):Inv X pins σ H' s':=by
 obtain⟨h',g',d',t',o'⟩:=s'
 have e:o'=s.os:=ho
 subst e
 exact I.call (g':=g') (t':=t') (d':=d') u aD hg hch
end
noncomputable abbrev XK:=Value→Option Addr→Hp→Prop
noncomputable abbrev St:=List (Option V)
noncomputable abbrev VK:=V→Hp→Prop
noncomputable abbrev TE:=St→Hp→VK→Prop
noncomputable abbrev TT:=St→Hp→(Bool→Hp→Prop)→Prop
noncomputable abbrev TA:=St→Hp→(List V→Hp→Prop)→Prop
structure Ends where
 nx:St→Hp→Prop
 rt:VK
 bk:St→Hp→Prop:=fun _ _=>False
 ct:St→Hp→Prop:=fun _ _=>False
noncomputable abbrev TS:=Ends→St→Hp→Prop
noncomputable def EP(X:Cx)(pins:List (Addr×Obj))(σ:St)(Q:VK)(u:Value)(s':Shared):Prop:=∃v H',Inv X pins σ H' s'∧RelV v u∧Q v H'
noncomputable def TP(X:Cx)(pins:List (Addr×Obj))(σ:St)(Q:Bool→Hp→Prop)(b:Bool)(s':Shared):Prop:=∃H',Inv X pins σ H' s'∧Q b H'
noncomputable def AP(X:Cx)(pins:List (Addr×Obj))(σ:St)(Q:List V→Hp→Prop)(us:List Value)(s':Shared):Prop:=∃vs H',Inv X pins σ H' s'∧Vals vs us∧Q vs H'
noncomputable def SP(X:Cx)(pins:List (Addr×Obj))(D:Ends)(f:Flow)(s':Shared):Prop:=
 match f with
 |.next=>∃σ' H',Inv X pins σ' H' s'∧D.nx σ' H'
 |.brk=>∃σ' H',Inv X pins σ' H' s'∧D.bk σ' H'
 |.cont=>∃σ' H',Inv X pins σ' H' s'∧D.ct σ' H'
 |.ret u=>∃v σ' H',Inv X pins σ' H' s'∧RelV v u∧D.rt v H'
noncomputable def PE(X:Cx)(e:Expr)(t:TE):Prop:=
 ∀(pins:List (Addr×Obj)) (s:Shared) (σ:St) (H:Hp) (Q:VK),Inv X pins σ H s→t σ H Q→wpAny (model X.prog X.w) X.A (eval e X.env) (EP X pins σ Q) X.xe s
noncomputable def PT(X:Cx)(e:Expr)(t:TT):Prop:=
 ∀(pins:List (Addr×Obj)) (s:Shared) (σ:St) (H:Hp) (Q:Bool→Hp→Prop),Inv X pins σ H s→t σ H Q→wpAny (model X.prog X.w) X.A (isTrue e X.env (eval e X.env)) (TP X pins σ Q) X.xe s
noncomputable def PW(X:Cx)(e:Expr)(t:TT):Prop:=
 ∀(whole:Sem Value) (pins:List (Addr×Obj)) (s:Shared) (σ:St) (H:Hp) (Q:Bool→Hp→Prop),Inv X pins σ H s→t σ H Q→wpAny (model X.prog X.w) X.A (isTrue e X.env whole) (TP X pins σ Q) X.xe s
theorem PW.pt{X:Cx}{e:Expr}{t:TT}(h:PW X e t):PT X e t:=h _
noncomputable def PA(X:Cx)(es:List Expr)(t:TA):Prop:=
 ∀(pos:Pos) (pins:List (Addr×Obj)) (s:Shared) (σ:St) (H:Hp) (Q:List V→Hp→Prop),Inv X pins σ H s→t σ H Q→wpAny (model X.prog X.w) X.A (spliced (backTo pos (starEach es X.env))) (AP X pins σ Q) X.xe s
noncomputable def PS(X:Cx)(st:Stmt)(t:TS):Prop:=
 ∀(pins:List (Addr×Obj)) (s:Shared) (σ:St) (H:Hp) (D:Ends),Inv X pins σ H s→t D σ H→wpAny (model X.prog X.w) X.A (exec st X.env) (SP X pins D) X.xe s
noncomputable def bT(X:Cx)(st:List Stmt)(t:TS):Prop:=
 ∀(pins:List (Addr×Obj)) (s:Shared) (σ:St) (H:Hp) (D:Ends),Inv X pins σ H s→t D σ H→wpAny (model X.prog X.w) X.A (execs st X.env) (SP X pins D) X.xe s
theorem aE{α:Type}{t:Sem α}{Q Q':α→Shared→Prop}{M:Model}{A:Around}{E:Value→Shared→Prop}{s:Shared}(h:wpAny M A t Q E s)(hQ:∀a s,Q a s→Q' a s):wpAny M A t Q' E s:=wpAny_mono h hQ fun _ _ x=>x
end L2
namespace L2
open PySem PySem.Spec PyProof.Rows
section
variable{X:Cx}
theorem bin{a b:Expr}{ta tb:TE}(ha:PE X a ta)(hb:PE X b tb){pins:List (Addr×Obj)}{s:Shared}{σ:St}{H:Hp}{R:V→V→Hp→Prop}(I:Inv X pins σ H s)(h:ta σ H fun x H1=>tb σ H1 fun y H2=>R x y H2)
   {α:Type} {Q:α→Shared→Prop} {f:Value→Value→Sem α}
   (hf:∀v u s2 x y H2,Inv X pins σ H2 s2→RelV x v→RelV y u→R x y H2→wpAny (model X.prog X.w) X.A (f v u) Q X.xe s2):
   wpAny (model X.prog X.w) X.A (eval a X.env) (fun v s₁=>wpAny (model X.prog X.w) X.A (eval b X.env) (fun u s₂=>wpAny (model X.prog X.w) X.A (f v u) Q X.xe s₂) X.xe s₁) X.xe s:=by
 refine aE (ha pins s σ H _ I h) fun v s1 ⟨x,H1,I1,r1,q1⟩=>?_
 refine aE (hb pins s1 σ H1 _ I1 q1) fun u s2 ⟨y,H2,I2,r2,q2⟩=>?_
 exact hf v u s2 x y H2 I2 r1 r2 q2
noncomputable def t5(i:Nat):TE:=fun σ H Q=>∃v,σ[i]? =some (some v)∧Q v H
noncomputable def tC(v:V):TE:=fun _ H Q=>Q v H
theorem Aa{i:Nat}{x:Str}{pos:Pos}(hN:X.N[i]? =some x)(hv:cR X.env.scope x)(hd:(x==("__debug__":Str))=false:=by decide)(hcd:(x==("__classdict__":Str))=false:=by decide):PE X (.Name x pos) (t5 i):=by
 intro pins s σ H Q I h
 obtain⟨v,e,h⟩:=h
 obtain⟨m,hn,hl⟩:=I.loc
 obtain⟨u,r,l⟩:=hl i x v hN e hv
 have fin:EP X pins σ Q u s:=⟨v,H,I,r,h⟩
 rcases l with⟨hk,hm⟩|⟨hk,c,hc,hcell⟩
 ·exact wpAny_Name (wpAny_loadName_local I.ok.kind hk hn hm fin) hd
 · rcases hk with hk|hk
   ·exact wpAny_Name (wpAny_loadName_cell I.ok.kind hk hc hcell fin) hd
   ·exact wpAny_Name (wpAny_loadName_free I.ok.kind hk hc hcell fin hcd) hd
theorem Bd{i j pos}:PE X (.Constant (.int i) j pos) (tC (.int i)):=fun _ _ _ H _ I h=>wpAny_Constant_int ⟨.int i,H,I.tok _,⟨_,rfl⟩,h⟩
theorem Dh{b j pos}:PE X (.Constant (.bool b) j pos) (tC (.bl b)):=fun _ _ _ H _ I h=>Constant_bool ⟨.bl b,H,I,rfl,h⟩
theorem By{j pos}:PE X (.Constant .none j pos) (tC .aA):=fun _ _ _ H _ I h=>Constant_none ⟨.aA,H,I,rfl,h⟩
theorem xb{x j pos}:PE X (.Constant (.str x) j pos) (tC (.str x)):=fun _ _ _ H _ I h=>Calls.Constant_str ⟨.str x,H,I.tok _,⟨_,rfl⟩,h⟩
noncomputable def Gl(X:Cx)(x:Str):Prop:=X.env.kindOf x=some .globalImplicit
theorem ql{E:Value→Shared→Prop}{pins:List (Addr×Obj)}{s:Shared}{σ:St}{H:Hp}{x:Str}{u:Value}{pos:Pos}{Q:Value→Shared→Prop}(I:Inv X pins σ H s)(hg:Gl X x)(hm:X.mg x=some u)(h:Q u s)
   (hd:(x==("__debug__":Str))=false:=by decide):wpAny (model X.prog X.w) X.A (eval (.Name x pos) X.env) Q E s:=
 Calls.Name_function_global I.ok.kind hg (Calls.loadGlobal_global (by rw[I.ok.glob];exact I.mod.glob.keeps I.bk) hm h) hd
theorem i6{E:Value→Shared→Prop}{pins:List (Addr×Obj)}{s:Shared}{σ:St}{H:Hp}{x:Str}{u:Value}{pos:Pos}{Q:Value→Shared→Prop}(I:Inv X pins σ H s)(hg:Gl X x)(hm:X.mg x=none)(hv:bootBuiltins x=some u)(h:Q u s)
   (hn:x≠"__name__":=by decide) (hd:(x==("__debug__":Str))=false:=by decide):wpAny (model X.prog X.w) X.A (eval (.Name x pos) X.env) Q E s:=by
 obtain⟨mb,h1,h2⟩:=I.mod.blt
 exact Calls.Name_function_global I.ok.kind hg (Calls.loadGlobal_builtin (by rw[I.ok.glob];exact I.mod.glob.keeps I.bk) hm (by rw[I.ok.blt];exact h1.keeps I.bk) ((h2 x hn).trans hv) h) hd
theorem zY{x:Str}{v:V}{u:Value}{pos:Pos}(hg:Gl X x)(hm:X.mg x=some u)(r:RelV v u)(hd:(x==("__debug__":Str))=false:=by decide):PE X (.Name x pos) (tC v):=
 fun _ _ _ H _ I h=>ql I hg hm ⟨v,H,I,r,h⟩ hd
theorem qr{x:Str}{v:V}{u:Value}{pos:Pos}(hg:Gl X x)(hm:X.mg x=none)(hv:bootBuiltins x=some u)(r:RelV v u)(hn:x≠"__name__":=by decide)(hd:(x==("__debug__":Str))=false:=by decide):PE X (.Name x pos) (tC v):=
 fun _ _ _ H _ I h=>i6 I hg hm hv ⟨v,H,I,r,h⟩ hn hd
variable{a b:Expr}{ta tb:TE}{pos:Pos}
noncomputable def PC(X:Cx)(op:CmpOp)(a b:Expr)(t:TE):Prop:=
 ∀(pins:List (Addr×Obj)) (s:Shared) (σ:St) (H:Hp) (Q:VK),Inv X pins σ H s→t σ H Q→
   wpAny (model X.prog X.w) X.A (eval a X.env) (fun v s₁=>wpAny (model X.prog X.w) X.A (eval b X.env) (fun u s₂=>wpAny (model X.prog X.w) X.A (compareOp op v u) (EP X pins σ Q) X.xe s₂) X.xe s₁) X.xe s
theorem AE(b:Expr){op:CmpOp}(h:op≠.In)(h2:op≠.NotIn):behindInMarks op b=false:=by
 have e1:(op==CmpOp.In)=false:=by cases op<;>first|rfl|exact absurd rfl h
 have e2:(op==CmpOp.NotIn)=false:=by cases op<;>first|rfl|exact absurd rfl h2
 cases b<;>simp[behindInMarks,e1,e2]
noncomputable def Ad(ta:TE):TE:=fun σ H Q=>ta σ H fun x H1=>Q (.bl (decide (x=.aA))) H1
noncomputable def xm(ta:TE):TE:=fun σ H Q=>ta σ H fun x H1=>Q (.bl (!decide (x=.aA))) H1
theorem RelV.uM{x:V}{v:Value}(r:RelV x v):(v==Value.none)=decide (x=.aA):=by
 cases x with
 |aA=>cases r;rfl
 |bl _=>cases r;rfl
 |int _=>obtain⟨t,rfl⟩:=r;rfl
 |str _=>obtain⟨t,rfl⟩:=r;rfl
 |jU _=>obtain⟨t,rfl⟩:=r;rfl
 |mM _=>obtain⟨t,rfl⟩:=r;rfl
 |ref _=>cases r;rfl
 |ty _=>cases r;rfl
theorem Cr{j pos'}(ha:PE X a ta):PC X .Is a (.Constant .none j pos') (Ad ta):=by
 intro pins s σ H Q I h
 refine aE (ha pins s σ H _ I h) fun v s1 ⟨x,H1,I1,r1,q1⟩=>?_
 exact Constant_none (is_none_gen ⟨.bl _,H1,I1,by rw[r1.uM];rfl,q1⟩)
theorem Es{j pos'}(ha:PE X a ta):PC X .IsNot a (.Constant .none j pos') (xm ta):=by
 intro pins s σ H Q I h
 refine aE (ha pins s σ H _ I h) fun v s1 ⟨x,H1,I1,r1,q1⟩=>?_
 exact Constant_none (isnot_none_gen ⟨.bl _,H1,I1,by rw[r1.uM];rfl,q1⟩)
noncomputable def tB(t:TE):TT:=fun σ H Q=>t σ H fun x H1=>∃c,x=.bl c∧Q c H1
theorem u3{op:CmpOp}{t:TE}(h:PC X op a b t)(h1:behindInMarks op b=false:=by first|exact AE _ (by decide) (by decide)|rfl):PT X (.Compare a [op] [b] pos) (tB t):=by
 intro pins s σ H Q I hw
 refine wpAny_isTrue_Compare1 (aE (h pins s σ H _ I hw) fun v s1 h1=>aE h1 fun u s2 h2=>aE h2 fun c s3 ⟨x,H1,I1,r1,q1⟩=>?_) h1
 obtain⟨d,rfl,q⟩:=q1
 cases r1
 exact wpAny_truthy_bool ⟨H1,I1,q⟩
variable{tA tB':TT}{rest:List Expr}
noncomputable def gw(t u:TT):TT:=fun σ H Q=>t σ H fun c H1=>if c=true then u σ H1 Q else Q false H1
noncomputable def b7(t u:TT):TT:=fun σ H Q=>t σ H fun c H1=>if c=true then Q true H1 else u σ H1 Q
noncomputable def d6(t:TT):TT:=fun σ H Q=>t σ H fun c H1=>Q (!c) H1
theorem Cq(ha:PT X a tA):PW X (.BoolOp .And [a] pos) tA:=by
 intro wh pins s σ H Q I h
 refine isTrue_and (aE (ha pins s σ H Q I h) fun c s1 e=>?_)
 cases c with
 |true=>exact isTrue_and_nil e
 |false=>exact e
theorem yv(ha:PT X a tA):PW X (.BoolOp .Or [a] pos) tA:=by
 intro wh pins s σ H Q I h
 refine isTrue_or (aE (ha pins s σ H Q I h) fun c s1 e=>?_)
 cases c with
 |false=>exact isTrue_or_nil e
 |true=>exact e
theorem DP(ha:PT X a tA)(hb:PW X (.BoolOp .And (b::rest) pos) tB'):PW X (.BoolOp .And (a::b::rest) pos) (gw tA tB'):=by
 intro wh pins s σ H Q I h
 refine isTrue_and (aE (ha pins s σ H _ I h) fun c s1 ⟨H1,I1,q1⟩=>?_)
 cases c with
 |true=>exact hb wh pins s1 σ H1 Q I1 q1
 |false=>exact⟨H1,I1,q1⟩
theorem B8(ha:PT X a tA)(hb:PW X (.BoolOp .Or (b::rest) pos) tB'):PW X (.BoolOp .Or (a::b::rest) pos) (b7 tA tB'):=by
 intro wh pins s σ H Q I h
 refine isTrue_or (aE (ha pins s σ H _ I h) fun c s1 ⟨H1,I1,q1⟩=>?_)
 cases c with
 |true=>exact⟨H1,I1,q1⟩
 |false=>exact hb wh pins s1 σ H1 Q I1 q1
theorem zL(ha:PT X a tA):PT X (.UnaryOp .Not a pos) (d6 tA):=by
 intro pins s σ H Q I h
 exact isTrue_not (ha pins s σ H (fun c H1=>Q (!c) H1) I h)
noncomputable def yA(ta tb:TE):TE:=fun σ H Q=>ta σ H fun x H1=>∃c,x=.bl c∧if c=true then tb σ H1 Q else Q (.bl false) H1
noncomputable def zD(ta:TE):TE:=fun σ H Q=>ta σ H fun x H1=>∃c,x=.bl c∧Q (.bl (!c)) H1
theorem BK{op}{t:TE}(h:PE X a t):PE X (.BoolOp op [a] pos) t:=fun pins s σ H Q I hw=>BoolOp_one (h pins s σ H Q I hw)
theorem xx(ha:PE X a ta)(hb:PE X (.BoolOp .And (b::rest) pos) tb):PE X (.BoolOp .And (a::b::rest) pos) (yA ta tb):=by
 intro pins s σ H Q I h
 refine BoolOp_and (aE (ha pins s σ H _ I h) fun v s1 ⟨x,H1,I1,r1,q1⟩=>?_)
 obtain⟨c,rfl,q1⟩:=q1
 cases r1
 refine wpAny_truthy_bool ?_
 cases c with
 |true=>exact hb pins s1 σ H1 Q I1 q1
 |false=>exact⟨.bl false,H1,I1,rfl,q1⟩
theorem yg(ha:PE X a ta):PE X (.UnaryOp .Not a pos) (zD ta):=by
 intro pins s σ H Q I h
 refine UnaryOp_ (aE (ha pins s σ H _ I h) fun v s1 ⟨x,H1,I1,r1,q1⟩=>?_)
 obtain⟨c,rfl,q1⟩:=q1
 cases r1
 exact not_of (wpAny_truthy_bool ⟨.bl (!c),H1,I1,rfl,q1⟩)
noncomputable def DN(t:TT)(ta tb:TE):TE:=fun σ H Q=>t σ H fun c H1=>if c=true then ta σ H1 Q else tb σ H1 Q
theorem wO{c:Expr}(hc:PT X c tA)(ha:PE X a ta)(hb:PE X b tb):PE X (.IfExp c a b pos) (DN tA ta tb):=by
 intro pins s σ H Q I h
 refine wpAny_IfExp (aE (hc pins s σ H _ I h) fun d s1 ⟨H1,I1,q1⟩=>?_)
 cases d with
 |true=>exact ha pins s1 σ H1 Q I1 q1
 |false=>exact hb pins s1 σ H1 Q I1 q1
end
end L2
namespace L2
open PySem PySem.Spec PyProof.Rows
noncomputable def aY(K:PySem.W.Frag)(H:Hp)(a:Addr)(xs:List V):Prop:=
 Rd H a (.lst xs)∨
   ∃(o:Obj) (its:Array Value) (n:Nat),K.lookup a=some o∧o.cls=.type "list"∧o.dict=none∧o.data=.seq its n∧its.size≤sizeLine∧Vals xs its.toList
noncomputable def bb(K:PySem.W.Frag)(H:Hp)(a:Addr)(xs:List V):Prop:=
 Rd H a (.tup xs)∨
   ∃(o:Obj) (its:Array Value) (n:Nat),K.lookup a=some o∧o.cls=.type "tuple"∧o.data=.seq its n∧its.size≤sizeLine∧Vals xs its.toList
noncomputable def wz:Value→Option V
 |.none=>some .aA
 |.bool b=>some (.bl b)
 |.int i _=>some (.int i)
 |.str x _=>some (.str x)
 |.bytes b _=>some (.jU b)
 |.float b _=>some (.mM b)
 |.ref a=>some (.ref a)
 |.type n=>some (.ty n)
 |_=>none
theorem RelV.abs{x:V}{u:Value}(r:RelV x u):wz u=some x:=by
 cases x with
 |aA=>cases r;rfl
 |bl _=>cases r;rfl
 |int _=>obtain⟨t,rfl⟩:=r;rfl
 |str _=>obtain⟨t,rfl⟩:=r;rfl
 |jU _=>obtain⟨t,rfl⟩:=r;rfl
 |mM _=>obtain⟨t,rfl⟩:=r;rfl
 |ref _=>cases r;rfl
 |ty _=>cases r;rfl
theorem RelV.inj{x y:V}{u:Value}(r:RelV x u)(q:RelV y u):x=y:=Option.some.inj (r.abs.symm.trans q.abs)
theorem Vals.inj:∀ {xs ys:List V} {us:List Value},Vals xs us→Vals ys us→xs=ys
 |_,_,_,.nil,.nil=>rfl
 |_,_,_,.cons r t,.cons r' t'=>by rw[r.inj r',Vals.inj t t']
section
variable{X:Cx}{pins:List (Addr×Obj)}{σ:St}{H:Hp}{s:Shared}{a:Addr}{xs ys:List V}
theorem aY.of{K:PySem.W.Frag}(h:H a=some (.lst xs)):aY K H a xs:=.inl (.inl h)
theorem bb.of{K:PySem.W.Frag}(h:H a=some (.tup xs)):bb K H a xs:=.inl (.inl h)
theorem Inv.list(I:Inv X pins σ H s)(h:aY X.K H a xs):∃its:List Value,Vals xs its∧PlainL s.heap a its.toArray∧xs.length≤sizeLine:=by
 rcases h with h|⟨o,its,n,hk,hc,hd,hs,hz,r⟩
 · obtain⟨z,its,n,r,e⟩:=h.ok I.aD
   exact⟨its,r,⟨_,n,e,rfl,rfl,rfl⟩,z⟩
 · refine⟨its.toList,r,⟨o,n,I.b5 a o hk,hc,hd,by simpa using hs⟩,?_⟩
   have e:=r.length
   simp only[Array.length_toList]at e
   omega
theorem Inv.tuple(I:Inv X pins σ H s)(h:bb X.K H a xs):∃its:List Value,Vals xs its∧IsTup s.heap a its.toArray∧xs.length≤sizeLine:=by
 rcases h with h|⟨o,its,n,hk,hc,hs,hz,r⟩
 · obtain⟨z,its,r,p⟩:=h.ok I.aD
   exact⟨its,r,p,z⟩
 · refine⟨its.toList,r,⟨o,I.b5 a o hk,hc,n,by simpa using hs⟩,?_⟩
   have e:=r.length
   simp only[Array.length_toList]at e
   omega
theorem Inv.qL(I:Inv X pins σ H s)(h:aY X.K H a xs)(h':aY X.K H a ys):xs=ys:=by
 obtain⟨its,r,⟨o,n,e,_,_,d⟩,_⟩:=I.list h
 obtain⟨its',r',⟨o',n',e',_,_,d'⟩,_⟩:=I.list h'
 rw[e]at e';cases e'
 rw[d]at d'
 injection d' with d1 _
 have:its=its':=by simpa using congrArg Array.toList d1
 subst this
 exact r.inj r'
theorem Inv.uQ(I:Inv X pins σ H s)(h:bb X.K H a xs)(h':bb X.K H a ys):xs=ys:=by
 obtain⟨its,r,⟨o,e,_,n,d⟩,_⟩:=I.tuple h
 obtain⟨its',r',⟨o',e',_,n',d'⟩,_⟩:=I.tuple h'
 rw[e]at e';cases e'
 rw[d]at d'
 injection d' with d1 _
 have:its=its':=by simpa using congrArg Array.toList d1
 subst this
 exact r.inj r'
end
noncomputable abbrev Cx.eK(X:Cx)(E:Value→Shared→Prop):Cx:={X with xe:=E}
noncomputable abbrev Cx.fE(X:Cx):Cx:=X.eK fun _ _=>False
theorem Cx.Ok.eK{X:Cx}(ok:X.Ok)(E:Value→Shared→Prop):(X.eK E).Ok:=
 ⟨ok.mod,ok.kind,ok.glob,ok.blt,ok.above,ok.inj,ok.has,ok.kx,ok.hd,ok.frames,ok.nv,ok.tO,ok.bs,ok.gx,ok.kK,ok.lV,ok.eV,ok.iP⟩
theorem Cx.Ok.fN{X:Cx}{E:Value→Shared→Prop}(ok:(X.eK E).Ok):X.Ok:=
 ⟨ok.mod,ok.kind,ok.glob,ok.blt,ok.above,ok.inj,ok.has,ok.kx,ok.hd,ok.frames,ok.nv,ok.tO,ok.bs,ok.gx,ok.kK,ok.lV,ok.eV,ok.iP⟩
section
variable{X:Cx}{pins:List (Addr×Obj)}{σ:St}{H:Hp}{s:Shared}{E:Value→Shared→Prop}
theorem Inv.eK(I:Inv X pins σ H s)(E:Value→Shared→Prop):Inv (X.eK E) pins σ H s:=⟨I.ok.eK E,I.os,I.bare,I.base,I.loc,I.cell,I.free,I.ff,I.pin,I.aD,I.len⟩
theorem Inv.fN(I:Inv (X.eK E) pins σ H s):Inv X pins σ H s:=⟨I.ok.fN,I.os,I.bare,I.base,I.loc,I.cell,I.free,I.ff,I.pin,I.aD,I.len⟩
theorem SP.fN{D:Ends}{f:Flow}{s':Shared}(h:SP (X.eK E) pins D f s'):SP X pins D f s':=by
 cases f with
 |next=>obtain⟨σ',H',I,q⟩:=h;exact⟨σ',H',I.fN,q⟩
 |brk=>obtain⟨σ',H',I,q⟩:=h;exact⟨σ',H',I.fN,q⟩
 |cont=>obtain⟨σ',H',I,q⟩:=h;exact⟨σ',H',I.fN,q⟩
 |ret u=>obtain⟨v,σ',H',I,r,q⟩:=h;exact⟨v,σ',H',I.fN,r,q⟩
theorem PE.fE{e:Expr}{t:TE}(h:PE X.fE e t):PE X e t:=fun pins s σ H Q I hw=>
 wpAny_mono (h pins s σ H Q (I.eK _) hw) (fun _ _ ⟨v,H',I',r,q⟩=>⟨v,H',I'.fN,r,q⟩) fun _ _ z=>False.elim z
theorem PT.fE{e:Expr}{t:TT}(h:PT X.fE e t):PT X e t:=fun pins s σ H Q I hw=>
 wpAny_mono (h pins s σ H Q (I.eK _) hw) (fun _ _ ⟨H',I',q⟩=>⟨H',I'.fN,q⟩) fun _ _ z=>False.elim z
theorem bT.fE{st:List Stmt}{t:TS}(h:bT X.fE st t):bT X st t:=fun pins s σ H D I hw=>
 wpAny_mono (h pins s σ H D (I.eK _) hw) (fun _ _ q=>q.fN) fun _ _ z=>False.elim z
end
section
variable{X:Cx}{st:Stmt}{rest:List Stmt}{t u:TS}{e:Expr}{te:TE}{pos:Pos}
noncomputable def Ew:TS:=fun D σ H=>D.nx σ H
noncomputable def tQ(t u:TS):TS:=fun D σ H=>t {D with nx:=u D} σ H
theorem zf:bT X [] Ew:=fun _ _ σ H _ I h=>wpAny_execs_nil ⟨σ,H,I,h⟩
theorem Ac(h1:PS X st t)(h2:bT X rest u):bT X (st::rest) (tQ t u):=by
 intro pins s σ H D I h
 refine wpAny_execs_cons (aE (h1 pins s σ H {D with nx:=u D} I h) fun f s1 q=>?_)
 cases f with
 | next=>
   obtain⟨σ',H',I',q⟩:=q
   exact h2 pins s1 σ' H' D I' q
 |ret v=>exact q
 |brk=>exact q
 |cont=>exact q
theorem Cb(h1:PS X st t):bT X [st] t:=by
 intro pins s σ H D I h
 refine wpAny_execs_cons (aE (h1 pins s σ H D I h) fun f s1 q=>?_)
 cases f with
 |next=>exact wpAny_execs_nil q
 |ret v=>exact q
 |brk=>exact q
 |cont=>exact q
theorem Inv.quiet{pins:List (Addr×Obj)}{σ:St}{H:Hp}{s:Shared}(I:Inv X pins σ H s):interactive X.env=false:=by simp[interactive,I.ok.kind]
noncomputable def yn(te:TE):TS:=fun D σ H=>te σ H fun _ H1=>D.nx σ H1
theorem ti(he:PE X e te)(hs:swapsWith e none pos.line X.env=pure false:=by rfl):PS X (.Expr e pos) (yn te):=by
 intro pins s σ H D I h
 exact wpAny_Expr_any (aE (he pins s σ H _ I h) fun v s1 ⟨x,H1,I1,r1,q1⟩=>⟨σ,H1,I1,q1⟩) I.quiet hs
noncomputable def y0(te:TE):TS:=fun D σ H=>te σ H D.rt
theorem o5(he:PE X e te):PS X (.Return (some e) pos) (y0 te):=by
 intro pins s σ H D I h
 exact wpAny_Return_some (aE (he pins s σ H _ I h) fun v s1 ⟨x,H1,I1,r1,q1⟩=>⟨x,σ,H1,I1,r1,q1⟩)
noncomputable def CM(c:TT)(t u:TS):TS:=fun D σ H=>c σ H fun b H1=>if b=true then t D σ H1 else u D σ H1
theorem CZ{c:Expr}{a b:List Stmt}{tc:TT}(hc:PT X c tc)(ha:bT X a t)(hb:bT X b u):PS X (.If c a b pos) (CM tc t u):=by
 intro pins s σ H D I h
 refine wpAny_If (aE (hc pins s σ H _ I h) fun d s1 ⟨H1,I1,q1⟩=>?_)
 cases d with
 |true=>exact ha pins s1 σ H1 D I1 q1
 |false=>exact hb pins s1 σ H1 D I1 q1
end
noncomputable abbrev TG:=V→St→Hp→(St→Hp→Prop)→Prop
noncomputable abbrev fT:=List V→St→Hp→(St→Hp→Prop)→Prop
noncomputable def PG(X:Cx)(target:Expr)(t:TG):Prop:=
 ∀(pins:List (Addr×Obj)) (s:Shared) (σ:St) (H:Hp) (v:V) (u:Value) (Q:St→Hp→Prop),Inv X pins σ H s→RelV v u→t v σ H Q→
   wpAny (model X.prog X.w) X.A (assign target X.env u) (fun _ s'=>∃σ' H',Inv X pins σ' H' s'∧Q σ' H') X.xe s
noncomputable def cY(X:Cx)(ts:List Expr)(t:fT):Prop:=
 ∀(pins:List (Addr×Obj)) (s:Shared) (σ:St) (H:Hp) (vs:List V) (us:List Value) (Q:St→Hp→Prop),Inv X pins σ H s→Vals vs us→t vs σ H Q→
   wpAny (model X.prog X.w) X.A (assignInOrder ((assignEach ts X.env).map (·.2)) us) (fun _ s'=>∃σ' H',Inv X pins σ' H' s'∧Q σ' H') X.xe s
section
variable{X:Cx}{pos:Pos}
noncomputable def aF(i:Nat):TG:=fun v σ H Q=>Q (σ.set i (some v)) H
theorem Ej{i:Nat}{x:Str}(hN:X.N.Nodup)(hi:X.N[i]? =some x)(hx:Loc X.env.scope x)(hf:X.fn x=true∨X.env.scope.names.lookup x=some .local:=by first|exact .inl rfl|exact .inr rfl|assumption):PG X (.Name x pos) (aF i):=by
 intro pins s σ H v u Q I r h
 exact wpAny_assign_Name (vP I hN hi hx r (fun s' I'=>⟨_,H,I',h⟩) hf)
noncomputable def CU:fT:=fun vs σ H Q=>vs=[]∧Q σ H
noncomputable def sf(t:TG)(u:fT):fT:=fun vs σ H Q=>∃v r,vs=v::r∧t v σ H fun σ' H'=>u r σ' H' Q
theorem wG:cY X [] CU:=by
 intro pins s σ H vs us Q I r h
 obtain⟨e,h⟩:=h
 subst e
 cases r
 exact assignInOrder_nil ⟨σ,H,I,h⟩
theorem EH{e:Expr}{es:List Expr}{t:TG}{u:fT}(h1:PG X e t)(h2:cY X es u)
   (hs:(assignEach (e::es) X.env).map (·.2)=assign e X.env::(assignEach es X.env).map (·.2):=by rfl):cY X (e::es) (sf t u):=by
 intro pins s σ H vs us Q I r h
 obtain⟨v,vr,e1,h⟩:=h
 subst e1
 cases r with
 | cons r rr=>
   rw[hs]
   refine assignInOrder_cons (aE (h1 pins s σ H _ _ _ I r h) fun _ s1 ⟨σ1,H1,I1,q1⟩=>?_)
   exact h2 pins s1 σ1 H1 _ _ Q I1 rr q1
noncomputable def fP(K:PySem.W.Frag)(n:Nat)(t:fT):TG:=fun v σ H Q=>∃a xs,v=.ref a∧bb K H a xs∧xs.length=n∧t xs σ H Q
theorem A0{es:List Expr}{k:Nat}{t:fT}{n:Nat}(hc:X.calm=true)(h:cY X es t)
   (hn:(assignEach es X.env).length=n:=by rfl) (hst:(assignEach es X.env).findIdx? (·.1)=none:=by rfl):PG X (.Tuple es k pos) (fP X.K n t):=by
 intro pins s σ H v u Q I r hw
 obtain⟨a,xs,e1,hq,hl,hw⟩:=hw
 subst e1
 cases r
 obtain⟨its,rv,ht,hz⟩:=I.tuple hq
 refine assign_Tuple_tuple (I.ok.hd hc) ht (by simp[hn, ←hl,rv.length]) hst fun h' hx=>?_
 have I1:Inv X pins σ H {s with heap:=h'}:=I.kept (t':=s.toks) fun b o e=>hx b o (Nat.ne_of_lt (Heap.lt_size e)) e
 exact h pins _ σ H xs _ Q I1 (by simpa using rv) hw
noncomputable def tf(te:TE)(g:TG):TS:=fun D σ H=>te σ H fun x H1=>g x σ H1 D.nx
theorem Be{tg e:Expr}{te:TE}{g:TG}(he:PE X e te)(hg:PG X tg g)(hs:swapsWithSole [tg] e pos.line X.env=pure false:=by rfl)(hw:swappedStores [tg] e X.env=pure none:=by rfl)
   (h1:(assignEach [tg] X.env).map (·.2)=[assign tg X.env]:=by rfl):PS X (.Assign [tg] e pos) (tf te g):=by
 intro pins s σ H D I h
 refine wpAny_Assign_stores (aE (he pins s σ H _ I h) fun v s1 ⟨x,H1,I1,r1,q1⟩=>?_) hs hw
 rw[h1]
 exact aE (hg pins s1 σ H1 x v _ I1 r1 q1) fun _ s2 q=>q
theorem lH{i:Nat}{x:Str}{e:Expr}{te:TE}{pos':Pos}(hN:X.N.Nodup)(hi:X.N[i]? =some x)(hx:Loc X.env.scope x)(he:PE X e te)(hs:swapsWith e (some (.Name x pos')) pos.line X.env=pure false:=by rfl)(hf:X.fn x=true∨X.env.scope.names.lookup x=some .local:=by first|exact .inl rfl|exact .inr rfl|assumption):
   PS X (.Assign [.Name x pos'] e pos) (tf te (aF i)):=by
 intro pins s σ H D I h
 refine wpAny_Assign_Name (aE (he pins s σ H _ I h) fun v s1 ⟨y,H1,I1,r1,q1⟩=>?_) hs
 exact vP I1 hN hi hx r1 (fun s2 I2=>⟨_,H1,I2,q1⟩) hf
end
section
variable{X:Cx}{pos:Pos}
end
structure It where
 go:Nat→Hp→Prop
 ke:Nat→Hp→V→Hp→Prop
 stop:Nat→Hp→Prop
noncomputable def cu(X:Cx)(pins:List (Addr×Obj))(H:Hp)(b:Addr):Prop:=
 H b=none∧b≠X.env.locals∧b∉X.fs∧(b∈X.ex∨X.b8.heap.objs.size≤b)∧(∀x c,X.env.cells.lookup x=some c→c≠b)∧∀p∈X.pn++pins,p.1≠b
theorem Inv.jB{X:Cx}{pins:List (Addr×Obj)}{σ:St}{H H':Hp}{s:Shared}{b:Addr}(I:Inv X pins σ H s)(hb:s.heap.objs.size≤b)(hn:H' b=none):cu X pins H' b:=by
 refine⟨hn,Nat.ne_of_gt (Nat.lt_of_lt_of_le I.lt hb),I.xX hb,.inr (Nat.le_trans I.sz hb),fun x c e z=>?_,fun p hp z=>?_⟩
 · obtain⟨v,q⟩:=I.cell x c e
   exact absurd (Nat.lt_of_lt_of_le q.lt (by rw[z];exact hb)) (Nat.lt_irrefl _)
 ·exact absurd (Nat.lt_of_lt_of_le (Heap.lt_size (I.pin p hp).1) (by rw[z];exact hb)) (Nat.lt_irrefl _)
structure Turn(P:Program)(w:World)(K:PySem.W.Frag)(tg:Expr)(J:It)(fp:List Addr)(it:Addr)(tn:Nat→Heap→Prop):Prop where
 mem:it∈fp
 obj:∀i h,tn i h→∀b∈fp,∃o,h.get? b=some o∧∀v,o.data≠.cell v
 keep:∀i h h',tn i h→(∀b∈fp,∀o,h.get? b=some o→h'.get? b=some o)→tn i h'
 item:∀(X:Cx),X.prog=P→X.w=w→X.K=K→X.calm=true→∀(i:Nat) (pins:List (Addr×Obj)) (s:Shared) (σ:St) (H:Hp) (E:Value→Shared→Prop),Inv X pins σ H s→(∀b∈fp,cu X pins H b)→tn i s.heap→J.go i H→
   wpAny (model P w) X.A (pyNext (.ref it)) (fun r s1=>∃u,r=some u∧
     wpAny (model P w) X.A (letOwnedTupleGo tg (.ref it) u) (fun _ s2=>∃x H',Inv X pins σ H' s2∧RelV x u∧J.ke i H x H'∧tn (i+1) s2.heap∧∀b∈fp,H' b=none) E s1) E s
 done:∀(X:Cx),X.prog=P→X.w=w→X.K=K→X.calm=true→∀(i:Nat) (pins:List (Addr×Obj)) (s:Shared) (σ:St) (H:Hp) (E:Value→Shared→Prop),Inv X pins σ H s→(∀b∈fp,cu X pins H b)→tn i s.heap→J.stop i H→
   wpAny (model P w) X.A (pyNext (.ref it)) (fun r s1=>r=none∧Inv X pins σ H s1) E s
 self:∀(A:Around) (i:Nat) (s:Shared) (Q:Value→Shared→Prop) (E:Value→Shared→Prop),tn i s.heap→Q (.ref it) s→wpAny (model P w) A (pyIter (.ref it)) Q E s
noncomputable abbrev TI:=St→Hp→(It→Hp→Prop)→Prop
noncomputable def nY(X:Cx)(pins:List (Addr×Obj))(σ:St)(tg:Expr)(R:It→Hp→Prop)(itv:Value)(s2:Shared):Prop:=
 ∃(it:Addr) (fp:List Addr) (tn:Nat→Heap→Prop) (J:It) (H':Hp),itv=.ref it∧Inv X pins σ H' s2∧Turn X.prog X.w X.K tg J fp it tn∧tn 0 s2.heap∧(∀b∈fp,cu X pins H' b)∧R J H'
noncomputable def PI(X:Cx)(tg iter:Expr)(wi:TI):Prop:=
 ∀(pins:List (Addr×Obj)) (s:Shared) (σ:St) (H:Hp) (R:It→Hp→Prop),Inv X pins σ H s→wi σ H R→
   wpAny (model X.prog X.w) X.A (eval iter X.env) (fun v s1=>wpAny (model X.prog X.w) X.A (pyIter v) (nY X pins σ tg R) X.xe s1) X.xe s
theorem jl{M:Model}{A:Around}{E:Value→Shared→Prop}{s:Shared}{tg:Expr}{it:Addr}{u:Value}{o:Obj}{n:String}{vs:Array Value}{Q:Unit→Shared→Prop}(ho:s.heap.get? it=some o)(hc:o.cls=.type n)(hd:o.data=.fields vs)
   (hn:["enumerate","zip","dict_itemiterator","dict_reverseitemiterator","odict_iterator","itertools.zip_longest","itertools.pairwise"].contains n=false) (hQ:Q () s):wpAny M A (letOwnedTupleGo tg (.ref it) u) Q E s:=by
 unfold letOwnedTupleGo
 cases tg<;>first
   |exact wpAny_pure hQ
   |(cases u<;>first
       |exact wpAny_pure hQ
       | (refine wpAny_bind (wpAny_load ho ?_)
          rw[hc,hd]
          show wpAny M A (if(["enumerate","zip","dict_itemiterator","dict_reverseitemiterator","odict_iterator","itertools.zip_longest","itertools.pairwise"].contains n&&vs[0]? ==some (rawInt _))=true then _ else _) Q E s
          rw[if_neg (by intro h;rw[hn,Bool.false_and]at h;cases h)]
          exact wpAny_pure hQ))
noncomputable def ly(K:PySem.W.Frag)(a:Addr):It:=
 ⟨fun i H=>∃xs x,aY K H a xs∧xs[i]? =some x,fun i H x H'=>H'=H∧∀xs,aY K H a xs→xs[i]? =some x,fun i H=>∃xs,aY K H a xs∧xs.length≤i⟩
noncomputable def lD(K:PySem.W.Frag)(a:Addr):It:=
 ⟨fun i H=>∃xs x,bb K H a xs∧xs[i]? =some x,fun i H x H'=>H'=H∧∀xs,bb K H a xs→xs[i]? =some x,fun i H=>∃xs,bb K H a xs∧xs.length≤i⟩
noncomputable def br(lo:Int)(n:Nat):It:=⟨fun i _=>i<n,fun i H x H'=>H'=H∧x=.int (lo+i),fun i _=>n≤i⟩
theorem zZ{P:Program}{w:World}{K:PySem.W.Frag}{tg:Expr}(a it:Addr):Turn P w K tg (ly K a) [it] it (fun i h=>h.IsListIter it a i) where
 mem:=by simp
 obj:=fun i h st b hb=>by
   have e:b=it:=by simpa using hb
   subst e
   obtain⟨o,e,c,d⟩:=st
   exact⟨o,e,fun v z=>by rw[d]at z;cases z⟩
 keep:=fun i h h' st k=>st.at fun o e=>k it (by simp) o e
 item:=by
   intro X hP hw hK hc i pins s σ H E I hf st hg
   subst hP hw hK
   obtain⟨xs,x,hq,hx⟩:=hg
   obtain⟨its,rv,p,hz⟩:=I.list hq
   obtain⟨u,hu,ru⟩:=rv.get hx
   obtain⟨f0,f1,f2,f3,f4,f5⟩:=hf it (by simp)
   refine wpAny_pyNext_list_item st p.isList (x:=u) (by simpa using hu) fun h' st' sb=>?_
   have I1:Inv X pins σ H {s with heap:=h'}:=I.turned (t':=s.toks) (fun b o hb e=>(sb.2 b hb).trans e) f0 f1 f3 f4 f5
   obtain⟨o,e,c,d⟩:=id st'
   exact⟨u,rfl,jl (s:={s with heap:=h'}) e c d (by decide) ⟨x,H,I1,ru,⟨rfl,fun ys hy=>by rw[I.qL hy hq];exact hx⟩,st',fun b hb=>(hf b hb).1⟩⟩
 done:=by
   intro X hP hw hK hc i pins s σ H E I hf st hg
   subst hP hw hK
   obtain⟨xs,hq,hx⟩:=hg
   obtain⟨its,rv,p,hz⟩:=I.list hq
   obtain⟨f0,f1,f2,f3,f4,f5⟩:=hf it (by simp)
   have hl:=rv.length
   exact wpAny_pyNext_list_end (I.ok.hd hc) st p.isList (by simp;omega) fun h' eb=>⟨rfl,I.turned (t':=s.toks) (fun b o hb e=>eb b o hb e) f0 f1 f3 f4 f5⟩
 self:=fun _ _ _ _ _ st h=>wpAny_pyIter_listiter st h
theorem wt{P:Program}{w:World}{K:PySem.W.Frag}{tg:Expr}(a it:Addr):Turn P w K tg (lD K a) [it] it (fun i h=>h.IsTupleIter it a i) where
 mem:=by simp
 obj:=fun i h st b hb=>by
   have e:b=it:=by simpa using hb
   subst e
   obtain⟨o,e,c,d⟩:=st
   exact⟨o,e,fun v z=>by rw[d]at z;cases z⟩
 keep:=fun i h h' st k=>st.at fun o e=>k it (by simp) o e
 item:=by
   intro X hP hw hK hc i pins s σ H E I hf st hg
   subst hP hw hK
   obtain⟨xs,x,hq,hx⟩:=hg
   obtain⟨its,rv,p,hz⟩:=I.tuple hq
   obtain⟨u,hu,ru⟩:=rv.get hx
   obtain⟨f0,f1,f2,f3,f4,f5⟩:=hf it (by simp)
   refine wpAny_pyNext_tuple_item st (show s.heap.IsTuple a its.toArray from p) (x:=u) (by simpa using hu) fun h' st' sb=>?_
   have I1:Inv X pins σ H {s with heap:=h'}:=I.turned (t':=s.toks) (fun b o hb e=>(sb.2 b hb).trans e) f0 f1 f3 f4 f5
   obtain⟨o,e,c,d⟩:=id st'
   exact⟨u,rfl,jl (s:={s with heap:=h'}) e c d (by decide) ⟨x,H,I1,ru,⟨rfl,fun ys hy=>by rw[I.uQ hy hq];exact hx⟩,st',fun b hb=>(hf b hb).1⟩⟩
 done:=by
   intro X hP hw hK hc i pins s σ H E I hf st hg
   subst hP hw hK
   obtain⟨xs,hq,hx⟩:=hg
   obtain⟨its,rv,p,hz⟩:=I.tuple hq
   obtain⟨f0,f1,f2,f3,f4,f5⟩:=hf it (by simp)
   have hl:=rv.length
   exact wpAny_pyNext_tuple_end (I.ok.hd hc) st (show s.heap.IsTuple a its.toArray from p) (by simp;omega) fun h' eb=>⟨rfl,I.turned (t':=s.toks) (fun b o hb e=>eb b o hb e) f0 f1 f3 f4 f5⟩
 self:=fun _ _ _ _ _ st h=>wpAny_pyIter_tupleiter st h
theorem BZ{P:Program}{w:World}{K:PySem.W.Frag}{tg:Expr}(it:Addr)(lo:Int)(n:Nat):Turn P w K tg (br lo n) [it] it (fun i h=>IsRangeIter h it (lo+(i:Nat)*1) ((n:Int) - (i:Nat)) 1) where
 mem:=by simp
 obj:=fun i h st b hb=>by
   have e:b=it:=by simpa using hb
   subst e
   exact⟨_,st,fun v z=>by
     have z':Data.fields _=Data.cell v:=z
     cases z'⟩
 keep:=fun i h h' st k=>k it (by simp) _ st
 item:=by
   intro X hP hw hK hc i pins s σ H E I hf st hg
   subst hP hw hK
   obtain⟨f0,f1,f2,f3,f4,f5⟩:=hf it (by simp)
   have W:=Walks.range (prog:=X.prog) (w:=X.w) (I.ok.hd hc) it lo 1 n
   refine W.item i s _ _ hg st fun v h' tk hv st' kk=>?_
   obtain⟨t,rfl⟩:=hv
   have I1:Inv X pins σ H {s with heap:=h',toks:=tk}:=I.turned (fun b o hb e=>kk b o (by simpa using hb) e) f0 f1 f3 f4 f5
   refine⟨_,rfl,jl (s:={s with heap:=h',toks:=tk}) (n:="range_iterator") st' rfl rfl (by decide) ⟨.int (lo+i),H,I1,⟨t,?_⟩,⟨rfl,rfl⟩,st',fun b hb=>(hf b hb).1⟩⟩
   rw[Int.mul_one]
 done:=by
   intro X hP hw hK hc i pins s σ H E I hf st hg
   subst hP hw hK
   obtain⟨f0,f1,f2,f3,f4,f5⟩:=hf it (by simp)
   exact wpAny_pyNext_range_end (I.ok.hd hc) st (by have:n≤i:=hg;omega) fun h' eb=>⟨rfl,I.turned (t':=s.toks) (fun b o hb e=>eb b o hb e) f0 f1 f3 f4 f5⟩
 self:=fun _ _ _ _ _ st h=>wpAny_pyIter_rangeiter st h
end L2
namespace L2
open PySem PySem.Spec PyProof.Rows
section
variable{X:Cx}{tg:Expr}
theorem rB{pins:List (Addr×Obj)}{σ:St}{H:Hp}{s:Shared}{R:It→Hp→Prop}{E:Value→Shared→Prop}{lo hi:Int}{t u v:Tok}{tk:Nat}(I:Inv X pins σ H s)(h1: -(2 ^ 62)≤lo)(h2:lo<2 ^ 62)(h3: -(2 ^ 62)≤hi)(h4:hi<2 ^ 62)
   (q:R (br lo (hi - lo).toNat) H):wpAny (model X.prog X.w) X.A (pyIter (.ref s.heap.objs.size)) (nY X pins σ tg R) E {s with heap:=s.heap.push {cls:=.type "range",data:=.fields #[.int lo t,.int hi u,.int 1 v]},toks:=tk}:=by
 refine wpAny_pyIter_range (IsRange.new ..) (small_one h1 h2 h3 h4) ?_
 have I1:Inv X pins σ H {s with heap:=s.heap.push {cls:=.type "range",data:=.fields #[.int lo t,.int hi u,.int 1 v]},toks:=tk}:=I.kept fun b o e=>Heap.get?_push_of_some _ e
 refine⟨(s.heap.push {cls:=.type "range",data:=.fields #[.int lo t,.int hi u,.int 1 v]}).objs.size,[(s.heap.push {cls:=.type "range",data:=.fields #[.int lo t,.int hi u,.int 1 v]}).objs.size],_,_,H,rfl,
   I1.kept (t':=tk) fun b o e=>Heap.get?_push_of_some _ e,BZ _ lo (hi - lo).toNat,?_,fun b hb=>?_,q⟩
 · have e1:lo+((0:Nat):Int)*1=lo:=by simp
   have e2:(((hi - lo).toNat:Nat):Int) - ((0:Nat):Int)=Builtin.Range.rangeSize lo hi 1:=by rw[rangeSize_one];split<;>omega
   show IsRangeIter _ _ (lo+((0:Nat):Int)*1) ((((hi - lo).toNat:Nat):Int) - ((0:Nat):Int)) 1
   rw[e1,e2]
   exact Heap.get?_push_size _ rfl
 · have e:b=(s.heap.push {cls:=.type "range",data:=.fields #[.int lo t,.int hi u,.int 1 v]}).objs.size:=by simpa using hb
   subst e
   exact I1.jB (Nat.le_refl _) (I1.aD.fresh (Nat.le_refl _))
noncomputable def hW(ta:TA):TI:=fun σ H R=>ta σ H fun vs H1=>∃j:Int,vs=[.int j]∧ -(2 ^ 62)≤j∧j<2 ^ 62∧R (br 0 j.toNat) H1
noncomputable def kH(ta:TA):TI:=fun σ H R=>ta σ H fun vs H1=>∃i j:Int,vs=[.int i,.int j]∧(-(2 ^ 62)≤i∧i<2 ^ 62∧ -(2 ^ 62)≤j∧j<2 ^ 62)∧R (br i (j - i).toNat) H1
theorem Bo{a:Expr}{ta:TA}{p pos:Pos}(hg:Gl X "range")(hm:X.mg "range"=none)(ha:PA X [a] ta)(hs:starEach [a] X.env=[(false,eval a X.env)]:=by rfl):PI X tg (.Call (.Name "range" p) [a] [] pos) (hW ta):=by
 intro pins s σ H R I h
 refine Call_ (i6 I hg hm boot_range (PyProof.Rows.callWith_type1 (aE (ha pos pins s σ H _ I h) fun us s1 ⟨vs,H1,I1,r1,q1⟩=>?_) hs rfl))
 obtain⟨j,e,q1,q2,q⟩:=q1
 subst e
 cases r1 with
 | cons r rr=>
   cases rr
   obtain⟨t,rfl⟩:=r
   exact call_range_1 (rB I1 (by omega) (by omega) q1 q2 (by simpa using q))
theorem yx{a b:Expr}{ta:TA}{p pos:Pos}(hg:Gl X "range")(hm:X.mg "range"=none)(ha:PA X [a,b] ta)(hs:starEach [a,b] X.env=[(false,eval a X.env),(false,eval b X.env)]:=by rfl)(hs2:starEach [b] X.env=[(false,eval b X.env)]:=by rfl):
   PI X tg (.Call (.Name "range" p) [a,b] [] pos) (kH ta):=by
 intro pins s σ H R I h
 refine Call_ (i6 I hg hm boot_range (PyProof.Rows.callWith_type1 (aE (ha pos pins s σ H _ I h) fun us s1 ⟨vs,H1,I1,r1,q1⟩=>?_) (by rw[hs,hs2]) (by rw[hs2];rfl)))
 obtain⟨i,j,e,⟨q1,q2,q3,q4⟩,q⟩:=q1
 subst e
 cases r1 with
 | cons r rr=>
   cases rr with
   | cons r' rr=>
     cases rr
     obtain⟨t,rfl⟩:=r
     obtain⟨t',rfl⟩:=r'
     exact call_range_2 (rB I1 q1 q2 q3 q4 q)
noncomputable def zl(wi:TI)(g:TG)(tb:TS):TS:=fun D σ H=>wi σ H fun J H1=>∃W:Nat→Nat→St→Hp→Prop,(∃m,W 0 m σ H1)∧∀i m σ H,W i m σ H→
 (J.stop i H∧D.nx σ H)∨(J.go i H∧∃N:St→Hp→Prop,(∀σ' H',N σ' H'→∃m',m'<m∧W (i+1) m' σ' H')∧∀x H',J.ke i H x H'→g x σ H' fun σ2 H2=>tb {D with nx:=N,ct:=N,bk:=D.nx} σ2 H2)
noncomputable def jg(fp:List Addr)(h:Heap):List (Addr×Obj):=fp.filterMap fun b=>(h.get? b).map fun o=>(b,o)
theorem mn{fp:List Addr}{h:Heap}{b:Addr}{o:Obj}(hb:b∈fp)(e:h.get? b=some o):(b,o)∈jg fp h:=List.mem_filterMap.mpr ⟨b,hb,by rw[e];rfl⟩
theorem B0{fp:List Addr}{h:Heap}{p:Addr×Obj}(hp:p∈jg fp h):p.1∈fp∧h.get? p.1=some p.2:=by
 obtain⟨b,hb,e⟩:=List.mem_filterMap.mp hp
 cases q:h.get? b with
 |none=>rw[q]at e;cases e
 | some o=>
   rw[q]at e
   have e':(b,o)=p:=Option.some.inj e
   subst e'
   exact⟨hb,q⟩
theorem Inv.pinned{pins:List (Addr×Obj)}{σ:St}{H:Hp}{s:Shared}{fp:List Addr}(I:Inv X pins σ H s)(hf:∀b∈fp,cu X pins H b)(ho:∀b∈fp,∃o,s.heap.get? b=some o∧∀v,o.data≠.cell v):Inv X (pins++jg fp s.heap) σ H s:=
 I.sG fun p hp=>(List.mem_append.mp hp).elim (fun z=>I.pin p (List.mem_append_right _ z)) fun z=>by
   obtain⟨hb,e⟩:=B0 z
   obtain⟨f0,f1,f2,_⟩:=hf p.1 hb
   obtain⟨o,e',d⟩:=ho p.1 hb
   rw[e]at e';cases e'
   exact⟨e,f0,f1,f2,d⟩
theorem Inv.nE{pins pl:List (Addr×Obj)}{σ:St}{H:Hp}{s:Shared}(I:Inv X (pins++pl) σ H s):Inv X pins σ H s:=I.sG fun p hp=>I.pin p (List.mem_append_right _ (List.mem_append_left _ hp))
theorem Bp{iter:Expr}{body:List Stmt}{wi:TI}{g:TG}{tb:TS}{pos:Pos}(hp:PassesOwn (model X.prog X.w) X.A X.env X.xe)(hc:X.calm=true)(hi:PI X tg iter wi)(hg:PG X tg g)(hb:bT X body tb)
   (hs:∀x,foldedSetIterable iter X.env x=pure x:=by intro _;rfl):PS X (.For tg iter body [] pos) (zl wi g tb):=by
 intro pins s σ H D I h
 refine wpAny_For (aE (hi pins s σ H _ I h) fun v s1 h1=>aE h1 fun itv s2 h2=>?_) hs
 obtain⟨it,fp,tn,J,H2,e,I2,T,st2,f2,W,⟨m0,w0⟩,turn⟩:=h2
 subst e
 have stat:∀ {H':Hp},(∀b∈fp,H' b=none)→∀b∈fp,cu X pins H' b:=fun hn b hb=>⟨hn b hb,(f2 b hb).2⟩
 refine codeAny_forLoop_any (fun n s'=>∃i σ' H',Inv X pins σ' H' s'∧tn i s'.heap∧(∀b∈fp,H' b=none)∧W i n σ' H') ?_ m0 ⟨0,σ,H2,I2,st2,fun b hb=>(f2 b hb).1,w0⟩
 rintro n s3 ⟨i,σ3,H3,I3,st3,fr3,w3⟩
 rcases turn i n σ3 H3 w3 with⟨stop,qn⟩|⟨go,N,hN,step⟩
 · refine wpAny_passesOwn hp (aE (T.done X rfl rfl rfl hc i pins s3 σ3 H3 X.xe I3 (stat fr3) st3 stop) fun r s4 ⟨hr,I4⟩=>?_)
   subst hr
   exact wpAny_execs_nil ⟨σ3,H3,I4,qn⟩
 · refine wpAny_passesOwn hp (aE (T.item X rfl rfl rfl hc i pins s3 σ3 H3 X.xe I3 (stat fr3) st3 go) fun r s4 ⟨u,hr,h4⟩=>?_)
   subst hr
   refine wpAny_passesOwn hp (aE h4 fun _ s5 ⟨x,H5,I5,r5,y5,st5,fr5⟩=>?_)
   have I5':=I5.pinned (stat fr5) (T.obj _ _ st5)
   refine wpAny_passesOwn hp (aE (hg _ s5 σ3 H5 x u _ I5' r5 (step x H5 y5)) fun _ s6 ⟨σ6,H6,I6,q6⟩=>?_)
   refine wpAny_passesOwn hp (aE (hb _ s6 σ6 H6 _ I6 q6) fun f s7 q7=>?_)
   have again:∀ {σ7:St} {H7:Hp},Inv X (pins++jg fp s5.heap) σ7 H7 s7→N σ7 H7→∃m,m<n∧∃i σ' H',Inv X pins σ' H' s7∧tn i s7.heap∧(∀b∈fp,H' b=none)∧W i m σ' H':=fun {σ7 H7} I7 n7=>by
     obtain⟨m',hm,w7⟩:=hN σ7 H7 n7
     refine⟨m',hm,i+1,σ7,H7,I7.nE,T.keep _ _ _ st5 fun b hb o e=>(I7.pin (b,o) (List.mem_append_right _ (List.mem_append_right _ (mn hb e)))).1,fun b hb=>?_,w7⟩
     obtain⟨o,e,d⟩:=T.obj _ _ st5 b hb
     exact(I7.pin (b,o) (List.mem_append_right _ (List.mem_append_right _ (mn hb e)))).2.1
   cases f with
   |next=>obtain⟨σ7,H7,I7,n7⟩:=q7;exact again I7 n7
   |cont=>obtain⟨σ7,H7,I7,n7⟩:=q7;exact again I7 n7
   |brk=>obtain⟨σ7,H7,I7,q7⟩:=q7;exact⟨σ7,H7,I7.nE,q7⟩
   |ret v=>obtain⟨x7,σ7,H7,I7,r7,q7⟩:=q7;exact⟨x7,σ7,H7,I7.nE,r7,q7⟩
end
end L2
namespace L2
open PySem PySem.Spec PyProof.Rows
noncomputable abbrev R2:=V→V→Hp→VK→Prop
noncomputable def aR(X:Cx)(f:Value→Value→Sem Value)(r:R2):Prop:=
 ∀(pins:List (Addr×Obj)) (s:Shared) (σ:St) (H:Hp) (x y:V) (v u:Value) (Q:VK),Inv X pins σ H s→RelV x v→RelV y u→r x y H Q→
   wpAny (model X.prog X.w) X.A (f v u) (EP X pins σ Q) X.xe s
noncomputable def fi(X:Cx)(f:Value→Sem Value)(r:V→Hp→VK→Prop):Prop:=
 ∀(pins:List (Addr×Obj)) (s:Shared) (σ:St) (H:Hp) (x:V) (v:Value) (Q:VK),Inv X pins σ H s→RelV x v→r x H Q→
   wpAny (model X.prog X.w) X.A (f v) (EP X pins σ Q) X.xe s
noncomputable def bu(X:Cx)(f:Value)(r:List V→Hp→VK→Prop):Prop:=
 ∀(pins:List (Addr×Obj)) (s:Shared) (σ:St) (H:Hp) (xs:List V) (us:List Value) (Q:VK),Inv X pins σ H s→Vals xs us→r xs H Q→
   wpAny (model X.prog X.w) X.A (call f us) (EP X pins σ Q) X.xe s
noncomputable def yz(X:Cx)(r:V→Hp→(Bool→Hp→Prop)→Prop):Prop:=
 ∀(pins:List (Addr×Obj)) (s:Shared) (σ:St) (H:Hp) (x:V) (v:Value) (Q:Bool→Hp→Prop),Inv X pins σ H s→RelV x v→r x H Q→
   wpAny (model X.prog X.w) X.A (truthy v) (TP X pins σ Q) X.xe s
noncomputable def kZ(r:R2)(ta tb:TE):TE:=fun σ H Q=>ta σ H fun x H1=>tb σ H1 fun y H2=>r x y H2 Q
noncomputable def rI(C:Int→Int→Prop)(g:Int→Int→V):R2:=fun x y H Q=>∃i j,x=.int i∧y=.int j∧C i j∧Q (g i j) H
noncomputable def gJ(g:Int→Int→V):R2:=fun x y H Q=>∃i j,x=.int i∧y=.int j∧Q (g i j) H
section
variable{X:Cx}{a b c:Expr}{ta tb tc:TE}{pos:Pos}
theorem oP(ha:PE X a ta)(hb:PE X b tb){pins:List (Addr×Obj)}{s:Shared}{σ:St}{H:Hp}{R:V→V→Hp→Prop}(I:Inv X pins σ H s)
   (h:ta σ H fun x H1=>tb σ H1 fun y H2=>R x y H2) {Q:Value→Shared→Prop} {f:Value→Value→Sem Value}
   (hf:∀v u s2 x y H2,Inv X pins σ H2 s2→RelV x v→RelV y u→R x y H2→wpAny (model X.prog X.w) X.A (f v u) Q X.xe s2):
   wpAny (model X.prog X.w) X.A (eval a X.env) (fun v s₁=>wpAny (model X.prog X.w) X.A (eval b X.env) (fun u s₂=>wpAny (model X.prog X.w) X.A (f v u) Q X.xe s₂) X.xe s₁) X.xe s:=by
 refine aE (ha pins s σ H _ I h) fun v s1 ⟨x,H1,I1,r1,q1⟩=>?_
 refine aE (hb pins s1 σ H1 _ I1 q1) fun u s2 ⟨y,H2,I2,r2,q2⟩=>?_
 exact hf v u s2 x y H2 I2 r1 r2 q2
theorem AS{op:Operator}{r:R2}(ho:aR X (binaryOp op) r)(ha:PE X a ta)(hb:PE X b tb):PE X (.BinOp a op b pos) (kZ r ta tb):=by
 intro pins s σ H Q I h
 exact wpAny_BinOp (oP ha hb I h fun v u s2 x y H2 I2 rx ry q=>ho pins s2 σ H2 x y v u Q I2 rx ry q)
theorem pW{f:Value→Value→Sem Value}{C:Int→Int→Prop}{g:Int→Int→Int}
   (rule:∀(i j:Int) (t u:Tok) (s:Shared) (Q:Value→Shared→Prop) (E:Value→Shared→Prop),C i j→Q (.int (g i j) s.toks) {s with toks:=s.toks+1}→wpAny (model X.prog X.w) X.A (f (.int i t) (.int j u)) Q E s):
   aR X f (rI C fun i j=>.int (g i j)):=by
 intro pins s σ H x y v u Q I rx ry h
 obtain⟨i,j,rfl,rfl,hc,q⟩:=h
 obtain⟨t,rfl⟩:=rx
 obtain⟨t',rfl⟩:=ry
 exact rule i j t t' s _ _ hc ⟨.int (g i j),H,I.tok _,⟨_,rfl⟩,q⟩
theorem Bx{f:Value→Value→Sem Value}{g:Int→Int→Int}
   (rule:∀(i j:Int) (t u:Tok) (s:Shared) (Q:Value→Shared→Prop) (E:Value→Shared→Prop),Q (.int (g i j) s.toks) {s with toks:=s.toks+1}→wpAny (model X.prog X.w) X.A (f (.int i t) (.int j u)) Q E s):
   aR X f (gJ fun i j=>.int (g i j)):=by
 intro pins s σ H x y v u Q I rx ry h
 obtain⟨i,j,rfl,rfl,q⟩:=h
 obtain⟨t,rfl⟩:=rx
 obtain⟨t',rfl⟩:=ry
 exact rule i j t t' s _ _ ⟨.int (g i j),H,I.tok _,⟨_,rfl⟩,q⟩
theorem qK{f:Value→Value→Sem Value}{g:Int→Int→Bool}
   (rule:∀(i j:Int) (t u:Tok) (s:Shared) (Q:Value→Shared→Prop) (E:Value→Shared→Prop),Q (.bool (g i j)) s→wpAny (model X.prog X.w) X.A (f (.int i t) (.int j u)) Q E s):
   aR X f (gJ fun i j=>.bl (g i j)):=by
 intro pins s σ H x y v u Q I rx ry h
 obtain⟨i,j,rfl,rfl,q⟩:=h
 obtain⟨t,rfl⟩:=rx
 obtain⟨t',rfl⟩:=ry
 exact rule i j t t' s _ _ ⟨.bl (g i j),H,I,rfl,q⟩
noncomputable def lQ(i j:Int):Prop:=(-(2 ^ 64)<i∧i<2 ^ 64)∨(-(2 ^ 64)<j∧j<2 ^ 64)
theorem lQ.ok{i j:Int}(h:lQ i j):IntMulOk i j:=by
 rcases h with⟨h1,h2⟩|⟨h1,h2⟩
 ·exact .of_left (intBits_le_64 h1 h2)
 ·exact .of_right (intBits_le_64 h1 h2)
theorem du:aR X (binaryOp .Add) (gJ fun i j=>.int (i+j)):=Bx fun _ _ _ _ _ _ _ q=>add_int q
theorem jQ:aR X (binaryOp .Mult) (rI lQ fun i j=>.int (i*j)):=pW fun _ _ _ _ _ _ _ hc q=>mul_int q hc.ok
theorem b4:aR X (binaryOp .Mod) (rI (fun _ j=>0<j) fun i j=>.int (i % j)):=pW fun i j _ _ _ _ _ hc q=>by
 have h1:(0:Int)<j:=hc
 exact mod_int' (by omega) (by rw[Int.fmod_eq_emod_of_nonneg i (by omega)];exact q)
end
section
variable{X:Cx}{a b c:Expr}{ta tb tc:TE}{pos:Pos}
theorem tX:aR X (compareOp .Lt) (gJ fun i j=>.bl (decide (i<j))):=qK fun _ _ _ _ _ _ _ q=>lt_int q
theorem Eb:aR X (compareOp .Gt) (gJ fun i j=>.bl (decide (j<i))):=qK fun _ _ _ _ _ _ _ q=>gt_int q
theorem aR.or{f:Value→Value→Sem Value}{r r':R2}(h:aR X f r)(h':aR X f r'):aR X f (fun x y H Q=>r x y H Q∨r' x y H Q):=by
 intro pins s σ H x y v u Q I rx ry q
 rcases q with q|q
 ·exact h pins s σ H x y v u Q I rx ry q
 ·exact h' pins s σ H x y v u Q I rx ry q
theorem sj(b:Expr){op:CmpOp}(h:op≠.In:=by decide)(h2:op≠.NotIn:=by decide):behindInMarks op b=false:=by
 have e1:(op==CmpOp.In)=false:=by cases op<;>first|rfl|exact absurd rfl h
 have e2:(op==CmpOp.NotIn)=false:=by cases op<;>first|rfl|exact absurd rfl h2
 cases b<;>simp[behindInMarks,e1,e2]
theorem xg{op:CmpOp}{r:R2}(ho:aR X (compareOp op) r)(ha:PE X a ta)(hb:PE X b tb)(hm:behindInMarks op b=false):PE X (.Compare a [op] [b] pos) (kZ r ta tb):=by
 intro pins s σ H Q I h
 exact wpAny_Compare1 (oP ha hb I h fun v u s2 x y H2 I2 rx ry q=>ho pins s2 σ H2 x y v u Q I2 rx ry q) hm
noncomputable def CD(t:TE):TT:=fun σ H Q=>t σ H fun x H'=>∃k,x=.bl k∧Q k H'
theorem zI{op:CmpOp}{r:R2}(ho:aR X (compareOp op) r)(ha:PE X a ta)(hb:PE X b tb)(hm:behindInMarks op b=false):PT X (.Compare a [op] [b] pos) (CD (kZ r ta tb)):=by
 intro pins s σ H Q I h
 refine wpAny_isTrue_Compare1 (aE (ha pins s σ H _ I h) fun v s1 ⟨x,H1,I1,r1,q1⟩=>aE (hb pins s1 σ H1 _ I1 q1) fun u s2 ⟨y,H2,I2,r2,q2⟩=>
   aE (ho pins s2 σ H2 x y v u _ I2 r1 r2 q2) fun c s3 ⟨z,H3,I3,r3,k,e,q3⟩=>?_) hm
 subst e
 cases r3
 exact wpAny_truthy_bool ⟨H3,I3,q3⟩
noncomputable def pL(K:PySem.W.Frag)(x:V)(H:Hp)(k:Bool):Prop:=
 match x with
 |.aA=>k=false
 |.bl b=>k=b
 |.int i=>k=(i != 0)
 |.str y=>y.length≤sizeLine∧k=((y.length:Int) != 0)
 |.jU y=>y.size≤sizeLine∧k=((y.size:Int) != 0)
 |.ref p=>(∃xs,aY K H p xs∧k= !xs.isEmpty)∨(∃xs,bb K H p xs∧k= !xs.isEmpty)∨∃kvs,H p=some (.dK kvs)∧k= !kvs.isEmpty
 |_=>False
theorem wq{κ:Type}{kvs:List (κ×V)}{vs:List (κ×Value)}(r:KV kvs vs):(!vs.isEmpty)= !kvs.isEmpty:=by
 cases r<;>rfl
theorem sC{xs:List V}{its:List Value}(r:Vals xs its):(!its.toArray.isEmpty)= !xs.isEmpty:=by
 cases r<;>simp
theorem jS:(sizeLine:Nat)<2 ^ 63:=by rw[sizeLine_eq];decide
theorem DL:yz X (fun x H Q=>∃k,pL X.K x H k∧Q k H):=by
 intro pins s σ H x v Q I rx h
 obtain⟨k,e,q⟩:=h
 have hl:=jS
 have hs:sizeLine=16777216:=sizeLine_eq
 cases x with
 | aA=>
   cases rx
   have e':k=false:=e
   subst e'
   exact truthy_none ⟨H,I,q⟩
 | bl b=>
   cases rx
   have e':k=b:=e
   subst e'
   exact wpAny_truthy_bool ⟨H,I,q⟩
 | int i=>
   obtain⟨t,rfl⟩:=rx
   have e':k=(i != 0):=e
   subst e'
   exact PySem.P.truthy_int ⟨H,I,q⟩
 | str y=>
   obtain⟨t,rfl⟩:=rx
   obtain⟨hy,e'⟩:y.length≤sizeLine∧k=((y.length:Int) != 0):=e
   subst e'
   exact PySem.P.truthy_str (by omega) ⟨H,I.tok _,q⟩
 | jU y=>
   obtain⟨t,rfl⟩:=rx
   obtain⟨hy,e'⟩:y.size≤sizeLine∧k=((y.size:Int) != 0):=e
   subst e'
   exact PySem.W.truthy_bytes (by omega) ⟨H,I.tok _,q⟩
 | ref p=>
   cases rx
   have e':(∃xs,aY X.K H p xs∧k= !xs.isEmpty)∨(∃xs,bb X.K H p xs∧k= !xs.isEmpty)∨∃kvs,H p=some (.dK kvs)∧k= !kvs.isEmpty:=e
   rcases e' with⟨xs,hx,e'⟩|⟨xs,hx,e'⟩|⟨kvs,hx,e'⟩
   · subst e'
     obtain⟨its,r,pl,hz⟩:=I.list hx
     have hlen:=r.length
     exact wpAny_truthy_list pl.isList (by simp only[List.size_toArray];omega) ⟨H,I.tok _,by rw[sC r];exact q⟩
   · subst e'
     obtain⟨its,r,pl,hz⟩:=I.tuple hx
     have hlen:=r.length
     exact truthy_tuple pl (by simp only[List.size_toArray];omega) ⟨H,I.tok _,by rw[sC r];exact q⟩
   · subst e'
     obtain⟨hz,hS,vs,r,m⟩:kvs.length≤sizeLine∧(p==sysModules)=false∧∃vs,KV kvs vs∧s.heap.DictOf (bL X.prog X.w) p vs:=I.aD p _ hx
     have hlen:kvs.length=vs.length:=Paired.length r
     exact wpAny_truthy_dict hS m (by omega) ⟨H,I.tok _,by rw[wq r];exact q⟩
 |_=>exact(show False from e).elim
theorem Aw(ha:PE X a ta)(he:∀whole,isTrue a X.env whole=(do let v ←whole;standAt a.pos;holding [v] (truthy v))):
   PT X a (fun σ H Q=>ta σ H fun x H'=>∃k,pL X.K x H' k∧Q k H'):=by
 intro pins s σ H Q I h
 exact isTrue_plain (aE (ha pins s σ H _ I h) fun v s1 ⟨x,H1,I1,r1,q1⟩=>DL pins s1 σ H1 x v Q I1 r1 q1) (he _)
theorem AG:aR X (binaryOp .Add) (fun x y H Q=>∃i j,x=.str i∧y=.str j∧i.length+j.length≤sizeLine∧Q (.str (i++j)) H):=by
 intro pins s σ H x y v u Q I rx ry h
 obtain⟨i,j,rfl,rfl,hz,q⟩:=h
 obtain⟨t,rfl⟩:=rx
 obtain⟨t',rfl⟩:=ry
 exact add_str (fun t' tk=>⟨.str (i++j),H,I.tok _,⟨_,rfl⟩,q⟩) hz
theorem vals1{x:V}{us:List Value}(r:Vals [x] us):∃u,us=[u]∧RelV x u:=by
 cases r with
 |cons r1 r2=>cases r2;exact⟨_,rfl,r1⟩
theorem vals2{x y:V}{us:List Value}(r:Vals [x,y] us):∃u w',us=[u,w']∧RelV x u∧RelV y w':=by
 cases r with
 | cons r1 r2=>
   cases r2 with
   |cons r3 r4=>cases r4;exact⟨_,_,rfl,r1,r3⟩
theorem Ed:bu X (.type "int") (fun xs H Q=>(∃i,xs=[.int i]∧Q (.int i) H)∨∃k,xs=[.bl k]∧Q (.int (if k then 1 else 0)) H):=by
 intro pins s σ H xs us Q I r h
 rcases h with⟨i,rfl,q⟩|⟨k,rfl,q⟩
 · obtain⟨u,rfl,t,rfl⟩:=vals1 r
   exact call_int_int ⟨.int i,H,I,⟨_,rfl⟩,q⟩
 · obtain⟨u,rfl,r1⟩:=vals1 r
   cases r1
   exact call_int_bool ⟨.int (if k then 1 else 0),H,I.tok _,⟨_,rfl⟩,q⟩
end
end L2
namespace L2
open PySem PySem.Spec PyProof.Rows
section
variable{prog:Program}{w:World}{A:Around}{E:Value→Shared→Prop}{s:Shared}{K:PySem.W.Frag}{x dx C f:Addr}{mA:Str→Option Value}{name:Str}{v:Value}
end
theorem dF.some_of{v:V}{o:Option Value}(r:dF (some v) o):∃u,o=some u∧RelV v u:=by
 cases o with
 |none=>exact(show False from r).elim
 |some u=>exact⟨u,rfl,r⟩
theorem dF.none_of{o:Option Value}(r:dF none o):o=none:=by
 cases o with
 |none=>rfl
 |some u=>exact(show False from r).elim
section
variable{P:Program}{w:World}{H H':Hp}{h h':Heap}{a C dx:Addr}{fs fs':List (Str×V)}
end
structure sE(K:PySem.W.Frag)(C:Addr):Prop where
 pg:PySem.W.plainGet K C Str.empty=true
 hd:PySem.W.hasDictIn K C=true
 po:PySem.W.plainOver K C=true
 sa:PySem.W.findIn K (.ref C) "__setattr__"=some (some (.builtin "object.__setattr__"))
theorem sE.get{K:PySem.W.Frag}{C:Addr}(c:sE K C)(f:Str):PySem.W.plainGet K C f=true:=c.pg
section
variable{X:Cx}{pins:List (Addr×Obj)}{σ:St}{H:Hp}{s:Shared}{a C dx:Addr}{fs:List (Str×V)}{f:Str}{v:V}{A:Around}{E:Value→Shared→Prop}
end
section
variable{X:Cx}{o e value:Expr}{f:Str}{pos pos' tpos:Pos}{ta tv:TE}
end
section
variable{X:Cx}{pins:List (Addr×Obj)}{σ:St}{H:Hp}{s:Shared}{A:Around}{E:Value→Shared→Prop}{Q:Value→Shared→Prop}{c:Value}{b:Bool}
end
end L2
namespace L2
open PySem PySem.Spec PyProof.Rows
structure bE(k:Nat)(A:Around):Prop where
 hd:A.handled=none
 dp:A.depth+3*k+5<recursionLimit
 un:A.units+16*k+200<cLine
theorem bE.mono{j k:Nat}{A:Around}(r:bE k A)(h:j≤k):bE j A:=⟨r.hd,by have:=r.dp;omega,by have:=r.un;omega⟩
theorem bE.deeper{k:Nat}{A:Around}(r:bE (k+1) A)(env:Env):bE k (A.deeper env):=
 ⟨r.hd,by have:=r.dp;show A.depth+1+3*k+5<_;omega,by have:=r.un;show A.units+3+16*k+200<_;omega⟩
theorem bE.in1{k:Nat}{A:Around}(r:bE (k+1) A):bE k A.in1:=
 ⟨r.hd,by have:=r.dp;show A.depth+3*k+5<_;omega,by have:=r.un;show A.units+1+16*k+200<_;omega⟩
theorem bE.depth{k:Nat}{A:Around}(r:bE k A):A.depth<recursionLimit:=by have:=r.dp;omega
theorem bE.units{k:Nat}{A:Around}(r:bE k A):A.units+64<cLine:=by have:=r.un;omega
noncomputable def sZ:TA:=fun _ H Q=>Q [] H
noncomputable def uD(ta:TE)(tr:TA):TA:=fun σ H Q=>ta σ H fun x H1=>tr σ H1 fun xs H2=>Q (x::xs) H2
section
variable{X:Cx}{e:Expr}{es:List Expr}{te:TE}{t:TA}{pos:Pos}
theorem jv:PA X [] sZ:=fun _ _ _ _ H Q I h=>Calls.spliced_nil ⟨[],H,I,.nil,h⟩
theorem gr(ha:PE X e te)(hr:PA X es t)(hs:starEach (e::es) X.env=(false,eval e X.env)::starEach es X.env:=by rfl):PA X (e::es) (uD te t):=by
 intro pos pins s σ H Q I h
 rw[hs]
 show wpAny _ _ (spliced ((false,eval e X.env)::backTo pos (starEach es X.env))) _ _ s
 refine Calls.spliced_cons (aE (ha pins s σ H _ I h) fun u s1 ⟨x,H1,I1,r1,q1⟩=>?_)
 exact aE (hr pos pins s1 σ H1 _ I1 q1) fun us s2 ⟨xs,H2,I2,r2,q2⟩=>⟨x::xs,H2,I2,.cons r1 r2,q2⟩
noncomputable def wN(t:TA):TE:=fun σ H Q=>t σ H fun xs H1=>xs.length≤sizeLine∧∀p,H1 p=none→Q (.ref p) (upd H1 p (.tup xs))
noncomputable def Dv(t:TA):TE:=fun σ H Q=>t σ H fun xs H1=>xs.length≤sizeLine∧∀p,H1 p=none→Q (.ref p) (upd H1 p (.lst xs))
theorem pJ{x1}(h:PA X es t):PE X (.Tuple es x1 pos) (wN t):=by
 intro pins s σ H Q I hq
 refine wpAny_Tuple_spliced (aE (h pos pins s σ H _ I hq) fun us s1 ⟨xs,H1,I1,r,z,q⟩=>⟨by rw[←r.length];exact z,?_⟩)
 have hf:H1 s1.heap.objs.size=none:=I1.aD.fresh (Nat.le_refl _)
 refine⟨.ref s1.heap.objs.size,upd H1 s1.heap.objs.size (.tup xs),I1.laid (t':=s1.toks) (fun b u e=>Heap.get?_push_of_some _ e) (Nat.le_refl _) ?_,rfl,q _ hf⟩
 exact⟨z,us,r,⟨_,Heap.get?_push_size _ rfl,rfl,_,rfl⟩⟩
theorem og(h:PA X es t):PE X (.List es pos) (Dv t):=by
 intro pins s σ H Q I hq
 refine wpAny_List_spliced (aE (h pos pins s σ H _ I hq) fun us s1 ⟨xs,H1,I1,r,z,q⟩=>⟨by rw[←r.length];exact z,?_⟩)
 have hf:H1 s1.heap.objs.size=none:=I1.aD.fresh (Nat.le_refl _)
 refine⟨.ref s1.heap.objs.size,upd H1 s1.heap.objs.size (.lst xs),I1.laid (t':=s1.toks) (fun b u e=>Heap.get?_push_of_some _ e) (Nat.le_refl _) ?_,rfl,q _ hf⟩
 exact⟨z,us,0,r,Heap.get?_push_size _ rfl⟩
end
noncomputable abbrev Sp:=List V→Hp→VK→XK→Prop
noncomputable abbrev d9:=List Env→Hp→Shared→XK→Value→Shared→Prop
structure iT(P:Program)(w:World)(K:PySem.W.Frag)(mg:Str→Option Value)(base:Heap)(A:Around)(outer:List Env)(s:Shared)(H:Hp):Prop where
 frames:A.frames=some outer
 mod:Mod K mg base
 bs:∀b o,base.get? b=some o→s.heap.get? b=some o∧H b=none
 gx:base.objs.size≤s.heap.objs.size
 eV:s.heap.FunFrames base outer
 iP:∀b∈cv outer,H b=none
 aD:bp P w H s.heap
 bare:AllBare s.gens
noncomputable def CE(outer:List Env)(P:Program)(w:World)(H:Hp)(s:Shared)(Q:VK)(u:Value)(s':Shared):Prop:=
 ∃v H',s'.os=s.os∧AllBare s'.gens∧Un (cv outer) [] H H' s.heap s'.heap∧bp P w H' s'.heap∧RelV v u∧Q v H'
noncomputable def CR(CX:d9)(outer:List Env)(P:Program)(w:World)(H:Hp)(s:Shared)(Q:VK)(E:XK)(r:Result)(s':Shared):Prop:=
 match r with
 |.ok (.ret u)=>CE outer P w H s Q u s'
 |.ok _=>False
 |.error e=>CX outer H s E e s'
structure cO(P:Program)(w:World)(K:PySem.W.Frag)(mg:Str→Option Value)(base:Heap)(CX:d9)(k:Nat)(f:Addr)(fd:FuncData)(ps:List Str)(sp:Sp):Prop where
 len:∀vs H Q E,sp vs H Q E→vs.length=ps.length
 run:∀(A:Around) (outer:List Env) (s:Shared) (H:Hp) (args:Args) (us:List Value) (vs:List V) (Q:VK) (E:XK),bE k A→iT P w K mg base A outer s H→BindsTo s fd args (ps.zip us)→Vals vs us→sp vs H Q E→
   codeAny (model P w) A (.call (.ref f) args) (CR CX outer P w H s Q E) s
theorem cO.mono{P:Program}{w:World}{K:PySem.W.Frag}{mg:Str→Option Value}{base:Heap}{CX:d9}{j k:Nat}{f:Addr}{fd:FuncData}{ps:List Str}{sp:Sp}(F:cO P w K mg base CX j f fd ps sp)(h:j≤k):
   cO P w K mg base CX k f fd ps sp:=⟨F.len,fun A outer s H args us vs Q E hr=>F.run A outer s H args us vs Q E (hr.mono h)⟩
theorem cO.imp{P:Program}{w:World}{K:PySem.W.Frag}{mg:Str→Option Value}{base:Heap}{CX:d9}{k:Nat}{f:Addr}{fd:FuncData}{ps:List Str}{sp sp':Sp}(F:cO P w K mg base CX k f fd ps sp)
   (h:∀vs H Q E,sp' vs H Q E→sp vs H Q E):cO P w K mg base CX k f fd ps sp':=
 ⟨fun vs H Q E q=>F.len vs H Q E (h _ _ _ _ q),fun A outer s H args us vs Q E hr he hb hv hs=>F.run A outer s H args us vs Q E hr he hb hv (h _ _ _ _ hs)⟩
theorem iT.in1{P:Program}{w:World}{K:PySem.W.Frag}{mg:Str→Option Value}{base:Heap}{A:Around}{outer:List Env}{s:Shared}{H:Hp}(e:iT P w K mg base A outer s H):
   iT P w K mg base A.in1 outer s H:=⟨e.frames,e.mod,e.bs,e.gx,e.eV,e.iP,e.aD,e.bare⟩
section
variable{X:Cx}{pins:List (Addr×Obj)}{σ:St}{H:Hp}{s s':Shared}
theorem Inv.zv(I:Inv X pins σ H s):iT X.prog X.w X.K X.mg X.base X.A X.stack s H:=
 ⟨I.ok.frames,I.ok.mod,I.bs,Nat.le_trans I.ok.gx I.sz,I.stack,I.sD,I.aD,I.bare⟩
theorem Inv.after{Q:VK}{u:Value}(I:Inv X pins σ H s)(h:CE X.stack X.prog X.w H s Q u s'):EP X pins σ Q u s':=by
 obtain⟨v,H',os,bare,un,aD,r,q⟩:=h
 obtain⟨hh,g,d,t,os'⟩:=s'
 obtain rfl:os'=s.os:=os
 exact⟨v,H',I.call (h':=hh) (g':=g) (d':=d) (t':=t) (ch:=[]) un aD bare (fun b z=>absurd z (by simp)),r,q⟩
end
noncomputable def mr(sp:Sp)(dvs:List V)(E:XK)(t:TA):TE:=fun σ H Q=>t σ H fun vs H1=>sp (vs++dvs) H1 Q E
noncomputable def Binds(K:PySem.W.Frag)(fd:FuncData)(ps:List Str)(ds:List Value):Prop:=
 ∀(s:Shared) (us:List Value),K.In s.heap→(us++ds).length=ps.length→BindsTo s fd ⟨us,[]⟩ (ps.zip (us++ds))
theorem Binds.all{K:PySem.W.Frag}{fd:FuncData}{ps:List Str}(h:∀us:List Value,us.length=ps.length→bindArgs fd ⟨us,[]⟩=pure (ps.zip us)):Binds K fd ps []:=fun s us _ hl=>by
 rw[List.append_nil]at hl ⊢
 exact .of_eq (h us hl)
noncomputable def Passes(CX:d9)(X:Cx)(E:XK):Prop:=∀(pins:List (Addr×Obj)) (σ:St) (H:Hp) (s:Shared) (e:Value) (s':Shared),Inv X pins σ H s→CX X.stack H s E e s'→X.xe e s'
section
variable{X:Cx}{CX:d9}{k:Nat}{f C:Addr}{fd:FuncData}{ps:List Str}{sp:Sp}{dvs:List V}{ds:List Value}{E:XK}{x m:Str}{p pos apos:Pos}{e o:Expr}{es:List Expr}{ta:TE}{t:TA}
theorem ve{pins:List (Addr×Obj)}{σ:St}{H:Hp}{s:Shared}{Q:VK}{us:List Value}{vs:List V}(F:cO X.prog X.w X.K X.mg X.base CX k f fd ps sp)(hr:bE k X.A)(hb:Binds X.K fd ps ds)(hd:Vals dvs ds)(hx:Passes CX X E)
   (I:Inv X pins σ H s) (r:Vals vs us) (h:sp (vs++dvs) H Q E):wpAny (model X.prog X.w) X.A (call (.ref f) us) (EP X pins σ Q) X.xe s:=by
 have r2:Vals (vs++dvs) (us++ds):=r.append hd
 have hl:(us++ds).length=ps.length:=by rw[←r2.length];exact F.len _ _ _ _ h
 refine wpAny_call (codeAny_mono (F.run X.A X.stack s H ⟨us,[]⟩ (us++ds) (vs++dvs) Q E hr I.zv (hb s us I.b5 hl) r2 h) fun r s' hq=>?_)
 cases r with
 |error e=>exact hx pins σ H s e s' I hq
 | ok fl=>
   cases fl with
   |ret u=>exact I.after hq
   |next=>exact False.elim hq
   |brk=>exact False.elim hq
   |cont=>exact False.elim hq
theorem vz(F:cO X.prog X.w X.K X.mg X.base CX k f fd ps sp)(hr:bE k X.A)(hg:Gl X x)(hm:X.mg x=some (.ref f))(hk:PySem.W.keepIn X.K (.ref f)=true)(hb:Binds X.K fd ps ds)(hd:Vals dvs ds)(hx:Passes CX X E)
   (ha:PA X (e::es) t) (hdb:(x==("__debug__":Str))=false:=by decide) (he:starEach (e::es) X.env=(false,eval e X.env)::starEach es X.env:=by rfl) (hpl:(backTo pos (starEach es X.env)).any (·.1)=false:=by rfl):
   PE X (.Call (.Name x p) (e::es) [] pos) (mr sp dvs E t):=by
 intro pins s σ H Q I h
 refine wpAny_Call_Name_kw (ql I hg hm ?_ hdb)
 refine PySem.W.callWith_K (h₀:=X.base) I.ok.mod.mG hk (aE (ha pos pins s σ H _ I h) fun us s1 ⟨vs,H1,I1,r,q⟩=>⟨I1.b5,?_⟩) he hpl
 exact ve F hr hb hd hx I1 r q
theorem zy(F:cO X.prog X.w X.K X.mg X.base CX k f fd ps sp)(hr:bE k X.A)(hg:Gl X x)(hm:X.mg x=some (.ref f))(hk:PySem.W.keepIn X.K (.ref f)=true)(hb:Binds X.K fd ps ds)(hd:Vals dvs ds)(hx:Passes CX X E)
   (hdb:(x==("__debug__":Str))=false:=by decide):PE X (.Call (.Name x p) [] [] pos) (mr sp dvs E sZ):=by
 intro pins s σ H Q I h
 refine wpAny_Call_Name_kw (ql I hg hm ?_ hdb)
 exact PySem.W.callWith_K0 I.b5 hk (ve (us:=[]) F hr hb hd hx I .nil h)
end
section
variable{X:Cx}{CX:d9}{k:Nat}{f C:Addr}{fd:FuncData}{ps ks:List Str}{sp:Sp}{E:XK}{x m:Str}{p pos apos kpos:Pos}{e o:Expr}{es:List Expr}{kws:List Keyword}{te ta:TE}{t tk:TA}{nm:Option Str}
variable{g:List Value→List Value→List Value}{gV:List V→List V→List V}
end
structure bS(N P:List Str)(sc:Scope):Prop where
 kind:sc.kind=.function
 co:sc.isCoroutine=false
 gen:sc.isGenerator=false
 nd:N.Nodup
 pre:N.take P.length=P
 par:∀x∈P,sc.names.lookup x=some .local∨sc.names.lookup x=some .cell
 Ek:∀y∈sc.names,y.2≠.free
theorem sI{kindOf:Str→Option NameKind}{x:Str}:∀ {binds:List (Str×Value)} {m:Str→Option Value},(∀v,(x,v)∉binds)→bindL kindOf binds m x=m x
 |[],_,_=>rfl
 | (n,v)::r,m,h=>by
   unfold bindL
   rw[sI fun w hw=>h w (List.mem_cons_of_mem _ hw)]
   split
   · have:x≠n:=by rintro rfl;exact h v List.mem_cons_self
     simp[this]
   ·rfl
theorem qP{kindOf:Str→Option NameKind}{x:Str}:∀ {binds:List (Str×Value)} {m:Str→Option Value},(∀v,(x,v)∉binds)→bindC kindOf binds m x=m x
 |[],_,_=>rfl
 | (n,v)::r,m,h=>by
   unfold bindC
   rw[qP fun w hw=>h w (List.mem_cons_of_mem _ hw)]
   split
   ·rfl
   · have:x≠n:=by rintro rfl;exact h v List.mem_cons_self
     simp[this]
theorem ur{kindOf:Str→Option NameKind}{x:Str}{v:Value}:∀ {P:List Str} {vs:List Value} {i:Nat} {m:Str→Option Value},P.Nodup→P[i]? =some x→vs[i]? =some v→kindOf x=some .local→
   bindL kindOf (P.zip vs) m x=some v
 |[],_,_,_,_,h,_,_=>by simp at h
 |_::_,[],_,_,_,_,h,_=>by simp at h
 | p::P,w::vs,0,m,nd,h1,h2,hk=>by
   simp at h1 h2;subst h1;subst h2
   show bindL kindOf ((p,w)::P.zip vs) m p=_
   unfold bindL
   rw[sI fun v hv=>(List.nodup_cons.mp nd).1 (List.of_mem_zip hv).1,if_pos hk]
   simp
 | p::P,w::vs,i+1,m,nd,h1,h2,hk=>by
   show bindL kindOf ((p,w)::P.zip vs) m x=_
   unfold bindL
   exact ur (i:=i) (List.nodup_cons.mp nd).2 (by simpa using h1) (by simpa using h2) hk
theorem u5{kindOf:Str→Option NameKind}{x:Str}{v:Value}:∀ {P:List Str} {vs:List Value} {i:Nat} {m:Str→Option Value},P.Nodup→P[i]? =some x→vs[i]? =some v→kindOf x≠some .local→
   bindC kindOf (P.zip vs) m x=some v
 |[],_,_,_,_,h,_,_=>by simp at h
 |_::_,[],_,_,_,_,h,_=>by simp at h
 | p::P,w::vs,0,m,nd,h1,h2,hk=>by
   simp at h1 h2;subst h1;subst h2
   show bindC kindOf ((p,w)::P.zip vs) m p=_
   unfold bindC
   rw[qP fun v hv=>(List.nodup_cons.mp nd).1 (List.of_mem_zip hv).1,if_neg hk]
   simp
 | p::P,w::vs,i+1,m,nd,h1,h2,hk=>by
   show bindC kindOf ((p,w)::P.zip vs) m x=_
   unfold bindC
   exact u5 (i:=i) (List.nodup_cons.mp nd).2 (by simpa using h1) (by simpa using h2) hk
noncomputable def start(N:List Str)(vs:List V):St:=vs.map some++List.replicate (N.length - vs.length) none
noncomputable def gb(CX:d9)(P:Program)(w:World)(K:PySem.W.Frag)(mg:Str→Option Value)(base:Heap)(N:List Str)(qual:Str)(scope:Scope)(f:Addr)(cd:Value)(A:Around)(outer:List Env)(s:Shared)(H:Hp)(E:XK):Cx where
 prog:=P
 w:=w
 K:=K
 mg:=mg
 base:=base
 A:=A.deeper (envOfC qual scope s.heap.objs.size f cd)
 N:=N
 b8:=s
 fj:=H
 env:=envOfC qual scope s.heap.objs.size f cd
 outer:=outer
 stack:=envOfC qual scope s.heap.objs.size f cd::outer
 ex:=[]
 calm:=true
 fn:=fun _=>true
 pn:=[]
 xe:=fun e s'=>wpAny (model P w) (A.deeper (envOfC qual scope s.heap.objs.size f cd)) (leaving (envOfC qual scope s.heap.objs.size f cd) e) (fun _ s''=>CX outer H s E e s'') (fun e' s''=>CX outer H s E e' s'') s'
theorem vi{sc:Scope}{n:Nat}{x:Str}(h:sc.names.lookup x=some .cell):∃c,(cellsFrom n sc.names []).lookup x=some c:=by
 have q:=PySem.W.cellsFrom_some sc.names n [] (.inl h)
 exact Option.isSome_iff_exists.mp q
theorem AV{CX:d9}{P:Program}{w:World}{K:PySem.W.Frag}{mg:Str→Option Value}{base:Heap}{N ps:List Str}{qual:Str}{scope:Scope}{f:Addr}{cd:Value}{A:Around}{outer:List Env}{s s1:Shared}{H:Hp}{E:XK}{us:List Value}{vs:List V}
   (S:bS N ps scope) (hd:A.handled=none) (e0:iT P w K mg base A outer s H) (hl:vs.length=ps.length) (r:Vals vs us)
   (x:InCallC s s.heap.objs.size (bindL (envOfC qual scope s.heap.objs.size f cd).kindOf (ps.zip us) fun _=>none) (cellsFrom (s.heap.objs.size+1) scope.names []) (bindC (envOfC qual scope s.heap.objs.size f cd).kindOf (ps.zip us) fun _=>none) s1):
   Inv (gb CX P w K mg base N qual scope f cd A outer s H E) [] (start N vs) H s1:=by
 have hpl:ps.length≤N.length:=by have:=congrArg List.length S.pre;rw[List.length_take]at this;omega
 obtain⟨h1,tk,rfl,hk⟩:=x.done
 have noA:∀b:Addr,b∉(gb CX P w K mg base N qual scope f cd A outer s H E).ex:=fun b z=>absurd (show b∈([]:List Addr)from z) (by simp)
 refine⟨⟨e0.mod,S.kind,rfl,rfl,Nat.le_refl _,fun y z c h1 h2=>?_,fun y hy=>?_,fun y c _ h=>?_,fun _=>hd,Around.frames_deeper e0.frames,.inr ⟨rfl,rfl⟩,fun b z=>absurd z (noA b),e0.bs,e0.gx,fun b _ _=>noA b,fun b z=>absurd z (noA b),e0.eV,e0.iP⟩,
   rfl,e0.bare,Un.kept hk,⟨_,x.toInCall.ns,fun i y v h1 h2 h3=>?_⟩,fun y c h=>⟨_,x.cell y c h⟩,e0.aD.fresh (Nat.le_refl _),fun y c h=>?_,fun p hp=>absurd (show p∈([]:List (Addr×Obj))from hp) (by simp),e0.aD.kept hk,?_⟩
 ·exact name_of_addr x.apart (PySem.mem_of_lookup h1) (PySem.mem_of_lookup h2)
 · have hy:scope.names.lookup y=some .cell∨scope.names.lookup y=some .free:=hy
   rcases hy with hy|hy
   ·exact vi hy
   ·exact absurd rfl (S.Ek _ (PySem.mem_of_lookup hy))
 ·exact Nat.le_of_lt (x.above y c (PySem.mem_of_lookup h))
 · have hi:i<vs.length:=by
     unfold start at h2
     by_cases hi:i<vs.length
     ·exact hi
     · rw[List.getElem?_append_right (by simpa using hi)]at h2
       rw[List.getElem?_replicate]at h2
       split at h2<;>cases h2
   have ha:vs[i]? =some v:=by
     unfold start at h2
     rw[List.getElem?_append_left (by simpa using hi),List.getElem?_map]at h2
     cases e:vs[i]? with
     |none=>rw[e]at h2;cases h2
     |some a=>rw[e]at h2;cases h2;rfl
   obtain⟨u,hu,rv⟩:=r.get ha
   have hp:ps[i]? =some y:=by
     rw[←S.pre,List.getElem?_take_of_lt (by omega)];exact h1
   have ndP:ps.Nodup:=by rw[←S.pre];exact S.nd.sublist (List.take_sublist _ _)
   refine⟨u,rv,?_⟩
   rcases S.par y (List.mem_of_getElem? hp)with k|k
   ·exact .inl ⟨k,ur ndP hp hu k⟩
   · obtain⟨c,e⟩:=vi (n:=s.heap.objs.size+1) k
     refine .inr ⟨.inl k,c,e,?_⟩
     have q:=x.cell y c e
     rw[u5 ndP hp hu (by show scope.names.lookup y≠_;rw[k];decide)]at q
     exact q
 ·exact e0.aD.fresh (Nat.le_of_lt (x.above y c (PySem.mem_of_lookup h)))
 · unfold start
   show _=N.length
   rw[List.length_append,List.length_map,List.length_replicate]
   omega
theorem Av{CX:d9}{P:Program}{w:World}{K:PySem.W.Frag}{mg:Str→Option Value}{base:Heap}{k:Nat}{f:Addr}{name qual:Str}{params:Arguments}{body:List Stmt}{scope:Scope}{dV kV doc pm cdv ct oc:Value}{an od:Option Addr}
   {osl:Array (Option Value)} {N ps:List Str} {sp:Sp} (lk:K.lookup f=some ⟨oc,od,.func (PySem.W.fnOf name qual params body scope dV kV doc pm an cdv ct),osl⟩) (hcd:PySem.W.codeIn K cdv qual=true) (S:bS N ps scope)
   (len:∀vs H Q E,sp vs H Q E→vs.length=ps.length)
   (hbody:∀(A:Around) (outer:List Env) (s:Shared) (H:Hp) (vs:List V) (Q:VK) (E:XK),bE k (A.deeper (envOfC qual scope s.heap.objs.size f cdv))→sp vs H Q E→
     ∃t,bT (gb CX P w K mg base N qual scope f cdv A outer s H E) body t∧t {nx:=fun _ H'=>Q .aA H',rt:=Q} (start N vs) H):
   cO P w K mg base CX (k+1) f (PySem.W.fnOf name qual params body scope dV kV doc pm an cdv ct) ps sp:=by
 refine⟨len,fun A outer s H args us vs Q E hr e0 hb r hsp=>?_⟩
 have hl:=len _ _ _ _ hsp
 have KX:K.In s.heap:=e0.mod.mG.keeps fun b o e=>(e0.bs b o e).1
 have lim:s.heap.NoLimit:=e0.mod.nolimit.keeps fun b o e=>(e0.bs b o e).1
 have hkind:∀y∈ps.zip us,scope.names.lookup y.1=some .local∨(scope.names.lookup y.1=some .cell∧((cellsFrom (s.heap.objs.size+1) scope.names []).lookup y.1).isSome=true):=fun⟨n,v⟩ hy=>by
   rcases S.par n (List.of_mem_zip hy).1 with q|q
   ·exact .inl q
   ·exact .inr ⟨q,PySem.W.cellsFrom_some _ _ _ (.inl q)⟩
 refine codeAny_call_function hr.depth (KX _ _ lk) rfl S.co S.gen rfl (PySem.W.codeRec_of KX hcd) (hb _ _ _ _ ?_)
 refine wpAny_newFunctionEnv_cells S.kind hkind fun env he s1 x=>?_
 subst he
 refine⟨lim.keeps x.toInCall.keep,codeAny_func ?_⟩
 obtain⟨t,ht,hq⟩:=hbody A outer s H vs Q E (hr.deeper _) hsp
 have I:Inv (gb CX P w K mg base N qual scope f cdv A outer s H E) [] (start N vs) H s1:=AV S hr.hd e0 hl r x
 refine wpAny_mono (ht [] s1 (start N vs) H _ I hq) (fun fl s' hs=>?_) fun e s' hs=>hs
 have fin:∀ {σ':St} {H':Hp} {v:V} {u:Value},Inv (gb CX P w K mg base N qual scope f cdv A outer s H E) [] σ' H' s'→RelV v u→Q v H'→CE outer P w H s Q u s':=
   fun {σ' H' v u} J rv q=>⟨v,H',J.os,J.bare,J.base,J.aD,rv,q⟩
 cases fl with
 | ret u=>
   obtain⟨v,σ',H',J,rv,q⟩:=hs
   exact fin J rv q
 | next=>
   obtain⟨σ',H',J,q⟩:=hs
   exact fin (v:=V.aA) (u:=Value.none) J rfl q
 | brk=>
   obtain⟨_,_,_,q⟩:=hs
   exact False.elim q
 | cont=>
   obtain⟨_,_,_,q⟩:=hs
   exact False.elim q
end L2
namespace L2
open PySem PySem.Spec PyProof.Rows
section
variable{X:Cx}{x:Str}{p pos:Pos}{e:Expr}{es:List Expr}{t:TA}{id T:String}{r:List V→Hp→VK→Prop}
noncomputable def qo(r:List V→Hp→VK→Prop)(t:TA):TE:=fun σ H Q=>t σ H fun vs H1=>r vs H1 Q
theorem oa(hc:bu X (.builtin id) r)(hg:Gl X x)(hm:X.mg x=none)(hv:bootBuiltins x=some (.builtin id))(ha:PA X (e::es) t)(hn:x≠"__name__":=by decide)(hdb:(x==("__debug__":Str))=false:=by decide)
   (he:starEach (e::es) X.env=(false,eval e X.env)::starEach es X.env:=by rfl) (hpl:(backTo pos (starEach es X.env)).any (·.1)=false:=by rfl):PE X (.Call (.Name x p) (e::es) [] pos) (qo r t):=by
 intro pins s σ H Q I h
 refine wpAny_Call_Name_kw (i6 I hg hm hv ?_ hn hdb)
 exact PyProof.Rows.callWith_builtin1 (aE (ha pos pins s σ H _ I h) fun us s1 ⟨vs,H1,I1,r1,q1⟩=>hc pins s1 σ H1 vs us Q I1 r1 q1) he hpl
theorem oT(hc:bu X (.type T) r)(hg:Gl X x)(hm:X.mg x=none)(hv:bootBuiltins x=some (.type T))(ha:PA X (e::es) t)(hn:x≠"__name__":=by decide)(hdb:(x==("__debug__":Str))=false:=by decide)
   (he:starEach (e::es) X.env=(false,eval e X.env)::starEach es X.env:=by rfl) (hpl:(backTo pos (starEach es X.env)).any (·.1)=false:=by rfl):PE X (.Call (.Name x p) (e::es) [] pos) (qo r t):=by
 intro pins s σ H Q I h
 refine wpAny_Call_Name_kw (i6 I hg hm hv ?_ hn hdb)
 exact PyProof.Rows.callWith_type1 (aE (ha pos pins s σ H _ I h) fun us s1 ⟨vs,H1,I1,r1,q1⟩=>hc pins s1 σ H1 vs us Q I1 r1 q1) he hpl
end
end L2
namespace HT
open PySem PyProof.Rows
section
open PySem.SeqAt
open PySem.AutoSeq1 (wpAny_loadPart')
open PySem.MeetsSeq PySem.MeetsSeq2 PySem.MeetsSeq3
end
section
variable{prog:Program}{w:World}{A:Around}{E:Value→Shared→Prop}{s:Shared}
theorem Bz{t b:Addr}{vs ws:List Value}{Q:Value→Shared→Prop}(ht:IsTup s.heap t vs.toArray)(hb:IsTup s.heap b ws.toArray)(hv:vs≠[])
   (h1:ws=[]→Q (.ref t) s) (h2:ws≠[]→Q (.ref s.heap.objs.size) {s with heap:=s.heap.push {cls:=.type "tuple",data:=.seq (vs++ws).toArray} })
   (hsz:vs.length+ws.length≤sizeLine):wpAny (model prog w) A (binaryOp .Add (.ref t) (.ref b)) Q E s:=by
 obtain⟨⟨cls,dd,data,sl⟩,ho,hc,n,hd⟩:=id ht
 obtain⟨⟨cls2,dd2,data2,sl2⟩,ho2,hc2,n2,hd2⟩:=id hb
 simp only at hc hd hc2 hd2
 subst hc hd hc2 hd2
 have e:vs.toArray++ws.toArray=(vs++ws).toArray:=by simp
 by_cases hw:ws=[]
 · exact concat_meets ⟨_,ho,rfl⟩ ⟨_,ho2,rfl⟩ noFill_tuple_add seq_tuple_add PySem.F.slot_tuple_add PySem.F.entry_tuple_add (PySem.F.args_tuple_add_2 _ _)
     (tuple_addW1 t b vs.toArray ws.toArray n n2 dd dd2 sl sl2 (by simpa using hv) (by simp[hw])) ⟨ho,ho2,h1 hw⟩
 · refine concat_meets ⟨_,ho,rfl⟩ ⟨_,ho2,rfl⟩ noFill_tuple_add seq_tuple_add PySem.F.slot_tuple_add PySem.F.entry_tuple_add (PySem.F.args_tuple_add_2 _ _)
     (tuple_addW2 t b vs.toArray ws.toArray n n2 dd dd2 sl sl2 (by simpa using hv) (by simpa using hw) (by rw[List.size_toArray,List.size_toArray];exact hsz)) ⟨ho,ho2,?_⟩
   rw[e]
   exact h2 hw
noncomputable def aJ(n d:Nat):Option Int→Nat
 |none=>d
 |some v=>if v<0 then(v+(n:Int)).toNat else min v.toNat n
theorem xA(n d:Nat)(hd:d≤n)(o:Option Int):aJ n d o≤n:=by
 cases o with
 |none=>exact hd
 | some v=>
   show(if v<0 then(v+(n:Int)).toNat else min v.toNat n)≤n
   by_cases hv:v<0
   ·rw[if_pos hv];omega
   ·rw[if_neg hv];exact Nat.min_le_right _ _
theorem tJ(v:Int)(n d:Nat):(if v<0 then max (v+(n:Int)) 0 else min v (n:Int))=((aJ n d (some v):Nat):Int):=by
 show(if v<0 then max (v+(n:Int)) 0 else min v (n:Int))=(((if v<0 then(v+(n:Int)).toNat else min v.toNat n):Nat):Int)
 by_cases hv:v<0
 ·simp only[if_pos hv];omega
 ·simp only[if_neg hv];omega
theorem ED(lo hi:Option Int)(n:Nat):Builtin.Slice.sliceAdjust lo hi 1 (n:Int)=(((aJ n 0 lo:Nat):Int),((aJ n n hi:Nat):Int)):=by
 have h1:¬((1:Int)<0):=by omega
 unfold Builtin.Slice.sliceAdjust
 simp only[h1,if_false]
 refine Prod.ext ?_ ?_
 · cases lo with
   |none=>rfl
   |some v=>exact tJ v n 0
 · cases hi with
   |none=>rfl
   |some v=>exact tJ v n n
theorem Er(i j:Nat):Builtin.Slice.slicePlaces (i:Int) (j:Int) 1=j - i:=by
 unfold Builtin.Slice.slicePlaces
 have h1:(1:Int)>0:=by omega
 simp only[h1,if_true,Int.ediv_one]
 split<;>omega
theorem uf{v:Value}{o:Option Int}{Q:Option Int→Shared→Prop}(p:IsPart v o)(h:Q o s):wpAny (model prog w) A (Builtin.Slice.slicePartIndex v) Q E s:=by
 cases p with
 |none=>exact slicePart_none h
 |int i t=>exact slicePart_int h
theorem zz{sl:Addr}{vl vu:Value}{lo hi:Option Int}{n:Nat}{Q:Int×Int×Nat→Shared→Prop}(hs:s.heap.IsSliceOf sl vl vu .none)(pl:IsPart vl lo)(pu:IsPart vu hi)
   (h:Q (((aJ n 0 lo:Nat):Int),1,aJ n n hi - aJ n 0 lo) s):wpAny (model prog w) A (Builtin.Slice.sliceApplied (.ref sl) (pure (n:Int))) Q E s:=by
 obtain⟨os,hos,hcs,hds⟩:=id hs
 unfold Builtin.Slice.sliceApplied Builtin.Slice.sliceFields
 refine wpAny_bind (wpAny_bind (wpAny_field hos hds (x:=vl) rfl (wpAny_bind (wpAny_field hos hds (x:=vu) rfl (wpAny_bind (wpAny_field hos hds (x:=.none) rfl (wpAny_pure ?_)))))))
 refine wpAny_bind (slicePart_none ?_)
 show wpAny _ _ (if((1:Int)==0)=true then _ else _) _ _ s
 rw[if_neg (by decide)]
 refine wpAny_bind (uf pl (wpAny_bind (uf pu (wpAny_bind (wpAny_pure ?_)))))
 show wpAny _ _ (match Builtin.Slice.sliceAdjust lo hi 1 (n:Int)with|(lo,hi)=>pure (lo,(1:Int),Builtin.Slice.slicePlaces lo hi 1)) _ _ s
 rw[ED lo hi n]
 show wpAny _ _ (pure (((aJ n 0 lo:Nat):Int),(1:Int),Builtin.Slice.slicePlaces ((aJ n 0 lo:Nat):Int) ((aJ n n hi:Nat):Int) 1)) _ _ s
 rw[Er]
 exact wpAny_pure h
theorem Bf(xs:Array Value)(i k:Nat):((List.range k).filterMap fun(m:Nat)=>xs[((i:Int)+(m:Int)*1).toNat]?).toArray=((xs.toList.drop i).take k).toArray:=by
 have e:(fun(m:Nat)=>xs[((i:Int)+(m:Int)*1).toNat]?)=fun m=>xs[i+m]? :=by
   funext m
   have:((i:Int)+(m:Int)*1).toNat=i+m:=by omega
   rw[this]
 rw[e]
 have:=pick_run xs i k
 rw[List.filterMap_map]at this
 have e2:((fun x=>xs[x]?)∘fun x=>i+x)=fun m=>xs[i+m]? :=rfl
 rw[e2]at this
 rw[this]
theorem AQ{t sl:Addr}{items:Array Value}{vl vu:Value}{lo hi:Option Int}{Q:Value→Shared→Prop}(ht:IsTup s.heap t items)(hs:s.heap.IsSliceOf sl vl vu .none)(pl:IsPart vl lo)(pu:IsPart vu hi)
   (hw:¬(aJ items.size 0 lo=0∧aJ items.size items.size hi=items.size))
   (h:Q (.ref s.heap.objs.size) {s with heap:=s.heap.push {cls:=.type "tuple",data:=.seq ((items.toList.drop (aJ items.size 0 lo)).take (aJ items.size items.size hi - aJ items.size 0 lo)).toArray} })
   (hsz:items.size≤sizeLine):wpAny (model prog w) A (getItem (.ref t) (.ref sl)) Q E s:=by
 have htake:sizeOk (.seq ((items.toList.drop (aJ items.size 0 lo)).take (aJ items.size items.size hi - aJ items.size 0 lo)).toArray):=by
   show((items.toList.drop (aJ items.size 0 lo)).take (aJ items.size items.size hi - aJ items.size 0 lo)).toArray.size≤sizeLine
   rw[List.size_toArray,List.length_take,List.length_drop,Array.length_toList]
   omega
 have hj:aJ items.size items.size hi≤items.size:=xA _ _ (Nat.le_refl _) hi
 obtain⟨os,hos,hcs,hds⟩:=id hs
 have hTs:s.TypeIs (.ref sl) "slice":=⟨os,hos,hcs⟩
 unfold getItem
 try with_reducible refine wpAny_holding ?_
 first|refine wpAny_bind (wpAny_pure ?_)|skip
 refine wpAny_bind (wpAny_sequenceKey ht.typeIs (by decide) ?_)
 refine wpAny_bind (wpAny_callSpecial?_slot (name:=Str.ofString "__getitem__") ht.typeIs PyProof.Rows.slot_tuple_getitem
   (wpAny_call_entry PyProof.Rows.slot_tuple_getitem ht.typeIs entry_tuple_getitem ?_ (args_tuple_getitem _ _)))
 show wpAny _ _ (Builtin.Tuple.tupleItemsOf (.ref t) >>= _) _ _ s
 refine wpAny_bind (tupleItemsOf_ ht ?_)
 refine wpAny_bind (wpAny_typeOf hTs ?_)
 rw[if_pos (by decide)]
 refine wpAny_bind (zz hs pl pu ?_)
 have hno:¬((((aJ items.size 0 lo:Nat):Int)==0&&(1:Int)==1&&(aJ items.size items.size hi - aJ items.size 0 lo)==items.size)=true):=by
   intro q
   rw[Bool.and_eq_true,Bool.and_eq_true]at q
   have q1:((aJ items.size 0 lo:Nat):Int)=0:=eq_of_beq q.1.1
   have q2:aJ items.size items.size hi - aJ items.size 0 lo=items.size:=eq_of_beq q.2
   exact hw ⟨by omega,by omega⟩
 show wpAny _ _ (if(((aJ items.size 0 lo:Nat):Int)==0&&(1:Int)==1&&(aJ items.size items.size hi - aJ items.size 0 lo)==items.size)=true then _ else _) _ _ s
 rw[if_neg hno,Bf]
 first
   |exact wpAny_bind (m:=Builtin.Tuple.tupleExact _) (wpAny_newObj_type (wpAny_pure ⟨_,rfl,wpAny_pure h⟩) htake)
   |exact wpAny_bind (m:=Builtin.Tuple.tupleExact _) (wpAny_newObj_type (wpAny_bind (wpAny_pure (wpAny_pure ⟨_,rfl,wpAny_pure h⟩))) htake)
   |exact wpAny_bind (wpAny_bind (m:=Builtin.Tuple.tupleExact _) (wpAny_newObj_type (wpAny_pure (wpAny_pure ⟨_,rfl,wpAny_pure h⟩)) htake))
   |exact wpAny_bind (wpAny_bind (m:=Builtin.Tuple.tupleExact _) (wpAny_newObj_type (wpAny_pure ⟨_,rfl,wpAny_pure h⟩) htake))
end
end HT
namespace L2
open PySem PySem.Spec PyProof.Rows
noncomputable abbrev TO:=St→Hp→(Option Int→Hp→Prop)→Prop
noncomputable def PO(X:Cx)(e:Option Expr)(t:TO):Prop:=
 ∀(pins:List (Addr×Obj)) (s:Shared) (σ:St) (H:Hp) (Q:Option Int→Hp→Prop),Inv X pins σ H s→t σ H Q→
   wpAny (model X.prog X.w) X.A (evalPart e X.env) (fun u s'=>∃o H',Inv X pins σ H' s'∧IsPart u o∧Q o H') X.xe s
noncomputable def wJ:TO:=fun _ H Q=>Q none H
noncomputable def D5(t:TE):TO:=fun σ H Q=>t σ H fun x H1=>∃i,x=.int i∧Q (some i) H1
section
variable{X:Cx}{e:Expr}{te:TE}{lo hi:Option Expr}{tl th:TO}{pos p2:Pos}
theorem wu:PO X none wJ:=by
 intro pins s σ H Q I h
 rw[evalPart_none]
 exact wpAny_pure ⟨none,H,I,.none,h⟩
theorem yR(h:PE X e te):PO X (some e) (D5 te):=by
 intro pins s σ H Q I hw
 rw[evalPart_some]
 refine aE (h pins s σ H _ I hw) fun u s1 ⟨x,H1,I1,r1,q1⟩=>?_
 obtain⟨i,rfl,q⟩:=q1
 obtain⟨t,rfl⟩:=r1
 exact⟨some i,H1,I1,.int i t,q⟩
noncomputable def gL(X:Cx)(r:V→Option Int→Option Int→Hp→VK→Prop):Prop:=
 ∀(pins:List (Addr×Obj)) (s:Shared) (σ:St) (H:Hp) (x:V) (v vl vu:Value) (lo hi:Option Int) (sl:Addr) (Q:VK),Inv X pins σ H s→RelV x v→s.heap.IsSliceOf sl vl vu .none→IsPart vl lo→IsPart vu hi→r x lo hi H Q→
   ∃T id,typeLookup (.type T) "__getitem__"=pure (some (.builtin id))∧s.TypeIs v T∧wpAny (model X.prog X.w) X.A (getItem v (.ref sl)) (EP X pins σ Q) X.xe s
theorem gL.or{r r':V→Option Int→Option Int→Hp→VK→Prop}(h:gL X r)(h':gL X r'):gL X (fun x lo hi H Q=>r x lo hi H Q∨r' x lo hi H Q):=by
 intro pins s σ H x v vl vu lo hi sl Q I rx hs pl pu q
 rcases q with q|q
 ·exact h pins s σ H x v vl vu lo hi sl Q I rx hs pl pu q
 ·exact h' pins s σ H x v vl vu lo hi sl Q I rx hs pl pu q
noncomputable def El(r:V→Option Int→Option Int→Hp→VK→Prop)(te:TE)(tl th:TO):TE:=fun σ H Q=>te σ H fun x H1=>tl σ H1 fun l H2=>th σ H2 fun u H3=>r x l u H3 Q
theorem BR{r:V→Option Int→Option Int→Hp→VK→Prop}(hr:gL X r)(he:PE X e te)(hl:PO X lo tl)(hu:PO X hi th):PE X (.Subscript e (.Slice lo hi none p2) pos) (El r te tl th):=by
 intro pins s σ H Q I h
 refine Subscript_ (aE (he pins s σ H _ I h) fun v s1 ⟨x,H1,I1,r1,q1⟩=>?_)
 refine wpAny_Slice (aE (hl pins s1 σ H1 _ I1 q1) fun vl s2 ⟨l,H2,I2,pl,q2⟩=>aE (hu pins s2 σ H2 _ I2 q2) fun vu s3 ⟨u,H3,I3,pu,q3⟩=>?_)
 rw[evalPart_none]
 refine wpAny_pure ?_
 have I4:Inv X pins σ H3 {s3 with heap:=s3.heap.push {cls:=.type "slice",data:=.fields #[vl,vu,.none]} }:=I3.kept (t':=s3.toks) fun b ob q=>Heap.get?_push_of_some _ q
 obtain⟨T,id,hT,ht,hg⟩:=hr pins {s3 with heap:=s3.heap.push {cls:=.type "slice",data:=.fields #[vl,vu,.none]} } σ H3 x v vl vu l u s3.heap.objs.size Q I4 r1 (Heap.IsSliceOf.new ..) pl pu q3
 show wpAny (model X.prog X.w) X.A (subscriptTail e (.Slice lo hi none p2) v (.ref s3.heap.objs.size)) (EP X pins σ Q) X.xe {s3 with heap:=s3.heap.push {cls:=.type "slice",data:=.fields #[vl,vu,.none]} }
 exact tail_any (ops:=[.ref s3.heap.objs.size,v]) ht hT hg (by with_unfolding_all rfl)
noncomputable def gi(xs:List V)(lo hi:Option Int):List V:=(xs.drop (HT.aJ xs.length 0 lo)).take (HT.aJ xs.length xs.length hi - HT.aJ xs.length 0 lo)
theorem sA(xs:List V)(lo hi:Option Int):(gi xs lo hi).length≤xs.length:=by
 unfold gi
 rw[List.length_take,List.length_drop]
 omega
noncomputable def yj(K:PySem.W.Frag):V→Option Int→Option Int→Hp→VK→Prop:=fun x lo hi H Q=>∃a xs,x=.ref a∧bb K H a xs∧
 ¬(HT.aJ xs.length 0 lo=0∧HT.aJ xs.length xs.length hi=xs.length)∧∀p,H p=none→Q (.ref p) (upd H p (.tup (gi xs lo hi)))
theorem EC:gL X (yj X.K):=by
 intro pins s σ H x v vl vu lo hi sl Q I rx hs pl pu h
 obtain⟨a,xs,rfl,hx,hw,q⟩:=h
 cases rx
 obtain⟨its,r,ht,hz⟩:=I.tuple hx
 have hlen:its.toArray.size=xs.length:=by rw[List.size_toArray];exact r.length.symm
 refine⟨"tuple",_,PyProof.Rows.slot_tuple_getitem.lookup,ht.typeIs,?_⟩
 refine HT.AQ ht hs pl pu (by rw[hlen];exact hw) ?_ (by rw[hlen];exact hz)
 rw[hlen]
 refine⟨.ref s.heap.objs.size,_,I.laid (t':=s.toks) (o:=.tup (gi xs lo hi)) (fun b ob q=>Heap.get?_push_of_some _ q) (Nat.le_refl _) ?_,rfl,q _ (I.aD.fresh (Nat.le_refl _))⟩
 exact⟨Nat.le_trans (sA xs lo hi) hz,_,(r.drop (HT.aJ xs.length 0 lo)).take (HT.aJ xs.length xs.length hi - HT.aJ xs.length 0 lo),IsTup.new _ _⟩
noncomputable def qQ(K:PySem.W.Frag):R2:=fun x y H Q=>∃a b xs ys,x=.ref a∧y=.ref b∧bb K H a xs∧bb K H b ys∧xs≠[]∧xs.length+ys.length≤sizeLine∧
 (ys=[]→Q (.ref a) H)∧(ys≠[]→∀p,H p=none→Q (.ref p) (upd H p (.tup (xs++ys))))
theorem Vals.qx{xs:List V}{us:List Value}(r:Vals xs us):us=[]↔xs=[]:=by
 cases r with
 |nil=>simp
 |cons _ _=>simp
theorem DB:aR X (binaryOp .Add) (qQ X.K):=by
 intro pins s σ H x y v u Q I rx ry h
 obtain⟨a,b,xs,ys,rfl,rfl,ha,hb,hx,hz,q1,q2⟩:=h
 cases rx
 cases ry
 obtain⟨its,r1,p1,_⟩:=I.tuple ha
 obtain⟨its2,r2,p2,_⟩:=I.tuple hb
 refine HT.Bz p1 p2 (fun z=>hx (r1.qx.mp z)) (fun z=>⟨.ref a,H,I,rfl,q1 (r2.qx.mp z)⟩) (fun z=>?_) (by rw[←r1.length, ←r2.length];exact hz)
 refine⟨.ref s.heap.objs.size,_,I.laid (t':=s.toks) (o:=.tup (xs++ys)) (fun b ob q=>Heap.get?_push_of_some _ q) (Nat.le_refl _) ?_,rfl,q2 (fun w=>z (r2.qx.mpr w)) _ (I.aD.fresh (Nat.le_refl _))⟩
 exact⟨by rw[List.length_append];exact hz,_,r1.append r2,IsTup.new _ _⟩
end
end L2
namespace L2
open PySem PySem.Spec PyProof.Rows
noncomputable def cX(n:Nat)(i:Int):Option Nat:=if 0≤i then(if i<n then some i.toNat else none)else if -(n:Int)≤i then some (i+n).toNat else none
noncomputable def cm{α:Type}(xs:List α)(i:Int):Option α:=(cX xs.length i).bind fun j=>xs[j]?
theorem yt{n:Nat}{i:Int}{j:Nat}(h:cX n i=some j):seqIndex? i n=some j∧j<n∧ -(n:Int)≤i∧i<n:=by
 unfold cX at h
 by_cases h0:0≤i
 · rw[if_pos h0]at h
   by_cases h1:i<n
   · rw[if_pos h1]at h
     have e:i.toNat=j:=Option.some.inj h
     exact⟨by rw[seqIndex_of h0 h1,e],by omega,by omega,h1⟩
   ·rw[if_neg h1]at h;cases h
 · rw[if_neg h0]at h
   by_cases h1: -(n:Int)≤i
   · rw[if_pos h1]at h
     have e:(i+n).toNat=j:=Option.some.inj h
     exact⟨by rw[seqIndex_neg (by omega) h1,e],by omega,h1,by omega⟩
   ·rw[if_neg h1]at h;cases h
theorem pk{α:Type}{xs:List α}{i:Int}{v:α}(h:cm xs i=some v):∃j,seqIndex? i xs.length=some j∧xs[j]? =some v∧j<xs.length∧ -(xs.length:Int)≤i∧i<xs.length:=by
 unfold cm at h
 cases e:cX xs.length i with
 |none=>rw[e]at h;cases h
 | some j=>
   rw[e]at h
   obtain⟨h1,h2,h3,h4⟩:=yt e
   exact⟨j,h1,h,h2,h3,h4⟩
noncomputable def gW(b:Expr):Prop:=∀o i,subscripted b false o i=operate [o,i] (getItem o i)
noncomputable def d8(X:Cx)(r:R2):Prop:=
 ∀(value slice:Expr) (pins:List (Addr×Obj)) (s:Shared) (σ:St) (H:Hp) (x y:V) (v u:Value) (Q:VK),Inv X pins σ H s→RelV x v→RelV y u→r x y H Q→
   subscripted slice false v u=operate [v,u] (getItem v u)→wpAny (model X.prog X.w) X.A (subscriptTail value slice v u) (EP X pins σ Q) X.xe s
noncomputable def kn(X:Cx)(id:String)(r:V→List V→Hp→VK→Prop):Prop:=
 ∀(pins:List (Addr×Obj)) (s:Shared) (σ:St) (H:Hp) (x:V) (xs:List V) (v:Value) (us:List Value) (Q:VK),Inv X pins σ H s→RelV x v→Vals xs us→r x xs H Q→
   wpAny (model X.prog X.w) X.A (call (.builtin id) (v::us)) (EP X pins σ Q) X.xe s
section
variable{X:Cx}{a b:Expr}{ta tb:TE}{pos:Pos}
theorem d8.or{r r':R2}(h:d8 X r)(h':d8 X r'):d8 X (fun x y H Q=>r x y H Q∨r' x y H Q):=by
 intro value slice pins s σ H x y v u Q I rx ry q hs
 rcases q with q|q
 ·exact h value slice pins s σ H x y v u Q I rx ry q hs
 ·exact h' value slice pins s σ H x y v u Q I rx ry q hs
theorem kn.or{id:String}{r r':V→List V→Hp→VK→Prop}(h:kn X id r)(h':kn X id r'):kn X id (fun x xs H Q=>r x xs H Q∨r' x xs H Q):=by
 intro pins s σ H x xs v us Q I rx rs q
 rcases q with q|q
 ·exact h pins s σ H x xs v us Q I rx rs q
 ·exact h' pins s σ H x xs v us Q I rx rs q
theorem pZ{r:R2}(hr:d8 X r)(ha:PE X a ta)(hb:PE X b tb)(hs:gW b):PE X (.Subscript a b pos) (kZ r ta tb):=by
 intro pins s σ H Q I h
 exact Subscript_ (oP ha hb I h fun v u s2 x y H2 I2 rx ry q=>hr a b pins s2 σ H2 x y v u Q I2 rx ry q (hs _ _))
noncomputable def qM(K:PySem.W.Frag):R2:=fun x y H Q=>∃p xs i v,x=.ref p∧y=.int i∧aY K H p xs∧cm xs i=some v∧Q v H
noncomputable def rE(K:PySem.W.Frag):R2:=fun x y H Q=>∃p xs i v,x=.ref p∧y=.int i∧bb K H p xs∧cm xs i=some v∧Q v H
noncomputable def sX:R2:=fun x y H Q=>∃z i c,x=.str z∧y=.int i∧z.length≤sizeLine∧cm z.cps.toList i=some c∧Q (.str ⟨#[c]⟩) H
theorem xH:d8 X (qM X.K):=by
 intro value slice pins s σ H x y v u Q I rx ry h hs
 obtain⟨p,xs,i,z,rfl,rfl,hq,he,q⟩:=h
 cases rx
 obtain⟨t,rfl⟩:=ry
 obtain⟨its,r,pl,hz⟩:=I.list hq
 obtain⟨j,h1,h2,h3,h4,h5⟩:=pk he
 obtain⟨w,ew,rw'⟩:=r.get h2
 have hl:=r.length
 have hn:=jS
 have fin:EP X pins σ Q w s:=⟨z,H,I,rw',q⟩
 by_cases h0:0≤i
 · have hj:i.toNat=j:=by
     rw[seqIndex_of h0 h5]at h1
     exact Option.some.inj h1
   exact item_listR pl.isList h0 (by omega) (by rw[hj];simpa using ew) fin hs
 · have hj:(i+(its.toArray.size:Int)).toNat=j:=by
     rw[seqIndex_neg (by omega) h4]at h1
     rw[List.size_toArray, ←hl]
     exact Option.some.inj h1
   exact subscriptTail_builtinR (x:=w) pl.isList.typeIs slot_list_getitem.lookup
     (wpAny_getItem_list_neg (Q:=fun r s'=>r=w∧EP X pins σ Q r s') pl.isList (by omega) (by rw[List.size_toArray]<;>omega) (by omega) (by rw[hj];simpa using ew) ⟨rfl,fin⟩) hs
theorem qk:d8 X (rE X.K):=by
 intro value slice pins s σ H x y v u Q I rx ry h hs
 obtain⟨p,xs,i,z,rfl,rfl,hq,he,q⟩:=h
 cases rx
 obtain⟨t,rfl⟩:=ry
 obtain⟨its,r,pl,hz⟩:=I.tuple hq
 obtain⟨j,h1,h2,h3,h4,h5⟩:=pk he
 obtain⟨w,ew,rw'⟩:=r.get h2
 have hl:=r.length
 have hn:=jS
 have fin:EP X pins σ Q w s:=⟨z,H,I,rw',q⟩
 exact subscriptTail_builtinR (x:=w) pl.typeIs slot_tuple_getitem.lookup
   (getItem_tuple (j:=j) (Q:=fun r s'=>r=w∧EP X pins σ Q r s') pl (by omega) (by omega) (by rw[List.size_toArray, ←hl];exact h1) (by simpa using ew) ⟨rfl,fin⟩) hs
theorem yb:d8 X sX:=by
 intro value slice pins s σ H x y v u Q I rx ry h hs
 obtain⟨z,i,c,rfl,rfl,hz,he,q⟩:=h
 obtain⟨t,rfl⟩:=rx
 obtain⟨t',rfl⟩:=ry
 obtain⟨j,h1,h2,h3,h4,h5⟩:=pk he
 have hl:z.cps.toList.length=z.length:=by simp[Str.length]
 rw[hl]at h1 h4 h5
 have hn:=jS
 exact tail_any (typeIs_str s z t) slot_str_getitem.lookup (getItem_str (c:=c) (by
   have e1:decide (i< -(2 ^ 63:Int))=false:=decide_eq_false (by omega)
   have e2:decide (i≥2 ^ 63)=false:=decide_eq_false (by omega)
   rw[e1,e2,Bool.or_false]) (by rw[h1];simpa using h2) ⟨.str ⟨#[c]⟩,H,I.tok _,⟨_,rfl⟩,q⟩) hs
noncomputable def lI(K:PySem.W.Frag):R2:=fun x y H Q=>qM K x y H Q∨rE K x y H Q∨sX x y H Q
theorem tU:d8 X (lI X.K):=xH.or (qk.or yb)
theorem Inv.lst{pins:List (Addr×Obj)}{σ:St}{H:Hp}{s:Shared}{p:Addr}{xs:List V}(I:Inv X pins σ H s)(h:H p=some (.lst xs)):
   ∃(its:List Value) (n:Nat),Vals xs its∧s.heap.get? p=some {cls:=.type "list",data:=.seq its.toArray n}∧xs.length≤sizeLine:=by
 obtain⟨z,its,n,r,e⟩:=I.aD p _ h
 exact⟨its,n,r,e,z⟩
theorem Eg(lo hi:Option Int)(n:Nat):(sliceBounds lo hi none n).1=((HT.aJ n 0 lo:Nat):Int)∧(sliceBounds lo hi none n).2.1=((HT.aJ n n hi:Nat):Int)∧(sliceBounds lo hi none n).2.2=1:=by
 refine⟨?_,?_,rfl⟩
 · cases lo with
   |none=>simp[sliceBounds,HT.aJ]
   | some i=>
     simp only[sliceBounds,HT.aJ,Option.getD_none,show(1:Int)>0 by decide,if_true]
     by_cases h:i<0
     ·simp only[h,if_true]<;>omega
     ·simp only[h,if_false]<;>omega
 · cases hi with
   |none=>simp[sliceBounds,HT.aJ]
   | some i=>
     simp only[sliceBounds,HT.aJ,Option.getD_none,show(1:Int)>0 by decide,if_true]
     by_cases h:i<0
     ·simp only[h,if_true]<;>omega
     ·simp only[h,if_false]<;>omega
theorem Em(its:List Value)(lo hi:Option Int):slicePick its.toArray lo hi none=((its.drop (HT.aJ its.length 0 lo)).take (HT.aJ its.length its.length hi - HT.aJ its.length 0 lo)).toArray:=by
 obtain⟨h1,h2,h3⟩:=Eg lo hi its.toArray.size
 unfold slicePick
 rw[h1,h2,h3]
 simp only[sliceRange_one,pick_run,List.size_toArray]<;>rfl
noncomputable def z7(K:PySem.W.Frag):V→Option Int→Option Int→Hp→VK→Prop:=fun x lo hi H Q=>∃a xs,x=.ref a∧aY K H a xs∧∀p,H p=none→Q (.ref p) (upd H p (.lst (gi xs lo hi)))
theorem A3:gL X (z7 X.K):=by
 intro pins s σ H x v vl vu lo hi sl Q I rx hs pl pu h
 obtain⟨a,xs,rfl,hx,q⟩:=h
 cases rx
 obtain⟨its,r,ht,hz⟩:=I.list hx
 have hlen:=r.length
 refine⟨"list",_,slot_list_getitem.lookup,ht.isList.typeIs,?_⟩
 refine wpAny_getItem_list_slice ht.isList hs pl pu .none (by simp) ?_ (by rw[List.size_toArray]<;>omega)
 rw[Em, ←hlen]
 refine⟨.ref s.heap.objs.size,_,I.laid (t':=s.toks) (o:=.lst (gi xs lo hi)) (fun b ob q=>Heap.get?_push_of_some _ q) (Nat.le_refl _) ?_,rfl,q _ (I.aD.fresh (Nat.le_refl _))⟩
 exact⟨Nat.le_trans (sA xs lo hi) hz,_,0,(r.drop (HT.aJ xs.length 0 lo)).take (HT.aJ xs.length xs.length hi - HT.aJ xs.length 0 lo),Heap.get?_push_size _ rfl⟩
noncomputable def fM:V→Bool
 |.aA=>true
 |.bl _=>true
 |.int _=>true
 |.str _=>true
 |_=>false
noncomputable def fu:V→V→Bool
 |.aA,.aA=>true
 |.bl a,.bl b=>a==b
 |.bl a,.int b=>(if a then 1 else 0)==b
 |.int a,.bl b=>a==(if b then 1 else 0)
 |.int a,.int b=>a==b
 |.str a,.str b=>a==b
 |_,_=>false
theorem Al{A:Around}{s:Shared}{y x:V}{u v:Value}(ry:RelV y u)(rx:RelV x v)(fy:fM y=true)(fx:fM x=true):SeqAt.EqAt A s u v (fu y x):=by
 cases y with
 | aA=>
   cases ry
   cases x with
   |aA=>cases rx;exact SeqAt.EqAt.same _
   |bl b=>cases rx;exact SeqAt.EqAt.none_bool b
   |int b=>obtain⟨t,rfl⟩:=rx;exact SeqAt.EqAt.none_int b t
   |str b=>obtain⟨t,rfl⟩:=rx;exact SeqAt.EqAt.none_str b t
   |_=>exact absurd (show false=true from fx) Bool.false_ne_true
 | bl a=>
   cases ry
   cases x with
   |aA=>cases rx;exact SeqAt.EqAt.bool_none a
   |bl b=>cases rx;exact SeqAt.EqAt.bool_bool a b
   |int b=>obtain⟨t,rfl⟩:=rx;exact SeqAt.EqAt.bool_int a b t
   |str b=>obtain⟨t,rfl⟩:=rx;exact SeqAt.EqAt.bool_str a b t
   |_=>exact absurd (show false=true from fx) Bool.false_ne_true
 | int a=>
   obtain⟨t',rfl⟩:=ry
   cases x with
   |aA=>cases rx;exact SeqAt.EqAt.int_none a t'
   |bl b=>cases rx;exact SeqAt.EqAt.int_bool a t' b
   |int b=>obtain⟨t,rfl⟩:=rx;exact SeqAt.EqAt.int_int a t' b t
   |str b=>obtain⟨t,rfl⟩:=rx;exact SeqAt.EqAt.int_str a t' b t
   |_=>exact absurd (show false=true from fx) Bool.false_ne_true
 | str a=>
   obtain⟨t',rfl⟩:=ry
   cases x with
   |aA=>cases rx;exact SeqAt.EqAt.str_none a t'
   |bl b=>cases rx;exact SeqAt.EqAt.str_bool a t' b
   |int b=>obtain⟨t,rfl⟩:=rx;exact SeqAt.EqAt.str_int a t' b t
   |str b=>obtain⟨t,rfl⟩:=rx;exact SeqAt.EqAt.str_str a t' b t
   |_=>exact absurd (show false=true from fx) Bool.false_ne_true
 |_=>exact absurd (show false=true from fy) Bool.false_ne_true
noncomputable def dJ(x:V)(u:Value):Bool:=match u with
 |.none=>fu .aA x
 |.bool b=>fu (.bl b) x
 |.int i _=>fu (.int i) x
 |.str z _=>fu (.str z) x
 |_=>false
theorem qU{x y:V}{u:Value}(r:RelV y u)(f:fM y=true):dJ x u=fu y x:=by
 cases y with
 |aA=>cases r;rfl
 |bl b=>cases r;rfl
 |int i=>obtain⟨t,rfl⟩:=r;rfl
 |str z=>obtain⟨t,rfl⟩:=r;rfl
 |_=>exact absurd (show false=true from f) Bool.false_ne_true
theorem lz{x:V}:∀ {xs:List V} {us:List Value},Vals xs us→xs.all fM=true→us.any (dJ x)=xs.any fun y=>fu y x
 |_,_,.nil,_=>rfl
 | y::xs,u::us,.cons r t,f=>by
   rw[List.all_cons,Bool.and_eq_true]at f
   rw[List.any_cons,List.any_cons,qU r f.1,lz t f.2]
theorem lj{A:Around}{s:Shared}{x:V}{v:Value}(rx:RelV x v)(fx:fM x=true):∀ {xs:List V} {us:List Value},Vals xs us→xs.all fM=true→∀u∈us,SeqAt.EqAt A s u v (dJ x u)
 |_,_,.nil,_=>fun u hu=>by cases hu
 | y::xs,u::us,.cons r t,f=>fun u' hu=>by
   rw[List.all_cons,Bool.and_eq_true]at f
   rcases List.mem_cons.mp hu with rfl|hu
   ·rw[qU r f.1];exact Al r rx f.1 fx
   ·exact lj rx fx t f.2 u' hu
noncomputable def lT(x:V)(xs:List V):Bool:=xs.any fun y=>fu y x
noncomputable def uw(K:PySem.W.Frag)(neg:Bool):R2:=fun x y H Q=>∃p xs,y=.ref p∧(aY K H p xs∨bb K H p xs)∧fM x=true∧xs.all fM=true∧Q (.bl (if neg then !lT x xs else lT x xs)) H
theorem Ak:aR X (compareOp .In) (uw X.K false):=by
 intro pins s σ H x y v u Q I rx ry h
 obtain⟨p,xs,rfl,hq,fx,fs,q⟩:=h
 cases ry
 rcases hq with hq|hq
 · obtain⟨its,r,pl,hz⟩:=I.list hq
   refine SeqAt.in_listAt (dJ x) pl.isList (fun w hw=>lj rx fx r fs w (by simpa using hw)) ⟨.bl _,H,I,rfl,?_⟩
   rw[show its.toArray.any (dJ x)=its.any (dJ x) by simp,lz r fs]
   exact q
 · obtain⟨its,r,pl,hz⟩:=I.tuple hq
   refine SeqAt.in_tupleAt (dJ x) pl (fun w hw=>lj rx fx r fs w (by simpa using hw)) ⟨.bl _,H,I,rfl,?_⟩
   rw[show its.toArray.any (dJ x)=its.any (dJ x) by simp,lz r fs]
   exact q
theorem v8:aR X (compareOp .NotIn) (uw X.K true):=by
 intro pins s σ H x y v u Q I rx ry h
 obtain⟨p,xs,rfl,hq,fx,fs,q⟩:=h
 cases ry
 rcases hq with hq|hq
 · obtain⟨its,r,pl,hz⟩:=I.list hq
   refine SeqAt.notIn_listAt (dJ x) pl.isList (fun w hw=>lj rx fx r fs w (by simpa using hw)) ⟨.bl _,H,I,rfl,?_⟩
   rw[show its.toArray.any (dJ x)=its.any (dJ x) by simp,lz r fs]
   exact q
 · obtain⟨its,r,pl,hz⟩:=I.tuple hq
   refine SeqAt.notIn_tupleAt (dJ x) pl (fun w hw=>lj rx fx r fs w (by simpa using hw)) ⟨.bl _,H,I,rfl,?_⟩
   rw[show its.toArray.any (dJ x)=its.any (dJ x) by simp,lz r fs]
   exact q
theorem CW:bu X (.builtin "len") (fun xs H Q=>∃p ys,xs=[.ref p]∧(aY X.K H p ys∨bb X.K H p ys)∧Q (.int ys.length) H):=by
 intro pins s σ H xs us Q I r h
 obtain⟨p,ys,rfl,hq,q⟩:=h
 obtain⟨u,rfl,rx⟩:=vals1 r
 cases rx
 have hn:=jS
 rcases hq with hq|hq
 · obtain⟨its,r',pl,hz⟩:=I.list hq
   have hlen:=r'.length
   exact Calls.call_len_list pl.isList (by simp only[List.size_toArray]<;>omega) ⟨.int ys.length,H,I.tok _,⟨s.toks+1,by rw[List.size_toArray,hlen]⟩,q⟩
 · obtain⟨its,r',pl,hz⟩:=I.tuple hq
   have hlen:=r'.length
   exact len_tuple pl (by simp only[List.size_toArray]<;>omega) ⟨.int ys.length,H,I.tok _,⟨s.toks+1,by rw[List.size_toArray,hlen]⟩,q⟩
theorem AL:bu X (.builtin "len") (fun xs H Q=>∃z,xs=[.str z]∧z.length≤sizeLine∧Q (.int z.length) H):=by
 intro pins s σ H xs us Q I r h
 obtain⟨z,rfl,hz,q⟩:=h
 obtain⟨u,rfl,t,rfl⟩:=vals1 r
 have hn:=jS
 exact len_str (by omega) ⟨.int z.length,H,I.tok _,⟨_,rfl⟩,q⟩
theorem bu.or{f:Value}{r r':List V→Hp→VK→Prop}(h:bu X f r)(h':bu X f r'):bu X f (fun xs H Q=>r xs H Q∨r' xs H Q):=by
 intro pins s σ H xs us Q I rs q
 rcases q with q|q
 ·exact h pins s σ H xs us Q I rs q
 ·exact h' pins s σ H xs us Q I rs q
theorem ny:bu X (.type "tuple") (fun xs H Q=>∃p ys,xs=[.ref p]∧((aY X.K H p ys∧∀l,H l=none→Q (.ref l) (upd H l (.tup ys)))∨(bb X.K H p ys∧Q (.ref p) H))):=by
 intro pins s σ H xs us Q I r h
 obtain⟨p,ys,rfl,h⟩:=h
 obtain⟨u,rfl,rx⟩:=vals1 r
 cases rx
 rcases h with⟨hq,q⟩|⟨hq,q⟩
 · obtain⟨its,r',pl,hz⟩:=I.list hq
   have hlen:=r'.length
   refine call_tuple_list pl.isList (fun h' kp=>?_) (by simp only[List.size_toArray]<;>omega)
   have I1:Inv X pins σ H {s with heap:=h'}:=I.kept (t':=s.toks) kp
   have I2:Inv X pins σ (upd H h'.objs.size (.tup ys)) {s with heap:=h'.push {cls:=.type "tuple",data:=.seq its.toArray} }:=
     I1.laid (t':=s.toks) (fun b o e=>Heap.get?_push_of_some _ e) (Nat.le_refl _) (show cf X.prog X.w _ _ _ (.tup ys)from⟨hz,its,r',IsTup.new _ _⟩)
   exact⟨.ref h'.objs.size,_,I2,rfl,q _ (I1.aD.fresh (Nat.le_refl _))⟩
 · obtain⟨its,r',pl,hz⟩:=I.tuple hq
   exact call_tuple_same pl ⟨.ref p,H,I,rfl,q⟩
noncomputable def uV(K:PySem.W.Frag)(T:String)(x:V)(H:Hp):Prop:=match x with
 |.str _=>T="str"
 |.int _=>T="int"
 |.ref p=>(T="list"∧∃xs,aY K H p xs)∨(T="tuple"∧∃o,K.lookup p=some o∧o.cls=.type "tuple"∧o.dict=none)∨
     (T="dict"∧((∃kvs,H p=some (.dK kvs))∨∃kvs,H p=some (.dT kvs)))∨(T="set"∧∃S n,H p=some (.set S n))
 |_=>False
theorem DS{pins:List (Addr×Obj)}{σ:St}{H:Hp}{s:Shared}{T:String}{x:V}{v:Value}(I:Inv X pins σ H s)(r:RelV x v)(ty:uV X.K T x H):
   s.TypeIs v T∧∀a,v=.ref a→∃ob,s.heap.get? a=some ob∧ob.dict=none:=by
 cases x with
 | str z=>
   obtain⟨t,rfl⟩:=r
   cases (show T="str" from ty)
   exact⟨typeIs_str s z t,fun _ e=>nomatch e⟩
 | int i=>
   obtain⟨t,rfl⟩:=r
   cases (show T="int" from ty)
   exact⟨typeIs_int s i t,fun _ e=>nomatch e⟩
 | ref p=>
   cases r
   rcases ty with⟨rfl,xs,hq⟩|⟨rfl,o,hk,hc,hd⟩|⟨rfl,hk⟩|⟨rfl,S,n,hk⟩
   · obtain⟨its,_,pl,_⟩:=I.list hq
     refine⟨pl.isList.typeIs,fun a e=>?_⟩
     cases e
     obtain⟨o,n,e,c,hd,_⟩:=pl
     exact⟨o,e,hd⟩
   · refine⟨⟨o,I.b5 p o hk,hc⟩,fun a e=>?_⟩
     cases e
     exact⟨o,I.b5 _ o hk,hd⟩
   · have z:∃o,s.heap.get? p=some o∧o.ExactDict:=by
       rcases hk with⟨kvs,hk⟩|⟨kvs,hk⟩
       · obtain⟨_,_,_,_,o,_,_,e,ex,_⟩:=I.aD p _ hk
         exact⟨o,e,ex⟩
       · obtain⟨_,_,_,_,o,_,_,e,ex,_⟩:=I.aD p _ hk
         exact⟨o,e,ex⟩
     obtain⟨o,e,ex⟩:=z
     refine⟨⟨o,e,ex.1⟩,fun a e2=>?_⟩
     cases e2
     exact⟨o,e,ex.2.1⟩
   · obtain⟨o,_,_,_,e,ex,_⟩:=I.aD p _ hk
     refine⟨⟨o,e,ex.1⟩,fun a e2=>?_⟩
     cases e2
     exact⟨o,e,ex.2.1⟩
 |_=>exact False.elim ty
noncomputable def xf(K:PySem.W.Frag)(T:String)(r:V→List V→Hp→VK→Prop)(to:TE)(t:TA):TE:=fun σ H Q=>to σ H fun x H1=>uV K T x H1∧t σ H1 fun xs H2=>r x xs H2 Q
variable{o e:Expr}{es:List Expr}{to:TE}{t:TA}{name:Str}{apos cpos:Pos}{T id:String}{r:V→List V→Hp→VK→Prop}
theorem sy(pa:PlainAttrs T)(slot:Slot T name id)(hty:typeOf (.builtin id)=pure (.type "method_descriptor"))(hm:kn X id r)(ho:PE X o to)(ha:PA X (e::es) t)
   (hbase:attributeBase o name X.env (eval o X.env)=eval o X.env:=by rfl)
   (hfew:((backTo cpos (starEach (e::es) X.env)).all (fun x=> !x.1)&&(backToKw cpos (keywordEach [] X.env)).all (fun x=>x.1.isSome)
     &&decide ((e::es).length+([]:List Keyword).length+(if([]:List Keyword).isEmpty then 0 else 1)<30))=true:=by rfl)
   (hline:(apos.endLine==cpos.line)=true:=by rfl) (hs:starEach (e::es) X.env=(false,eval e X.env)::starEach es X.env:=by rfl) (hplain:(backTo cpos (starEach es X.env)).any (·.1)=false:=by rfl):
   PE X (.Call (.Attribute o name apos) (e::es) [] cpos) (xf X.K T r to t):=by
 intro pins s σ H Q I h
 refine wpAny_Call_method_late hbase hfew hline rfl (aE (ho pins s σ H _ I h) fun v s1 ⟨x,H1,I1,r1,ty,q1⟩=>?_)
 obtain⟨h1,h2⟩:=DS I1 r1 ty
 refine⟨T,id,pa,slot,hty,h1,h2,?_⟩
 have hA:=ha cpos pins s1 σ H1 _ I1 q1
 rw[hs]at hA ⊢
 refine Calls.callWith_builtin (by show(false||(backTo cpos (starEach es X.env)).any (·.1))=false;rw[hplain]<;>rfl) (Calls.evalArgs_plain ?_)
 exact aE hA fun us s2 ⟨vs,H2,I2,r2,q2⟩=>hm pins s2 σ H2 x vs v us Q I2 r1 r2 q2
end
end L2
namespace L2
open PySem PySem.Spec PyProof.Rows
noncomputable def tw(X:Cx)(id:String)(r:V→List V→Hp→VK→Prop):Prop:=
 ∀(pins:List (Addr×Obj)) (s:Shared) (σ:St) (H:Hp) (x:V) (xs:List V) (v:Value) (us:List Value) (Q:VK),Inv X pins σ H s→RelV x v→Vals xs us→r x xs H Q→
   wpAny (model X.prog X.w) X.A (call (.builtin id) (v::us)) (EP X pins σ Q) X.xe s
theorem Vals.one:∀ {x:V} {us:List Value},Vals [x] us→∃u,us=[u]∧RelV x u
 |_,_,.cons r .nil=>⟨_,rfl,r⟩
theorem Vals.two:∀ {x y:V} {us:List Value},Vals [x,y] us→∃u v,us=[u,v]∧RelV x u∧RelV y v
 |_,_,_,.cons r (.cons q .nil)=>⟨_,_,rfl,r,q⟩
theorem Vals.reverse{xs:List V}{us:List Value}(h:Vals xs us):Vals xs.reverse us.reverse:=by
 induction h with
 |nil=>exact .nil
 |cons r t ih=>rw[List.reverse_cons,List.reverse_cons];exact Vals.append ih (.cons r .nil)
theorem Vals.rep{xs:List V}{us:List Value}(h:Vals xs us):∀k:Nat,Vals (List.replicate k xs).flatten (List.replicate k us).flatten
 |0=>.nil
 | k+1=>by
   rw[List.replicate_succ,List.replicate_succ,List.flatten_cons,List.flatten_cons]
   exact Vals.append h (Vals.rep h k)
section
variable{X:Cx}{pins:List (Addr×Obj)}{σ:St}{H:Hp}{s:Shared}{l b:Addr}{xs ys zs:List V}
theorem Inv.CS{its its':List Value}{n:Nat}{f:Array Value→Array Value}{t':Nat}(I:Inv X pins σ H s)(hH:H l=some (.lst xs))
   (e:s.heap.get? l=some {cls:=.type "list",data:=.seq its.toArray n}) (hf:f its.toArray=its'.toArray) (hv:Vals ys its') (hz:ys.length≤sizeLine):
   Inv X pins σ (upd H l (.lst ys)) {s with heap:=s.heap.update l (Obj.mapSeq f),toks:=t'}:=by
 have q:=PySem.IsL.update e f
 rw[hf]at q
 refine I.write (x:=l) (e:=l) (by rw[hH];exact trivial) (.inl rfl) (fun b' u hb hu=>(Heap.get?_update_other s.heap (Obj.mapSeq f) (Ne.symm hb)).trans hu) ⟨_,q⟩ ?_
 exact⟨hz,its',_,hv,q⟩
theorem Inv.za{its:List Value}{t':Nat}(I:Inv X pins σ H s)(hv:Vals ys its)(hz:ys.length≤sizeLine):
   Inv X pins σ (upd H s.heap.objs.size (.lst ys)) {s with heap:=s.heap.push {cls:=.type "list",data:=.seq its.toArray},toks:=t'}:=
 I.laid (fun _ _ q=>Heap.get?_push_of_some _ q) (Nat.le_refl _) ⟨hz,its,0,hv,Heap.get?_push_size _ rfl⟩
theorem Inv.fresh(I:Inv X pins σ H s):H s.heap.objs.size=none:=I.aD.fresh (Nat.le_refl _)
theorem Inv.zC(I:Inv X pins σ H s)(hH:H l=some (.lst xs)):xs.length≤sizeLine∧∃(its:List Value) (n:Nat),Vals xs its∧xs.length=its.length∧s.heap.get? l=some {cls:=.type "list",data:=.seq its.toArray n}:=by
 obtain⟨z,its,n,r,e⟩:=I.aD l _ hH
 exact⟨z,its,n,r,r.length,e⟩
end
section
variable{X:Cx}
noncomputable def A5:V→List V→Hp→VK→Prop:=fun x vs H Q=>∃l xs y,x=.ref l∧vs=[y]∧H l=some (.lst xs)∧xs.length<sizeLine∧Q .aA (upd H l (.lst (xs++[y])))
theorem rC:tw X "list.append" A5:=by
 intro pins s σ H x vs v us Q I rx rv h
 obtain⟨l,xs,y,rfl,rfl,hH,hz,q⟩:=h
 cases rx
 obtain⟨u,rfl,ru⟩:=rv.one
 obtain⟨z,its,n,r,hl,e⟩:=I.zC hH
 refine call_meets F.slot_list_append ⟨_,e,rfl⟩ F.entry_list_append (F.args_list_append_2 _ _) (PySem.list_append l its.toArray n u (by rw[List.size_toArray];omega)) ⟨e,?_⟩
 refine⟨.aA,_,I.CS (its':=its++[u]) hH e (by simp) (r.append (.cons ru .nil)) ?_,rfl,q⟩
 rw[List.length_append,List.length_singleton]
 omega
theorem len_rep{α:Type}(xs:List α)(k:Nat):(List.replicate k xs).flatten.length=k*xs.length:=by
 induction k with
 |zero=>simp
 |succ k ih=>rw[List.replicate_succ,List.flatten_cons,List.length_append,ih,Nat.succ_mul,Nat.add_comm]
end
section
variable{prog:Program}{w:World}{A:Around}{E:Value→Shared→Prop}{s:Shared}
end
section
variable{X:Cx}
end
end L2
namespace L2
open PySem PySem.Spec PyProof.Rows
section
variable{κ:Type} [DecidableEq κ]
noncomputable def ck(kvs:List (κ×V))(k:κ):Option V:=(kvs.find? fun kv=>decide (kv.1=k)).map (·.2)
noncomputable def putK(kvs:List (κ×V))(k:κ)(v:V):List (κ×V):=
 if(kvs.any fun kv=>decide (kv.1=k))=true then kvs.map (fun kv=>if kv.1=k then(kv.1,v)else kv)else kvs++[(k,v)]
noncomputable def qT(kvs:List (κ×V))(k:κ):List (κ×V):=kvs.filter fun kv=>decide (kv.1≠k)
theorem qq{p:κ×V}{r:List (κ×V)}{k:κ}(e:p.1=k):ck (p::r) k=some p.2:=by simp[ck,List.find?_cons,e]
theorem qF{p:κ×V}{r:List (κ×V)}{k:κ}(e:¬p.1=k):ck (p::r) k=ck r k:=by simp[ck,List.find?_cons,e]
theorem uz(k:κ):∀kvs:List (κ×V),(kvs.any fun kv=>decide (kv.1=k))=(ck kvs k).isSome
 |[]=>rfl
 | p::r=>by
   rw[List.any_cons]
   by_cases e:p.1=k
   ·simp only[qq e,decide_eq_true e,Bool.true_or,Option.isSome_some]
   ·rw[qF e,decide_eq_false e,Bool.false_or];exact uz k r
theorem ox(kvs:List (κ×V))(k:κ)(v:V):(putK kvs k v).length≤kvs.length+1:=by
 unfold putK
 split
 ·rw[List.length_map];omega
 ·rw[List.length_append,List.length_cons,List.length_nil];omega
theorem dF.zt{o:Option V}{u:Option Value}(r:dF o u):o.isSome=u.isSome:=by
 cases o with
 | none=>cases u with
   |none=>rfl
   |some _=>exact(show False from r).elim
 | some _=>cases u with
   |none=>exact(show False from r).elim
   |some _=>rfl
theorem dF.getD{o:Option V}{u:Option Value}{d:V}{d':Value}(r:dF o u)(rd:RelV d d'):RelV (o.getD d) (u.getD d'):=by
 cases o with
 | none=>cases u with
   |none=>exact rd
   |some _=>exact(show False from r).elim
 | some _=>cases u with
   |none=>exact(show False from r).elim
   |some _=>exact r
theorem KV.val{kvs:List (κ×V)}{vs:List (κ×Value)}(r:KV kvs vs)(k:κ):dF (ck kvs k) (valueAt vs k):=by
 unfold KV at r
 induction r with
 |nil=>exact True.intro
 | @cons p q ps qs h t ih=>
   obtain⟨h1,h2⟩:=h
   by_cases e:p.1=k
   · have e':q.1=k:=h1.symm.trans e
     have b:valueAt (q::qs) k=some q.2:=by simp[valueAt,List.find?_cons,e']
     rw[qq e,b];exact h2
   · have e':¬q.1=k:=fun z=>e (h1.trans z)
     have b:valueAt (q::qs) k=valueAt qs k:=by simp[valueAt,List.find?_cons,e']
     rw[qF e,b];exact ih
theorem KV.any{kvs:List (κ×V)}{vs:List (κ×Value)}(r:KV kvs vs)(k:κ):(kvs.any fun kv=>decide (kv.1=k))=vs.any fun kv=>decide (kv.1=k):=by
 unfold KV at r
 induction r with
 |nil=>rfl
 |cons h t ih=>rw[List.any_cons,List.any_cons,ih,h.1]
theorem KV.oz{kvs:List (κ×V)}{vs:List (κ×Value)}(r:KV kvs vs)(k:κ){y:V}{u:Value}(ry:RelV y u):
   KV (kvs.map fun kv=>if kv.1=k then(kv.1,y)else kv) (vs.map fun kv=>if kv.1=k then(kv.1,u)else kv):=by
 unfold KV at r ⊢
 induction r with
 |nil=>exact .nil
 | @cons p q ps qs h t ih=>
   rw[List.map_cons,List.map_cons]
   refine .cons ?_ ih
   obtain⟨h1,h2⟩:=h
   by_cases e:p.1=k
   ·rw[if_pos e,if_pos (h1.symm.trans e)];exact⟨h1,ry⟩
   ·rw[if_neg e,if_neg (fun z=>e (h1.trans z))];exact⟨h1,h2⟩
theorem KV.put{kvs:List (κ×V)}{vs:List (κ×Value)}(r:KV kvs vs)(k:κ){y:V}{u:Value}(ry:RelV y u):KV (putK kvs k y) (stored vs k u):=by
 unfold putK stored
 rw[r.any k]
 by_cases e:(vs.any fun kv=>decide (kv.1=k))=true
 ·rw[if_pos e,if_pos e];exact r.oz k ry
 ·rw[if_neg e,if_neg e];exact Paired.snoc r ⟨rfl,ry⟩
theorem KV.drop{kvs:List (κ×V)}{vs:List (κ×Value)}(r:KV kvs vs)(k:κ):KV (qT kvs k) (without vs k):=by
 unfold KV at r ⊢
 unfold qT without
 induction r with
 |nil=>exact .nil
 | @cons p q ps qs h t ih=>
   obtain⟨h1,h2⟩:=h
   rw[List.filter_cons,List.filter_cons]
   by_cases e:p.1=k
   · have a:¬decide (p.1≠k)=true:=by simp[e]
     have b:¬decide (q.1≠k)=true:=by simp[h1.symm.trans e]
     rw[if_neg a,if_neg b];exact ih
   · have e':¬q.1=k:=fun z=>e (h1.trans z)
     have a:decide (p.1≠k)=true:=by simp[e]
     have b:decide (q.1≠k)=true:=by simp[e']
     rw[if_pos a,if_pos b];exact .cons ⟨h1,h2⟩ ih
theorem KV.length{kvs:List (κ×V)}{vs:List (κ×Value)}(r:KV kvs vs):kvs.length=vs.length:=Paired.length r
end
theorem gj{P:Program}{w:World}{k:Key}{u:Value}(r:RelV (kV k) u):(bL P w).is k u=true:=by
 cases k with
 |inl i=>obtain⟨t,e⟩:=(show ∃t,u=Value.int i t from r);subst e;exact zu P w i t
 |inr x=>obtain⟨t,e⟩:=(show ∃t,u=Value.str x t from r);subst e;exact zH P w x t
theorem tY{P:Program}{w:World}:∀ {ks:List Key} {us:List Value},Vals (ks.map kV) us→ItemsAre (bL P w) ks us
 |[],_,r=>by rw[List.map_nil]at r;cases r;exact .nil
 | k::ks,_,r=>by
   rw[List.map_cons]at r
   cases r with
   |cons h t=>exact .cons (gj h) (tY t)
noncomputable abbrev KT(H:Hp):List (List Key×V)→List (List Key×Addr×Value)→Prop:=Paired fun p q=>p.1=q.1∧H q.2.1=some (.tup (p.1.map kV))∧RelV p.2 q.2.2
theorem KT.val{H:Hp}{kvs:List (List Key×V)}{xs:List (List Key×Addr×Value)}(r:KT H kvs xs)(k:List Key):dF (ck kvs k) ((atKey xs k).map (·.2)):=by
 induction r with
 |nil=>exact True.intro
 | @cons p q ps qs h t ih=>
   obtain⟨h1,_,h2⟩:=h
   by_cases e:p.1=k
   · have e':q.1=k:=h1.symm.trans e
     have b:atKey (q::qs) k=some q.2:=by simp[atKey,List.find?_cons,e']
     rw[qq e,b];exact h2
   · have e':¬q.1=k:=fun z=>e (h1.trans z)
     have b:atKey (q::qs) k=atKey qs k:=by simp[atKey,List.find?_cons,e']
     rw[qF e,b];exact ih
theorem KT.oz{H:Hp}{kvs:List (List Key×V)}{xs:List (List Key×Addr×Value)}(r:KT H kvs xs)(k:List Key){y:V}{u:Value}(ry:RelV y u):
   KT H (kvs.map fun kv=>if kv.1=k then(kv.1,y)else kv) (xs.map (putAt k u)):=by
 induction r with
 |nil=>exact .nil
 | @cons p q ps qs h t ih=>
   rw[List.map_cons,List.map_cons]
   refine .cons ?_ ih
   obtain⟨h1,h2,h3⟩:=h
   unfold putAt
   by_cases e:p.1=k
   ·rw[if_pos e,if_pos (h1.symm.trans e)];exact⟨h1,h2,ry⟩
   ·rw[if_neg e,if_neg (fun z=>e (h1.trans z))];exact⟨h1,h2,h3⟩
theorem KT.put{H:Hp}{kvs:List (List Key×V)}{xs:List (List Key×Addr×Value)}(r:KT H kvs xs)(k:List Key){b:Addr}{y:V}{u:Value}(hb:H b=some (.tup (k.map kV)))(ry:RelV y u):
   KT H (putK kvs k y) (storedH xs k b u):=by
 have e:(kvs.any fun kv=>decide (kv.1=k))=(atKey xs k).isSome:=by
   rw[uz,(r.val k).zt,Option.isSome_map]
 unfold putK storedH
 rw[e]
 by_cases q:(atKey xs k).isSome=true
 ·rw[if_pos q,if_pos q];exact r.oz k ry
 ·rw[if_neg q,if_neg q];exact Paired.snoc r ⟨rfl,hb,ry⟩
theorem KT.keeps{H H':Hp}{kvs:List (List Key×V)}{xs:List (List Key×Addr×Value)}(r:KT H kvs xs)(ht:∀b ys,H b=some (.tup ys)→H' b=some (.tup ys)):KT H' kvs xs:=
 Paired.pC r fun _ _ z=>⟨z.1,ht _ _ z.2.1,z.2.2⟩
section
variable{P:Program}{w:World}{H:Hp}{h:Heap}{a:Addr}
theorem uR{u:HO}(ok:bp P w H h)(e:Rd H a u):cf P w H h a u:=e.ok ok
theorem ph{kvs:List (Key×V)}(ok:bp P w H h)(e:Rd H a (.dK kvs)):kvs.length≤sizeLine∧(a==sysModules)=false∧∃vs,KV kvs vs∧h.DictOf (bL P w) a vs:=
 show cf P w H h a (.dK kvs)from uR ok e
theorem pK{kvs:List (Key×V)}(ok:bp P w H h)(e:H a=some (.dK kvs)):kvs.length≤sizeLine∧(a==sysModules)=false∧∃vs,KV kvs vs∧h.DictOf (bL P w) a vs:=ph ok (.inl e)
theorem uB{ks:List Key}(ok:bp P w H h)(e:H a=some (.tup (ks.map kV))):(tupleKind (bL P w)).is h ks a:=by
 obtain⟨_,its,r,o,h1,h2,n,h3⟩:=(show cf P w H h a (.tup (ks.map kV))from ok a _ e)
 exact⟨o,its.toArray,n,h1,h2,h3,by simpa using tY r⟩
theorem z5{kvs:List (List Key×V)}(ok:bp P w H h)(e:Rd H a (.dT kvs)):kvs.length≤sizeLine∧(a==sysModules)=false∧
   ∃xs,KT H kvs xs∧h.DictOfH (tupleKind (bL P w)) a xs:=by
 obtain⟨z,y,xs,r,o,es,ep,h1,h2,h3,h4,h5⟩:=(show cf P w H h a (.dT kvs)from uR ok e)
 refine⟨z,y,xs,r,o,es,ep,h1,h2,h3,h4,fun x hx=>?_,h5⟩
 have all:∀ {l:List (List Key×V)} {m:List (List Key×Addr×Value)},KT H l m→∀x∈m,(tupleKind (bL P w)).is h x.1 x.2.1:=by
   intro l m q
   induction q with
   |nil=>intro x hx;exact nomatch hx
   | @cons p q ps qs hq t ih=>
     intro x hx
     rcases List.mem_cons.mp hx with e|hx
     · subst e
       exact uB ok (by rw[←hq.1];exact hq.2.1)
     ·exact ih x hx
 exact all r x hx
theorem xw{kvs:List (List Key×V)}(ok:bp P w H h)(e:H a=some (.dT kvs)):kvs.length≤sizeLine∧(a==sysModules)=false∧
   ∃xs,KT H kvs xs∧h.DictOfH (tupleKind (bL P w)) a xs:=z5 ok (.inl e)
end
noncomputable def lK(H:Hp)(a:Addr)(y:V)(r:Option V):Prop:=
 (∃kvs k,Rd H a (.dK kvs)∧y=kV k∧r=ck kvs k)∨∃kvs k b,Rd H a (.dT kvs)∧y=.ref b∧H b=some (.tup (k.map kV))∧r=ck kvs k
noncomputable def gR(H:Hp)(a:Addr)(y v:V)(H':Hp):Prop:=
 (∃kvs k,H a=some (.dK kvs)∧y=kV k∧kvs.length<sizeLine∧H'=upd H a (.dK (putK kvs k v)))∨
 ∃kvs k b,H a=some (.dT kvs)∧y=.ref b∧H b=some (.tup (k.map kV))∧kvs.length<sizeLine∧H'=upd H a (.dT (putK kvs k v))
theorem lK.k{H:Hp}{a:Addr}{kvs:List (Key×V)}{k:Key}(e:H a=some (.dK kvs)):lK H a (kV k) (ck kvs k):=.inl ⟨kvs,k,.inl e,rfl,rfl⟩
theorem lK.t{H:Hp}{a b:Addr}{kvs:List (List Key×V)}{k:List Key}(e:H a=some (.dT kvs))(eb:H b=some (.tup (k.map kV))):lK H a (.ref b) (ck kvs k):=.inr ⟨kvs,k,b,.inl e,rfl,eb,rfl⟩
theorem gR.k{H:Hp}{a:Addr}{kvs:List (Key×V)}{k:Key}{v:V}(e:H a=some (.dK kvs))(hl:kvs.length<sizeLine):gR H a (kV k) v (upd H a (.dK (putK kvs k v))):=.inl ⟨kvs,k,e,rfl,hl,rfl⟩
theorem gR.t{H:Hp}{a b:Addr}{kvs:List (List Key×V)}{k:List Key}{v:V}(e:H a=some (.dT kvs))(eb:H b=some (.tup (k.map kV)))(hl:kvs.length<sizeLine):
   gR H a (.ref b) v (upd H a (.dT (putK kvs k v))):=.inr ⟨kvs,k,b,e,rfl,eb,hl,rfl⟩
section
variable{X:Cx}{pins:List (Addr×Obj)}{σ:St}{H:Hp}{s:Shared}{a:Addr}{y v:V}{u r:Value}{o:Option V}{A:Around}{E:Value→Shared→Prop}
theorem Inv.big(I:Inv X pins σ H s):sysModules<s.heap.objs.size:=by
 have h:mainGlobals<s.heap.objs.size:=(I.mod.glob.keeps I.bk).lt
 exact Nat.lt_trans (by decide) h
theorem nu{h':Heap}{t':Nat}{ob:HO}(I:Inv X pins σ H s)(mu:lF (H a))(hs:Heap.SameBut a s.heap h')(he:∃q,h'.get? a=some q)(new:cf X.prog X.w (upd H a ob) h' a ob):
   Inv X pins σ (upd H a ob) {s with heap:=h',toks:=t'}:=
 I.write (x:=a) (e:=a) mu (.inl rfl) (fun b q hb z=>(hs.2 b hb).trans z) he new
theorem kR{P:Program}{w:World}{H':Hp}{h':Heap}{kvs:List (Key×V)}{vs:List (Key×Value)}(z:kvs.length≤sizeLine)(hd:(a==sysModules)=false)(rel:KV kvs vs)(dd:h'.DictOf (bL P w) a vs):
   cf P w H' h' a (.dK kvs):=⟨z,hd,vs,rel,dd⟩
theorem Dd{H':Hp}{Q:Unit→Shared→Prop}(hu:A.units+1<cLine)(I:Inv X pins σ H s)(g:gR H a y v H')(ry:RelV y u)(rv:RelV v r)(h:∀s',Inv X pins σ H' s'→Q () s'):
   wpAny (model X.prog X.w) A (setItem (.ref a) u r) Q E s:=by
 rcases g with⟨kvs,k,e,ey,l,eH⟩|⟨kvs,k,b,e,ey,eb,l,eH⟩
 · subst ey eH
   obtain⟨z,hd,vs,rel,dd⟩:=pK I.aD e
   have hz:vs.length≤sizeLine:=by rw[←rel.length];exact z
   have hl:(putK kvs k v).length≤sizeLine:=by have:=ox kvs k v;omega
   refine wpAny_setItem_pairs (hsz:=hz) (gj ry) dd fun h' dd' hs=>h _ ?_
   have he:∃q,h'.get? a=some q:=let⟨q,_,_,hq,_⟩:=dd';⟨q,hq⟩
   exact nu I (by rw[e];exact True.intro) hs he (kR hl hd (rel.put k rv) dd')
 · subst ey eH
   cases (show u=Value.ref b from ry)
   obtain⟨z,hd,xs,rel,dd⟩:=xw I.aD e
   have hz:xs.length≤sizeLine:=by rw[←Paired.length rel];exact z
   have hl:(putK kvs k v).length≤sizeLine:=by have:=ox kvs k v;omega
   refine wpAny_setItem_heap (hsz:=hz) (tupleKind_room_in1 hu) (uB I.aD eb) dd fun h' dd' hs=>h _ ?_
   obtain⟨q,es,ep,hq,h2,h3,h4,_,h5⟩:=dd'
   refine nu I (by rw[e];exact True.intro) hs ⟨q,hq⟩ ⟨hl,hd,_,(rel.put k eb rv).keeps fun c ys ec=>?_,q,es,ep,hq,h2,h3,h4,h5⟩
   rw[aC (BB ec e (fun z=>nomatch z))]
   exact ec
end
section
variable{X:Cx}{pins:List (Addr×Obj)}{σ:St}{H:Hp}{s:Shared}{a:Addr}{kvs:List (Key×V)}{k:Key}{u:Value}{A:Around}{E:Value→Shared→Prop}
end
noncomputable def zA(td ty tv:TE):TS:=fun D σ H=>tv σ H fun v H1=>td σ H1 fun x H2=>ty σ H2 fun y H3=>∃a H4,x=.ref a∧gR H3 a y v H4∧D.nx σ H4
section
variable{X:Cx}{o i e value:Expr}{pos pos' tpos:Pos}{td ty tv:TE}
theorem t8(hu:X.A.units+1<cLine)(ho:PE X o td)(hi:PE X i ty)(hv:PE X value tv)(hs:swapsWith value (some (.Subscript o i pos')) pos.line X.env=pure false):
   PS X (.Assign [.Subscript o i pos'] value pos) (zA td ty tv):=by
 intro pins s σ H D I h
 refine wpAny_Assign_Subscript (aE (hv pins s σ H _ I h) fun r s1 ⟨v,H1,I1,rv,q1⟩=>aE (ho pins s1 σ H1 _ I1 q1) fun u s2 ⟨x,H2,I2,rx,q2⟩=>aE (hi pins s2 σ H2 _ I2 q2) fun iv s3 ⟨y,H3,I3,ry,a,H4,ex,g,q3⟩=>?_) hs
 subst ex
 obtain rfl:u=Value.ref a:=rx
 exact Dd hu I3 g ry rv fun s4 I4=>⟨σ,H4,I4,q3⟩
end
theorem vE{P:Program}{w:World}{H:Hp}(h:Heap)(hb:sysModules<h.objs.size):cf P w H (h.push {cls:=.type "dict",data:=.dict #[]}) h.objs.size (.dK []):=
 ⟨Nat.zero_le _,beq_eq_false_iff_ne.mpr (Ne.symm (Nat.ne_of_lt hb)),[],.nil,Heap.DictOf.new h⟩
noncomputable def Ba:TE:=fun _ H Q=>∀p,H p=none→Q (.ref p) (upd H p (.dK []))
section
variable{X:Cx}{pos:Pos}
theorem vH:PE X (.Dict [] [] pos) Ba:=fun pins s σ H Q I h=>
 wpAny_Dict_empty ⟨.ref s.heap.objs.size,_,I.laid (a:=s.heap.objs.size) (o:=.dK []) (t':=s.toks) (fun _ _ q=>Heap.get?_push_of_some _ q) (Nat.le_refl _) (vE s.heap I.big),rfl,h _ (I.aD.fresh (Nat.le_refl _))⟩
end
noncomputable def kN:List (TE×TE)→St→Hp→(List (V×V)→Hp→Prop)→Prop
 |[],_,H,Q=>Q [] H
 |(tk,tv)::r,σ,H,Q=>tk σ H fun x H1=>tv σ H1 fun y H2=>kN r σ H2 fun ps H3=>Q ((x,y)::ps) H3
noncomputable abbrev VV:List (V×V)→List (Value×Value)→Prop:=Paired fun p q=>RelV p.1 q.1∧RelV p.2 q.2
noncomputable def jh(X:Cx)(pos:Pos)(keys:List (Option Expr))(values:List Expr)(trs:List (TE×TE)):Prop:=
 ∀(pins:List (Addr×Obj)) (s:Shared) (σ:St) (H:Hp) (Q:List (V×V)→Hp→Prop),Inv X pins σ H s→kN trs σ H Q→
   wpAny (model X.prog X.w) X.A (evalPairs (pairTrees keys values X.env pos)) (fun vs s'=>∃ps H',Inv X pins σ H' s'∧VV ps vs∧Q ps H') X.xe s
theorem pG{X:Cx}{pos:Pos}:jh X pos [] [] []:=fun pins s σ H Q I h=>pairTrees_nil_walk ⟨[],H,I,.nil,h⟩
theorem mx{X:Cx}{pos:Pos}{k v:Expr}{ks:List (Option Expr)}{vs:List Expr}{tk tv:TE}{trs:List (TE×TE)}(hk:PE X k tk)(hv:PE X v tv)(hr:jh X pos ks vs trs):
   jh X pos (some k::ks) (v::vs) ((tk,tv)::trs):=fun pins s σ H Q I h=>
 pairTrees_cons_walk (aE (hk pins s σ H _ I h) fun u s1 ⟨x,H1,I1,rx,q1⟩=>aE (hv pins s1 σ H1 _ I1 q1) fun w2 s2 ⟨y,H2,I2,ry,q2⟩=>
   aE (hr pins s2 σ H2 _ I2 q2) fun ws s3 ⟨ps,H3,I3,rel,q3⟩=>⟨(x,y)::ps,H3,I3,.cons ⟨rx,ry⟩ rel,q3⟩)
noncomputable def dm(kvs more:List (Key×V)):List (Key×V):=more.foldl (fun acc kv=>putK acc kv.1 kv.2) kvs
theorem KV.merge:∀ {more:List (Key×V)} {rs:List (Key×Value)} {kvs:List (Key×V)} {vs:List (Key×Value)},KV more rs→KV kvs vs→KV (dm kvs more) (merged vs rs):=by
 intro more rs kvs vs r
 unfold KV at r
 induction r generalizing kvs vs with
 |nil=>intro q;exact q
 | @cons p q ps qs h t ih=>
   intro r0
   have e:KV (putK kvs p.1 p.2) (stored vs q.1 q.2):=by
     have:=r0.put p.1 h.2
     rw[←h.1];exact this
   exact ih e
theorem mL:∀(more kvs:List (Key×V)),(dm kvs more).length≤kvs.length+more.length
 |[],kvs=>by show kvs.length≤kvs.length+0;omega
 | p::r,kvs=>by
   have h1:=mL r (putK kvs p.1 p.2)
   have h2:=ox kvs p.1 p.2
   show(dm (putK kvs p.1 p.2) r).length≤_
   rw[List.length_cons];omega
theorem vN{P:Program}{w:World}:∀ {kvs:List (Key×V)} {ws:List (Value×Value)},VV (kvs.map fun kv=>(kV kv.1,kv.2)) ws→∃rs,Carries (bL P w) ws rs∧KV kvs rs
 |[],_,r=>by rw[List.map_nil]at r;cases r;exact⟨[],True.intro,.nil⟩
 | p::kvs,_,r=>by
   rw[List.map_cons]at r
   cases r with
   | @cons a b as bs h t=>
     obtain⟨rs,c,q⟩:=vN (P:=P) (w:=w) t
     obtain⟨b1,b2⟩:=b
     exact⟨(p.1,b2)::rs,⟨gj h.1,rfl,c⟩,.cons ⟨rfl,h.2⟩ q⟩
noncomputable def zc(trs:List (TE×TE)):TE:=fun σ H Q=>∀p,H p=none→kN trs σ (upd H p (.dK [])) fun ps H2=>H2 p=some (.dK [])∧∃kvs:List (Key×V),ps=kvs.map (fun kv=>(kV kv.1,kv.2))∧kvs.length≤15∧Q (.ref p) (upd H2 p (.dK (dm [] kvs)))
theorem qf{X:Cx}{pos:Pos}{keys:List (Option Expr)}{values:List Expr}{trs:List (TE×TE)}(h:jh X pos keys values trs)(hall:keys.all (·.isSome)=true)(hl:keys.length=values.length)(h0:keys≠[])
   (h15:keys.length≤15):PE X (.Dict keys values pos) (zc trs):=by
 intro pins s σ H Q I q
 have hn:=I.aD.fresh (Nat.le_refl s.heap.objs.size)
 have I1:=I.laid (a:=s.heap.objs.size) (o:=.dK []) (h':=s.heap.push {cls:=.type "dict",data:=.dict #[]}) (t':=s.toks) (fun _ _ q=>Heap.get?_push_of_some _ q) (Nat.le_refl _) (vE s.heap I.big)
 refine wpAny_Dict_walk (knd:=bL X.prog X.w) hall hl h0 h15 (aE (h pins _ σ _ _ I1 (q _ hn)) fun ws s2 ⟨ps,H2,I2,rel,e,kvs,ep,lk,q2⟩=>?_)
 subst ep
 obtain⟨rs,c,rk⟩:=vN (P:=X.prog) (w:=X.w) rel
 obtain⟨z,hd,vs0,r0,dd⟩:=pK I2.aD e
 cases r0
 refine⟨rs,c,dd,fun h' dd' hs=>⟨.ref s.heap.objs.size,_,?_,rfl,q2⟩⟩
 have hz:(dm [] kvs).length≤sizeLine:=by
   have h1:=mL kvs []
   rw[List.length_nil]at h1
   rw[sizeLine_eq];omega
 have he:∃q,h'.get? s.heap.objs.size=some q:=let⟨q,_,_,hq,_⟩:=dd';⟨q,hq⟩
 exact nu I2 (by rw[e];exact True.intro) hs he (kR hz hd (rk.merge .nil) dd')
structure M1(X:Cx)(o:Expr)(m:Str)(apos:Pos)(e:Expr)(cpos:Pos):Prop where
 base:attributeBase o m X.env (eval o X.env)=eval o X.env
 CY:((backTo cpos (starEach [e] X.env)).all (fun x=> !x.1)&&(backToKw cpos (keywordEach [] X.env)).all (fun x=>x.1.isSome)
   &&decide (([e]:List Expr).length+([]:List Keyword).length+(if([]:List Keyword).isEmpty then 0 else 1)<30))=true
 line:(apos.endLine==cpos.line)=true
 trees:backTo cpos (starEach [e] X.env)=[(false,eval e X.env)]
section
variable{X:Cx}{pins:List (Addr×Obj)}{σ:St}{H:Hp}{s:Shared}{a:Addr}{y d:V}{u r:Value}{o:Option V}{A:Around}{E:Value→Shared→Prop}
end
section
variable{X:Cx}{o e f:Expr}{apos cpos:Pos}{td ty tx:TE}
end
section
variable{X:Cx}{pins:List (Addr×Obj)}{σ:St}{H:Hp}{s:Shared}{a:Addr}{kvs:List (Key×V)}{A:Around}{E:Value→Shared→Prop}
end
section
variable{X:Cx}{pins:List (Addr×Obj)}{σ:St}{H:Hp}{s:Shared}{a:Addr}{y:V}{u:Value}{A:Around}{E:Value→Shared→Prop}
end
end L2
namespace uO
open PySem PySem.W PySem.Calls PyProof.Rows
theorem Dc{P:Params}{h:Heap}:∀(ns:List Int) (vs:List Value),WellAll P h vs (ns.map WData.int)→IntsAre vs ns:=by
 intro ns
 induction ns with
 | nil=>
   intro vs w
   rw[List.map_nil]at w
   cases w
   exact .nil
 | cons n ns ih=>
   intro vs w
   rw[List.map_cons]at w
   cases w with
   | cons a b=>
     cases a
     exact .cons _ _ (ih _ b)
theorem zb{l:OpenLaw}{n:Nat}(hn:l.most=some n){P:Params}{h:Heap}{args:List WData}{vals:List Value}
   (hpre:l.row.toRowW.claim.pre args=true) (hwl:WellAll P h vals args):
   ∃a vs ns,vals=[Value.ref a]∧args=[WData.list (ns.map WData.int)]∧h.get? a=some {cls:=.type "list",data:=.seq vs.toArray}∧IntsAre vs ns∧ns.length≤n:=by
 have hsh:WShape.hasAll [] args [.list .int]=true:=(pre_splitW hpre).1
 have hc:l.pre.holds [] {args:=args}=true:=(pre_splitW hpre).2
 obtain⟨d,r,rfl,h1,h2⟩:=hasAllW_cons hsh
 obtain rfl:=hasAllW_nil h2
 obtain⟨xs,rfl,h3⟩:=hasW_list h1
 obtain⟨ns,rfl⟩:=items_int h3
 have hlen:ns.length≤n:=by
   unfold OpenLaw.pre at hc
   have h4:(WTm.not (.lt (.lit (.int (n:Int))) (.len (.arg 0)))).holds [] {args:=[.list (ns.map .int)]}=true:=by
     have h4:=(holds_andW hc).1
     rw[hn]at h4
     exact h4
   have h5:=condW_of h4 (w_not (w_lt w_lit (w_len_list (w_arg rfl))))
   rw[List.length_map]at h5
   refine Nat.le_of_not_lt fun q=>?_
   have q':(n:Int)<((ns.length:Nat):Int):=by omega
   first
     |(rw[decide_eq_true q']at h5;exact absurd h5 (by decide))
     |(simp at h5;omega)
 cases hwl with
 | cons w1 w2=>
   cases w2
   cases w1 with
   |list ho hall=>exact⟨_,_,ns,rfl,rfl,ho,Dc ns _ hall,hlen⟩
theorem zB(l:OpenLaw)(args:List WData):l.row.toRowW.claim.post args (.bool true) args=true:=
 postW_of (r:=l.row.toRowW) (X:=(true==true))
   (show WShape.has [] (.bool true) .bool=true by first|rfl|decide|simp[WShape.has,WShape.arms,WShape.armsAll])
   (show(WTm.eq .res (.lit (.bool true))).value [] {args:=args,res:=some (.bool true),after:=args}=some (.bool (true==true))from w_eq_bool (w_res rfl) w_lit) rfl
theorem B1{l:OpenLaw}{n:Nat}{q:Program}{loose:List Str}{XP:(Str→Option Value)→Heap→Prop}{YP:World→Heap→Prop}{d:DefRec}
   (hn:l.most=some n) (hdf:d.params.defaults=[])
   (call:∀(w:World) (b8 s₁:Shared) (mg mb:Str→Option Value) (fa:Addr) (o:Obj) (pm cd doc:Value) (a:Addr) (vs:List Value) (ns:List Int),
     Ground q loose [] XP w b8 mg mb s₁.heap→YP w s₁.heap→
     s₁.heap.get? fa=some o→o.data=.func (docDef d.name d.params d.body d.scope pm cd doc)→s₁.heap.CodeRec cd d.name→mg d.name=some (.ref fa)→
     s₁.heap.get? a=some {cls:=.type "list",data:=.seq vs.toArray}→IntsAre vs ns→ns.length≤n→s₁.gens= #[]→
     codeAny (model l.prog w) callerA (.call (.ref fa) ⟨[.ref a],[]⟩) (fun r s'=>r=.ok (.ret (.bool true))∧OldK s₁.heap s'.heap∧s'.os=s₁.os∧AllBare s'.gens) s₁):
   WalkO q loose XP YP l.row.toRowW d [] (fun f vs=>PySem.call f vs):=by
 intro w b8 s₁ mg mb G Y fa o pm cd doc dV kV ho hd hcd hD hmg hg args vals as hpre hlay hrd hwl hlo
 obtain rfl:dV=.none:=Dflts.none hD hdf
 obtain rfl:kV=.none:=Dflts.noKw hD
 obtain⟨a,vs,ns,rfl,rfl,hobj,hints,hlen⟩:=zb hn hpre hwl
 refine enter_call (codeAny_mono (call w b8 s₁ mg mb fa o pm cd doc a vs ns G Y ho (fd_plain hd) hcd hmg hobj hints hlen hg) fun r s' hq=>?_)
 obtain⟨rfl,h2,h3,h4⟩:=hq
 exact⟨.inl ⟨.bool true,.bool true,[],rfl,fun _=>rfl,.bool true,zB l _,fun _=>⟨List.Pairwise.nil,fun _ hm=>(nomatch hm)⟩⟩,h2,h3,h4⟩
section
variable{prog:Program}{w:World}{A:Around}{E:Value→Shared→Prop}{s:Shared}{K:Frag}
end
end uO
namespace L2
open PySem PySem.Spec PyProof.Rows
theorem rV:∀ {vs:List Value} {ns:List Int},IntsAre vs ns→Vals (ns.map V.int) vs
 |_,_,.nil=>.nil
 |_,_,.cons n t h=>.cons ⟨t,rfl⟩ (rV h)
noncomputable def pS(H:Hp):Prop:=∀b,H b=none∨∃o xs,H b=some (.frz o (.lst xs))
theorem Aj{P:Program}{w:World}{K:PySem.W.Frag}{mg mb:Str→Option Value}{CX:d9}{k:Nat}{fa a:Addr}{fd:FuncData}{x:Str}{sp:Sp}{s₁:Shared}{vs:List Value}{ns:List Int}
   (KX:K.In s₁.heap) (hns:s₁.heap.Ns mainGlobals mg) (hb:s₁.heap.Ns builtinsNs mb) (hbb:∀x:Str,x≠"__name__"→mb x=bootBuiltins x) (hlim:s₁.heap.NoLimit) (hg:s₁.gens= #[])
   (ha:s₁.heap.get? a=some {cls:=.type "list",data:=.seq vs.toArray}) (hi:IntsAre vs ns) (hl:ns.length≤sizeLine) (hr:bE k callerA)
   (F:∀base:Heap,K.In base→base.Ns mainGlobals mg→cO P w K mg base CX k fa fd [x] sp) (hbind:∀(s:Shared) (u:Value),BindsTo s fd ⟨[u],[]⟩ [(x,u)])
   (hsp:∀H:Hp,pS H→aY K H a (ns.map V.int)→sp [.ref a] H (fun v _=>v=.bl true) fun _ _ _=>False)
   (hCX:∀H e s',CX [] H s₁ (fun _ _ _=>False) e s'→False):
   codeAny (model P w) callerA (.call (.ref fa) ⟨[.ref a],[]⟩) (fun r s'=>r=.ok (.ret (.bool true))∧OldK s₁.heap s'.heap∧s'.os=s₁.os∧AllBare s'.gens) s₁:=by
 have rv:=rV hi
 have lenV:=hi.length
 have core:∀H:Hp,pS H→aY K H a (ns.map V.int)→bp P w H s₁.heap→(∀b,H b≠none→b=a)→(H a≠none→K.lookup a=none)→
     codeAny (model P w) callerA (.call (.ref fa) ⟨[.ref a],[]⟩) (fun r s'=>r=.ok (.ret (.bool true))∧OldK s₁.heap s'.heap∧s'.os=s₁.os∧AllBare s'.gens) s₁:=by
   intro H hO hS aD hA hK
   have base_of:∀ {b:Addr} {o:Obj},s₁.heap.get? b=some o→H b=none→(gC s₁.heap H).get? b=some o:=fun e n=>Cv e n
   have noA:∀ {b:Addr} {o:Obj} {es:Array DictEntry} {ep:Nat},s₁.heap.get? b=some o→o.data=.dict es ep→H b=none:=fun {b o es ep} e d=>by
     cases q:H b with
     |none=>rfl
     | some u=>
       have e':b=a:=hA b (by rw[q];simp)
       subst e'
       rw[ha]at e;cases e
       have d':Data.seq vs.toArray _=Data.dict es ep:=d
       cases d'
   have nsK:∀ {b:Addr} {m:Str→Option Value},s₁.heap.Ns b m→(gC s₁.heap H).Ns b m:=fun {b m} ⟨o,es,ep,e,d,r⟩=>⟨o,es,ep,base_of e (noA e d),d,r⟩
   have hKb:K.In (gC s₁.heap H):=fun b o e=>base_of (KX b o e) (by
     cases q:H b with
     |none=>rfl
     | some u=>
       have e':b=a:=hA b (by rw[q];simp)
       subst e'
       rw[hK (by rw[q];simp)]at e;cases e)
   have hM:Mod K mg (gC s₁.heap H):=⟨hKb,nsK hns,⟨mb,nsK hb,hbb⟩,let⟨mc,h1,h2⟩:=hlim;⟨mc,nsK h1,h2⟩⟩
   have e0:iT P w K mg (gC s₁.heap H) callerA [] s₁ H:=⟨rfl,hM,fun b o e=>EK e,Nat.le_of_eq (yN _ _),trivial,fun b hb=>absurd (show b∈([]:List Addr)from hb) (by simp),aD,.of_eq hg⟩
   refine codeAny_mono ((F _ hKb (nsK hns)).run callerA [] s₁ H ⟨[.ref a],[]⟩ [.ref a] [.ref a] _ _ hr e0 (hbind s₁ (.ref a)) (.cons rfl .nil) (hsp H hO hS)) fun r s' h=>?_
   cases r with
   |error e=>exact(hCX H e s' h).elim
   | ok fl=>
     cases fl with
     |next=>exact False.elim h
     |brk=>exact False.elim h
     |cont=>exact False.elim h
     | ret u=>
       obtain⟨v,H',os,bare,un,hok',r',q⟩:=h
       have q':v=.bl true:=q
       subst q'
       obtain rfl:u=Value.bool true:=r'
       refine⟨rfl,OldK.of_keep fun b o e=>?_,os,bare⟩
       cases q:H b with
       |none=>exact un.keep b o e q (by intro z;exact absurd (show b∈([]:List Addr)from z) (by simp)) (by simp)
       | some u=>
         rcases hO b with z|⟨ob,xs,z⟩
         ·rw[q]at z;cases z
         · have z2:=un.dw b ob _ z
           obtain⟨e1,_⟩:=aD b _ z
           obtain⟨e2,_⟩:=hok' b _ z2
           rw[e]at e1;cases e1
           exact e2
 cases hk:K.lookup a with
 | some o=>
   have e:=KX a o hk
   rw[ha]at e
   cases e
   refine core (fun _=>none) (fun _=>.inl rfl) (.inr ⟨_,vs.toArray,_,hk,rfl,rfl,rfl,by rw[List.size_toArray,lenV];exact hl,by simpa using rv⟩) (fun b u z=>by have z':(none:Option HO)=some u:=z;cases z') (fun b z=>absurd rfl z) fun z=>absurd rfl z
 | none=>
   refine core (fun b=>if b=a then some (.frz {cls:=.type "list",data:=.seq vs.toArray} (.lst (ns.map V.int)))else none) (fun b=>?_) (.inl (.inr ⟨{cls:=.type "list",data:=.seq vs.toArray},if_pos rfl⟩)) (fun b u z=>?_) (fun b z=>?_) fun _=>hk
   · by_cases hb:b=a
     ·exact .inr ⟨_,_,if_pos hb⟩
     ·exact .inl (if_neg hb)
   · by_cases hb:b=a
     · have z':=(if_pos hb).symm.trans z
       cases z'
       subst hb
       exact⟨ha,by rw[List.length_map];exact hl,vs,_,rv,ha⟩
     · have z':=(if_neg hb).symm.trans z
       cases z'
   · by_cases hb:b=a
     ·exact hb
     ·exact absurd (if_neg hb) z
end L2
namespace L2
open PySem PySem.Spec PyProof.Rows
noncomputable abbrev EV{K:PySem.W.Frag}{h:Heap}(_:K.In h):PySem.W.Frag:=K
theorem yO{l:PySem.W.OpenLaw}{n k:Nat}{q:Program}{loose:List Str}{XP:(Str→Option Value)→Heap→Prop}{YP:World→Heap→Prop}{d:DefRec}{K:Params→PySem.W.Frag}{CX:World→d9}{sp:World→Sp}{x:Str}
   (hn:l.most=some n) (hn2:n≤sizeLine) (hdf:d.params.defaults=[]) (hr:bE k callerA)
   (hY:∀(w:World) (h:Heap),YP w h→(K w.params).In h)
   (F:∀(w:World) (mg:Str→Option Value) (fa:Addr) (h:Heap),(K w.params).In h→h.Ns mainGlobals mg→mg d.name=some (.ref fa)→
     ∃fd:FuncData,(∀(s:Shared) (u:Value),BindsTo s fd ⟨[u],[]⟩ [(x,u)])∧
       ∀base:Heap,(K w.params).In base→base.Ns mainGlobals mg→cO l.prog w (K w.params) mg base (CX w) k fa fd [x] (sp w))
   (hsp:∀(w:World) (H:Hp) (a:Addr) (ns:List Int),ns.length≤n→pS H→aY (K w.params) H a (ns.map V.int)→sp w [.ref a] H (fun v _=>v=.bl true) fun _ _ _=>False)
   (hCX:∀(w:World) (H:Hp) (s:Shared) (e:Value) (s':Shared),CX w [] H s (fun _ _ _=>False) e s'→False):
   PySem.W.WalkO q loose XP YP l.row.toRowW d [] (fun f vs=>PySem.call f vs):=by
 refine uO.B1 hn hdf fun w b8 s₁ mg mb fa o pm cd doc a vs ns G Y ho hd hcd hmg hobj hints hlen hg=>?_
 have KX:=hY w _ Y
 obtain⟨fd,hb,hF⟩:=F w mg fa _ KX G.T.g hmg
 exact Aj KX G.T.g G.T.b G.T.builtins G.T.nolimit hg hobj hints (Nat.le_trans hlen hn2) hr hF hb (fun H hO hS=>hsp w H a ns hlen hO hS) fun H e s'=>hCX w H s₁ e s'
end L2
namespace L2
open PySem PySem.Spec PyProof.Rows
noncomputable def bV(s:Stmt):Arguments:=match s with
 |.FunctionDef _ a _ _ _ _ _ _ _ _=>a
 |_=>{posonlyargs:=[],args:=[],vararg:=none,kwonlyargs:=[],kw_defaults:=[],kwarg:=none,defaults:=[]}
noncomputable def bI(s:Stmt):List Stmt:=match s with
 |.FunctionDef _ _ b _ _ _ _ _ _ _=>b
 |_=>[]
noncomputable def aI(s:Stmt):Scope:=match s with
 |.FunctionDef _ _ _ _ _ _ sc _ _ _=>sc
 |_=>{kind:=.function,names:=[],isGenerator:=false,isCoroutine:=false}
noncomputable abbrev eE:d9:=fun _ _ _ _ _ _=>False
noncomputable abbrev E0:XK:=fun _ _ _=>False
theorem nL{X:Cx}:Passes eE X E0:=fun _ _ _ _ _ _ _ h=>h.elim
structure bB(K:PySem.W.Frag)(x qual:Str)(st:Stmt)(f:Addr)(fd:FuncData):Prop where
 ex:∃(oc:Value) (od:Option Addr) (kV doc pm:Value) (an:Option Addr) (cdv ct:Value) (osl:Array (Option Value)),
   fd=PySem.W.fnOf x qual (bV st) (bI st) (aI st) .none kV doc pm an cdv ct∧K.lookup f=some ⟨oc,od,.func fd,osl⟩∧PySem.W.codeIn K cdv qual=true
 kp:PySem.W.keepIn K (.ref f)=true
section
variable{P:Program}{w:World}{K:PySem.W.Frag}{mg:Str→Option Value}{base:Heap}
theorem bB.ok{x qual:Str}{st:Stmt}{f:Addr}{fd:FuncData}{N ps:List Str}{k:Nat}{sp:Sp}(F:bB K x qual st f fd)(S:bS N ps (aI st))(len:∀vs H Q E,sp vs H Q E→vs.length=ps.length)
   (hbody:∀(cdv:Value) (A:Around) (outer:List Env) (s:Shared) (H:Hp) (vs:List V) (Q:VK) (E:XK),bE k (A.deeper (envOfC qual (aI st) s.heap.objs.size f cdv))→sp vs H Q E→
     ∃t,bT (gb eE P w K mg base N qual (aI st) f cdv A outer s H E).fE (bI st) t∧t {nx:=fun _ H'=>Q .aA H',rt:=Q} (start N vs) H):cO P w K mg base eE (k+1) f fd ps sp:=by
 obtain⟨oc,od,kV,doc,pm,an,cdv,ct,osl,rfl,lk,hcd⟩:=F.ex
 refine Av lk hcd S len fun A outer s H vs Q E hr hsp=>?_
 obtain⟨t,h,q⟩:=hbody cdv A outer s H vs Q E hr hsp
 exact⟨t,h.fE,q⟩
theorem bB.binds{x qual:Str}{st:Stmt}{f:Addr}{fd:FuncData}{ps:List Str}(F:bB K x qual st f fd)
   (h:∀(kV doc pm:Value) (an:Option Addr) (cdv ct:Value) (us:List Value),us.length=ps.length→bindArgs (PySem.W.fnOf x qual (bV st) (bI st) (aI st) .none kV doc pm an cdv ct) ⟨us,[]⟩=pure (ps.zip us)):Binds K fd ps []:=by
 obtain⟨oc,od,kV,doc,pm,an,cdv,ct,osl,rfl,lk,hcd⟩:=F.ex
 exact .all (h kV doc pm an cdv ct)
theorem cx{x qual:Str}{st:Stmt}{f:Addr}{oc:Value}{od an:Option Addr}{osl:Array (Option Value)}{kV doc pm cdv ct:Value}(l:K.lookup f=some ⟨oc,od,.func (PySem.W.fnOf x qual (bV st) (bI st) (aI st) .none kV doc pm an cdv ct),osl⟩)
   (c:PySem.W.codeIn K cdv qual=true) (k:PySem.W.keepIn K (.ref f)=true):bB K x qual st f (PySem.W.fnOf x qual (bV st) (bI st) (aI st) .none kV doc pm an cdv ct):=⟨⟨oc,od,kV,doc,pm,an,cdv,ct,osl,rfl,l,c⟩,k⟩
end
section
variable{X:Cx}
theorem pv(i:Nat){x:Str}{pos:Pos}(hN:X.N[i]? =some x:=by rfl)(hv:cR X.env.scope x:=by first|exact Or.inl rfl|exact Or.inr (Or.inl rfl)|exact Or.inr (Or.inr rfl))(hd:(x==("__debug__":Str))=false:=by decide)
   (hcd:(x==("__classdict__":Str))=false:=by decide):PE X (.Name x pos) (t5 i):=Aa hN hv hd hcd
end
noncomputable def af(H H':Hp):Prop:=∀b o,H b=some o→H' b=some o
theorem af.refl(H:Hp):af H H:=fun _ _ h=>h
theorem af.trans{H H1 H2:Hp}(a:af H H1)(b:af H1 H2):af H H2:=fun c o h=>b c o (a c o h)
theorem af.free{H H':Hp}(e:af H H'){l:Addr}(h:H' l=Option.none):H l=Option.none:=by
 cases q:H l with
 |none=>rfl
 | some o=>
   rw[e l o q]at h
   cases h
theorem af.seq{K:PySem.W.Frag}{H H':Hp}{a:Addr}{xs:List V}(e:af H H')(h:aY K H a xs):aY K H' a xs:=by
 rcases h with(h|⟨o,h⟩)|h
 ·exact .inl (.inl (e _ _ h))
 ·exact .inl (.inr ⟨o,e _ _ h⟩)
 ·exact .inr h
end L2
namespace PL
open PySem PySem.Spec PySem.W
section
variable{prog:Program}{w:World}{A:Around}{E:Value→Shared→Prop}{h:Heap}{g:Array GenState}{d:Drawn}{t:Nat}{os:OsState}{a C:Addr}{o:Obj}{K:PySem.W.Frag}
end
end PL
namespace PL
open PySem
noncomputable abbrev Ky:=Sum Int Str
inductive D where
 |aA|bl (b:Bool)|int (i:Int)|str (x:Str)
 |tup (xs:List D)|lst (xs:List D)|ao (ks:List Ky) (vs:List D)|b6 (c:Str) (ns:List Str) (vs:List D)
 deriving Inhabited
inductive R(α:Type) where
 |ok (a:α)|exc (x:D)|bad
namespace R
noncomputable def bind{α β:Type}:R α→(α→R β)→R β
 |.ok a,f=>f a
 |.exc x,_=>.exc x
 |.bad,_=>.bad
@[simp] theorem aW{α β:Type}(a:α)(f:α→R β):(R.ok a).bind f=f a:=rfl
@[simp] theorem Fx{α β:Type}(x:D)(f:α→R β):(R.exc x).bind f=.exc x:=rfl
@[simp] theorem E1{α β:Type}(f:α→R β):(R.bad:R α).bind f=.bad:=rfl
end R
inductive T where
 |d (x:D)|l (ts:List T)|m (ks:List Ky) (ts:List T)|tu (ts:List T)
 deriving Inhabited
noncomputable def T.own:T→Bool
 |.d _=>false
 |.tu _=>false
 |_=>true
inductive Sp where
 |tr (t:T)|al (i:Nat) (p:List Nat)
 deriving Inhabited
inductive Slot where
 |un|sh (d:D)|ol (xs:List D)|od (ks:List Ky) (vs:List D)|on (x:Sp)
 deriving Inhabited
noncomputable abbrev En:=List Slot
noncomputable abbrev Ex:=En→R D
noncomputable abbrev aG:=En→R Bool
noncomputable abbrev dE:Nat:=16777216
mutual
@[simp] noncomputable def bA:D→D→Bool
 |.aA,.aA=>true
 |.bl a,.bl b=>a==b
 |.bl a,.int b=>(if a then 1 else 0)==b
 |.int a,.bl b=>a==(if b then 1 else 0)
 |.int a,.int b=>a==b
 |.str a,.str b=>decide (a=b)
 |.tup a,.tup b=>iy a b
 |.lst a,.lst b=>iy a b
 |_,_=>false
@[simp] noncomputable def iy:List D→List D→Bool
 |[],[]=>true
 |a::as,b::bs=>bA a b&&iy as bs
 |_,_=>false
end
@[simp] noncomputable def flat:D→Bool
 |.aA=>true
 |.bl _=>true
 |.int _=>true
 |.str _=>true
 |_=>false
mutual
noncomputable def lay:D→Bool
 |.aA=>true
 |.bl _=>true
 |.int _=>true
 |.str x=>x.cps.all (· <0x110000)
 |.tup xs=>dB xs
 |.lst xs=>dB xs
 |_=>false
noncomputable def dB:List D→Bool
 |[]=>true
 |x::xs=>lay x&&dB xs
end
mutual
noncomputable def dep:D→Nat
 |.tup xs=>kb xs+1
 |.lst xs=>kb xs+1
 |_=>0
noncomputable def kb:List D→Nat
 |[]=>0
 |x::xs=>max (dep x) (kb xs)
end
@[simp] noncomputable def qX:D→D→Bool
 |.ao _ _,.str _=>true
 |_,_=>false
@[simp] noncomputable def oy:D→D→Bool
 |.tup _,.tup []=>true
 |_,_=>false
noncomputable def dY(a b:D):Bool:=(flat a&&flat b)||oy a b||(lay a&&lay b&&decide (min (dep a) (dep b)≤60))
noncomputable def cQ(a b:D):Bool:=dY a b||qX a b
theorem m4{a b:D}(ha:flat a=true)(hb:flat b=true):dY a b=true:=by unfold dY;rw[ha,hb];rfl
theorem ie{a b:D}(ha:flat a=true)(hb:flat b=true):cQ a b=true:=by unfold cQ;rw[m4 ha hb];rfl
@[simp] theorem Fi(a b:Bool):dY (.bl a) (.bl b)=true:=m4 rfl rfl
@[simp] theorem Fy(a b:Int):dY (.int a) (.int b)=true:=m4 rfl rfl
@[simp] theorem EU(a b:Str):dY (.str a) (.str b)=true:=m4 rfl rfl
@[simp] theorem FE(a:List Ky)(c:List D)(b:Str):cQ (.ao a c) (.str b)=true:=by unfold cQ;simp
@[simp] theorem ES:cQ .aA .aA=true:=ie rfl rfl
@[simp] theorem FQ(a b:Bool):cQ (.bl a) (.bl b)=true:=ie rfl rfl
@[simp] theorem CF(a b:Int):cQ (.int a) (.int b)=true:=ie rfl rfl
@[simp] theorem Ds(a b:Str):cQ (.str a) (.str b)=true:=ie rfl rfl
@[simp] theorem Fz(b:Str):cQ .aA (.str b)=true:=ie rfl rfl
@[simp] theorem Fj(a:Int)(b:Str):cQ (.int a) (.str b)=true:=ie rfl rfl
@[simp] theorem Fh(a:Bool)(b:Str):cQ (.bl a) (.str b)=true:=ie rfl rfl
@[simp] theorem ET(a:List D):cQ (.tup a) (.tup [])=true:=by unfold cQ dY;simp
@[simp] noncomputable def truth:D→R Bool
 |.aA=>.ok false
 |.bl b=>.ok b
 |.int i=>.ok (i != 0)
 |.str x=>if x.length≤dE then .ok (x.length != 0)else .bad
 |.tup xs=>.ok (!xs.isEmpty)
 |.lst xs=>.ok (!xs.isEmpty)
 |.ao _ _=>.bad
 |.b6 _ _ _=>.bad
noncomputable def cX(n:Nat)(i:Int):Option Nat:=if 0≤i then(if i<n then some i.toNat else none)else if -(n:Int)≤i then some (i+n).toNat else none
noncomputable def cm{α:Type}(xs:List α)(i:Int):Option α:=(cX xs.length i).bind fun j=>xs[j]?
noncomputable def aJ(n d:Nat):Option Int→Nat
 |none=>d
 |some v=>if v<0 then(v+(n:Int)).toNat else min v.toNat n
noncomputable def cut{α:Type}(xs:List α)(lo hi:Option Int):List α:=(xs.drop (aJ xs.length 0 lo)).take (aJ xs.length xs.length hi - aJ xs.length 0 lo)
noncomputable def inR(j:Int):Bool:=decide (-4611686018427387904≤j)&&decide (j<4611686018427387904)
noncomputable def pT(j:Int):Bool:=decide (0<j)&&decide (j<340282366920938463463374607431768211456)
noncomputable def xO(j:Int):Bool:=decide (0≤j)&&decide (j≤1000)
noncomputable def small(i:Int):Bool:=decide (-18446744073709551616<i)&&decide (i<18446744073709551616)
@[simp] noncomputable def cy:D→D→R D
 |.int i,.int j=>.ok (.int (i+j))
 |.str x,.str y=>if x.length+y.length≤dE then .ok (.str (x++y))else .bad
 |.lst x,.lst y=>if x.length+y.length≤dE then .ok (.lst (x++y))else .bad
 |.tup x,.tup y=>if x.isEmpty=false∧x.length+y.length≤dE then .ok (.tup (x++y))else .bad
 |_,_=>.bad
@[simp] noncomputable def E7:D→D→R D
 |.int i,.int j=>.ok (.int (i - j))
 |_,_=>.bad
@[simp] noncomputable def fS:D→D→R D
 |.int i,.int j=>if(small i||small j)=true then .ok (.int (i*j))else .bad
 |_,_=>.bad
@[simp] noncomputable def E8:D→D→R D
 |.lst x,.int j=>if 0≤j∧j<1000∧x.length≤1000 then .ok (.lst (List.replicate j.toNat x).flatten)else .bad
 |_,_=>.bad
@[simp] noncomputable def oDiv:D→D→R D
 |.int i,.int j=>if pT j=true then .ok (.int (i / j))else .bad
 |_,_=>.bad
@[simp] noncomputable def oMod:D→D→R D
 |.int i,.int j=>if 0<j then .ok (.int (i % j))else .bad
 |_,_=>.bad
@[simp] noncomputable def Fn:D→D→R D
 |.int i,.int j=>if(xO j&&small i)=true then .ok (.int (i ^ j.toNat))else .bad
 |_,_=>.bad
@[simp] noncomputable def Fp:D→R D
 |.int i=>.ok (.int (-i))
 |_=>.bad
@[simp] noncomputable def oEq(x y:D):R D:=if cQ x y=true then .ok (.bl (bA x y))else .bad
@[simp] noncomputable def cT(x y:D):R D:=if dY x y=true then .ok (.bl (!bA x y))else .bad
@[simp] noncomputable def oLt:D→D→R D
 |.int i,.int j=>.ok (.bl (decide (i<j)))
 |_,_=>.bad
@[simp] noncomputable def oLe:D→D→R D
 |.int i,.int j=>.ok (.bl (decide (i≤j)))
 |_,_=>.bad
@[simp] noncomputable def g6:D→D→R D
 |.int i,.int j=>.ok (.bl (decide (j<i)))
 |_,_=>.bad
@[simp] noncomputable def FK:D→D→R D
 |.int i,.int j=>.ok (.bl (decide (j≤i)))
 |_,_=>.bad
@[simp] noncomputable def sW:D→Bool
 |.aA=>true
 |_=>false
@[simp] noncomputable def EZ(b:Bool):D→Bool
 |.bl c=>b==c
 |_=>false
@[simp] noncomputable def iA(d:D):R D:=.ok (.bl (sW d))
@[simp] noncomputable def jt(d:D):R D:=.ok (.bl (!sW d))
@[simp] noncomputable def FA(b:Bool):D→R D
 |.bl c=>.ok (.bl (c==b))
 |_=>.bad
@[simp] noncomputable def FI(b:Bool):D→R D
 |.bl c=>.ok (.bl (!(c==b)))
 |_=>.bad
noncomputable def keyOf:D→Option Ky
 |.int i=>some (.inl i)
 |.str x=>some (.inr x)
 |_=>none
noncomputable def bj(k:Ky):List Ky→List D→Option D
 |a::ks,v::vs=>if a=k then some v else bj k ks vs
 |_,_=>none
@[simp] noncomputable def eZ:D→D→R D
 |.str _,.str _=>.bad
 |x,.lst ys=>if flat x=true∧ys.all flat=true then .ok (.bl (ys.any fun y=>bA y x))else .bad
 |x,.tup ys=>if flat x=true∧ys.all flat=true then .ok (.bl (ys.any fun y=>bA y x))else .bad
 | x,.ao ks vs=>match keyOf x with
   |some k=>.ok (.bl (bj k ks vs).isSome)
   |none=>.bad
 |_,_=>.bad
@[simp] noncomputable def jX:D→R D
 |.bl b=>.ok (.bl (!b))
 |_=>.bad
@[simp] noncomputable def jG(x y:D):R D:=(eZ x y).bind jX
@[simp] noncomputable def kr:D→D→R D
 | .lst xs,.int i=>match cm xs i with
   |some v=>.ok v
   |none=>.bad
 | .tup xs,.int i=>match cm xs i with
   |some v=>.ok v
   |none=>.bad
 | .str x,.int i=>if x.length≤dE then match cm x.cps.toList i with
   |some c=>.ok (.str ⟨#[c]⟩)
   |none=>.bad else .bad
 |_,_=>.bad
@[simp] noncomputable def jK:D→D→R D
 | .ao ks vs,k=>match keyOf k with
   | some q=>match bj q ks vs with
     |some v=>.ok v
     |none=>.bad
   |none=>.bad
 |_,_=>.bad
@[simp] noncomputable def au:D→D→R D
 |.lst xs,k=>kr (.lst xs) k
 |.tup xs,k=>kr (.tup xs) k
 |.str x,k=>kr (.str x) k
 |.ao ks vs,k=>jK (.ao ks vs) k
 |_,_=>.bad
@[simp] noncomputable def vR(lo hi:Option Int):D→R D
 |.lst xs=>.ok (.lst (cut xs lo hi))
 |.tup xs=>if aJ xs.length 0 lo=0∧aJ xs.length xs.length hi=xs.length then .bad else .ok (.tup (cut xs lo hi))
 |_=>.bad
@[simp] noncomputable def jT:D→R D
 |.lst xs=>.ok (.int xs.length)
 |.tup xs=>.ok (.int xs.length)
 |.str x=>if x.length≤dE then .ok (.int x.length)else .bad
 |_=>.bad
inductive Ty where
 |int|bool|str|tuple|list|dict
@[simp] noncomputable def bf:Ty→D→R D
 |.int,.int _=>.ok (.bl true)
 |.int,.bl _=>.ok (.bl true)
 |.bool,.bl _=>.ok (.bl true)
 |.str,.str _=>.ok (.bl true)
 |.tuple,.tup _=>.ok (.bl true)
 |.list,.lst _=>.ok (.bl true)
 |.dict,.ao _ _=>.ok (.bl true)
 |_,.b6 _ _ _=>.bad
 |_,_=>.ok (.bl false)
@[simp] noncomputable def FT:D→R D
 |.lst xs=>.ok (.lst xs)
 |.tup xs=>.ok (.lst xs)
 |_=>.bad
@[simp] noncomputable def fF:D→R D
 |.lst xs=>.ok (.tup xs)
 |.tup xs=>.ok (.tup xs)
 |_=>.bad
noncomputable def allB:List D→R D
 |[]=>.ok (.bl true)
 | .bl b::r=>(allB r).bind fun z=>match z with
   |.bl k=>.ok (.bl (b&&k))
   |_=>.bad
 |_=>.bad
@[simp] noncomputable def gY:D→R D
 |.lst xs=>allB xs
 |_=>.bad
@[simp] noncomputable def ng:D→R D
 |.int i=>.ok (.int i)
 |.bl b=>.ok (.int (if b then 1 else 0))
 |_=>.bad
@[simp] noncomputable def ER:D→R D
 |.int i=>if 0≤i∧i<10 ^ 100 then .ok (.str (Str.ofString (toString i)))else .bad
 |_=>.bad
@[simp] noncomputable def FF:D→D→R D
 |.int i,.int j=>.ok (.int (if j<i then j else i))
 |_,_=>.bad
noncomputable def findS(x:List Nat):Nat→List Nat→Option Nat
 |k,[]=>if x=[]then some k else none
 |k,c::r=>if(c::r).take x.length=x then some k else findS x (k+1) r
@[simp] noncomputable def Fm:D→D→R D
 | .str y,.str x=>.ok (.int (match findS x.cps.toList 0 y.cps.toList with
   |some k=>(k:Int)
   |none=> -1))
 |_,_=>.bad
noncomputable def p5(x:D):Nat→List D→R D
 |_,[]=>.bad
 |k,y::r=>if bA y x=true then .ok (.int k)else p5 x (k+1) r
@[simp] noncomputable def FN:D→D→R D
 |.tup ys,x=>if flat x=true∧ys.all flat=true then p5 x 0 ys else .bad
 |.lst ys,x=>if flat x=true∧ys.all flat=true then p5 x 0 ys else .bad
 |_,_=>.bad
noncomputable def strsOf:List D→Option (List Str)
 |[]=>some []
 |.str x::r=>(strsOf r).map (x:: ·)
 |_=>none
@[simp] noncomputable def FC:D→D→R D
 | .str x,.lst ys=>match strsOf ys with
   |some zs=>if(Str.join x zs).length≤dE then .ok (.str (Str.join x zs))else .bad
   |none=>.bad
 |_,_=>.bad
@[simp] noncomputable def ju(e:D):D→D→R D
 | .ao ks vs,k=>match keyOf k with
   |some q=>.ok ((bj q ks vs).getD e)
   |none=>.bad
 |_,_=>.bad
@[simp] noncomputable def aa(i:Nat):Ex:=fun ρ=>match ρ[i]? with
 |some (.sh d)=>.ok d
 |_=>.bad
@[simp] noncomputable def eC(d:D):Ex:=fun _=>.ok d
@[simp] noncomputable def e1(g:D→R D)(a:Ex):Ex:=fun ρ=>(a ρ).bind g
@[simp] noncomputable def e2(g:D→D→R D)(a b:Ex):Ex:=fun ρ=>(a ρ).bind fun x=>(b ρ).bind fun y=>g x y
@[simp] noncomputable def dH(a b:Ex):Ex:=fun ρ=>(a ρ).bind fun x=>match x with
 |.bl true=>b ρ
 |.bl false=>.ok (.bl false)
 |_=>.bad
@[simp] noncomputable def Fe(a b:Ex):Ex:=fun ρ=>(a ρ).bind fun x=>match x with
 |.bl true=>.ok (.bl true)
 |.bl false=>b ρ
 |_=>.bad
@[simp] noncomputable def g8(c:aG)(a b:Ex):Ex:=fun ρ=>(c ρ).bind fun t=>if t=true then a ρ else b ρ
@[simp] noncomputable def eList:List Ex→En→R (List D)
 |[],_=>.ok []
 |e::es,ρ=>(e ρ).bind fun x=>(eList es ρ).bind fun xs=>.ok (x::xs)
@[simp] noncomputable def cA(es:List Ex):Ex:=fun ρ=>(eList es ρ).bind fun xs=>.ok (.tup xs)
@[simp] noncomputable def cz(es:List Ex):Ex:=fun ρ=>(eList es ρ).bind fun xs=>.ok (.lst xs)
@[simp] noncomputable def aN(f:List D→R D)(es:List Ex):Ex:=fun ρ=>(eList es ρ).bind f
@[simp] noncomputable def cU(ks:List Ky)(es:List Ex):Ex:=fun ρ=>(eList es ρ).bind fun xs=>.ok (.ao ks xs)
@[simp] noncomputable def qI:Option Ex→En→R (Option Int)
 |none,_=>.ok none
 | some e,ρ=>(e ρ).bind fun x=>match x with
   |.int i=>.ok (some i)
   |_=>.bad
@[simp] noncomputable def gu(a:Ex)(lo hi:Option Ex):Ex:=fun ρ=>(a ρ).bind fun x=>(qI lo ρ).bind fun l=>(qI hi ρ).bind fun u=>vR l u x
@[simp] noncomputable def tV(a:Ex):aG:=fun ρ=>(a ρ).bind truth
@[simp] noncomputable def gw(a b:aG):aG:=fun ρ=>(a ρ).bind fun t=>if t=true then b ρ else .ok false
@[simp] noncomputable def b7(a b:aG):aG:=fun ρ=>(a ρ).bind fun t=>if t=true then .ok true else b ρ
@[simp] noncomputable def d6(a:aG):aG:=fun ρ=>(a ρ).bind fun t=>.ok (!t)
@[simp] noncomputable def Ft(i:Nat):Ex:=fun ρ=>match ρ[i]? with
 |some (.ol xs)=>.ok (.int xs.length)
 |some (.od ks _)=>.ok (.int ks.length)
 |_=>.bad
@[simp] noncomputable def Fg(i:Nat)(e:Ex):Ex:=fun ρ=>(e ρ).bind fun x=>match ρ[i]? with
 |some (.ol xs)=>au (.lst xs) x
 |some (.od ks vs)=>jK (.ao ks vs) x
 |_=>.bad
@[simp] noncomputable def FR(i:Nat):Ex:=fun ρ=>match ρ[i]? with
 |some (.ol xs)=>.ok (.int xs.length)
 |_=>.bad
noncomputable abbrev br:=En→R (List D)
@[simp] noncomputable def items:D→R (List D)
 |.lst xs=>.ok xs
 |.tup xs=>.ok xs
 |.str x=>.ok (x.cps.toList.map fun c=>.str ⟨#[c]⟩)
 |_=>.bad
@[simp] noncomputable def iN(a:Ex):br:=fun ρ=>(a ρ).bind items
noncomputable def cC(i j:Int):List D:=(List.range (j - i).toNat).map fun(k:Nat)=>.int (i+(k:Int))
@[simp] noncomputable def hW(a:Ex):br:=fun ρ=>(a ρ).bind fun x=>match x with
 |.int j=>if inR j=true then .ok (cC 0 j)else .bad
 |_=>.bad
@[simp] noncomputable def kH(a b:Ex):br:=fun ρ=>(a ρ).bind fun x=>(b ρ).bind fun y=>match x,y with
 |.int i,.int j=>if(inR i&&inR j)=true then .ok (cC i j)else .bad
 |_,_=>.bad
@[simp] noncomputable def fQ:List D→List D→List D
 |x::xs,y::ys=>.tup [x,y]::fQ xs ys
 |_,_=>[]
@[simp] noncomputable def j4(a b:Ex):br:=fun ρ=>(a ρ).bind fun x=>(b ρ).bind fun y=>(items x).bind fun xs=>(items y).bind fun ys=>.ok (fQ xs ys)
@[simp] noncomputable def vk:Nat→List D→List D
 |_,[]=>[]
 |k,x::xs=>.tup [.int k,x]::vk (k+1) xs
@[simp] noncomputable def FL(a:Ex):br:=fun ρ=>(a ρ).bind fun x=>(items x).bind fun xs=>.ok (vk 0 xs)
noncomputable abbrev bo:=D→En→R En
@[simp] noncomputable def aF(i:Nat):bo:=fun d ρ=>.ok (ρ.set i (.sh d))
@[simp] noncomputable def dA:List Nat→List D→En→R En
 |[],[],ρ=>.ok ρ
 |i::is,d::ds,ρ=>dA is ds (ρ.set i (.sh d))
 |_,_,_=>.bad
@[simp] noncomputable def fP(is:List Nat):bo:=fun d ρ=>match d with
 |.tup ds=>dA is ds ρ
 |_=>.bad
@[simp] noncomputable def vh:Option Slot→Slot
 |some (.sh d)=>.sh d
 |_=>.un
@[simp] noncomputable def frees(ρ:En)(fv:List Nat):En:=fv.map fun i=>vh ρ[i]?
noncomputable def fG(tg:bo)(cs:List aG)(el:Ex)(ρ:En):List D→R (List D)
 |[]=>.ok []
 | d::ds=>(tg d ρ).bind fun ρ1=>(kY cs ρ1).bind fun t=>
   if t=true then(el ρ1).bind fun y=>(fG tg cs el ρ ds).bind fun ys=>.ok (y::ys)else fG tg cs el ρ ds
where kY:List aG→En→R Bool
 |[],_=>.ok true
 |c::cs,ρ=>(c ρ).bind fun t=>if t=true then kY cs ρ else .ok false
@[simp] noncomputable def dI(it:br)(n:Nat)(fv:List Nat)(tg:bo)(cs:List aG)(el:Ex):Ex:=fun ρ=>(it ρ).bind fun ds=>
 if ds.length≤dE then(fG tg cs el (List.replicate n .un++frees ρ fv) ds).bind fun ys=>.ok (.lst ys)else .bad
inductive Fl where
 |next (ρ:En)|ret (d:D)|brk (ρ:En)|cont (ρ:En)|fL (d:D)|di (t:T)
noncomputable abbrev Sm:=En→R Fl
@[simp] noncomputable def ba:Sm:=fun ρ=>.ok (.next ρ)
@[simp] noncomputable def tW(a b:Sm):Sm:=fun ρ=>(a ρ).bind fun f=>match f with
 |.next ρ'=>b ρ'
 |f=>.ok f
@[simp] noncomputable def ak:List Sm→Sm
 |[]=>ba
 |a::r=>tW a (ak r)
@[simp] noncomputable def aV(c:aG)(a b:Sm):Sm:=fun ρ=>(c ρ).bind fun t=>if t=true then a ρ else b ρ
@[simp] noncomputable def bg(g:bo)(e:Ex):Sm:=fun ρ=>(e ρ).bind fun d=>(g d ρ).bind fun ρ'=>.ok (.next ρ')
@[simp] noncomputable def aS(e:Ex):Sm:=fun ρ=>(e ρ).bind fun d=>.ok (.ret d)
@[simp] noncomputable def FD:Sm:=fun _=>.ok (.ret .aA)
@[simp] noncomputable def Fc(e:Ex):Sm:=fun ρ=>(e ρ).bind fun _=>.ok (.next ρ)
@[simp] noncomputable def E4:Sm:=fun _=>.bad
@[simp] noncomputable def jJ(i:Nat)(e:Ex):Sm:=fun ρ=>(e ρ).bind fun d=>match d with
 |.lst xs=>.ok (.next (ρ.set i (.ol xs)))
 |_=>.bad
@[simp] noncomputable def jE(i:Nat)(e:Ex):Sm:=fun ρ=>(e ρ).bind fun d=>match d with
 |.ao ks vs=>.ok (.next (ρ.set i (.od ks vs)))
 |_=>.bad
@[simp] noncomputable def eO(i:Nat):Sm:=fun ρ=>match ρ[i]? with
 |some (.ol xs)=>.ok (.next (ρ.set i (.sh (.lst xs))))
 |some (.od ks vs)=>.ok (.next (ρ.set i (.sh (.ao ks vs))))
 |_=>.bad
@[simp] noncomputable def iZ(i:Nat)(e:Ex):Sm:=fun ρ=>(e ρ).bind fun d=>match ρ[i]? with
 |some (.ol xs)=>if xs.length<dE then .ok (.next (ρ.set i (.ol (xs++[d]))))else .bad
 |_=>.bad
@[simp] noncomputable def Fo(i:Nat)(k e:Ex):Sm:=fun ρ=>(e ρ).bind fun d=>(k ρ).bind fun q=>match ρ[i]?,q with
 | some (.ol xs),.int j=>match cX xs.length j with
   |some m=>.ok (.next (ρ.set i (.ol (xs.set m d))))
   |none=>.bad
 |_,_=>.bad
noncomputable def putK(k:Ky)(d:D):List Ky→List D→List Ky×List D
 |a::ks,v::vs=>if a=k then(a::ks,d::vs)else((a::(putK k d ks vs).1),(v::(putK k d ks vs).2))
 |_,_=>([k],[d])
@[simp] noncomputable def EY(i:Nat)(k e:Ex):Sm:=fun ρ=>(e ρ).bind fun d=>(k ρ).bind fun q=>match ρ[i]?,keyOf q with
 |some (.od ks vs),some y=>if ks.length<1000 then .ok (.next (ρ.set i (.od (putK y d ks vs).1 (putK y d ks vs).2)))else .bad
 |_,_=>.bad
noncomputable def forL(tg:bo)(body:Sm):List D→En→R Fl
 |[],ρ=>.ok (.next ρ)
 | d::ds,ρ=>(tg d ρ).bind fun ρ1=>(body ρ1).bind fun f=>match f with
   |.next ρ2=>forL tg body ds ρ2
   |.cont ρ2=>forL tg body ds ρ2
   |.brk ρ2=>.ok (.next ρ2)
   |.ret d=>.ok (.ret d)
   |.fL d=>.ok (.fL d)
   |.di t=>.ok (.di t)
@[simp] noncomputable def gP(it:br)(tg:bo)(body:Sm):Sm:=fun ρ=>(it ρ).bind fun ds=>forL tg body ds ρ
@[simp] noncomputable def fn(n:Nat)(body:Sm):List D→R D:=fun ds=>(body (ds.map .sh++List.replicate (n - ds.length) .un)).bind fun f=>match f with
 |.ret d=>.ok d
 |.next _=>.ok .aA
 |_=>.bad
@[simp] noncomputable def FG(n:Nat)(body:Sm):List D→R D:=fun ds=>(body (ds.map .sh++List.replicate (n - ds.length) .un)).bind fun f=>match f with
 |.fL (.lst xs)=>.ok (.lst xs)
 |_=>.bad
end PL
namespace PL
open PySem PySem.Spec
open L2 (V Hp HO Cx PE PT PW PA PS bT St VK TE TT TA TS TI Inv RelV Vals Rd aY bb upd af Key XK Ends)
structure Md where
 K:PySem.W.Frag
 P:Program
 w:World
noncomputable abbrev aw(X:Cx):Md:=⟨X.K,X.prog,X.w⟩
noncomputable def fJ(M:Md)(H:Hp)(F:Addr→Prop)(a:Addr)(xs:List V):Prop:=
 (¬F a∧Rd H a (.lst xs))∨∃(o:Obj) (its:Array Value) (n:Nat),M.K.lookup a=some o∧o.cls=.type "list"∧o.dict=none∧o.data=.seq its n∧its.size≤sizeLine∧Vals xs its.toList
noncomputable def df(M:Md)(H:Hp)(F:Addr→Prop)(a:Addr)(xs:List V):Prop:=
 (¬F a∧Rd H a (.tup xs))∨∃(o:Obj) (its:Array Value) (n:Nat),M.K.lookup a=some o∧o.cls=.type "tuple"∧o.data=.seq its n∧its.size≤sizeLine∧Vals xs its.toList
noncomputable def cJ(M:Md)(H:Hp)(F:Addr→Prop)(a:Addr)(kvs:List (Key×V)):Prop:=
 (¬F a∧∃ob,H a=some (.frz ob (.dK kvs)))∨∃(o:Obj) (es:Array DictEntry) (ep:Nat) (vs:List (Key×Value)),M.K.lookup a=some o∧o.ExactDict∧o.data=.dict es ep∧KeysOf (L2.bL M.P M.w) es∧Pairs (L2.bL M.P M.w) es.toList vs∧
   (vs.map (·.1)).Nodup∧L2.KV kvs vs∧kvs.length≤sizeLine∧(a==sysModules)=false
theorem fJ.sq{M:Md}{H:Hp}{F:Addr→Prop}{a:Addr}{xs:List V}(h:fJ M H F a xs):aY M.K H a xs:=h.elim (fun h=>.inl h.2) .inr
theorem df.sq{M:Md}{H:Hp}{F:Addr→Prop}{a:Addr}{xs:List V}(h:df M H F a xs):bb M.K H a xs:=h.elim (fun h=>.inl h.2) .inr
noncomputable def Cs(a C:Addr):HO:=.ext fun h=>∃o,h.get? a=some o∧o.cls=.ref C∧∃vs,o.data=.fields vs
mutual
noncomputable def Rep(M:Md)(H:Hp)(F:Addr→Prop):D→V→Prop
 |.aA,v=>v=.aA
 |.bl b,v=>v=.bl b
 |.int i,v=>v=.int i
 |.str x,v=>v=.str x
 |.tup ds,v=>∃a xs,v=.ref a∧df M H F a xs∧ae M H F ds xs
 |.lst ds,v=>∃a xs,v=.ref a∧fJ M H F a xs∧ae M H F ds xs
 |.ao ks ds,v=>∃a xs,v=.ref a∧cJ M H F a (ks.zip xs)∧ks.length=xs.length∧ae M H F ds xs
 |.b6 c ns ds,v=>∃(a:Addr) (_u:Unit),v=.ref a∧¬F a∧((ns=[]∧∃C,H a=some (Cs a C)∧PySem.W.nsIn M.K mainGlobals c=some (some (.ref C)))∨(ns≠[]∧∃o xs,H a=some (.frz o (.tup xs))∧o.dict=none∧ae M H F ds xs))
noncomputable def ae(M:Md)(H:Hp)(F:Addr→Prop):List D→List V→Prop
 |[],xs=>xs=[]
 |d::ds,xs=>∃x r,xs=x::r∧Rep M H F d x∧ae M H F ds r
end
noncomputable def Mv(F:Addr→Prop)(H:Hp)(F':Addr→Prop)(H':Hp):Prop:=∀a o,¬F a→H a=some o→¬F' a∧H' a=some o
theorem Mv.same{F:Addr→Prop}{H H':Hp}(h:af H H'):Mv F H F H':=fun a o n e=>⟨n,h a o e⟩
theorem Mv.trans{F F1 F2:Addr→Prop}{H H1 H2:Hp}(a:Mv F H F1 H1)(b:Mv F1 H1 F2 H2):Mv F H F2 H2:=fun c o n e=>b c o (a c o n e).1 (a c o n e).2
section
variable{M:Md}{H H':Hp}{F F':Addr→Prop}{a:Addr}{xs:List V}
theorem sJ(m:Mv F H F' H'){u:HO}(n:¬F a)(h:Rd H a u):¬F' a∧Rd H' a u:=by
 rcases h with h|⟨o,h⟩
 ·exact⟨(m _ _ n h).1,.inl (m _ _ n h).2⟩
 ·exact⟨(m _ _ n h).1,.inr ⟨o,(m _ _ n h).2⟩⟩
theorem fJ.mv(m:Mv F H F' H')(h:fJ M H F a xs):fJ M H' F' a xs:=by
 rcases h with⟨n,h⟩|h
 ·exact .inl (sJ m n h)
 ·exact .inr h
theorem df.mv(m:Mv F H F' H')(h:df M H F a xs):df M H' F' a xs:=by
 rcases h with⟨n,h⟩|h
 ·exact .inl (sJ m n h)
 ·exact .inr h
theorem cJ.mv{kvs:List (Key×V)}(m:Mv F H F' H')(h:cJ M H F a kvs):cJ M H' F' a kvs:=by
 rcases h with⟨n,ob,h⟩|h
 ·exact .inl ⟨(m _ _ n h).1,ob,(m _ _ n h).2⟩
 ·exact .inr h
mutual
theorem Rep.mv(m:Mv F H F' H'):∀ {d:D} {v:V},Rep M H F d v→Rep M H' F' d v
 |.aA,_,h=>by simp only[Rep]at h ⊢;exact h
 |.bl _,_,h=>by simp only[Rep]at h ⊢;exact h
 |.int _,_,h=>by simp only[Rep]at h ⊢;exact h
 |.str _,_,h=>by simp only[Rep]at h ⊢;exact h
 | .tup ds,_,h=>by
   simp only[Rep]at h ⊢
   obtain⟨a,xs,e,t,r⟩:=h
   exact⟨a,xs,e,t.mv m,ae.mv m r⟩
 | .lst ds,_,h=>by
   simp only[Rep]at h ⊢
   obtain⟨a,xs,e,t,r⟩:=h
   exact⟨a,xs,e,t.mv m,ae.mv m r⟩
 | .ao ks ds,_,h=>by
   simp only[Rep]at h ⊢
   obtain⟨a,xs,e,t,l,r⟩:=h
   exact⟨a,xs,e,t.mv m,l,ae.mv m r⟩
 | .b6 _ _ _,_,h=>by
   simp only[Rep]at h ⊢
   obtain⟨a,_,e,n,h⟩:=h
   rcases h with⟨z,C,q,k⟩|⟨z,o,xs,q,hd,r⟩
   ·exact⟨a,(),e,(m _ _ n q).1,.inl ⟨z,C,(m _ _ n q).2,k⟩⟩
   ·exact⟨a,(),e,(m _ _ n q).1,.inr ⟨z,o,xs,(m _ _ n q).2,hd,ae.mv m r⟩⟩
theorem ae.mv(m:Mv F H F' H'):∀ {ds:List D} {xs:List V},ae M H F ds xs→ae M H' F' ds xs
 |[],_,h=>by simp only[ae]at h ⊢;exact h
 | d::ds,_,h=>by
   simp only[ae]at h ⊢
   obtain⟨x,r,e,h1,h2⟩:=h
   exact⟨x,r,e,Rep.mv m h1,ae.mv m h2⟩
end
theorem ae.length:∀ {ds:List D} {xs:List V},ae M H F ds xs→ds.length=xs.length
 |[],_,h=>by simp only[ae]at h;subst h;rfl
 | d::ds,_,h=>by
   simp only[ae]at h
   obtain⟨x,r,rfl,_,h2⟩:=h
   simp[ae.length h2]
theorem ae.get:∀ {ds:List D} {xs:List V} {i:Nat} {d:D},ae M H F ds xs→ds[i]? =some d→∃x,xs[i]? =some x∧Rep M H F d x
 |[],_,_,_,_,e=>by simp at e
 | d::ds,_,0,_,h,e=>by
   simp only[ae]at h
   obtain⟨x,r,rfl,h1,_⟩:=h
   simp at e;subst e
   exact⟨x,rfl,h1⟩
 | d::ds,_,i+1,_,h,e=>by
   simp only[ae]at h
   obtain⟨x,r,rfl,_,h2⟩:=h
   obtain⟨y,e1,h3⟩:=ae.get h2 (by simpa using e)
   exact⟨y,by simpa using e1,h3⟩
theorem ae.append:∀ {ds es:List D} {xs ys:List V},ae M H F ds xs→ae M H F es ys→ae M H F (ds++es) (xs++ys)
 |[],_,_,_,h,g=>by simp only[ae]at h;subst h;exact g
 | d::ds,_,_,_,h,g=>by
   simp only[ae]at h
   obtain⟨x,r,rfl,h1,h2⟩:=h
   simp only[List.cons_append,ae]
   exact⟨x,_,rfl,h1,ae.append h2 g⟩
theorem ae.take:∀ {ds:List D} {xs:List V} (n:Nat),ae M H F ds xs→ae M H F (ds.take n) (xs.take n)
 |_,_,0,_=>by simp[ae]
 |[],_,n+1,h=>by simp only[ae]at h;subst h;simp[ae]
 | d::ds,_,n+1,h=>by
   simp only[ae]at h
   obtain⟨x,r,rfl,h1,h2⟩:=h
   simp only[List.take_succ_cons,ae]
   exact⟨x,_,rfl,h1,ae.take n h2⟩
theorem ae.drop:∀ {ds:List D} {xs:List V} (n:Nat),ae M H F ds xs→ae M H F (ds.drop n) (xs.drop n)
 |_,_,0,h=>h
 |[],_,n+1,h=>by simp only[ae]at h;subst h;simp[ae]
 | d::ds,_,n+1,h=>by
   simp only[ae]at h
   obtain⟨x,r,rfl,h1,h2⟩:=h
   exact ae.drop n h2
theorem ae.nil:ae M H F [] []:=by simp[ae]
theorem ae.cons{d:D}{x:V}{ds:List D}(h:Rep M H F d x)(t:ae M H F ds xs):ae M H F (d::ds) (x::xs):=by
 simp only[ae];exact⟨_,_,rfl,h,t⟩
theorem ae.set:∀ {ds:List D} {xs:List V} {d:D} {x:V} (i:Nat),Rep M H F d x→ae M H F ds xs→ae M H F (ds.set i d) (xs.set i x)
 |[],_,_,_,_,_,h=>by simp only[ae]at h;subst h;exact ae.nil
 | d::ds,_,_,_,0,g,h=>by
   simp only[ae]at h
   obtain⟨y,r,rfl,_,h2⟩:=h
   exact ae.cons g h2
 | d::ds,_,_,_,i+1,g,h=>by
   simp only[ae]at h
   obtain⟨y,r,rfl,h1,h2⟩:=h
   exact ae.cons h1 (ae.set i g h2)
end
noncomputable def bh(ρ:En)(i:Nat):Prop:=(∃ds,ρ[i]? =some (.ol ds))∨∃ks ds,ρ[i]? =some (.od ks ds)
mutual
noncomputable def ag(M:Md)(H:Hp)(F:Addr→Prop):T→V→List Addr→Prop
 |.d x,v,as=>as=[]∧Rep M H F x v
 |.l ts,v,as=>∃a xs bs,v=.ref a∧as=a::bs∧F a∧H a=some (.lst xs)∧ah M H F ts xs bs
 |.m ks ts,v,as=>∃a xs bs,v=.ref a∧as=a::bs∧F a∧H a=some (.dK (ks.zip xs))∧ks.length=xs.length∧ah M H F ts xs bs
 |.tu ts,v,as=>∃a xs,v=.ref a∧¬F a∧H a=some (.tup xs)∧ah M H F ts xs as
noncomputable def ah(M:Md)(H:Hp)(F:Addr→Prop):List T→List V→List Addr→Prop
 |[],xs,as=>xs=[]∧as=[]
 |t::ts,xs,as=>∃x r bs cs,xs=x::r∧as=bs++cs∧ag M H F t x bs∧ah M H F ts r cs
end
mutual
theorem ag.mv{M:Md}{H H':Hp}{F F':Addr→Prop}(m:Mv F H F' H'):∀ {t:T} {v:V} {as:List Addr},(∀b∈as,∀u,F b→H b=some u→F' b∧H' b=some u)→ag M H F t v as→ag M H' F' t v as
 | .d x,v,as,_,h=>by
   simp only[ag]at h ⊢
   exact⟨h.1,h.2.mv m⟩
 | .l ts,v,as,k,h=>by
   simp only[ag]at h ⊢
   obtain⟨a,xs,bs,e1,rfl,f,e2,r⟩:=h
   obtain⟨f',e'⟩:=k a List.mem_cons_self _ f e2
   exact⟨a,xs,bs,e1,rfl,f',e',ah.mv m (fun b hb=>k b (List.mem_cons_of_mem _ hb)) r⟩
 | .m ks ts,v,as,k,h=>by
   simp only[ag]at h ⊢
   obtain⟨a,xs,bs,e1,rfl,f,e2,l,r⟩:=h
   obtain⟨f',e'⟩:=k a List.mem_cons_self _ f e2
   exact⟨a,xs,bs,e1,rfl,f',e',l,ah.mv m (fun b hb=>k b (List.mem_cons_of_mem _ hb)) r⟩
 | .tu ts,v,as,k,h=>by
   simp only[ag]at h ⊢
   obtain⟨a,xs,e1,f,e2,r⟩:=h
   exact⟨a,xs,e1,(m _ _ f e2).1,(m _ _ f e2).2,ah.mv m k r⟩
theorem ah.mv{M:Md}{H H':Hp}{F F':Addr→Prop}(m:Mv F H F' H'):∀ {ts:List T} {xs:List V} {as:List Addr},(∀b∈as,∀u,F b→H b=some u→F' b∧H' b=some u)→ah M H F ts xs as→ah M H' F' ts xs as
 |[],xs,as,_,h=>by simp only[ah]at h ⊢;exact h
 | t::ts,xs,as,k,h=>by
   simp only[ah]at h ⊢
   obtain⟨x,r,bs,cs,e1,rfl,h1,h2⟩:=h
   exact⟨x,r,bs,cs,e1,rfl,ag.mv m (fun b hb=>k b (List.mem_append_left _ hb)) h1,ah.mv m (fun b hb=>k b (List.mem_append_right _ hb)) h2⟩
end
mutual
theorem ag.det{M:Md}{H H':Hp}{F F':Addr→Prop}(m:∀a xs,¬F a→H a=some (.tup xs)→∀ys,H' a=some (.tup ys)→xs=ys):∀ {t:T} {v:V} {as as':List Addr},ag M H F t v as→ag M H' F' t v as'→(∀b∈as,∀u,F b→H b=some u→H' b=some u)→as=as'
 | .d x,v,as,as',h,h',_=>by
   simp only[ag]at h h'
   rw[h.1,h'.1]
 | .l ts,v,as,as',h,h',k=>by
   simp only[ag]at h h'
   obtain⟨a,xs,bs,rfl,rfl,f,e2,r⟩:=h
   obtain⟨a',xs',bs',e1,rfl,f',e2',r'⟩:=h'
   cases e1
   have e3:=k a List.mem_cons_self _ f e2
   rw[e2']at e3
   cases e3
   rw[ah.det m r r' fun b hb=>k b (List.mem_cons_of_mem _ hb)]
 | .m ks ts,v,as,as',h,h',k=>by
   simp only[ag]at h h'
   obtain⟨a,xs,bs,rfl,rfl,f,e2,l,r⟩:=h
   obtain⟨a',xs',bs',e1,rfl,f',e2',l',r'⟩:=h'
   cases e1
   have e3:=k a List.mem_cons_self _ f e2
   rw[e2']at e3
   have e4:ks.zip xs'=ks.zip xs:=by injection e3 with e3;injection e3
   have e5:xs'=xs:=by
     have h1:=congrArg (List.map Prod.snd) e4
     rw[List.map_snd_zip (by omega),List.map_snd_zip (by omega)]at h1
     exact h1
   subst e5
   rw[ah.det m r r' fun b hb=>k b (List.mem_cons_of_mem _ hb)]
 | .tu ts,v,as,as',h,h',k=>by
   simp only[ag]at h h'
   obtain⟨a,xs,rfl,f,e2,r⟩:=h
   obtain⟨a',xs',e1,f',e2',r'⟩:=h'
   cases e1
   have:=m a xs f e2 xs' e2'
   subst this
   exact ah.det m r r' k
theorem ah.det{M:Md}{H H':Hp}{F F':Addr→Prop}(m:∀a xs,¬F a→H a=some (.tup xs)→∀ys,H' a=some (.tup ys)→xs=ys):∀ {ts:List T} {xs:List V} {as as':List Addr},ah M H F ts xs as→ah M H' F' ts xs as'→(∀b∈as,∀u,F b→H b=some u→H' b=some u)→as=as'
 | [],xs,as,as',h,h',_=>by
   simp only[ah]at h h'
   rw[h.2,h'.2]
 | t::ts,xs,as,as',h,h',k=>by
   simp only[ah]at h h'
   obtain⟨x,r,bs,cs,rfl,rfl,h1,h2⟩:=h
   obtain⟨x',r',bs',cs',e1,rfl,h1',h2'⟩:=h'
   cases e1
   rw[ag.det m h1 h1' fun b hb=>k b (List.mem_append_left _ hb),ah.det m h2 h2' fun b hb=>k b (List.mem_append_right _ hb)]
end
theorem ag.g7{M:Md}{H:Hp}{F F':Addr→Prop}{t:T}{v:V}{as as':List Addr}(h:ag M H F t v as)(h':ag M H F' t v as'):as=as':=
 ag.det (fun a xs _ e ys e'=>by rw[e]at e';injection e' with z;injection z) h h' fun _ _ _ _ hu=>hu
mutual
theorem ag.fs{M:Md}{H:Hp}{F:Addr→Prop}:∀ {t:T} {v:V} {as:List Addr},ag M H F t v as→∀b∈as,F b∧∃u,H b=some u
 | .d x,v,as,h,b,hb=>by
   simp only[ag]at h
   rw[h.1]at hb;cases hb
 | .l ts,v,as,h,b,hb=>by
   simp only[ag]at h
   obtain⟨a,xs,bs,rfl,rfl,f,e2,r⟩:=h
   rcases List.mem_cons.mp hb with rfl|hb
   ·exact⟨f,_,e2⟩
   ·exact ah.fs r b hb
 | .m ks ts,v,as,h,b,hb=>by
   simp only[ag]at h
   obtain⟨a,xs,bs,rfl,rfl,f,e2,l,r⟩:=h
   rcases List.mem_cons.mp hb with rfl|hb
   ·exact⟨f,_,e2⟩
   ·exact ah.fs r b hb
 | .tu ts,v,as,h,b,hb=>by
   simp only[ag]at h
   obtain⟨a,xs,rfl,f,e2,r⟩:=h
   exact ah.fs r b hb
theorem ah.fs{M:Md}{H:Hp}{F:Addr→Prop}:∀ {ts:List T} {xs:List V} {as:List Addr},ah M H F ts xs as→∀b∈as,F b∧∃u,H b=some u
 | [],xs,as,h,b,hb=>by
   simp only[ah]at h
   rw[h.2]at hb;cases hb
 | t::ts,xs,as,h,b,hb=>by
   simp only[ah]at h
   obtain⟨x,r,bs,cs,rfl,rfl,h1,h2⟩:=h
   rcases List.mem_append.mp hb with hb|hb
   ·exact ag.fs h1 b hb
   ·exact ah.fs h2 b hb
end
noncomputable def av(H:Hp):T→V→List Nat→T→V→Prop
 |t,v,[],t',w=>t=t'∧v=w
 |.l ts,v,k::p,t',w=>∃a xs t1 x1,v=.ref a∧H a=some (.lst xs)∧ts[k]? =some t1∧xs[k]? =some x1∧av H t1 x1 p t' w
 |.m ks ts,v,k::p,t',w=>∃a xs t1 x1,v=.ref a∧H a=some (.dK (ks.zip xs))∧ks.length=xs.length∧ts[k]? =some t1∧xs[k]? =some x1∧av H t1 x1 p t' w
 |.d _,_,_::_,_,_=>False
 |.tu ts,v,k::p,t',w=>∃a xs t1 x1,v=.ref a∧H a=some (.tup xs)∧ts[k]? =some t1∧xs[k]? =some x1∧av H t1 x1 p t' w
theorem ah.get{M:Md}{H:Hp}{F:Addr→Prop}:∀ {ts:List T} {xs:List V} {as:List Addr} {k:Nat} {t:T} {x:V},ah M H F ts xs as→ts[k]? =some t→xs[k]? =some x→∃bs,ag M H F t x bs∧∀b∈bs,b∈as
 |[],_,_,_,_,_,_,e,_=>by simp at e
 | t::ts,xs,as,0,_,_,h,e,e'=>by
   simp only[ah]at h
   obtain⟨x,r,bs,cs,rfl,rfl,h1,h2⟩:=h
   cases e;cases e'
   exact⟨bs,h1,fun b hb=>List.mem_append_left _ hb⟩
 | t::ts,xs,as,k+1,_,_,h,e,e'=>by
   simp only[ah]at h
   obtain⟨x,r,bs,cs,rfl,rfl,h1,h2⟩:=h
   obtain⟨ds,h3,h4⟩:=ah.get h2 (by simpa using e) (by simpa using e')
   exact⟨ds,h3,fun b hb=>List.mem_append_right _ (h4 b hb)⟩
theorem av.mv{M:Md}{H H':Hp}{F:Addr→Prop}(m:∀a o,¬F a→H a=some o→H' a=some o):∀ {p:List Nat} {t:T} {v:V} {t':T} {w:V} {as:List Addr},ag M H F t v as→(∀b∈as,∀u,F b→H b=some u→H' b=some u)→av H t v p t' w→av H' t v p t' w
 | [],t,v,t',w,as,_,_,h=>by
   cases t<;>exact h
 | k::p,.l ts,v,t',w,as,r,hk,h=>by
   simp only[av]at h ⊢
   simp only[ag]at r
   obtain⟨a,xs,t1,x1,rfl,e,e1,e2,h⟩:=h
   obtain⟨a',xs',bs,ea,rfl,f,e',rs⟩:=r
   cases ea
   have e9:xs=xs':=by rw[e']at e;injection e with e;injection e with e;exact e.symm
   subst e9
   obtain⟨ds,r1,sub⟩:=rs.get e1 e2
   exact⟨a,xs,t1,x1,rfl,hk a List.mem_cons_self _ f e',e1,e2,av.mv m r1 (fun b hb=>hk b (List.mem_cons_of_mem _ (sub b hb))) h⟩
 | k::p,.m ks ts,v,t',w,as,r,hk,h=>by
   simp only[av]at h ⊢
   simp only[ag]at r
   obtain⟨a,xs,t1,x1,rfl,e,l,e1,e2,h⟩:=h
   obtain⟨a',xs',bs,ea,rfl,f,e',l',rs⟩:=r
   cases ea
   rw[e']at e
   have e5:xs'=xs:=by
     have e4:ks.zip xs'=ks.zip xs:=by injection e with e;injection e
     have h1:=congrArg (List.map Prod.snd) e4
     rw[List.map_snd_zip (by omega),List.map_snd_zip (by omega)]at h1
     exact h1
   subst e5
   obtain⟨ds,r1,sub⟩:=rs.get e1 e2
   exact⟨a,xs',t1,x1,rfl,hk a List.mem_cons_self _ f e',l,e1,e2,av.mv m r1 (fun b hb=>hk b (List.mem_cons_of_mem _ (sub b hb))) h⟩
 |k::p,.d _,v,t',w,as,_,_,h=>h.elim
 | k::p,.tu ts,v,t',w,as,r,hk,h=>by
   simp only[av]at h ⊢
   simp only[ag]at r
   obtain⟨a,xs,t1,x1,rfl,e,e1,e2,h⟩:=h
   obtain⟨a',xs',ea,f,e',rs⟩:=r
   cases ea
   have e9:xs=xs':=by rw[e']at e;injection e with e;injection e with e;exact e.symm
   subst e9
   obtain⟨ds,r1,sub⟩:=rs.get e1 e2
   exact⟨a,xs,t1,x1,rfl,m _ _ f e',e1,e2,av.mv m r1 (fun b hb=>hk b (sub b hb)) h⟩
noncomputable def cV(M:Md)(H:Hp)(F:Addr→Prop)(σ:St)(ρ:En)(i:Nat)(b:Addr):Prop:=∃t v as,ρ[i]? =some (.on (.tr t))∧σ[i]? =some (some v)∧ag M H F t v as∧b∈as
noncomputable def DO(M:Md)(H:Hp)(F:Addr→Prop)(σ:St)(ρ:En)(i:Nat):Sp→Prop
 |.tr t=>∃v as,σ[i]? =some (some v)∧ag M H F t v as∧as.Nodup
 |.al k p=>∀t,ρ[k]? =some (.on (.tr t))→∃v w t',σ[k]? =some (some v)∧σ[i]? =some (some w)∧av H t v p t' w∧t'.own=true
noncomputable def eS(M:Md)(H:Hp)(F:Addr→Prop)(σ:St)(ρ:En):Prop:=∀i x,ρ[i]? =some (.on x)→
 DO M H F σ ρ i x∧(∀b,cV M H F σ ρ i b→∀j,bh ρ j→σ[j]? ≠some (some (.ref b)))∧∀t,x=.tr t→∀j t',ρ[j]? =some (.on (.tr t'))→j=i
theorem eS.no{M:Md}{H:Hp}{F:Addr→Prop}{σ:St}{ρ:En}(h:∀(i:Nat) x,ρ[i]? ≠some (.on x)):eS M H F σ ρ:=fun i x e=>absurd e (h i x)
theorem eS.back{M:Md}{H H':Hp}{F F':Addr→Prop}{σ σ':St}{ρ ρ':En}{i:Nat}{b:Addr}(r:eS M H F σ ρ)(hr:∀x,ρ'[i]? =some (.on x)→ρ[i]? =some (.on x))(hs:σ'[i]? =σ[i]?)
   (hk:∀a u,cV M H F σ ρ i a→F a→H a=some u→H' a=some u) (m:∀a o,¬F a→H a=some o→H' a=some o) (h:cV M H' F' σ' ρ' i b):cV M H F σ ρ i b:=by
 obtain⟨t,v,as,e,ev,tr,hb⟩:=h
 have e0:=hr _ e
 obtain⟨⟨v',as',ev',tr',nd⟩,_,_⟩:=r i _ e0
 rw[hs,ev']at ev
 cases ev
 have:=ag.det (fun a xs n e ys e'=>by rw[m a _ n e]at e';injection e' with z;injection z) tr' tr fun c hc u f hu=>hk c u ⟨t,v,as',e0,ev',tr',hc⟩ f hu
 subst this
 exact⟨t,v,as',e0,ev',tr',hb⟩
theorem eS.mv{M:Md}{H H':Hp}{F F':Addr→Prop}{σ σ':St}{ρ ρ':En}(r:eS M H F σ ρ)(m:Mv F H F' H')(hρ:∀(j:Nat) x,ρ'[j]? =some (.on x)→ρ[j]? =some (.on x)∧σ'[j]? =σ[j]?)
   (hk:∀(j:Nat) x b u,ρ'[j]? =some (.on x)→cV M H F σ ρ j b→F b→H b=some u→F' b∧H' b=some u)
   (ho:∀(j:Nat) x b,ρ'[j]? =some (.on x)→cV M H F σ ρ j b→∀k:Nat,bh ρ' k→σ'[k]? ≠some (some (.ref b))):eS M H' F' σ' ρ':=fun i x e=>by
 obtain⟨e0,es⟩:=hρ i x e
 obtain⟨h1,h2,h3⟩:=r i x e0
 refine⟨?_,fun b hb k ok=>?_,fun t ht j t' ej=>h3 t ht j t' (hρ j _ ej).1⟩
 · cases x with
   | tr t=>
     obtain⟨v,as,ev,tr,nd⟩:=h1
     exact⟨v,as,by rw[es];exact ev,tr.mv m fun b hb u f hu=>hk i _ b u e ⟨t,v,as,e0,ev,tr,hb⟩ f hu,nd⟩
   | al k p=>
     intro t et
     obtain⟨ek,ek2⟩:=hρ k _ et
     obtain⟨v,w,t',e1,e2,at',ow⟩:=h1 t ek
     obtain⟨⟨v',as,e1',tr,_⟩,_,_⟩:=r k _ ek
     rw[e1]at e1'
     cases e1'
     exact⟨v,w,t',by rw[ek2];exact e1,by rw[es];exact e2,at'.mv (fun a o n e=>(m a o n e).2) tr fun b hb u f hu=>(hk k _ b u et ⟨t,v,as,ek,e1,tr,hb⟩ f hu).2,ow⟩
 ·refine ho i x b e (r.back (fun y ey=>(hρ i y ey).1) es (fun c u hc f hu=>(hk i x c u e hc f hu).2) (fun a o n e=>(m a o n e).2) hb) k ok
theorem eS.f{M:Md}{H:Hp}{F:Addr→Prop}{σ:St}{ρ:En}{i:Nat}{b:Addr}(h:cV M H F σ ρ i b):F b∧∃u,H b=some u:=by
 obtain⟨t,v,as,e,ev,tr,hb⟩:=h
 exact tr.fs b hb
structure aQ(M:Md)(H:Hp)(F:Addr→Prop)(σ:St)(ρ:En):Prop where
 len:ρ.length=σ.length
 aT:∀a,F a→∃o,H a=some o
 sh:∀(i:Nat) d,ρ[i]? =some (.sh d)→∃v,σ[i]? =some (some v)∧Rep M H F d v
 ol:∀(i:Nat) ds,ρ[i]? =some (.ol ds)→∃a xs,σ[i]? =some (some (.ref a))∧F a∧H a=some (.lst xs)∧ae M H F ds xs
 od:∀(i:Nat) ks ds,ρ[i]? =some (.od ks ds)→∃a xs,σ[i]? =some (some (.ref a))∧F a∧H a=some (.dK (ks.zip xs))∧ks.length=xs.length∧ae M H F ds xs
 bX:∀(i j:Nat) a,bh ρ i→bh ρ j→σ[i]? =some (some (.ref a))→σ[j]? =some (some (.ref a))→i=j
 on:eS M H F σ ρ
section
variable{M:Md}{H H':Hp}{F F':Addr→Prop}{σ:St}{ρ:En}
theorem aQ.same(r:aQ M H F σ ρ)(h:af H H'):aQ M H' F σ ρ where
 len:=r.len
 aT a f:=let⟨o,e⟩:=r.aT a f;⟨o,h _ _ e⟩
 sh i d e:=let⟨v,e1,q⟩:=r.sh i d e;⟨v,e1,q.mv (.same h)⟩
 ol i ds e:=let⟨a,xs,e1,f,e2,q⟩:=r.ol i ds e;⟨a,xs,e1,f,h _ _ e2,q.mv (.same h)⟩
 od i ks ds e:=let⟨a,xs,e1,f,e2,l,q⟩:=r.od i ks ds e;⟨a,xs,e1,f,h _ _ e2,l,q.mv (.same h)⟩
 bX:=r.bX
 on:=r.on.mv (.same h) (fun j xss e=>⟨e,rfl⟩) (fun j xss b u e hb f hu=>⟨f,h _ _ hu⟩) fun j xss b e hb k ok=>(r.on j xss e).2.1 b hb k ok
theorem get_set{α:Type}{l:List α}{i j:Nat}{x y:α}(h:(l.set i x)[j]? =some y):(i=j∧x=y∧i<l.length)∨(i≠j∧l[j]? =some y):=by
 by_cases e:i=j
 · subst e
   rw[List.getElem?_set_self']at h
   cases q:l[i]? with
   |none=>rw[q]at h;cases h
   | some z=>
     rw[q]at h
     obtain⟨hl,_⟩:=List.getElem?_eq_some_iff.mp q
     simp at h
     exact .inl ⟨rfl,h,hl⟩
 · rw[List.getElem?_set_ne e]at h
   exact .inr ⟨e,h⟩
theorem aQ.oq{i:Nat}{d:D}{v:V}(r:aQ M H F σ ρ)(h:Rep M H F d v):aQ M H F (σ.set i (some v)) (ρ.set i (.sh d)) where
 len:=by simp[r.len]
 aT:=r.aT
 sh j e q:=by
   rcases get_set q with⟨rfl,hx,hl⟩|⟨hne,q⟩
   · cases hx
     exact⟨v,by rw[List.getElem?_set_self (by rw[←r.len];exact hl)],h⟩
   · obtain⟨w,e1,g⟩:=r.sh j e q
     exact⟨w,by rw[List.getElem?_set_ne hne];exact e1,g⟩
 ol j e q:=by
   rcases get_set q with⟨rfl,x,hl⟩|⟨hne,q⟩
   ·cases x
   · obtain⟨a,xs,e1,g⟩:=r.ol j e q
     exact⟨a,xs,by rw[List.getElem?_set_ne hne];exact e1,g⟩
 od j k e q:=by
   rcases get_set q with⟨rfl,x,hl⟩|⟨hne,q⟩
   ·cases x
   · obtain⟨a,xs,e1,g⟩:=r.od j k e q
     exact⟨a,xs,by rw[List.getElem?_set_ne hne];exact e1,g⟩
 bX j k a oj ok ej ek:=by
   have nj:i≠j:=by
     rintro rfl
     rcases oj with⟨ds,q⟩|⟨ks,ds,q⟩
     · rcases get_set q with⟨_,x,_⟩|⟨hne,_⟩
       ·cases x
       ·exact hne rfl
     · rcases get_set q with⟨_,x,_⟩|⟨hne,_⟩
       ·cases x
       ·exact hne rfl
   have nk:i≠k:=by
     rintro rfl
     rcases ok with⟨ds,q⟩|⟨ks,ds,q⟩
     · rcases get_set q with⟨_,x,_⟩|⟨hne,_⟩
       ·cases x
       ·exact hne rfl
     · rcases get_set q with⟨_,x,_⟩|⟨hne,_⟩
       ·cases x
       ·exact hne rfl
   rw[List.getElem?_set_ne nj]at ej
   rw[List.getElem?_set_ne nk]at ek
   refine r.bX j k a ?_ ?_ ej ek
   ·unfold bh at oj;simp only[List.getElem?_set_ne nj]at oj;exact oj
   ·unfold bh at ok;simp only[List.getElem?_set_ne nk]at ok;exact ok
 on := r.on.mv (fun _ _ n e=>⟨n,e⟩) (fun j xss e=>by
     rcases get_set e with⟨_,x,_⟩|⟨hne,e⟩
     ·cases x
     ·exact⟨e,List.getElem?_set_ne hne⟩) (fun j xss b u e hb f hu=>⟨f,hu⟩) fun j xss b e hb k ok=>by
   have e0:ρ[j]? =some (.on xss):=by
     rcases get_set e with⟨_,x,_⟩|⟨hne,e⟩
     ·cases x
     ·exact e
   have nk:i≠k:=by
     rintro rfl
     rcases ok with⟨ds,q⟩|⟨ks,ds,q⟩
     · rcases get_set q with⟨_,x,_⟩|⟨hne,_⟩
       ·cases x
       ·exact hne rfl
     · rcases get_set q with⟨_,x,_⟩|⟨hne,_⟩
       ·cases x
       ·exact hne rfl
   rw[List.getElem?_set_ne nk]
   refine(r.on j xss e0).2.1 b hb k ?_
   unfold bh at ok;simp only[List.getElem?_set_ne nk]at ok;exact ok
end
open L2 (aR fi bu R2 EP)
theorem aq{α β:Type}{x:R α}{f:α→R β}{b:β}:x.bind f=.ok b↔∃a,x=.ok a∧f a=.ok b:=by
 cases x with
 |ok a=>simp
 |exc y=>simp
 |bad=>simp
noncomputable def tP(M:Md)(f:Ex):TE:=fun σ H Q=>∃ρ F d,aQ M H F σ ρ∧f ρ=.ok d∧∀v H',af H H'→Rep M H' F d v→Q v H'
noncomputable def sk(M:Md)(c:aG):TT:=fun σ H Q=>∃ρ F b,aQ M H F σ ρ∧c ρ=.ok b∧∀H',af H H'→Q b H'
noncomputable def my(M:Md)(f:En→R (List D)):TA:=fun σ H Q=>∃ρ F ds,aQ M H F σ ρ∧f ρ=.ok ds∧∀vs H',af H H'→ae M H' F ds vs→Q vs H'
noncomputable abbrev JE(X:Cx)(e:Expr)(f:Ex):Prop:=PE X e (tP (aw X) f)
noncomputable abbrev JT(X:Cx)(e:Expr)(c:aG):Prop:=PT X e (sk (aw X) c)
noncomputable abbrev JA(X:Cx)(es:List Expr)(f:En→R (List D)):Prop:=PA X es (my (aw X) f)
theorem bq{X:Cx}{e:Expr}{t t':TE}(h:PE X e t')(hi:∀σ H Q,t σ H Q→t' σ H Q):PE X e t:=fun pins s σ H Q I q=>h pins s σ H Q I (hi σ H Q q)
theorem ll{X:Cx}{e:Expr}{t t':TT}(h:PT X e t')(hi:∀σ H Q,t σ H Q→t' σ H Q):PT X e t:=fun pins s σ H Q I q=>h pins s σ H Q I (hi σ H Q q)
theorem mf{X:Cx}{e:List Expr}{t t':TA}(h:PA X e t')(hi:∀σ H Q,t σ H Q→t' σ H Q):PA X e t:=fun pos pins s σ H Q I q=>h pos pins s σ H Q I (hi σ H Q q)
theorem q9{X:Cx}{e:Expr}{t t':TT}(h:PW X e t')(hi:∀σ H Q,t σ H Q→t' σ H Q):PW X e t:=fun wh pins s σ H Q I q=>h wh pins s σ H Q I (hi σ H Q q)
theorem af.cj{H:Hp}{p:Addr}(h:H p=none)(o:HO):af H (upd H p o):=fun b u q=>by rw[L2.aC (L2.fg q h)];exact q
section
variable{X:Cx}{M:Md}{H H':Hp}{F:Addr→Prop}{σ:St}{ρ:En}{pos:Pos}
theorem xR{i:Nat}{d:D}(h:aa i ρ=.ok d):ρ[i]? =some (.sh d):=by
 unfold aa at h
 split at h
 ·rename_i e;cases h;exact e
 ·cases h
theorem wU(i:Nat){x:Str}(hN:X.N[i]? =some x:=by rfl)(hv:L2.cR X.env.scope x:=by first|exact Or.inl rfl|exact Or.inr (Or.inl rfl)|exact Or.inr (Or.inr rfl))(hd:(x==("__debug__":Str))=false:=by decide)
   (hcd:(x==("__classdict__":Str))=false:=by decide):JE X (.Name x pos) (aa i):=
 bq (L2.pv i hN hv hd hcd) fun σ H Q ⟨ρ,F,d,r,e,q⟩=>by
   obtain⟨v,e1,rv⟩:=r.sh i d (xR e)
   exact⟨v,e1,q v H (af.refl H) rv⟩
theorem yl{i:Int}{j:Nat}:JE X (.Constant (.int i) j pos) (eC (.int i)):=
 bq L2.Bd fun σ H Q ⟨ρ,F,d,r,e,q⟩=>by cases e;exact q _ H (af.refl H) (by simp[Rep])
theorem zQ{b:Bool}{j:Nat}:JE X (.Constant (.bool b) j pos) (eC (.bl b)):=
 bq L2.Dh fun σ H Q ⟨ρ,F,d,r,e,q⟩=>by cases e;exact q _ H (af.refl H) (by simp[Rep])
theorem AX{j:Nat}:JE X (.Constant .none j pos) (eC .aA):=
 bq L2.By fun σ H Q ⟨ρ,F,d,r,e,q⟩=>by cases e;exact q _ H (af.refl H) (by simp[Rep])
theorem Bn{x:Str}{j:Nat}:JE X (.Constant (.str x) j pos) (eC (.str x)):=
 bq L2.xb fun σ H Q ⟨ρ,F,d,r,e,q⟩=>by cases e;exact q _ H (af.refl H) (by simp[Rep])
theorem C2{x:Str}{d:D}{v:V}{u:Value}(hg:L2.Gl X x)(hm:X.mg x=some u)(r:RelV v u)(hr:∀H F,Rep (aw X) H F d v)(hd:(x==("__debug__":Str))=false:=by decide):JE X (.Name x pos) (eC d):=
 bq (L2.zY hg hm r hd) fun σ H Q ⟨ρ,F,d',r,e,q⟩=>by cases e;exact q _ H (af.refl H) (hr H F)
noncomputable def cg(M:Md)(g:D→D→R D)(r:R2):Prop:=∀(F:Addr→Prop) (H:Hp) (x y:V) (a b d:D) (Q:VK),(∀p,F p→∃o,H p=some o)→Rep M H F a x→Rep M H F b y→g a b=.ok d→
 (∀v H',af H H'→Rep M H' F d v→Q v H')→r x y H Q
noncomputable def fw(M:Md)(g:List D→R D)(r:List V→Hp→VK→Prop):Prop:=∀(F:Addr→Prop) (H:Hp) (xs:List V) (as:List D) (d:D) (Q:VK),(∀p,F p→∃o,H p=some o)→ae M H F as xs→g as=.ok d→
 (∀v H',af H H'→Rep M H' F d v→Q v H')→r xs H Q
theorem m6{g:D→D→R D}{r:R2}(hg:cg M g r){fa fb:Ex}{Q:VK}(h:tP M (e2 g fa fb) σ H Q):L2.kZ r (tP M fa) (tP M fb) σ H Q:=by
 obtain⟨ρ,F,d,hr,e,q⟩:=h
 obtain⟨a,ea,e⟩:=aq.mp e
 obtain⟨b,eb,e⟩:=aq.mp e
 refine⟨ρ,F,a,hr,ea,fun x H1 s1 rx=>⟨ρ,F,b,hr.same s1,eb,fun y H2 s2 ry=>?_⟩⟩
 exact hg F H2 x y a b d Q ((hr.same s1).same s2).aT (rx.mv (.same s2)) ry e fun v H3 s3 rv=>q v H3 (s1.trans (s2.trans s3)) rv
theorem z6{op:Operator}{g:D→D→R D}{r:R2}{a b:Expr}{fa fb:Ex}(ho:aR X (binaryOp op) r)(hg:cg (aw X) g r)(ha:JE X a fa)(hb:JE X b fb):JE X (.BinOp a op b pos) (e2 g fa fb):=
 bq (L2.AS ho ha hb) fun σ H Q h=>m6 hg h
theorem BD{op:CmpOp}{g:D→D→R D}{r:R2}{a b:Expr}{fa fb:Ex}(ho:aR X (compareOp op) r)(hg:cg (aw X) g r)(ha:JE X a fa)(hb:JE X b fb)(hm:behindInMarks op b=false):JE X (.Compare a [op] [b] pos) (e2 g fa fb):=
 bq (L2.xg ho ha hb hm) fun σ H Q h=>m6 hg h
theorem bO{i:Int}{v:V}(h:Rep M H F (.int i) v):v=.int i:=by simpa only[Rep] using h
theorem fA{i:Bool}{v:V}(h:Rep M H F (.bl i) v):v=.bl i:=by simpa only[Rep] using h
theorem eA{i:Str}{v:V}(h:Rep M H F (.str i) v):v=.str i:=by simpa only[Rep] using h
theorem mY{v:V}(h:Rep M H F .aA v):v=.aA:=by simpa only[Rep] using h
theorem dM{i:Int}:Rep M H F (.int i) (.int i):=by simp only[Rep]
theorem er{i:Bool}:Rep M H F (.bl i) (.bl i):=by simp only[Rep]
theorem jc{i:Str}:Rep M H F (.str i) (.str i):=by simp only[Rep]
theorem om:Rep M H F .aA .aA:=by simp only[Rep]
theorem uI{i:Int}(h:small i=true): -(2 ^ 64)<i∧i<2 ^ 64:=by
 unfold small at h
 rw[Bool.and_eq_true,decide_eq_true_eq,decide_eq_true_eq]at h
 exact⟨h.1,h.2⟩
theorem qR:cg M oLt (L2.gJ fun i j=>.bl (decide (i<j))):=by
 intro F H x y a b d Q tr ra rb e q
 unfold oLt at e
 split at e
 · cases e
   exact⟨_,_,bO ra,bO rb,q _ _ (af.refl _) er⟩
 ·cases e
theorem yy:cg M g6 (L2.gJ fun i j=>.bl (decide (j<i))):=by
 intro F H x y a b d Q tr ra rb e q
 unfold g6 at e
 split at e
 · cases e
   exact⟨_,_,bO ra,bO rb,q _ _ (af.refl _) er⟩
 ·cases e
theorem b0:cg M oMod (L2.rI (fun _ j=>0<j) fun i j=>.int (i % j)):=by
 intro F H x y a b d Q tr ra rb e q
 unfold oMod at e
 split at e
 · split at e
   · cases e
     exact⟨_,_,bO ra,bO rb,by assumption,q _ _ (af.refl _) dM⟩
   ·cases e
 ·cases e
noncomputable def sr(i j:Int):Prop:=0<j∧j<340282366920938463463374607431768211456
theorem cL : aR X (binaryOp .FloorDiv) (L2.rI sr fun i j => .int (i / j)):=by
 refine L2.pW fun i j t u s Q E c h=>?_
 have e:i / j=i.fdiv j:=(Int.fdiv_eq_ediv_of_nonneg _ (Int.le_of_lt c.1)).symm
 rw[e]at h
 refine PyProof.Rows.floordiv_int (by have:=c.1;omega) h (Or.inl ?_)
 refine PyProof.noPylong_of_log2 ?_
 have h0:j.natAbs≠0:=by have:=c.1;omega
 have h1 : j.natAbs.log2 < 128 := (Nat.log2_lt h0).mpr (by have:=c.2;have h2:(340282366920938463463374607431768211456:Nat)=2 ^ 128:=by decide
                                                           have:=c.1;omega)
 omega
theorem cI:cg M oDiv (L2.rI sr fun i j=>.int (i / j)):=by
 intro F H x y a b d Q tr ra rb e q
 unfold oDiv at e
 split at e
 · split at e
   · rename_i h
     cases e
     unfold pT at h
     rw[Bool.and_eq_true,decide_eq_true_eq,decide_eq_true_eq]at h
     exact⟨_,_,bO ra,bO rb,h,q _ _ (af.refl _) dM⟩
   ·cases e
 ·cases e
end
section
variable{X:Cx}{M:Md}{H H':Hp}{F:Addr→Prop}{σ:L2.St}{ρ:En}{pos:Pos}{pins:List (Addr×Obj)}{s:Shared}
theorem iW{a:Addr}{xs:List V}(I:Inv X pins σ H s)(h:fJ (aw X) H F a xs):∃(its:List Value) (n:Nat) (sl:Array (Option Value)),Vals xs its∧s.heap.get? a=some {cls:=.type "list",data:=.seq its.toArray n,slots:=sl}∧xs.length≤sizeLine:=by
 rcases h with⟨_,h⟩|⟨o,its,n,hk,h1,h2,h3,hz,r⟩
 · obtain⟨z,its,n,r,e⟩:=h.ok I.aD
   exact⟨its,n, #[],r,e,z⟩
 · obtain⟨c,dd,dt,sl⟩:=o
   simp only at h1 h2 h3
   subst h1 h2 h3
   refine⟨its.toList,n,sl,r,by simpa using I.b5 a _ hk,?_⟩
   have e:=r.length
   simp only[Array.length_toList]at e
   omega
theorem CO(l:Addr)(items:Array Value)(n:Nat)(sl:Array (Option Value))(b:Addr)(items2:Array Value)(n2:Nat)(sl2:Array (Option Value))(hc0:items.size+items2.size≤sizeLine):
   Meets (Builtin.«list.__add__» ⟨[.ref l,.ref b],[]⟩) (fun _ R s=>s.heap.get? l=some {cls:=.type "list",dict:=none,data:=.seq items n,slots:=sl}∧s.heap.get? b=some {cls:=.type "list",dict:=none,data:=.seq items2 n2,slots:=sl2}∧R (.ok (.ret (Value.ref s.heap.objs.size))) {s with heap:=s.heap.push {cls:=Value.type "list",data:=Data.seq (items++items2)},toks:=s.toks}):=
 .of_wp fun prog w A R s h=>by obtain⟨hp,g,d,tk,os⟩:=s;obtain⟨hl,hb,h⟩:=h;have f1:=AutoSeq1.idx_int;have f2:=AutoSeq1.sub_tuple_tuple;have f3:=AutoSeq1.sub_list_list;have f4:=AutoSeq1.sub_tuple_list;have f5:=AutoSeq1.sub_list_tuple;wp_walk using AutoSeq1.wpAny_loadPart' hl,AutoSeq1.wpAny_loadPart' hb;exact⟨_,rfl,h⟩
theorem jP{a:Addr}{xs:List V}(I:Inv X pins σ H s)(h:df (aw X) H F a xs):∃its:List Value,Vals xs its∧PyProof.Rows.IsTup s.heap a its.toArray∧xs.length≤sizeLine:=I.tuple h.sq
noncomputable def uy(M:Md):R2:=fun x y H Q=>∃F l b xs zs,x=.ref l∧y=.ref b∧fJ M H F l xs∧fJ M H F b zs∧xs.length+zs.length≤sizeLine∧∀p,H p=none→Q (.ref p) (upd H p (.lst (xs++zs)))
theorem yk:aR X (binaryOp .Add) (uy (aw X)):=by
 intro pins s σ H x y v u Q I rx ry h
 obtain⟨F,l,b,xs,zs,rfl,rfl,hH,hB,hz,q⟩:=h
 cases rx
 cases ry
 obtain⟨its,n,sl,r,e,z⟩:=iW I hH
 obtain⟨its2,n2,sl2,r2,e2,z2⟩:=iW I hB
 have h1:=r.length
 have h2:=r2.length
 refine concat_meets ⟨_,e,rfl⟩ ⟨_,e2,rfl⟩ noFill_list_add seq_list_add PySem.F.slot_list_add PySem.F.entry_list_add (PySem.F.args_list_add_2 _ _) (CO l its.toArray n sl b its2.toArray n2 sl2 (by rw[List.size_toArray,List.size_toArray];omega)) ⟨e,e2,?_⟩
 have ea:its.toArray++its2.toArray=(its++its2).toArray:=by simp
 rw[ea]
 exact⟨.ref _,_,I.za (t':=s.toks) (r.append r2) (by rw[List.length_append];omega),rfl,q _ I.fresh⟩
noncomputable def pB(M:Md):R2:=fun x y H Q=>(L2.gJ fun i j=>.int (i+j)) x y H Q∨(∃i j,x=.str i∧y=.str j∧i.length+j.length≤sizeLine∧Q (.str (i++j)) H)∨uy M x y H Q∨L2.qQ M.K x y H Q
theorem du:aR X (binaryOp .Add) (pB (aw X)):=L2.aR.or L2.du (L2.aR.or L2.AG (L2.aR.or yk L2.DB))
theorem kF{p:Addr}(tr:∀p,F p→∃o,H p=some o)(h:H p=none):¬F p:=fun f=>by obtain⟨o,e⟩:=tr p f;rw[h]at e;cases e
theorem ki{p:Addr}{ds:List D}{xs:List V}(tr:∀p,F p→∃o,H p=some o)(h:H p=none)(r:ae M H F ds xs):Rep M (upd H p (.lst xs)) F (.lst ds) (.ref p):=by
 simp only[Rep]
 exact⟨p,xs,rfl,.inl ⟨kF tr h,.inl L2.bt⟩,r.mv (.same (af.cj h _))⟩
theorem jr{p:Addr}{ds:List D}{xs:List V}(tr:∀p,F p→∃o,H p=some o)(h:H p=none)(r:ae M H F ds xs):Rep M (upd H p (.tup xs)) F (.tup ds) (.ref p):=by
 simp only[Rep]
 exact⟨p,xs,rfl,.inl ⟨kF tr h,.inl L2.bt⟩,r.mv (.same (af.cj h _))⟩
theorem dX:cg M cy (pB M):=by
 intro F H x y a b d Q tr ra rb e q
 unfold cy at e
 split at e
 · cases e
   exact .inl ⟨_,_,bO ra,bO rb,q _ _ (af.refl _) dM⟩
 · split at e
   · cases e
     exact .inr (.inl ⟨_,_,eA ra,eA rb,by assumption,q _ _ (af.refl _) jc⟩)
   ·cases e
 · split at e
   · rename_i hz
     cases e
     simp only[Rep]at ra rb
     obtain⟨l,xs,rfl,h1,r1⟩:=ra
     obtain⟨m,zs,rfl,h2,r2⟩:=rb
     refine .inr (.inr (.inl ⟨F,l,m,xs,zs,rfl,rfl,h1,h2,by rw[←r1.length, ←r2.length];exact hz,fun p hp=>q _ _ (af.cj hp _) (ki tr hp (r1.append r2))⟩))
   ·cases e
 · split at e
   · rename_i hz
     cases e
     simp only[Rep]at ra rb
     obtain⟨l,xs,rfl,h1,r1⟩:=ra
     obtain⟨m,zs,rfl,h2,r2⟩:=rb
     have l1:=r1.length
     have l2:=r2.length
     refine .inr (.inr (.inr ⟨l,m,xs,zs,rfl,rfl,h1.sq,h2.sq,?_,by rw[←l1, ←l2];exact hz.2,fun e0=>?_,fun _ p hp=>q _ _ (af.cj hp _) (jr tr hp (r1.append r2))⟩))
     · intro e0
       subst e0
       have:=hz.1
       rename_i as bs
       cases as with
       |nil=>cases this
       |cons _ _=>simp at l1
     · subst e0
       rename_i as bs
       cases bs with
       |cons _ _=>simp at l2
       | nil=>
         refine q _ _ (af.refl _) ?_
         rw[List.append_nil]
         simp only[Rep]
         exact⟨l,xs,rfl,h1,r1⟩
   ·cases e
 ·cases e
theorem yf{op:BoolOp}{a:Expr}{fa:Ex}(h:JE X a fa):JE X (.BoolOp op [a] pos) fa:=L2.BK h
theorem xn{a b:Expr}{rest:List Expr}{fa fb:Ex}(ha:JE X a fa)(hb:JE X (.BoolOp .And (b::rest) pos) fb):JE X (.BoolOp .And (a::b::rest) pos) (dH fa fb):=
 bq (L2.xx ha hb) fun σ H Q ⟨ρ,F,d,hr,e,q⟩=>by
   obtain⟨a,ea,e⟩:=aq.mp e
   refine⟨ρ,F,a,hr,ea,fun x H1 s1 rx=>?_⟩
   split at e
   ·exact⟨true,fA rx,by rw[if_pos rfl];exact⟨ρ,F,d,hr.same s1,e,fun v H2 s2 rv=>q v H2 (s1.trans s2) rv⟩⟩
   · cases e
     exact⟨false,fA rx,by rw[if_neg (by decide)];exact q _ _ s1 er⟩
   ·cases e
theorem yP{a:D}{x:V}{t:Bool}(r:Rep M H F a x)(e:truth a=.ok t):L2.pL M.K x H t:=by
 cases a with
 |aA=>cases e;cases mY r;rfl
 |bl b=>cases e;cases fA r;rfl
 |int i=>cases e;cases bO r;rfl
 | str z=>
   unfold truth at e
   dsimp only at e
   split at e
   · rename_i hz
     cases e;cases eA r
     refine⟨hz,?_⟩
     rw[Bool.eq_iff_iff]
     simp
   ·cases e
 | tup ds=>
   cases e
   simp only[Rep]at r
   obtain⟨p,xs,rfl,h,rs⟩:=r
   refine .inr (.inl ⟨xs,h.sq,?_⟩)
   have:=rs.length
   cases ds<;>cases xs<;>simp at this ⊢
 | lst ds=>
   cases e
   simp only[Rep]at r
   obtain⟨p,xs,rfl,h,rs⟩:=r
   refine .inl ⟨xs,h.sq,?_⟩
   have:=rs.length
   cases ds<;>cases xs<;>simp at this ⊢
 |ao ks ds=>cases e
 |b6 _ _ _=>cases e
theorem xY{a:Expr}{fa:Ex}(ha:JE X a fa)(he:∀whole,isTrue a X.env whole=(do let v ←whole;standAt a.pos;holding [v] (truthy v)):=by intro _;rfl):JT X a (tV fa):=
 ll (L2.Aw ha he) fun σ H Q ⟨ρ,F,b,hr,e,q⟩=>by
   obtain⟨a,ea,e⟩:=aq.mp e
   exact⟨ρ,F,a,hr,ea,fun x H1 s1 rx=>⟨b,yP rx e,q H1 s1⟩⟩
noncomputable def gN(g:D→D→R D):Prop:=∀a b d,g a b=.ok d→∃k,d=.bl k
theorem BO{op:CmpOp}{g:D→D→R D}{r:R2}{a b:Expr}{fa fb:Ex}(ho:aR X (compareOp op) r)(hg:cg (aw X) g r)(hB:gN g)(ha:JE X a fa)(hb:JE X b fb)(hm:behindInMarks op b=false):JT X (.Compare a [op] [b] pos) (tV (e2 g fa fb)):=
 ll (L2.zI ho ha hb hm) fun σ H Q ⟨ρ,F,t,hr,e,q⟩=>by
   obtain⟨d,ed,e⟩:=aq.mp e
   refine m6 hg ⟨ρ,F,d,hr,ed,fun v H1 s1 rv=>?_⟩
   obtain⟨a,ea,ed⟩:=aq.mp ed
   obtain⟨b,eb,ed⟩:=aq.mp ed
   obtain⟨k,rfl⟩:=hB _ _ _ ed
   cases e
   exact⟨_,fA rv,q H1 s1⟩
theorem Ea{j:Nat}{p2:Pos}{a:Expr}{fa:Ex}(ha:JE X a fa):JT X (.Compare a [.Is] [.Constant .none j p2] pos) (tV (e1 iA fa)):=
 ll (L2.u3 (L2.Cr ha)) fun σ H Q ⟨ρ,F,t,hr,e,q⟩=>by
   obtain⟨d,ed,e⟩:=aq.mp e
   obtain⟨a,ea,ed⟩:=aq.mp ed
   refine⟨ρ,F,a,hr,ea,fun x H1 s1 rx=>⟨t,?_,q H1 s1⟩⟩
   cases ed
   cases e
   cases a<;>simp only[Rep]at rx
   all_goals first
     |(subst rx;rfl)
     |(obtain⟨p,xs,rfl,_⟩:=rx;rfl)
theorem w8{j:Nat}{p2:Pos}{a:Expr}{fa:Ex}(ha:JE X a fa):JT X (.Compare a [.IsNot] [.Constant .none j p2] pos) (tV (e1 jt fa)):=
 ll (L2.u3 (L2.Es ha)) fun σ H Q ⟨ρ,F,t,hr,e,q⟩=>by
   obtain⟨d,ed,e⟩:=aq.mp e
   obtain⟨a,ea,ed⟩:=aq.mp ed
   refine⟨ρ,F,a,hr,ea,fun x H1 s1 rx=>⟨t,?_,q H1 s1⟩⟩
   cases ed
   cases e
   cases a<;>simp only[Rep]at rx
   all_goals first
     |(subst rx;rfl)
     |(obtain⟨p,xs,rfl,_⟩:=rx;rfl)
theorem A2{a:Expr}{c:aG}(ha:JT X a c):JT X (.UnaryOp .Not a pos) (d6 c):=
 ll (L2.zL ha) fun σ H Q ⟨ρ,F,t,hr,e,q⟩=>by
   obtain⟨b,eb,e⟩:=aq.mp e
   cases e
   exact⟨ρ,F,b,hr,eb,fun H1 s1=>q H1 s1⟩
noncomputable abbrev JW(X:Cx)(e:Expr)(c:aG):Prop:=PW X e (sk (aw X) c)
theorem yU{a:Expr}{c:aG}(ha:JT X a c):JW X (.BoolOp .And [a] pos) c:=L2.Cq ha
theorem zq{a:Expr}{c:aG}(ha:JT X a c):JW X (.BoolOp .Or [a] pos) c:=L2.yv ha
theorem xQ{a b:Expr}{rest:List Expr}{c c':aG}(ha:JT X a c)(hb:JW X (.BoolOp .And (b::rest) pos) c'):JW X (.BoolOp .And (a::b::rest) pos) (gw c c'):=
 q9 (L2.DP ha hb) fun σ H Q ⟨ρ,F,t,hr,e,q⟩=>by
   obtain⟨b,eb,e⟩:=aq.mp e
   refine⟨ρ,F,b,hr,eb,fun H1 s1=>?_⟩
   split at e
   ·rename_i h;rw[if_pos h];exact⟨ρ,F,t,hr.same s1,e,fun H2 s2=>q H2 (s1.trans s2)⟩
   ·rename_i h;rw[if_neg h];cases e;exact q H1 s1
theorem BS{a b:Expr}{rest:List Expr}{c c':aG}(ha:JT X a c)(hb:JW X (.BoolOp .Or (b::rest) pos) c'):JW X (.BoolOp .Or (a::b::rest) pos) (b7 c c'):=
 q9 (L2.B8 ha hb) fun σ H Q ⟨ρ,F,t,hr,e,q⟩=>by
   obtain⟨b,eb,e⟩:=aq.mp e
   refine⟨ρ,F,b,hr,eb,fun H1 s1=>?_⟩
   split at e
   ·rename_i h;rw[if_pos h];cases e;exact q H1 s1
   ·rename_i h;rw[if_neg h];exact⟨ρ,F,t,hr.same s1,e,fun H2 s2=>q H2 (s1.trans s2)⟩
theorem AW{e:Expr}{c:aG}(h:JW X e c):JT X e c:=L2.PW.pt h
theorem Cd{a:Expr}{fa:Ex}(ha:JE X a fa):JE X (.UnaryOp .Not a pos) (e1 jX fa):=
 bq (L2.yg ha) fun σ H Q ⟨ρ,F,d,hr,e,q⟩=>by
   obtain⟨a,ea,e⟩:=aq.mp e
   refine⟨ρ,F,a,hr,ea,fun x H1 s1 rx=>?_⟩
   unfold jX at e
   split at e
   ·cases e;exact⟨_,fA rx,q _ _ s1 er⟩
   ·cases e
theorem Bl{c a b:Expr}{fc:aG}{fa fb:Ex}(hc:JT X c fc)(ha:JE X a fa)(hb:JE X b fb):JE X (.IfExp c a b pos) (g8 fc fa fb):=
 bq (L2.wO hc ha hb) fun σ H Q ⟨ρ,F,d,hr,e,q⟩=>by
   obtain⟨t,et,e⟩:=aq.mp e
   refine⟨ρ,F,t,hr,et,fun H1 s1=>?_⟩
   split at e
   ·rename_i h;rw[if_pos h];exact⟨ρ,F,d,hr.same s1,e,fun v H2 s2 rv=>q v H2 (s1.trans s2) rv⟩
   ·rename_i h;rw[if_neg h];exact⟨ρ,F,d,hr.same s1,e,fun v H2 s2 rv=>q v H2 (s1.trans s2) rv⟩
theorem gA:JA X [] (eList []):=mf L2.jv fun σ H Q ⟨ρ,F,ds,hr,e,q⟩=>by cases e;exact q [] H (af.refl H) ae.nil
theorem fH{e:Expr}{es:List Expr}{f:Ex}{fs:List Ex}(ha:JE X e f)(hr:JA X es (eList fs))(hs:starEach (e::es) X.env=(false,eval e X.env)::starEach es X.env:=by rfl):JA X (e::es) (eList (f::fs)):=
 mf (L2.gr ha hr hs) fun σ H Q ⟨ρ,F,ds,hr,e,q⟩=>by
   obtain⟨a,ea,e⟩:=aq.mp e
   obtain⟨as,eas,e⟩:=aq.mp e
   cases e
   exact⟨ρ,F,a,hr,ea,fun x H1 s1 rx=>⟨ρ,F,as,hr.same s1,eas,fun xs H2 s2 rs=>q _ H2 (s1.trans s2) (ae.cons (rx.mv (.same s2)) rs)⟩⟩
theorem ib:∀ {fs:List Ex} {ρ:En} {ds:List D},eList fs ρ=.ok ds→ds.length=fs.length
 |[],_,_,h=>by cases h;rfl
 | f::fs,_,_,h=>by
   obtain⟨a,_,h⟩:=aq.mp h
   obtain⟨as,h2,h⟩:=aq.mp h
   cases h
   simp[ib h2]
theorem xV{es:List Expr}{fs:List Ex}{k:Nat}(h:JA X es (eList fs))(hl:fs.length≤1000:=by decide):JE X (.Tuple es k pos) (cA fs):=
 bq (L2.pJ h) fun σ H Q ⟨ρ,F,d,hr,e,q⟩=>by
   obtain⟨as,ea,e⟩:=aq.mp e
   cases e
   refine⟨ρ,F,as,hr,ea,fun xs H1 s1 rs=>⟨?_,fun p hp=>q _ _ (s1.trans (af.cj hp _)) (jr (hr.same s1).aT hp rs)⟩⟩
   rw[←rs.length,ib ea]
   exact Nat.le_trans hl (by decide)
theorem yh{es:List Expr}{fs:List Ex}(h:JA X es (eList fs))(hl:fs.length≤1000:=by decide):JE X (.List es pos) (cz fs):=
 bq (L2.og h) fun σ H Q ⟨ρ,F,d,hr,e,q⟩=>by
   obtain⟨as,ea,e⟩:=aq.mp e
   cases e
   refine⟨ρ,F,as,hr,ea,fun xs H1 s1 rs=>⟨?_,fun p hp=>q _ _ (s1.trans (af.cj hp _)) (ki (hr.same s1).aT hp rs)⟩⟩
   rw[←rs.length,ib ea]
   exact Nat.le_trans hl (by decide)
theorem qz{pins:List (Addr×Obj)}{s:Shared}{p:Addr}{kvs:List (Key×V)}(I:Inv X pins σ H s)(e:H p=some (.dK kvs)):∃ob,Inv X pins σ (upd H p (.frz ob (.dK kvs))) s:=by
 obtain⟨z,y,vs,r,ob,es,ep,eo,c⟩:=I.aD p _ e
 exact⟨ob,I.write (h':=s.heap) (t':=s.toks) (by rw[e];trivial) (.inl rfl) (fun _ _ _ q=>q) ⟨ob,eo⟩ ⟨eo,z,y,vs,r,ob,es,ep,eo,c⟩⟩
theorem qy{e:Expr}{t t':TE}(h:PE X e t')(hi:∀σ H Q,t σ H Q→t' σ H fun v H'=>∃p kvs,v=.ref p∧H' p=some (.dK kvs)∧∀ob,Q v (upd H' p (.frz ob (.dK kvs)))):PE X e t:=by
 intro pins s σ H Q I q
 refine L2.aE (h pins s σ H _ I (hi σ H Q q)) fun u s1 ⟨x,H1,I1,rx,p,kvs,ex,e1,q1⟩=>?_
 obtain⟨ob,I2⟩:=qz I1 e1
 exact⟨x,_,I2,rx,q1 ob⟩
theorem wZ:JE X (.Dict [] [] pos) (cU [] []):=
 qy L2.vH fun σ H Q ⟨ρ,F,d,hr,e,q⟩=>by
   cases e
   intro p hp
   refine⟨p,[],rfl,L2.bt,fun ob=>?_⟩
   rw[L2.o9]
   refine q _ _ (af.cj hp _) ?_
   simp only[Rep]
   exact⟨p,[],rfl,.inl ⟨kF hr.aT hp,ob,L2.bt⟩,rfl,ae.nil⟩
end
section
variable{X:Cx}{M:Md}{H H':Hp}{F:Addr→Prop}{σ:L2.St}{ρ:En}{pos:Pos}{pins:List (Addr×Obj)}{s:Shared}
theorem rK{α β:Type}{xs:List α}{ys:List β}{i:Int}{x:α}(hl:xs.length=ys.length)(h:cm xs i=some x):∃j y,cX ys.length i=some j∧xs[j]? =some x∧ys[j]? =some y∧cm ys i=some y:=by
 unfold cm at h ⊢
 rw[hl]at h
 cases e:cX ys.length i with
 |none=>rw[e]at h;cases h
 | some j=>
   rw[e]at h
   have hx:xs[j]? =some x:=h
   obtain⟨hj,_⟩:=List.getElem?_eq_some_iff.mp hx
   have hy:j<ys.length:=by omega
   exact⟨j,ys[j],rfl,hx,List.getElem?_eq_getElem hy,by simp[hy]⟩
theorem qG:cg M kr (L2.lI M.K):=by
 intro F H x y a b d Q tr ra rb e q
 unfold kr at e
 split at e
 · split at e
   · rename_i xs i _ v hv
     cases e
     simp only[Rep]at ra
     obtain⟨p,ys,rfl,h,rs⟩:=ra
     obtain⟨j,y,_,h1,h2,h3⟩:=rK rs.length hv
     obtain⟨z,hz,rz⟩:=rs.get h1
     rw[h2]at hz
     cases hz
     exact .inl ⟨p,ys,_,y,rfl,bO rb,h.sq,h3,q _ _ (af.refl _) rz⟩
   ·cases e
 · split at e
   · rename_i xs i _ v hv
     cases e
     simp only[Rep]at ra
     obtain⟨p,ys,rfl,h,rs⟩:=ra
     obtain⟨j,y,_,h1,h2,h3⟩:=rK rs.length hv
     obtain⟨z,hz,rz⟩:=rs.get h1
     rw[h2]at hz
     cases hz
     exact .inr (.inl ⟨p,ys,_,y,rfl,bO rb,h.sq,h3,q _ _ (af.refl _) rz⟩)
   ·cases e
 · split at e
   · split at e
     · rename_i hz _ c hc
       cases e
       exact .inr (.inr ⟨_,_,c,eA ra,bO rb,hz,hc,q _ _ (af.refl _) jc⟩)
     ·cases e
   ·cases e
 ·cases e
theorem nO(n d:Nat)(o:Option Int):HT.aJ n d o=aJ n d o:=by cases o<;>rfl
theorem tZ(xs:List V)(lo hi:Option Int):L2.gi xs lo hi=cut xs lo hi:=by unfold L2.gi cut;simp only[nO]
theorem ae.cut{ds:List D}{xs:List V}(lo hi:Option Int)(r:ae M H F ds xs):ae M H F (cut ds lo hi) (PL.cut xs lo hi):=by
 unfold PL.cut
 rw[r.length]
 exact(r.drop _).take _
noncomputable def Co(M:Md)(f:En→R (Option Int)):L2.TO:=fun σ H Q=>∃ρ F o,aQ M H F σ ρ∧f ρ=.ok o∧∀H',af H H'→Q o H'
noncomputable abbrev JO(X:Cx)(e:Option Expr)(f:Option Ex):Prop:=L2.PO X e (Co (aw X) (qI f))
theorem vX:JO X none none:=fun pins s σ H Q I ⟨ρ,F,o,hr,e,q⟩=>by
 cases e
 exact L2.wu pins s σ H Q I (q H (af.refl H))
theorem BE{e:Expr}{f:Ex}(h:JE X e f):JO X (some e) (some f):=fun pins s σ H Q I ⟨ρ,F,o,hr,e,q⟩=>by
 obtain⟨a,ea,e⟩:=aq.mp e
 refine L2.yR h pins s σ H Q I ⟨ρ,F,a,hr,ea,fun x H1 s1 rx=>?_⟩
 split at e
 ·cases e;exact⟨_,bO rx,q H1 s1⟩
 ·cases e
theorem BF{a:Expr}{lo hi:Option Expr}{fa:Ex}{fl fh:Option Ex}{p2:Pos}(ha:JE X a fa)(hl:JO X lo fl)(hh:JO X hi fh):JE X (.Subscript a (.Slice lo hi none p2) pos) (gu fa fl fh):=
 bq (L2.BR (L2.gL.or L2.A3 L2.EC) ha hl hh) fun σ H Q ⟨ρ,F,d,hr,e,q⟩=>by
   obtain⟨a,ea,e⟩:=aq.mp e
   obtain⟨l,el,e⟩:=aq.mp e
   obtain⟨h,eh,e⟩:=aq.mp e
   refine⟨ρ,F,a,hr,ea,fun x H1 s1 rx=>⟨ρ,F,l,hr.same s1,el,fun H2 s2=>⟨ρ,F,h,(hr.same s1).same s2,eh,fun H3 s3=>?_⟩⟩⟩
   have rx':=rx.mv (.same (s2.trans s3))
   have tr:=(((hr.same s1).same s2).same s3).aT
   have s123:=s1.trans (s2.trans s3)
   unfold vR at e
   split at e
   · cases e
     simp only[Rep]at rx'
     obtain⟨p,xs,rfl,h1,rs⟩:=rx'
     refine .inl ⟨p,xs,rfl,h1.sq,fun b hb=>?_⟩
     rw[tZ]
     exact q _ _ (s123.trans (af.cj hb _)) (ki tr hb (rs.cut _ _))
   · split at e
     ·cases e
     · rename_i hw
       cases e
       simp only[Rep]at rx'
       obtain⟨p,xs,rfl,h1,rs⟩:=rx'
       refine .inr ⟨p,xs,rfl,h1.sq,?_,fun b hb=>?_⟩
       ·rw[nO,nO, ←rs.length];exact hw
       · rw[tZ]
         exact q _ _ (s123.trans (af.cj hb _)) (jr tr hb (rs.cut _ _))
   ·cases e
theorem sL{g:List D→R D}{r:List V→Hp→VK→Prop}(hg:fw M g r){fs:List Ex}{Q:VK}(h:tP M (aN g fs) σ H Q):L2.qo r (my M (eList fs)) σ H Q:=by
 obtain⟨ρ,F,d,hr,e,q⟩:=h
 obtain⟨as,ea,e⟩:=aq.mp e
 exact⟨ρ,F,as,hr,ea,fun xs H1 s1 rs=>hg F H1 xs as d Q (hr.same s1).aT rs e fun v H2 s2 rv=>q v H2 (s1.trans s2) rv⟩
@[simp] noncomputable def g1(g:D→R D):List D→R D
 |[a]=>g a
 |_=>.bad
@[simp] noncomputable def g2(g:D→D→R D):List D→R D
 |[a,b]=>g a b
 |_=>.bad
theorem rA(g:D→R D)(f:Ex):e1 g f=aN (g1 g) [f]:=by
 funext ρ
 show(f ρ).bind g=((f ρ).bind fun x=>R.bind (R.ok []) fun xs=>R.ok (x::xs)).bind (g1 g)
 cases f ρ<;>rfl
theorem ae.one{d:D}{xs:List V}(r:ae M H F [d] xs):∃x,xs=[x]∧Rep M H F d x:=by
 simp only[ae]at r
 obtain⟨x,t,rfl,h,rfl⟩:=r
 exact⟨x,rfl,h⟩
theorem ae.two{d e:D}{xs:List V}(r:ae M H F [d,e] xs):∃x y,xs=[x,y]∧Rep M H F d x∧Rep M H F e y:=by
 simp only[ae]at r
 obtain⟨x,t,rfl,h,y,u,rfl,h2,rfl⟩:=r
 exact⟨x,y,rfl,h,h2⟩
theorem wB{g:D→R D}{r:List V→Hp→VK→Prop}{x:Str}{id:String}{a:Expr}{fa:Ex}{p:Pos}(hc:bu X (.builtin id) r)(hg:fw (aw X) (g1 g) r)(hgl:L2.Gl X x)(hm:X.mg x=none)(hv:bootBuiltins x=some (.builtin id))(ha:JE X a fa)
   (hs:starEach [a] X.env=(false,eval a X.env)::starEach [] X.env:=by rfl) (hn:x≠"__name__":=by decide) (hdb:(x==("__debug__":Str))=false:=by decide):JE X (.Call (.Name x p) [a] [] pos) (e1 g fa):=by
 rw[rA]
 exact bq (L2.oa hc hgl hm hv (fH ha gA hs) hn hdb hs) fun σ H Q h=>sL hg h
theorem zW{g:D→R D}{r:List V→Hp→VK→Prop}{x:Str}{T:String}{a:Expr}{fa:Ex}{p:Pos}(hc:bu X (.type T) r)(hg:fw (aw X) (g1 g) r)(hgl:L2.Gl X x)(hm:X.mg x=none)(hv:bootBuiltins x=some (.type T))(ha:JE X a fa)
   (hs:starEach [a] X.env=(false,eval a X.env)::starEach [] X.env:=by rfl) (hn:x≠"__name__":=by decide) (hdb:(x==("__debug__":Str))=false:=by decide):JE X (.Call (.Name x p) [a] [] pos) (e1 g fa):=by
 rw[rA]
 exact bq (L2.oT hc hgl hm hv (fH ha gA hs) hn hdb hs) fun σ H Q h=>sL hg h
noncomputable def oZ(M:Md):List V→Hp→VK→Prop:=fun xs H Q=>(∃p ys,xs=[.ref p]∧(aY M.K H p ys∨bb M.K H p ys)∧Q (.int ys.length) H)∨(∃z,xs=[.str z]∧z.length≤sizeLine∧Q (.int z.length) H)
theorem oK:bu X (.builtin "len") (oZ (aw X)):=L2.bu.or L2.CW L2.AL
theorem nV:fw M (g1 jT) (oZ M):=by
 intro F H xs as d Q tr rs e q
 unfold g1 at e
 split at e
 · obtain⟨x,rfl,r⟩:=rs.one
   unfold jT at e
   split at e
   · cases e
     simp only[Rep]at r
     obtain⟨p,ys,rfl,h,rs⟩:=r
     exact .inl ⟨p,ys,rfl,.inl h.sq,q _ _ (af.refl _) (by rw[←rs.length];exact dM)⟩
   · cases e
     simp only[Rep]at r
     obtain⟨p,ys,rfl,h,rs⟩:=r
     exact .inl ⟨p,ys,rfl,.inr h.sq,q _ _ (af.refl _) (by rw[←rs.length];exact dM)⟩
   · split at e
     · cases e
       exact .inr ⟨_,by rw[eA r],by assumption,q _ _ (af.refl _) dM⟩
     ·cases e
   ·cases e
 ·cases e
theorem CG:fw M (g1 ng) (fun xs H Q=>(∃i,xs=[.int i]∧Q (.int i) H)∨∃k,xs=[.bl k]∧Q (.int (if k then 1 else 0)) H):=by
 intro F H xs as d Q tr rs e q
 unfold g1 at e
 split at e
 · obtain⟨x,rfl,r⟩:=rs.one
   unfold ng at e
   split at e
   ·cases e;exact .inl ⟨_,by rw[bO r],q _ _ (af.refl _) dM⟩
   ·cases e;exact .inr ⟨_,by rw[fA r],q _ _ (af.refl _) dM⟩
   ·cases e
 ·cases e
theorem me:fw M (g1 fF) (fun xs H Q=>∃p ys,xs=[.ref p]∧((aY M.K H p ys∧∀l,H l=none→Q (.ref l) (upd H l (.tup ys)))∨(bb M.K H p ys∧Q (.ref p) H))):=by
 intro F H xs as d Q tr rs e q
 unfold g1 at e
 split at e
 · obtain⟨x,rfl,r⟩:=rs.one
   unfold fF at e
   split at e
   · cases e
     simp only[Rep]at r
     obtain⟨p,ys,rfl,h,rs⟩:=r
     exact⟨p,ys,rfl,.inl ⟨h.sq,fun l hl=>q _ _ (af.cj hl _) (jr tr hl rs)⟩⟩
   · cases e
     have r':=r
     simp only[Rep]at r
     obtain⟨p,ys,rfl,h,rs⟩:=r
     exact⟨p,ys,rfl,.inr ⟨h.sq,q _ _ (af.refl _) r'⟩⟩
   ·cases e
 ·cases e
end
section
variable{X:Cx}{M:Md}{H H':Hp}{F:Addr→Prop}{σ:L2.St}{ρ:En}{pos:Pos}{pins:List (Addr×Obj)}{s:Shared}
mutual
noncomputable def pyd:D→PyData
 |.aA=>.none
 |.bl b=>.bool b
 |.int i=>.int i
 |.str x=>.str x
 |.tup xs=>.tuple (dQ xs)
 |.lst xs=>.list (dQ xs)
 |.ao _ _=>.dict []
 |.b6 _ _ _=>.dict []
noncomputable def dQ:List D→List PyData
 |[]=>[]
 |x::xs=>pyd x::dQ xs
end
mutual
theorem pM:∀(a b:D),lay a=true→lay b=true→PyData.eqv (pyd a) (pyd b)=bA a b
 |.aA,b,_,hb=>by cases b<;>first|rfl|(simp[lay]at hb)
 |.bl _,b,_,hb=>by cases b<;>first|rfl|(simp[lay]at hb)
 |.int _,b,_,hb=>by cases b<;>first|rfl|(simp[lay]at hb)
 | .str x,b,_,hb=>by
   cases b with
   |str y=>show(x==y)=decide (x=y);rw[Bool.eq_iff_iff,beq_iff_eq,decide_eq_true_eq]
   |_=>first|rfl|(simp[lay]at hb)
 | .tup xs,b,ha,hb=>by
   cases b with
   |tup ys=>simp only[lay]at ha hb;exact oB xs ys ha hb
   |_=>first|rfl|(simp[lay]at hb)
 | .lst xs,b,ha,hb=>by
   cases b with
   |lst ys=>simp only[lay]at ha hb;exact oB xs ys ha hb
   |_=>first|rfl|(simp[lay]at hb)
 |.ao _ _,_,ha,_=>by simp[lay]at ha
 |.b6 _ _ _,_,ha,_=>by simp[lay]at ha
theorem oB:∀(a b:List D),dB a=true→dB b=true→PyData.eqvAll (dQ a) (dQ b)=iy a b
 |[],[],_,_=>rfl
 |[],_::_,_,_=>rfl
 |_::_,[],_,_=>rfl
 | x::xs,y::ys,ha,hb=>by
   simp only[dB,Bool.and_eq_true]at ha hb
   show(PyData.eqv (pyd x) (pyd y)&&PyData.eqvAll (dQ xs) (dQ ys))=(bA x y&&iy xs ys)
   rw[pM x y ha.1 hb.1,oB xs ys ha.2 hb.2]
end
mutual
theorem ky:∀a:D,lay a=true→(pyd a).canLay0=true
 |.aA,_=>rfl
 |.bl _,_=>rfl
 |.int _,_=>rfl
 |.str x,h=>by simp only[lay]at h;exact h
 |.tup xs,h=>by simp only[lay]at h;exact ov xs h
 |.lst xs,h=>by simp only[lay]at h;exact ov xs h
 |.ao _ _,h=>by simp[lay]at h
 |.b6 _ _ _,h=>by simp[lay]at h
theorem ov:∀a:List D,dB a=true→PyData.canLayAll0 (dQ a)=true
 |[],_=>rfl
 | x::xs,h=>by
   simp only[dB,Bool.and_eq_true]at h
   show((pyd x).canLay0&&PyData.canLayAll0 (dQ xs))=true
   rw[ky x h.1,ov xs h.2];rfl
end
mutual
theorem kf:∀a:D,lay a=true→(pyd a).depth=dep a
 |.aA,_=>rfl
 |.bl _,_=>rfl
 |.int _,_=>rfl
 |.str _,_=>rfl
 |.tup xs,h=>by simp only[lay]at h;show PyData.depthAll (dQ xs)+1=_;rw[pf xs h];simp only[dep]
 |.lst xs,h=>by simp only[lay]at h;show PyData.depthAll (dQ xs)+1=_;rw[pf xs h];simp only[dep]
 |.ao _ _,h=>by simp[lay]at h
 |.b6 _ _ _,h=>by simp[lay]at h
theorem pf:∀a:List D,dB a=true→PyData.depthAll (dQ a)=kb a
 |[],_=>rfl
 | x::xs,h=>by
   simp only[dB,Bool.and_eq_true]at h
   show max (pyd x).depth (PyData.depthAll (dQ xs))=_
   rw[kf x h.1,pf xs h.2];simp only[kb]
end
mutual
theorem kO(I:Inv X pins σ H s):∀ {a:D} {x:V} {u:Value},lay a=true→Rep (aw X) H F a x→RelV x u→∃as,Reads s.heap u (pyd a) as
 |.aA,_,_,_,r,rx=>by cases mY r;cases rx;exact⟨_,.none⟩
 |.bl b,_,_,_,r,rx=>by cases fA r;cases rx;exact⟨_,.bool b⟩
 |.int i,_,_,_,r,rx=>by cases bO r;obtain⟨t,rfl⟩:=rx;exact⟨_,.int i t⟩
 |.str z,_,_,_,r,rx=>by cases eA r;obtain⟨t,rfl⟩:=rx;exact⟨_,.str z t⟩
 | .tup ds,_,_,h,r,rx=>by
   simp only[lay]at h
   simp only[Rep]at r
   obtain⟨p,xs,rfl,t,rs⟩:=r
   cases rx
   obtain⟨its,rv,⟨o,e,c,n,d⟩,_⟩:=jP I t
   obtain⟨as,ra⟩:=qd I h rs rv
   exact⟨_,.tuple e c d (by simpa using ra)⟩
 | .lst ds,_,_,h,r,rx=>by
   simp only[lay]at h
   simp only[Rep]at r
   obtain⟨p,xs,rfl,t,rs⟩:=r
   cases rx
   obtain⟨its,n,sl,rv,e,_⟩:=iW I t
   obtain⟨as,ra⟩:=qd I h rs rv
   exact⟨_,.list e rfl rfl (by simpa using ra)⟩
 |.ao _ _,_,_,h,_,_=>by simp[lay]at h
 |.b6 _ _ _,_,_,h,_,_=>by simp[lay]at h
theorem qd(I:Inv X pins σ H s):∀ {as:List D} {xs:List V} {us:List Value},dB as=true→ae (aw X) H F as xs→Vals xs us→∃bs,ReadsAll s.heap us (dQ as) bs
 |[],_,_,_,r,rv=>by simp only[ae]at r;subst r;cases rv;exact⟨_,.nil⟩
 | a::as,_,_,h,r,rv=>by
   simp only[dB,Bool.and_eq_true]at h
   simp only[ae]at r
   obtain⟨x,t,rfl,r1,r2⟩:=r
   cases rv with
   | cons q w=>
     obtain⟨bs,h1⟩:=kO I h.1 r1 q
     obtain⟨cs,h2⟩:=qd I h.2 r2 w
     exact⟨_,.cons h1 h2⟩
end
theorem DY(l:Addr)(es:Array DictEntry)(n:Nat)(dd:Option Addr)(sl:Array (Option Value))(b:Str)(u:Tok):
   Meets (Builtin.«dict.__eq__» ⟨[.ref l,.str b u],[]⟩) (fun _ R s=>s.heap.get? l=some {cls:=.type "dict",dict:=dd,data:=.dict es n,slots:=sl}∧R (.ok (.ret .notImplemented)) s):=
 .of_wp fun prog w A R s h=>by obtain⟨hp,g,d,tk,os⟩:=s;obtain⟨hl,h⟩:=h;have f1:=F.sub_str_dict;wp_walk;exact⟨_,rfl,h⟩
theorem Cn(b:Str)(u:Tok)(l:Addr)(es:Array DictEntry)(n:Nat)(dd:Option Addr)(sl:Array (Option Value)):
   Meets (Builtin.«str.__eq__» ⟨[.str b u,.ref l],[]⟩) (fun _ R s=>s.heap.get? l=some {cls:=.type "dict",dict:=dd,data:=.dict es n,slots:=sl}∧R (.ok (.ret .notImplemented)) s):=
 .of_wp fun prog w A R s h=>by obtain⟨hp,g,d,tk,os⟩:=s;obtain⟨hl,h⟩:=h;wp_walk using AutoSeq1.wpAny_loadPart' hl,wpAny_load hl;exact⟨_,rfl,h⟩
theorem zm{A:Around}{l:Addr}{o:Obj}{es:Array DictEntry}{n:Nat}(b:Str)(u:Tok)(ho:s.heap.get? l=some o)(hc:o.cls=.type "dict")(hd:o.data=.dict es n)(hu:A.units<cLine):SeqAt.RcAt A s (.ref l) (.str b u) false:=fun prog w E Q h=>by
 obtain⟨cls,dd,data,sl⟩:=o
 simp only at hc hd
 subst hc hd
 exact SeqAt.rc_eq_decline_or (k:=false) ⟨_,ho,rfl⟩ (typeIs_str s b u) (by decide) F.sub_str_dict F.slot_dict_eq F.slot_str_eq_refl
   (fun _ hq=>call_meets F.slot_dict_eq ⟨_,ho,rfl⟩ F.entry_dict_eq (F.args_dict_eq_2 _ _) (DY l es n dd sl b u) ⟨ho,hq⟩)
   (fun _ hq=>call_meets F.slot_str_eq_refl (typeIs_str s b u) F.entry_str_eq (F.args_str_eq_2 _ _) (Cn b u l es n dd sl) ⟨ho,hq⟩)
   (fun _ hq=>wpAny_of_eq (rfl:isSame (.ref l) (.str b u)=pure false) hq) (.inr hu) h
theorem fI{a:Addr}{kvs:List (Key×V)}(I:Inv X pins σ H s)(h:cJ (aw X) H F a kvs):kvs.length≤sizeLine∧(a==sysModules)=false∧∃vs,L2.KV kvs vs∧s.heap.DictOf (L2.bL X.prog X.w) a vs:=by
 rcases h with⟨_,ob,h⟩|⟨o,es,ep,vs,h1,h2,h3,h4,h5,h6,h7,h8,h9⟩
 ·exact L2.ph I.aD (.inr ⟨ob,h⟩)
 ·exact⟨h8,h9,vs,h7,o,es,ep,I.b5 a o h1,h2,h3,h4,h5,h6⟩
noncomputable def qS(M:Md):R2:=fun x y H Q=>∃F a b,Rep M H F a x∧Rep M H F b y∧cQ a b=true∧Q (.bl (bA a b)) H
noncomputable def si(M:Md):R2:=fun x y H Q=>∃F a b,Rep M H F a x∧Rep M H F b y∧dY a b=true∧Q (.bl (!bA a b)) H
theorem str_beq(a b:Str):(a==b)=decide (a=b):=by rw[Bool.eq_iff_iff,beq_iff_eq,decide_eq_true_eq]
theorem De{A:Around}{a b:D}{x y:V}{u v:Value}(fa:flat a=true)(fb:flat b=true)(ra:Rep M H F a x)(rb:Rep M H F b y)(rx:RelV x u)(ry:RelV y v):SeqAt.RcAt A s u v (bA a b):=by
 cases a<;>(try cases fa)<;>cases b<;>(try cases fb)<;>simp only[Rep]at ra rb<;>subst ra<;>subst rb
 ·cases rx;cases ry;exact SeqAt.RcAt.none_none
 ·cases rx;cases ry;exact SeqAt.RcAt.none_bool _
 ·cases rx;obtain⟨t,rfl⟩:=ry;exact SeqAt.RcAt.none_int _ _
 ·cases rx;obtain⟨t,rfl⟩:=ry;exact SeqAt.RcAt.none_str _ _
 ·cases rx;cases ry;exact SeqAt.RcAt.bool_none _
 ·cases rx;cases ry;exact SeqAt.RcAt.bool_bool _ _
 ·cases rx;obtain⟨t,rfl⟩:=ry;exact SeqAt.RcAt.bool_int _ _ _
 ·cases rx;obtain⟨t,rfl⟩:=ry;exact SeqAt.RcAt.bool_str _ _ _
 ·obtain⟨t,rfl⟩:=rx;cases ry;exact SeqAt.RcAt.int_none _ _
 ·obtain⟨t,rfl⟩:=rx;cases ry;exact SeqAt.RcAt.int_bool _ _ _
 ·obtain⟨t,rfl⟩:=rx;obtain⟨t,rfl⟩:=ry;exact SeqAt.RcAt.int_int _ _ _ _
 ·obtain⟨t,rfl⟩:=rx;obtain⟨t,rfl⟩:=ry;exact SeqAt.RcAt.int_str _ _ _ _
 ·obtain⟨t,rfl⟩:=rx;cases ry;exact SeqAt.RcAt.str_none _ _
 ·obtain⟨t,rfl⟩:=rx;cases ry;exact SeqAt.RcAt.str_bool _ _ _
 ·obtain⟨t,rfl⟩:=rx;obtain⟨t,rfl⟩:=ry;exact SeqAt.RcAt.str_int _ _ _ _
 ·obtain⟨t,rfl⟩:=rx;obtain⟨t,rfl⟩:=ry;simp only[bA];rw[←str_beq];exact SeqAt.RcAt.str_str _ _ _ _
theorem Af{A:Around}{a b:D}{x y:V}{u v:Value}(fa:flat a=true)(fb:flat b=true)(ra:Rep M H F a x)(rb:Rep M H F b y)(rx:RelV x u)(ry:RelV y v):SeqAt.RcNeAt A s u v (!bA a b):=by
 cases a<;>(try cases fa)<;>cases b<;>(try cases fb)<;>simp only[Rep]at ra rb<;>subst ra<;>subst rb
 ·cases rx;cases ry;exact SeqAt.RcNeAt.none_none
 ·cases rx;cases ry;exact SeqAt.RcNeAt.none_bool _
 ·cases rx;obtain⟨t,rfl⟩:=ry;exact SeqAt.RcNeAt.none_int _ _
 ·cases rx;obtain⟨t,rfl⟩:=ry;exact SeqAt.RcNeAt.none_str _ _
 ·cases rx;cases ry;exact SeqAt.RcNeAt.bool_none _
 ·cases rx;cases ry;exact SeqAt.RcNeAt.bool_bool _ _
 ·cases rx;obtain⟨t,rfl⟩:=ry;exact SeqAt.RcNeAt.bool_int _ _ _
 ·cases rx;obtain⟨t,rfl⟩:=ry;exact SeqAt.RcNeAt.bool_str _ _ _
 ·obtain⟨t,rfl⟩:=rx;cases ry;exact SeqAt.RcNeAt.int_none _ _
 ·obtain⟨t,rfl⟩:=rx;cases ry;exact SeqAt.RcNeAt.int_bool _ _ _
 ·obtain⟨t,rfl⟩:=rx;obtain⟨t,rfl⟩:=ry;exact SeqAt.RcNeAt.int_int _ _ _ _
 ·obtain⟨t,rfl⟩:=rx;obtain⟨t,rfl⟩:=ry;exact SeqAt.RcNeAt.int_str _ _ _ _
 ·obtain⟨t,rfl⟩:=rx;cases ry;exact SeqAt.RcNeAt.str_none _ _
 ·obtain⟨t,rfl⟩:=rx;cases ry;exact SeqAt.RcNeAt.str_bool _ _ _
 ·obtain⟨t,rfl⟩:=rx;obtain⟨t,rfl⟩:=ry;exact SeqAt.RcNeAt.str_int _ _ _ _
 ·obtain⟨t,rfl⟩:=rx;obtain⟨t,rfl⟩:=ry;simp only[bA];rw[←str_beq];exact SeqAt.RcNeAt.str_str _ _ _ _
theorem B4(ds:List D):((List.range (min ds.length 0)).all (fun _=>true)&&(ds.length==0))=bA (.tup ds) (.tup []):=by
 cases ds<;>simp
theorem rn{A:Around}{ds:List D}{x y:V}{u v:Value}(I:Inv X pins σ H s)(hu:A.units<cLine)(ra:Rep (aw X) H F (.tup ds) x)(rb:Rep (aw X) H F (.tup []) y)(rx:RelV x u)(ry:RelV y v):
   SeqAt.RcAt A s u v (bA (.tup ds) (.tup []))∧SeqAt.RcNeAt A s u v (!bA (.tup ds) (.tup [])):=by
 simp only[Rep]at ra rb
 obtain⟨p,xs,rfl,h,rs⟩:=ra
 obtain⟨p2,xs2,rfl,h2,rs2⟩:=rb
 cases rx
 cases ry
 simp only[ae]at rs2
 subst rs2
 obtain⟨its,rv,⟨o,e,c,n,d⟩,_⟩:=jP I h
 obtain⟨its2,rv2,⟨o2,e2,c2,n2,d2⟩,_⟩:=jP I h2
 cases rv2
 have hl:its.toArray.size=ds.length:=by rw[List.size_toArray, ←rv.length, ←rs.length]
 have z1:=SeqAt.RcAt.tuples (A:=A) (s:=s) (e:=fun _=>true) (l:=p) (b:=p2) ⟨o,e,c,n,d⟩ ⟨o2,e2,c2,n2,d2⟩ hu (fun j _ h2=>by simp at h2)
 have z2:=SeqAt.RcNeAt.tuples (A:=A) (s:=s) (e:=fun _=>true) (l:=p) (b:=p2) ⟨o,e,c,n,d⟩ ⟨o2,e2,c2,n2,d2⟩ hu (fun j _ h2=>by simp at h2)
 rw[←B4]
 rw[hl]at z1 z2
 exact⟨z1,z2⟩
theorem nA(hu:X.A.units+64<cLine):aR X (compareOp .NotEq) (si (aw X)):=by
 intro pins s σ H x y v u Q I rx ry h
 obtain⟨F,a,b,ra,rb,ok,q⟩:=h
 have fin:EP X pins σ Q (.bool (!bA a b)) s:=⟨.bl _,H,I,rfl,q⟩
 unfold dY at ok
 rw[Bool.or_eq_true,Bool.or_eq_true,Bool.and_eq_true]at ok
 rcases ok with(⟨fa,fb⟩|t)|l
 ·exact Af fa fb ra rb rx ry _ _ _ _ fin
 · unfold oy at t
   split at t
   ·exact(rn I (by omega) ra rb rx ry).2 _ _ _ _ fin
   ·cases t
 · rw[Bool.and_eq_true,Bool.and_eq_true,decide_eq_true_eq]at l
   obtain⟨⟨la,lb⟩,hd⟩:=l
   obtain⟨as,h1⟩:=kO I la ra rx
   obtain⟨bs,h2⟩:=kO I lb rb ry
   refine SeqAt.compareNe_reads h1 h2 (ky a la) (ky b lb) (by rw[kf a la,kf b lb];omega) ?_
   rw[pM a b la lb]
   exact fin
theorem dS(hu:X.A.units+64<cLine):aR X (compareOp .Eq) (qS (aw X)):=by
 intro pins s σ H x y v u Q I rx ry h
 obtain⟨F,a,b,ra,rb,ok,q⟩:=h
 have fin:EP X pins σ Q (.bool (bA a b)) s:=⟨.bl _,H,I,rfl,q⟩
 unfold cQ at ok
 rw[Bool.or_eq_true]at ok
 rcases ok with ok|dc
 · unfold dY at ok
   rw[Bool.or_eq_true,Bool.or_eq_true,Bool.and_eq_true]at ok
   rcases ok with(⟨fa,fb⟩|t)|l
   ·exact De fa fb ra rb rx ry _ _ _ _ fin
   · unfold oy at t
     split at t
     ·exact(rn I (by omega) ra rb rx ry).1 _ _ _ _ fin
     ·cases t
   · rw[Bool.and_eq_true,Bool.and_eq_true,decide_eq_true_eq]at l
     obtain⟨⟨la,lb⟩,hd⟩:=l
     obtain⟨as,h1⟩:=kO I la ra rx
     obtain⟨bs,h2⟩:=kO I lb rb ry
     refine SeqAt.compareEq_reads h1 h2 (ky a la) (ky b lb) (by rw[kf a la,kf b lb];omega) ?_
     rw[pM a b la lb]
     exact fin
 · unfold qX at dc
   split at dc
   · cases eA rb
     obtain⟨t,rfl⟩:=ry
     simp only[Rep]at ra
     obtain⟨p,xs,rfl,h,_⟩:=ra
     cases rx
     obtain⟨_,_,vs,_,o,es,ep,e1,e2,e3,_⟩:=fI I h
     exact zm _ t e1 e2.1 e3 (by omega) _ _ _ _ fin
   ·cases dc
theorem d4:cg M oEq (qS M):=by
 intro F H x y a b d Q tr ra rb e q
 unfold oEq at e
 split at e
 ·cases e;exact⟨F,a,b,ra,rb,by assumption,q _ _ (af.refl _) er⟩
 ·cases e
theorem mF:cg M cT (si M):=by
 intro F H x y a b d Q tr ra rb e q
 unfold cT at e
 split at e
 ·cases e;exact⟨F,a,b,ra,rb,by assumption,q _ _ (af.refl _) er⟩
 ·cases e
theorem hJ:gN oEq:=fun a b d h=>by unfold oEq at h;split at h<;>cases h;exact⟨_,rfl⟩
theorem mE:gN cT:=fun a b d h=>by unfold cT at h;split at h<;>cases h;exact⟨_,rfl⟩
theorem tH:gN oLt:=fun a b d h=>by unfold oLt at h;split at h<;>cases h;exact⟨_,rfl⟩
theorem B3:gN g6:=fun a b d h=>by unfold g6 at h;split at h<;>cases h;exact⟨_,rfl⟩
theorem t4:bootBuiltins "isinstance"=some (.builtin "isinstance"):=by decide+kernel
theorem iI:bootBuiltins "len"=some (.builtin "len"):=by decide+kernel
theorem vb:bootBuiltins "all"=some (.builtin "all"):=by decide+kernel
theorem vm:bootBuiltins "int"=some (.type "int"):=by decide+kernel
theorem p7:bootBuiltins "bool"=some (.type "bool"):=by decide+kernel
theorem nh:bootBuiltins "list"=some (.type "list"):=by decide+kernel
theorem gh:bootBuiltins "tuple"=some (.type "tuple"):=by decide+kernel
theorem lu:bootBuiltins "dict"=some (.type "dict"):=by decide+kernel
noncomputable def kU:Ty→String
 |.int=>"int"|.bool=>"bool"|.str=>"str"|.tuple=>"tuple"|.list=>"list"|.dict=>"dict"
theorem xS:bu X (.builtin "isinstance") (fun xs H Q=>∃F d x b ty,xs=[x,.ty (kU ty)]∧Rep (aw X) H F d x∧bf ty d=.ok (.bl b)∧(∀c ns vs,d≠.b6 c ns vs)∧Q (.bl b) H):=by
 intro pins s σ H xs us Q I r h
 obtain⟨F,d,x,b,ty,rfl,rd,e,ne,q⟩:=h
 obtain⟨u,w,rfl,ru,rw'⟩:=L2.vals2 r
 cases (show w=Value.type (kU ty)from rw')
 have fin:∀tk,EP X pins σ Q (.bool b) {s with toks:=tk}:=fun tk=>⟨.bl _,H,I.tok tk,rfl,q⟩
 cases d with
 |aA=>cases mY rd;cases ru;cases ty<;>cases e<;>exact PySem.W.kia_one PySem.W.kitx_none I.b5 True.intro rfl (fun z=>nomatch z) fin
 |bl y=>cases fA rd;cases ru;cases ty<;>cases e<;>exact PySem.W.kia_one PySem.W.kitx_bool I.b5 True.intro rfl (fun z=>nomatch z) fin
 |int i=>cases bO rd;obtain⟨t,rfl⟩:=ru;cases ty<;>cases e<;>exact PySem.W.kia_one PySem.W.kitx_int I.b5 True.intro rfl (fun z=>nomatch z) fin
 |str z=>cases eA rd;obtain⟨t,rfl⟩:=ru;cases ty<;>cases e<;>exact PySem.W.kia_one PySem.W.kitx_str I.b5 True.intro rfl (fun z=>nomatch z) fin
 | tup ds=>
   simp only[Rep]at rd
   obtain⟨p,xs,rfl,h,_⟩:=rd
   cases ru
   obtain⟨its,_,⟨o,h1,h2,_⟩,_⟩:=jP I h
   cases ty<;>cases e<;>exact PySem.W.kia_one PySem.W.kitx_tuple I.b5 ⟨o,h1,h2⟩ rfl (fun z=>nomatch z) fin
 | lst ds=>
   simp only[Rep]at rd
   obtain⟨p,xs,rfl,h,_⟩:=rd
   cases ru
   obtain⟨its,n,sl,_,h1,_⟩:=iW I h
   cases ty<;>cases e<;>exact PySem.W.kia_one PySem.W.kitx_list I.b5 ⟨_,h1,rfl⟩ rfl (fun z=>nomatch z) fin
 | ao ks ds=>
   simp only[Rep]at rd
   obtain⟨p,xs,rfl,h,_⟩:=rd
   cases ru
   obtain⟨_,_,vs,_,o,es,ep,e1,e2,e3,_⟩:=fI I h
   cases ty<;>cases e<;>exact PySem.W.kia_one PySem.W.kitx_dict I.b5 ⟨o,e1,e2.1⟩ rfl (fun z=>nomatch z) fin
 |b6 c ns vs=>exact absurd rfl (ne _ _ _)
theorem xG{ty:Ty}{d r:D}(h:bf ty d=.ok r):∃b,r=.bl b:=by
 unfold bf at h
 split at h<;>cases h<;>exact⟨_,rfl⟩
theorem BC(ty:Ty){a:Expr}{fa:Ex}{p p2:Pos}{T:Str}(ha:JE X a fa)(hg:L2.Gl X "isinstance")(hm:X.mg "isinstance"=none)(hgT:L2.Gl X T)(hmT:X.mg T=none)(hvT:bootBuiltins T=some (.type (kU ty)))
   (hs:starEach [a,.Name T p2] X.env=(false,eval a X.env)::starEach [.Name T p2] X.env:=by rfl) (hs2:starEach [.Name T p2] X.env=(false,eval (.Name T p2) X.env)::starEach [] X.env:=by rfl)
   (hnT:T≠"__name__":=by decide) (hdT:(T==("__debug__":Str))=false:=by decide):JE X (.Call (.Name "isinstance" p) [a,.Name T p2] [] pos) (e1 (bf ty) fa):=
 bq (L2.oa xS hg hm t4 (L2.gr ha (L2.gr (L2.qr (v:=.ty (kU ty)) hgT hmT hvT rfl hnT hdT) L2.jv hs2) hs) (by decide) (by decide) hs (by rw[hs2];rfl)) fun σ H Q ⟨ρ,F,d,hr,e,q⟩=>by
   obtain⟨a,ea,e⟩:=aq.mp e
   obtain⟨b,rfl⟩:=xG e
   refine⟨ρ,F,a,hr,ea,fun x H1 s1 rx=>⟨F,a,x,b,ty,rfl,rx,e,?_,q _ _ s1 er⟩⟩
   intro c ns vs h
   subst h
   cases ty<;>cases e
end
open L2 (PG cY TG)
structure aP(M:Md)(G:Hp)(F0:Addr→Prop)(H:Hp)(F:Addr→Prop)(σ:L2.St)(ρ:En):Prop where
 rs:aQ M H F σ ρ
 sm:af G H
 sub:∀a,F0 a→F a
 dD:∀a,F0 a→∃o,G a=some o
 own:∀(i:Nat) a,bh ρ i→σ[i]? =some (some (.ref a))→G a=none
 eB:∀(i:Nat) xss b,ρ[i]? =some (.on xss)→cV M H F σ ρ i b→G b=none
noncomputable def j2(M:Md)(G:Hp)(F0:Addr→Prop)(H:Hp)(F:Addr→Prop)(D:Ends):Fl→Prop
 |.next ρ'=>∀σ' H' F',Mv F H F' H'→aP M G F0 H' F' σ' ρ'→D.nx σ' H'
 |.brk ρ'=>∀σ' H' F',Mv F H F' H'→aP M G F0 H' F' σ' ρ'→D.bk σ' H'
 |.cont ρ'=>∀σ' H' F',Mv F H F' H'→aP M G F0 H' F' σ' ρ'→D.ct σ' H'
 |.ret d=>∀v H' F',Mv F H F' H'→af G H'→(∀a,F0 a→F' a)→Rep M H' F' d v→D.rt v H'
 |.fL d=>∀p H' F' xs ds,d=.lst ds→Mv F H F' H'→af G H'→(∀a,F0 a→F' a)→H' p=none→ae M H' F' ds xs→D.rt (.ref p) (upd H' p (.lst xs))
 |.di t=>∀v H' F1 F2 as,Mv F H F1 H'→af G H'→(∀a,F0 a→F1 a)→(∀b∈as,G b=none)→as.Nodup→(∀b,F2 b↔F1 b∨b∈as)→ag M H' F2 t v as→D.rt v H'
noncomputable def eP(M:Md)(G:Hp)(F0:Addr→Prop)(f:Sm):TS:=fun D σ H=>∃ρ F fl,aP M G F0 H F σ ρ∧f ρ=.ok fl∧j2 M G F0 H F D fl
noncomputable abbrev JS(X:Cx)(st:Stmt)(f:Sm):Prop:=∀F0,PS X st (eP (aw X) X.fj F0 f)
noncomputable abbrev dj(X:Cx)(sts:List Stmt)(f:Sm):Prop:=∀F0,bT X sts (eP (aw X) X.fj F0 f)
theorem dZ{X:Cx}{e:Stmt}{t t':TS}(h:PS X e t')(hi:∀D σ H,t D σ H→t' D σ H):PS X e t:=fun pins s σ H Q I q=>h pins s σ H Q I (hi Q σ H q)
theorem vd{X:Cx}{e:List Stmt}{t t':TS}(h:bT X e t')(hi:∀D σ H,t D σ H→t' D σ H):bT X e t:=fun pins s σ H Q I q=>h pins s σ H Q I (hi Q σ H q)
theorem Mv.refl{F:Addr→Prop}{H:Hp}:Mv F H F H:=fun _ _ n e=>⟨n,e⟩
section
variable{X:Cx}{M:Md}{G H H':Hp}{F0 F F':Addr→Prop}{σ:L2.St}{ρ:En}{pos:Pos}{DE:Ends}
theorem aP.same(r:aP M G F0 H F σ ρ)(h:af H H'):aP M G F0 H' F σ ρ:=⟨r.rs.same h,r.sm.trans h,r.sub,r.dD,r.own,fun i xss b e hb=>r.eB i xss b e (r.rs.on.back (fun _ e=>e) rfl (fun a u _ _ hu=>h _ _ hu) (fun a o _ e=>h _ _ e) hb)⟩
theorem j2.mv(m:Mv F H F' H'):∀ {fl:Fl},j2 M G F0 H F DE fl→j2 M G F0 H' F' DE fl
 |.next _,h=>fun σ' H2 F2 m2 r=>h σ' H2 F2 (m.trans m2) r
 |.brk _,h=>fun σ' H2 F2 m2 r=>h σ' H2 F2 (m.trans m2) r
 |.cont _,h=>fun σ' H2 F2 m2 r=>h σ' H2 F2 (m.trans m2) r
 |.ret _,h=>fun σ' H2 F2 m2 a b r=>h σ' H2 F2 (m.trans m2) a b r
 |.fL _,h=>fun p H2 F2 xs ds e m2 a b c r=>h p H2 F2 xs ds e (m.trans m2) a b c r
 |.di _,h=>fun v H2 F1 F2 as m2 a b c d e r=>h v H2 F1 F2 as (m.trans m2) a b c d e r
theorem tT:dj X [] (ak []):=fun F0=>vd L2.zf fun D σ H ⟨ρ,F,fl,r,e,q⟩=>by
 cases e
 exact q σ H F Mv.refl r
theorem CA:dj X [] ba:=tT
theorem yo{f g:Sm}{t u:TS}(hf:∀D σ H,eP M G F0 f D σ H→t D σ H)(hg:∀D σ H,eP M G F0 g D σ H→u D σ H)(D:Ends)(σ:L2.St)(H:Hp)(h:eP M G F0 (tW f g) D σ H):L2.tQ t u D σ H:=by
 obtain⟨ρ,F,fl,r,e,q⟩:=h
 obtain⟨f1,e1,e⟩:=aq.mp e
 refine hf _ _ _ ⟨ρ,F,f1,r,e1,?_⟩
 cases f1 with
 |next ρ1=>exact fun σ1 H1 F1 m1 r1=>hg D σ1 H1 ⟨ρ1,F1,fl,r1,e,q.mv m1⟩
 |ret d=>cases e;exact q
 |brk d=>cases e;exact q
 |cont d=>cases e;exact q
 |fL d=>cases e;exact q
 |di d=>cases e;exact q
theorem DI{st:Stmt}{rest:List Stmt}{f:Sm}{fs:List Sm}(h1:JS X st f)(h2:dj X rest (ak fs)):dj X (st::rest) (ak (f::fs)):=fun F0=>
 vd (L2.Ac (h1 F0) (h2 F0)) fun D σ H h=>yo (fun _ _ _ h=>h) (fun _ _ _ h=>h) D σ H h
theorem DU{st:Stmt}{f:Sm}(h:JS X st f):dj X [st] f:=fun F0=>L2.Cb (h F0)
theorem zX{c:Expr}{a b:List Stmt}{fc:aG}{fa fb:Sm}(hc:JT X c fc)(ha:dj X a fa)(hb:dj X b fb):JS X (.If c a b pos) (aV fc fa fb):=fun F0=>
 dZ (L2.CZ hc (ha F0) (hb F0)) fun D σ H ⟨ρ,F,fl,r,e,q⟩=>by
   obtain⟨t,et,e⟩:=aq.mp e
   refine⟨ρ,F,t,r.rs,et,fun H1 s1=>?_⟩
   split at e
   ·rename_i h;rw[if_pos h];exact⟨ρ,F,fl,r.same s1,e,q.mv (.same s1)⟩
   ·rename_i h;rw[if_neg h];exact⟨ρ,F,fl,r.same s1,e,q.mv (.same s1)⟩
theorem EF{a:Expr}{fa:Ex}(ha:JE X a fa):JS X (.Return (some a) pos) (aS fa):=fun F0=>
 dZ (L2.o5 ha) fun D σ H ⟨ρ,F,fl,r,e,q⟩=>by
   obtain⟨d,ed,e⟩:=aq.mp e
   cases e
   exact⟨ρ,F,d,r.rs,ed,fun v H1 s1 rv=>q v H1 F (.same s1) (r.sm.trans s1) r.sub rv⟩
noncomputable def oH(M:Md)(G:Hp)(F0:Addr→Prop)(g:bo):TG:=fun v σ H Q=>∃ρ F d ρ',aP M G F0 H F σ ρ∧Rep M H F d v∧g d ρ=.ok ρ'∧∀σ',aP M G F0 H F σ' ρ'→Q σ' H
noncomputable def pD(M:Md)(G:Hp)(F0:Addr→Prop)(g:List D→En→R En):L2.fT:=fun vs σ H Q=>∃ρ F ds ρ',aP M G F0 H F σ ρ∧ae M H F ds vs∧g ds ρ=.ok ρ'∧∀σ',aP M G F0 H F σ' ρ'→Q σ' H
noncomputable abbrev JG(X:Cx)(e:Expr)(g:bo):Prop:=∀F0,PG X e (oH (aw X) X.fj F0 g)
noncomputable abbrev lq(X:Cx)(es:List Expr)(g:List D→En→R En):Prop:=∀F0,cY X es (pD (aw X) X.fj F0 g)
theorem ub{X:Cx}{e:Expr}{t t':TG}(h:PG X e t')(hi:∀v σ H Q,t v σ H Q→t' v σ H Q):PG X e t:=fun pins s σ H x u Q I rx q=>h pins s σ H x u Q I rx (hi x σ H Q q)
theorem q8{X:Cx}{e:List Expr}{t t':L2.fT}(h:cY X e t')(hi:∀v σ H Q,t v σ H Q→t' v σ H Q):cY X e t:=fun pins s σ H x u Q I rx q=>h pins s σ H x u Q I rx (hi x σ H Q q)
theorem bh.dN{ρ:En}{i j:Nat}{d:D}(h:bh (ρ.set i (.sh d)) j):i≠j∧bh ρ j:=by
 rcases h with⟨ds,q⟩|⟨ks,ds,q⟩
 · rcases get_set q with⟨_,x,_⟩|⟨hne,q⟩
   ·cases x
   ·exact⟨hne,.inl ⟨ds,q⟩⟩
 · rcases get_set q with⟨_,x,_⟩|⟨hne,q⟩
   ·cases x
   ·exact⟨hne,.inr ⟨ks,ds,q⟩⟩
theorem aP.oq{i:Nat}{d:D}{v:V}(r:aP M G F0 H F σ ρ)(h:Rep M H F d v):aP M G F0 H F (σ.set i (some v)) (ρ.set i (.sh d)) where
 rs:=r.rs.oq h
 sm:=r.sm
 sub:=r.sub
 dD:=r.dD
 own j a o e:=by
   obtain⟨ne,o⟩:=o.dN
   rw[List.getElem?_set_ne ne]at e
   exact r.own j a o e
 eB j xss b e hb:=by
   rcases get_set e with⟨_,x,_⟩|⟨hne,e⟩
   ·cases x
   ·exact r.eB j xss b e (r.rs.on.back (fun y ey=>by rw[List.getElem?_set_ne hne]at ey;exact ey) (List.getElem?_set_ne hne) (fun a u _ _ hu=>hu) (fun _ _ _ e=>e) hb)
theorem zx(i:Nat){x:Str}(hN:X.N.Nodup)(hi:X.N[i]? =some x:=by rfl)(hx:L2.Loc X.env.scope x:=by exact Or.inl rfl)(hf:X.fn x=true∨X.env.scope.names.lookup x=some .local:=by first|exact .inl rfl|exact .inr rfl):JG X (.Name x pos) (aF i):=fun F0=>
 ub (L2.Ej hN hi hx hf) fun v σ H Q ⟨ρ,F,d,ρ',r,rv,e,q⟩=>by
   cases e
   exact q _ (r.oq rv)
theorem AH:lq X [] (dA []):=fun F0=>
 q8 L2.wG fun vs σ H Q ⟨ρ,F,ds,ρ',r,rv,e,q⟩=>by
   cases ds with
   |nil=>cases e;simp only[ae]at rv;exact⟨rv,q _ r⟩
   |cons _ _=>cases e
theorem Du{is:List Nat}{i:Nat}{t:TG}{u:L2.fT}(ht:∀v σ H Q,oH M G F0 (aF i) v σ H Q→t v σ H Q)(hu:∀v σ H Q,pD M G F0 (dA is) v σ H Q→u v σ H Q)(vs:List V)(σ:L2.St)(H:Hp)(Q:L2.St→Hp→Prop)
   (h:pD M G F0 (dA (i::is)) vs σ H Q):L2.sf t u vs σ H Q:=by
 obtain⟨ρ,F,ds,ρ',r,rv,e,q⟩:=h
 cases ds with
 |nil=>cases e
 | cons d ds=>
   simp only[ae]at rv
   obtain⟨x,xs,rfl,rx,rxs⟩:=rv
   refine⟨x,xs,rfl,ht _ _ _ _ ⟨ρ,F,d,_,r,rx,rfl,fun σ1 r1=>hu _ _ _ _ ⟨_,F,ds,ρ',r1,rxs,e,q⟩⟩⟩
theorem zO(i:Nat){is:List Nat}{e:Expr}{es:List Expr}(h1:JG X e (aF i))(h2:lq X es (dA is))(hs:(assignEach (e::es) X.env).map (·.2)=assign e X.env::(assignEach es X.env).map (·.2):=by rfl):lq X (e::es) (dA (i::is)):=fun F0=>
 q8 (L2.EH (h1 F0) (h2 F0) hs) fun vs σ H Q h=>Du (fun _ _ _ _ h=>h) (fun _ _ _ _ h=>h) vs σ H Q h
theorem sM:∀ {is:List Nat} {ds:List D} {ρ ρ':En},dA is ds ρ=.ok ρ'→ds.length=is.length
 |[],[],_,_,_=>rfl
 |_::_,_::_,_,_,h=>by simp only[dA]at h;simp[sM h]
 |[],_::_,_,_,h=>by cases h
 |_::_,[],_,_,h=>by cases h
theorem yI{is:List Nat}{es:List Expr}{k:Nat}(hc:X.calm=true)(h:lq X es (dA is))(hn:(assignEach es X.env).length=is.length:=by rfl)(hst:(assignEach es X.env).findIdx? (·.1)=none:=by rfl):JG X (.Tuple es k pos) (fP is):=fun F0=>
 ub (L2.A0 hc (h F0) hn hst) fun v σ H Q ⟨ρ,F,d,ρ',r,rv,e,q⟩=>by
   unfold fP at e
   split at e
   · rename_i ds
     simp only[Rep]at rv
     obtain⟨a,xs,rfl,h1,rs⟩:=rv
     exact⟨a,xs,rfl,h1.sq,by rw[←rs.length];exact sM e,ρ,F,ds,ρ',r,rs,e,q⟩
   ·cases e
theorem z0{tg e:Expr}{fa:Ex}{g:bo}(ha:JE X e fa)(hg:JG X tg g)(hs:swapsWithSole [tg] e pos.line X.env=pure false:=by rfl)(hw:swappedStores [tg] e X.env=pure none:=by rfl)(h1:(assignEach [tg] X.env).map (·.2)=[assign tg X.env]:=by rfl):JS X (.Assign [tg] e pos) (bg g fa):=fun F0=>
 dZ (L2.Be ha (hg F0) hs hw h1) fun D σ H ⟨ρ,F,fl,r,e,q⟩=>by
   obtain⟨d,ed,e⟩:=aq.mp e
   obtain⟨ρ',eg,e⟩:=aq.mp e
   cases e
   exact⟨ρ,F,d,r.rs,ed,fun v H1 s1 rv=>⟨ρ,F,d,ρ',r.same s1,rv,eg,fun σ' r'=>q σ' H1 F (.same s1) r'⟩⟩
noncomputable def Gives(M:Md)(J:L2.It)(H1:Hp)(F1:Addr→Prop)(ds:List D):Prop:=∀H F,Mv F1 H1 F H→(∀p,F p→∃o,H p=some o)→
 (∀i d,ds[i]? =some d→J.go i H∧∀x H',J.ke i H x H'→af H H'∧Rep M H' F d x)∧J.stop ds.length H
noncomputable def Bt(M:Md)(f:En→R (List D)):TI:=fun σ H Rr=>∃ρ F ds,aQ M H F σ ρ∧f ρ=.ok ds∧∀J H',af H H'→Gives M J H' F ds→Rr J H'
noncomputable abbrev JI(X:Cx)(tg e:Expr)(f:br):Prop:=L2.PI X tg e (Bt (aw X) f)
theorem lB{X:Cx}{tg e:Expr}{t t':TI}(h:L2.PI X tg e t')(hi:∀σ H Q,t σ H Q→t' σ H Q):L2.PI X tg e t:=fun pins s σ H Q I q=>h pins s σ H Q I (hi σ H Q q)
theorem AN{J:L2.It}{tg:bo}{body:Sm}{g:TG}{tb:TS}(hg:∀v σ H Q,oH M G F0 tg v σ H Q→g v σ H Q)(hb:∀D σ H,eP M G F0 body D σ H→tb D σ H)
   {H1:Hp} {F1:Addr→Prop} {ds:List D} (gv:Gives M J H1 F1 ds) {ρ:En} (r:aP M G F0 H1 F1 σ ρ) {fl:Fl} (e:forL tg body ds ρ=.ok fl) (q:j2 M G F0 H1 F1 DE fl):
   ∃W:Nat→Nat→L2.St→Hp→Prop,(∃m,W 0 m σ H1)∧∀i m σ H,W i m σ H→
     (J.stop i H∧DE.nx σ H)∨(J.go i H∧∃N:L2.St→Hp→Prop,(∀σ' H',N σ' H'→∃m',m'<m∧W (i+1) m' σ' H')∧∀x H',J.ke i H x H'→g x σ H' fun σ2 H2=>tb {DE with nx:=N,ct:=N,bk:=DE.nx} σ2 H2):=by
 refine⟨fun i m σ H=>m=ds.length - i∧i≤ds.length∧∃ρ F,Mv F1 H1 F H∧aP M G F0 H F σ ρ∧forL tg body (ds.drop i) ρ=.ok fl,⟨ds.length,by simp,Nat.zero_le _,ρ,F1,Mv.refl,r,e⟩,?_⟩
 rintro i m σ H ⟨rfl,hi,ρ,F,mv,r,e⟩
 obtain⟨g1,g2⟩:=gv H F mv r.rs.aT
 by_cases hlt:i<ds.length
 · refine .inr ⟨(g1 i ds[i] (by simp[hlt])).1,fun σ' H'=>i+1≤ds.length∧∃ρ F,Mv F1 H1 F H'∧aP M G F0 H' F σ' ρ∧forL tg body (ds.drop (i+1)) ρ=.ok fl,fun σ' H' p'=>⟨ds.length - (i+1),by omega,rfl,p'.1,p'.2⟩,fun x H' y=>?_⟩
   obtain⟨s1,rx⟩:=(g1 i ds[i] (by simp[hlt])).2 x H' y
   rw[List.drop_eq_getElem_cons hlt]at e
   unfold forL at e
   obtain⟨ρ1,e1,e⟩:=aq.mp e
   obtain⟨f,e2,e⟩:=aq.mp e
   refine hg _ _ _ _ ⟨ρ,F,ds[i],ρ1,r.same s1,rx,e1,fun σ2 r2=>hb _ _ _ ⟨ρ1,F,f,r2,e2,?_⟩⟩
   have mv1:Mv F1 H1 F H':=mv.trans (.same s1)
   cases f with
   |next ρ2=>exact fun σ3 H3 F3 m3 r3=>⟨hlt,ρ2,F3,mv1.trans m3,r3,e⟩
   |cont ρ2=>exact fun σ3 H3 F3 m3 r3=>⟨hlt,ρ2,F3,mv1.trans m3,r3,e⟩
   |brk ρ2=>cases e;exact fun σ3 H3 F3 m3 r3=>q σ3 H3 F3 (mv1.trans m3) r3
   |ret d=>cases e;exact fun v H3 F3 m3 a b rv=>q v H3 F3 (mv1.trans m3) a b rv
   |fL d=>cases e;exact fun p H3 F3 xs ds e m3 a b c rv=>q p H3 F3 xs ds e (mv1.trans m3) a b c rv
   |di d=>cases e;exact fun v H3 F3 F4 as m3 a b c d e rv=>q v H3 F3 F4 as (mv1.trans m3) a b c d e rv
 · have ei:i=ds.length:=by omega
   subst ei
   rw[List.drop_length]at e
   cases e
   exact .inl ⟨g2,q σ H F mv r⟩
theorem zi{tg iter:Expr}{body:List Stmt}{it:br}{g:bo}{f:Sm}(hp:PassesOwn (model X.prog X.w) X.A X.env X.xe)(hc:X.calm=true)(hi:JI X tg iter it)(hg:JG X tg g)(hb:dj X body f)
   (hs:∀x,foldedSetIterable iter X.env x=pure x:=by intro _;rfl):JS X (.For tg iter body [] pos) (gP it g f):=fun F0=>
 dZ (L2.Bp hp hc hi (hg F0) (hb F0) hs) fun D σ H ⟨ρ,F,fl,r,e,q⟩=>by
   obtain⟨ds,ed,e⟩:=aq.mp e
   exact⟨ρ,F,ds,r.rs,ed,fun J H1 s1 gv=>AN (fun _ _ _ _ h=>h) (fun _ _ _ h=>h) gv (r.same s1) e (q.mv (.same s1))⟩
theorem Ec{a:Addr}{xs:List V}{ds:List D}(h:fJ M H F a xs)(rs:ae M H F ds xs):Gives M (L2.ly M.K a) H F ds:=by
 intro H' F' mv tr
 have h':=h.mv mv
 have rs':=rs.mv mv
 refine⟨fun i d hd=>?_,?_⟩
 · obtain⟨x,hx,rx⟩:=rs'.get hd
   refine⟨⟨xs,x,h'.sq,hx⟩,fun y H2 hy=>?_⟩
   obtain⟨rfl,hy⟩:=hy
   have:=hy xs h'.sq
   rw[hx]at this
   cases this
   exact⟨af.refl _,rx⟩
 ·exact⟨xs,h'.sq,by rw[rs.length];exact Nat.le_refl _⟩
theorem xI{a:Addr}{xs:List V}{ds:List D}(h:df M H F a xs)(rs:ae M H F ds xs):Gives M (L2.lD M.K a) H F ds:=by
 intro H' F' mv tr
 have h':=h.mv mv
 have rs':=rs.mv mv
 refine⟨fun i d hd=>?_,?_⟩
 · obtain⟨x,hx,rx⟩:=rs'.get hd
   refine⟨⟨xs,x,h'.sq,hx⟩,fun y H2 hy=>?_⟩
   obtain⟨rfl,hy⟩:=hy
   have:=hy xs h'.sq
   rw[hx]at this
   cases this
   exact⟨af.refl _,rx⟩
 ·exact⟨xs,h'.sq,by rw[rs.length];exact Nat.le_refl _⟩
theorem va{lo hi:Int}:Gives M (L2.br lo (hi - lo).toNat) H F (cC lo hi):=by
 intro H' F' mv tr
 refine⟨fun i d hd=>?_,?_⟩
 · unfold cC at hd
   rw[List.getElem?_map]at hd
   cases e:(List.range (hi - lo).toNat)[i]? with
   |none=>rw[e]at hd;cases hd
   | some k=>
     rw[e]at hd
     obtain⟨hlt,hk⟩:=List.getElem?_eq_some_iff.mp e
     simp at hk hlt hd
     subst hk hd
     refine⟨show i<(hi - lo).toNat by omega,fun y H2 hy=>?_⟩
     obtain⟨rfl,rfl⟩:=hy
     exact⟨af.refl _,dM⟩
 · show(hi - lo).toNat≤(cC lo hi).length
   unfold cC;simp
@[simp] noncomputable def FJ:D→R (List D)
 |.tup xs=>.ok xs
 |_=>.bad
theorem pH{j:Int}(h:inR j=true): -(2 ^ 62)≤j∧j<2 ^ 62:=by
 unfold inR at h
 rw[Bool.and_eq_true,decide_eq_true_eq,decide_eq_true_eq]at h
 exact⟨by omega,by omega⟩
theorem A9{tg a:Expr}{fa:Ex}{p:Pos}(hg:L2.Gl X "range")(hm:X.mg "range"=none)(ha:JE X a fa)(hs:starEach [a] X.env=(false,eval a X.env)::starEach [] X.env:=by rfl):JI X tg (.Call (.Name "range" p) [a] [] pos) (hW fa):=
 lB (L2.Bo hg hm (fH ha gA hs) hs) fun σ H Q ⟨ρ,F,ds,r,e,q⟩=>by
   obtain⟨d,ed,e⟩:=aq.mp e
   refine⟨ρ,F,[d],r,by show(fa ρ).bind _=_;rw[ed];rfl,fun vs H1 s1 rv=>?_⟩
   obtain⟨x,rfl,rx⟩:=rv.one
   split at e
   · split at e
     · rename_i j hj
       cases e
       have hj:=pH hj
       have:=q (L2.br 0 j.toNat) H1 s1 (by have:=va (M:=aw X) (H:=H1) (F:=F) (lo:=0) (hi:=j);rwa[Int.sub_zero]at this)
       exact⟨j,by rw[bO rx],hj.1,hj.2,this⟩
     ·cases e
   ·cases e
theorem BQ{tg a b:Expr}{fa fb:Ex}{p:Pos}(hg:L2.Gl X "range")(hm:X.mg "range"=none)(ha:JE X a fa)(hb:JE X b fb)(hs:starEach [a,b] X.env=(false,eval a X.env)::starEach [b] X.env:=by rfl)(hs2:starEach [b] X.env=(false,eval b X.env)::starEach [] X.env:=by rfl):
   JI X tg (.Call (.Name "range" p) [a,b] [] pos) (kH fa fb):=
 lB (L2.yx hg hm (fH ha (fH hb gA hs2) hs) (by rw[hs,hs2];rfl) hs2) fun σ H Q ⟨ρ,F,ds,r,e,q⟩=>by
   obtain⟨d,ed,e⟩:=aq.mp e
   obtain⟨d2,ed2,e⟩:=aq.mp e
   refine⟨ρ,F,[d,d2],r,by show(fa ρ).bind _=_;rw[ed];show((fb ρ).bind _).bind _=_;rw[ed2];rfl,fun vs H1 s1 rv=>?_⟩
   obtain⟨x,y,rfl,rx,ry⟩:=rv.two
   split at e
   · split at e
     · rename_i i j _ hj
       cases e
       rw[Bool.and_eq_true]at hj
       have h1:=pH hj.1
       have h2:=pH hj.2
       exact⟨i,j,by rw[bO rx,bO ry],⟨h1.1,h1.2,h2.1,h2.2⟩,q _ H1 s1 va⟩
     ·cases e
   ·cases e
noncomputable def gd(M:Md)(m:List D→R D)(n:Nat):L2.Sp:=fun vs H Q _=>∃F ds d,(∀p,F p→∃o,H p=some o)∧ae M H F ds vs∧ds.length=n∧m ds=.ok d∧∀v H',af H H'→Rep M H' F d v→Q v H'
theorem Rep.sub(hs:∀a,F a→F' a){d:D}{v:V}(h:Rep M H F' d v):Rep M H F d v:=h.mv fun a o n e=>⟨fun f=>n (hs a f),e⟩
theorem ug{N:List Str}{n:Nat}{ds:List D}{vs:List V}(tr:∀p,F p→∃o,G p=some o)(rs:ae M G F ds vs)(hl:ds.length=n)(hn:n≤N.length):aP M G F G F (L2.start N vs) (ds.map Slot.sh++List.replicate (N.length - ds.length) .un):=by
 have hl2:=rs.length
 have no:∀i,¬bh (ds.map Slot.sh++List.replicate (N.length - ds.length) .un) i:=by
   intro i hi
   have:∀s,(ds.map Slot.sh++List.replicate (N.length - ds.length) Slot.un)[i]? =some s→(∃d,s=.sh d)∨s=.un:=by
     intro s hs
     rw[List.getElem?_append]at hs
     split at hs
     · rw[List.getElem?_map]at hs
       cases e1:ds[i]? with
       |none=>rw[e1]at hs;cases hs
       |some d'=>rw[e1]at hs;cases hs;exact .inl ⟨_,rfl⟩
     · rw[List.getElem?_replicate]at hs
       split at hs<;>cases hs
       exact .inr rfl
   rcases hi with⟨x,hx⟩|⟨k,x,hx⟩
   ·rcases this _ hx with⟨_,h⟩|h<;>cases h
   ·rcases this _ hx with⟨_,h⟩|h<;>cases h
 have aA:∀(i:Nat) xss,(ds.map Slot.sh++List.replicate (N.length - ds.length) Slot.un)[i]? ≠some (.on xss):=by
   intro i xss hs
   rw[List.getElem?_append]at hs
   split at hs
   · rw[List.getElem?_map]at hs
     cases e1:ds[i]? with
     |none=>rw[e1]at hs;cases hs
     |some d'=>rw[e1]at hs;cases hs
   · rw[List.getElem?_replicate]at hs
     split at hs<;>cases hs
 refine⟨⟨?_,tr,?_,?_,?_,?_,.no aA⟩,af.refl _,fun _ h=>h,tr,?_,fun i xss b e=>absurd e (aA i xss)⟩
 ·unfold L2.start;simp[hl2]
 · intro i d hd
   rw[List.getElem?_append]at hd
   split at hd
   · rw[List.getElem?_map]at hd
     cases e1:ds[i]? with
     |none=>rw[e1]at hd;cases hd
     | some d'=>
       rw[e1]at hd;cases hd
       obtain⟨v,ev,rv⟩:=rs.get e1
       refine⟨v,?_,rv⟩
       unfold L2.start
       rw[List.getElem?_append_left (by obtain⟨h,_⟩:=List.getElem?_eq_some_iff.mp ev;simpa using h),List.getElem?_map,ev];rfl
   · rw[List.getElem?_replicate]at hd
     split at hd<;>cases hd
 · intro i d hd
   rw[List.getElem?_append]at hd
   split at hd
   · rw[List.getElem?_map]at hd
     cases e1:ds[i]? with
     |none=>rw[e1]at hd;cases hd
     |some d'=>rw[e1]at hd;cases hd
   · rw[List.getElem?_replicate]at hd
     split at hd<;>cases hd
 · intro i k d hd
   rw[List.getElem?_append]at hd
   split at hd
   · rw[List.getElem?_map]at hd
     cases e1:ds[i]? with
     |none=>rw[e1]at hd;cases hd
     |some d'=>rw[e1]at hd;cases hd
   · rw[List.getElem?_replicate]at hd
     split at hd<;>cases hd
 · intro i j a oi
   exact absurd oi (no i)
 · intro i a oi
   exact absurd oi (no i)
theorem Cw{N:List Str}{n:Nat}{body:Sm}{vs:List V}{Q:VK}{E:XK}{t:TS}(ht:∀F0 D σ H,eP M G F0 body D σ H→t D σ H)(h:gd M (fn N.length body) n vs G Q E)(hn:n≤N.length):t {nx:=fun _ H'=>Q .aA H',rt:=Q} (L2.start N vs) G:=by
 obtain⟨F,ds,d,tr,rs,hl,e,q⟩:=h
 obtain⟨f,ef,e⟩:=aq.mp e
 refine ht F _ _ _ ⟨_,F,f,ug tr rs hl hn,ef,?_⟩
 cases f with
 |next ρ'=>cases e;exact fun σ' H' F' mv r'=>q _ _ r'.sm om
 |ret d'=>cases e;exact fun v H' F' mv sm sub rv=>q _ _ sm (rv.sub sub)
 |brk _=>cases e
 |cont _=>cases e
 |fL _=>cases e
 |di _=>cases e
theorem ae.sub(hs:∀a,F a→F' a){d:List D}{v:List V}(h:ae M H F' d v):ae M H F d v:=h.mv fun a o n e=>⟨fun f=>n (hs a f),e⟩
end
section
variable{X:Cx}{M:Md}{G H H':Hp}{F0 F F':Addr→Prop}{σ:L2.St}{ρ:En}{pos:Pos}{DE:Ends}
noncomputable def Own(M:Md)(H:Hp)(F:Addr→Prop)(s:Slot)(o:HO):Prop:=
 (∃ds xs,s=.ol ds∧o=.lst xs∧ae M H F ds xs)∨∃ks ds xs,s=.od ks ds∧o=.dK (ks.zip xs)∧ks.length=xs.length∧ae M H F ds xs
theorem Own.mv{s:Slot}{o:HO}(m:Mv F H F' H')(h:Own M H F s o):Own M H' F' s o:=by
 rcases h with⟨ds,xs,e1,e2,r⟩|⟨ks,ds,xs,e1,e2,l,r⟩
 ·exact .inl ⟨ds,xs,e1,e2,r.mv m⟩
 ·exact .inr ⟨ks,ds,xs,e1,e2,l,r.mv m⟩
theorem aQ.ownAt(r:aQ M H F σ ρ){i:Nat}(o:bh ρ i):∃a s u,ρ[i]? =some s∧σ[i]? =some (some (.ref a))∧F a∧H a=some u∧Own M H F s u:=by
 rcases o with⟨ds,q⟩|⟨ks,ds,q⟩
 · obtain⟨a,xs,h1,h2,h3,h4⟩:=r.ol i ds q
   exact⟨a,_,_,q,h1,h2,h3,.inl ⟨ds,xs,rfl,rfl,h4⟩⟩
 · obtain⟨a,xs,h1,h2,h3,h4,h5⟩:=r.od i ks ds q
   exact⟨a,_,_,q,h1,h2,h3,.inr ⟨ks,ds,xs,rfl,rfl,h4,h5⟩⟩
theorem i3{i j:Nat}{s:Slot}(h:bh (ρ.set i s) j):j=i∨(i≠j∧bh ρ j):=by
 rcases h with⟨ds,q⟩|⟨ks,ds,q⟩
 · rcases get_set q with⟨h,_,_⟩|⟨hne,q⟩
   ·exact .inl h.symm
   ·exact .inr ⟨hne,.inl ⟨ds,q⟩⟩
 · rcases get_set q with⟨h,_,_⟩|⟨hne,q⟩
   ·exact .inl h.symm
   ·exact .inr ⟨hne,.inr ⟨ks,ds,q⟩⟩
theorem aQ.put{i:Nat}{a:Addr}{s:Slot}{o:HO}(r:aQ M H F σ ρ)(mv:Mv F H F' H')(hF:∀b,F b→F' b)(ha:F' a)(ho:H' a=some o)(hk:∀b u,F b→b≠a→H b=some u→H' b=some u)(htr:∀b,F' b→F b∨b=a)
   (hn:∀j,j≠i→bh ρ j→σ[j]? ≠some (some (.ref a))) (hon:∀(j:Nat) xss b,j≠i→ρ[j]? =some (.on xss)→cV M H F σ ρ j b→b≠a) (own:Own M H' F' s o):aQ M H' F' (σ.set i (some (.ref a))) (ρ.set i s) where
 len:=by simp[r.len]
 aT b f:=by
   by_cases e:b=a
   ·subst e;exact⟨o,ho⟩
   · rcases htr b f with f|f
     · obtain⟨u,hu⟩:=r.aT b f
       exact⟨u,hk b u f e hu⟩
     ·exact absurd f e
 sh j d q:=by
   rcases get_set q with⟨rfl,hx,hl⟩|⟨hne,q⟩
   ·rcases own with⟨ds,xs,rfl,_⟩|⟨ks,ds,xs,rfl,_⟩<;>cases hx
   · obtain⟨w,e1,g⟩:=r.sh j d q
     exact⟨w,by rw[List.getElem?_set_ne hne];exact e1,g.mv mv⟩
 ol j d q:=by
   rcases get_set q with⟨rfl,x,hl⟩|⟨hne,q⟩
   · rcases own with⟨ds,xs,rfl,rfl,rs⟩|⟨ks,ds,xs,rfl,_⟩
     · cases x
       exact⟨a,xs,by rw[List.getElem?_set_self (by rw[←r.len];exact hl)],ha,ho,rs⟩
     ·cases x
   · obtain⟨b,xs,e1,f,e2,g⟩:=r.ol j d q
     refine⟨b,xs,by rw[List.getElem?_set_ne hne];exact e1,hF _ f,hk _ _ f ?_ e2,g.mv mv⟩
     rintro rfl
     exact hn j (Ne.symm hne) (.inl ⟨_,q⟩) e1
 od j k d q:=by
   rcases get_set q with⟨rfl,x,hl⟩|⟨hne,q⟩
   · rcases own with⟨ds,xs,rfl,_⟩|⟨ks,ds,xs,rfl,rfl,l,rs⟩
     ·cases x
     · cases x
       exact⟨a,xs,by rw[List.getElem?_set_self (by rw[←r.len];exact hl)],ha,ho,l,rs⟩
   · obtain⟨b,xs,e1,f,e2,l,g⟩:=r.od j k d q
     refine⟨b,xs,by rw[List.getElem?_set_ne hne];exact e1,hF _ f,hk _ _ f ?_ e2,l,g.mv mv⟩
     rintro rfl
     exact hn j (Ne.symm hne) (.inr ⟨_,_,q⟩) e1
 bX j k b oj ok ej ek:=by
   have self:∀c,(σ.set i (some (.ref a)))[i]? =some (some (.ref c))→c=a:=fun c h=>by
     rw[List.getElem?_set_self']at h
     cases hq:σ[i]? with
     |none=>rw[hq]at h;cases h
     |some z=>rw[hq]at h;cases h;rfl
   rcases i3 oj with hj|⟨nj,oj⟩
   · rcases i3 ok with hk2|⟨nk,ok⟩
     ·rw[hj,hk2]
     · rw[hj]at ej
       rw[List.getElem?_set_ne nk]at ek
       cases self _ ej
       exact absurd ek (hn k (Ne.symm nk) ok)
   · rw[List.getElem?_set_ne nj]at ej
     rcases i3 ok with hk2|⟨nk,ok⟩
     · rw[hk2]at ek
       cases self _ ek
       exact absurd ej (hn j (Ne.symm nj) oj)
     · rw[List.getElem?_set_ne nk]at ek
       exact r.bX j k b oj ok ej ek
 on:=by
   have old:∀(j:Nat) xss,(ρ.set i s)[j]? =some (.on xss)→i≠j∧ρ[j]? =some (.on xss):=fun j xss e=>by
     rcases get_set e with⟨_,x,_⟩|⟨hne,e⟩
     ·rcases own with⟨ds,xs,rfl,_⟩|⟨ks,ds,xs,rfl,_⟩<;>cases x
     ·exact⟨hne,e⟩
   refine r.on.mv mv (fun j xss e=>⟨(old j xss e).2,List.getElem?_set_ne (old j xss e).1⟩) (fun j xss b u e hb f hu=>⟨hF b f,hk b u f (hon j xss b (Ne.symm (old j xss e).1) (old j xss e).2 hb) hu⟩) fun j xss b e hb k ok=>?_
   obtain⟨hne,e0⟩:=old j xss e
   rcases i3 ok with rfl|⟨nk,ok⟩
   · intro h
     rw[List.getElem?_set_self']at h
     cases hq:σ[k]? with
     |none=>rw[hq]at h;cases h
     |some z=>rw[hq]at h;cases h;exact hon j xss _ (Ne.symm hne) e0 hb rfl
   · rw[List.getElem?_set_ne nk]
     exact(r.on j xss e0).2.1 b hb k ok
theorem aP.new{i:Nat}{p:Addr}{s:Slot}{o:HO}(r:aP M G F0 H F σ ρ)(hp:H p=none)(own:Own M H F s o):
   Mv F H (fun b=>F b∨b=p) (upd H p o)∧aP M G F0 (upd H p o) (fun b=>F b∨b=p) (σ.set i (some (.ref p))) (ρ.set i s):=by
 have ne:∀b u,H b=some u→b≠p:=fun b u e z=>by subst z;rw[hp]at e;cases e
 have mv:Mv F H (fun b=>F b∨b=p) (upd H p o):=fun b u n e=>⟨fun h=>h.elim n (ne b u e),by rw[L2.aC (ne b u e)];exact e⟩
 have hG:G p=none:=r.sm.free hp
 refine⟨mv,⟨r.rs.put mv (fun _ h=>.inl h) (.inr rfl) L2.bt (fun b u _ n e=>by rw[L2.aC n];exact e) (fun _ h=>h) (fun j _ oj e=>?_) (fun j xss b _ e hb z=>by
     obtain⟨_,xs,hx⟩:=eS.f hb
     exact ne b _ hx z) (own.mv mv),fun b u e=>by rw[L2.aC (ne b u (r.sm b u e))];exact r.sm b u e,fun b h=>.inl (r.sub b h),r.dD,fun j a oj e=>?_,fun j xss b e hb=>?_⟩⟩
 · obtain⟨a,_,u,_,e1,_,e2,_⟩:=r.rs.ownAt oj
   rw[e1]at e;cases e
   exact ne _ _ e2 rfl
 · rcases i3 oj with rfl|⟨nj,oj⟩
   · rw[List.getElem?_set]at e
     split at e
     · split at e
       ·cases e;exact hG
       ·cases e
     ·rename_i h;exact absurd rfl h
   · rw[List.getElem?_set_ne nj]at e
     exact r.own j a oj e
 · rcases get_set e with⟨_,x,_⟩|⟨hne,e⟩
   ·rcases own with⟨ds,xs,rfl,_⟩|⟨ks,ds,xs,rfl,_⟩<;>cases x
   ·exact r.eB j xss b e (r.rs.on.back (fun y ey=>by rw[List.getElem?_set_ne hne]at ey;exact ey) (List.getElem?_set_ne hne) (fun a u _ _ hu=>by rw[L2.aC (ne a u hu)];exact hu) (fun a u _ hu=>by rw[L2.aC (ne a u hu)];exact hu) hb)
theorem aP.chg{i:Nat}{a:Addr}{s:Slot}{o:HO}(r:aP M G F0 H F σ ρ)(oi:bh ρ i)(ei:σ[i]? =some (some (.ref a)))(own:Own M H F s o):
   Mv F H F (upd H a o)∧aP M G F0 (upd H a o) F σ (ρ.set i s):=by
 obtain⟨a',_,u,_,e1,fa,e2,_⟩:=r.rs.ownAt oi
 rw[ei]at e1;cases e1
 have mv:Mv F H F (upd H a o):=fun b v n e=>⟨n,by rw[L2.aC (fun z=>by subst z;exact n fa)];exact e⟩
 have hG:=r.own i a oi ei
 have hs:σ.set i (some (.ref a))=σ:=by
   obtain⟨hl,h⟩:=List.getElem?_eq_some_iff.mp ei
   rw[←h];exact List.set_getElem_self hl
 have key:=r.rs.put (i:=i) mv (fun _ h=>h) fa L2.bt (fun b u _ n e=>by rw[L2.aC n];exact e) (fun _ h=>.inl h) (fun j nj oj e=>nj (r.rs.bX j i a oj oi e ei)) (fun j xss b _ e hb z=>by subst z;exact(r.rs.on j xss e).2.1 _ hb i oi ei) (own.mv mv)
 rw[hs]at key
 refine⟨mv,⟨key,fun b u e=>by rw[L2.aC (fun z=>by subst z;rw[hG]at e;cases e)];exact r.sm b u e,r.sub,r.dD,fun j b oj e=>?_,fun j xss b e hb=>?_⟩⟩
 · rcases i3 oj with rfl|⟨nj,oj⟩
   ·rw[ei]at e;cases e;exact hG
   ·exact r.own j b oj e
 · rcases get_set e with⟨_,x,_⟩|⟨hne,e⟩
   ·rcases own with⟨ds,xs,rfl,_⟩|⟨ks,ds,xs,rfl,_⟩<;>cases x
   · refine r.eB j xss b e (r.rs.on.back (fun y ey=>by rw[List.getElem?_set_ne hne]at ey;exact ey) rfl (fun c u hc _ hu=>?_) (fun a' u n hu=>(mv a' u n hu).2) hb)
     rw[L2.aC (fun z=>by subst z;exact(r.rs.on j xss e).2.1 _ hc i oi ei)];exact hu
theorem vo{i:Nat}{a:Addr}{d:D}(r:eS M H F σ ρ)(oi:bh ρ i)(ei:σ[i]? =some (some (.ref a)))(mv:Mv F H F' H)(hF:∀b,F b→b≠a→F' b):eS M H F' σ (ρ.set i (.sh d)):=by
 have old:∀(j:Nat) xss,(ρ.set i (.sh d))[j]? =some (.on xss)→ρ[j]? =some (.on xss):=fun j xss e=>by
   rcases get_set e with⟨_,x,_⟩|⟨hne,e⟩
   ·cases x
   ·exact e
 refine r.mv mv (fun j xss e=>⟨old j xss e,rfl⟩) (fun j xss b u e hb f hu=>⟨hF b f fun z=>?_,hu⟩) fun j xss b e hb k ok=>(r j xss (old j xss e)).2.1 b hb k ok.dN.2
 subst z
 exact(r j xss (old j xss e)).2.1 _ hb i oi ei
theorem aP.EI{i:Nat}{a:Addr}{s:Slot}{d:D}(r:aP M G F0 H F σ ρ)(oi:bh ρ i)(es:ρ[i]? =some s)(ei:σ[i]? =some (some (.ref a)))(hd:∃ds,s=.ol ds∧d=.lst ds):
   ∃F',(F'=fun b=>F b∧b≠a)∧Mv F H F' H∧aP M G F0 H F' σ (ρ.set i (.sh d)):=by
 obtain⟨a',s',u,es',e1,fa,e2,ow⟩:=r.rs.ownAt oi
 rw[ei]at e1;cases e1
 rw[es]at es';cases es'
 have hG:=r.own i a oi ei
 have mv:Mv F H (fun b=>F b∧b≠a) H:=fun b v n e=>⟨fun h=>n h.1,e⟩
 have hrep:Rep M H (fun b=>F b∧b≠a) d (.ref a):=by
   obtain⟨ds,rfl,rfl⟩:=hd
   rcases ow with⟨ds',xs,h1,rfl,rs⟩|⟨ks,ds,xs,h1,_⟩
   · cases h1
     simp only[Rep]
     exact⟨a,xs,rfl,.inl ⟨fun h=>h.2 rfl,.inl e2⟩,rs.mv mv⟩
   ·cases h1
 refine⟨fun b=>F b∧b≠a,rfl,mv,⟨⟨by simp[r.rs.len],fun b h=>r.rs.aT b h.1,?_,?_,?_,?_,?_⟩,r.sm,fun b h=>⟨r.sub b h,fun z=>by subst z;obtain⟨o,e⟩:=r.dD _ h;rw[hG]at e;cases e⟩,r.dD,?_,?_⟩⟩
 · intro j e q
   rcases get_set q with⟨rfl,hx,hl⟩|⟨hne,q⟩
   · cases hx
     exact⟨_,ei,hrep⟩
   · obtain⟨w,e1,g⟩:=r.rs.sh j e q
     exact⟨w,e1,g.mv mv⟩
 · intro j e q
   rcases get_set q with⟨rfl,x,hl⟩|⟨hne,q⟩
   ·cases x
   · obtain⟨b,xs,e1,f,e3,g⟩:=r.rs.ol j e q
     exact⟨b,xs,e1,⟨f,fun z=>by subst z;exact hne (r.rs.bX i j _ oi (.inl ⟨_,q⟩) ei e1)⟩,e3,g.mv mv⟩
 · intro j k e q
   rcases get_set q with⟨rfl,x,hl⟩|⟨hne,q⟩
   ·cases x
   · obtain⟨b,xs,e1,f,e3,l,g⟩:=r.rs.od j k e q
     exact⟨b,xs,e1,⟨f,fun z=>by subst z;exact hne (r.rs.bX i j _ oi (.inr ⟨_,_,q⟩) ei e1)⟩,e3,l,g.mv mv⟩
 · intro j k b oj ok ej ek
   exact r.rs.bX j k b oj.dN.2 ok.dN.2 ej ek
 ·exact vo r.rs.on oi ei mv (fun b f n=>⟨f,n⟩)
 · intro j b oj e
   exact r.own j b oj.dN.2 e
 · intro j xss b e hb
   rcases get_set e with⟨_,x,_⟩|⟨hne,e⟩
   ·cases x
   ·exact r.eB j xss b e (r.rs.on.back (fun y ey=>by rw[List.getElem?_set_ne hne]at ey;exact ey) rfl (fun c u _ _ hu=>hu) (fun _ _ _ e=>e) hb)
theorem aP.frz{i:Nat}{a:Addr}{s:Slot}{u:HO}{d:D}(r:aP M G F0 H F σ ρ)(oi:bh ρ i)(es:ρ[i]? =some s)(ei:σ[i]? =some (some (.ref a)))(hd:∃ds,s=.ol ds∧d=.lst ds):
   ∃F',Mv F H F' H∧aP M G F0 H F' σ (ρ.set i (.sh d)):=let⟨F',_,m,h⟩:=r.EI oi es ei hd;⟨F',m,h⟩
theorem aP.yY{i:Nat}{ks:List Ky}{ds:List D}(r:aP M G F0 H F σ ρ)(es:ρ[i]? =some (.od ks ds)):∃a kvs,H a=some (.dK kvs)∧∀ob,∃F',(F'=fun b=>F b∧b≠a)∧Mv F H F' (upd H a (.frz ob (.dK kvs)))∧aP M G F0 (upd H a (.frz ob (.dK kvs))) F' σ (ρ.set i (.sh (.ao ks ds))):=by
 have oi:bh ρ i:=.inr ⟨_,_,es⟩
 obtain⟨a,xs,ei,fa,e2,hl,rs⟩:=r.rs.od i ks ds es
 refine⟨a,ks.zip xs,e2,fun ob=>?_⟩
 have hG:=r.own i a oi ei
 have ne:∀b,¬F b→b≠a:=fun b n z=>by subst z;exact n fa
 have mv:Mv F H (fun b=>F b∧b≠a) (upd H a (.frz ob (.dK (ks.zip xs)))):=fun b v n e=>⟨fun h=>n h.1,by rw[L2.aC (ne b n)];exact e⟩
 refine⟨fun b=>F b∧b≠a,rfl,mv,⟨⟨by simp[r.rs.len],fun b h=>?_,?_,?_,?_,?_,?_⟩,fun b u e=>by rw[L2.aC (fun z=>by subst z;rw[hG]at e;cases e)];exact r.sm b u e,fun b h=>⟨r.sub b h,fun z=>by subst z;obtain⟨o,e⟩:=r.dD _ h;rw[hG]at e;cases e⟩,r.dD,?_,?_⟩⟩
 · obtain⟨o,e⟩:=r.rs.aT b h.1
   exact⟨o,by rw[L2.aC h.2];exact e⟩
 · intro j e q
   rcases get_set q with⟨rfl,hx,hl⟩|⟨hne,q⟩
   · cases hx
     refine⟨_,ei,?_⟩
     simp only[Rep]
     exact⟨a,xs,rfl,.inl ⟨fun h=>h.2 rfl,ob,L2.bt⟩,by assumption,rs.mv mv⟩
   · obtain⟨w,e1,g⟩:=r.rs.sh j e q
     exact⟨w,e1,g.mv mv⟩
 · intro j e q
   rcases get_set q with⟨rfl,x,hl⟩|⟨hne,q⟩
   ·cases x
   · obtain⟨b,ys,e1,f,e3,g⟩:=r.rs.ol j e q
     have hb:b≠a:=fun z=>by subst z;exact hne (r.rs.bX i j _ oi (.inl ⟨_,q⟩) ei e1)
     exact⟨b,ys,e1,⟨f,hb⟩,by rw[L2.aC hb];exact e3,g.mv mv⟩
 · intro j k e q
   rcases get_set q with⟨rfl,x,hl⟩|⟨hne,q⟩
   ·cases x
   · obtain⟨b,ys,e1,f,e3,l,g⟩:=r.rs.od j k e q
     have hb:b≠a:=fun z=>by subst z;exact hne (r.rs.bX i j _ oi (.inr ⟨_,_,q⟩) ei e1)
     exact⟨b,ys,e1,⟨f,hb⟩,by rw[L2.aC hb];exact e3,l,g.mv mv⟩
 · intro j k b oj ok ej ek
   exact r.rs.bX j k b oj.dN.2 ok.dN.2 ej ek
 · have old:∀(j:Nat) xss,(ρ.set i (.sh (.ao ks ds)))[j]? =some (.on xss)→ρ[j]? =some (.on xss):=fun j xss e=>by
     rcases get_set e with⟨_,x,_⟩|⟨hne,e⟩
     ·cases x
     ·exact e
   refine r.rs.on.mv mv (fun j xss e=>⟨old j xss e,rfl⟩) (fun j xss b u e hb f hu=>?_) fun j xss b e hb k ok=>(r.rs.on j xss (old j xss e)).2.1 b hb k ok.dN.2
   have hba:b≠a:=fun z=>by subst z;exact(r.rs.on j xss (old j xss e)).2.1 _ hb i oi ei
   exact⟨⟨f,hba⟩,by rw[L2.aC hba];exact hu⟩
 · intro j b oj e
   exact r.own j b oj.dN.2 e
 · intro j xss b e hb
   rcases get_set e with⟨_,x,_⟩|⟨hne,e⟩
   ·cases x
   · refine r.eB j xss b e (r.rs.on.back (fun y ey=>by rw[List.getElem?_set_ne hne]at ey;exact ey) rfl (fun c u hc _ hu=>?_) (fun a' u n hu=>(mv a' u n hu).2) hb)
     rw[L2.aC (fun z=>by subst z;exact(r.rs.on j xss e).2.1 _ hc i oi ei)];exact hu
theorem yL(i:Nat){rest:List Stmt}{fs:List Sm}(h:dj X rest (ak fs)):dj X rest (ak (eO i::fs)):=fun F0 pins s σ H D I ⟨ρ,F,fl,r,e,q⟩=>by
 obtain⟨f1,e1,e⟩:=aq.mp e
 unfold eO at e1
 split at e1
 · rename_i xs q1
   cases e1
   have oi:bh ρ i:=.inl ⟨_,q1⟩
   obtain⟨a,_,_,_,ea,_⟩:=r.rs.ownAt oi
   obtain⟨F',mv,r'⟩:=r.frz (u:=.lst []) oi q1 ea ⟨_,rfl,rfl⟩
   exact h F0 pins s σ H D I ⟨_,F',fl,r',e,q.mv mv⟩
 · rename_i ks vs q1
   cases e1
   obtain⟨a,kvs,ha,k⟩:=r.yY q1
   obtain⟨ob,I'⟩:=qz I ha
   obtain⟨F',_,mv,r'⟩:=k ob
   exact h F0 pins s σ _ D I' ⟨_,F',fl,r',e,q.mv mv⟩
 ·cases e1
noncomputable def Ae(M:Md)(f:Ex):TE:=fun σ H Q=>∃ρ F ds,aQ M H F σ ρ∧f ρ=.ok (.lst ds)∧∀p H' xs,af H H'→H' p=none→ae M H' F ds xs→Q (.ref p) (upd H' p (.lst xs))
noncomputable abbrev JF(X:Cx)(e:Expr)(f:Ex):Prop:=PE X e (Ae (aw X) f)
theorem xy{es:List Expr}{fs:List Ex}(h:JA X es (eList fs))(hl:fs.length≤1000:=by decide):JF X (.List es pos) (cz fs):=
 bq (L2.og h) fun σ H Q ⟨ρ,F,d,hr,e,q⟩=>by
   obtain⟨as,ea,e⟩:=aq.mp e
   cases e
   refine⟨ρ,F,_,hr,ea,fun xs H1 s1 rs=>⟨?_,fun p hp=>q p H1 xs s1 hp rs⟩⟩
   rw[←rs.length,ib ea]
   exact Nat.le_trans hl (by decide)
theorem xC(i:Nat){x:Str}{e:Expr}{f:Ex}{p2:Pos}(hN:X.N.Nodup)(he:JF X e f)(hi:X.N[i]? =some x:=by rfl)(hx:L2.Loc X.env.scope x:=by exact Or.inl rfl)(hf:X.fn x=true∨X.env.scope.names.lookup x=some .local:=by first|exact .inl rfl|exact .inr rfl)
   (hs:swapsWith e (some (.Name x p2)) pos.line X.env=pure false:=by rfl):JS X (.Assign [.Name x p2] e pos) (jJ i f):=fun F0=>
 dZ (L2.lH hN hi hx he hs hf) fun D σ H ⟨ρ,F,fl,r,e,q⟩=>by
   obtain⟨d,ed,e⟩:=aq.mp e
   split at e
   · cases e
     refine⟨ρ,F,_,r.rs,ed,fun p H1 xs s1 hp rs=>?_⟩
     obtain⟨mv,r'⟩:=(r.same s1).new (i:=i) (s:=.ol _) hp (.inl ⟨_,xs,rfl,rfl,rs⟩)
     exact q _ _ _ (Mv.trans (.same s1) mv) r'
   ·cases e
theorem Dz(i:Nat){x:Str}{e:Expr}{f:Ex}{p2 apos cpos:Pos}(he:JE X e f)(hN:X.N[i]? =some x:=by rfl)(hv:L2.cR X.env.scope x:=by first|exact Or.inl rfl|exact Or.inr (Or.inl rfl)|exact Or.inr (Or.inr rfl))(hd:(x==("__debug__":Str))=false:=by decide)
   (hcd:(x==("__classdict__":Str))=false:=by decide) (hbase:attributeBase (.Name x p2) "append" X.env (eval (.Name x p2) X.env)=eval (.Name x p2) X.env:=by rfl)
   (hfew:((backTo cpos (starEach [e] X.env)).all (fun x=> !x.1)&&(backToKw cpos (keywordEach [] X.env)).all (fun x=>x.1.isSome)
     &&decide (([e]:List Expr).length+([]:List Keyword).length+(if([]:List Keyword).isEmpty then 0 else 1)<30))=true:=by rfl)
   (hline:(apos.endLine==cpos.line)=true:=by rfl) (hs:starEach [e] X.env=(false,eval e X.env)::starEach [] X.env:=by rfl)
   (hsw:swapsWith (.Call (.Attribute (.Name x p2) "append" apos) [e] [] cpos) none pos.line X.env=pure false:=by rfl):
   JS X (.Expr (.Call (.Attribute (.Name x p2) "append" apos) [e] [] cpos) pos) (iZ i f):=fun F0=>
 dZ (L2.ti (L2.sy PySem.F.plainAttrs_list PySem.F.slot_list_append PySem.F.type_list_append L2.rC (L2.pv i hN hv hd hcd) (fH he gA hs) hbase hfew hline hs) hsw) fun D σ H ⟨ρ,F,fl,r,e,q⟩=>by
   obtain⟨d,ed,e⟩:=aq.mp e
   split at e
   · rename_i xs q1
     split at e
     · rename_i hlt
       cases e
       have oi:bh ρ i:=.inl ⟨_,q1⟩
       obtain⟨a,ys,ea,fa,ha,rs⟩:=r.rs.ol i _ q1
       refine⟨_,ea,.inl ⟨rfl,ys,aY.of ha⟩,ρ,F,[d],r.rs,by show(f ρ).bind _=_;rw[ed];rfl,fun vs H1 s1 rv=>?_⟩
       obtain⟨y,rfl,ry⟩:=rv.one
       have r1:=r.same s1
       refine⟨a,ys,y,rfl,rfl,s1 _ _ ha,by rw[←rs.length];exact hlt,?_⟩
       obtain⟨mv,r'⟩:=r1.chg (s:=.ol (xs++[d])) oi ea (.inl ⟨_,ys++[y],rfl,rfl,(rs.mv (.same s1)).append (ae.cons ry ae.nil)⟩)
       exact q _ _ _ (Mv.trans (.same s1) mv) r'
     ·cases e
   ·cases e
structure Df(P:Program)(w:World)(K:PySem.W.Frag)(mg:Str→Option Value)(base:Heap)(x:Str)(k n:Nat)(m:List D→R D):Prop where
 ex:∃f fd ps,L2.cO P w K mg base L2.eE k f fd ps (gd ⟨K,P,w⟩ m n)∧L2.Binds K fd ps []∧PySem.W.keepIn K (.ref f)=true∧mg x=some (.ref f)
theorem D9{m:List D→R D}{n:Nat}{fs:List Ex}{Q:VK}{E:XK}(hn:fs.length=n)(h:tP M (aN m fs) σ H Q):L2.mr (gd M m n) [] E (my M (eList fs)) σ H Q:=by
 obtain⟨ρ,F,d,hr,e,q⟩:=h
 obtain⟨ds,eds,e⟩:=aq.mp e
 refine⟨ρ,F,ds,hr,eds,fun vs H1 s1 rs=>?_⟩
 show gd M m n (vs++[]) H1 Q E
 rw[List.append_nil]
 exact⟨F,ds,d,(hr.same s1).aT,rs,by rw[ib eds];exact hn,e,fun v H2 s2 rv=>q v H2 (s1.trans s2) rv⟩
theorem zw{x:Str}{k j n:Nat}{m:List D→R D}{e:Expr}{es:List Expr}{fs:List Ex}{p:Pos}(d:Df X.prog X.w X.K X.mg X.base x k n m)(hr:L2.bE j X.A)(hg:L2.Gl X x)(ha:JA X (e::es) (eList fs))(hk:k≤j:=by decide)(hn:fs.length=n:=by rfl)
   (hdb:(x==("__debug__":Str))=false:=by decide) (he:starEach (e::es) X.env=(false,eval e X.env)::starEach es X.env:=by rfl) (hpl:(backTo pos (starEach es X.env)).any (·.1)=false:=by rfl):JE X (.Call (.Name x p) (e::es) [] pos) (aN m fs):=by
 obtain⟨f,fd,ps,h1,h2,h3,h4⟩:=d.ex
 exact bq (L2.vz h1 (hr.mono hk) hg h4 h3 h2 .nil L2.nL ha hdb he hpl) fun σ H Q h=>D9 hn h
theorem yw{x:Str}{k j:Nat}{m:List D→R D}{p:Pos}(d:Df X.prog X.w X.K X.mg X.base x k 0 m)(hr:L2.bE j X.A)(hg:L2.Gl X x)(hk:k≤j:=by decide)(hdb:(x==("__debug__":Str))=false:=by decide):JE X (.Call (.Name x p) [] [] pos) (aN m []):=by
 obtain⟨f,fd,ps,h1,h2,h3,h4⟩:=d.ex
 refine bq (L2.zy h1 (hr.mono hk) hg h4 h3 h2 .nil L2.nL hdb) fun σ H Q ⟨ρ,F,d,hr,e,q⟩=>?_
 exact⟨F,[],d,hr.aT,ae.nil,rfl,e,q⟩
theorem vD{P:Program}{w:World}{K:PySem.W.Frag}{mg:Str→Option Value}{base:Heap}{x qual:Str}{st:Stmt}{f:Addr}{fd:FuncData}{N ps:List Str}{k n:Nat}{body:Sm}(Fu:L2.bB K x qual st f fd)(S:L2.bS N ps (L2.aI st))
   (h:∀(cdv:Value) (A:Around) (outer:List Env) (s:Shared) (H:Hp) (E:XK),L2.bE k (A.deeper (PyProof.Rows.envOfC qual (L2.aI st) s.heap.objs.size f cdv))→dj (L2.gb L2.eE P w K mg base N qual (L2.aI st) f cdv A outer s H E).fE (L2.bI st) body)
   (hn:ps.length=n:=by rfl):L2.cO P w K mg base L2.eE (k+1) f fd ps (gd ⟨K,P,w⟩ (fn N.length body) n):=by
 refine Fu.ok S (fun vs H Q E h=>?_) (fun cdv A outer s H vs Q E hr hsp=>?_)
 · obtain⟨F,ds,d,_,rs,hl,_⟩:=h
   rw[←rs.length,hl,hn]
 · refine⟨fun D σ H'=>∃F0,eP ⟨K,P,w⟩ H F0 body D σ H',fun pins s' σ H' D I ⟨F0,q⟩=>h cdv A outer s H E hr F0 pins s' σ H' D I q,?_⟩
   refine Cw (G:=H) (t:=fun D σ H'=>∃F0,eP ⟨K,P,w⟩ H F0 body D σ H') (fun F0 D σ H' h=>⟨F0,h⟩) hsp ?_
   have:=congrArg List.length S.pre
   rw[List.length_take]at this
   omega
theorem cP{P:Program}{w:World}{K:PySem.W.Frag}{mg:Str→Option Value}{base:Heap}{x qual:Str}{st:Stmt}{f:Addr}{fd:FuncData}{N ps:List Str}{k n:Nat}{body:Sm}(Fu:L2.bB K x qual st f fd)(hm:mg x=some (.ref f))(S:L2.bS N ps (L2.aI st))(hb:L2.Binds K fd ps [])
   (h:∀(cdv:Value) (A:Around) (outer:List Env) (s:Shared) (H:Hp) (E:XK),L2.bE k (A.deeper (PyProof.Rows.envOfC qual (L2.aI st) s.heap.objs.size f cdv))→dj (L2.gb L2.eE P w K mg base N qual (L2.aI st) f cdv A outer s H E).fE (L2.bI st) body)
   (hn:ps.length=n:=by rfl):Df P w K mg base x (k+1) n (fn N.length body):=⟨f,fd,ps,vD Fu S h hn,hb,Fu.kp,hm⟩
end
open L2 (It Turn cu)
section
variable{X:Cx}{M:Md}{G H H':Hp}{F0 F F':Addr→Prop}{σ:L2.St}{ρ:En}{pos:Pos}{DE:Ends}
theorem jn:cg M fS (L2.rI L2.lQ fun i j=>.int (i*j)):=by
 intro F H x y a b d Q tr ra rb e q
 unfold fS at e
 split at e
 · split at e
   · rename_i h
     cases e
     rw[Bool.or_eq_true]at h
     exact⟨_,_,bO ra,bO rb,h.elim (fun h=>.inl (uI h)) (fun h=>.inr (uI h)),q _ _ (af.refl _) dM⟩
   ·cases e
 ·cases e
noncomputable def jm(x:Str):It:=⟨fun i _=>i<x.cps.size,fun i H v H'=>H'=H∧∃c,x.cps[i]? =some c∧v=.str ⟨#[c]⟩,fun i _=>x.cps.size≤i⟩
theorem zK{P:Program}{w:World}{K:PySem.W.Frag}{tg:Expr}(x:Str)(t:Tok)(it:Addr):Turn P w K tg (jm x) [it] it (fun i h=>h.IsStrIter it "str_ascii_iterator" x t i) where
 mem:=by simp
 obj:=fun i h st b hb=>by
   have e:b=it:=by simpa using hb
   subst e
   obtain⟨o,e,c,d⟩:=st
   exact⟨o,e,fun v z=>by rw[d]at z;cases z⟩
 keep:=fun i h h' st k=>let⟨o,e,r⟩:=st;⟨o,k it (by simp) o e,r⟩
 item:=by
   intro X hP hw hK hc i pins s σ H E I hf st hg
   subst hP hw hK
   obtain⟨f0,f1,f2,f3,f4,f5⟩:=hf it (by simp)
   have hg:i<x.cps.size:=hg
   refine wpAny_pyNext_ascii_item st (c:=x.cps[i]) (by simp[hg]) fun h' st' sb=>?_
   have I1:Inv X pins σ H {s with heap:=h',toks:=s.toks+1}:=I.turned (t':=s.toks+1) (fun b o hb e=>(sb.2 b hb).trans e) f0 f1 f3 f4 f5
   obtain⟨o,e,c,d⟩:=id st'
   exact⟨_,rfl,L2.jl (s:={s with heap:=h',toks:=s.toks+1}) e c d (by decide) ⟨.str ⟨#[x.cps[i]]⟩,H,I1,⟨_,rfl⟩,⟨rfl,_,by simp[hg],rfl⟩,st',fun b hb=>(hf b hb).1⟩⟩
 done:=by
   intro X hP hw hK hc i pins s σ H E I hf st hg
   subst hP hw hK
   have hg:x.cps.size≤i:=hg
   obtain⟨f0,f1,f2,f3,f4,f5⟩:=hf it (by simp)
   exact wpAny_pyNext_ascii_end (I.ok.hd hc) st (by simp[hg]) fun h' eb=>⟨rfl,I.turned (t':=s.toks) (fun b o hb e=>eb b o hb e) f0 f1 f3 f4 f5⟩
 self:=fun _ _ _ _ _ st h=>wpAny_pyIter_striter_ascii st h
theorem yB{P:Program}{w:World}{K:PySem.W.Frag}{tg:Expr}(x:Str)(t:Tok)(it:Addr):Turn P w K tg (jm x) [it] it (fun i h=>h.IsStrIter it "str_iterator" x t i) where
 mem:=by simp
 obj:=fun i h st b hb=>by
   have e:b=it:=by simpa using hb
   subst e
   obtain⟨o,e,c,d⟩:=st
   exact⟨o,e,fun v z=>by rw[d]at z;cases z⟩
 keep:=fun i h h' st k=>let⟨o,e,r⟩:=st;⟨o,k it (by simp) o e,r⟩
 item:=by
   intro X hP hw hK hc i pins s σ H E I hf st hg
   subst hP hw hK
   obtain⟨f0,f1,f2,f3,f4,f5⟩:=hf it (by simp)
   have hg:i<x.cps.size:=hg
   refine wpAny_pyNext_wide_item st (c:=x.cps[i]) (by simp[hg]) fun h' st' sb=>?_
   have I1:Inv X pins σ H {s with heap:=h',toks:=s.toks+1}:=I.turned (t':=s.toks+1) (fun b o hb e=>(sb.2 b hb).trans e) f0 f1 f3 f4 f5
   obtain⟨o,e,c,d⟩:=id st'
   exact⟨_,rfl,L2.jl (s:={s with heap:=h',toks:=s.toks+1}) e c d (by decide) ⟨.str ⟨#[x.cps[i]]⟩,H,I1,⟨_,rfl⟩,⟨rfl,_,by simp[hg],rfl⟩,st',fun b hb=>(hf b hb).1⟩⟩
 done:=by
   intro X hP hw hK hc i pins s σ H E I hf st hg
   subst hP hw hK
   have hg:x.cps.size≤i:=hg
   obtain⟨f0,f1,f2,f3,f4,f5⟩:=hf it (by simp)
   exact wpAny_pyNext_wide_end (I.ok.hd hc) st (by simp[hg]) fun h' eb=>⟨rfl,I.turned (t':=s.toks) (fun b o hb e=>eb b o hb e) f0 f1 f3 f4 f5⟩
 self:=fun _ _ _ _ _ st h=>wpAny_pyIter_striter_wide st h
noncomputable def wI(K:PySem.W.Frag)(tl:TE):TI:=fun σ H R=>tl σ H fun x H1=>(∃a,x=.ref a∧(∃xs,aY K H1 a xs)∧R (L2.ly K a) H1)∨(∃a,x=.ref a∧(∃xs,bb K H1 a xs)∧R (L2.lD K a) H1)∨∃z,x=.str z∧R (jm z) H1
theorem vU{tg:Expr}{pins:List (Addr×Obj)}{R:It→Hp→Prop}{s1:Shared}{x:V}{v:Value}(I1:Inv X pins σ H s1)(r1:RelV x v)
   (q1:(∃a,x=.ref a∧(∃xs,aY X.K H a xs)∧R (L2.ly X.K a) H)∨(∃a,x=.ref a∧(∃xs,bb X.K H a xs)∧R (L2.lD X.K a) H)∨∃z,x=.str z∧R (jm z) H):
   wpAny (model X.prog X.w) X.A (pyIter v) (L2.nY X pins σ tg R) X.xe s1:=by
 have fp:∀b∈[s1.heap.objs.size],cu X pins H b:=fun b hb=>by
   have e:b=s1.heap.objs.size:=by simpa using hb
   subst e
   exact I1.jB (Nat.le_refl _) (I1.aD.fresh (Nat.le_refl _))
 rcases q1 with⟨a,rfl,⟨xs,hq⟩,q⟩|⟨a,rfl,⟨xs,hq⟩,q⟩|⟨z,rfl,q⟩
 · cases r1
   obtain⟨its,rv,p,hz⟩:=I1.list hq
   refine wpAny_pyIter_list p.isList ?_
   exact⟨s1.heap.objs.size,[s1.heap.objs.size],_,_,H,rfl,I1.kept (t':=s1.toks) fun b o e=>Heap.get?_push_of_some _ e,L2.zZ a _,⟨_,Heap.get?_push_size _ rfl,rfl,rfl⟩,fp,q⟩
 · cases r1
   obtain⟨its,rv,p,hz⟩:=I1.tuple hq
   refine wpAny_pyIter_tuple (show s1.heap.IsTuple a its.toArray from p) ?_
   exact⟨s1.heap.objs.size,[s1.heap.objs.size],_,_,H,rfl,I1.kept (t':=s1.toks) fun b o e=>Heap.get?_push_of_some _ e,L2.wt a _,⟨_,Heap.get?_push_size _ rfl,rfl,rfl⟩,fp,q⟩
 · obtain⟨t,rfl⟩:=r1
   cases ha:z.cps.all (· <128)
   · refine wpAny_pyIter_wide ha ?_
     exact⟨s1.heap.objs.size,[s1.heap.objs.size],_,_,H,rfl,I1.kept (t':=s1.toks) fun b o e=>Heap.get?_push_of_some _ e,yB z t _,⟨_,Heap.get?_push_size _ rfl,rfl,rfl⟩,fp,q⟩
   · refine wpAny_pyIter_ascii ha ?_
     exact⟨s1.heap.objs.size,[s1.heap.objs.size],_,_,H,rfl,I1.kept (t':=s1.toks) fun b o e=>Heap.get?_push_of_some _ e,zK z t _,⟨_,Heap.get?_push_size _ rfl,rfl,rfl⟩,fp,q⟩
theorem wC{tg l:Expr}{tl:TE}(hl:PE X l tl):L2.PI X tg l (wI X.K tl):=fun pins s σ H R I h=>
 L2.aE (hl pins s σ H _ I h) fun v s1 ⟨x,H1,I1,r1,q1⟩=>vU I1 r1 q1
theorem wY{x:Str}:Gives M (jm x) H F (x.cps.toList.map fun c=>.str ⟨#[c]⟩):=by
 intro H' F' mv tr
 refine⟨fun i d hd=>?_,?_⟩
 · rw[List.getElem?_map]at hd
   cases e:x.cps.toList[i]? with
   |none=>rw[e]at hd;cases hd
   | some c=>
     rw[e]at hd
     cases hd
     have e':x.cps[i]? =some c:=by simpa using e
     refine⟨show i<x.cps.size from(Array.getElem?_eq_some_iff.mp e').1,fun y H2 hy=>?_⟩
     obtain⟨rfl,c',hc',rfl⟩:=hy
     rw[e']at hc'
     cases hc'
     exact⟨af.refl _,jc⟩
 · show x.cps.size≤_
   simp
theorem CP{K:PySem.W.Frag}{d:D}{ds:List D}{x:V}{R:It→Hp→Prop}(e:items d=.ok ds)(rv:Rep M H F d x)(q:∀J,Gives M J H F ds→R J H):
   (∃a,x=.ref a∧(∃xs,aY M.K H a xs)∧R (L2.ly M.K a) H)∨(∃a,x=.ref a∧(∃xs,bb M.K H a xs)∧R (L2.lD M.K a) H)∨∃z,x=.str z∧R (jm z) H:=by
 unfold items at e
 split at e
 · cases e
   simp only[Rep]at rv
   obtain⟨a,xs,rfl,h,rs⟩:=rv
   exact .inl ⟨a,rfl,⟨xs,h.sq⟩,q _ (Ec h rs)⟩
 · cases e
   simp only[Rep]at rv
   obtain⟨a,xs,rfl,h,rs⟩:=rv
   exact .inr (.inl ⟨a,rfl,⟨xs,h.sq⟩,q _ (xI h rs)⟩)
 · cases e
   exact .inr (.inr ⟨_,eA rv,q _ wY⟩)
 ·cases e
theorem B6{tg l:Expr}{fa:Ex}(ha:JE X l fa):JI X tg l (iN fa):=
 lB (wC ha) fun σ H Q ⟨ρ,F,ds,r,e,q⟩=>by
   obtain⟨d,ed,e⟩:=aq.mp e
   exact⟨ρ,F,d,r,ed,fun v H1 s1 rv=>CP (K:=X.K) (M:=aw X) e rv fun J g=>q J H1 s1 g⟩
end
structure iL(P:Program)(w:World)(K:PySem.W.Frag)(mg:Str→Option Value)(x:Str)(d:D):Prop where
 ex:∃v u,mg x=some u∧RelV v u∧∀H F,Rep ⟨K,P,w⟩ H F d v
theorem xB{X:Cx}{pos:Pos}{x:Str}{d:D}(g:iL X.prog X.w X.K X.mg x d)(hg:L2.Gl X x)(hd:(x==("__debug__":Str))=false:=by decide):JE X (.Name x pos) (eC d):=by
 obtain⟨v,u,h1,h2,h3⟩:=g.ex
 exact C2 hg h1 h2 h3 hd
noncomputable def iB:Expr→Bool
 |.Starred .. =>false
 |_=>true
theorem bC{e:Expr}{es:List Expr}{env:Env}(h:iB e=true):starEach (e::es) env=(false,eval e env)::starEach es env:=by cases e<;>first|rfl|cases h
theorem nJ{pos:Pos}{env:Env}:∀ {es:List Expr},es.all iB=true→(backTo pos (starEach es env)).any (·.1)=false
 |[],_=>rfl
 | e::es,h=>by
   rw[List.all_cons,Bool.and_eq_true]at h
   rw[bC h.1]
   show(false||(backTo pos (starEach es env)).any (·.1))=false
   rw[Bool.false_or]
   exact nJ h.2
theorem rm{pos:Pos}{env:Env}:∀ {es:List Expr},es.all iB=true→(backTo pos (starEach es env)).all (fun x=> !x.1)=true
 |[],_=>rfl
 | e::es,h=>by
   rw[List.all_cons,Bool.and_eq_true]at h
   rw[bC h.1]
   show(true&&(backTo pos (starEach es env)).all (fun x=> !x.1))=true
   rw[Bool.true_and]
   exact rm h.2
theorem oG{cpos:Pos}{env:Env}{e:Expr}{es:List Expr}(h:(e::es).all iB=true)(hl:(e::es).length<30):((backTo cpos (starEach (e::es) env)).all (fun x=> !x.1)&&(backToKw cpos (keywordEach [] env)).all (fun x=>x.1.isSome)
     &&decide ((e::es).length+([]:List Keyword).length+(if([]:List Keyword).isEmpty then 0 else 1)<30))=true:=by
 rw[rm h,Bool.true_and]
 show(true&&decide ((e::es).length+0+0<30))=true
 rw[Bool.true_and,decide_eq_true_eq]
 exact hl
noncomputable def ri:Expr→Bool
 |.ListComp .. =>false
 |.SetComp .. =>false
 |.DictComp .. =>false
 |_=>true
theorem gG{e:Expr}{t:Option Expr}{l:Nat}{env:Env}(h:ri e=true):swapsWith e t l env=pure false:=by cases e<;>first|rfl|cases h
theorem yF{e tg:Expr}{l:Nat}{env:Env}(h:ri e=true):swapsWithSole [tg] e l env=pure false:=gG h
noncomputable def Dy:Expr→Bool
 |.Tuple .. =>false
 |.List .. =>false
 |_=>true
theorem CL{e tg:Expr}{env:Env}(h:Dy tg=true):swappedStores [tg] e env=pure none:=by
 cases tg<;>first|rfl|cases h
theorem uo{e:Expr}{es:List Expr}{env:Env}(h:iB e=true):(assignEach (e::es) env).map (·.2)=assign e env::(assignEach es env).map (·.2):=by cases e<;>first|rfl|cases h
theorem uZ{env:Env}:∀ {es:List Expr},(assignEach es env).length=es.length
 |[]=>rfl
 | e::es=>by
   have:=uZ (env:=env) (es:=es)
   cases e<;>(show(assignEach es env).length+1=_;rw[this];rfl)
theorem uC{env:Env}:∀ {es:List Expr},es.all iB=true→(assignEach es env).findIdx? (·.1)=none
 |[],_=>rfl
 | e::es,h=>by
   rw[List.all_cons,Bool.and_eq_true]at h
   have ih:=uC (env:=env) h.2
   have:∃t,assignEach (e::es) env=(false,t)::assignEach es env:=by
     have h1:=h.1
     cases e<;>first|exact⟨_,rfl⟩|cases h1
   obtain⟨t,e1⟩:=this
   rw[e1,List.findIdx?_cons,ih];rfl
noncomputable def z9:Expr→Bool
 |.Set .. =>false
 |_=>true
theorem qC{e:Expr}{env:Env}(h:z9 e=true):∀x,foldedSetIterable e env x=pure x:=by intro x;cases e<;>first|rfl|cases h
noncomputable def plainT:Expr→Bool
 |.UnaryOp .Not _ _=>false
 |.BoolOp .. =>false
 |.IfExp .. =>false
 |.Compare .. =>false
 |_=>true
theorem BH{e:Expr}{env:Env}(h:plainT e=true):∀whole,isTrue e env whole=(do let v ←whole;standAt e.pos;holding [v] (truthy v)):=by
 intro w
 cases e with
 |UnaryOp op _ _=>cases op<;>first|rfl|cases h
 |_=>first|rfl|cases h
theorem rL{x:Str}{p:Pos}{a:Str}{env:Env}{w:Sem Value}:attributeBase (.Name x p) a env w=w:=rfl
noncomputable def xu:Expr→Bool
 |.Slice .. =>false
 |_=>true
theorem nX{b:Expr}(h:xu b=true):L2.gW b:=by intro o i;cases b<;>first|rfl|cases h
theorem walk{l:PySem.W.OpenLaw}{q:Program}{loose:List Str}{XP:(Str→Option Value)→Heap→Prop}{YP:World→Heap→Prop}{d:DefRec}{K:Params→PySem.W.Frag}{k:Nat}{x:Str}{m:List D→R D}(hn:l.most=some 63)(hdf:d.params.defaults=[])(hr:L2.bE k PySem.callerA)
   (hY:∀(w:World) (h:Heap),YP w h→(K w.params).In h)
   (F:∀(w:World) (mg:Str→Option Value) (fa:Addr) (h:Heap),(K w.params).In h→h.Ns mainGlobals mg→mg d.name=some (.ref fa)→
     ∃fd:FuncData,(∀(s:Shared) (u:Value),BindsTo s fd ⟨[u],[]⟩ [(x,u)])∧∀base:Heap,(K w.params).In base→base.Ns mainGlobals mg→L2.cO l.prog w (K w.params) mg base L2.eE k fa fd [x] (gd ⟨K w.params,l.prog,w⟩ m 1))
   (hT:∀ns:List Int,ns.length≤63→m [.lst (ns.map .int)]=.ok (.bl true)):
   PySem.W.WalkO q loose XP YP l.row.toRowW d [] (fun f vs=>PySem.call f vs):=
 L2.yO (n:=63) (k:=k) (x:=x) (CX:=fun _=>L2.eE) (sp:=fun w=>gd ⟨K w.params,l.prog,w⟩ m 1) hn (by decide) hdf hr hY F (fun w H a ns hl _ hS=>by
   refine⟨fun _=>False,[.lst (ns.map .int)],.bl true,fun p h=>h.elim,ae.cons ?_ ae.nil,rfl,hT ns hl,fun v H' _ rv=>fA rv⟩
   have rints:∀(ns:List Int) (M:Md) (H:Hp),ae M H (fun _=>False) (ns.map D.int) (ns.map V.int):=by
     intro ns M H
     induction ns with
     |nil=>exact ae.nil
     |cons n r ih=>exact ae.cons dM ih
   simp only[Rep]
   refine⟨a,ns.map V.int,rfl,?_,rints ns _ H⟩
   rcases hS with h|h
   ·exact .inl ⟨fun h=>h,h⟩
   ·exact .inr h) fun _ _ _ _ _ z=>z
open L2 (Un)
section
variable{prog:Program}{w:World}{A:Around}{R:Result→Shared→Prop}{s:Shared}
theorem B9{elt target iter:Expr}{ifs:List Expr}{scope:Scope}{pos:Pos}{it acc:Value}{env:Env}(I:Nat→Shared→Prop)
   (turn:∀n s,I n s→wpAny (model prog w) A (pyNext it) (fun r s₁=>match r with
     |none=>R (.ok .next) s₁
     |some v=>wpAny (model prog w) A (letOwnedTupleGo target it v) (fun _ s₁'=>wpAny (model prog w) A (assign target env v) (fun _ s₂=>
         wpAny (model prog w) A (forIn ifs true fun c r=>if r=true then do let ok ←isTrue c env (eval c env);pure (ForInStep.yield ok)else pure (ForInStep.yield r)) (fun ok s₃=>
           if ok=true then wpAny (model prog w) A (eval elt env) (fun x s₄=>
             wpAny (model prog w) A (call (.builtin "list.append") [acc,x]) (fun _ s₅=>∃m,m<n∧I m s₅) (notedBy (model prog w) A env fun e s'=>R (.error e) s') s₄) (notedBy (model prog w) A env fun e s'=>R (.error e) s') s₃
           else ∃m,m<n∧I m s₃) (notedBy (model prog w) A env fun e s'=>R (.error e) s') s₂) (notedBy (model prog w) A env fun e s'=>R (.error e) s') s₁') (notedBy (model prog w) A env fun e s'=>R (.error e) s') s₁) (notedBy (model prog w) A env fun e s'=>R (.error e) s') s)
   (n:Nat) (h:I n s):codeAny (model prog w) A (.compLoop (.ListComp elt [⟨target,iter,ifs,0⟩] scope pos) 0 it acc env) R s:=by
 refine codeAny_loop rfl I (fun n s hI=>?_) n h
 show wpAny _ A ((compTurn (.ListComp elt [⟨target,iter,ifs,0⟩] scope pos) 0 it acc env).onRaise (fun x=>do noteFrame x env;theTreesLotGoes x)) _ _ s
 refine wpAny_noted ?_
 rw[compTurn_list]
 refine wpAny_bind (wpAny_standAt (wpAny_bind (wpAny_mono (turn n s hI) (fun r s₁ h₁=>?_) fun _ _ h'=>h')))
 cases r with
 |none=>exact wpAny_pure h₁
 | some v=>
   refine wpAny_bind (wpAny_mono h₁ (fun _ s₁' h₁'=>?_) fun _ _ h'=>h')
   refine wpAny_bind (wpAny_mono h₁' (fun _ s₂ h₂=>wpAny_bind (wpAny_mono h₂ (fun ok s₃ h₃=>?_) fun _ _ h'=>h')) fun _ _ h'=>h')
   cases ok with
   |false=>exact wpAny_pure ⟨rfl,h₃⟩
   | true=>
     exact wpAny_bind (wpAny_bind (wpAny_mono h₃ (fun x s₄ h₄=>wpAny_bind (wpAny_mono h₄ (fun _ s₅ h₅=>wpAny_pure (wpAny_pure ⟨rfl,h₅⟩)) fun _ _ h'=>h')) fun _ _ h'=>h'))
end
noncomputable def cH(X:Cx)(scope:Scope)(cl:List (Str×Addr))(C:Addr)(N:List Str)(s:Shared)(H:Hp)(fp:List Addr):Cx where
 prog:=X.prog
 w:=X.w
 K:=X.K
 mg:=X.mg
 base:=X.base
 A:=X.A
 N:=N
 b8:=s
 fj:=H
 env:=compEnvC scope cl C X.env
 outer:=X.stack
 stack:=X.stack
 ex:=fp
 fn:=fun x=>decide ((x,NameKind.cell)∈scope.names)
 calm:=X.calm
 pn:=[]
 xe:=X.xe
noncomputable abbrev ja(X:Cx)(ifs:List Expr)(cs:List aG):Prop:=Paired (fun e c=>JT X e c) ifs cs
theorem rl{X:Cx}{M:Md}(hM:M=aw X){pins:List (Addr×Obj)}{σ:L2.St}{ρ:En}{F:Addr→Prop}{E:Value→Shared→Prop}(hE:∀e s,X.xe e s→E e s):
   ∀ {ifs:List Expr} {cs:List aG},ja X ifs cs→∀ {s:Shared} {H:Hp} {t:Bool} {Q:Bool→Hp→Prop},Inv X pins σ H s→aQ M H F σ ρ→fG.kY cs ρ=.ok t→(∀H',af H H'→Q t H')→
     wpAny (model X.prog X.w) X.A (forIn ifs true fun c r=>if r=true then do let ok ←isTrue c X.env (eval c X.env);pure (ForInStep.yield ok)else pure (ForInStep.yield r)) (fun ok s'=>∃H',Inv X pins σ H' s'∧Q ok H') E s
 | [],_,.nil,s,H,t,Q,I,r,e,q=>by
   cases e
   exact wpAny_tests_nil ⟨H,I,q H (af.refl H)⟩
 | c::ifs,_,.cons h hs,s,H,t,Q,I,r,e,q=>by
   unfold fG.kY at e
   obtain⟨b,eb,e⟩:=aq.mp e
   rw[List.forIn_cons]
   simp only[if_true]
   refine wpAny_bind (wpAny_bind (wpAny_mono (h pins s σ H (fun b' H'=>b'=b∧af H H') I ⟨ρ,F,b,hM▸r,eb,fun H' s'=>⟨rfl,s'⟩⟩) (fun b' s1 h1=>wpAny_pure ?_) hE))
   obtain⟨H1,I1,rfl,s1'⟩:=h1
   dsimp only
   cases b' with
   | true=>
     rw[if_pos rfl]at e
     exact rl hM hE hs I1 (r.same s1') e fun H2 s2=>q H2 (s1'.trans s2)
   | false=>
     rw[if_neg (by decide)]at e
     cases e
     have pass:∀(l:List Expr) (s:Shared),(∃H',Inv X pins σ H' s∧Q false H')→wpAny (model X.prog X.w) X.A (forIn l false fun c r=>if r=true then do let ok ←isTrue c X.env (eval c X.env);pure (ForInStep.yield ok)else pure (ForInStep.yield r)) (fun ok s'=>∃H',Inv X pins σ H' s'∧Q ok H') E s:=by
       intro l
       induction l with
       |nil=>intro s h;exact wpAny_pure h
       | cons a l ih=>
         intro s h
         rw[List.forIn_cons]
         exact wpAny_bind (wpAny_pure (ih s h))
     exact pass ifs _ ⟨H1,I1,q H1 s1'⟩
theorem qE{env:Env}:∀(names:List (Str×NameKind)) (cs:List (Str×Addr)),(∀y∈names,y.2=.free→∃c,env.cells.lookup y.1=some c)→(∀x c,cs.lookup x=some c→env.cells.lookup x=some c)→
   ∃cl,(forIn names cs fun(x:Str×NameKind) r=>(if(x.2==.free)=true then do let c ←cellOf env x.1;pure (ForInStep.yield ((x.1,c)::r))else pure (ForInStep.yield r):Sem (ForInStep (List (Str×Addr)))))=(pure cl:Sem _)∧
     (∀x c,cl.lookup x=some c→env.cells.lookup x=some c)∧(∀x,(∃c,cs.lookup x=some c)∨(x,NameKind.free)∈names→∃c,cl.lookup x=some c)
 |[],cs,_,hc=>⟨cs,rfl,hc,fun x h=>h.elim (fun h=>h) fun h=>nomatch h⟩
 | (n,k)::names,cs,hn,hc=>by
   rw[List.forIn_cons]
   by_cases hk:k=.free
   · subst hk
     obtain⟨c,ec⟩:=hn _ List.mem_cons_self rfl
     obtain⟨cl,e,h1,h2⟩:=qE names ((n,c)::cs) (fun y hy=>hn y (List.mem_cons_of_mem _ hy)) (fun x d h=>by
       rw[List.lookup_cons]at h
       cases hx:x==n with
       |true=>rw[hx]at h;cases h;rw[beq_iff_eq.mp hx];exact ec
       |false=>rw[hx]at h;exact hc x d h)
     refine⟨cl,?_,h1,fun x h=>h2 x ?_⟩
     · have:cellOf env n=pure c:=by unfold cellOf;rw[show List.lookup n env.cells=some c from ec]
       simp only[beq_self_eq_true,if_true,this]
       exact e
     · rcases h with⟨d,h⟩|h
       · left
         rw[List.lookup_cons]
         cases x==n with
         |true=>exact⟨c,rfl⟩
         |false=>exact⟨d,h⟩
       · rcases List.mem_cons.mp h with h|h
         · cases h
           left
           rw[List.lookup_cons,beq_self_eq_true]
           exact⟨c,rfl⟩
         ·exact .inr h
   · obtain⟨cl,e,h1,h2⟩:=qE names cs (fun y hy=>hn y (List.mem_cons_of_mem _ hy)) hc
     refine⟨cl,?_,h1,fun x h=>h2 x (h.imp (fun h=>h) fun h=>?_)⟩
     · have:(k==NameKind.free)=false:=by cases k<;>first|rfl|exact absurd rfl hk
       simp only[this,Bool.false_eq_true,if_false]
       exact e
     · rcases List.mem_cons.mp h with h|h
       ·cases h;exact absurd rfl hk
       ·exact h
theorem yq{scope:Scope}{env:Env}(hn:∀y∈scope.names,y.2=.free→∃c,env.cells.lookup y.1=some c):
   ∃cl,closureFor scope env=pure cl∧(∀x c,cl.lookup x=some c→env.cells.lookup x=some c)∧∀x,(x,NameKind.free)∈scope.names→∃c,cl.lookup x=some c:=by
 obtain⟨cl,e,h1,h2⟩:=qE scope.names [] hn (fun x c h=>nomatch h)
 refine⟨cl,?_,h1,fun x h=>h2 x (.inr h)⟩
 unfold closureFor
 have:∀(l:List (Str×NameKind)) (cs:List (Str×Addr)),(forIn l cs fun(x:Str×NameKind) (r:List (Str×Addr))=>(match x with|(name,kind)=>do
     if(kind==.free)=true then
       let c ←cellOf env name
       pure (ForInStep.yield ((name,c)::r))
     else pure (ForInStep.yield r):Sem (ForInStep (List (Str×Addr)))))=forIn l cs fun(x:Str×NameKind) r=>(if(x.2==.free)=true then do let c ←cellOf env x.1;pure (ForInStep.yield ((x.1,c)::r))else pure (ForInStep.yield r):Sem (ForInStep (List (Str×Addr)))):=fun _ _=>rfl
 show(forIn scope.names [] _ >>= fun r=>pure r)=_
 first
   |(rw[show(forIn scope.names ([]:List (Str×Addr)) _:Sem (List (Str×Addr)))=pure cl from e];rfl)
   |(erw [e];rfl)
theorem qv{M:Model}{A:Around}{E:Value→Shared→Prop}{Q:List (Str×Addr)→Shared→Prop}:∀(names:List (Str×NameKind)) {s:Shared} {cells:List (Str×Addr)},(∀x c,cells.lookup x=some c→c<s.heap.objs.size)→(∀x y c,cells.lookup x=some c→cells.lookup y=some c→x=y)→
   (∀(h':Heap) (cells':List (Str×Addr)),(∀b o,s.heap.get? b=some o→h'.get? b=some o)→(∀x y c,cells'.lookup x=some c→cells'.lookup y=some c→x=y)→
     (∀x c,cells'.lookup x=some c→cells.lookup x=some c∨(s.heap.objs.size≤c∧h'.IsCell c none))→(∀x,(x,NameKind.cell)∈names→∃c,cells'.lookup x=some c∧s.heap.objs.size≤c)→(∀x c,cells.lookup x=some c→(x,NameKind.cell)∉names→cells'.lookup x=some c)→Q cells' {s with heap:=h'})→
   wpAny M A (forIn names cells fun(x:Str×NameKind) (r:List (Str×Addr))=>(match x with|(name,kind)=>if(kind==NameKind.cell)=true then do let a ←alloc {cls:=Value.type "cell",data:=Data.cell none};pure (ForInStep.yield ((name,a)::r))else pure (ForInStep.yield r):Sem (ForInStep (List (Str×Addr))))) Q E s
 | [],s,cells,_,inj,k=>by
   exact wpAny_pure (k s.heap cells (fun _ _ e=>e) inj (fun _ _ e=>.inl e) (fun _ h=>nomatch h) (fun _ _ e _=>e))
 | (n,kd)::names,s,cells,lt,inj,k=>by
   rw[List.forIn_cons]
   by_cases hk:kd=.cell
   · subst hk
     simp only[beq_self_eq_true,if_true]
     refine wpAny_bind (wpAny_bind (wpAny_alloc (wpAny_pure ?_)))
     dsimp only
     refine qv names (fun x c h=>?_) (fun x y c hx hy=>?_) fun h' cells' keep inj' h2 h3 h4=>?_
     · rw[Heap.size_push]
       rw[List.lookup_cons]at h
       cases hx:x==n with
       |true=>rw[hx]at h;cases h;exact Nat.lt_succ_self _
       |false=>rw[hx]at h;exact Nat.lt_succ_of_lt (lt x c h)
     · rw[List.lookup_cons]at hx hy
       cases ex:x==n with
       | true=>
         cases ey:y==n with
         |true=>rw[beq_iff_eq.mp ex,beq_iff_eq.mp ey]
         | false=>
           rw[ex]at hx;rw[ey]at hy;cases hx
           exact absurd (lt y _ hy) (Nat.lt_irrefl _)
       | false=>
         rw[ex]at hx
         cases ey:y==n with
         |true=>rw[ey]at hy;cases hy;exact absurd (lt x _ hx) (Nat.lt_irrefl _)
         |false=>rw[ey]at hy;exact inj x y c hx hy
     · have old:∀b o,s.heap.get? b=some o→h'.get? b=some o:=fun b o e=>keep b o (Heap.get?_push_of_some _ e)
       have new:h'.IsCell s.heap.objs.size none:=⟨_,keep _ _ (Heap.get?_push_size _ rfl),rfl⟩
       refine k h' cells' old inj' (fun x c h=>?_) (fun x hx=>?_) (fun x c h hx=>?_)
       · rcases h2 x c h with h|⟨h5,h6⟩
         · rw[List.lookup_cons]at h
           cases ex:x==n with
           |true=>rw[ex]at h;cases h;exact .inr ⟨Nat.le_refl _,new⟩
           |false=>rw[ex]at h;exact .inl h
         · rw[Heap.size_push]at h5
           exact .inr ⟨by omega,h6⟩
       · by_cases hm:(x,NameKind.cell)∈names
         · obtain⟨c,h5,h6⟩:=h3 x hm
           rw[Heap.size_push]at h6
           exact⟨c,h5,by omega⟩
         · have hxn:x=n:=by
             rcases List.mem_cons.mp hx with e|e
             ·exact(Prod.mk.inj e).1
             ·exact absurd e hm
           subst hxn
           exact⟨s.heap.objs.size,h4 x _ (by rw[List.lookup_cons,beq_self_eq_true]) hm,Nat.le_refl _⟩
       · refine h4 x c ?_ fun hm=>hx (List.mem_cons_of_mem _ hm)
         rw[List.lookup_cons]
         cases ex:x==n with
         |true=>exact absurd (by rw[beq_iff_eq.mp ex];exact List.mem_cons_self) hx
         |false=>exact h
   · have hk':(kd==NameKind.cell)=false:=by cases kd<;>first|rfl|exact absurd rfl hk
     simp only[hk',Bool.false_eq_true,if_false]
     refine wpAny_bind (wpAny_pure ?_)
     dsimp only
     refine qv names lt inj fun h' cells' keep inj' h2 h3 h4=>k h' cells' keep inj' h2 (fun x hx=>?_) (fun x c h hx=>h4 x c h fun hm=>hx (List.mem_cons_of_mem _ hm))
     rcases List.mem_cons.mp hx with e|e
     ·exact absurd (Prod.mk.inj e).2.symm hk
     ·exact h3 x e
theorem AK{M:Model}{A:Around}{E:Value→Shared→Prop}{Q:Env→Shared→Prop}{s:Shared}{scope:Scope}{cl:List (Str×Addr)}{env:Env}(lt:∀x c,cl.lookup x=some c→c<s.heap.objs.size)(inj:∀x y c,cl.lookup x=some c→cl.lookup y=some c→x=y)
   (k:∀(h':Heap) (cells':List (Str×Addr)),(∀b o,s.heap.get? b=some o→h'.get? b=some o)→(h'.Ns s.heap.objs.size fun _=>none)→(∀x y c,cells'.lookup x=some c→cells'.lookup y=some c→x=y)→
     (∀x c,cells'.lookup x=some c→cl.lookup x=some c∨(s.heap.objs.size+1≤c∧h'.IsCell c none))→(∀x,(x,NameKind.cell)∈scope.names→∃c,cells'.lookup x=some c∧s.heap.objs.size+1≤c)→(∀x c,cl.lookup x=some c→(x,NameKind.cell)∉scope.names→cells'.lookup x=some c)→
     Q {scope:=scope,locals:=s.heap.objs.size,globals:=env.globals,cells:=cells',qual:=env.qual,func:=none,code:=env.code,frame:=env.frame,builtins:=env.builtins} {s with heap:=h'}):
   wpAny M A (newFunctionEnv scope env.globals cl [] env.qual none Value.none (some env)) Q E s:=by
 unfold newFunctionEnv
 refine wpAny_bind (wpAny_alloc ?_)
 dsimp only
 refine wpAny_bind (wpAny_mono (qv (Q:=fun cells' s'=>Q {scope:=scope,locals:=s.heap.objs.size,globals:=env.globals,cells:=cells',qual:=env.qual,func:=none,code:=env.code,frame:=env.frame,builtins:=env.builtins} s') scope.names (fun x c h=>by rw[Heap.size_push];exact Nat.lt_succ_of_lt (lt x c h)) inj fun h' cells' keep inj' h2 h3 h4=>?_) (fun cells' s' hq=>?_) fun _ _ h=>h)
 · refine k h' cells' (fun b o e=>keep b o (Heap.get?_push_of_some _ e)) ?_ inj' (fun x c h=>?_) (fun x hx=>?_) h4
   · obtain⟨o,es,ep,h1,h2,h3,h4⟩:=Heap.Ns.new s.heap (Value.type "dict")
     exact⟨o,es,ep,keep _ _ h1,h2,h3,h4⟩
   · rcases h2 x c h with h|⟨h5,h6⟩
     ·exact .inl h
     ·rw[Heap.size_push]at h5;exact .inr ⟨h5,h6⟩
   · obtain⟨c,h5,h6⟩:=h3 x hx
     rw[Heap.size_push]at h6
     exact⟨c,h5,h6⟩
 ·exact wpAny_pure hq
set_option maxHeartbeats 1000000
noncomputable abbrev Xt:=En→R T
noncomputable def xD(e:Ex):Xt:=fun ρ=>(e ρ).bind fun d=>.ok (.d d)
noncomputable def oF(M:Md)(f:Xt):TE:=fun σ H Q=>∃ρ F t,aQ M H F σ ρ∧f ρ=.ok t∧∀v H' F' as,af H H'→(∀b∈as,H b=none)→as.Nodup→(∀b,F' b↔F b∨b∈as)→ag M H' F' t v as→Q v H'
noncomputable abbrev JX(X:Cx)(e:Expr)(f:Xt):Prop:=PE X e (oF (aw X) f)
noncomputable def fm(tg:bo)(cs:List aG)(el:Xt)(ρ:En):List D→R (List T)
 |[]=>.ok []
 | d::ds=>(tg d ρ).bind fun ρ1=>(fG.kY cs ρ1).bind fun t=>
   if t=true then(el ρ1).bind fun y=>(fm tg cs el ρ ds).bind fun ys=>.ok (y::ys)else fm tg cs el ρ ds
noncomputable def lW(it:br)(n:Nat)(fv:List Nat)(tg:bo)(cs:List aG)(el:Xt):En→R (List T):=fun ρ=>(it ρ).bind fun ds=>
 if ds.length≤dE then fm tg cs el (List.replicate n .un++frees ρ fv) ds else .bad
theorem p9{tg:bo}{cs:List aG}{el:Ex}{ρ:En}:∀ {ds ys:List D},fG tg cs el ρ ds=.ok ys→fm tg cs (xD el) ρ ds=.ok (ys.map .d)
 |[],_,h=>by cases h;rfl
 | d::ds,ys,h=>by
   unfold fG at h
   obtain⟨ρ1,e1,h⟩:=aq.mp h
   obtain⟨t,e2,h⟩:=aq.mp h
   unfold fm
   rw[e1,R.aW,e2,R.aW]
   cases t with
   | true=>
     rw[if_pos rfl]at h ⊢
     obtain⟨y,e3,h⟩:=aq.mp h
     obtain⟨zs,e4,h⟩:=aq.mp h
     cases h
     show((el ρ1).bind fun d=>R.ok (T.d d)).bind _=_
     rw[e3,R.aW,R.aW,p9 e4];rfl
   | false=>
     rw[if_neg (by decide)]at h ⊢
     exact p9 h
section
variable{M:Md}{H H':Hp}{F F':Addr→Prop}{as:List Addr}{σ:L2.St}{ρ:En}
theorem aQ.wide(r:aQ M H F σ ρ)(s1:af H H')(hn:∀b∈as,H b=none)(hF:∀b,F' b↔F b∨b∈as)(ht:∀b∈as,∃u,H' b=some u):Mv F H F' H'∧aQ M H' F' σ ρ:=by
 have mv:Mv F H F' H':=fun b o n e=>⟨fun f=>((hF b).mp f).elim n (fun hb=>by rw[hn b hb]at e;cases e),s1 _ _ e⟩
 refine⟨mv,⟨r.len,fun a f=>?_,fun i d e=>?_,fun i ds e=>?_,fun i ks ds e=>?_,r.bX,?_⟩⟩
 · rcases(hF a).mp f with f|f
   ·obtain⟨o,e⟩:=r.aT a f;exact⟨o,s1 _ _ e⟩
   ·exact ht a f
 ·obtain⟨v,e1,q⟩:=r.sh i d e;exact⟨v,e1,q.mv mv⟩
 ·obtain⟨a,xs,e1,f,e2,q⟩:=r.ol i ds e;exact⟨a,xs,e1,(hF a).mpr (.inl f),s1 _ _ e2,q.mv mv⟩
 ·obtain⟨a,xs,e1,f,e2,l,q⟩:=r.od i ks ds e;exact⟨a,xs,e1,(hF a).mpr (.inl f),s1 _ _ e2,l,q.mv mv⟩
 ·exact r.on.mv mv (fun j x e=>⟨e,rfl⟩) (fun j x b u e hb f hu=>⟨(hF b).mpr (.inl f),s1 _ _ hu⟩) fun j x b e hb k ok=>(r.on j x e).2.1 b hb k ok
theorem vt{X:Cx}{e:Expr}{f:Ex}(h:JE X e f):JX X e (xD f):=
 bq h fun σ H Q ⟨ρ,F,t,hr,e,q⟩=>by
   obtain⟨d,ed,e⟩:=aq.mp e
   cases e
   exact⟨ρ,F,d,hr,ed,fun v H1 s1 rv=>q v H1 F [] s1 (fun _ hb=>nomatch hb) List.nodup_nil (fun b=>by simp) (by rw[ag];exact⟨rfl,rv⟩)⟩
theorem mR:∀ {vs:List D} {xs:List V} {as:List Addr},ah M H F (vs.map .d) xs as↔as=[]∧ae M H F vs xs
 |[],xs,as=>by simp only[List.map_nil,ah,ae];exact And.comm
 | v::vs,xs,as=>by
   simp only[List.map_cons,ah,ae,ag]
   constructor
   · rintro⟨x,r,bs,cs,rfl,rfl,⟨rfl,h1⟩,h2⟩
     obtain⟨rfl,h3⟩:=mR.mp h2
     exact⟨rfl,x,r,rfl,h1,h3⟩
   · rintro⟨rfl,x,r,rfl,h1,h2⟩
     exact⟨x,r,[],[],rfl,rfl,⟨rfl,h1⟩,mR.mpr ⟨rfl,h2⟩⟩
theorem ah.append:∀ {ts us:List T} {xs ys:List V} {as bs:List Addr},ah M H F ts xs as→ah M H F us ys bs→ah M H F (ts++us) (xs++ys) (as++bs)
 | [],_,_,_,_,_,h,g=>by
   simp only[ah]at h
   obtain⟨rfl,rfl⟩:=h
   exact g
 | t::ts,_,_,_,_,_,h,g=>by
   simp only[ah]at h
   obtain⟨x,r,bs,cs,rfl,rfl,h1,h2⟩:=h
   rw[List.cons_append,List.cons_append,List.append_assoc]
   simp only[ah]
   exact⟨x,_,bs,_,rfl,rfl,h1,h2.append g⟩
theorem ah.len:∀ {ts:List T} {xs:List V} {as:List Addr},ah M H F ts xs as→ts.length=xs.length
 |[],xs,as,h=>by simp only[ah]at h;rw[h.1];rfl
 | t::ts,xs,as,h=>by
   simp only[ah]at h
   obtain⟨x,r,bs,cs,rfl,rfl,h1,h2⟩:=h
   simp[ah.len h2]
end
section
variable{X:Cx}{M:Md}{G H H':Hp}{F0 F F':Addr→Prop}{σ:L2.St}{ρ:En}{pos:Pos}
noncomputable def gU(n:Nat)(tg:bo):Prop:=∀d ρ ρ',tg d ρ=.ok ρ'→ρ'.length=ρ.length∧∀j:Nat,n≤j→ρ'[j]? =ρ[j]?
theorem rf{n i:Nat}(h:i<n):gU n (aF i):=fun d ρ ρ' e=>by
 cases e
 exact⟨by simp,fun j hj=>List.getElem?_set_ne (by omega)⟩
theorem tM{n:Nat}:∀ {is:List Nat} {ds:List D} {ρ ρ':En},is.all (· <n)=true→dA is ds ρ=.ok ρ'→ρ'.length=ρ.length∧∀j:Nat,n≤j→ρ'[j]? =ρ[j]?
 |[],[],_,_,_,e=>by cases e;exact⟨rfl,fun _ _=>rfl⟩
 | i::is,d::ds,ρ,ρ',h,e=>by
   rw[List.all_cons,Bool.and_eq_true,decide_eq_true_eq]at h
   simp only[dA]at e
   obtain⟨h1,h2⟩:=tM h.2 e
   exact⟨by rw[h1];simp,fun j hj=>by rw[h2 j hj];exact List.getElem?_set_ne (by omega)⟩
 |[],_::_,_,_,_,e=>by cases e
 |_::_,[],_,_,_,e=>by cases e
theorem A8{n:Nat}{is:List Nat}(h:is.all (· <n)=true):gU n (fP is):=fun d ρ ρ' e=>by
 unfold fP at e
 split at e
 ·exact tM h e
 ·cases e
theorem aQ.less{ρ':En}(r:aQ M H F σ ρ)(hl:ρ'.length=ρ.length)(h:∀(j:Nat) s,ρ'[j]? =some s→s=.un∨((∃d,s=.sh d)∧ρ[j]? =some s)):aQ M H F σ ρ' where
 len:=by rw[hl,r.len]
 aT:=r.aT
 sh i d e:=by
   rcases h i _ e with z|⟨_,z⟩
   ·cases z
   ·exact r.sh i d z
 ol i d e:=by
   rcases h i _ e with z|⟨⟨_,z⟩,_⟩<;>cases z
 od i k d e:=by
   rcases h i _ e with z|⟨⟨_,z⟩,_⟩<;>cases z
 bX i j a oi:=by
   rcases oi with⟨_,e⟩|⟨_,_,e⟩
   ·rcases h i _ e with z|⟨⟨_,z⟩,_⟩<;>cases z
   ·rcases h i _ e with z|⟨⟨_,z⟩,_⟩<;>cases z
 on:=.no fun i xss e=>by rcases h i _ e with z|⟨⟨_,z⟩,_⟩<;>cases z
theorem gT{ρ:En}(h:∀(j:Nat) s,ρ[j]? =some s→s=.un∨∃d,s=.sh d){i:Nat}(o:bh ρ i):False:=by
 rcases o with⟨_,e⟩|⟨_,_,e⟩
 ·rcases h i _ e with z|⟨_,z⟩<;>cases z
 ·rcases h i _ e with z|⟨_,z⟩<;>cases z
noncomputable def ent(n:Nat)(ρ:En)(fv:List Nat):En:=List.replicate n .un++frees ρ fv
theorem hX{n:Nat}{fv:List Nat}{j:Nat}{s:Slot}(h:(ent n ρ fv)[j]? =some s):s=.un∨((∃d,s=.sh d)∧n≤j∧∃i,fv[j - n]? =some i∧ρ[i]? =some s):=by
 unfold ent at h
 rw[List.getElem?_append,List.length_replicate]at h
 split at h
 · rename_i hn
   rw[List.getElem?_replicate,if_pos hn]at h
   cases h
   exact .inl rfl
 · rename_i hn
   unfold frees at h
   rw[List.getElem?_map]at h
   cases e:fv[j - n]? with
   |none=>rw[e]at h;cases h
   | some i=>
     rw[e]at h
     have hs:vh ρ[i]? =s:=by simpa using h
     subst hs
     cases hρ:ρ[i]? with
     |none=>exact .inl rfl
     | some z=>
       cases z with
       |sh d=>exact .inr ⟨⟨d,rfl⟩,by omega,i,rfl,hρ⟩
       |_=>exact .inl rfl
noncomputable def stC(n:Nat)(σ:L2.St)(fv:List Nat):L2.St:=List.replicate n none++fv.map fun i=>(σ[i]?).getD none
theorem As{n:Nat}{fv:List Nat}(r:aQ M H F σ ρ):aQ M H F (stC n σ fv) (ent n ρ fv) where
 len:=by unfold stC ent frees;simp
 aT:=r.aT
 sh j d e:=by
   rcases hX e with z|⟨_,hn,i,hi,z⟩
   ·cases z
   · obtain⟨v,ev,rv⟩:=r.sh i d z
     refine⟨v,?_,rv⟩
     unfold stC
     rw[List.getElem?_append_right (by simpa using hn),List.length_replicate,List.getElem?_map,hi]
     simp[ev]
 ol j d e:=by rcases hX e with z|⟨⟨_,z⟩,_⟩<;>cases z
 od j k d e:=by rcases hX e with z|⟨⟨_,z⟩,_⟩<;>cases z
 bX j k a oj:=by
   exact(gT (fun j s e=>(hX e).imp (fun h=>h) fun h=>h.1) oj).elim
 on:=.no fun j xss e=>by rcases hX e with z|⟨⟨_,z⟩,_⟩<;>cases z
theorem qm{scope:Scope}{env:Env}:∀ {names:List (Str×NameKind)} {x:Str} {k:NameKind},(names.map fun(n,k)=>if(k==NameKind.free&&env.scope.kind==.function&&env.kindOf n==some .cell)then(n,NameKind.cell)else(n,k)).lookup x=some k→
   (k=.cell∨k=.free)→(x,NameKind.free)∈names∨(x,NameKind.cell)∈names
 |[],_,_,h,_=>by simp at h
 | (n,q)::r,x,k,h,hk=>by
   have ih:=@qm scope env r x k
   have h':List.lookup x ((if(q==NameKind.free&&env.scope.kind==.function&&env.kindOf n==some .cell)=true then(n,NameKind.cell)else(n,q))::r.map fun(n,k)=>if(k==NameKind.free&&env.scope.kind==.function&&env.kindOf n==some .cell)then(n,NameKind.cell)else(n,k))=some k:=h
   cases hx:x==n with
   | true=>
     have:=beq_iff_eq.mp hx
     subst this
     by_cases hcnd:(q==NameKind.free&&env.scope.kind==.function&&env.kindOf x==some .cell)=true
     · have:q=.free:=by
         rw[Bool.and_eq_true,Bool.and_eq_true]at hcnd
         have:=hcnd.1.1
         cases q<;>first|rfl|cases this
       subst this
       exact .inl List.mem_cons_self
     · rw[if_neg hcnd,List.lookup_cons,beq_self_eq_true]at h'
       cases h'
       rcases hk with rfl|rfl
       ·exact .inr List.mem_cons_self
       ·exact .inl List.mem_cons_self
   | false=>
     refine(ih ?_ hk).imp (List.mem_cons_of_mem _) (List.mem_cons_of_mem _)
     by_cases hcnd:(q==NameKind.free&&env.scope.kind==.function&&env.kindOf n==some .cell)=true
     ·rw[if_pos hcnd,List.lookup_cons,hx]at h';exact h'
     ·rw[if_neg hcnd,List.lookup_cons,hx]at h';exact h'
theorem oS{env:Env}:∀ {names:List (Str×NameKind)} {x:Str},names.lookup x=some .free→(names.map fun(n,k)=>if(k==NameKind.free&&env.scope.kind==.function&&env.kindOf n==some .cell)then(n,NameKind.cell)else(n,k)).lookup x=some .cell∨
   (names.map fun(n,k)=>if(k==NameKind.free&&env.scope.kind==.function&&env.kindOf n==some .cell)then(n,NameKind.cell)else(n,k)).lookup x=some .free
 |[],_,h=>by simp at h
 | (n,q)::r,x,h=>by
   show List.lookup x ((if(q==NameKind.free&&env.scope.kind==.function&&env.kindOf n==some .cell)=true then(n,NameKind.cell)else(n,q))::r.map fun(n,k)=>if(k==NameKind.free&&env.scope.kind==.function&&env.kindOf n==some .cell)then(n,NameKind.cell)else(n,k))=_∨
     List.lookup x ((if(q==NameKind.free&&env.scope.kind==.function&&env.kindOf n==some .cell)=true then(n,NameKind.cell)else(n,q))::r.map fun(n,k)=>if(k==NameKind.free&&env.scope.kind==.function&&env.kindOf n==some .cell)then(n,NameKind.cell)else(n,k))=_
   rw[List.lookup_cons]at h
   by_cases hcnd:(q==NameKind.free&&env.scope.kind==.function&&env.kindOf n==some .cell)=true
   · rw[if_pos hcnd,List.lookup_cons]
     cases hx:x==n with
     |true=>exact .inl rfl
     |false=>rw[hx]at h;exact oS h
   · rw[if_neg hcnd,List.lookup_cons]
     cases hx:x==n with
     |true=>rw[hx]at h;exact .inr h
     |false=>rw[hx]at h;exact oS h
structure ip(X:Cx)(scope:Scope)(tn fv:List Str)(fvi:List Nat):Prop where
 kind:scope.kind=.function
 cells:∀y∈scope.names,y.2=.cell→scope.names.lookup y.1=some .cell
 names:∀y∈scope.names,y.2=.local→scope.names.lookup y.1=some .local
 free:∀y∈scope.names,y.2=.free→X.env.scope.names.lookup y.1=some .cell
 vQ:∀y∈scope.names,y.2=.free→scope.names.lookup y.1=some .free
 zV:∀(j:Nat) i,fvi[j]? =some i→∃x,fv[j]? =some x∧X.N[i]? =some x∧(x,NameKind.free)∈scope.names
 len:fv.length=fvi.length
theorem ud (tn fv:List Str) (fvi:List Nat) {elt iter target:Expr} {ifs:List Expr} {scope:Scope} {it:br} {tg:bo} {cs:List aG} {el:Xt} (hxe:∀e s,¬X.xe e s) (hc:X.calm=true) (ok:ip X scope tn fv fvi) (hi:JI X target iter it) (low:gU tn.length tg)
   (ht:∀cl C s H fp,JG (cH X scope cl C (tn++fv) s H fp) target tg) (hcs:∀cl C s H fp,ja (cH X scope cl C (tn++fv) s H fp) ifs cs) (hel:∀cl C s H fp,JX (cH X scope cl C (tn++fv) s H fp) elt el)
   (hs:∀x,foldedSetIterable iter X.env x=pure x) {use:Option (Value→Sem Unit)} {Qc:Value→Shared→Prop} {pins:List (Addr×Obj)} {s:Shared} {all:List T} {p1:Pos} (I:Inv X pins σ H s) (hr:aQ (aw X) H F σ ρ) (e:lW it tn.length fvi tg cs el ρ=.ok all)
   (hend:∀D C s4 H' vs Hq bs F2 f,(∃m,s4.heap.Ns C m)→Inv X pins σ H' s4→cu X pins H' C→af H Hq→Hq D=none→(∀b∈bs,H b=none)→bs.Nodup→(∀b,F2 b↔F b∨b∈bs)→ah (aw X) Hq F2 all vs bs→upd Hq D (.lst vs)=H'→compPost (model X.prog X.w) X.A X.xe use Qc (.ref D) C (.ok f) s4):
   wpAny (model X.prog X.w) X.A (comprehension (.ListComp elt [⟨target,iter,ifs,0⟩] scope pos) scope X.env p1 (newList []) false (eval iter X.env) use) Qc X.xe s:=by
 obtain⟨ds,ed,e⟩:=aq.mp e
 have hlen:ds.length≤sizeLine:=by
   by_cases h:ds.length≤dE
   ·exact h
   ·rw[if_neg h]at e;cases e
 rw[if_pos (show ds.length≤dE from hlen)]at e
 have ey:fm tg cs el (ent tn.length ρ fvi) ds=.ok all:=e
 obtain⟨cl,hclos,hsub,hhas⟩:=yq (scope:=scope) (env:=X.env) (fun y hy hf=>I.ok.has y.1 (.inl (ok.free y hy hf)))
 refine wpAny_comprehension_free (gs:=[]) rfl hs hclos ok.kind ok.names ?_
 refine L2.aE (hi pins s σ H _ I ⟨ρ,F,ds,hr,ed,fun J H' sm gv=>(⟨sm,gv⟩:af H H'∧Gives (aw X) J H' F ds)⟩) fun v s1 h1=>L2.aE h1 fun itv s2 h2=>?_
 obtain⟨ita,fp,tn',J,H2,rfl,I2,T,st2,f2,sm2,gv⟩:=h2
 have r2:=hr.same sm2
 have clt:∀x c,cl.lookup x=some c→c<s2.heap.objs.size:=fun x c h=>let⟨v,cc⟩:=I2.cell x c (hsub x c h);cc.lt
 refine wpAny_newObj_type (AK (fun x c h=>by show c<(Heap.push _ _).objs.size;rw[Heap.size_push];exact Nat.lt_succ_of_lt (clt x c h)) (fun x y c hx hy=>I2.ok.inj x y c (hsub x c hx) (hsub y c hy)) fun h₁ cells hkeep hns₁ cinj csub chas cold=>?_)
 dsimp only at hns₁ hkeep csub chas ⊢
 generalize hD:s2.heap.objs.size=D at hns₁ hkeep csub chas ⊢
 generalize hP:s2.heap.push {cls:=.type "list",dict:=none,data:=.seq ([]:List Value).toArray}=HP at hns₁ hkeep csub chas ⊢
 have hC:HP.objs.size=D+1:=by rw[←hP,Heap.size_push,hD]
 generalize hCC:HP.objs.size=C at hns₁ csub chas hC ⊢
 have lt2:∀b,b<s2.heap.objs.size→b≠C∧b≠D:=fun b hb=>by rw[hD]at hb;exact⟨by omega,by omega⟩
 have old:∀b o,s2.heap.get? b=some o→h₁.get? b=some o:=fun b o e=>hkeep b o (hP▸Heap.get?_push_of_some _ e)
 have hDC:D≠C:=by omega
 have hacc:h₁.get? D=some {cls:=.type "list",data:=.seq ([]:List Value).toArray}:=hkeep _ _ (hP▸(by rw[←hD];exact Heap.get?_push_size _ rfl))
 have nD:H2 D=none:=I2.aD.fresh (Nat.le_of_eq hD)
 have nC:H2 C=none:=I2.aD.fresh (by omega)
 have sub1:af H2 (upd H2 D (.lst [])):=af.cj nD _
 let X':Cx:=cH X scope cells C (tn++fv) s2 H2 fp
 have fO:∀x c,cells.lookup x=some c→∀b∈fp,c≠b:=fun x c hx b hb=>by
   rcases csub x c hx with h|⟨h,_⟩
   ·exact(f2 b hb).2.2.2.2.1 x c (hsub x c h)
   · obtain⟨o,ho,_⟩:=T.obj _ _ st2 b hb
     have:=Heap.lt_size ho
     rw[hD]at this
     exact Nat.ne_of_gt (Nat.lt_of_lt_of_le this (by omega))
 have okX:X'.Ok:=by
   have hmod:=I2.ok.mod
   refine⟨hmod,ok.kind,I2.ok.glob,I2.ok.blt,(show s2.heap.objs.size≤C by rw[hD];omega),cinj,fun x hx=>?_,fun x c hf hx=>?_,fun h=>I2.ok.hd h,I2.ok.frames,.inl rfl,fun b hb=>?_,fun b o hb=>I2.bs b o hb,Nat.le_trans I2.ok.gx I2.sz,fun b o hb hx=>?_,fun b hb hf=>?_,I2.stack,I2.sD⟩
   · have hx':(relabel scope X.env).names.lookup x=some .cell∨(relabel scope X.env).names.lookup x=some .free:=hx
     have hx2:(x,NameKind.free)∈scope.names∨(x,NameKind.cell)∈scope.names:=by
       rcases hx' with h|h
       ·exact qm (scope:=scope) h (.inl rfl)
       ·exact qm (scope:=scope) h (.inr rfl)
     by_cases hm:(x,NameKind.cell)∈scope.names
     · obtain⟨c,h5,_⟩:=chas x hm
       exact⟨c,h5⟩
     · obtain⟨c,h5⟩:=hhas x (hx2.resolve_right hm)
       exact⟨c,cold x c h5 hm⟩
   · have hf:decide ((x,NameKind.cell)∈scope.names)=true:=hf
     obtain⟨c',h5,h6⟩:=chas x (of_decide_eq_true hf)
     have hx:cells.lookup x=some c:=hx
     rw[hx]at h5
     cases h5
     show s2.heap.objs.size≤c
     rw[hD];omega
   · obtain⟨o,ho,_⟩:=T.obj _ _ st2 b hb
     exact⟨(lt2 b (Heap.lt_size ho)).1,fun x c hx=>fO x c hx b hb⟩
   · obtain⟨_,_,_,h4,_⟩:=f2 b hx
     rcases h4 with h4|h4
     ·exact I2.ok.kK b o hb h4
     ·exact absurd (Nat.lt_of_lt_of_le (Heap.lt_size hb) (Nat.le_trans I2.ok.gx h4)) (Nat.lt_irrefl _)
   · obtain⟨_,h1,h2,_⟩:=f2 b hb
     exact(List.mem_cons.mp (I2.mJ b hf)).elim h1 h2
 have fpX:∀ {H':Hp},(∀b∈fp,H' b=none)→∀b∈fp,cu X' [] H' b:=fun hn b hb=>by
   obtain⟨o,ho,_⟩:=T.obj _ _ st2 b hb
   refine⟨hn b hb,(lt2 b (Heap.lt_size ho)).1,fun hf=>?_,.inl hb,fun x c hx=>fO x c hx b hb,fun p hp=>nomatch hp⟩
   obtain⟨_,h1,h2,_⟩:=f2 b hb
   exact(List.mem_cons.mp (I2.mJ b hf)).elim h1 h2
 have I3:Inv X' [] (stC tn.length σ fvi) (upd H2 D (.lst [])) {s2 with heap:=h₁}:=by
   refine⟨okX,rfl,I2.bare,Un.laid old (Nat.le_of_eq hD) nD,⟨_,hns₁,fun i x v hx hv vis=>?_⟩,fun x c hx=>?_,?_,fun x c hx=>?_,fun p hp=>(nomatch hp),I2.aD.laid old (Nat.le_of_eq hD) ⟨Nat.zero_le _,[],0,.nil,hacc⟩,?_⟩
   · have hx:(tn++fv)[i]? =some x:=hx
     by_cases hn:i<tn.length
     · unfold stC at hv
       rw[List.getElem?_append_left (by simpa using hn),List.getElem?_replicate,if_pos hn]at hv
       cases hv
     · have hn':tn.length≤i:=by omega
       rw[List.getElem?_append_right hn']at hx
       unfold stC at hv
       rw[List.getElem?_append_right (by simpa using hn'),List.length_replicate,List.getElem?_map]at hv
       cases ei:fvi[i - tn.length]? with
       |none=>rw[ei]at hv;cases hv
       | some k=>
         rw[ei]at hv
         obtain⟨x',hx',hN,hf⟩:=ok.zV _ _ ei
         rw[hx]at hx'
         cases hx'
         have hv':σ[k]? =some (some v):=by
           have hv2:(σ[k]?).getD none=some v:=by simpa using hv
           cases ek:σ[k]? with
           |none=>rw[ek]at hv2;cases hv2
           |some z=>rw[ek]at hv2;exact congrArg some hv2
         obtain⟨m,hm,hl⟩:=I2.loc
         have hcell:X.env.scope.names.lookup x=some .cell:=ok.free _ hf rfl
         obtain⟨u,ru,lk⟩:=hl k x v hN hv' (.inr (.inl hcell))
         refine⟨u,ru,.inr ⟨?_,?_⟩⟩
         ·exact oS (env:=X.env) (ok.vQ _ hf rfl)
         · rcases lk with⟨h1,_⟩|⟨_,c,hcc,cc⟩
           ·rw[show X.env.kindOf x=X.env.scope.names.lookup x from rfl,hcell]at h1;cases h1
           · obtain⟨c',hc'⟩:=hhas x hf
             have:=hsub x c' hc'
             rw[hcc]at this
             cases this
             refine⟨c,cold x c hc' fun hm=>?_,cc.keeps old⟩
             have h1:=ok.cells _ hm rfl
             have h2:=ok.vQ _ hf rfl
             dsimp only at h1 h2
             rw[h1]at h2;cases h2
   · rcases csub x c hx with hx|⟨_,cc⟩
     · obtain⟨v,cc⟩:=I2.cell x c (hsub x c hx)
       exact⟨v,cc.keeps old⟩
     ·exact⟨_,cc⟩
   · show upd H2 D (.lst []) C=none
     rw[L2.aC (Ne.symm hDC)];exact nC
   · show upd H2 D (.lst []) c=none
     rcases csub x c hx with hx|⟨hc0,_⟩
     · have h0:=I2.ff x c (hsub x c hx)
       obtain⟨v,cc⟩:=I2.cell x c (hsub x c hx)
       rw[L2.aC (lt2 c cc.lt).2];exact h0
     ·rw[L2.aC (Nat.ne_of_gt (by omega))];exact I2.aD.fresh (by omega)
   · show(stC tn.length σ fvi).length=(tn++fv).length
     unfold stC;simp[ok.len]
 have hM:aw X'=aw X:=rfl
 have ent_un:∀(j:Nat) z,(ent tn.length ρ fvi)[j]? =some z→z=.un∨∃d,z=.sh d:=fun j z h=>(hX h).imp (fun h=>h) fun h=>h.1
 have ent_on:∀(j:Nat) xss,(ent tn.length ρ fvi)[j]? ≠some (.on xss):=fun j xss e=>by rcases ent_un j _ e with z|⟨_,z⟩<;>cases z
 have mvD:∀ {H'':Hp} {F':Addr→Prop} {bs:List Addr},(∀b,F' b↔F b∨b=D∨b∈bs)→(∀b∈bs,H2 b=none)→af H2 H''→Mv F H2 F' H'':=fun hF hb sm b o n e=>⟨fun h=>((hF b).mp h).elim n (fun z=>z.elim (fun z=>by subst z;rw[nD]at e;cases e) fun z=>by rw[hb b z]at e;cases e),sm b o e⟩
 have r3:aQ (aw X) (upd H2 D (.lst [])) (fun b=>F b∨b=D∨b∈([]:List Addr)) (stC tn.length σ fvi) (ent tn.length ρ fvi):=by
   have r0:=(As (n:=tn.length) (fv:=fvi) r2)
   exact⟨r0.len,fun b f=>by
       by_cases hb:b=D
       ·subst hb;exact⟨_,L2.bt⟩
       · obtain⟨o,ho⟩:=r0.aT b (f.resolve_right fun z=>z.elim hb fun z=>nomatch z)
         exact⟨o,sub1 _ _ ho⟩,fun i d e=>let⟨v,h1,h2⟩:=r0.sh i d e;⟨v,h1,h2.mv (mvD (bs:=[]) (fun _=>Iff.rfl) (fun _ z=>nomatch z) sub1)⟩,fun i d e=>(gT ent_un (.inl ⟨_,e⟩)).elim,fun i k d e=>(gT ent_un (.inr ⟨_,_,e⟩)).elim,fun i j a o=>(gT ent_un o).elim,.no ent_on⟩
 let R0:Result→Shared→Prop:=compPost (model X.prog X.w) X.A X.xe use Qc (.ref D) C
 have loop:codeAny (model X.prog X.w) X.A (.compLoop (.ListComp elt [⟨target,iter,ifs,0⟩] scope pos) 0 (.ref ita) (.ref D) X'.env) R0 {s2 with heap:=h₁}:=by
   refine B9 (fun n s'=>∃i σ' H' vs as bs F',n=ds.length - i∧i≤ds.length∧Inv X' [] σ' H' s'∧tn' i s'.heap∧(∀b∈fp,H' b=none)∧af H2 H'∧H' D=some (.lst vs)∧vs.length≤i∧((∀b,F' b↔F b∨b=D∨b∈bs)∧(∀b∈bs,H2 b=none∧b≠D)∧bs.Nodup)∧ah (aw X) H' F' as vs bs∧
       aQ (aw X) H' F' σ' (ent tn.length ρ fvi)∧∃rest,fm tg cs el (ent tn.length ρ fvi) (ds.drop i)=.ok rest∧as++rest=all) ?_ ds.length
     ⟨0,_,_,[],[],[],_,rfl,Nat.zero_le _,I3,T.keep _ _ _ st2 fun b _ o e=>old b o e,fun b hb=>?_,sub1,L2.bt,Nat.zero_le _,⟨fun _=>Iff.rfl,fun _ z=>(nomatch z),List.nodup_nil⟩,by rw[ah];exact⟨rfl,rfl⟩,r3,all,ey,rfl⟩
   · rintro n s' ⟨i,σ',H',vs,as,bs,F',rfl,hi',I',st',fr',sm',eD,hvs,⟨hF,hbs,ndb⟩,ras,rS,rest,erest,eall⟩
     obtain⟨g1,g2⟩:=gv H' F' (mvD hF (fun b hb=>(hbs b hb).1) sm') rS.aT
     by_cases hlt:i<ds.length
     · obtain ⟨go,gy⟩:=g1 i ds[i] (by simp[hlt])
       refine L2.aE (T.item X' rfl rfl rfl hc i [] s' σ' H' _ I' (fpX fr') st' go) fun r s4 ⟨u,hr',h4⟩=>?_
       subst hr'
       refine L2.aE h4 fun _ s5 ⟨x,H5,I5,r5,y5,st5,fr5⟩=>?_
       obtain⟨s5',rx⟩:=gy x H5 y5
       rw[List.drop_eq_getElem_cons hlt]at erest
       unfold fm at erest
       obtain⟨ρ1,eg,erest⟩:=aq.mp erest
       obtain⟨t,et,erest⟩:=aq.mp erest
       have rS5:=rS.same s5'
       have rG:aP (aw X) H2 (fun _=>False) H5 F' σ' (ent tn.length ρ fvi):=⟨rS5,sm'.trans s5',fun _ h=>h.elim,fun _ h=>h.elim,fun j a o=>(gT ent_un o).elim,fun j xss _ e=>absurd e (ent_on j xss)⟩
       have I5':Inv X' ([]++L2.jg fp s5.heap) σ' H5 s5:=I5.pinned (fpX fr5) (T.obj _ _ st5)
       refine wpAny_mono (ht cells C s2 H2 fp (fun _=>False) _ s5 σ' H5 x u (fun σ6 H6=>H6=H5∧aP (aw X) H2 (fun _=>False) H5 F' σ6 ρ1) I5' r5 ⟨ent tn.length ρ fvi,F',ds[i],ρ1,rG,rx,eg,fun σ6 r6=>⟨rfl,r6⟩⟩) (fun _ s6 ⟨σ6,H6,I6,h6,r6⟩=>?_) (fun e s f=>(hxe e s f).elim)
       subst h6
       refine wpAny_mono (rl (X:=X') (M:=aw X) (E:=X.xe) rfl (fun _ _ h=>h) (hcs cells C s2 H2 fp) (Q:=fun b H7=>b=t∧af H6 H7) I6 r6.rs et (fun H7 s7=>⟨rfl,s7⟩)) (fun b s7 ⟨H7,I7,hb,s7'⟩=>?_) (fun e s f=>(hxe e s f).elim)
       subst hb
       have sm7:af H2 H7:=(sm'.trans s5').trans s7'
       have D7:H7 D=some (.lst vs):=s7' _ _ (s5' _ _ eD)
       have lowr:=low _ _ _ eg
       have back:∀ {H'':Hp} {F'':Addr→Prop},aQ (aw X) H'' F'' σ6 ρ1→aQ (aw X) H'' F'' σ6 (ent tn.length ρ fvi):=fun r=>r.less lowr.1.symm fun j z hz=>by
         rcases hX hz with h|⟨h,hn,_⟩
         ·exact .inl h
         ·exact .inr ⟨h,by rw[lowr.2 j hn];exact hz⟩
       have again:∀ {s8:Shared} {H8:Hp},Inv X' ([]++L2.jg fp s5.heap) σ6 H8 s8→Inv X' [] σ6 H8 s8∧tn' (i+1) s8.heap∧∀b∈fp,H8 b=none:=fun {s8 H8} I8=>by
         refine⟨I8.nE,T.keep _ _ _ st5 fun b hb o e=>(I8.pin (b,o) (List.mem_append_right _ (List.mem_append_right _ (L2.mn hb e)))).1,fun b hb=>?_⟩
         obtain⟨o,e,d⟩:=T.obj _ _ st5 b hb
         exact(I8.pin (b,o) (List.mem_append_right _ (List.mem_append_right _ (L2.mn hb e)))).2.1
       cases b with
       | false=>
         rw[if_neg (by decide)]at erest
         rw[if_neg (by decide)]
         obtain⟨a1,a2,a3⟩:=again I7
         exact⟨ds.length - (i+1),by omega,i+1,σ6,H7,vs,as,bs,F',rfl,hlt,a1,a2,a3,sm7,D7,by omega,⟨hF,hbs,ndb⟩,ras.mv (.same (s5'.trans s7')) (fun b _ u f hu=>⟨f,s7' _ _ (s5' _ _ hu)⟩),back (r6.rs.same s7'),rest,erest,eall⟩
       | true=>
         rw[if_pos rfl]at erest
         rw[if_pos rfl]
         obtain⟨y,ey1,erest⟩:=aq.mp erest
         obtain⟨ys1,ey2,erest⟩:=aq.mp erest
         cases erest
         refine wpAny_mono (hel cells C s2 H2 fp _ s7 σ6 H7 (fun v H8=>∃F8 as8,af H7 H8∧(∀b∈as8,H7 b=none)∧as8.Nodup∧(∀b,F8 b↔F' b∨b∈as8)∧ag (aw X) H8 F8 y v as8) I7 ⟨ρ1,F',y,r6.rs.same s7',ey1,fun v H8 F8 as8 s8 h1 h2 h3 h4=>⟨F8,as8,s8,h1,h2,h3,h4⟩⟩) (fun u2 s8 ⟨v,H8,I8,rv8,F8,as8,s8',hn8,nd8,hF8,rep8⟩=>?_) (fun e s f=>(hxe e s f).elim)
         have D8:H8 D=some (.lst vs):=s8' _ _ D7
         refine wpAny_mono (L2.rC (X:=X') _ s8 σ6 H8 (.ref D) [v] (.ref D) [u2] (fun _ H9=>H9=upd H8 D (.lst (vs++[v]))) I8 rfl (.cons rv8 .nil) ⟨D,vs,v,rfl,rfl,D8,by omega,rfl⟩) (fun _ s9 ⟨_,H9,I9,_,h9⟩=>?_) (fun e s f=>(hxe e s f).elim)
         subst h9
         obtain⟨a1,a2,a3⟩:=again I9
         have D8n:D∉as8:=fun h=>by rw[hn8 D h]at D7;cases D7
         have fD:F8 D:=(hF8 D).mpr (.inl ((hF D).mpr (.inr (.inl rfl))))
         have mv9:Mv F8 H8 F8 (upd H8 D (.lst (vs++[v]))):=fun b o n e=>⟨n,by rw[L2.aC (fun z=>by subst z;exact n fD)];exact e⟩
         have mv8:Mv F' H' F8 H8:=fun b o n e=>by
           have e7:=s7' _ _ (s5' _ _ e)
           exact⟨fun f=>((hF8 b).mp f).elim n (fun hb=>by rw[hn8 b hb]at e7;cases e7),s8' _ _ e7⟩
         have mvA:Mv F' H' F8 (upd H8 D (.lst (vs++[v]))):=Mv.trans mv8 mv9
         have apart:∀a∈bs,∀b∈as8,a≠b:=fun a ha b hb z=>by
           subst z
           obtain⟨_,u,hu⟩:=ras.fs a ha
           have:=s7' _ _ (s5' _ _ hu)
           rw[hn8 a hb]at this;cases this
         have keepB:∀b∈bs,∀u,F' b→H' b=some u→F8 b∧upd H8 D (.lst (vs++[v])) b=some u:=fun b hb u f hu=>⟨(hF8 b).mpr (.inl f),by rw[L2.aC (hbs b hb).2];exact s8' _ _ (s7' _ _ (s5' _ _ hu))⟩
         have keep8:∀b∈as8,∀u,F8 b→H8 b=some u→F8 b∧upd H8 D (.lst (vs++[v])) b=some u:=fun b hb u f hu=>⟨f,by rw[L2.aC (fun z=>by subst z;exact D8n hb)];exact hu⟩
         have r8:=back ((r6.rs.same s7').wide s8' hn8 hF8 (fun b hb=>(rep8.fs b hb).2)).2
         refine⟨ds.length - (i+1),by omega,i+1,σ6,_,vs++[v],as++[y],bs++as8,F8,rfl,hlt,a1,a2,a3,fun b o e=>?_,L2.bt,by simp;omega,⟨fun b=>?_,fun b hb=>?_,List.nodup_append.mpr ⟨ndb,nd8,apart⟩⟩,ah.append (ras.mv mvA keepB) ?_,?_,ys1,ey2,by rw[List.append_assoc];exact eall⟩
         ·rw[L2.aC (fun z=>by subst z;rw[nD]at e;cases e)];exact s8' _ _ (sm7 _ _ e)
         ·rw[hF8 b,hF b,List.mem_append,or_assoc,or_assoc]
         · rcases List.mem_append.mp hb with hb|hb
           ·exact hbs b hb
           ·exact⟨sm7.free (hn8 b hb),fun z=>by subst z;exact D8n hb⟩
         · rw[show as8=as8++[] by simp]
           simp only[ah]
           exact⟨v,[],as8,[],rfl,rfl,rep8.mv mv9 keep8,rfl,rfl⟩
         · exact⟨r8.len,fun b f=>by
             by_cases hb:b=D
             ·subst hb;exact⟨_,L2.bt⟩
             · obtain⟨o,ho⟩:=r8.aT b f
               exact⟨o,by rw[L2.aC hb];exact ho⟩,fun i d e=>let⟨v,h1,h2⟩:=r8.sh i d e;⟨v,h1,h2.mv mv9⟩,fun i d e=>(gT ent_un (.inl ⟨_,e⟩)).elim,fun i k d e=>(gT ent_un (.inr ⟨_,_,e⟩)).elim,fun i j a o=>(gT ent_un o).elim,.no ent_on⟩
     · have ei:i=ds.length:=by omega
       subst ei
       rw[List.drop_length]at erest
       cases erest
       rw[List.append_nil]at eall
       subst eall
       refine L2.aE (T.done X' rfl rfl rfl hc _ [] s' σ' H' _ I' (fpX fr') st' g2) fun r s4 ⟨hr',I4⟩=>?_
       subst hr'
       obtain⟨m,hm,_⟩:=I4.loc
       have C4:H' C=none:=I4.free
       have u4:Un (L2.cv X.stack) fp H2 H' s2.heap s4.heap:=I4.base
       have I5:Inv X pins σ H' s4:=I2.oW (s':=s4) (ch:=fp) I4.os u4 I4.aD I4.bare fun b hb=>by
         obtain⟨_,a1,a2,a3,a4,a5⟩:=f2 b hb
         exact⟨a3,a1,a4,a5⟩
       have fC:cu X pins H' C:=I2.jB (by omega) C4
       have hH:∃Hq:Hp,af H Hq∧Hq D=none∧ah (aw X) Hq (fun b=>F b∨b∈bs) as vs bs∧upd Hq D (.lst vs)=H':=by
         refine⟨fun b=>if b=D then none else H' b,fun b o e=>?_,by simp,?_,?_⟩
         · have hb:b≠D:=fun z=>by subst z;have:=sm2 _ _ e;rw[nD]at this;cases this
           simp only[if_neg hb]
           exact sm' _ _ (sm2 _ _ e)
         · refine ras.mv (fun b o n e=>⟨fun f=>n ((hF b).mpr (f.imp id .inr)),?_⟩) fun b hb u f hu=>⟨.inr hb,?_⟩
           · have hb:b≠D:=fun z=>n ((hF b).mpr (.inr (.inl z)))
             simp only[if_neg hb]
             exact e
           · simp only[if_neg (hbs b hb).2]
             exact hu
         · funext b
           unfold upd
           by_cases hb:b=D
           ·simp only[if_pos hb];rw[hb];exact eD.symm
           ·simp only[if_neg hb]
       obtain⟨Hq,q1,q2,q3,q4⟩:=hH
       exact hend D C s4 H' vs Hq bs _ _ ⟨m,hm⟩ I5 fC q1 q2 (fun b hb=>sm2.free (hbs b hb).1) ndb (fun _=>Iff.rfl) q3 q4
   · show upd H2 D (.lst []) b=none
     obtain⟨o,ho,_⟩:=T.obj _ _ st2 b hb
     rw[L2.aC (lt2 b (Heap.lt_size ho)).2]
     exact(f2 b hb).1
 exact codeAny_compStart_list loop (T.self _ 0 _ _ _ (T.keep _ _ _ st2 fun b _ o e=>old b o e) loop)
theorem wA(tn fv:List Str)(fvi:List Nat){elt iter target:Expr}{ifs:List Expr}{scope:Scope}{it:br}{tg:bo}{cs:List aG}{el:Ex}(hxe:∀e s,¬X.xe e s)(hc:X.calm=true)(ok:ip X scope tn fv fvi)(hi:JI X target iter it)(low:gU tn.length tg)
   (ht:∀cl C s H fp,JG (cH X scope cl C (tn++fv) s H fp) target tg) (hcs:∀cl C s H fp,ja (cH X scope cl C (tn++fv) s H fp) ifs cs) (hel:∀cl C s H fp,JE (cH X scope cl C (tn++fv) s H fp) elt el)
   (hs:∀x,foldedSetIterable iter X.env x=pure x) {use:Option (Value→Sem Unit)} {Qc:Value→Shared→Prop} {pins:List (Addr×Obj)} {s:Shared} {all:List D} {p1:Pos} (I:Inv X pins σ H s) (hr:aQ (aw X) H F σ ρ) (e:dI it tn.length fvi tg cs el ρ=.ok (.lst all))
   (hend:∀D C s4 H' vs Hq f,(∃m,s4.heap.Ns C m)→Inv X pins σ H' s4→cu X pins H' C→af H Hq→Hq D=none→ae (aw X) Hq F all vs→upd Hq D (.lst vs)=H'→compPost (model X.prog X.w) X.A X.xe use Qc (.ref D) C (.ok f) s4):
   wpAny (model X.prog X.w) X.A (comprehension (.ListComp elt [⟨target,iter,ifs,0⟩] scope pos) scope X.env p1 (newList []) false (eval iter X.env) use) Qc X.xe s:=by
 obtain⟨ds,ed,e⟩:=aq.mp e
 have hlen:ds.length≤dE:=by
   by_cases h:ds.length≤dE
   ·exact h
   ·rw[if_neg h]at e;cases e
 rw[if_pos hlen]at e
 obtain⟨ys,ey,e⟩:=aq.mp e
 cases e
 refine ud (all:=all.map .d) (el:=xD el) tn fv fvi hxe hc ok hi low ht hcs (fun cl C s H fp=>vt (hel cl C s H fp)) hs I hr (by unfold lW;rw[ed,R.aW,if_pos hlen];exact p9 ey) fun D C s4 H' vs Hq bs F2 f hm I5 fC q1 q2 q3 q4 q5 q6 q7=>?_
 obtain⟨rfl,rs⟩:=mR.mp q6
 exact hend D C s4 H' vs Hq f hm I5 fC q1 q2 (rs.mv fun b o n e=>⟨fun h=>n ((q5 b).mpr (.inl h)),e⟩) q7
theorem wo(tn fv:List Str)(fvi:List Nat){elt iter target:Expr}{ifs:List Expr}{scope:Scope}{it:br}{tg:bo}{cs:List aG}{el:Ex}(hxe:∀e s,¬X.xe e s)(hc:X.calm=true)(ok:ip X scope tn fv fvi)(hi:JI X target iter it)(low:gU tn.length tg)
   (ht:∀cl C s H fp,JG (cH X scope cl C (tn++fv) s H fp) target tg) (hcs:∀cl C s H fp,ja (cH X scope cl C (tn++fv) s H fp) ifs cs) (hel:∀cl C s H fp,JE (cH X scope cl C (tn++fv) s H fp) elt el)
   (hs:∀x,foldedSetIterable iter X.env x=pure x):JF X (.ListComp elt [⟨target,iter,ifs,0⟩] scope pos) (dI it tn.length fvi tg cs el):=by
 intro pins s σ H Q I ⟨ρ,F,all,hr,e,q⟩
 show wpAny _ _ (comprehension (.ListComp elt [⟨target,iter,ifs,0⟩] scope pos) scope X.env _ (newList []) false (eval iter X.env) none) _ _ s
 refine wA tn fv fvi hxe hc ok hi low ht hcs hel hs I hr e fun D C s4 H' vs Hq f hm I5 fC q1 q2 q3 q4=>?_
 obtain⟨m,hm⟩:=hm
 refine⟨m,hm,fun h' hsb=>⟨.ref D,H',I5.turned (t':=s4.toks) (fun b o n e=>by rw[hsb.2 b n];exact e) fC.1 fC.2.1 fC.2.2.2.1 fC.2.2.2.2.1 fC.2.2.2.2.2,rfl,?_⟩⟩
 rw[←q4]
 exact q D Hq vs q1 q2 q3
end
section
variable{X:Cx}{M:Md}{G H H':Hp}{F0 F F':Addr→Prop}{σ:L2.St}{ρ:En}{pos:Pos}{pins:List (Addr×Obj)}{s:Shared}
theorem A7{e:Expr}{f:Ex}(h:JF X e f)(hl:∀ρ d,f ρ=.ok d→∃ds,d=.lst ds):JE X e f:=
 bq h fun σ H Q ⟨ρ,F,d,hr,e,q⟩=>by
   obtain⟨ds,rfl⟩:=hl _ _ e
   exact⟨ρ,F,ds,hr,e,fun p H' xs sm hp rs=>q _ _ (sm.trans (af.cj hp _)) (ki (hr.same sm).aT hp rs)⟩
theorem vW{it:br}{n:Nat}{fv:List Nat}{tg:bo}{cs:List aG}{el:Ex}(ρ:En)(d:D)(h:dI it n fv tg cs el ρ=.ok d):∃ds,d=.lst ds:=by
 obtain⟨ds,_,h⟩:=aq.mp h
 split at h
 · obtain⟨ys,_,h⟩:=aq.mp h
   cases h
   exact⟨_,rfl⟩
 ·cases h
noncomputable def sF(sc0:Scope)(N0:List Str)(scope:Scope)(fv:List Str)(fvi:List Nat):Bool:=
 decide (scope.kind=.function)&&scope.names.all (fun y=>(decide (y.2≠.cell)||decide (scope.names.lookup y.1=some .cell))&&(decide (y.2≠.local)||decide (scope.names.lookup y.1=some .local))&&(decide (y.2≠.free)||(decide (sc0.names.lookup y.1=some .cell)&&decide (scope.names.lookup y.1=some .free))))
   &&decide (fv.length=fvi.length)&&(fvi.zip fv).all (fun p=>decide (N0[p.1]? =some p.2)&&decide ((p.2,NameKind.free)∈scope.names))
theorem ko{scope:Scope}{tn fv:List Str}{fvi:List Nat}(sc0:Scope)(N0:List Str)(h1:X.env.scope=sc0)(h2:X.N=N0)(h:sF sc0 N0 scope fv fvi=true):ip X scope tn fv fvi:=by
 subst h1 h2
 unfold sF at h
 rw[Bool.and_eq_true,Bool.and_eq_true,Bool.and_eq_true,decide_eq_true_eq,decide_eq_true_eq,List.all_eq_true,List.all_eq_true]at h
 obtain⟨⟨⟨hk,hn⟩,hl⟩,hf⟩:=h
 have hn':∀y∈scope.names,(y.2≠.cell∨scope.names.lookup y.1=some .cell)∧(y.2≠.local∨scope.names.lookup y.1=some .local)∧(y.2≠.free∨(X.env.scope.names.lookup y.1=some .cell∧scope.names.lookup y.1=some .free)):=fun y hy=>by
   have:=hn y hy
   simp only[Bool.and_eq_true,Bool.or_eq_true,decide_eq_true_eq]at this
   exact⟨this.1.1,this.1.2,this.2⟩
 refine⟨hk,fun y hy hl=>(hn' y hy).1.resolve_left (fun h=>h hl),fun y hy hl=>(hn' y hy).2.1.resolve_left (fun h=>h hl),fun y hy hl=>((hn' y hy).2.2.resolve_left (fun h=>h hl)).1,fun y hy hl=>((hn' y hy).2.2.resolve_left (fun h=>h hl)).2,fun j i hj=>?_,hl⟩
 obtain⟨hjl,_⟩:=List.getElem?_eq_some_iff.mp hj
 have hx:fv[j]? =some (fv[j]'(by omega)):=List.getElem?_eq_getElem (by omega)
 have hm:(i,fv[j]'(by omega))∈fvi.zip fv:=by
   refine List.mem_iff_getElem?.mpr ⟨j,?_⟩
   rw[List.getElem?_zip_eq_some]
   exact⟨hj,hx⟩
 have:=hf _ hm
 simp only[Bool.and_eq_true,decide_eq_true_eq]at this
 exact⟨_,hx,this.1,this.2⟩
theorem oO{d:D}{v:V}(f:flat d=true)(r:Rep M H F d v):L2.fM v=true:=by
 cases d<;>first|(simp only[Rep]at r;subst r;rfl)|(cases f)
theorem qg:∀ {ds:List D} {vs:List V},ds.all flat=true→ae M H F ds vs→vs.all L2.fM=true
 |[],_,_,r=>by simp only[ae]at r;subst r;rfl
 | d::ds,_,f,r=>by
   rw[List.all_cons,Bool.and_eq_true]at f
   simp only[ae]at r
   obtain⟨x,t,rfl,r1,r2⟩:=r
   rw[List.all_cons,oO f.1 r1,qg f.2 r2];rfl
theorem BJ{a b:D}{x y:V}(fa:flat a=true)(fb:flat b=true)(ra:Rep M H F a x)(rb:Rep M H F b y):L2.fu x y=bA a b:=by
 cases a<;>(try cases fa)<;>cases b<;>(try cases fb)<;>simp only[Rep]at ra rb<;>subst ra<;>subst rb<;>first|rfl|(simp only[L2.fu,bA];exact str_beq _ _)
theorem oD:∀ {ds:List D} {vs:List V} {b:D} {y:V},ds.all flat=true→flat b=true→ae M H F ds vs→Rep M H F b y→L2.lT y vs=ds.any fun d=>bA d b
 |[],_,_,_,_,_,r,_=>by simp only[ae]at r;subst r;rfl
 | d::ds,_,b,y,f,fb,r,rb=>by
   rw[List.all_cons,Bool.and_eq_true]at f
   simp only[ae]at r
   obtain⟨x,t,rfl,r1,r2⟩:=r
   show(L2.fu x y||L2.lT y t)=(bA d b||ds.any fun d=>bA d b)
   rw[BJ f.1 fb r1 rb,oD f.2 fb r2 rb]
theorem uu{ks:List Ky}{xs:List V}{ds:List D}:∀(k:Ky),ks.length=xs.length→ae M H F ds xs→(bj k ks ds=none→L2.ck (ks.zip xs) k=none)∧∀d,bj k ks ds=some d→∃v,L2.ck (ks.zip xs) k=some v∧Rep M H F d v:=by
 induction ks generalizing xs ds with
 | nil=>
   intro k hl r
   cases xs with
   |nil=>exact⟨fun _=>rfl,fun d h=>by simp[bj]at h⟩
   |cons _ _=>simp at hl
 | cons a ks ih=>
   intro k hl r
   cases xs with
   |nil=>simp at hl
   | cons x xs=>
     cases ds with
     |nil=>simp only[ae]at r;cases r
     | cons d0 ds=>
       simp only[ae]at r
       obtain⟨x',t,e,r1,r2⟩:=r
       cases e
       have ih:=ih (xs:=xs) (ds:=ds) k (by simpa using hl) r2
       have hz:(a::ks).zip (x::xs)=(a,x)::ks.zip xs:=rfl
       rw[hz]
       by_cases hk:a=k
       · subst hk
         have h1:L2.ck ((a,x)::ks.zip xs) a=some x:=by simp[L2.ck]
         refine⟨fun h=>by simp[bj]at h,fun d h=>⟨x,h1,?_⟩⟩
         simp[bj]at h
         subst h
         exact r1
       · have h1:L2.ck ((a,x)::ks.zip xs) k=L2.ck (ks.zip xs) k:=by simp[L2.ck,hk]
         rw[h1]
         refine⟨fun h=>ih.1 (by simpa[bj,hk] using h),fun d h=>ih.2 d (by simpa[bj,hk] using h)⟩
theorem fz{d:D}{k:Ky}{v:V}(h:keyOf d=some k)(r:Rep M H F d v):v=L2.kV k:=by
 cases d with
 |int i=>cases h;exact bO r
 |str x=>cases h;exact eA r
 |_=>cases h
theorem mH{a:Addr}{ks:List Ky}{ds:List D}{xs:List V}(I:Inv X pins σ H s)(h:cJ (aw X) H F a (ks.zip xs))(hl:ks.length=xs.length)(rs:ae (aw X) H F ds xs)(k:Ky):
   ∃vs,s.heap.DictOf (L2.bL X.prog X.w) a vs∧(a==sysModules)=false∧(bj k ks ds=none→valueAt vs k=none)∧∀d,bj k ks ds=some d→∃v u,valueAt vs k=some u∧RelV v u∧Rep (aw X) H F d v:=by
 obtain⟨z,hd,vs,rel,dd⟩:=fI I h
 obtain⟨f1,f2⟩:=uu (M:=aw X) (H:=H) (F:=F) k hl rs
 refine⟨vs,dd,hd,fun hn=>?_,fun d hdd=>?_⟩
 ·exact L2.dF.none_of (by rw[←f1 hn];exact L2.KV.val rel k)
 · obtain⟨v,hv,rv⟩:=f2 d hdd
   obtain⟨u,hu,ru⟩:=L2.dF.some_of (v:=v) (o:=valueAt vs k) (by rw[←hv];exact L2.KV.val rel k)
   exact⟨v,u,hu,ru,rv⟩
noncomputable def qN(M:Md):R2:=fun x y H Q=>L2.lI M.K x y H Q∨∃F a b d,Rep M H F a x∧Rep M H F b y∧jK a b=.ok d∧∀v,Rep M H F d v→Q v H
theorem vS:L2.d8 X (qN (aw X)):=by
 refine L2.d8.or L2.tU ?_
 intro value slice pins s σ H x y v u Q I rx ry h hs
 obtain⟨F,a,b,d,ra,rb,e,q⟩:=h
 unfold jK at e
 split at e
 · rename_i ks vs
   split at e
   · rename_i k hk
     split at e
     · rename_i d' hf
       cases e
       simp only[Rep]at ra
       obtain⟨p,xs,rfl,h1,hl,rs⟩:=ra
       cases rx
       cases fz hk rb
       obtain⟨ws,dd,hd,f1,f2⟩:=mH I h1 hl rs k
       obtain⟨w,w',hw,rw',rd⟩:=f2 _ hf
       exact PyProof.Rows.tail_any dd.typeIs PySem.F.slot_dict_getitem.lookup (wpAny_getItem_of (L2.gj ry) dd.mapOf hw ⟨w,H,I.tok _,rw',q w rd⟩) hs
     ·cases e
   ·cases e
 ·cases e
theorem xa:cg M au (qN M):=by
 intro F H x y a b d Q tr ra rb e q
 cases a with
 |lst xs=>exact .inl (qG F H x y _ b d Q tr ra rb e q)
 |tup xs=>exact .inl (qG F H x y _ b d Q tr ra rb e q)
 |str z=>exact .inl (qG F H x y _ b d Q tr ra rb e q)
 |ao ks vs=>exact .inr ⟨F,_,b,d,ra,rb,e,fun v rv=>q v H (af.refl H) rv⟩
 |_=>cases e
theorem Ay{a b:Expr}{fa fb:Ex}(ha:JE X a fa)(hb:JE X b fb)(hs:L2.gW b:=by exact fun _ _=>rfl):JE X (.Subscript a b pos) (e2 au fa fb):=
 bq (L2.pZ vS ha hb hs) fun σ H Q h=>m6 xa h
noncomputable def mi(M:Md)(neg:Bool):R2:=fun x y H Q=>∃F a b k,Rep M H F a x∧Rep M H F b y∧eZ a b=.ok (.bl k)∧Q (.bl (if neg then !k else k)) H
theorem so{a b:D}{k:Bool}(h:eZ a b=.ok (.bl k)):(∃ys,(b=.lst ys∨b=.tup ys)∧flat a=true∧ys.all flat=true∧k=ys.any fun y=>bA y a)∨∃ks vs q,b=.ao ks vs∧keyOf a=some q∧k=(bj q ks vs).isSome:=by
 cases b with
 | lst ys=>
   have h':(if flat a=true∧ys.all flat=true then(R.ok (D.bl (ys.any fun y=>bA y a)):R D)else .bad)=.ok (.bl k):=by cases a<;>exact h
   split at h'
   ·rename_i c;cases h';exact .inl ⟨ys,.inl rfl,c.1,c.2,rfl⟩
   ·cases h'
 | tup ys=>
   have h':(if flat a=true∧ys.all flat=true then(R.ok (D.bl (ys.any fun y=>bA y a)):R D)else .bad)=.ok (.bl k):=by cases a<;>exact h
   split at h'
   ·rename_i c;cases h';exact .inl ⟨ys,.inr rfl,c.1,c.2,rfl⟩
   ·cases h'
 | ao ks vs=>
   cases hq:keyOf a with
   |none=>cases a<;>simp[hq]at h
   | some q=>
     refine .inr ⟨ks,vs,q,rfl,rfl,?_⟩
     cases a<;>simp[hq]at h<;>exact h.symm
 |str y=>cases a<;>simp at h
 |_=>cases a<;>simp at h
theorem yS(hu:X.A.units+64<cLine):aR X (compareOp .In) (mi (aw X) false):=by
 intro pins s σ H x y v u Q I rx ry h
 obtain⟨F,a,b,k,ra,rb,e,q⟩:=h
 rcases so e with⟨ys,hb,fa,fs,rfl⟩|⟨ks,vs,q',rfl,hq,rfl⟩
 · have:∃p xs,y=.ref p∧(aY X.K H p xs∨bb X.K H p xs)∧ae (aw X) H F ys xs:=by
     rcases hb with rfl|rfl
     ·simp only[Rep]at rb;obtain⟨p,xs,e,h1,h2⟩:=rb;exact⟨p,xs,e,.inl h1.sq,h2⟩
     ·simp only[Rep]at rb;obtain⟨p,xs,e,h1,h2⟩:=rb;exact⟨p,xs,e,.inr h1.sq,h2⟩
   obtain⟨p,xs,rfl,hs,rs⟩:=this
   refine L2.Ak pins s σ H x (.ref p) v u Q I rx ry ⟨p,xs,rfl,hs,oO fa ra,qg fs rs,?_⟩
   rw[oD fs fa rs ra]
   exact q
 · simp only[Rep]at rb
   obtain⟨p,xs,rfl,h1,hl,rs⟩:=rb
   cases ry
   cases fz hq ra
   obtain⟨ws,dd,hd,f1,f2⟩:=mH I h1 hl rs q'
   refine wpAny_in_of (L2.gj rx) hd dd.mapOf ?_
   cases hf:bj q' ks vs with
   |none=>rw[f1 hf];rw[hf]at q;exact⟨.bl _,H,I.tok _,rfl,q⟩
   |some d=>obtain⟨_,w,hw,_⟩:=f2 d hf;rw[hw];rw[hf]at q;exact⟨.bl _,H,I.tok _,rfl,q⟩
theorem D3(hu:X.A.units+64<cLine):aR X (compareOp .NotIn) (mi (aw X) true):=by
 intro pins s σ H x y v u Q I rx ry h
 obtain⟨F,a,b,k,ra,rb,e,q⟩:=h
 rcases so e with⟨ys,hb,fa,fs,rfl⟩|⟨ks,vs,q',rfl,hq,rfl⟩
 · have:∃p xs,y=.ref p∧(aY X.K H p xs∨bb X.K H p xs)∧ae (aw X) H F ys xs:=by
     rcases hb with rfl|rfl
     ·simp only[Rep]at rb;obtain⟨p,xs,e,h1,h2⟩:=rb;exact⟨p,xs,e,.inl h1.sq,h2⟩
     ·simp only[Rep]at rb;obtain⟨p,xs,e,h1,h2⟩:=rb;exact⟨p,xs,e,.inr h1.sq,h2⟩
   obtain⟨p,xs,rfl,hs,rs⟩:=this
   refine L2.v8 pins s σ H x (.ref p) v u Q I rx ry ⟨p,xs,rfl,hs,oO fa ra,qg fs rs,?_⟩
   rw[oD fs fa rs ra]
   exact q
 · simp only[Rep]at rb
   obtain⟨p,xs,rfl,h1,hl,rs⟩:=rb
   cases ry
   cases fz hq ra
   obtain⟨ws,dd,hd,f1,f2⟩:=mH I h1 hl rs q'
   refine wpAny_notIn_of (L2.gj rx) hd dd.mapOf ?_
   cases hf:bj q' ks vs with
   |none=>rw[f1 hf];rw[hf]at q;exact⟨.bl _,H,I.tok _,rfl,q⟩
   |some d=>obtain⟨_,w,hw,_⟩:=f2 d hf;rw[hw];rw[hf]at q;exact⟨.bl _,H,I.tok _,rfl,q⟩
theorem sN{a b d:D}(h:eZ a b=.ok d):∃k,d=.bl k:=by
 cases b with
 | lst ys=>
   have h':(if flat a=true∧ys.all flat=true then(R.ok (D.bl (ys.any fun y=>bA y a)):R D)else .bad)=.ok d:=by cases a<;>exact h
   split at h'<;>cases h'
   exact⟨_,rfl⟩
 | tup ys=>
   have h':(if flat a=true∧ys.all flat=true then(R.ok (D.bl (ys.any fun y=>bA y a)):R D)else .bad)=.ok d:=by cases a<;>exact h
   split at h'<;>cases h'
   exact⟨_,rfl⟩
 | ao ks vs=>
   cases hq:keyOf a with
   |none=>cases a<;>simp[hq]at h
   |some q=>cases a<;>simp[hq]at h<;>exact⟨_,h.symm⟩
 |str y=>cases a<;>simp at h
 |_=>cases a<;>simp at h
theorem wW:cg M eZ (mi M false):=by
 intro F H x y a b d Q tr ra rb e q
 obtain⟨k,rfl⟩:=sN e
 exact⟨F,a,b,k,ra,rb,e,q _ _ (af.refl _) er⟩
theorem uL{a b d:D}(h:jG a b=.ok d):∃k,eZ a b=.ok (.bl k)∧d=.bl (!k):=by
 obtain⟨r,hr,h⟩:=aq.mp h
 obtain⟨k,rfl⟩:=sN hr
 cases h
 exact⟨k,hr,rfl⟩
theorem AY:gN jG:=fun a b d h=>let⟨k,_,e⟩:=uL h;⟨_,e⟩
theorem zM:cg M jG (mi M true):=by
 intro F H x y a b d Q tr ra rb e q
 obtain⟨k,hk,rfl⟩:=uL e
 exact⟨F,a,b,k,ra,rb,hk,q _ _ (af.refl _) er⟩
end
section
variable{X:Cx}{M:Md}{G H H':Hp}{F0 F F':Addr→Prop}{σ:L2.St}{ρ:En}{pos:Pos}{pins:List (Addr×Obj)}{s:Shared}
theorem uK:∀ {ds:List D} {d:D},allB ds=.ok d→∃bs:List Bool,ds=bs.map D.bl∧d=.bl (bs.all id)
 |[],d,h=>by cases h;exact⟨[],rfl,rfl⟩
 | x::ds,d,h=>by
   cases x with
   | bl b=>
     obtain⟨z,hz,h⟩:=aq.mp h
     obtain⟨bs,rfl,rfl⟩:=uK hz
     cases h
     exact⟨b::bs,rfl,rfl⟩
   |_=>cases h
theorem sV:∀ {bs:List Bool} {xs:List V},ae M H F (bs.map D.bl) xs→xs=bs.map V.bl
 |[],_,r=>by simpa[ae] using r
 | b::bs,_,r=>by
   simp only[List.map_cons,ae]at r
   obtain⟨x,t,rfl,h1,h2⟩:=r
   rw[sV h2,fA h1];rfl
theorem uq:∀ {bs:List Bool} {us:List Value},Vals (bs.map V.bl) us→us=bs.map Value.bool
 |[],_,.nil=>rfl
 |b::bs,_,.cons r t=>by cases r;rw[uq t];rfl
theorem all_range(bs:List Bool):((List.range bs.length).drop 0).all (fun i=>bs.getD i false)=bs.all id:=by
 rw[List.drop_zero]
 induction bs with
 |nil=>rfl
 | cons b bs ih=>
   rw[List.length_cons,List.range_succ_eq_map,List.all_cons,List.all_map,List.all_cons, ←ih]
   rfl
theorem rH(hc:X.calm=true):bu X (.builtin "all") (fun xs H Q=>∃(F:Addr→Prop) (p:Addr) (bs:List Bool),xs=[.ref p]∧Rep (aw X) H F (.lst (bs.map D.bl)) (.ref p)∧Q (.bl (bs.all id)) H):=by
 intro pins s σ H xs us Q I r h
 obtain⟨F,p,bs,rfl,rp,q⟩:=h
 obtain⟨u,rfl,ru⟩:=L2.vals1 r
 cases ru
 simp only[Rep]at rp
 obtain⟨p',xs,e,hl,rs⟩:=rp
 cases e
 obtain⟨its,rv,pl,hz⟩:=I.list hl.sq
 cases sV rs
 cases uq rv
 have hh:X.A.in1.in1.handled=none:=I.ok.hd hc
 have hlt:p<s.heap.objs.size:=by obtain⟨o,n,e,_⟩:=pl;exact Heap.lt_size e
 refine call_function_tree PySem.F.kind_all PySem.F.plain_all PySem.F.entry_all (PySem.F.args_all1 _) ?_
 show wpAny _ _ (pyIter (.ref p) >>= _) _ _ s
 refine wpAny_bind (wpAny_pyIter_list pl.isList (wpAny_pure ⟨plainId_quiet PySem.F.plain_all_loop _,?_⟩))
 have hsz:((bs.map Value.bool).toArray).size=bs.length:=by simp
 have W:=Walks.list (prog:=X.prog) (w:=X.w) (A:=X.A.in1) (I.ok.hd hc) s.heap.objs.size p (Nat.ne_of_lt hlt) (bs.map Value.bool).toArray
 rw[hsz]at W
 refine codeAny_all_loop (A:=X.A) W (fun i=>bs.getD i false) (fun i v s' Q' E' hP hQ=>?_) (bs.length - 0) 0 _ rfl (Nat.zero_le _) ⟨⟨_,Heap.get?_push_size _ rfl,rfl,rfl⟩,Heap.IsList.push pl.isList _⟩ (fun h' tk hk=>?_)
 · have hP:(bs.map Value.bool).toArray[i]? =some v:=hP
   have hQ:Q' (bs.getD i false) s':=hQ
   have:∃b,v=.bool b∧bs.getD i false=b:=by
     rw[List.getElem?_toArray,List.getElem?_map]at hP
     cases e:bs[i]? with
     |none=>rw[e]at hP;cases hP
     |some b=>rw[e]at hP;cases hP;exact⟨b,rfl,by simp[e]⟩
   obtain⟨b,rfl,hb⟩:=this
   rw[hb]at hQ
   exact wpAny_truthy_bool hQ
 · show EP X pins σ Q _ _
   rw[all_range]
   have I1:Inv X pins σ H {s with heap:=s.heap.push {cls:=.type "list_iterator",data:=.fields #[.ref p,.int 0 0]} }:=I.kept (t':=s.toks) fun b o e=>Heap.get?_push_of_some _ e
   have fp:=I.jB (H':=H) (b:=s.heap.objs.size) (Nat.le_refl _) (I.aD.fresh (Nat.le_refl _))
   obtain⟨f0,f1,f2,f3,f4,f5⟩:=fp
   exact⟨.bl _,H,I1.turned (it:=s.heap.objs.size) (t':=tk) (fun b o hb e=>hk b o (by simpa using hb) e) f0 f1 f3 f4 f5,rfl,q⟩
theorem uN:fw M (g1 gY) (fun xs H Q=>∃(F:Addr→Prop) (p:Addr) (bs:List Bool),xs=[.ref p]∧Rep M H F (.lst (bs.map D.bl)) (.ref p)∧Q (.bl (bs.all id)) H):=by
 intro F H xs as d Q tr rs e q
 unfold g1 at e
 split at e
 · obtain⟨x,rfl,r⟩:=rs.one
   unfold gY at e
   split at e
   · obtain⟨bs,rfl,rfl⟩:=uK e
     have r':=r
     simp only[Rep]at r
     obtain⟨p,ys,rfl,_⟩:=r
     exact⟨F,p,bs,rfl,r',q _ _ (af.refl _) er⟩
   ·cases e
 ·cases e
theorem uW{o e:Expr}{apos cpos:Pos}{m:Str}(hb:attributeBase o m X.env (eval o X.env)=eval o X.env)(hn:iB e=true)(hl:(apos.endLine==cpos.line)=true):L2.M1 X o m apos e cpos:=
 ⟨hb,oG (by simp[hn]) (show 1<30 by decide),hl,by rw[bC hn];rfl⟩
theorem wV{o e:Expr}{fo fe:Ex}{apos cpos:Pos}(ho:JE X o fo)(he:JE X e fe)(m:L2.M1 X o "get" apos e cpos):JE X (.Call (.Attribute o "get" apos) [e] [] cpos) (e2 (ju .aA) fo fe):=by
 intro pins s σ H Q I ⟨ρ,F,d,hr,e,q⟩
 obtain⟨a,ea,e⟩:=aq.mp e
 obtain⟨b,eb,e⟩:=aq.mp e
 refine wpAny_Call_method m.base m.CY m.line PySem.F.plainAttrs_dict PySem.F.slot_dict_get PySem.F.type_dict_get (L2.aE (ho pins s σ H _ I ⟨ρ,F,a,hr,ea,fun v H1 s1 rv=>(⟨s1,rv⟩:af H H1∧Rep (aw X) H1 F a v)⟩) fun u s1 ⟨x,H1,I1,rx,sm1,ra⟩=>?_)
 cases a with
 | ao ks vs=>
   cases hk:keyOf b with
   |none=>simp only[ju,hk]at e;cases e
   | some k=>
     simp only[ju,hk]at e
     cases e
     have ra':=ra
     simp only[Rep]at ra
     obtain⟨p,xs,rfl,h1,hl,rs⟩:=ra
     cases rx
     obtain⟨_,_,ws,_,o',es,ep,e1,e2,e3,_⟩:=fI I1 h1
     refine⟨⟨o',e1,e2.1⟩,fun c hc=>by cases hc;exact⟨o',e1,e2.2.1⟩,?_⟩
     rw[m.trees]
     refine Calls.callWith_builtin rfl (Calls.evalArgs_plain (Calls.spliced_cons (L2.aE (he pins s1 σ H1 _ I1 ⟨ρ,F,b,hr.same sm1,eb,fun v H2 s2 rv=>(⟨s2,rv⟩:af H1 H2∧Rep (aw X) H2 F b v)⟩) fun iv s2 ⟨y,H2,I2,ry,sm2,rb⟩=>Calls.spliced_nil ?_)))
     have h2:=h1.mv (M:=aw X) (F':=F) (.same sm2)
     have rs2:=rs.mv (M:=aw X) (F':=F) (.same sm2)
     cases fz hk rb
     obtain⟨ws,dd,hd,f1,f2⟩:=mH I2 h2 hl rs2 k
     refine call_meetsIn PySem.F.slot_dict_get dd.typeIs PySem.F.entry_dict_get (PySem.F.args_dict_get_2 _ _) (meets_dict_get (L2.bL X.prog X.w) p (L2.gj ry) hd) ⟨_,dd.mapOf,?_⟩
     cases hf:bj k ks vs with
     | none=>
       rw[f1 hf]
       rw[hf]at q
       exact⟨.aA,H2,I2.tok _,rfl,q _ _ (sm1.trans sm2) om⟩
     | some d'=>
       obtain⟨v,w,hw,rw',rd⟩:=f2 d' hf
       rw[hw]
       rw[hf]at q
       exact⟨v,H2,I2.tok _,rw',q _ _ (sm1.trans sm2) rd⟩
 |_=>cases e
end
section
variable{prog:Program}{w:World}{A:Around}{E:Value→Shared→Prop}{s:Shared}
theorem zG{it t:Addr}{i:Nat}{items:Array Value}{x:Value}{Q:Value→Shared→Prop}(hit:s.heap.IsTupleIter it t i)(ht:s.heap.IsTuple t items)(hx:items[i]? =some x)
   (hQ:∀h',h'.IsTupleIter it t (i+1)→Heap.SameBut it s.heap h'→Q x {s with heap:=h'}):wpAny (model prog w) A (Builtin.SmallTypes.nextOf (.ref it)) Q E s:=by
 obtain⟨oi,hoi,hci,hdi⟩:=id hit
 obtain⟨ot,hot,_,nt,hdt⟩:=ht
 unfold Builtin.SmallTypes.nextOf
 refine wpAny_bind (wpAny_callSpecial?_slot (name:=Str.ofString "__next__") hit.typeIs PySem.F.slot_tuple_iterator_next (wpAny_call_entry PySem.F.slot_tuple_iterator_next hit.typeIs PySem.F.entry_tuple_iterator_next ?_ (PySem.F.args_tuple_iterator_next_1 _)))
 show wpAny _ _ (PySem.field (.ref it) 0 >>= _) _ _ s;refine wpAny_bind (wpAny_field hoi hdi (x:=.ref t) rfl ?_)
 show wpAny _ _ (if(Value.ref t==Value.none)=true then _ else _) _ _ s;rw[if_neg (show ¬((Value.ref t==Value.none)=true)from Bool.false_ne_true)]
 show wpAny _ _ (PySem.field (.ref it) 1 >>= _) _ _ s;refine wpAny_bind (wpAny_field hoi hdi (x:=.int i 0) rfl ?_)
 show wpAny _ _ (seqItems? (.ref t) >>= _) _ _ s;refine wpAny_bind (wpAny_seqItems hot hdt ?_)
 simp only[Int.toNat_natCast,hx]
 exact wpAny_bind (wpAny_setField hoi hdi (by simp) (wpAny_pure ⟨x,rfl,wpAny_pure (hQ _ ⟨_,Heap.get?_update_self _ hoi (Obj.isFreed_of_fields (Obj.data_mapFields hdi _)),(Obj.cls_mapFields ..).trans hci,by rw[Obj.data_mapFields hdi];simp[rawInt]⟩ (Heap.SameBut.update ..))⟩))
theorem wm{it t:Addr}{i:Nat}{items:Array Value}{Q:Value→Shared→Prop}(hh:A.handled=none)(hit:s.heap.IsTupleIter it t i)(ht:s.heap.IsTuple t items)(hx:items[i]? =none)
   (hE:∀h' e,Heap.ExtBut it s.heap h'→(∃o,h'.get? e=some o∧o.cls=.type "StopIteration")→E (.ref e) {s with heap:=h'}):wpAny (model prog w) A (Builtin.SmallTypes.nextOf (.ref it)) Q E s:=by
 obtain⟨oi,hoi,hci,hdi⟩:=id hit
 obtain⟨ot,hot,_,nt,hdt⟩:=ht
 unfold Builtin.SmallTypes.nextOf
 refine wpAny_bind (wpAny_callSpecial?_slot (name:=Str.ofString "__next__") hit.typeIs PySem.F.slot_tuple_iterator_next (wpAny_call_entry PySem.F.slot_tuple_iterator_next hit.typeIs PySem.F.entry_tuple_iterator_next ?_ (PySem.F.args_tuple_iterator_next_1 _)))
 show wpAny _ _ (PySem.field (.ref it) 0 >>= _) _ _ s;refine wpAny_bind (wpAny_field hoi hdi (x:=.ref t) rfl ?_)
 show wpAny _ _ (if(Value.ref t==Value.none)=true then _ else _) _ _ s;rw[if_neg (show ¬((Value.ref t==Value.none)=true)from Bool.false_ne_true)]
 show wpAny _ _ (PySem.field (.ref it) 1 >>= _) _ _ s;refine wpAny_bind (wpAny_field hoi hdi (x:=.int i 0) rfl ?_)
 show wpAny _ _ (seqItems? (.ref t) >>= _) _ _ s;refine wpAny_bind (wpAny_seqItems hot hdt ?_)
 simp only[Int.toNat_natCast,hx]
 refine wpAny_bind (wpAny_rule (wpAny_bind (wpAny_setField hoi hdi (by simp) ?_)))
 show wpAny _ _ (newExc (.type "StopIteration") [] >>= _) _ _ _;refine wpAny_bind ?_
 simp only[newExc,newTuple]
 refine wpAny_bind (wpAny_newObj_type (wpAny_bind (m:=firstArgMember _ _) (wpAny_of_eq (a:=Value.none) (by first|rfl|(simp only[firstArgMember];rfl)) (wpAny_newObj_type ?_ (by size_fits)))) (by size_fits))
 simp only[raiseNew]
 refine wpAny_bind (wpAny_handled ?_)
 first|rw[show A.in1.handled=none from hh]|rw[hh]
 exact wpAny_bind (wpAny_pure (wpAny_throw (hE _ _ (((Heap.SameBut.update ..).extBut.push _).push _) ⟨_,Heap.get?_push_size _ rfl,rfl⟩)))
end
theorem D6{prog:Program}{w:World}{A:Around}(hh:A.handled=none)(it l:Addr)(hne:l≠it)(items:Array Value):
   Draws prog w A it [it,l] items.size (fun i v=>items[i]? =some v) (fun i h=>h.IsTupleIter it l i∧h.IsTuple l items) where
 live _ _ st:=let⟨o,ho,_⟩:=st.1;⟨o,ho⟩
 frame _ _ _ st hk:=⟨let⟨o,ho,r⟩:=st.1;⟨o,hk it (by simp) o ho,r⟩,let⟨o,ho,r⟩:=st.2;⟨o,hk l (by simp) o ho,r⟩⟩
 item i s Q E hi st hQ:=zG st.1 st.2 (x:=items[i]) (by simp[hi]) fun h' hit' hs'=>hQ _ h' s.toks (by simp[hi]) ⟨hit',let⟨o,ho,r⟩:=st.2;⟨o,hs'.extBut l o hne ho,r⟩⟩ hs'
 done s Q E st hE:=wm hh st.1 st.2 (by simp) hE
structure ml(z TI TO i1 i2:Addr)(f1 f2:List Addr):Prop where
 TIz:TI≠z
 TOz:TO≠z
 i1z:i1≠z
 i2z:i2≠z
 TITO:TI≠TO
 TIi1:TI≠i1
 TIi2:TI≠i2
 TOi1:TO≠i1
 TOi2:TO≠i2
 i12:i1≠i2
 ma:z∉f1
 rF:TO∉f1
 Di:i2∉f1
 oR:z∉f2
 nK:TO∉f2
 uk:i1∉f2
section
variable{prog:Program}{w:World}{A:Around}{E:Value→Shared→Prop}{s:Shared}{z TI TO i1 i2:Addr}{f1 f2:List Addr}{n1 n2 k:Nat}{P1 P2:Nat→Value→Prop}{S1 S2:Nat→Heap→Prop}{a b:Value}
theorem fr_but{prog:Program}{w:World}{A:Around}{it:Addr}{fp:List Addr}{n:Nat}{P:Nat→Value→Prop}{St:Nat→Heap→Prop}(D:Draws prog w A it fp n P St){i:Nat}{c:Addr}{h h':Heap}(st:St i h)(hc:c∉fp)(hs:Heap.SameBut c h h'):St i h':=
 D.frame i h h' st fun b hb o e=>hs.extBut b o (fun q=>hc (by rw[←q];exact hb)) e
theorem wK(D1:Draws prog w A i1 f1 n1 P1 S1)(D2:Draws prog w A i2 f2 n2 P2 S2)(ap:ml z TI TO i1 i2 f1 f2)(hz:IsZip s.heap z TI TO .none)(hTI:IsPair s.heap TI (.ref i1) (.ref i2))(hTO:IsPair s.heap TO a b)
   (bC:S1 k s.heap) (st2:S2 k s.heap) (h1:k<n1) (h2:k<n2) {Q:Value→Shared→Prop}
   (hQ:∀x y h' tk,P1 k x→P2 k y→IsZip h' z TI TO (rawInt s.heap.objs.size)→IsPair h' TO x y→S1 (k+1) h'→S2 (k+1) h'→IsPair h' s.heap.objs.size x y→
     (∀c o,c≠z→c≠TO→c≠i1→c≠i2→s.heap.get? c=some o→h'.get? c=some o)→Q (.ref s.heap.objs.size) {s with heap:=h',toks:=tk}):
   wpAny (model prog w) A (Builtin.«zip.__next__» ⟨[.ref z],[]⟩) (fun fin s'=>∃v,fin=.done (.ret v)∧Q v s') E s:=by
 show wpAny _ _ (PySem.field (.ref z) 2 >>= _) _ _ _;refine wpAny_bind (wpAny_field hz rfl (x:=.bool false) rfl ?_)
 show wpAny _ _ (PySem.field (.ref z) 3 >>= _) _ _ _;refine wpAny_bind (wpAny_field hz rfl (x:=.ref TI) rfl (wpAny_bind (wpAny_seqItems hTI rfl ?_)))
 show wpAny _ _ (Builtin.SmallTypes.ownedTupleIsFree (.ref z) >>= _) _ _ _;refine wpAny_bind ?_
 unfold Builtin.SmallTypes.ownedTupleIsFree
 refine wpAny_bind (wpAny_field hz rfl (x:=.none) rfl (wpAny_pure ?_));simp only[if_true]
 refine wpAny_bind (wpAny_rule (wpAny_bind (wpAny_field hz rfl (x:=.ref TO) rfl (wpAny_bind (wpAny_setField_rec hz (by simp) fun ha hza hsa=>?_)))))
 replace hza:IsZip ha z TI TO .ellipsis:=hza
 refine wpAny_bind ?_
 simp only[List.zipIdx_cons,List.zipIdx_nil,List.forIn_cons,List.forIn_nil]
 refine wpAny_bind (wpAny_bind (wpAny_onRaise ?_));show wpAny _ _ (Builtin.SmallTypes.nextOf (.ref i1) >>= _) _ _ _
 refine wpAny_bind (D1.item k _ _ _ h1 (fr_but D1 bC ap.ma hsa) fun x hb tb px sb1 hsb=>wpAny_pure ?_)
 have hTOb:IsPair hb TO a b:=hsb.extBut _ _ ap.TOi1 (hsa.extBut _ _ ap.TOz hTO)
 refine wpAny_bind (wpAny_seqItems hTOb rfl (wpAny_bind (wpAny_updateSeq_pair hTOb fun hc hTOc hsc=>?_)))
 replace hTOc:IsPair hc TO x b:=hTOc
 refine wpAny_bind (wpAny_letGo (wpAny_pure (wpAny_bind (wpAny_bind (wpAny_onRaise ?_)))));show wpAny _ _ (Builtin.SmallTypes.nextOf (.ref i2) >>= _) _ _ _
 refine wpAny_bind (D2.item k _ _ _ h2 (fr_but D2 (fr_but D2 (fr_but D2 st2 ap.oR hsa) ap.uk hsb) ap.nK hsc) fun y hd td py sd2 hsd=>wpAny_pure ?_)
 have hTOd:IsPair hd TO x b:=hsd.extBut _ _ ap.TOi2 hTOc
 refine wpAny_bind (wpAny_seqItems hTOd rfl (wpAny_bind (wpAny_updateSeq_pair hTOd fun he hTOe hse=>?_)))
 replace hTOe:IsPair he TO x y:=hTOe
 refine wpAny_bind (wpAny_letGo (wpAny_pure (wpAny_pure (wpAny_bind (wpAny_seqItems hTOe rfl (wpAny_bind (wpAny_newTuple ?_)))))))
 have hsz:he.objs.size=s.heap.objs.size:=by rw[hse.1,hsd.1,hsc.1,hsb.1,hsa.1]
 have hze:IsZip he z TI TO .ellipsis:=hse.extBut _ _ ap.TOz.symm (hsd.extBut _ _ ap.i2z.symm (hsc.extBut _ _ ap.TOz.symm (hsb.extBut _ _ ap.i1z.symm hza)))
 have hke:∀c o,c≠z→c≠TO→c≠i1→c≠i2→s.heap.get? c=some o→he.get? c=some o:=fun c o c1 c2 c3 c4 e=>hse.extBut _ _ c2 (hsd.extBut _ _ c4 (hsc.extBut _ _ c2 (hsb.extBut _ _ c3 (hsa.extBut _ _ c1 e))))
 have s1e:S1 (k+1) he:=fr_but D1 (fr_but D1 (fr_but D1 sb1 ap.rF hsc) ap.Di hsd) ap.rF hse
 have s2e:S2 (k+1) he:=fr_but D2 sd2 ap.nK hse
 have hzlt:z<he.objs.size:=Heap.lt_size hze
 show wpAny _ _ (Builtin.SmallTypes.ownedTupleHandOut (.ref z) (.ref he.objs.size) >>= _) _ _ _
 refine wpAny_bind ?_
 unfold Builtin.SmallTypes.ownedTupleHandOut
 have hzf:IsZip (he.push {cls:=.type "tuple",data:=.seq #[x,y]}) z TI TO .ellipsis:=Heap.get?_push_of_some _ hze
 refine wpAny_bind (wpAny_setField_rec hzf (by simp) fun hg hzg hsg=>?_)
 replace hzg:IsZip hg z TI TO (rawInt he.objs.size):=hzg
 refine wpAny_setField_rec hzg (by simp) fun hi hzi hsi=>?_
 replace hzi:IsZip hi z TI TO (rawInt he.objs.size):=hzi
 have up:∀c o,c≠z→he.get? c=some o→hi.get? c=some o:=fun c o c1 e=>hsi.extBut _ _ c1 (hsg.extBut _ _ c1 (Heap.get?_push_of_some _ e))
 have hTi:IsPair hi he.objs.size x y:=hsi.extBut _ _ (Nat.ne_of_gt hzlt) (hsg.extBut _ _ (Nat.ne_of_gt hzlt) (Heap.get?_push_size _ rfl))
 rw[hsz]at hzi hTi
 refine wpAny_pure ⟨_,rfl,?_⟩
 show Q (.ref he.objs.size) _
 rw[hsz]
 exact hQ x y hi td px py hzi (up _ _ ap.TOz hTOe) (D1.frame _ _ _ s1e fun c hc' o e=>up c o (fun q=>ap.ma (by rw[←q];exact hc')) e) (D2.frame _ _ _ s2e fun c hc' o e=>up c o (fun q=>ap.oR (by rw[←q];exact hc')) e) hTi
   fun c o c1 c2 c3 c4 e=>up c o c1 (hke c o c1 c2 c3 c4 e)
theorem vV(D1:Draws prog w A i1 f1 n1 P1 S1)(D2:Draws prog w A i2 f2 n2 P2 S2)(ap:ml z TI TO i1 i2 f1 f2)(hz:IsZip s.heap z TI TO .none)(hTI:IsPair s.heap TI (.ref i1) (.ref i2))(hTO:IsPair s.heap TO a b)
   (bC:S1 k s.heap) (st2:S2 k s.heap) (hend:k=n1∨(k<n1∧k=n2)) {Q:Fin→Shared→Prop}
   (hE:∀h' tk e,(∀c o,c≠z→c≠TO→c≠i1→c≠i2→s.heap.get? c=some o→h'.get? c=some o)→(∃o,h'.get? e=some o∧o.cls=.type "StopIteration")→E (.ref e) {s with heap:=h',toks:=tk}):
   wpAny (model prog w) A (Builtin.«zip.__next__» ⟨[.ref z],[]⟩) Q E s:=by
 show wpAny _ _ (PySem.field (.ref z) 2 >>= _) _ _ _;refine wpAny_bind (wpAny_field hz rfl (x:=.bool false) rfl ?_)
 show wpAny _ _ (PySem.field (.ref z) 3 >>= _) _ _ _;refine wpAny_bind (wpAny_field hz rfl (x:=.ref TI) rfl (wpAny_bind (wpAny_seqItems hTI rfl ?_)))
 show wpAny _ _ (Builtin.SmallTypes.ownedTupleIsFree (.ref z) >>= _) _ _ _;refine wpAny_bind ?_
 unfold Builtin.SmallTypes.ownedTupleIsFree
 refine wpAny_bind (wpAny_field hz rfl (x:=.none) rfl (wpAny_pure ?_));simp only[if_true]
 refine wpAny_bind (wpAny_rule (wpAny_bind (wpAny_field hz rfl (x:=.ref TO) rfl (wpAny_bind (wpAny_setField_rec hz (by simp) fun ha hza hsa=>?_)))))
 replace hza:IsZip ha z TI TO .ellipsis:=hza
 refine wpAny_bind ?_
 simp only[List.zipIdx_cons,List.zipIdx_nil,List.forIn_cons,List.forIn_nil]
 refine wpAny_bind (wpAny_bind (wpAny_onRaise ?_));show wpAny _ _ (Builtin.SmallTypes.nextOf (.ref i1) >>= _) _ _ _
 rcases hend with rfl|⟨h1,rfl⟩
 · refine wpAny_bind (D1.done _ _ _ (fr_but D1 bC ap.ma hsa) fun hb e hsb he=>?_)
   obtain⟨oe,hoe,hce⟩:=he
   have hzb:IsZip hb z TI TO .ellipsis:=hsb _ _ ap.i1z.symm hza
   have hez:e≠z:=fun x=>by subst x;rw[hzb]at hoe;cases hoe;simp at hce
   exact wpAny_setField_rec hzb (by simp) fun hc _ hsc=>hE hc _ e (fun c o c1 _ c3 _ x=>hsc.extBut _ _ c1 (hsb _ _ c3 (hsa.extBut _ _ c1 x))) ⟨oe,hsc.extBut _ _ hez hoe,hce⟩
 · refine wpAny_bind (D1.item k _ _ _ h1 (fr_but D1 bC ap.ma hsa) fun x hb tb px sb1 hsb=>wpAny_pure ?_)
   have hTOb:IsPair hb TO a b:=hsb.extBut _ _ ap.TOi1 (hsa.extBut _ _ ap.TOz hTO)
   refine wpAny_bind (wpAny_seqItems hTOb rfl (wpAny_bind (wpAny_updateSeq_pair hTOb fun hc hTOc hsc=>?_)))
   refine wpAny_bind (wpAny_letGo (wpAny_pure (wpAny_bind (wpAny_bind (wpAny_onRaise ?_)))));show wpAny _ _ (Builtin.SmallTypes.nextOf (.ref i2) >>= _) _ _ _
   refine wpAny_bind (D2.done _ _ _ (fr_but D2 (fr_but D2 (fr_but D2 st2 ap.oR hsa) ap.uk hsb) ap.nK hsc) fun hd e hsd he=>?_)
   obtain⟨oe,hoe,hce⟩:=he
   have hzd:IsZip hd z TI TO .ellipsis:=hsd _ _ ap.i2z.symm (hsc.extBut _ _ ap.TOz.symm (hsb.extBut _ _ ap.i1z.symm hza))
   have hez:e≠z:=fun x=>by subst x;rw[hzd]at hoe;cases hoe;simp at hce
   exact wpAny_setField_rec hzd (by simp) fun hf _ hsf=>hE hf _ e (fun c o c1 c2 c3 c4 x=>hsf.extBut _ _ c1 (hsd _ _ c4 (hsc.extBut _ _ c2 (hsb.extBut _ _ c3 (hsa.extBut _ _ c1 x))))) ⟨oe,hsf.extBut _ _ hez hoe,hce⟩
end
inductive Sd where
 |l (a:Addr)|t (a:Addr)|s (z:Str)
noncomputable def Sd.at(K:PySem.W.Frag)(H:Hp):Sd→List V→Prop
 |.l a,xs=>aY K H a xs
 |.t a,xs=>bb K H a xs
 |.s z,xs=>xs=z.cps.toList.map fun c=>.str ⟨#[c]⟩
noncomputable def Sd.val:Sd→Tok→Value
 |.l a,_=>.ref a
 |.t a,_=>.ref a
 |.s z,tk=>.str z tk
noncomputable def Sd.obj:Sd→Tok→Obj
 |.l a,_=>{cls:=.type "list_iterator",data:=.fields #[.ref a,.int 0 0]}
 |.t a,_=>{cls:=.type "tuple_iterator",data:=.fields #[.ref a,.int 0 0]}
 |.s z,tk=>{cls:=.type (if z.cps.all (· <128)then "str_ascii_iterator" else "str_iterator"),data:=.fields #[.str z tk,.int 0 0]}
noncomputable def Sd.gB(it:Addr)(i:Nat)(h:Heap)(tk:Tok):Sd→Prop
 |.l a=>h.IsListIter it a i
 |.t a=>h.IsTupleIter it a i
 |.s z=>h.IsStrIter it (if z.cps.all (· <128)then "str_ascii_iterator" else "str_iterator") z tk i
section
variable{X:Cx}{pins:List (Addr×Obj)}{σ:L2.St}{H:Hp}{s:Shared}{d:Sd}{xs:List V}
theorem Sd.inj(I:Inv X pins σ H s){ys:List V}(h:d.at X.K H xs)(h':d.at X.K H ys):xs=ys:=by
 cases d with
 |l a=>exact I.qL h h'
 |t a=>exact I.uQ h h'
 |s z=>exact h.trans h'.symm
theorem Sd.draws{it:Addr}{tk:Tok}{A:Around}(I:Inv X pins σ H s)(hh:A.handled=none)(h:d.at X.K H xs)(hn:H it=none)(hK:X.K.lookup it=none):
   ∃(fp:List Addr) (P:Nat→Value→Prop) (St:Nat→Heap→Prop),Draws X.prog X.w A it fp xs.length P St∧(∀i x,P i x→∃v,xs[i]? =some v∧RelV v x)∧(∀i h',St i h'→d.gB it i h' tk)∧(∀i,d.gB it i s.heap tk→St i s.heap)∧
     (∀c∈fp,c=it∨(H c≠none∨∃o,X.K.lookup c=some o)):=by
 have nl:∀a:Addr,(H a≠none∨∃o,X.K.lookup a=some o)→a≠it:=fun a h z=>by
   subst z
   rcases h with h|⟨o,h⟩
   ·exact h hn
   ·rw[hK]at h;cases h
 cases d with
 | l a=>
   obtain⟨its,rv,pl,hz⟩:=I.list h
   have tr:H a≠none∨∃o,X.K.lookup a=some o:=by
     rcases h with(h|⟨o,h⟩)|⟨o,_,_,h,_⟩
     ·exact .inl (by rw[h];simp)
     ·exact .inl (by rw[h];simp)
     ·exact .inr ⟨o,h⟩
   have D:=Draws.list (prog:=X.prog) (w:=X.w) (A:=A) hh it a (nl a tr) its.toArray
   rw[List.size_toArray, ←rv.length]at D
   refine⟨_,_,_,D,fun i x hx=>?_,fun i h' st=>st.1,fun i st=>⟨st,pl.isList⟩,fun c hc=>?_⟩
   · have hx:its[i]? =some x:=by simpa using hx
     have hi:i<xs.length:=by rw[rv.length];exact(List.getElem?_eq_some_iff.mp hx).1
     obtain⟨u,hu,ru⟩:=rv.get (List.getElem?_eq_getElem hi)
     rw[hx]at hu;cases hu
     exact⟨_,List.getElem?_eq_getElem hi,ru⟩
   · simp only[List.mem_cons,List.not_mem_nil,or_false]at hc
     rcases hc with rfl|rfl
     ·exact .inl rfl
     ·exact .inr tr
 | t a=>
   obtain⟨its,rv,pl,hz⟩:=I.tuple h
   have tr:H a≠none∨∃o,X.K.lookup a=some o:=by
     rcases h with(h|⟨o,h⟩)|⟨o,_,_,h,_⟩
     ·exact .inl (by rw[h];simp)
     ·exact .inl (by rw[h];simp)
     ·exact .inr ⟨o,h⟩
   have D:=D6 (prog:=X.prog) (w:=X.w) (A:=A) hh it a (nl a tr) its.toArray
   rw[List.size_toArray, ←rv.length]at D
   refine⟨_,_,_,D,fun i x hx=>?_,fun i h' st=>st.1,fun i st=>⟨st,pl⟩,fun c hc=>?_⟩
   · have hx:its[i]? =some x:=by simpa using hx
     have hi:i<xs.length:=by rw[rv.length];exact(List.getElem?_eq_some_iff.mp hx).1
     obtain⟨u,hu,ru⟩:=rv.get (List.getElem?_eq_getElem hi)
     rw[hx]at hu;cases hu
     exact⟨_,List.getElem?_eq_getElem hi,ru⟩
   · simp only[List.mem_cons,List.not_mem_nil,or_false]at hc
     rcases hc with rfl|rfl
     ·exact .inl rfl
     ·exact .inr tr
 | s z=>
   have h:xs=z.cps.toList.map fun c=>.str ⟨#[c]⟩:=h
   subst h
   have key:∀(i:Nat) (x:Value),(∃c u,z.cps[i]? =some c∧x=.str ⟨#[c]⟩ u)→∃v,(z.cps.toList.map fun c=>V.str ⟨#[c]⟩)[i]? =some v∧RelV v x:=by
     rintro i x ⟨c,u,hc,rfl⟩
     exact⟨.str ⟨#[c]⟩,by simp[hc],⟨u,rfl⟩⟩
   cases ha:z.cps.all (· <128)with
   | true=>
     have D:=Draws.strAscii (prog:=X.prog) (w:=X.w) (A:=A) hh it z tk
     refine⟨_,_,_,by simpa using D,key,fun i h' st=>?_,fun i st=>?_,fun c hc=>.inl (by simpa using hc)⟩
     · show h'.IsStrIter it (if z.cps.all (· <128)then "str_ascii_iterator" else "str_iterator") z tk i
       rw[ha];exact st
     · have st:s.heap.IsStrIter it (if z.cps.all (· <128)then "str_ascii_iterator" else "str_iterator") z tk i:=st
       rw[ha]at st;exact st
   | false=>
     have D:=Draws.strWide (prog:=X.prog) (w:=X.w) (A:=A) hh it z tk
     refine⟨_,_,_,by simpa using D,key,fun i h' st=>?_,fun i st=>?_,fun c hc=>.inl (by simpa using hc)⟩
     · show h'.IsStrIter it (if z.cps.all (· <128)then "str_ascii_iterator" else "str_iterator") z tk i
       rw[ha];exact st
     · have st:s.heap.IsStrIter it (if z.cps.all (· <128)then "str_ascii_iterator" else "str_iterator") z tk i:=st
       rw[ha]at st;exact st
end
theorem Sd.mX{d:Sd}{it:Addr}{i:Nat}{h h':Heap}{t:Tok}(st:d.gB it i h t)(k:∀o,h.get? it=some o→h'.get? it=some o):d.gB it i h' t:=by
 cases d with
 |l a=>obtain⟨o,e,r⟩:=st;exact⟨o,k o e,r⟩
 |t a=>obtain⟨o,e,r⟩:=st;exact⟨o,k o e,r⟩
 |s z=>obtain⟨o,e,r⟩:=st;exact⟨o,k o e,r⟩
theorem Sd.lJ{d:Sd}{it:Addr}{i:Nat}{h:Heap}{t:Tok}(st:d.gB it i h t):∃o,h.get? it=some o∧∀v,o.data≠.cell v:=by
 cases d with
 |l a=>obtain⟨o,e,c,r⟩:=st;exact⟨o,e,fun v z=>by rw[r]at z;cases z⟩
 |t a=>obtain⟨o,e,c,r⟩:=st;exact⟨o,e,fun v z=>by rw[r]at z;cases z⟩
 |s z=>obtain⟨o,e,c,r⟩:=st;exact⟨o,e,fun v z=>by rw[r]at z;cases z⟩
noncomputable def qp(K:PySem.W.Frag)(d e:Sd):It where
 go i H:=∃xs ys,d.at K H xs∧e.at K H ys∧i<xs.length∧i<ys.length
 ke i H v H':=∃t x y,v=.ref t∧H t=none∧(∀xs,d.at K H xs→xs[i]? =some x)∧(∀ys,e.at K H ys→ys[i]? =some y)∧H'=upd H t (.tup [x,y])
 stop i H:=∃xs ys,d.at K H xs∧e.at K H ys∧(i=xs.length∨(i<xs.length∧i=ys.length))
noncomputable def xc(d e:Sd)(td te:Tok)(z TI TO i1 i2:Addr)(i:Nat)(h:Heap):Prop:=
 IsZip h z TI TO .none∧IsPair h TI (.ref i1) (.ref i2)∧(∃a b,IsPair h TO a b)∧d.gB i1 i h td∧e.gB i2 i h te
theorem xZ{P:Program}{w:World}{K:PySem.W.Frag}{elts:List Expr}{k:Nat}{tp:Pos}(d e:Sd)(td te:Tok)(z TI TO i1 i2:Addr)(ne:[z,TI,TO,i1,i2].Nodup)(hK:∀b∈[z,TI,TO,i1,i2],K.lookup b=none):
   Turn P w K (.Tuple elts k tp) (qp K d e) [z,TI,TO,i1,i2] z (xc d e td te z TI TO i1 i2) where
 mem:=by simp
 obj i h st b hb:=by
   obtain⟨hz,hTI,⟨a,b',hTO⟩,h1,h2⟩:=st
   simp only[List.mem_cons,List.not_mem_nil,or_false]at hb
   rcases hb with rfl|rfl|rfl|rfl|rfl
   ·exact⟨_,hz,fun v q=>by cases q⟩
   ·exact⟨_,hTI,fun v q=>by cases q⟩
   ·exact⟨_,hTO,fun v q=>by cases q⟩
   ·exact Sd.lJ h1
   ·exact Sd.lJ h2
 keep i h h' st kk:=by
   obtain⟨hz,hTI,⟨a,b',hTO⟩,h1,h2⟩:=st
   exact⟨kk z (by simp) _ hz,kk TI (by simp) _ hTI,⟨a,b',kk TO (by simp) _ hTO⟩,Sd.mX h1 fun o q=>kk i1 (by simp) o q,Sd.mX h2 fun o q=>kk i2 (by simp) o q⟩
 item := by
   intro X hP hw hKX hc i pins s σ H E I hf st hg
   subst hP hw hKX
   obtain⟨xs,ys,ax,ay,hx,hy⟩:=hg
   obtain⟨hz,hTI,⟨a,b,hTO⟩,h1,h2⟩:=st
   have hh:X.A.in1.handled=none:=I.ok.hd hc
   have un:∀b∈[z,TI,TO,i1,i2],H b=none:=fun b hb=>(hf b hb).1
   obtain⟨f1,P1,S1,D1,p1,s1,s1',q1⟩:=Sd.draws (it:=i1) (tk:=td) (A:=X.A.in1) I hh ax (un i1 (by simp)) (hK i1 (by simp))
   obtain⟨f2,P2,S2,D2,p2,s2,s2',q2⟩:=Sd.draws (it:=i2) (tk:=te) (A:=X.A.in1) I hh ay (un i2 (by simp)) (hK i2 (by simp))
   have out:∀ {fp:List Addr} {it:Addr},(∀c∈fp,c=it∨(H c≠none∨∃o,X.K.lookup c=some o))→∀b∈[z,TI,TO,i1,i2],b≠it→b∉fp:=fun q b hb hne hm=>by
     rcases q b hm with h|h|⟨o,h⟩
     ·exact hne h
     ·exact h (un b hb)
     ·rw[hK b hb]at h;cases h
   simp only[List.nodup_cons,List.mem_cons,List.not_mem_nil,or_false,not_or,List.nodup_nil,and_true,not_false_eq_true]at ne
   obtain⟨⟨n1,n2,n3,n4⟩,⟨n5,n6,n7⟩,⟨n8,n9⟩,n10⟩:=ne
   have ap:ml z TI TO i1 i2 f1 f2:=⟨Ne.symm n1,Ne.symm n2,Ne.symm n3,Ne.symm n4,n5,n6,n7,n8,n9,n10,out q1 z (by simp) n3,out q1 TO (by simp) n8,out q1 i2 (by simp) (Ne.symm n10),out q2 z (by simp) n4,out q2 TO (by simp) n9,out q2 i1 (by simp) n10⟩
   have hT:s.TypeIs (.ref z) "zip":=⟨_,hz,rfl⟩
   unfold pyNext
   refine wpAny_bind (wpAny_attempt (wpAny_callSpecial?_slot (name:=Str.ofString "__next__") hT PySem.F.slot_zip_next (wpAny_call_entry PySem.F.slot_zip_next hT PySem.F.entry_zip_next (wK D1 D2 ap hz hTI hTO (s1' i h1) (s2' i h2) hx hy fun x y h' tk px py hz' hTO' bC st2 hp hk=>wpAny_pure ?_) (PySem.F.args_zip_next_1 _))))
   obtain⟨v1,e1,r1⟩:=p1 i x px
   obtain⟨v2,e2,r2⟩:=p2 i y py
   refine⟨_,rfl,wpAny_letOwnedTupleGo_zip hz' fun h2' hz2 hs2=>?_⟩
   have hzlt:z<s.heap.objs.size:=Heap.lt_size hz
   have Tz:s.heap.objs.size≠z:=Nat.ne_of_gt hzlt
   have hk2:∀c o,c≠z→c≠TO→c≠i1→c≠i2→s.heap.get? c=some o→h2'.get? c=some o:=fun c o c1 c2 c3 c4 q=>hs2.extBut _ _ c1 (hk c o c1 c2 c3 c4 q)
   have hp2:IsPair h2' s.heap.objs.size x y:=hs2.extBut _ _ Tz hp
   have nT:H s.heap.objs.size=none:=I.aD.fresh (Nat.le_refl _)
   have aT:∀c u,H c=some u→c≠z∧c≠TO∧c≠i1∧c≠i2:=fun c u q=>by refine⟨?_,?_,?_,?_⟩<;>(intro w;rw[w,un _ (by simp)]at q;cases q)
   have nch:∀c,c∉[z,TO,i1,i2]→c≠z∧c≠TO∧c≠i1∧c≠i2:=fun c hc'=>by simpa[not_or] using hc'
   have u:Un (L2.cv X.stack) [z,TO,i1,i2] H (upd H s.heap.objs.size (.tup [v1,v2])) s.heap h2':=
     ⟨fun b o q n hf' hx'=>let m:=nch b hx';hk2 b o m.1 m.2.1 m.2.2.1 m.2.2.2 q,fun b o q n hf' hx'=>let m:=nch b hx';⟨o.slots,hk2 b o m.1 m.2.1 m.2.2.1 m.2.2.2 q⟩,fun b o q n hx'=>by rw[L2.aC (Nat.ne_of_lt (Heap.lt_size q))];exact n,
       fun b o q hx'=>let m:=nch b hx';⟨o,hk2 b o m.1 m.2.1 m.2.2.1 m.2.2.2 q⟩,fun b zs q=>by rw[L2.aC (L2.fg q nT)];exact q,fun b o zs q=>by rw[L2.aC (L2.fg q nT)];exact q,fun b ps q=>⟨#[],by rw[L2.aC (L2.fg q nT),q];simp⟩⟩
   have aD:L2.bp X.prog X.w (upd H s.heap.objs.size (.tup [v1,v2])) h2':=fun b ob q=>by
     by_cases hb:b=s.heap.objs.size
     · subst hb
       rw[L2.bt]at q
       cases q
       exact⟨show 2≤sizeLine by decide,[x,y],.cons r1 (.cons r2 .nil),⟨_,hp2,rfl,_,rfl⟩⟩
     · rw[L2.aC hb]at q
       refine(I.aD b ob q).gk (fun c v hcv w=>?_) (fun c w=>by rw[L2.aC (L2.fg w nT)];exact w) fun c zs w=>by rw[L2.aC (L2.fg w nT)];exact w
       have tc:∃u,H c=some u:=by
         rcases hcv with rfl|hcv
         ·exact⟨_,q⟩
         ·exact⟨_,hcv⟩
       obtain⟨u',hu'⟩:=tc
       have m:=aT c u' hu'
       exact hk2 c v m.1 m.2.1 m.2.2.1 m.2.2.2 w
   have I2:Inv X pins σ (upd H s.heap.objs.size (.tup [v1,v2])) {s with heap:=h2',toks:=tk}:=I.oW (s':={s with heap:=h2',toks:=tk}) (ch:=[z,TO,i1,i2]) rfl u aD I.bare fun b hb=>by
     have hb':b∈[z,TI,TO,i1,i2]:=by
       simp only[List.mem_cons,List.not_mem_nil,or_false]at hb ⊢
       rcases hb with h|h|h|h<;>simp[h]
     obtain⟨_,a1,a2,a3,a4,a5⟩:=hf b hb'
     exact⟨a3,a1,a4,a5⟩
   have ltb:∀b∈[z,TI,TO,i1,i2],b≠s.heap.objs.size:=fun b hb=>by
     have:∃o,s.heap.get? b=some o:=by
       simp only[List.mem_cons,List.not_mem_nil,or_false]at hb
       rcases hb with rfl|rfl|rfl|rfl|rfl
       ·exact⟨_,hz⟩
       ·exact⟨_,hTI⟩
       ·exact⟨_,hTO⟩
       ·exact let⟨o,q,_⟩:=Sd.lJ h1;⟨o,q⟩
       ·exact let⟨o,q,_⟩:=Sd.lJ h2;⟨o,q⟩
     obtain⟨o,q⟩:=this
     exact Nat.ne_of_lt (Heap.lt_size q)
   refine⟨.ref s.heap.objs.size,_,I2,rfl,⟨_,v1,v2,rfl,nT,fun xs' hx'=>by rw[Sd.inj I hx' ax];exact e1,fun ys' hy'=>by rw[Sd.inj I hy' ay];exact e2,rfl⟩,⟨hz2,?_,⟨_,_,hs2.extBut _ _ (Ne.symm n2) hTO'⟩,Sd.mX (s1 _ _ bC) fun o q=>hs2.extBut _ _ (Ne.symm n3) q,Sd.mX (s2 _ _ st2) fun o q=>hs2.extBut _ _ (Ne.symm n4) q⟩,fun b hb=>?_⟩
   ·exact hk2 TI _ (Ne.symm n1) n5 n6 n7 hTI
   · show upd H _ _ b=none
     rw[L2.aC (ltb b hb)];exact un b hb
 done := by
   intro X hP hw hKX hc i pins s σ H E I hf st hg
   subst hP hw hKX
   obtain⟨xs,ys,ax,ay,hend⟩:=hg
   obtain⟨hz,hTI,⟨a,b,hTO⟩,h1,h2⟩:=st
   have hh:X.A.in1.handled=none:=I.ok.hd hc
   have un:∀b∈[z,TI,TO,i1,i2],H b=none:=fun b hb=>(hf b hb).1
   obtain⟨f1,P1,S1,D1,p1,s1,s1',q1⟩:=Sd.draws (it:=i1) (tk:=td) (A:=X.A.in1) I hh ax (un i1 (by simp)) (hK i1 (by simp))
   obtain⟨f2,P2,S2,D2,p2,s2,s2',q2⟩:=Sd.draws (it:=i2) (tk:=te) (A:=X.A.in1) I hh ay (un i2 (by simp)) (hK i2 (by simp))
   have out:∀ {fp:List Addr} {it:Addr},(∀c∈fp,c=it∨(H c≠none∨∃o,X.K.lookup c=some o))→∀b∈[z,TI,TO,i1,i2],b≠it→b∉fp:=fun q b hb hne hm=>by
     rcases q b hm with h|h|⟨o,h⟩
     ·exact hne h
     ·exact h (un b hb)
     ·rw[hK b hb]at h;cases h
   simp only[List.nodup_cons,List.mem_cons,List.not_mem_nil,or_false,not_or,List.nodup_nil,and_true,not_false_eq_true]at ne
   obtain⟨⟨n1,n2,n3,n4⟩,⟨n5,n6,n7⟩,⟨n8,n9⟩,n10⟩:=ne
   have ap:ml z TI TO i1 i2 f1 f2:=⟨Ne.symm n1,Ne.symm n2,Ne.symm n3,Ne.symm n4,n5,n6,n7,n8,n9,n10,out q1 z (by simp) n3,out q1 TO (by simp) n8,out q1 i2 (by simp) (Ne.symm n10),out q2 z (by simp) n4,out q2 TO (by simp) n9,out q2 i1 (by simp) n10⟩
   have hT:s.TypeIs (.ref z) "zip":=⟨_,hz,rfl⟩
   unfold pyNext
   refine wpAny_bind (wpAny_attempt (wpAny_callSpecial?_slot (name:=Str.ofString "__next__") hT PySem.F.slot_zip_next (wpAny_call_entry PySem.F.slot_zip_next hT PySem.F.entry_zip_next (vV D1 D2 ap hz hTI hTO (s1' i h1) (s2' i h2) hend fun h' tk e' hk he=>?_) (PySem.F.args_zip_next_1 _))))
   obtain⟨o,ho,hce⟩:=he
   refine wpAny_bind (wpAny_isInstance (T:="StopIteration") (b:=true) ⟨o,ho,hce⟩ isSubtype_stop (wpAny_pure ⟨rfl,?_⟩))
   have nch:∀c,c∉[z,TO,i1,i2]→c≠z∧c≠TO∧c≠i1∧c≠i2:=fun c hc'=>by simpa[not_or] using hc'
   have aT:∀c u,H c=some u→c≠z∧c≠TO∧c≠i1∧c≠i2:=fun c u q=>by refine⟨?_,?_,?_,?_⟩<;>(intro w;rw[w,un _ (by simp)]at q;cases q)
   have u:Un (L2.cv X.stack) [z,TO,i1,i2] H H s.heap h':=
     ⟨fun b o q n hf' hx'=>let m:=nch b hx';hk b o m.1 m.2.1 m.2.2.1 m.2.2.2 q,fun b o q n hf' hx'=>let m:=nch b hx';⟨o.slots,hk b o m.1 m.2.1 m.2.2.1 m.2.2.2 q⟩,fun b o q n hx'=>n,
       fun b o q hx'=>let m:=nch b hx';⟨o,hk b o m.1 m.2.1 m.2.2.1 m.2.2.2 q⟩,fun b zs q=>q,fun b o zs q=>q,fun b ps q=>⟨#[],by rw[q];simp⟩⟩
   exact I.oW (s':={s with heap:=h',toks:=tk}) (ch:=[z,TO,i1,i2]) rfl u (fun b ob q=>(I.aD b ob q).gk (fun c v hcv w=>by
       have tc:∃u,H c=some u:=by
         rcases hcv with rfl|hcv
         ·exact⟨_,q⟩
         ·exact⟨_,hcv⟩
       obtain⟨u',hu'⟩:=tc
       have m:=aT c u' hu'
       exact hk c v m.1 m.2.1 m.2.2.1 m.2.2.2 w) (fun _ w=>w) fun _ _ w=>w) I.bare fun b hb=>by
     have hb':b∈[z,TI,TO,i1,i2]:=by
       simp only[List.mem_cons,List.not_mem_nil,or_false]at hb ⊢
       rcases hb with h|h|h|h<;>simp[h]
     obtain⟨_,a1,a2,a3,a4,a5⟩:=hf b hb'
     exact⟨a3,a1,a4,a5⟩
 self _ _ _ _ _ st h:=wpAny_pyIter_zip st.1 h
noncomputable def Sd.is(h:Heap):Sd→Prop
 |.l a=>∃xs,h.IsList a xs
 |.t a=>∃xs,h.IsTuple a xs
 |.s _=>True
theorem Sd.AU{h:Heap}{d:Sd}(o:Obj)(x:d.is h):d.is (h.push o):=by
 cases d with
 |l a=>obtain⟨xs,ob,e,r⟩:=x;exact⟨xs,ob,Heap.get?_push_of_some _ e,r⟩
 |t a=>obtain⟨xs,ob,e,r⟩:=x;exact⟨xs,ob,Heap.get?_push_of_some _ e,r⟩
 |s z=>trivial
theorem Sd.iter{prog:Program}{w:World}{A:Around}{E:Value→Shared→Prop}{s:Shared}{d:Sd}{tk:Tok}{Q:Value→Shared→Prop}(x:d.is s.heap)(h:Q (.ref s.heap.objs.size) {s with heap:=s.heap.push (d.obj tk)}):
   wpAny (model prog w) A (pyIter (d.val tk)) Q E s:=by
 cases d with
 |l a=>obtain⟨xs,x⟩:=x;exact wpAny_pyIter_list x h
 |t a=>obtain⟨xs,x⟩:=x;exact wpAny_pyIter_tuple x h
 | s z=>
   have h:Q (.ref s.heap.objs.size) {s with heap:=s.heap.push {cls:=.type (if z.cps.all (· <128)then "str_ascii_iterator" else "str_iterator"),data:=.fields #[.str z tk,.int 0 0]} }:=h
   cases ha:z.cps.all (· <128)with
   |true=>rw[ha]at h;exact wpAny_pyIter_ascii ha h
   |false=>rw[ha]at h;exact wpAny_pyIter_wide ha h
noncomputable abbrev mj(h:Heap)(d:Sd)(td:Tok):Heap:=h.push (d.obj td)
noncomputable abbrev ni(h:Heap)(d e:Sd)(td te:Tok):Heap:=(mj h d td).push (e.obj te)
noncomputable abbrev mD(h:Heap)(d e:Sd)(td te:Tok):Heap:=(ni h d e td te).push {cls:=.type "tuple",data:=.seq #[.ref h.objs.size,.ref (mj h d td).objs.size]}
noncomputable abbrev mN(h:Heap)(d e:Sd)(td te:Tok):Heap:=(mD h d e td te).push {cls:=.type "tuple",data:=.seq #[.none,.none]}
noncomputable abbrev gS(h:Heap)(d e:Sd)(td te:Tok):Heap:=(mN h d e td te).push {cls:=.type "zip",data:=.fields #[.none,.bool false,.bool false,.ref (ni h d e td te).objs.size,.ref (mD h d e td te).objs.size]}
theorem Dm(d e:Sd)(td te:Tok):Meets (Builtin.«zip.__new__» ⟨[.type "zip",d.val td,e.val te],[]⟩) (fun _ R s=>d.is s.heap∧e.is s.heap∧R (.ok (.ret (.ref (mN s.heap d e td te).objs.size))) {s with heap:=gS s.heap d e td te}):=
 .of_wp fun prog w A R s h=>by
   obtain⟨hp,g,dr,tk,os⟩:=s;obtain⟨h1,h2,h⟩:=h
   have hsub:=sub_zip
   have a1:d.is (Shared.heap ⟨hp,g,dr,tk,os⟩):=h1
   have a2:e.is (Shared.heap ⟨hp.push (d.obj td),g,dr,tk,os⟩):=Sd.AU _ h2
   wp_walk using Sd.iter a1,Sd.iter a2
   exact⟨_,rfl,h⟩
section
variable{X:Cx}{M:Md}{G H H':Hp}{F0 F F':Addr→Prop}{σ:L2.St}{ρ:En}{pos:Pos}{pins:List (Addr×Obj)}{s:Shared}
theorem Sd.qW{d:Sd}{xs:List V}(I:Inv X pins σ H s)(h:d.at X.K H xs):d.is s.heap:=by
 cases d with
 |l a=>obtain⟨its,_,pl,_⟩:=I.list h;exact⟨_,pl.isList⟩
 |t a=>obtain⟨its,_,pl,_⟩:=I.tuple h;exact⟨_,pl⟩
 |s z=>trivial
noncomputable def w6(K:PySem.W.Frag)(ta:TA):TI:=fun σ H R=>ta σ H fun vs H1=>∃(x y:V) (d e:Sd) (xs ys:List V),vs=[x,y]∧(∀u,RelV x u→∃tk,u=d.val tk)∧(∀u,RelV y u→∃tk,u=e.val tk)∧d.at K H1 xs∧e.at K H1 ys∧R (qp K d e) H1
theorem A4:bootBuiltins "zip"=some (.type "zip"):=by decide+kernel
theorem DT{elts:List Expr}{k:Nat}{tp:Pos}{a b:Expr}{ta:TA}{p:Pos}(hg:L2.Gl X "zip")(hm:X.mg "zip"=none)(ha:PA X [a,b] ta)(hs:starEach [a,b] X.env=(false,eval a X.env)::starEach [b] X.env)(hs2:starEach [b] X.env=(false,eval b X.env)::starEach [] X.env):
   L2.PI X (.Tuple elts k tp) (.Call (.Name "zip" p) [a,b] [] pos) (w6 X.K ta):=by
 intro pins s σ H R I h
 refine PyProof.Rows.Call_ (L2.i6 I hg hm A4 (PyProof.Rows.callWith_type1 (L2.aE (ha pos pins s σ H _ I h) fun us s1 ⟨vs,H1,I1,r1,q1⟩=>?_) hs (by rw[hs2];rfl)))
 obtain⟨x,y,d,e,xs,ys,rfl,hx,hy,ax,ay,q⟩:=q1
 obtain⟨u1,u2,rfl,ru1,ru2⟩:=L2.vals2 r1
 obtain⟨td,rfl⟩:=hx u1 ru1
 obtain⟨te,rfl⟩:=hy u2 ru2
 refine callType_new PySem.F.called_zip (by decide) (PySem.F.typeCall_zip_2 _ _) (PySem.F.newCall_zip_2 _ _) (fun obj=>PySem.F.args_object_init_3 obj _ _) PySem.F.entry_zip_new (Dm d e td te) ⟨Sd.qW I1 ax,Sd.qW I1 ay,?_⟩
 have z1:(mj s1.heap d td).objs.size=s1.heap.objs.size+1:=Heap.size_push ..
 have z2:(ni s1.heap d e td te).objs.size=s1.heap.objs.size+2:=by rw[Heap.size_push,z1]
 have z3:(mD s1.heap d e td te).objs.size=s1.heap.objs.size+3:=by rw[Heap.size_push,z2]
 have z4:(mN s1.heap d e td te).objs.size=s1.heap.objs.size+4:=by rw[Heap.size_push,z3]
 have nf:∀(d:Sd) tk,(d.obj tk).isFreed=false:=fun d tk=>by cases d<;>rfl
 have g5:(gS s1.heap d e td te).get? (mN s1.heap d e td te).objs.size=some _:=Heap.get?_push_size _ rfl
 have g4:(gS s1.heap d e td te).get? (mD s1.heap d e td te).objs.size=some _:=Heap.get?_push_of_some _ (Heap.get?_push_size _ rfl)
 have g3:(gS s1.heap d e td te).get? (ni s1.heap d e td te).objs.size=some _:=Heap.get?_push_of_some _ (Heap.get?_push_of_some _ (Heap.get?_push_size _ rfl))
 have g2:(gS s1.heap d e td te).get? (mj s1.heap d td).objs.size=some (e.obj te):=Heap.get?_push_of_some _ (Heap.get?_push_of_some _ (Heap.get?_push_of_some _ (Heap.get?_push_size _ (nf e te))))
 have g1:(gS s1.heap d e td te).get? s1.heap.objs.size=some (d.obj td):=Heap.get?_push_of_some _ (Heap.get?_push_of_some _ (Heap.get?_push_of_some _ (Heap.get?_push_of_some _ (Heap.get?_push_size _ (nf d td)))))
 have old:∀c o,s1.heap.get? c=some o→(gS s1.heap d e td te).get? c=some o:=fun c o x=>Heap.get?_push_of_some _ (Heap.get?_push_of_some _ (Heap.get?_push_of_some _ (Heap.get?_push_of_some _ (Heap.get?_push_of_some _ x))))
 rw[z2,z3,z4]at g5
 rw[z1,z2]at g3
 rw[z3]at g4
 rw[z1]at g2
 show _∧_
 rw[z4]
 refine⟨⟨_,g5,rfl⟩,wpAny_pyIter_zip g5 ?_⟩
 have I2:Inv X pins σ H1 {s1 with heap:=gS s1.heap d e td te}:=I1.kept (t':=s1.toks) old
 have hK:∀b,s1.heap.objs.size≤b→X.K.lookup b=none:=fun b hb=>by
   cases q:X.K.lookup b with
   |none=>rfl
   |some o=>exact absurd (Nat.lt_of_lt_of_le (Heap.lt_size (I1.b5 b o q)) hb) (Nat.lt_irrefl _)
 have itr0:∀ {d:Sd} {it:Addr} {tk:Tok} {h:Heap},h.get? it=some (d.obj tk)→d.gB it 0 h tk:=fun {d it tk h} q=>by
   cases d with
   |l a=>exact⟨_,q,rfl,rfl⟩
   |t a=>exact⟨_,q,rfl,rfl⟩
   |s z=>exact⟨_,q,rfl,rfl⟩
 refine⟨s1.heap.objs.size+4,[s1.heap.objs.size+4,s1.heap.objs.size+2,s1.heap.objs.size+3,s1.heap.objs.size,s1.heap.objs.size+1],_,_,H1,rfl,I2,xZ d e td te _ _ _ _ _ ?_ ?_,⟨g5,g3,⟨_,_,g4⟩,itr0 g1,itr0 g2⟩,fun b hb=>?_,q⟩
 ·simp
 · intro b hb
   refine hK b ?_
   simp only[List.mem_cons,List.not_mem_nil,or_false]at hb
   rcases hb with rfl|rfl|rfl|rfl|rfl<;>omega
 · have hb':s1.heap.objs.size≤b:=by
     simp only[List.mem_cons,List.not_mem_nil,or_false]at hb
     rcases hb with rfl|rfl|rfl|rfl|rfl<;>omega
   exact I1.jB hb' (I1.aD.fresh hb')
theorem tL{d:D}{ds:List D}{x:V}(e:items d=.ok ds)(r:Rep M H F d x):∃(q:Sd) (xs:List V),(∀u,RelV x u→∃tk,u=q.val tk)∧ae M H F ds xs∧∀H' F',Mv F H F' H'→q.at M.K H' xs:=by
 unfold items at e
 split at e
 · cases e
   simp only[Rep]at r
   obtain⟨a,xs,rfl,h,rs⟩:=r
   exact⟨.l a,xs,fun u ru=>⟨0,ru⟩,rs,fun H' F' m=>(h.mv m).sq⟩
 · cases e
   simp only[Rep]at r
   obtain⟨a,xs,rfl,h,rs⟩:=r
   exact⟨.t a,xs,fun u ru=>⟨0,ru⟩,rs,fun H' F' m=>(h.mv m).sq⟩
 · rename_i z
   cases e
   cases eA r
   refine⟨.s z,z.cps.toList.map fun c=>.str ⟨#[c]⟩,fun u ⟨tk,ru⟩=>⟨tk,ru⟩,?_,fun _ _ _=>rfl⟩
   generalize z.cps.toList=l
   induction l with
   |nil=>exact ae.nil
   |cons c l ih=>exact ae.cons jc ih
 ·cases e
theorem vI:∀ {xs ys:List D},(fQ xs ys).length=min xs.length ys.length
 |[],_=>by simp
 |_::_,[]=>by simp
 |x::xs,y::ys=>by simp[vI (xs:=xs) (ys:=ys)]
theorem vv:∀ {xs ys:List D} {i:Nat} {d:D},(fQ xs ys)[i]? =some d→∃x y,d=.tup [x,y]∧xs[i]? =some x∧ys[i]? =some y
 |[],_,_,_,h=>by simp at h
 |_::_,[],_,_,h=>by simp at h
 |x::xs,y::ys,0,d,h=>by simp at h;exact⟨x,y,h.symm,rfl,rfl⟩
 | x::xs,y::ys,i+1,d,h=>by
   have h:(fQ xs ys)[i]? =some d:=by simpa using h
   obtain⟨a,b,h1,h2,h3⟩:=vv h
   exact⟨a,b,h1,by simpa using h2,by simpa using h3⟩
theorem DD{q r:Sd}{xs ys:List V}{ds es:List D}(h1:∀H' F',Mv F H F' H'→q.at M.K H' xs)(h2:∀H' F',Mv F H F' H'→r.at M.K H' ys)(rs:ae M H F ds xs)(ss:ae M H F es ys)
   (inj1:∀H' F' zs,Mv F H F' H'→q.at M.K H' zs→True):Gives M (qp M.K q r) H F (fQ ds es):=by
 intro H' F' mv tr
 have a1:=h1 H' F' mv
 have a2:=h2 H' F' mv
 have rs':=rs.mv mv
 have ss':=ss.mv mv
 refine⟨fun i d hd=>?_,?_⟩
 · obtain⟨x,y,rfl,hx,hy⟩:=vv hd
   obtain⟨vx,ex,rx⟩:=rs'.get hx
   obtain⟨vy,ey,ry⟩:=ss'.get hy
   refine⟨⟨xs,ys,a1,a2,(List.getElem?_eq_some_iff.mp ex).1,(List.getElem?_eq_some_iff.mp ey).1⟩,fun v H2 hv=>?_⟩
   obtain⟨t,wx,wy,rfl,ht,g1,g2,rfl⟩:=hv
   have q1:=g1 xs a1
   have q2:=g2 ys a2
   rw[ex]at q1
   rw[ey]at q2
   cases q1
   cases q2
   exact⟨af.cj ht _,jr tr ht (ae.cons rx (ae.cons ry ae.nil))⟩
 · refine⟨xs,ys,a1,a2,?_⟩
   rw[vI,rs.length,ss.length]
   omega
theorem Bh{elts:List Expr}{k:Nat}{tp:Pos}{a b:Expr}{fa fb:Ex}{p:Pos}(hg:L2.Gl X "zip")(hm:X.mg "zip"=none)(ha:JE X a fa)(hb:JE X b fb)(hs:starEach [a,b] X.env=(false,eval a X.env)::starEach [b] X.env)(hs2:starEach [b] X.env=(false,eval b X.env)::starEach [] X.env):
   JI X (.Tuple elts k tp) (.Call (.Name "zip" p) [a,b] [] pos) (j4 fa fb):=
 lB (DT hg hm (fH ha (fH hb gA hs2) hs) hs hs2) fun σ H Q ⟨ρ,F,ds,r,e,q⟩=>by
   obtain⟨d1,ed1,e⟩:=aq.mp e
   obtain⟨d2,ed2,e⟩:=aq.mp e
   obtain⟨xs,exs,e⟩:=aq.mp e
   obtain⟨ys,eys,e⟩:=aq.mp e
   cases e
   refine⟨ρ,F,[d1,d2],r,by show(fa ρ).bind _=_;rw[ed1];show((fb ρ).bind _).bind _=_;rw[ed2];rfl,fun vs H1 s1 rv=>?_⟩
   obtain⟨x,y,rfl,rx,ry⟩:=rv.two
   obtain⟨sd1,vx,u1,rr1,at1⟩:=tL exs rx
   obtain⟨sd2,vy,u2,rr2,at2⟩:=tL eys ry
   exact⟨x,y,sd1,sd2,vx,vy,rfl,u1,u2,at1 H1 F Mv.refl,at2 H1 F Mv.refl,q _ H1 s1 (DD (M:=aw X) at1 at2 rr1 rr2 fun _ _ _ _ _=>trivial)⟩
end
noncomputable def t7:D→Value→Prop
 |.aA,u=>u=.none
 |.bl b,u=>u=.bool b
 |.int i,u=>∃t,u=.int i t
 |.str x,u=>∃t,u=.str x t
 |_,_=>False
theorem zd{d:D}{u:Value}(h:t7 d u):∃v,RelV v u∧∀(M:Md) H F,Rep M H F d v:=by
 cases d with
 |aA=>exact⟨.aA,h,fun _ _ _=>om⟩
 |bl b=>exact⟨.bl b,h,fun _ _ _=>er⟩
 |int i=>exact⟨.int i,h,fun _ _ _=>dM⟩
 |str x=>exact⟨.str x,h,fun _ _ _=>jc⟩
 |_=>exact h.elim
section
variable{P:Program}{w:World}{K:PySem.W.Frag}{h:Heap}{mg:Str→Option Value}{x:Str}
theorem CN{u:Value}{d:D}(X:K.In h)(G:h.Ns mainGlobals mg)(e1:PySem.W.nsIn K mainGlobals x=some (some u))(hm:t7 d u):iL P w K mg x d:=by
 obtain⟨v,rv,hv⟩:=zd hm
 exact⟨v,u,PySem.W.mg_of X G e1,rv,fun H F=>hv _ H F⟩
end
end PL
namespace PL
open PySem
end PL
set_option maxHeartbeats 1000000
namespace PL
open PySem PySem.Spec
open L2 (V Hp HO Cx PE PT PW PA PS bT PG cY VK TE TT TA TS TI TG Inv RelV Vals Rd aY bb upd af Key XK Ends aR fi bu R2 EP It Turn cu Un)
section
variable{X:Cx}{M:Md}{G H H':Hp}{F0 F F':Addr→Prop}{σ:L2.St}{ρ:En}{pos:Pos}{pins:List (Addr×Obj)}{s:Shared}
theorem aQ.fresh{p:Addr}{o:HO}(r:aQ M H F σ ρ)(hp:H p=none):aQ M (upd H p o) (fun b=>F b∨b=p) σ ρ:=by
 have ne:∀b u,H b=some u→b≠p:=fun b u e z=>by subst z;rw[hp]at e;cases e
 have mv:Mv F H (fun b=>F b∨b=p) (upd H p o):=fun b u n e=>⟨fun h=>h.elim n (ne b u e),by rw[L2.aC (ne b u e)];exact e⟩
 have sm:af H (upd H p o):=af.cj hp _
 exact⟨r.len,fun b f=>by
   by_cases hb:b=p
   ·subst hb;exact⟨_,L2.bt⟩
   ·obtain⟨u,hu⟩:=r.aT b (f.resolve_right hb);exact⟨u,sm _ _ hu⟩,
   fun i d e=>let⟨v,h1,h2⟩:=r.sh i d e;⟨v,h1,h2.mv mv⟩,
   fun i ds e=>let⟨a,xs,e1,f,e2,q⟩:=r.ol i ds e;⟨a,xs,e1,.inl f,sm _ _ e2,q.mv mv⟩,
   fun i ks ds e=>let⟨a,xs,e1,f,e2,l,q⟩:=r.od i ks ds e;⟨a,xs,e1,.inl f,sm _ _ e2,l,q.mv mv⟩,
   r.bX,r.on.mv mv (fun j xss e=>⟨e,rfl⟩) (fun j xss b u e hb f hu=>⟨.inl f,sm _ _ hu⟩) fun j xss b e hb k ok=>(r.on j xss e).2.1 b hb k ok⟩
noncomputable def JP(X:Cx)(pos:Pos)(keys:List (Option Expr))(values:List Expr)(ks:List Ky)(fs:List Ex):Prop:=
 ∃trs,L2.jh X pos keys values trs∧∀(F:Addr→Prop) (σ:L2.St) (H:Hp) (ρ:En) (ds:List D) (Q:List (V×V)→Hp→Prop),aQ (aw X) H F σ ρ→eList fs ρ=.ok ds→
   (∀xs H',af H H'→ae (aw X) H' F ds xs→Q ((ks.zip xs).map fun kv=>(L2.kV kv.1,kv.2)) H')→L2.kN trs σ H Q
theorem zU:JP X pos [] [] [] []:=⟨[],L2.pG,fun F σ H ρ ds Q r e q=>by cases e;exact q [] H (af.refl H) ae.nil⟩
theorem Cu{k v:Expr}{z:Str}{f:Ex}{keys:List (Option Expr)}{values:List Expr}{ks:List Ky}{fs:List Ex}(hk:JE X k (eC (.str z)))(hv:JE X v f)(hr:JP X pos keys values ks fs):JP X pos (some k::keys) (v::values) (.inr z::ks) (f::fs):=by
 obtain⟨trs,h,g⟩:=hr
 refine⟨_,L2.mx hk hv h,fun F σ H ρ ds Q r e q=>?_⟩
 obtain⟨a,ea,e⟩:=aq.mp e
 obtain⟨as,eas,e⟩:=aq.mp e
 cases e
 refine⟨ρ,F,.str z,r,rfl,fun x H1 s1 rx=>⟨ρ,F,a,r.same s1,ea,fun y H2 s2 ry=>g F σ H2 ρ as _ ((r.same s1).same s2) eas fun xs H3 s3 rs=>?_⟩⟩
 cases eA rx
 exact q (y::xs) H3 ((s1.trans s2).trans s3) (ae.cons (ry.mv (.same s3)) rs)
theorem EO{kvs:List (Key×V)}{k:Key}{v:V}(h:k∉kvs.map (·.1)):L2.putK kvs k v=kvs++[(k,v)]:=by
 unfold L2.putK
 rw[if_neg]
 intro h1
 rw[List.any_eq_true]at h1
 obtain⟨kv,hm,hk⟩:=h1
 exact h (List.mem_map.mpr ⟨kv,hm,by simpa using hk⟩)
theorem lR:∀ {more kvs:List (Key×V)},(kvs.map (·.1)++more.map (·.1)).Nodup→L2.dm kvs more=kvs++more
 |[],kvs,_=>by show kvs=_;rw[List.append_nil]
 | p::r,kvs,h=>by
   show L2.dm (L2.putK kvs p.1 p.2) r=_
   have hp:p.1∉kvs.map (·.1):=fun hm=>by
     rw[List.map_cons,List.nodup_append]at h
     exact h.2.2 _ hm _ List.mem_cons_self rfl
   rw[EO hp,lR (by simpa using h),List.append_assoc]
   rfl
theorem yW{keys:List (Option Expr)}{values:List Expr}{ks:List Ky}{fs:List Ex}(h:JP X pos keys values ks fs)(hall:keys.all (·.isSome)=true)(hl:keys.length=values.length)(h0:keys≠[])(h15:keys.length≤15)(hk:ks.length=fs.length)(hk15:ks.length≤15)(hn:ks.Nodup):JE X (.Dict keys values pos) (cU ks fs):=by
 obtain⟨trs,hp,g⟩:=h
 refine qy (L2.qf hp hall hl h0 h15) fun σ H Q ⟨ρ,F,d,hr,e,q⟩=>?_
 obtain⟨as,ea,e⟩:=aq.mp e
 cases e
 intro p hp
 have hfr:=hr.fresh (o:=.dK []) hp
 refine g _ σ _ ρ as _ hfr ea fun xs H2 s2 rs=>?_
 have hlx:ks.length=xs.length:=by rw[←rs.length,ib ea,hk]
 have e2:H2 p=some (.dK []):=s2 _ _ L2.bt
 have hm:L2.dm [] (ks.zip xs)=ks.zip xs:=by
   rw[lR (by simp only[List.map_nil,List.nil_append];rw[show(ks.zip xs).map (·.1)=ks from by rw[List.map_fst_zip];omega];exact hn)]
   rfl
 refine⟨e2,ks.zip xs,rfl,by rw[List.length_zip];omega,?_⟩
 rw[hm]
 refine⟨p,ks.zip xs,rfl,L2.bt,fun ob=>?_⟩
 rw[L2.o9]
 have sm:af H (upd H2 p (.frz ob (.dK (ks.zip xs)))):=fun b u e=>by
   have ne:b≠p:=fun z=>by subst z;rw[hp]at e;cases e
   rw[L2.aC ne]
   exact s2 _ _ (by rw[L2.aC ne];exact e)
 have nF:¬F p:=kF hr.aT hp
 have mv:Mv (fun b=>F b∨b=p) H2 F (upd H2 p (.frz ob (.dK (ks.zip xs)))):=fun b u n e=>⟨fun h=>n (.inl h),by rw[L2.aC (fun z=>n (.inr z))];exact e⟩
 refine q _ _ sm ?_
 simp only[Rep]
 exact⟨p,xs,rfl,.inl ⟨nF,ob,L2.bt⟩,hlx,rs.mv mv⟩
end
section
variable{X:Cx}{M:Md}{G H H':Hp}{F0 F F':Addr→Prop}{σ:L2.St}{ρ:En}{pos:Pos}{pins:List (Addr×Obj)}{s:Shared}
end
section
variable{X:Cx}{M:Md}{G H H':Hp}{F0 F F':Addr→Prop}{σ:L2.St}{ρ:En}{pos:Pos}{pins:List (Addr×Obj)}{s:Shared}
end
section
variable{X:Cx}{M:Md}{G H H':Hp}{F0 F F':Addr→Prop}{σ:L2.St}{ρ:En}{pos:Pos}{pins:List (Addr×Obj)}{s:Shared}
end
noncomputable def pE(i:Int):Bool:=decide (i.natAbs.log2<100000)
@[simp] noncomputable def Fd:D→D→R D
 |.int i,.int j=>if(pE i&&pE j)=true then .ok (.int (i*j))else .bad
 |_,_=>.bad
@[simp] noncomputable def Fw:D→D→R D
 |.int i,.int j=>if 0<j∧j.natAbs.log2<9000 then .ok (.int (i / j))else .bad
 |_,_=>.bad
@[simp] noncomputable def E2:D→D→R D
 |.int i,.int j=>if 0≤j∧j≤1000∧pE i=true then .ok (.int (i ^ j.toNat))else .bad
 |_,_=>.bad
@[simp] noncomputable def E5:D→D→R D
 |.int i,.int j=>.ok (.int (if j>i then j else i))
 |_,_=>.bad
noncomputable def frz(i:Nat)(ρ:En):En:=match ρ[i]? with
 |some (.ol xs)=>ρ.set i (.sh (.lst xs))
 |_=>ρ
mutual
noncomputable def cM:D→Bool
 |.aA=>true
 |.bl _=>true
 |.int _=>true
 |.str _=>true
 |.tup xs=>jf xs
 |_=>false
noncomputable def jf:List D→Bool
 |[]=>true
 |x::xs=>cM x&&jf xs
end
@[simp] noncomputable def EW(i:Nat)(f:Ex):Ex:=fun ρ=>(f (frz i ρ)).bind fun d=>if cM d=true then .ok d else .bad
@[simp] noncomputable def E3(i:Nat)(f:aG):aG:=fun ρ=>f (frz i ρ)
section
variable{X:Cx}{M:Md}{G H H':Hp}{F0 F F':Addr→Prop}{σ:L2.St}{ρ:En}{pos:Pos}{pins:List (Addr×Obj)}{s:Shared}
theorem ae.vK{ds:List D}{xs:List V}(h:ae M H F ds xs):∀k:Nat,ae M H F (List.replicate k ds).flatten (List.replicate k xs).flatten
 |0=>by simp[ae]
 | k+1=>by
   rw[List.replicate_succ,List.replicate_succ,List.flatten_cons,List.flatten_cons]
   exact h.append (ae.vK h k)
theorem aQ.frz(r:aQ M H F σ ρ)(i:Nat):∃F',(∀b,F b→F' b∨∃u,H b=some u∧((∃xs,u=.lst xs)∨∃kvs,u=.dK kvs))∧aQ M H F' σ (frz i ρ):=by
 by_cases ol:∃ds,ρ[i]? =some (.ol ds)
 · obtain⟨ds,q0⟩:=ol
   have oi:bh ρ i:=.inl ⟨_,q0⟩
   obtain⟨a,xs,ei,fa,e2,rs⟩:=r.ol i ds q0
   have mv:Mv F H (fun b=>F b∧b≠a) H:=fun b v n e=>⟨fun h=>n h.1,e⟩
   have hrep:Rep M H (fun b=>F b∧b≠a) (.lst ds) (.ref a):=by
     simp only[Rep]
     exact⟨a,xs,rfl,.inl ⟨fun h=>h.2 rfl,.inl e2⟩,rs.mv mv⟩
   refine⟨fun b=>F b∧b≠a,fun b h=>?_,?_⟩
   · by_cases hb:b=a
     · subst hb
       exact .inr ⟨_,e2,.inl ⟨_,rfl⟩⟩
     ·exact .inl ⟨h,hb⟩
   unfold PL.frz
   rw[q0]
   refine⟨by simp[r.len],fun b h=>r.aT b h.1,?_,?_,?_,?_,vo r.on oi ei mv (fun b f n=>⟨f,n⟩)⟩
   · intro j e q
     rcases get_set q with⟨rfl,hx,hl⟩|⟨hne,q⟩
     · cases hx
       exact⟨_,ei,hrep⟩
     · obtain⟨w,e1,g⟩:=r.sh j e q
       exact⟨w,e1,g.mv mv⟩
   · intro j e q
     rcases get_set q with⟨rfl,x,hl⟩|⟨hne,q⟩
     ·cases x
     · obtain⟨b,xs,e1,f,e3,g⟩:=r.ol j e q
       exact⟨b,xs,e1,⟨f,fun z=>by subst z;exact hne (r.bX i j _ oi (.inl ⟨_,q⟩) ei e1)⟩,e3,g.mv mv⟩
   · intro j k e q
     rcases get_set q with⟨rfl,x,hl⟩|⟨hne,q⟩
     ·cases x
     · obtain⟨b,xs,e1,f,e3,l,g⟩:=r.od j k e q
       exact⟨b,xs,e1,⟨f,fun z=>by subst z;exact hne (r.bX i j _ oi (.inr ⟨_,_,q⟩) ei e1)⟩,e3,l,g.mv mv⟩
   · intro j k b oj ok ej ek
     exact r.bX j k b oj.dN.2 ok.dN.2 ej ek
 · refine⟨F,fun _ h=>.inl h,?_⟩
   unfold PL.frz
   cases q:ρ[i]? with
   |none=>exact r
   | some s=>
     cases s with
     |ol xs=>exact absurd ⟨_,q⟩ ol
     |_=>exact r
noncomputable def Out(F F':Addr→Prop)(H:Hp):Prop:=∀b,F b→F' b∨∃u,H b=some u∧((∃xs,u=.lst xs)∨∃kvs,u=.dK kvs)
theorem Out.tup{a:Addr}{xs:List V}(o:Out F F' H)(h:df M H F' a xs):df M H F a xs:=by
 rcases h with⟨n,h⟩|h
 · refine .inl ⟨fun f=>?_,h⟩
   rcases o a f with f'|⟨u,hu,z⟩
   ·exact n f'
   · rcases h with h|⟨ob,h⟩
     ·rw[hu]at h;cases h;rcases z with⟨_,z⟩|⟨_,z⟩<;>cases z
     ·rw[hu]at h;cases h;rcases z with⟨_,z⟩|⟨_,z⟩<;>cases z
 ·exact .inr h
mutual
theorem Rep.cM(o:Out F F' H):∀ {d:D} {v:V},cM d=true→Rep M H F' d v→Rep M H F d v
 |.aA,_,_,h=>by simp only[Rep]at h ⊢;exact h
 |.bl _,_,_,h=>by simp only[Rep]at h ⊢;exact h
 |.int _,_,_,h=>by simp only[Rep]at h ⊢;exact h
 |.str _,_,_,h=>by simp only[Rep]at h ⊢;exact h
 | .tup ds,_,n,h=>by
   simp only[Rep]at h ⊢
   obtain⟨a,xs,e,t,r⟩:=h
   exact⟨a,xs,e,o.tup t,ae.cM o (by unfold PL.cM at n;exact n) r⟩
 |.lst _,_,n,_=>by unfold PL.cM at n;cases n
 |.ao _ _,_,n,_=>by unfold PL.cM at n;cases n
 |.b6 _ _ _,_,n,_=>by unfold PL.cM at n;cases n
theorem ae.cM(o:Out F F' H):∀ {ds:List D} {xs:List V},jf ds=true→ae M H F' ds xs→ae M H F ds xs
 |[],_,_,h=>by simp only[ae]at h ⊢;exact h
 | d::ds,_,n,h=>by
   unfold jf at n
   rw[Bool.and_eq_true]at n
   simp only[ae]at h ⊢
   obtain⟨x,r,e,h1,h2⟩:=h
   exact⟨x,r,e,Rep.cM o n.1 h1,ae.cM o n.2 h2⟩
end
theorem Out.same(o:Out F F' H)(s:af H H'):Out F F' H':=fun b f=>(o b f).imp (fun h=>h) fun⟨u,hu,z⟩=>⟨u,s _ _ hu,z⟩
end
section
variable{X:Cx}{M:Md}{G H H':Hp}{F0 F F':Addr→Prop}{σ:L2.St}{ρ:En}{pos:Pos}{pins:List (Addr×Obj)}{s:Shared}
end
noncomputable def intsOf:List D→Option (List Int)
 |[]=>some []
 |.int i::r=>(intsOf r).map (i:: ·)
 |_=>none
@[simp] noncomputable def E9:D→R D
 | .lst xs=>match intsOf xs with
   |some ns=>.ok (.int ns.sum)
   |none=>.bad
 | .tup xs=>match intsOf xs with
   |some ns=>.ok (.int ns.sum)
   |none=>.bad
 |_=>.bad
noncomputable def sY:List D→Option (List Bool)
 |[]=>some []
 |.bl i::r=>(sY r).map (i:: ·)
 |_=>none
@[simp] noncomputable def FH:D→R D
 | .lst xs=>match sY xs with
   |some ns=>.ok (.bl (ns.any id))
   |none=>.bad
 |_=>.bad
noncomputable def unlike(ns:List Int):Nat:=(PyProof.Rows.firstMet (fun i=>ns.getD i 0) ns.length).length
@[simp] noncomputable def FP:D→R D
 | .lst xs=>match intsOf xs with
   |some ns=>if ns.length≤4000 then .ok (.int (unlike ns))else .bad
   |none=>.bad
 |_=>.bad
@[simp] noncomputable def o8:D→D→R D
 |.tup x,.int j=>if 1<j∧j<1000∧x.length≤1000∧x.isEmpty=false then .ok (.tup (List.replicate j.toNat x).flatten)else .bad
 |_,_=>.bad
@[simp] noncomputable def Fq:D→D→R D
 |.int i,.int j=>if inR i=true∧inR j=true∧j - i≤16777216 then .ok (.lst (cC i j))else .bad
 |_,_=>.bad
section
variable{X:Cx}{M:Md}{G H H':Hp}{F0 F F':Addr→Prop}{σ:L2.St}{ρ:En}{pos:Pos}{pins:List (Addr×Obj)}{s:Shared}
end
section
variable{X:Cx}{M:Md}{G H H':Hp}{F0 F F':Addr→Prop}{σ:L2.St}{ρ:En}{pos:Pos}{pins:List (Addr×Obj)}{s:Shared}
end
section
variable{prog:Program}{w:World}{A:Around}{E:Value→Shared→Prop}{s:Shared}{e it:Addr}{fp:List Addr}{n i:Nat}{c:Int}{P:Nat→Value→Prop}{St:Nat→Heap→Prop}{old:Value}
end
noncomputable def nc(c0:Int)(d:Sd)(td:Tok)(e it:Addr)(i:Nat)(h:Heap):Prop:=(∃old,IsEnum h e it (c0+(i:Int)) old)∧d.gB it i h td
section
variable{X:Cx}{M:Md}{G H H':Hp}{F0 F F':Addr→Prop}{σ:L2.St}{ρ:En}{pos:Pos}{pins:List (Addr×Obj)}{s:Shared}
noncomputable def uF:Int→List D→List D
 |_,[]=>[]
 |k,x::xs=>.tup [.int k,x]::uF (k+1) xs
@[simp] noncomputable def Fv(c:Int)(a:Ex):br:=fun ρ=>(a ρ).bind fun x=>(items x).bind fun xs=>.ok (uF c xs)
end
section
variable{prog:Program}{w:World}{A:Around}{E:Value→Shared→Prop}{s:Shared}
end
section
variable{X:Cx}{M:Md}{G H H':Hp}{F0 F F':Addr→Prop}{σ:L2.St}{ρ:En}{pos:Pos}{pins:List (Addr×Obj)}{s:Shared}
noncomputable def uH(M:Md):R2:=fun x y H Q=>∃l k xs,x=.ref l∧y=.int k∧bb M.K H l xs∧1<k∧k<1000∧xs.length≤1000∧xs≠[]∧∀p,H p=none→Q (.ref p) (upd H p (.tup (List.replicate k.toNat xs).flatten))
theorem xJ:fillsNumberSlot (.type "tuple") "mul"=pure false:=fillsNumberSlot_seq (id:="tuple.__mul__") (r:=some (.builtin "tuple.__rmul__")) PySem.F.slot_tuple_mul.lookup (by decide+kernel) PySem.F.slot_tuple_rmul.lookup (by decide+kernel)
theorem ze:seqRepeat? (.type "tuple")=pure (some (.builtin "tuple.__mul__")):=by
 unfold seqRepeat?
 rw[seqSlot_of (T:="tuple") (name:="__mul__") (id:="tuple.__mul__") PySem.F.slot_tuple_mul.lookup (by decide+kernel),seqSlot_of (T:="tuple") (name:="__rmul__") (id:="tuple.__rmul__") PySem.F.slot_tuple_rmul.lookup (by decide+kernel)];rfl
theorem Ai(a:Int)(t:Tok)(l:Addr)(its:Array Value)(n:Nat)(dc:Option Addr)(sl:Array (Option Value)):
   Meets (Builtin.«int.__rmul__» ⟨[.int a t,.ref l],[]⟩) (fun _ R s=>s.heap.get? l=some {cls:=.type "tuple",dict:=dc,data:=.seq its n,slots:=sl}∧R (.ok (.ret Value.notImplemented)) s):=
 .of_wp fun prog w A R s h=>by obtain⟨hp,g,d,tk,os⟩:=s;obtain⟨hl,h⟩:=h;wp_walk;exact⟨_,rfl,h⟩
theorem yC(k:Int)(t:Tok)(l:Addr)(its:Array Value)(n:Nat)(dc:Option Addr)(sl:Array (Option Value))(h1:1<k)(h2:k<1000)(h3:its.size≤1000)(h4:its.isEmpty=false):
   Meets (Builtin.«tuple.__mul__» ⟨[.ref l,.int k t],[]⟩) (fun _ R s=>s.heap.get? l=some {cls:=.type "tuple",dict:=dc,data:=.seq its n,slots:=sl}∧
     R (.ok (.ret (.ref s.heap.objs.size))) {s with heap:=s.heap.push {cls:=.type "tuple",data:=.seq ((List.replicate k.toNat its).foldl (· ++ ·) #[])} }):=
 .of_wp fun prog w A R s h=>by
   obtain⟨hp,g,d,tk,os⟩:=s;obtain⟨hl,h⟩:=h
   have c1:(decide (k< -(2 ^ 63))||decide (k≥2 ^ 63))=false:=by rw[decide_eq_false (by omega),decide_eq_false (by omega)];rfl
   have c2:(its.isEmpty||k==1)=false:=by rw[h4];simp;omega
   have c3:(decide (k≤0)||its.isEmpty)=false:=by rw[h4,decide_eq_false (by omega)];rfl
   have c4:¬((its.size:Int)*k>(2 ^ 63 - 1) / 8):=by
     have:(its.size:Int)*k≤1000*1000:=Int.mul_le_mul (by omega) (by omega) (by omega) (by omega)
     have e:((2:Int) ^ 63 - 1) / 8=1152921504606846975:=by decide
     rw[e];omega
   have c5:Builtin.Tuple.tupleTooMany ((its.size:Int)*k)=false:=by
     have:(its.size:Int)*k≤1000*1000:=Int.mul_le_mul (by omega) (by omega) (by omega) (by omega)
     unfold Builtin.Tuple.tupleTooMany
     have e:(sizeLine:Int)=16777216:=by rw[sizeLine_eq];rfl
     rw[e];exact decide_eq_false (by omega)
   have c6:((List.replicate k.toNat its).foldl (· ++ ·) #[]).size≤sizeLine:=by
     have e:(List.replicate k.toNat its).foldl (· ++ ·) #[]=(List.replicate k.toNat its.toList).flatten.toArray:=by
       have:=PyProof.Rows.listMul_foldl_if its k.toNat
       rw[h4]at this
       simpa using this
     rw[e,List.size_toArray,L2.len_rep,sizeLine_eq,Array.length_toList]
     have:k.toNat*its.size≤1000*1000:=Nat.mul_le_mul (by omega) h3
     omega
   wp_walk
   rw[if_neg (by rw[c1];decide)]
   wp_walk
   rw[if_neg (by rw[c2];decide)]
   dsimp only
   rw[if_neg (by rw[c3];decide),if_neg c4,if_neg (by rw[c5];decide)]
   wp_walk
   exact⟨_,rfl,h⟩
theorem B5:aR X (binaryOp .Mult) (uH (aw X)):=by
 intro pins s σ H x y v u Q I rx ry h
 obtain⟨l,k,xs,rfl,rfl,hH,h1,h2,hz,hne,q⟩:=h
 cases rx
 obtain⟨t,rfl⟩:=ry
 obtain⟨its,r,pl,z⟩:=I.tuple hH
 obtain⟨⟨c,dc,da,sl⟩,e,hc,n,hd⟩:=pl
 simp only at hc hd
 subst hc hd
 have hl:=r.length
 have he:its.toArray.isEmpty=false:=by
   cases its with
   |nil=>cases r;exact absurd rfl hne
   |cons a b=>rfl
 refine wpAny_binaryOp_repeat_ref (T:="tuple") (U:="int") (by decide) ⟨_,e,rfl⟩ (fun s'=>typeIs_int s' k t) xJ PySem.F.fills_int_mul PySem.F.slot_int_rmul ze PySem.F.slot_int_index.lookup
   (call_meets PySem.F.slot_int_rmul (typeIs_int s k t) PySem.F.entry_int_rmul (PySem.F.args_int_rmul_2 _ _) (Ai k t l its.toArray n dc sl)
     ⟨e,rfl,⟨_,e,rfl⟩,call_meets PySem.F.slot_tuple_mul ⟨_,e,rfl⟩ PySem.F.entry_tuple_mul (PySem.F.args_tuple_mul_2 _ _) (yC k t l its.toArray n dc sl h1 h2 (by rw[List.size_toArray];omega) he) ⟨e,?_⟩⟩)
 have ee:(List.replicate k.toNat its.toArray).foldl (· ++ ·) #[]=(List.replicate k.toNat its).flatten.toArray:=by
   have:=PyProof.Rows.listMul_foldl_if its.toArray k.toNat
   rw[he]at this
   simpa using this
 rw[ee]
 have hlen:(List.replicate k.toNat xs).flatten.length≤sizeLine:=by
   rw[L2.len_rep,sizeLine_eq]
   have:k.toNat*xs.length≤1000*1000:=Nat.mul_le_mul (by omega) hz
   omega
 exact⟨.ref _,_,I.laid (o:=.tup (List.replicate k.toNat xs).flatten) (t':=s.toks) (fun _ _ q=>Heap.get?_push_of_some _ q) (Nat.le_refl _) ⟨hlen,(List.replicate k.toNat its).flatten,r.rep k.toNat,⟨_,Heap.get?_push_size _ rfl,rfl,_,rfl⟩⟩,rfl,q _ I.fresh⟩
theorem Ao:cg M o8 (uH M):=by
 intro F H x y a b d Q tr ra rb e q
 unfold o8 at e
 split at e
 · split at e
   · rename_i h
     cases e
     simp only[Rep]at ra
     obtain⟨l,xs,rfl,h1,r1⟩:=ra
     refine⟨l,_,xs,rfl,bO rb,h1.sq,h.1,h.2.1,by rw[←r1.length];exact h.2.2.1,fun z=>?_,fun p hp=>q _ _ (af.cj hp _) (jr tr hp (r1.vK _))⟩
     subst z
     have:=r1.length
     have h4:=h.2.2.2
     rw[List.length_nil,List.length_eq_zero_iff]at this
     rw[this]at h4
     cases h4
   ·cases e
 ·cases e
end
end PL
namespace PL
open PySem PySem.Spec PySem.W
open L2 (V Hp HO Cx PE PT PW PA PS bT PG cY VK TE TT TA TS TI TG Inv RelV Vals Rd aY bb upd af Key XK Ends aR fi bu R2 EP It Turn cu Un bp cf cv)
theorem Dp{P:Program}{w:World}{H:Hp}{h:Heap}{a:Addr}{o:HO}(x:cf P w H h a o):∃ob,h.get? a=some ob:=by
 cases o with
 |lst xs=>obtain⟨_,_,_,_,e⟩:=x;exact⟨_,e⟩
 |tup xs=>obtain⟨_,_,_,ob,e,_⟩:=x;exact⟨_,e⟩
 |dK kvs=>obtain⟨_,_,_,_,o,_,_,e,_⟩:=x;exact⟨_,e⟩
 |dT kvs=>obtain⟨_,_,_,_,o,_,_,e,_⟩:=x;exact⟨_,e⟩
 |set S n=>obtain⟨o,_,_,_,e,_⟩:=x;exact⟨_,e⟩
 |ins C dx fs=>obtain⟨_,_,_,e,_⟩:=x;exact⟨_,e⟩
 |own y=>obtain⟨_,e⟩:=x;exact⟨_,e⟩
 |xd fs=>obtain⟨_,⟨_,_,_,e,_⟩,_⟩:=x;exact⟨_,e⟩
 |lS lo hi=>obtain⟨_,_,_,e⟩:=x;exact⟨_,e⟩
 |frz ob u=>obtain⟨e,_⟩:=x;exact⟨_,e⟩
 |gO ps=>exact⟨_,show h.get? a=some _ from x⟩
 |met f y=>exact⟨_,show h.get? a=some _ from x⟩
 |ext φ=>obtain⟨_,⟨_,e⟩,_⟩:=x;exact⟨_,e⟩
theorem xN{P:Program}{w:World}{H:Hp}{h h':Heap}(x:bp P w H h)(k:∀b o,H b≠none→h.get? b=some o→h'.get? b=some o):bp P w H h':=fun a o e=>
 (x a o e).gk (fun b u hb q=>k b u (by rcases hb with rfl|hb<;>simp_all) q) (fun _ q=>q) fun _ _ q=>q
section
variable{P:Program}{w:World}{K:PySem.W.Frag}{mg:Str→Option Value}{base:Heap}{N:List Str}{qual:Str}{scope:Scope}{f:Addr}{cdv:Value}{A:Around}{outer:List Env}{s:Shared}{H:Hp}{E:XK}
noncomputable def rz(n:Nat)(c:Str)(t:aG):List D→R D:=fun ds=>match t (ds.map Slot.sh++List.replicate (n - ds.length) .un)with
 |.ok true=>.exc (.b6 c [] [])
 |_=>.bad
end
section
variable{M:Model}{A:Around}{E:Value→Shared→Prop}{K:PySem.W.Frag}{h:Heap}{g:Array GenState}{d:Drawn}{t:Nat}{os:OsState}{e C U:Addr}{oe:Obj}
end
section
variable{X:Cx}{pins:List (Addr×Obj)}{σ:L2.St}{H:Hp}{s:Shared}
end
structure kc(P:Program)(w:World)(C:Addr)(l:List Env)(H1 H':Hp)(h1:Heap)(a t:Addr)(B:Heap)(h:Heap):Prop where
 un:Un (cv l) [] H1 H' h1 h
 aD:bp P w H' h
 fl:Heap.FlyingW B l a (.ref C) (.ref t) h
 kM:∀b o,h.get? b=some o→(H' b≠none∨((∃o',h1.get? b=some o')∧b∉cv l))→B.get? b=some o
section
variable{P:Program}{w:World}{C:Addr}{l:List Env}{H1 H':Hp}{h1 h h5:Heap}{a t:Addr}{B:Heap}
theorem kc.step(x:kc P w C l H1 H' h1 a t B h)(st:B.StaysIn h5)(sm:h.UpToSlots h5):Un (cv l) [] H1 H' h1 h5∧bp P w H' h5∧∀b o,h5.get? b=some o→(H' b≠none∨((∃o',h1.get? b=some o')∧b∉cv l))→B.get? b=some o:=by
 have sl:∀b o,h.get? b=some o→b∈cv l→∃sl,h5.get? b=some {o with slots:=sl}:=fun b o e hb=>by
   obtain⟨_,o',ho',hnf⟩:=x.fl.2.2.1.mem hb
   rw[e]at ho';cases ho'
   exact sm b o e hnf
 refine⟨⟨fun b o e n hb hx'=>st _ _ (x.kM b o (x.un.keep b o e n hb hx') (.inr ⟨⟨o,e⟩,hb⟩)),fun b o e n hb hx'=>?_,x.un.free,fun b o e hx'=>?_,x.un.dO,x.un.dw,x.un.dR⟩,xN x.aD fun b o hb q=>st _ _ (x.kM b o q (.inl hb)),fun b o eo hc=>?_⟩
 · obtain⟨s2,e2⟩:=x.un.slot b o e n hb hx'
   obtain⟨s3,e3⟩:=sl b _ e2 hb
   exact⟨s3,e3⟩
 · obtain⟨o',e'⟩:=x.un.there b o e hx'
   by_cases hb:b∈cv l
   · obtain⟨s3,e3⟩:=sl b _ e' hb
     exact⟨_,e3⟩
   ·exact⟨o',st _ _ (x.kM b o' e' (.inr ⟨⟨o,e⟩,hb⟩))⟩
 · rcases hc with hb|⟨⟨o',e'⟩,hb⟩
   · cases q:H' b with
     |none=>exact absurd q hb
     | some u=>
       obtain⟨ob,z⟩:=Dp (x.aD _ _ q)
       have z2:=x.kM b ob z (.inl hb)
       have z3:=st _ _ z2
       rw[z3]at eo;cases eo
       exact z2
   · obtain⟨o2,e2⟩:=x.un.there b o' e' (by intro z;cases z)
     have z2:=x.kM b o2 e2 (.inr ⟨⟨o',e'⟩,hb⟩)
     have z3:=st _ _ z2
     rw[z3]at eo;cases eo
     exact z2
theorem kc.on(x:kc P w C l H1 H' h1 a t B h)(f5:Heap.FlyingW B l a (.ref C) (.ref t) h5)(sm:h.UpToSlots h5):kc P w C l H1 H' h1 a t B h5:=
 let⟨u,k,c⟩:=x.step f5.1 sm
 ⟨u,k,f5,c⟩
end
section
variable{X:Cx}{pins:List (Addr×Obj)}{σ:L2.St}{H:Hp}{s:Shared}{a:Addr}
end
section
variable{X:Cx}
end
section
variable{X:Cx}{pos:Pos}
end
end PL
namespace PL
open PySem PySem.Spec
open L2 (V Hp HO Cx PE PT PW PA PS bT PG cY VK TE TT TA TS TI TG Inv RelV Vals Rd aY bb upd af Key XK Ends aR fi bu R2 EP It Turn cu Un gi)
noncomputable abbrev dT(xs:List D):D:=.b6 ⟨#[]⟩ [⟨#[116]⟩] xs
@[simp] noncomputable def v7:D→R D
 |.tup xs=>.ok (dT xs)
 |_=>.bad
@[simp] noncomputable def Fb:D→R D
 |.b6 _ (_::_) xs=>.ok (.tup xs)
 |_=>.bad
@[simp] noncomputable def E6:D→D→R D
 | .b6 _ (_::_) xs,.int k=>match intsOf xs with
   |some ns=>.ok (.int (ns.count k:Nat))
   |none=>.bad
 |_,_=>.bad
@[simp] noncomputable def Ff(a:Ex)(lo hi:Option Ex):Ex:=e1 v7 (gu a lo hi)
section
variable{X:Cx}{M:Md}{G H H':Hp}{F0 F F':Addr→Prop}{σ:L2.St}{ρ:En}{pos:Pos}{pins:List (Addr×Obj)}{s:Shared}
end
noncomputable def mh:D→D→R D
 |.tup [],.tup y=>.ok (.tup y)
 |a,b=>cy a b
section
variable{X:Cx}{M:Md}
noncomputable def qO(K:PySem.W.Frag):R2:=fun x y H Q=>∃a b ys,x=.ref a∧y=.ref b∧bb K H a []∧bb K H b ys∧Q (.ref b) H
theorem EJ:aR X (binaryOp .Add) (qO X.K):=by
 intro pins s σ H x y v u Q I rx ry h
 obtain⟨a,b,ys,rfl,rfl,ha,hb,q⟩:=h
 cases rx
 cases ry
 obtain⟨its,r1,p1,_⟩:=I.tuple ha
 obtain⟨its2,r2,p2,_⟩:=I.tuple hb
 cases r1
 obtain⟨⟨cls,dd,data,sl⟩,ho,hc,n,hd⟩:=id p1
 obtain⟨⟨cls2,dd2,data2,sl2⟩,ho2,hc2,n2,hd2⟩:=id p2
 simp only at hc hd hc2 hd2
 subst hc hd hc2 hd2
 exact concat_meets ⟨_,ho,rfl⟩ ⟨_,ho2,rfl⟩ noFill_tuple_add seq_tuple_add PySem.F.slot_tuple_add PySem.F.entry_tuple_add (PySem.F.args_tuple_add_2 _ _)
   (PyProof.Rows.tuple_addW0 a b _ _ n n2 dd dd2 sl sl2 rfl) ⟨ho,ho2,⟨.ref b,H,I,rfl,q⟩⟩
noncomputable def vc(M:Md):R2:=fun x y H Q=>pB M x y H Q∨qO M.K x y H Q
theorem Et:aR X (binaryOp .Add) (vc (aw X)):=L2.aR.or du EJ
theorem wH:cg M mh (vc M):=by
 intro F H x y a b d Q tr rx ry e q
 unfold mh at e
 split at e
 · cases e
   simp only[Rep]at rx
   obtain⟨p,xs,rfl,h1,r1⟩:=rx
   have ry':=ry
   simp only[Rep]at ry
   obtain⟨p2,ys,rfl,h2,r2⟩:=ry
   simp only[ae]at r1
   subst r1
   exact .inr ⟨p,p2,ys,rfl,rfl,h1.sq,h2.sq,q _ _ (af.refl _) ry'⟩
 ·exact .inl (dX F H x y _ _ d Q tr rx ry e q)
end
section
variable{X:Cx}{M:Md}{G H H':Hp}{F0 F F':Addr→Prop}{σ:L2.St}{ρ:En}{pos:Pos}{pins:List (Addr×Obj)}{s:Shared}
@[simp] noncomputable def FO(a:Ex):br:=fun ρ=>(a ρ).bind fun x=>match x with
 |.lst xs=>.ok xs.reverse
 |_=>.bad
end
end PL
set_option maxHeartbeats 2000000
namespace PL
open PySem PySem.Spec PySem.W
section
variable{prog:Program}{w:World}{A:Around}{E:Value→Shared→Prop}{s:Shared}
noncomputable def jZ(h:Heap)(a l:Addr)(i:Int):Prop:=∃o,h.get? a=some o∧o.cls=.type "reversed"∧o.data=.fields #[.ref l,rawInt i]
theorem jZ.typeIs{a l:Addr}{i:Int}(x:jZ s.heap a l i):s.TypeIs (.ref a) "reversed":=let⟨o,ho,hc,_⟩:=x;⟨o,ho,hc⟩
theorem jZ.at{h h':Heap}{a l:Addr}{i:Int}(x:jZ h a l i)(e:∀o,h.get? a=some o→h'.get? a=some o):jZ h' a l i:=let⟨o,ho,r⟩:=x;⟨o,e _ ho,r⟩
end
section
open L2 (V Hp HO Cx PE PT PW PA PS bT PG cY VK TE TT TA TS TI TG Inv RelV Vals Rd aY bb upd af Key XK Ends aR fi bu R2 EP It Turn cu Un)
variable{X:Cx}{M:Md}{G H H':Hp}{F0 F F':Addr→Prop}{σ:L2.St}{ρ:En}{pos:Pos}{pins:List (Addr×Obj)}{s:Shared}
@[simp] noncomputable def Fs(a:Ex):br:=fun ρ=>(a ρ).bind fun x=>match x with
 |.lst xs=>.ok xs.reverse
 |.tup xs=>.ok xs.reverse
 |_=>.bad
end
end PL
namespace PL
open PySem PySem.Spec
open PyProof.Rows (assign_Tuple)
open L2 (V Hp HO Cx PE PT PW PA PS bT PG cY VK TE TT TA TS TI TG Inv RelV Vals Rd aY bb upd af Key XK Ends aR fi bu R2 EP)
section
variable{prog:Program}{w:World}{A:Around}{E:Value→Shared→Prop}{s:Shared}
end
section
variable{X:Cx}{M:Md}{G H H':Hp}{F0 F F':Addr→Prop}{σ:L2.St}{ρ:En}{pos:Pos}{DE:Ends}
end
end PL
set_option maxHeartbeats 1000000
namespace PL
open PySem PySem.Spec
open L2 (V Hp HO Cx PE PT PW PA PS bT PG cY VK TE TT TA TS TI TG Inv RelV Vals Rd aY bb upd af Key XK Ends aR fi bu R2 EP It Turn cu Un)
section
variable{X:Cx}{M:Md}{G H H':Hp}{F0 F F':Addr→Prop}{σ:L2.St}{ρ:En}{pos:Pos}{pins:List (Addr×Obj)}{s:Shared}
end
noncomputable def bP:Ky→D
 |.inl i=>.int i
 |.inr x=>.str x
noncomputable def hU(P:Program)(w:World)(K:PySem.W.Frag)(H:Hp)(a:Addr)(ob:Obj)(kvs:List (Key×V)):Prop:=
 H a=some (.frz ob (.dK kvs))∨(K.lookup a=some ob∧∃(es:Array DictEntry) (ep:Nat) (vs:List (Key×Value)),ob.ExactDict∧ob.data=.dict es ep∧KeysOf (L2.bL P w) es∧Pairs (L2.bL P w) es.toList vs∧
   (vs.map (·.1)).Nodup∧L2.KV kvs vs∧kvs.length≤sizeLine∧(a==sysModules)=false)
theorem yi{M:Md}{H:Hp}{F:Addr→Prop}{a:Addr}{kvs:List (Key×V)}(h:cJ M H F a kvs):∃ob,((¬F a∧H a=some (.frz ob (.dK kvs)))∨hU M.P M.w M.K (fun _=>none) a ob kvs)∧hU M.P M.w M.K H a ob kvs:=by
 rcases h with⟨n,ob,h⟩|⟨o,es,ep,vs,h1,h2,h3,h4,h5,h6,h7,h8,h9⟩
 ·exact⟨ob,.inl ⟨n,h⟩,.inl h⟩
 ·exact⟨o,.inr (.inr ⟨h1,es,ep,vs,h2,h3,h4,h5,h6,h7,h8,h9⟩),.inr ⟨h1,es,ep,vs,h2,h3,h4,h5,h6,h7,h8,h9⟩⟩
section
variable{X:Cx}{M:Md}{G H H':Hp}{F0 F F':Addr→Prop}{σ:L2.St}{ρ:En}{pos:Pos}{pins:List (Addr×Obj)}{s:Shared}
theorem nN{a:Addr}{ob:Obj}{kvs:List (Key×V)}(I:Inv X pins σ H s)(h:hU X.prog X.w X.K H a ob kvs):kvs.length≤sizeLine∧(a==sysModules)=false∧∃vs es ep,L2.KV kvs vs∧ob.data=.dict es ep∧s.heap.DictAt (L2.bL X.prog X.w) a vs ep:=by
 rcases h with h|⟨h1,es,ep,vs,h2,h3,h4,h5,h6,h7,h8,h9⟩
 · obtain⟨e0,z,y,vs,r,ob',es,ep,e1,c1,c2,c3,c4,c5⟩:=I.aD a _ h
   rw[e0]at e1
   cases e1
   exact⟨z,y,vs,es,ep,r,c2,ob,es,e0,c1,c2,c3,c4,c5⟩
 ·exact⟨h8,h9,vs,es,ep,h7,h3,ob,es,I.b5 a ob h1,h2,h3,h4,h5,h6⟩
noncomputable def pP(P:Program)(w:World)(K:PySem.W.Frag)(a:Addr)(ob:Obj)(kvs:List (Key×V)):It:=
 ⟨fun i H=>hU P w K H a ob kvs∧i<kvs.length,fun i H x H'=>H'=H∧∃kv,kvs[i]? =some kv∧x=L2.kV kv.1,fun i H=>hU P w K H a ob kvs∧i=kvs.length⟩
theorem iJ{kvs:List (Key×V)}{vs:List (Key×Value)}(h:L2.KV kvs vs):kvs.length=vs.length:=by
 unfold L2.KV at h
 induction h with
 |nil=>rfl
 |cons _ _ ih=>simp[ih]
theorem sQ{kvs:List (Key×V)}{vs:List (Key×Value)}(h:L2.KV kvs vs):∀ {i:Nat} {p:Key×Value},vs[i]? =some p→∃q,kvs[i]? =some q∧q.1=p.1:=by
 unfold L2.KV at h
 induction h with
 |nil=>intro i p e;simp at e
 | cons hd _ ih=>
   intro i p e
   cases i with
   |zero=>simp at e;subst e;exact⟨_,rfl,hd.1⟩
   |succ i=>simpa using ih (i:=i) (by simpa using e)
theorem vA{k:Key}{u:Value}(h:L2.iH k u=true):RelV (L2.kV k) u:=by
 rcases L2.fU h with⟨i,t,rfl,rfl⟩|⟨x,t,rfl,rfl⟩
 ·exact⟨t,rfl⟩
 ·exact⟨t,rfl⟩
theorem C3{P:Program}{w:World}{K:PySem.W.Frag}{tg:Expr}(a it:Addr)(ob:Obj)(es:Array DictEntry)(ep:Nat)(hda:ob.data=.dict es ep)(kvs:List (Key×V)):Turn P w K tg (pP P w K a ob kvs) [it] it (fun i h=>h.IsKeyIter it a i kvs.length ep) where
 mem:=by simp
 obj:=fun i h st b hb=>by
   have e:b=it:=by simpa using hb
   subst e
   obtain⟨o,e,c,d⟩:=st
   exact⟨o,e,fun v z=>by rw[d]at z;cases z⟩
 keep:=fun i h h' st k=>st.at fun o e=>k it (by simp) o e
 item:=by
   intro X hP hw hK hc i pins s σ H E I hf st hg
   subst hP hw hK
   obtain⟨dz,hi⟩:=hg
   obtain⟨hz,hs,vs,es',ep',rel,hda',dat⟩:=nN I dz
   rw[hda]at hda'
   cases hda'
   have hl:=iJ rel
   have hx:vs[i]? =some vs[i]:=List.getElem?_eq_getElem (by omega)
   obtain⟨q,hq,eq⟩:=sQ rel hx
   obtain⟨f0,f1,f2,f3,f4,f5⟩:=hf it (by simp)
   rw[hl]at st
   refine wpAny_pyNext_dict_item (k:=vs[i].1) (v:=vs[i].2) st dat hx fun key h' hkey st' sb=>?_
   have I1:Inv X pins σ H {s with heap:=h'}:=I.turned (t':=s.toks) (fun b o hb e=>(sb.2 b hb).trans e) f0 f1 f3 f4 f5
   obtain⟨o,e,c,d⟩:=id st'
   rw[←hl]at st'
   exact⟨key,rfl,L2.jl (s:={s with heap:=h'}) e c d (by decide) ⟨L2.kV q.1,H,I1,by rw[eq];exact vA hkey,⟨rfl,q,hq,rfl⟩,st',fun b hb=>(hf b hb).1⟩⟩
 done:=by
   intro X hP hw hK hc i pins s σ H E I hf st hg
   subst hP hw hK
   obtain⟨dz,hi⟩:=hg
   obtain⟨hz,hs,vs,es',ep',rel,hda',dat⟩:=nN I dz
   rw[hda]at hda'
   cases hda'
   have hl:=iJ rel
   obtain⟨f0,f1,f2,f3,f4,f5⟩:=hf it (by simp)
   rw[hl]at st
   exact wpAny_pyNext_dict_end (I.ok.hd hc) st dat (List.getElem?_eq_none_iff.mpr (by omega)) fun h' eb=>⟨rfl,I.turned (t':=s.toks) (fun b o hb e=>eb b o hb e) f0 f1 f3 f4 f5⟩
 self:=fun _ _ _ _ _ st h=>wpAny_pyIter_keyiter st h
noncomputable def zg(P:Program)(w:World)(K:PySem.W.Frag)(tl:TE):TI:=fun σ H R=>tl σ H fun x H1=>∃a ob kvs,x=.ref a∧hU P w K H1 a ob kvs∧R (pP P w K a ob kvs) H1
theorem BA{tg l:Expr}{tl:TE}(hl:PE X l tl):L2.PI X tg l (zg X.prog X.w X.K tl):=by
 intro pins s σ H R I h
 refine L2.aE (hl pins s σ H _ I h) fun v s1 ⟨x,H1,I1,r1,q1⟩=>?_
 obtain⟨a,ob,kvs,e,dz,q⟩:=q1
 subst e
 cases r1
 obtain⟨hz,hs,vs,es,ep,rel,hda,dat⟩:=nN I1 dz
 have hlen:=iJ rel
 refine wpAny_pyIter_dict hs dat ?_
 rw[←hlen]
 refine⟨s1.heap.objs.size,[s1.heap.objs.size],_,_,H1,rfl,I1.kept (t':=s1.toks) fun b o e=>Heap.get?_push_of_some _ e,C3 a _ ob es ep hda kvs,⟨_,Heap.get?_push_size _ rfl,rfl,rfl⟩,fun b hb=>?_,q⟩
 have e:b=s1.heap.objs.size:=by simpa using hb
 subst e
 exact I1.jB (Nat.le_refl _) (I1.aD.fresh (Nat.le_refl _))
noncomputable def gX(a:Ex):br:=fun ρ=>(a ρ).bind fun x=>match x with
 |.ao ks _=>.ok (ks.map bP)
 |_=>.bad
theorem xo{k:Ky}:Rep M H F (bP k) (L2.kV k):=by
 cases k with
 |inl i=>exact dM
 |inr x=>exact jc
theorem BV{a:Addr}{ob:Obj}{ks:List Ky}{xs:List V}(hd:(¬F a∧H a=some (.frz ob (.dK (ks.zip xs))))∨hU M.P M.w M.K (fun _=>none) a ob (ks.zip xs))(hl:ks.length=xs.length):Gives M (pP M.P M.w M.K a ob (ks.zip xs)) H F (ks.map bP):=by
 intro H' F' mv tr
 have hzl:(ks.zip xs).length=ks.length:=by rw[List.length_zip];omega
 have dz:hU M.P M.w M.K H' a ob (ks.zip xs):=by
   rcases hd with⟨n,h⟩|h
   ·exact .inl (mv _ _ n h).2
   · rcases h with h|h
     ·cases h
     ·exact .inr h
 refine⟨fun i d hd'=>?_,?_⟩
 · obtain⟨hi,_⟩:=List.getElem?_eq_some_iff.mp hd'
   rw[List.length_map]at hi
   rw[List.getElem?_map,List.getElem?_eq_getElem hi]at hd'
   cases hd'
   refine⟨⟨dz,by omega⟩,fun y H2 hy=>?_⟩
   obtain⟨rfl,kv,hkv,rfl⟩:=hy
   obtain⟨hk,e⟩:=List.getElem?_eq_some_iff.mp hkv
   have:kv.1=ks[i]:=by rw[←e,List.getElem_zip]
   rw[this]
   exact⟨af.refl _,xo⟩
 ·exact⟨dz,by rw[List.length_map,hzl]⟩
theorem DF{tg l:Expr}{fa:Ex}(ha:JE X l fa):JI X tg l (gX fa):=
 lB (BA ha) fun σ H Q ⟨ρ,F,ds,r,e,q⟩=>by
   obtain⟨d,ed,e⟩:=aq.mp e
   cases d with
   | ao ks vs=>
     cases e
     refine⟨ρ,F,_,r,ed,fun v H1 s1 rv=>?_⟩
     simp only[Rep]at rv
     obtain⟨a,xs,rfl,h,hl,rs⟩:=rv
     obtain⟨ob,h1,h2⟩:=yi h
     exact⟨a,ob,_,rfl,h2,q _ H1 s1 (BV (M:=aw X) h1 hl)⟩
   |_=>cases e
end
noncomputable def putL(k:Ky)(d:D)(ks:List Ky)(vs:List D):List Ky×List D:=if(ks.any fun a=>decide (a=k))=true then(ks,List.zipWith (fun a v=>if a=k then d else v) ks vs)else(ks++[k],vs++[d])
noncomputable def kW(i:Nat)(k e:Ex):Sm:=fun ρ=>(e ρ).bind fun d=>(k ρ).bind fun q=>match ρ[i]?,keyOf q with
 |some (.od ks vs),some y=>if ks.length<1000 then .ok (.next (ρ.set i (.od (putL y d ks vs).1 (putL y d ks vs).2)))else .bad
 |_,_=>.bad
section
variable{X:Cx}{M:Md}{G H H':Hp}{F0 F F':Addr→Prop}{σ:L2.St}{ρ:En}{pos:Pos}{pins:List (Addr×Obj)}{s:Shared}
theorem oE{ks:List Ky}{xs:List V}(k:Ky)(v:V)(hl:ks.length=xs.length):
   L2.putK (ks.zip xs) k v=(if(ks.any fun a=>decide (a=k))=true then ks.zip (List.zipWith (fun a x=>if a=k then v else x) ks xs)else(ks++[k]).zip (xs++[v])):=by
 have hany:∀ {ks:List Ky} {xs:List V},ks.length=xs.length→((ks.zip xs).any fun kv=>decide (kv.1=k))=(ks.any fun a=>decide (a=k)):=by
   intro ks
   induction ks with
   |nil=>intro xs _;simp
   | cons a ks ih=>
     intro xs hl
     cases xs with
     |nil=>simp at hl
     |cons x xs=>rw[List.zip_cons_cons,List.any_cons,List.any_cons,ih (by simpa using hl)]
 unfold L2.putK
 rw[hany hl]
 by_cases h:(ks.any fun a=>decide (a=k))=true
 · rw[if_pos h,if_pos h]
   have e:∀ {ks:List Ky} {xs:List V},ks.length=xs.length→(ks.zip xs).map (fun kv=>if kv.1=k then(kv.1,v)else kv)=ks.zip (List.zipWith (fun a x=>if a=k then v else x) ks xs):=by
     intro ks
     induction ks with
     |nil=>intro xs _;simp
     | cons a ks ih=>
       intro xs hl
       cases xs with
       |nil=>simp at hl
       | cons x xs=>
         rw[List.zip_cons_cons,List.map_cons,ih (by simpa using hl),List.zipWith_cons_cons,List.zip_cons_cons]
         by_cases h:a=k
         ·simp[h]
         ·simp[h]
   exact e hl
 · rw[if_neg h,if_neg h,List.zip_append hl]
   rfl
theorem pR{k:Ky}{d:D}{v:V}(rd:Rep M H F d v):∀ {ks:List Ky} {ds:List D} {xs:List V},ae M H F ds xs→ae M H F (List.zipWith (fun a y=>if a=k then d else y) ks ds) (List.zipWith (fun a x=>if a=k then v else x) ks xs)
 |[],_,_,_=>by simpa using ae.nil
 | a::ks,[],xs,r=>by
   simp only[ae]at r;subst r
   simpa using ae.nil
 | a::ks,y::ds,xs,r=>by
   simp only[ae]at r
   obtain⟨x,xs',rfl,r1,r2⟩:=r
   rw[List.zipWith_cons_cons,List.zipWith_cons_cons]
   refine ae.cons ?_ (pR rd r2)
   by_cases h:a=k
   ·rw[if_pos h,if_pos h];exact rd
   ·rw[if_neg h,if_neg h];exact r1
theorem BG(i:Nat){x:Str}{e k:Expr}{f g:Ex}{p2 p3:Pos}(hu:X.A.units+64<cLine)(hk:JE X k g)(he:JE X e f)(hN:X.N[i]? =some x:=by rfl)(hv:L2.cR X.env.scope x:=by first|exact Or.inl rfl|exact Or.inr (Or.inl rfl)|exact Or.inr (Or.inr rfl))(hd:(x==("__debug__":Str))=false:=by decide)
   (hcd:(x==("__classdict__":Str))=false:=by decide) (hs:swapsWith e (some (.Subscript (.Name x p2) k p3)) pos.line X.env=pure false:=by rfl):
   JS X (.Assign [.Subscript (.Name x p2) k p3] e pos) (kW i g f):=fun F0=>
 dZ (L2.t8 (by omega) (L2.pv i hN hv hd hcd) hk he hs) fun D σ H ⟨ρ,F,fl,r,e,q⟩=>by
   obtain⟨d,ed,e⟩:=aq.mp e
   obtain⟨y,ey,e⟩:=aq.mp e
   have ⟨ks,vs,z,q1,hk,e9⟩:∃ks vs z,ρ[i]? =some (.od ks vs)∧keyOf y=some z∧(if ks.length<1000 then R.ok (Fl.next (ρ.set i (.od (putL z d ks vs).1 (putL z d ks vs).2)))else .bad)=.ok fl:=by
     cases hq:ρ[i]? with
     |none=>rw[hq]at e;cases e
     | some s=>
       rw[hq]at e
       cases s with
       | od ks vs=>
         cases hz:keyOf y with
         |none=>rw[hz]at e;cases e
         |some z=>rw[hz]at e;exact⟨ks,vs,z,rfl,rfl,e⟩
       |_=>cases e
   by_cases hlt:ks.length<1000
   · rw[if_pos hlt]at e9
     cases e9
     have oi:bh ρ i:=.inr ⟨_,_,q1⟩
     obtain⟨a,xs,ea,fa,ha,hl,rs⟩:=r.rs.od i _ _ q1
     refine⟨ρ,F,d,r.rs,ed,fun v H1 s1 rv=>⟨_,ea,ρ,F,y,(r.same s1).rs,ey,fun w H2 s2 rw'=>?_⟩⟩
     have r2:=(r.same s1).same s2
     have ha2:=s2 _ _ (s1 _ _ ha)
     cases fz hk rw'
     have rv2:=rv.mv (M:=aw X) (F':=F) (.same s2)
     have rs2:=rs.mv (M:=aw X) (F':=F) (.same (s1.trans s2))
     have hzl:(ks.zip xs).length<sizeLine:=by
       have:(sizeLine:Nat)=16777216:=sizeLine_eq
       rw[List.length_zip];omega
     refine⟨a,_,rfl,L2.gR.k ha2 hzl,?_⟩
     rw[oE z v hl]
     unfold putL at q
     by_cases hm:(ks.any fun a=>decide (a=z))=true
     · rw[if_pos hm]at q ⊢
       obtain⟨mv,r'⟩:=r2.chg (s:=.od ks (List.zipWith (fun a y=>if a=z then d else y) ks vs)) oi ea (.inr ⟨_,_,_,rfl,rfl,by rw[List.length_zipWith];omega,pR rv2 rs2⟩)
       exact q _ _ _ (Mv.trans (.same (s1.trans s2)) mv) r'
     · rw[if_neg hm]at q ⊢
       obtain⟨mv,r'⟩:=r2.chg (s:=.od (ks++[z]) (vs++[d])) oi ea (.inr ⟨_,_,_,rfl,rfl,by rw[List.length_append,List.length_append,hl];rfl,rs2.append (ae.cons rv2 ae.nil)⟩)
       exact q _ _ _ (Mv.trans (.same (s1.trans s2)) mv) r'
   ·rw[if_neg hlt]at e9;cases e9
end
section
variable{X:Cx}{M:Md}{G H H':Hp}{F0 F F':Addr→Prop}{σ:L2.St}{ρ:En}{pos:Pos}{pins:List (Addr×Obj)}{s:Shared}
end
section
variable{X:Cx}{M:Md}{G H H':Hp}{F0 F F':Addr→Prop}{σ:L2.St}{ρ:En}{pos:Pos}{pins:List (Addr×Obj)}{s:Shared}
theorem C0{P:Nat→Value→Prop}{xs:List V}:∀ {l:List Value},l.length=xs.length→(∀(j:Nat) v,l[j]? =some v→∃x,xs[j]? =some x∧RelV x v)→Vals xs l:=by
 intro l
 induction l generalizing xs with
 | nil=>intro hl _;cases xs with
   |nil=>exact .nil
   |cons _ _=>cases hl
 | cons v l ih=>
   intro hl h
   cases xs with
   |nil=>cases hl
   | cons x xs=>
     obtain⟨y,e,r⟩:=h 0 v rfl
     cases e
     exact .cons r (ih (by simpa using hl) fun j w hw=>by simpa using h (j+1) w (by simpa using hw))
end
section
variable{X:Cx}{M:Md}{G H H':Hp}{F0 F F':Addr→Prop}{σ:L2.St}{ρ:En}{pos:Pos}{pins:List (Addr×Obj)}{s:Shared}
end
section
variable{X:Cx}{M:Md}{G H H':Hp}{F0 F F':Addr→Prop}{σ:L2.St}{ρ:En}{pos:Pos}{pins:List (Addr×Obj)}{s:Shared}
end
theorem pY:bootBuiltins "sorted"=some (.builtin "sorted"):=by decide+kernel
section
variable{X:Cx}{M:Md}{G H H':Hp}{F0 F F':Addr→Prop}{σ:L2.St}{ρ:En}{pos:Pos}{pins:List (Addr×Obj)}{s:Shared}
end
section
variable{X:Cx}{M:Md}{G H H':Hp}{F0 F F':Addr→Prop}{σ:L2.St}{ρ:En}{pos:Pos}{pins:List (Addr×Obj)}{s:Shared}
end
section
variable{X:Cx}{M:Md}{G H H':Hp}{F0 F F':Addr→Prop}{σ:L2.St}{ρ:En}{pos:Pos}{pins:List (Addr×Obj)}{s:Shared}
noncomputable def qh(M:Md)(G:Hp)(F0:Addr→Prop)(H:Hp)(F:Addr→Prop)(i:Nat)(v:Option (Option V))(D:Ends):Fl→Prop
 |.next ρ'=>∀σ' H' F',Mv F H F' H'→aP M G F0 H' F' σ' ρ'→σ'[i]? =v→D.nx σ' H'
 |.brk ρ'=>∀σ' H' F',Mv F H F' H'→aP M G F0 H' F' σ' ρ'→σ'[i]? =v→D.bk σ' H'
 |.cont ρ'=>∀σ' H' F',Mv F H F' H'→aP M G F0 H' F' σ' ρ'→σ'[i]? =v→D.ct σ' H'
 |.ret d=>∀v H' F',Mv F H F' H'→af G H'→(∀a,F0 a→F' a)→Rep M H' F' d v→D.rt v H'
 |.fL _=>False
 |.di _=>False
theorem qh.mv{i:Nat}{v:Option (Option V)}{DE:Ends}(m:Mv F H F' H'):∀ {fl:Fl},qh M G F0 H F i v DE fl→qh M G F0 H' F' i v DE fl
 |.next _,h=>fun σ' H2 F2 m2 r=>h σ' H2 F2 (m.trans m2) r
 |.brk _,h=>fun σ' H2 F2 m2 r=>h σ' H2 F2 (m.trans m2) r
 |.cont _,h=>fun σ' H2 F2 m2 r=>h σ' H2 F2 (m.trans m2) r
 |.ret _,h=>fun σ' H2 F2 m2 a b r=>h σ' H2 F2 (m.trans m2) a b r
 |.fL _,h=>h
 |.di _,h=>h
end
end PL
namespace PySem
theorem EL:typeLookup (.type "list") "keys"=pure none:=am_miss_of_fast (by decide+kernel)
theorem AR{prog:Program}{w:World}{A:Around}{E:Value→Shared→Prop}{s:Shared}{a:Addr}{o:Obj}{xs:Array Value}{k:Nat}{Q:Option Value→Shared→Prop}
   (hx:s.heap.get? a=some o) (hc:o.cls=.type "list") (hdat:o.data=.seq xs k) (hd:o.dict=none) (hA:A.handled=none)
   (h:∀h' tk,(∀b ob,s.heap.get? b=some ob→h'.get? b=some ob)→Q none {s with heap:=h',toks:=tk}):
   wpAny (model prog w) A (getAttr? (.ref a) "keys") Q E s:=by
 obtain⟨c,ao,dat,sl⟩:=o
 simp only at hc hdat hd
 subst hc hdat hd
 obtain⟨hp,g,d,tk,os⟩:=s
 have hT:∀tk',(⟨hp,g,d,tk',os⟩:Shared).TypeIs (.ref a) "list":=fun _=>⟨_,hx,rfl⟩
 have f1:=sub_AttributeError
 have f3:=F.slot_list_getattribute.lookup
 have f4:=F.slot_list_getattribute.bind (.ref a)
 have f5:=am_list_getattr_none
 unfold getAttr? getAttrBy? getAttrBy
 repeat (any_goals (first|assumption|exact hT _|((with_reducible show wpAny _ _ (call (Value.builtin "list.__getattribute__") _ _) _ _ _);refine call_meets F.slot_list_getattribute (hT _) am_entry_list_getattribute (F.args_list_getattribute_2 _ _) (meets_getattribute_miss_list a xs k sl "keys" _ EL (by decide+kernel) (by size_fits)) ⟨hx,hA,fun h' tk' e hx'=>?_⟩)|wp_step))
 obtain⟨t',u',he⟩:=hx'.there
 show wpAny _ _ (getattributeRaised _ _ _ _ _ _ _) _ _ _
 unfold getattributeRaised
 repeat (any_goals (first|assumption|wp_step))
 exact h _ _ hx'.keeps
theorem mq:plainId "dict.update.loop"=true:=by decide+kernel
theorem uU:entryFor table "dict.update.loop"=some Builtin.«dict.update.loop»:=entryFor_of_tree (by kernel_rfl)
section
variable{prog:Program}{w:World}{A:Around}{R:Result→Shared→Prop}{I ax:Addr}
noncomputable def qH{K:Type} [DecidableEq K] (knd:KeyKind prog w K) (h:Heap) (v:Value) (p:K×Value):Prop:=∃a key,v=.ref a∧PyProof.Rows.IsTup h a #[key,p.2]∧knd.is p.1 key=true
theorem BI{K:Type} [DecidableEq K] {knd:KeyKind prog w K} (hh:A.in1.handled=none) {d:Addr} {items:Array Value} {res:Value} (hne:ax≠I) (hdI:d≠I) (hdx:d≠ax):∀(more:List (K×Value)) (i:Nat) (z:Int) (kvs:List (K×Value)) (s:Shared),items.size - i=more.length→i≤items.size→
   s.heap.IsListIter I ax i→s.heap.IsList ax items→s.heap.DictOf knd d kvs→kvs.length+more.length≤sizeLine→(∀(j:Nat) p,more[j]? =some p→∃v,items[i+j]? =some v∧qH knd s.heap v p)→
   (∀h' tk,(∀b o,b≠I→b≠d→s.heap.get? b=some o→h'.get? b=some o)→h'.DictOf knd d (merged kvs more)→R (.ok (.ret res)) {s with heap:=h',toks:=tk})→
   codeAny (model prog w) A (.builtin "dict.update.loop" ⟨[.ref d,.ref I,rawInt z,res],[]⟩) R s:=by
 intro more
 induction more with
 | nil=>
   intro i z kvs s hk hi hit hl hd hsz hp hR
   have hin:i=items.size:=by simp at hk;omega
   subst hin
   refine codeAny_builtin uU ?_
   rw[Around.under_plainId mq _]
   show wpAny _ A.in1 (pyNext (.ref I) >>= _) _ _ s
   refine wpAny_bind (wpAny_pyNext_list_end hh hit hl (by simp) fun h' he'=>?_)
   show wpAny _ _ (Builtin.Dict.addKeywords d [] >>= _) _ _ _
   refine wpAny_bind (wpAny_pure (wpAny_pure ?_))
   exact hR h' s.toks (fun b o hb _ e=>he' b o hb e) (hd.extBut he' hdI)
 | cons p more ih=>
   intro i z kvs s hk hi hit hl hd hsz hp hR
   obtain⟨v,hv,hpv⟩:=hp 0 p rfl
   rw[Nat.add_zero]at hv
   obtain⟨a,key,rfl,hta,hkey⟩:=hpv
   refine codeAny_builtin uU ?_
   rw[Around.under_plainId mq _]
   show wpAny _ A.in1 (pyNext (.ref I) >>= _) _ _ s
   refine wpAny_bind (wpAny_pyNext_list_item hit hl hv fun h' hit' hs'=>?_)
   refine wpAny_bind (wpAny_holding ?_)
   have hd':h'.DictOf knd d kvs:=hd.extBut hs'.extBut hdI
   have hl':h'.IsList ax items:=hl.extBut hs'.extBut hne
   have nc:∀ {b xs},PyProof.Rows.IsTup s.heap b xs→b≠I∧b≠d:=fun {b xs} ht=>by
     obtain⟨o,ho,hc,_⟩:=ht
     refine⟨fun e=>?_,fun e=>?_⟩
     · obtain⟨o2,ho2,hc2,_⟩:=hit
       rw[←e,ho]at ho2
       cases ho2
       rw[hc]at hc2
       exact absurd hc2 (by decide)
     · obtain⟨o2,_,_,ho2,hc2,_⟩:=hd
       rw[←e,ho]at ho2
       cases ho2
       exact absurd (hc.symm.trans hc2.1) (by decide)
   have hta':PyProof.Rows.IsTup h' a #[key,p.2]:=hta.extBut hs'.extBut (nc hta).1
   obtain⟨o,ho,hc,n,hda⟩:=id hta'
   refine wpAny_bind (wpAny_tryCatch ?_)
   unfold Builtin.Dict.pairItems
   refine wpAny_bind (wpAny_typeOf (show Shared.TypeIs {s with heap:=h'} (.ref a) "tuple" from⟨o,ho,hc⟩) ?_)
   rw[if_pos (by decide)]
   refine wpAny_bind (wpAny_seqItems ho hda (wpAny_pure ?_))
   show wpAny _ _ (holding [key,p.2] (dictSet d key p.2)) _ _ _
   refine wpAny_holding (wpAny_dictSet_pairs hkey hd' (fun h'' hd'' hs''=>?_) (by rw[List.length_cons]at hsz;omega))
   refine wpAny_pure ⟨plainId_quiet mq _,ih (i+1) (z+1) (stored kvs p.1 p.2) _ (by simp at hk ⊢;omega) (by simp at hk;omega) (hit'.extBut hs''.extBut (Ne.symm hdI)) (hl'.extBut hs''.extBut (Ne.symm hdx)) hd'' ?_ (fun j q hq=>?_) fun h3 tk3 k3 d3=>?_⟩
   · have:=stored_length_le kvs p.1 p.2
     rw[List.length_cons]at hsz
     omega
   · obtain⟨v2,hv2,b,key2,rfl,ht2,hk2⟩:=hp (j+1) q (by simpa using hq)
     refine⟨_,by rw[show i+1+j=i+(j+1) by omega];exact hv2,b,key2,rfl,?_,hk2⟩
     exact(ht2.extBut hs'.extBut (nc ht2).1).extBut hs''.extBut (nc ht2).2
   · refine hR h3 tk3 (fun b o hb hbd e=>k3 b o hb hbd ?_) d3
     rw[hs''.2 b hbd,hs'.2 b hb];exact e
theorem DX{E:Value→Shared→Prop}{s:Shared}{K:Type} [DecidableEq K] {knd:KeyKind prog w K} {a:Addr} {o:Obj} {items:Array Value} {n:Nat} {more:List (K×Value)} {Q:Value→Shared→Prop} (hh:A.handled=none)
   (hx:s.heap.get? a=some o) (hc:o.cls=.type "list") (hdat:o.data=.seq items n) (hdi:o.dict=none) (hlen:items.size=more.length) (hsz:more.length≤sizeLine) (hp:∀(j:Nat) p,more[j]? =some p→∃v,items[j]? =some v∧qH knd s.heap v p)
   (h:∀h' tk,(∀b ob,s.heap.get? b=some ob→h'.get? b=some ob)→h'.DictOf knd s.heap.objs.size (merged [] more)→Q (.ref s.heap.objs.size) {s with heap:=h',toks:=tk}):
   wpAny (model prog w) A (call (.type "dict") [.ref a]) Q E s:=by
 refine callType_codes (Q₁:=fun obj s₁=>obj=.ref s.heap.objs.size∧s₁={s with heap:=s.heap.push {cls:=.type "dict",data:=.dict #[]} }) F.kt_called_dict (F.kt_typeCall_dict_1 _) F.entry_dict_init (kt_code_dict_new _ ⟨rfl,rfl⟩) ?_
 rintro obj s₁ ⟨rfl,rfl⟩
 have hnew:(s.heap.push {cls:=.type "dict",data:=.dict #[]}).DictOf knd s.heap.objs.size []:=Heap.DictOf.new s.heap
 have hx':(s.heap.push {cls:=.type "dict",data:=.dict #[]}).get? a=some o:=Heap.get?_push_of_some _ hx
 have hlt:a<s.heap.objs.size:=Heap.lt_size hx
 have hTl:Shared.TypeIs {s with heap:=s.heap.push {cls:=.type "dict",data:=.dict #[]} } (.ref a) "list":=⟨o,hx',hc⟩
 refine⟨hnew.typeIs,F.args_dict_init_2 _ _,?_⟩
 unfold Builtin.«dict.__init__»
 refine wpAny_bind ?_
 unfold Builtin.Dict.selfAndRest
 refine wpAny_bind (wpAny_notOrdered_dict hnew.typeIs ?_)
 show wpAny _ _ (pure (s.heap.objs.size,[Value.ref a])) _ _ _
 refine wpAny_pure ?_
 show wpAny _ _ (Builtin.Dict.updateFrom "dict.__init__" s.heap.objs.size (.ref a) [] .none) _ _ _
 unfold Builtin.Dict.updateFrom
 refine wpAny_bind (wpAny_typeOf hTl ?_)
 rw[if_pos (by decide)]
 refine wpAny_bind (AR hx' hc hdat hdi hh fun h1 tk1 k1=>?_)
 show wpAny _ _ (rule "dict.__init__.from-pairs" >>= _) _ _ _
 refine wpAny_bind (wpAny_rule ?_)
 have hl1:h1.IsList a items:=⟨o,k1 _ _ hx',hc,n,hdat⟩
 refine wpAny_bind (wpAny_pyIter_list hl1 ?_)
 have hsz1:s.heap.objs.size<h1.objs.size:=by
   obtain⟨o',_,_,ho',_⟩:=hnew
   exact Heap.lt_size (k1 _ _ ho')
 refine wpAny_pure ⟨plainId_quiet mq _,?_⟩
 refine BI (knd:=knd) (prog:=prog) (w:=w) (A:=A.in1) (I:=h1.objs.size) (ax:=a) hh (Nat.ne_of_lt (Nat.lt_trans hlt hsz1)) (Nat.ne_of_lt hsz1) (Nat.ne_of_gt hlt) more 0 0 [] _ (by simpa using hlen) (Nat.zero_le _) ?_ ?_ ?_ (by simpa using hsz) (fun j p hj=>?_) fun h2 tk2 k2 d2=>?_
 ·exact⟨_,Heap.get?_push_size _ rfl,rfl,rfl⟩
 ·exact hl1.push _
 · obtain⟨o',es,ep,ho',r⟩:=hnew
   exact⟨o',es,ep,Heap.get?_push_of_some _ (k1 _ _ ho'),r⟩
 · obtain⟨v,hv,b,key,rfl,ht,hk⟩:=hp j p hj
   exact⟨_,by rw[Nat.zero_add];exact hv,b,key,rfl,((ht.push _).keeps k1).push _,hk⟩
 · refine⟨rfl,h h2 tk2 (fun b ob hb=>?_) d2⟩
   have hbl:b<s.heap.objs.size:=Heap.lt_size hb
   exact k2 b ob (Nat.ne_of_lt (Nat.lt_trans hbl hsz1)) (Nat.ne_of_lt hbl) (Heap.get?_push_of_some _ (k1 _ _ (Heap.get?_push_of_some _ hb)))
end
end PySem
namespace PL
open PySem PySem.Spec
open L2 (V Hp HO Cx PE PT PW PA PS bT PG cY VK TE TT TA TS TI TG Inv RelV Vals Rd aY bb upd af Key XK Ends aR fi bu R2 EP It Turn cu Un)
noncomputable def yD:List D→List Ky→List D→R D
 |[],ks,vs=>.ok (.ao ks vs)
 | .tup [k,v]::r,ks,vs=>match keyOf k with
   |some q=>yD r (putL q v ks vs).1 (putL q v ks vs).2
   |none=>.bad
 |_,_,_=>.bad
section
variable{X:Cx}{M:Md}{G H H':Hp}{F0 F F':Addr→Prop}{σ:L2.St}{ρ:En}{pos:Pos}{pins:List (Addr×Obj)}{s:Shared}
theorem Ap{k:Ky}{d:D}{v:V}{ks:List Ky}{vs:List D}{xs:List V}(hl:ks.length=xs.length)(rs:ae M H F vs xs)(rd:Rep M H F d v):
   ∃ys,L2.putK (ks.zip xs) k v=(putL k d ks vs).1.zip ys∧(putL k d ks vs).1.length=ys.length∧ae M H F (putL k d ks vs).2 ys:=by
 rw[oE k v hl]
 unfold putL
 by_cases hm:(ks.any fun a=>decide (a=k))=true
 · rw[if_pos hm,if_pos hm]
   exact⟨_,rfl,by rw[List.length_zipWith];show ks.length=min ks.length xs.length;omega,pR rd rs⟩
 · rw[if_neg hm,if_neg hm]
   exact⟨_,rfl,by rw[List.length_append,List.length_append,hl];rfl,rs.append (ae.cons rd ae.nil)⟩
noncomputable def jL(M:Md)(H:Hp)(F:Addr→Prop):List V→List (Key×V)→Prop
 |[],[]=>True
 |x::xs,p::ps=>(∃a,x=.ref a∧df M H F a [L2.kV p.1,p.2])∧jL M H F xs ps
 |_,_=>False
theorem uP(I:Inv X pins σ H s):∀ {ps:List V} {more:List (Key×V)} {its:List Value},jL (aw X) H F ps more→Vals ps its→∃ms:List (Key×Value),L2.KV more ms∧ms.length=its.length∧∀(j:Nat) p,ms[j]? =some p→∃v,its[j]? =some v∧qH (L2.bL X.prog X.w) s.heap v p
 |[],[],its,_,hv=>by cases hv;exact⟨[],.nil,rfl,fun j p h=>by simp at h⟩
 | x::ps,p::more,its,h,hv=>by
   obtain⟨⟨a,rfl,ht⟩,h⟩:=h
   cases hv with
   | cons rv hv=>
     cases rv
     obtain⟨ms,k1,k2,k3⟩:=uP I h hv
     obtain⟨ts,tv,tt,_⟩:=jP I ht
     obtain⟨u1,u2,rfl,ru1,ru2⟩:=L2.vals2 tv
     refine⟨(p.1,u2)::ms,.cons ⟨rfl,ru2⟩ k1,by simp[k2],fun j q hq=>?_⟩
     cases j with
     |zero=>cases hq;exact⟨_,rfl,a,u1,rfl,tt,L2.gj ru1⟩
     |succ j=>exact k3 j q hq
 |[],_::_,_,h,_=>h.elim
 |_::_,[],_,h,_=>h.elim
noncomputable def B2(M:Md):List V→Hp→VK→Prop:=fun xs H Q=>∃F l ps more,xs=[.ref l]∧fJ M H F l ps∧jL M H F ps more∧more.length≤1000∧∀p,H p=none→Q (.ref p) (upd H p (.dK (L2.dm [] more)))
theorem yr(hc:X.calm=true):bu X (.type "dict") (B2 (aw X)):=by
 intro pins s σ H xs us Q I r h
 obtain⟨F,l,ps,more,rfl,hl,hp,hz,q⟩:=h
 obtain⟨u,rfl,ru⟩:=L2.vals1 r
 cases ru
 obtain⟨its,n,sl,hv,hg,_⟩:=iW I hl
 obtain⟨ms,k1,k2,k3⟩:=uP I hp hv
 have hlen:=k1.length
 have h3:(sizeLine:Nat)=16777216:=sizeLine_eq
 refine DX (knd:=L2.bL X.prog X.w) (more:=ms) (I.ok.hd hc) hg rfl rfl rfl (by rw[List.size_toArray];exact k2.symm) (by omega) (fun j p hj=>by rw[List.getElem?_toArray];exact k3 j p hj) fun h' tk hk dd=>?_
 have hm:(L2.dm [] more).length≤sizeLine:=by
   have:=L2.mL more []
   rw[List.length_nil]at this
   omega
 exact⟨.ref _,_,I.laid (a:=s.heap.objs.size) (o:=.dK (L2.dm [] more)) (t':=tk) hk (Nat.le_refl _) (L2.kR hm (beq_eq_false_iff_ne.mpr (Ne.symm (Nat.ne_of_lt I.big))) (k1.merge .nil) dd),rfl,q _ (I.aD.fresh (Nat.le_refl _))⟩
noncomputable def BX(M:Md)(f:Ex):TE:=fun σ H Q=>∃ρ F ks ds,aQ M H F σ ρ∧f ρ=.ok (.ao ks ds)∧∀p H' xs,af H H'→H' p=none→ks.length=xs.length→ae M H' F ds xs→Q (.ref p) (upd H' p (.dK (ks.zip xs)))
noncomputable abbrev JD(X:Cx)(e:Expr)(f:Ex):Prop:=PE X e (BX (aw X) f)
theorem Ci(i:Nat){x:Str}{e:Expr}{f:Ex}{p2:Pos}(hN:X.N.Nodup)(he:JD X e f)(hi:X.N[i]? =some x)(hx:L2.Loc X.env.scope x)(hf:X.fn x=true∨X.env.scope.names.lookup x=some .local)
   (hs:swapsWith e (some (.Name x p2)) pos.line X.env=pure false):JS X (.Assign [.Name x p2] e pos) (jE i f):=fun F0=>
 dZ (L2.lH hN hi hx he hs hf) fun D σ H ⟨ρ,F,fl,r,e,q⟩=>by
   obtain⟨d,ed,e⟩:=aq.mp e
   split at e
   · cases e
     refine⟨ρ,F,_,_,r.rs,ed,fun p H1 xs s1 hp hl rs=>?_⟩
     obtain⟨mv,r'⟩:=(r.same s1).new (i:=i) (s:=.od _ _) hp (.inr ⟨_,_,xs,rfl,rfl,hl,rs⟩)
     exact q _ _ _ (Mv.trans (.same s1) mv) r'
   ·cases e
noncomputable def eM:List Ky→List D→List Ky→List D→List Ky×List D
 |k::ks,v::vs,as,bs=>eM ks vs (putL k v as bs).1 (putL k v as bs).2
 |_,_,as,bs=>(as,bs)
noncomputable def kz(i:Nat)(e:Ex):Sm:=fun ρ=>(e ρ).bind fun d=>match d,ρ[i]? with
 |.ao ks vs,some (.od as bs)=>if ks.length+as.length<1000 then .ok (.next (ρ.set i (.od (eM ks vs as bs).1 (eM ks vs as bs).2)))else .bad
 |_,_=>.bad
theorem tG:∀ {ks:List Ky} {vs:List D} {ys:List V} {as:List Ky} {bs:List D} {xs:List V},ks.length=ys.length→ae M H F vs ys→as.length=xs.length→ae M H F bs xs→
   ∃zs,L2.dm (as.zip xs) (ks.zip ys)=(eM ks vs as bs).1.zip zs∧(eM ks vs as bs).1.length=zs.length∧ae M H F (eM ks vs as bs).2 zs
 | [],vs,ys,as,bs,xs,_,_,hl,rs=>by
   have:eM [] vs as bs=(as,bs):=by unfold eM;cases vs<;>rfl
   rw[this]
   exact⟨xs,rfl,hl,rs⟩
 | k::ks,vs,ys,as,bs,xs,h,rv,hl,rs=>by
   cases ys with
   |nil=>cases h
   | cons y ys=>
     cases vs with
     |nil=>simp only[ae]at rv;cases rv
     | cons v vs=>
       simp only[ae]at rv
       obtain⟨_,_,e,r1,r2⟩:=rv
       cases e
       obtain⟨zs,e1,l1,rs1⟩:=Ap (k:=k) hl rs r1
       obtain⟨ws,e2,l2,rs2⟩:=tG (by simpa using h) r2 l1 rs1
       refine⟨ws,?_,l2,rs2⟩
       show L2.dm (L2.putK (as.zip xs) k y) (ks.zip ys)=_
       rw[e1];exact e2
theorem Bc{H1:Hp}{s1:Shared}{a:Addr}{ob:Obj}{kvs:List (Key×V)}(I0:Inv X pins σ H s)(e0:H a=some (.dK kvs))(I1:Inv X pins σ H1 s1)(e1:H1 a=some (.frz ob (.dK kvs))):Inv X pins σ (upd H1 a (.dK kvs)) s1:=by
 have nn:∀ {b},H1 b=none→upd H1 a (.dK kvs) b=none:=fun {b} h=>by rw[L2.aC (fun z=>by subst z;rw[e1]at h;cases h)];exact h
 refine⟨I1.ok,I1.os,I1.bare,⟨I1.base.keep,I1.base.slot,fun b o h n x=>nn (I1.base.free b o h n x),I1.base.there,fun b xs h=>?_,fun b o u h=>?_,fun b ps h=>?_⟩,I1.loc,I1.cell,nn I1.free,fun x c h=>nn (I1.ff x c h),fun p hp=>?_,fun b o h=>?_,I1.len⟩
 · have h1:=I1.base.dO b xs h
   rw[L2.aC (fun z=>by subst z;rw[e1]at h1;cases h1)];exact h1
 · have h0:=I0.base.dw b o u h
   rw[L2.aC (fun z=>by subst z;rw[e0]at h0;cases h0)];exact I1.base.dw b o u h
 · obtain⟨more,h1⟩:=I1.base.dR b ps h
   exact⟨more,by rw[L2.aC (fun z=>by subst z;rw[e1]at h1;cases h1)];exact h1⟩
 · obtain⟨h1,h2,h3⟩:=I1.pin p hp
   exact⟨h1,nn h2,h3⟩
 · by_cases hb:b=a
   · subst hb
     rw[L2.bt]at h
     cases h
     obtain⟨_,z,y,vs,r,dd⟩:=I1.aD b _ e1
     exact⟨z,y,vs,r,dd⟩
   · rw[L2.aC hb]at h
     refine(I1.aD b o h).gk (fun c u _ q=>q) (fun c q=>?_) fun c xs q=>?_
     ·rw[L2.aC (fun z=>by subst z;rw[e1]at q;cases q)];exact q
     ·rw[L2.aC (fun z=>by subst z;rw[e1]at q;cases q)];exact q
mutual
theorem Rep.lg{H2:Hp}{F2:Addr→Prop}(o:∀a xs,df M H F a xs→df M H2 F2 a xs):∀ {d:D} {v:V},cM d=true→Rep M H F d v→Rep M H2 F2 d v
 |.aA,_,_,h=>by simp only[Rep]at h ⊢;exact h
 |.bl _,_,_,h=>by simp only[Rep]at h ⊢;exact h
 |.int _,_,_,h=>by simp only[Rep]at h ⊢;exact h
 |.str _,_,_,h=>by simp only[Rep]at h ⊢;exact h
 | .tup ds,_,n,h=>by
   simp only[Rep]at h ⊢
   obtain⟨a,xs,e,t,r⟩:=h
   exact⟨a,xs,e,o _ _ t,ae.lg o (by unfold PL.cM at n;exact n) r⟩
 |.lst _,_,n,_=>by unfold PL.cM at n;cases n
 |.ao _ _,_,n,_=>by unfold PL.cM at n;cases n
 |.b6 _ _ _,_,n,_=>by unfold PL.cM at n;cases n
theorem ae.lg{H2:Hp}{F2:Addr→Prop}(o:∀a xs,df M H F a xs→df M H2 F2 a xs):∀ {ds:List D} {xs:List V},jf ds=true→ae M H F ds xs→ae M H2 F2 ds xs
 |[],_,_,h=>by simp only[ae]at h ⊢;exact h
 | d::ds,_,n,h=>by
   unfold jf at n
   rw[Bool.and_eq_true]at n
   simp only[ae]at h ⊢
   obtain⟨x,r,e,h1,h2⟩:=h
   exact⟨x,r,e,Rep.lg o n.1 h1,ae.lg o n.2 h2⟩
end
end
end PL
namespace PySem
namespace F
end F
section
variable{prog:Program}{w:World}{A:Around}{E:Value→Shared→Prop}{s:Shared}{a:Addr}{o:Obj}{ep:Nat}{t:SetTable}
end
end PySem
namespace PL
open PySem PySem.Spec
open L2 (V Hp HO Cx PE PT PW PA PS bT PG cY VK TE TT TA TS TI TG Inv RelV Vals Rd aY bb upd af Key XK Ends aR fi bu R2 EP It Turn cu Un)
noncomputable def je(fk fv:Ex):Ex:=fun ρ=>(fk ρ).bind fun k=>(fv ρ).bind fun v=>match keyOf k with
 |some q=>.ok (.ao [q] [v])
 |none=>.bad
section
variable{X:Cx}{M:Md}{G H H':Hp}{F0 F F':Addr→Prop}{σ:L2.St}{ρ:En}{pos:Pos}{pins:List (Addr×Obj)}{s:Shared}
theorem Cf{k v:Expr}{fk fv:Ex}(hk:JE X k fk)(hv:JE X v fv):JE X (.Dict [some k] [v] pos) (je fk fv):=by
 refine qy (L2.qf (L2.mx hk hv L2.pG) rfl rfl (by simp) (by show 1≤15;decide)) fun σ H Q ⟨ρ,F,d,hr,e,q⟩=>?_
 obtain⟨a,ea,e⟩:=aq.mp e
 obtain⟨b,eb,e⟩:=aq.mp e
 split at e
 · rename_i z hz
   cases e
   intro p hp
   have hfr:=hr.fresh (o:=.dK []) hp
   refine⟨ρ,_,a,hfr,ea,fun x H1 s1 rx=>⟨ρ,_,b,hfr.same s1,eb,fun y H2 s2 ry=>?_⟩⟩
   cases fz hz rx
   have e2:H2 p=some (.dK []):=s2 _ _ (s1 _ _ L2.bt)
   refine⟨e2,[(z,y)],rfl,(by show 1≤15;decide),p,[(z,y)],rfl,L2.bt,fun ob=>?_⟩
   rw[L2.o9]
   have sm:af H (upd H2 p (.frz ob (.dK [(z,y)]))):=fun c u hc=>by
     have ne:c≠p:=fun w=>by subst w;rw[hp]at hc;cases hc
     rw[L2.aC ne]
     exact s2 _ _ (s1 _ _ (by rw[L2.aC ne];exact hc))
   have nF:¬F p:=kF hr.aT hp
   have mv:Mv (fun b=>F b∨b=p) H2 F (upd H2 p (.frz ob (.dK [(z,y)]))):=fun b u n e=>⟨fun h=>n (.inl h),by rw[L2.aC (fun z=>n (.inr z))];exact e⟩
   refine q _ _ sm ?_
   simp only[Rep]
   exact⟨p,[y],rfl,.inl ⟨nF,ob,L2.bt⟩,rfl,ae.cons (ry.mv mv) ae.nil⟩
 ·cases e
end
mutual
noncomputable def T.toD:T→D
 |.d x=>x
 |.l ts=>.lst (T.d7 ts)
 |.m ks ts=>.ao ks (T.d7 ts)
 |.tu ts=>.tup (T.d7 ts)
noncomputable def T.d7:List T→List D
 |[]=>[]
 |t::ts=>T.toD t::T.d7 ts
end
noncomputable def T.at:T→List Nat→Option T
 |t,[]=>some t
 | .l ts,k::p=>match ts[k]? with
   |some t=>T.at t p
   |none=>none
 | .m _ ts,k::p=>match ts[k]? with
   |some t=>T.at t p
   |none=>none
 | .tu ts,k::p=>match ts[k]? with
   |some t=>T.at t p
   |none=>none
 |.d _,_::_=>none
noncomputable def T.put(n:T):T→List Nat→T
 |_,[]=>n
 | .l ts,k::p=>match ts[k]? with
   |some t=>.l (ts.set k (T.put n t p))
   |none=>.l ts
 | .m ks ts,k::p=>match ts[k]? with
   |some t=>.m ks (ts.set k (T.put n t p))
   |none=>.m ks ts
 | .tu ts,k::p=>match ts[k]? with
   |some t=>.tu (ts.set k (T.put n t p))
   |none=>.tu ts
 |.d x,_::_=>.d x
section
variable{X:Cx}{M:Md}{G H H':Hp}{F0 F F':Addr→Prop}{σ:L2.St}{ρ:En}{pos:Pos}{pins:List (Addr×Obj)}{s:Shared}
mutual
theorem ag.less(hs:∀a,F' a→F a):∀ {t:T} {v:V} {as:List Addr},(∀b∈as,F' b)→ag M H F t v as→ag M H F' t v as
 | .d x,v,as,_,h=>by
   simp only[ag]at h ⊢
   exact⟨h.1,h.2.sub hs⟩
 | .l ts,v,as,k,h=>by
   simp only[ag]at h ⊢
   obtain⟨a,xs,bs,e1,rfl,f,e2,r⟩:=h
   exact⟨a,xs,bs,e1,rfl,k a List.mem_cons_self,e2,ah.less hs (fun b hb=>k b (List.mem_cons_of_mem _ hb)) r⟩
 | .m ks ts,v,as,k,h=>by
   simp only[ag]at h ⊢
   obtain⟨a,xs,bs,e1,rfl,f,e2,l,r⟩:=h
   exact⟨a,xs,bs,e1,rfl,k a List.mem_cons_self,e2,l,ah.less hs (fun b hb=>k b (List.mem_cons_of_mem _ hb)) r⟩
 | .tu ts,v,as,k,h=>by
   simp only[ag]at h ⊢
   obtain⟨a,xs,e1,f,e2,r⟩:=h
   exact⟨a,xs,e1,fun z=>f (hs a z),e2,ah.less hs k r⟩
theorem ah.less(hs:∀a,F' a→F a):∀ {ts:List T} {xs:List V} {as:List Addr},(∀b∈as,F' b)→ah M H F ts xs as→ah M H F' ts xs as
 |[],xs,as,_,h=>by simp only[ah]at h ⊢;exact h
 | t::ts,xs,as,k,h=>by
   simp only[ah]at h ⊢
   obtain⟨x,r,bs,cs,e1,rfl,h1,h2⟩:=h
   exact⟨x,r,bs,cs,e1,rfl,ag.less hs (fun b hb=>k b (List.mem_append_left _ hb)) h1,ah.less hs (fun b hb=>k b (List.mem_append_right _ hb)) h2⟩
end
theorem ah.part:∀ {ts:List T} {xs:List V} {as:List Addr} {k:Nat} {t:T},ah M H F ts xs as→ts[k]? =some t→∃x bs,xs[k]? =some x∧ag M H F t x bs∧bs.Sublist as
 |[],_,_,_,_,_,e=>by simp at e
 | t::ts,xs,as,0,_,h,e=>by
   simp only[ah]at h
   obtain⟨x,r,bs,cs,rfl,rfl,h1,h2⟩:=h
   cases e
   exact⟨x,bs,rfl,h1,List.sublist_append_left _ _⟩
 | t::ts,xs,as,k+1,_,h,e=>by
   simp only[ah]at h
   obtain⟨x,r,bs,cs,rfl,rfl,h1,h2⟩:=h
   obtain⟨y,ds,h3,h4,h5⟩:=ah.part h2 (by simpa using e)
   exact⟨y,ds,by simpa using h3,h4,h5.trans (List.sublist_append_right _ _)⟩
theorem ah.chg{H2:Hp}{F2:Addr→Prop}{N:List Addr}{c:Addr}{t':T}{x:V}(m:Mv F H F2 H2)(hk:∀b u,b≠c→H b=some u→H2 b=some u)(hF2:∀b,F b→F2 b):∀ {j:Nat} {ts:List T} {xs:List V} {as:List Addr} {t:T},ah M H F ts xs as→as.Nodup→ts[j]? =some t→xs[j]? =some x→
   (∀bs,ag M H F t x bs→bs.Nodup→c∈bs∧∃bs',ag M H2 F2 t' x bs'∧bs'.Nodup∧(∀b∈bs',b∈bs∨(b∈N∧H b=none))∧∀b∈N,b∈bs')→
   c∈as∧∃as',ah M H2 F2 (ts.set j t') xs as'∧as'.Nodup∧(∀b∈as',b∈as∨(b∈N∧H b=none))∧∀b∈N,b∈as'
 |j,[],_,_,_,_,_,e,_,_=>by simp at e
 | 0,t::ts,xs,as,_,h,nd,e,ex,k=>by
   simp only[ah]at h
   obtain⟨y,r,bs,cs,rfl,rfl,h1,h2⟩:=h
   cases e;cases ex
   have nd2:=List.nodup_append.mp nd
   obtain⟨hc,bs',k1,k2,k3,k4⟩:=k bs h1 nd2.1
   refine⟨List.mem_append_left _ hc,bs'++cs,?_,List.nodup_append.mpr ⟨k2,nd2.2.1,fun a ha b hb z=>?_⟩,fun b hb=>?_,fun b hb=>List.mem_append_left _ (k4 b hb)⟩
   · rw[List.set_cons_zero]
     simp only[ah]
     refine⟨_,r,bs',cs,rfl,rfl,k1,h2.mv m fun b hb u f hu=>⟨hF2 b f,hk b u (fun z=>?_) hu⟩⟩
     subst z
     exact nd2.2.2 b hc b hb rfl
   · subst z
     rcases k3 a ha with h|⟨_,h⟩
     ·exact nd2.2.2 a h a hb rfl
     · obtain⟨_,u,hu⟩:=h2.fs a hb
       rw[h]at hu;cases hu
   · rcases List.mem_append.mp hb with hb|hb
     ·exact(k3 b hb).imp (List.mem_append_left _) id
     ·exact .inl (List.mem_append_right _ hb)
 | j+1,t::ts,xs,as,_,h,nd,e,ex,k=>by
   simp only[ah]at h
   obtain⟨y,r,bs,cs,rfl,rfl,h1,h2⟩:=h
   have nd2:=List.nodup_append.mp nd
   obtain⟨hc,cs',k1,k2,k3,k4⟩:=ah.chg m hk hF2 h2 nd2.2.1 (by simpa using e) (by simpa using ex) k
   refine⟨List.mem_append_right _ hc,bs++cs',?_,List.nodup_append.mpr ⟨nd2.1,k2,fun a ha b hb z=>?_⟩,fun b hb=>?_,fun b hb=>List.mem_append_right _ (k4 b hb)⟩
   · rw[List.set_cons_succ]
     simp only[ah]
     refine⟨y,r,bs,cs',rfl,rfl,h1.mv m fun b hb u f hu=>⟨hF2 b f,hk b u (fun z=>?_) hu⟩,k1⟩
     subst z
     exact nd2.2.2 b hb b hc rfl
   · subst z
     rcases k3 a hb with h|⟨_,h⟩
     ·exact nd2.2.2 a ha a h rfl
     · obtain⟨_,u,hu⟩:=h1.fs a ha
       rw[h]at hu;cases hu
   · rcases List.mem_append.mp hb with hb|hb
     ·exact .inl (List.mem_append_left _ hb)
     ·exact(k3 b hb).imp (List.mem_append_right _) id
theorem zip_inj{ks:List Ky}{xs ys:List V}(l1:ks.length=xs.length)(l2:ks.length=ys.length)(h:ks.zip xs=ks.zip ys):xs=ys:=by
 have h1:=congrArg (List.map Prod.snd) h
 rw[List.map_snd_zip (by omega),List.map_snd_zip (by omega)]at h1
 exact h1
structure fB(M:Md)(H H2:Hp)(F F2:Addr→Prop)(c:Addr)(n0 n1:T)(bs0 bs1:List Addr):Prop where
 old:ag M H F n0 (.ref c) bs0
 mem:c∈bs0
 new:ag M H2 F2 n1 (.ref c) bs1
 nd:bs1.Nodup
 out:∀b u,b≠c→H b=some u→H2 b=some u
 fs:∀b,F2 b↔F b∨b∈bs1
 i4:∀b∈bs1,b∈bs0∨H b=none
theorem fB.fc{H2:Hp}{F2:Addr→Prop}{c:Addr}{n0 n1:T}{bs0 bs1:List Addr}(C:fB M H H2 F F2 c n0 n1 bs0 bs1):F c:=(C.old.fs c C.mem).1
theorem fB.mv{H2:Hp}{F2:Addr→Prop}{c:Addr}{n0 n1:T}{bs0 bs1:List Addr}(C:fB M H H2 F F2 c n0 n1 bs0 bs1):Mv F H F2 H2:=fun b o n e=>
 ⟨fun f=>((C.fs b).mp f).elim n fun hb=>(C.i4 b hb).elim (fun h=>n (C.old.fs b h).1) (fun h=>by rw[h]at e;cases e),C.out b o (fun z=>by subst z;exact n C.fc) e⟩
theorem ag.put{H2:Hp}{F2:Addr→Prop}{n0 n1:T}{c:Addr}{bs0 bs1:List Addr}(C:fB M H H2 F F2 c n0 n1 bs0 bs1):∀ {p:List Nat} {t:T} {v:V} {as:List Addr},ag M H F t v as→as.Nodup→av H t v p n0 (.ref c)→
   c∈as∧∃as1,ag M H2 F2 (T.put n1 t p) v as1∧as1.Nodup∧(∀b∈as1,b∈as∨(b∈bs1∧H b=none))∧∀b∈bs1,b∈as1
 | [],t,v,as,h,nd,e=>by
   have e':t=n0∧v=.ref c:=by cases t<;>exact e
   obtain⟨rfl,rfl⟩:=e'
   have:=ag.g7 C.old h
   subst this
   have ep:T.put n1 t []=n1:=by cases t<;>rfl
   rw[ep]
   exact⟨C.mem,bs1,C.new,C.nd,fun b hb=>(C.i4 b hb).imp id fun h=>⟨hb,h⟩,fun b hb=>hb⟩
 | k::p,.l ts,v,as,h,nd,e=>by
   simp only[av]at e
   simp only[ag]at h
   obtain⟨a,xs,t1,x1,rfl,e2,et,ex,e⟩:=e
   obtain⟨a',ys,bs,ea,rfl,f,e2',r⟩:=h
   cases ea
   have e9:xs=ys:=by rw[e2']at e2;injection e2 with e2;injection e2 with e2;exact e2.symm
   subst e9
   have nd2:=List.nodup_cons.mp nd
   obtain⟨hc,as',k1,k2,k3,k4⟩:=ah.chg (t':=T.put n1 t1 p) C.mv C.out (fun b f=>(C.fs b).mpr (.inl f)) r nd2.2 et ex fun bs' hb' nb'=>ag.put C hb' nb' e
   have hca:a≠c:=fun z=>by subst z;exact nd2.1 hc
   refine⟨List.mem_cons_of_mem _ hc,a::as',?_,List.nodup_cons.mpr ⟨fun ha=>?_,k2⟩,fun b hb=>?_,fun b hb=>List.mem_cons_of_mem _ (k4 b hb)⟩
   · show ag M _ _ (match ts[k]? with|some t=>T.l (ts.set k (T.put n1 t p))|none=>T.l ts) _ _
     rw[et]
     simp only[ag]
     exact⟨a,_,as',rfl,rfl,(C.fs a).mpr (.inl f),C.out a _ hca e2',k1⟩
   · rcases k3 a ha with h|⟨_,h⟩
     ·exact nd2.1 h
     ·rw[h]at e2';cases e2'
   · rcases List.mem_cons.mp hb with rfl|hb
     ·exact .inl List.mem_cons_self
     ·exact(k3 b hb).imp (List.mem_cons_of_mem _) id
 | k::p,.m ks0 ts,v,as,h,nd,e=>by
   simp only[av]at e
   simp only[ag]at h
   obtain⟨a,xs,t1,x1,rfl,e2,l1,et,ex,e⟩:=e
   obtain⟨a',ys,bs,ea,rfl,f,e2',l2,r⟩:=h
   cases ea
   have e9:xs=ys:=zip_inj l1 l2 (by rw[e2']at e2;injection e2 with z;injection z with z;exact z.symm)
   subst e9
   have nd2:=List.nodup_cons.mp nd
   obtain⟨hc,as',k1,k2,k3,k4⟩:=ah.chg (t':=T.put n1 t1 p) C.mv C.out (fun b f=>(C.fs b).mpr (.inl f)) r nd2.2 et ex fun bs' hb' nb'=>ag.put C hb' nb' e
   have hca:a≠c:=fun z=>by subst z;exact nd2.1 hc
   refine⟨List.mem_cons_of_mem _ hc,a::as',?_,List.nodup_cons.mpr ⟨fun ha=>?_,k2⟩,fun b hb=>?_,fun b hb=>List.mem_cons_of_mem _ (k4 b hb)⟩
   · show ag M _ _ (match ts[k]? with|some t=>T.m ks0 (ts.set k (T.put n1 t p))|none=>T.m ks0 ts) _ _
     rw[et]
     simp only[ag]
     exact⟨a,xs,as',rfl,rfl,(C.fs a).mpr (.inl f),C.out a _ hca e2',l1,k1⟩
   · rcases k3 a ha with h|⟨_,h⟩
     ·exact nd2.1 h
     ·rw[h]at e2';cases e2'
   · rcases List.mem_cons.mp hb with rfl|hb
     ·exact .inl List.mem_cons_self
     ·exact(k3 b hb).imp (List.mem_cons_of_mem _) id
 | k::p,.tu ts,v,as,h,nd,e=>by
   simp only[av]at e
   simp only[ag]at h
   obtain⟨a,xs,t1,x1,rfl,e2,et,ex,e⟩:=e
   obtain⟨a',ys,ea,f,e2',r⟩:=h
   cases ea
   have e9:xs=ys:=by rw[e2']at e2;injection e2 with e2;injection e2 with e2;exact e2.symm
   subst e9
   obtain⟨hc,as',k1,k2,k3,k4⟩:=ah.chg (t':=T.put n1 t1 p) C.mv C.out (fun b f=>(C.fs b).mpr (.inl f)) r nd et ex fun bs' hb' nb'=>ag.put C hb' nb' e
   refine⟨hc,as',?_,k2,k3,k4⟩
   show ag M _ _ (match ts[k]? with|some t=>T.tu (ts.set k (T.put n1 t p))|none=>T.tu ts) _ _
   rw[et]
   simp only[ag]
   exact⟨a,_,rfl,(C.mv _ _ f e2').1,(C.mv _ _ f e2').2,k1⟩
 |k::p,.d _,v,as,h,nd,e=>e.elim
end
section
variable{X:Cx}{M:Md}{G H H':Hp}{F0 F F':Addr→Prop}{σ:L2.St}{ρ:En}{pos:Pos}{pins:List (Addr×Obj)}{s:Shared}
theorem T.zT{n:T}(hn:n.own=true):∀ {t:T} {p:List Nat},t.own=true→(T.put n t p).own=true
 |t,[],_=>by cases t<;>exact hn
 |.l ts,k::p,_=>by unfold T.put;split<;>rfl
 |.m ks ts,k::p,_=>by unfold T.put;split<;>rfl
 |.d x,k::p,h=>by cases h
 |.tu ts,k::p,h=>by cases h
theorem av.part:∀ {p:List Nat} {t:T} {v:V} {t1:T} {w:V} {as:List Addr},ag M H F t v as→av H t v p t1 w→∃bs,ag M H F t1 w bs∧bs.Sublist as
 | [],t,v,t1,w,as,tr,h=>by
   have e':t=t1∧v=w:=by cases t<;>exact h
   obtain⟨rfl,rfl⟩:=e'
   exact⟨as,tr,List.Sublist.refl _⟩
 | k::p,.l ts,v,t1,w,as,tr,h=>by
   simp only[av]at h
   simp only[ag]at tr
   obtain⟨a,xs,tp,xp,rfl,e2,etp,exp,h⟩:=h
   obtain⟨a2,ys,bs,ea2,rfl,f,e22,r⟩:=tr
   cases ea2
   have e9:xs=ys:=by rw[e22]at e2;injection e2 with z;injection z with z;exact z.symm
   subst e9
   obtain⟨xp',dp,exp1,rp,subp⟩:=r.part etp
   rw[exp]at exp1;cases exp1
   obtain⟨cs,h1,h2⟩:=av.part rp h
   exact⟨cs,h1,(h2.trans subp).trans (List.sublist_cons_self _ _)⟩
 | k::p,.m ks0 ts,v,t1,w,as,tr,h=>by
   simp only[av]at h
   simp only[ag]at tr
   obtain⟨a,xs,tp,xp,rfl,e2,l1,etp,exp,h⟩:=h
   obtain⟨a2,ys,bs,ea2,rfl,f,e22,l2,r⟩:=tr
   cases ea2
   have e9:xs=ys:=zip_inj l1 l2 (by rw[e22]at e2;injection e2 with z;injection z with z;exact z.symm)
   subst e9
   obtain⟨xp',dp,exp1,rp,subp⟩:=r.part etp
   rw[exp]at exp1;cases exp1
   obtain⟨cs,h1,h2⟩:=av.part rp h
   exact⟨cs,h1,(h2.trans subp).trans (List.sublist_cons_self _ _)⟩
 | k::p,.tu ts,v,t1,w,as,tr,h=>by
   simp only[av]at h
   simp only[ag]at tr
   obtain⟨a,xs,tp,xp,rfl,e2,etp,exp,h⟩:=h
   obtain⟨a2,ys,ea2,f,e22,r⟩:=tr
   cases ea2
   have e9:xs=ys:=by rw[e22]at e2;injection e2 with z;injection z with z;exact z.symm
   subst e9
   obtain⟨xp',dp,exp1,rp,subp⟩:=r.part etp
   rw[exp]at exp1;cases exp1
   obtain⟨cs,h1,h2⟩:=av.part rp h
   exact⟨cs,h1,h2.trans subp⟩
 |k::p,.d _,v,t1,w,as,tr,h=>h.elim
theorem ah.apart:∀ {ts:List T} {xs:List V} {as:List Addr} {j k:Nat} {tj tk:T} {xj xk:V} {bs cs:List Addr},ah M H F ts xs as→as.Nodup→j≠k→ts[j]? =some tj→ts[k]? =some tk→xs[j]? =some xj→xs[k]? =some xk→ag M H F tj xj bs→ag M H F tk xk cs→∀b∈bs,b∉cs
 |[],_,_,_,_,_,_,_,_,_,_,_,_,_,e,_,_,_,_,_=>by simp at e
 | t::ts,xs,as,j,k,tj,tk,xj,xk,bs,cs,h,nd,hne,ej,ek,exj,exk,rj,rk=>by
   simp only[ah]at h
   obtain⟨x,r,b1,c1,rfl,rfl,h1,h2⟩:=h
   have nd2:=List.nodup_append.mp nd
   cases j with
   | zero=>
     cases k with
     |zero=>exact absurd rfl hne
     | succ k=>
       cases ej;cases exj
       have:=ag.g7 h1 rj
       subst this
       obtain⟨y,ds,ey,ry,sub⟩:=h2.part (k:=k) (by simpa using ek)
       have ey2:r[k]? =some xk:=by simpa using exk
       rw[ey]at ey2;cases ey2
       have:=ag.g7 ry rk
       subst this
       exact fun b hb hc=>nd2.2.2 b hb b (sub.subset hc) rfl
   | succ j=>
     cases k with
     | zero=>
       cases ek;cases exk
       have:=ag.g7 h1 rk
       subst this
       obtain⟨y,ds,ey,ry,sub⟩:=h2.part (k:=j) (by simpa using ej)
       have ey2:r[j]? =some xj:=by simpa using exj
       rw[ey]at ey2;cases ey2
       have:=ag.g7 ry rj
       subst this
       exact fun b hb hc=>nd2.2.2 b hc b (sub.subset hb) rfl
     |succ k=>exact ah.apart (j:=j) (k:=k) h2 nd2.2.1 (by omega) (by simpa using ej) (by simpa using ek) (by simpa using exj) (by simpa using exk) rj rk
theorem pO{α:Type}{l:List α}{k:Nat}{a b:α}(h:l[k]? =some a):(l.set k b)[k]? =some b:=by
 rw[List.getElem?_set_self (List.getElem?_eq_some_iff.mp h).1]
noncomputable def below:List Nat→List Nat→Bool
 |[],_::_=>true
 |k::p,j::q=>decide (k=j)&&below p q
 |_,_=>false
theorem ag.head{t:T}{c:Addr}{as:List Addr}(h:ag M H F t (.ref c) as)(ho:t.own=true):c∈as:=by
 cases t with
 |d x=>cases ho
 |tu ts=>cases ho
 |l ts=>simp only[ag]at h;obtain⟨a,xs,bs,e,rfl,_⟩:=h;cases e;exact List.mem_cons_self
 |m ks ts=>simp only[ag]at h;obtain⟨a,xs,bs,e,rfl,_⟩:=h;cases e;exact List.mem_cons_self
theorem av.i4:∀ {p q:List Nat} {t:T} {v:V} {n0 t1:T} {x w:V},av H t v p n0 x→av H t v q t1 w→below p q=true→∃k r,av H n0 x (k::r) t1 w
 |[],[],_,_,_,_,_,_,_,_,hb=>by cases hb
 | [],k::r,t,v,n0,t1,x,w,hp,hq,_=>by
   have e':t=n0∧v=x:=by cases t<;>exact hp
   obtain⟨rfl,rfl⟩:=e'
   exact⟨k,r,hq⟩
 |k::p,[],_,_,_,_,_,_,_,_,hb=>by cases hb
 | k::p,k'::q,.l ts,v,n0,t1,x,w,hp,hq,hb=>by
   unfold below at hb
   rw[Bool.and_eq_true,decide_eq_true_eq]at hb
   obtain⟨rfl,hb⟩:=hb
   simp only[av]at hp hq
   obtain⟨a,xs,tp,xp,rfl,e2,etp,exp,hp⟩:=hp
   obtain⟨a1,xs1,tq,xq,ea1,e21,etq,exq,hq⟩:=hq
   cases ea1
   have e8:xs1=xs:=by rw[e2]at e21;injection e21 with z;injection z with z;exact z.symm
   subst e8
   rw[etp]at etq;cases etq
   rw[exp]at exq;cases exq
   exact av.i4 hp hq hb
 | k::p,k'::q,.m ks ts,v,n0,t1,x,w,hp,hq,hb=>by
   unfold below at hb
   rw[Bool.and_eq_true,decide_eq_true_eq]at hb
   obtain⟨rfl,hb⟩:=hb
   simp only[av]at hp hq
   obtain⟨a,xs,tp,xp,rfl,e2,l1,etp,exp,hp⟩:=hp
   obtain⟨a1,xs1,tq,xq,ea1,e21,l2,etq,exq,hq⟩:=hq
   cases ea1
   have e8:xs1=xs:=zip_inj l2 l1 (by rw[e2]at e21;injection e21 with z;injection z with z;exact z.symm)
   subst e8
   rw[etp]at etq;cases etq
   rw[exp]at exq;cases exq
   exact av.i4 hp hq hb
 | k::p,k'::q,.tu ts,v,n0,t1,x,w,hp,hq,hb=>by
   unfold below at hb
   rw[Bool.and_eq_true,decide_eq_true_eq]at hb
   obtain⟨rfl,hb⟩:=hb
   simp only[av]at hp hq
   obtain⟨a,xs,tp,xp,rfl,e2,etp,exp,hp⟩:=hp
   obtain⟨a1,xs1,tq,xq,ea1,e21,etq,exq,hq⟩:=hq
   cases ea1
   have e8:xs1=xs:=by rw[e2]at e21;injection e21 with z;injection z with z;exact z.symm
   subst e8
   rw[etp]at etq;cases etq
   rw[exp]at exq;cases exq
   exact av.i4 hp hq hb
 |k::p,k'::q,.d _,v,n0,t1,x,w,hp,hq,hb=>hp.elim
theorem av.put{H2:Hp}{F2:Addr→Prop}{n0 n1:T}{c:Addr}{bs0 bs1:List Addr}(C:fB M H H2 F F2 c n0 n1 bs0 bs1)(o1:n1.own=true):∀ {q:List Nat} {p:List Nat} {t:T} {v:V} {t1:T} {w:V} {as:List Addr},ag M H F t v as→as.Nodup→av H t v p n0 (.ref c)→av H t v q t1 w→t1.own=true→below p q=false→
   ∃t2,t2.own=true∧av H2 (T.put n1 t p) v q t2 w
 | [],p,t,v,t1,w,as,tr,nd,hp,hq,ho,_=>by
   have e':t=t1∧v=w:=by cases t<;>exact hq
   obtain⟨rfl,rfl⟩:=e'
   refine⟨T.put n1 t p,T.zT o1 ho,?_⟩
   generalize T.put n1 t p=t2
   cases t2<;>exact⟨rfl,rfl⟩
 |k'::q,[],t,v,t1,w,as,tr,nd,hp,hq,ho,hb=>by cases hb
 | k'::q,k::p,.l ts,v,t1,w,as,tr,nd,hp,hq,ho,hb=>by
   simp only[av]at hp hq
   simp only[ag]at tr
   obtain⟨a,xs,tp,xp,rfl,e2,etp,exp,hp⟩:=hp
   obtain⟨a1,xs1,tq,xq,ea1,e21,etq,exq,hq⟩:=hq
   obtain⟨a2,ys,bs,ea2,rfl,f,e22,r⟩:=tr
   cases ea1;cases ea2
   have e8:xs1=ys:=by rw[e22]at e21;injection e21 with z;injection z with z;exact z.symm
   have e9:xs=ys:=by rw[e22]at e2;injection e2 with z;injection z with z;exact z.symm
   subst e8 e9
   have nd2:=List.nodup_cons.mp nd
   obtain⟨xp',dp,exp1,rp,subp⟩:=r.part etp
   rw[exp]at exp1;cases exp1
   obtain⟨hc,_⟩:=ag.put C rp (nd2.2.sublist subp) hp
   have hca:a≠c:=fun z=>by subst z;exact nd2.1 (subp.subset hc)
   show ∃t2,t2.own=true∧av _ (match ts[k]? with|some t=>T.l (ts.set k (T.put n1 t p))|none=>T.l ts) _ _ t2 w
   rw[etp]
   by_cases hkk:k=k'
   · subst hkk
     rw[etp]at etq;cases etq
     rw[exp]at exq;cases exq
     obtain⟨t2,o2,h2⟩:=av.put C o1 rp (nd2.2.sublist subp) hp hq ho (by simpa[below] using hb)
     refine⟨t2,o2,?_⟩
     simp only[av]
     exact⟨a,_,_,_,rfl,C.out a _ hca e22,pO etp,exp,h2⟩
   · obtain⟨xq',dq,exq1,rq,subq⟩:=r.part etq
     rw[exq]at exq1;cases exq1
     refine⟨t1,ho,?_⟩
     simp only[av]
     refine⟨a,_,tq,xq,rfl,C.out a _ hca e22,by rw[List.getElem?_set_ne hkk];exact etq,exq,hq.mv (fun a o n e=>(C.mv a o n e).2) rq fun b hb u fb hu=>C.out b u (fun z=>?_) hu⟩
     subst z;exact ah.apart r nd2.2 hkk etp etq exp exq rp rq _ hc hb
 | k'::q,k::p,.m ks0 ts,v,t1,w,as,tr,nd,hp,hq,ho,hb=>by
   simp only[av]at hp hq
   simp only[ag]at tr
   obtain⟨a,xs,tp,xp,rfl,e2,l0,etp,exp,hp⟩:=hp
   obtain⟨a1,xs1,tq,xq,ea1,e21,l1,etq,exq,hq⟩:=hq
   obtain⟨a2,ys,bs,ea2,rfl,f,e22,l2,r⟩:=tr
   cases ea1;cases ea2
   have e8:xs1=ys:=zip_inj l1 l2 (by rw[e22]at e21;injection e21 with z;injection z with z;exact z.symm)
   have e9:xs=ys:=zip_inj l0 l2 (by rw[e22]at e2;injection e2 with z;injection z with z;exact z.symm)
   subst e8 e9
   have nd2:=List.nodup_cons.mp nd
   obtain⟨xp',dp,exp1,rp,subp⟩:=r.part etp
   rw[exp]at exp1;cases exp1
   obtain⟨hc,_⟩:=ag.put C rp (nd2.2.sublist subp) hp
   have hca:a≠c:=fun z=>by subst z;exact nd2.1 (subp.subset hc)
   show ∃t2,t2.own=true∧av _ (match ts[k]? with|some t=>T.m ks0 (ts.set k (T.put n1 t p))|none=>T.m ks0 ts) _ _ t2 w
   rw[etp]
   by_cases hkk:k=k'
   · subst hkk
     rw[etp]at etq;cases etq
     rw[exp]at exq;cases exq
     obtain⟨t2,o2,h2⟩:=av.put C o1 rp (nd2.2.sublist subp) hp hq ho (by simpa[below] using hb)
     refine⟨t2,o2,?_⟩
     simp only[av]
     exact⟨a,_,_,_,rfl,C.out a _ hca e22,l2,pO etp,exp,h2⟩
   · obtain⟨xq',dq,exq1,rq,subq⟩:=r.part etq
     rw[exq]at exq1;cases exq1
     refine⟨t1,ho,?_⟩
     simp only[av]
     refine⟨a,_,tq,xq,rfl,C.out a _ hca e22,l2,by rw[List.getElem?_set_ne hkk];exact etq,exq,hq.mv (fun a o n e=>(C.mv a o n e).2) rq fun b hb u fb hu=>C.out b u (fun z=>?_) hu⟩
     subst z;exact ah.apart r nd2.2 hkk etp etq exp exq rp rq _ hc hb
 | k'::q,k::p,.tu ts,v,t1,w,as,tr,nd,hp,hq,ho,hb=>by
   simp only[av]at hp hq
   simp only[ag]at tr
   obtain⟨a,xs,tp,xp,rfl,e2,etp,exp,hp⟩:=hp
   obtain⟨a1,xs1,tq,xq,ea1,e21,etq,exq,hq⟩:=hq
   obtain⟨a2,ys,ea2,f,e22,r⟩:=tr
   cases ea1;cases ea2
   have e8:xs1=ys:=by rw[e22]at e21;injection e21 with z;injection z with z;exact z.symm
   have e9:xs=ys:=by rw[e22]at e2;injection e2 with z;injection z with z;exact z.symm
   subst e8 e9
   obtain⟨xp',dp,exp1,rp,subp⟩:=r.part etp
   rw[exp]at exp1;cases exp1
   obtain⟨hc,_⟩:=ag.put C rp (nd.sublist subp) hp
   show ∃t2,t2.own=true∧av _ (match ts[k]? with|some t=>T.tu (ts.set k (T.put n1 t p))|none=>T.tu ts) _ _ t2 w
   rw[etp]
   by_cases hkk:k=k'
   · subst hkk
     rw[etp]at etq;cases etq
     rw[exp]at exq;cases exq
     obtain⟨t2,o2,h2⟩:=av.put C o1 rp (nd.sublist subp) hp hq ho (by simpa[below] using hb)
     refine⟨t2,o2,?_⟩
     simp only[av]
     exact⟨a,_,_,_,rfl,(C.mv _ _ f e22).2,pO etp,exp,h2⟩
   · obtain⟨xq',dq,exq1,rq,subq⟩:=r.part etq
     rw[exq]at exq1;cases exq1
     refine⟨t1,ho,?_⟩
     simp only[av]
     refine⟨a,_,tq,xq,rfl,(C.mv _ _ f e22).2,by rw[List.getElem?_set_ne hkk];exact etq,exq,hq.mv (fun a o n e=>(C.mv a o n e).2) rq fun b hb u fb hu=>C.out b u (fun z=>?_) hu⟩
     subst z;exact ah.apart r nd hkk etp etq exp exq rp rq _ hc hb
 |k'::q,k::p,.d _,v,t1,w,as,tr,nd,hp,hq,ho,_=>hp.elim
theorem aP.un{ρ':En}(r:aP M G F0 H F σ ρ)(hl:ρ'.length=ρ.length)(h:∀(j:Nat) s,ρ'[j]? =some s→s=.un∨ρ[j]? =some s):aP M G F0 H F σ ρ':=by
 have ow:∀j,bh ρ' j→bh ρ j:=fun j o=>by
   rcases o with⟨ds,e⟩|⟨ks,ds,e⟩
   · rcases h j _ e with z|z
     ·cases z
     ·exact .inl ⟨_,z⟩
   · rcases h j _ e with z|z
     ·cases z
     ·exact .inr ⟨_,_,z⟩
 have on:∀(j:Nat) x,ρ'[j]? =some (.on x)→ρ[j]? =some (.on x):=fun j x e=>(h j _ e).resolve_left fun z=>nomatch z
 have at':∀(j:Nat) b,cV M H F σ ρ' j b→cV M H F σ ρ j b:=fun j b ⟨t,v,as,e,z⟩=>⟨t,v,as,on j _ e,z⟩
 refine⟨⟨by rw[hl,r.rs.len],r.rs.aT,fun i d e=>?_,fun i d e=>?_,fun i k d e=>?_,fun i j a oi oj=>r.rs.bX i j a (ow i oi) (ow j oj),fun i x e=>?_⟩,r.sm,r.sub,r.dD,fun i a o=>r.own i a (ow i o),fun i x b e hb=>r.eB i x b (on i x e) (at' i b hb)⟩
 ·exact r.rs.sh i d ((h i _ e).resolve_left fun z=>nomatch z)
 ·exact r.rs.ol i d ((h i _ e).resolve_left fun z=>nomatch z)
 ·exact r.rs.od i k d ((h i _ e).resolve_left fun z=>nomatch z)
 · obtain⟨h1,h2,h3⟩:=r.rs.on i x (on i x e)
   refine⟨?_,fun b hb k ok=>h2 b (at' i b hb) k (ow k ok),fun t ht j t' ej=>h3 t ht j t' (on j _ ej)⟩
   cases x with
   |tr t=>exact h1
   |al k p=>exact fun t et=>h1 t (on k _ et)
noncomputable def hV(i:Nat)(p:List Nat)(ρ:En):En:=ρ.map fun s=>match s with
 |.on (.al k q)=>if k=i∧below p q=true then .un else s
 |s=>s
noncomputable def cn(i:Nat)(p:List Nat)(s:Slot):Slot:=match s with
 |.on (.al k q)=>if k=i∧below p q=true then .un else s
 |s=>s
theorem vZ{i:Nat}{p:List Nat}:∀(z:Slot),cn i p z=.un∨(cn i p z=z∧∀q,z=.on (.al i q)→below p q=false)
 |.un=>.inl rfl
 |.sh _=>.inr ⟨rfl,fun _ h=>nomatch h⟩
 |.ol _=>.inr ⟨rfl,fun _ h=>nomatch h⟩
 |.od _ _=>.inr ⟨rfl,fun _ h=>nomatch h⟩
 |.on (.tr _)=>.inr ⟨rfl,fun _ h=>nomatch h⟩
 | .on (.al k q)=>by
   by_cases hc:k=i∧below p q=true
   ·exact .inl (if_pos hc)
   · refine .inr ⟨if_neg hc,fun q' hq=>?_⟩
     injection hq with hq
     injection hq with h1 h2
     subst h1 h2
     cases hb:below p q with
     |false=>rfl
     |true=>exact absurd ⟨rfl,hb⟩ hc
theorem ui{i:Nat}{p:List Nat}{j:Nat}{s:Slot}(h:(hV i p ρ)[j]? =some s):s=.un∨(ρ[j]? =some s∧∀q,s=.on (.al i q)→below p q=false):=by
 have h:(ρ.map (cn i p))[j]? =some s:=h
 rw[List.getElem?_map]at h
 cases e:ρ[j]? with
 |none=>rw[e]at h;cases h
 | some z=>
   rw[e]at h
   have h:cn i p z=s:=Option.some.inj h
   rcases vZ (i:=i) (p:=p) z with h1|⟨h1,h2⟩
   ·exact .inl (h.symm.trans h1)
   ·rw[h1]at h;subst h;exact .inr ⟨rfl,h2⟩
theorem aP.drop(i:Nat)(p:List Nat)(r:aP M G F0 H F σ ρ):aP M G F0 H F σ (hV i p ρ):=r.un (by unfold hV;simp) fun j s h=>(ui h).imp id And.left
theorem aP.wa{i:Nat}{t t':T}{v:V}{as as':List Addr}(r:aP M G F0 H F σ ρ)(e:ρ[i]? =some (.on (.tr t)))(ev:σ[i]? =some (some v))(tr:ag M H F t v as)(hnew:∀b∈as',b∈as∨H b=none)(hout:∀b u,b∉as'→H b=some u→H' b=some u)
   (hF:∀b,F' b↔F b∨b∈as') (tr':ag M H' F' t' v as') (nd:as'.Nodup) (hal:∀(j:Nat) p,ρ[j]? =some (Slot.on (.al i p))→∀t1 w,av H t v p t1 w→t1.own=true→∃t2,t2.own=true∧av H' t' v p t2 w):
   Mv F H F' H'∧aP M G F0 H' F' σ (ρ.set i (.on (.tr t'))):=by
 have at0:∀b∈as,cV M H F σ ρ i b:=fun b hb=>⟨t,v,as,e,ev,tr,hb⟩
 have fs:=tr.fs
 have mv:Mv F H F' H':=fun b o n eo=>by
   have nb:b∉as':=fun hb=>by
     rcases hnew b hb with h|h
     ·exact n (fs b h).1
     ·rw[h]at eo;cases eo
   exact⟨fun h=>((hF b).mp h).elim n nb,hout b _ nb eo⟩
 have ro:=r.rs.on i _ e
 have hi:i<ρ.length:=(List.getElem?_eq_some_iff.mp e).1
 have old:∀(j:Nat) x,j≠i→(ρ.set i (.on (.tr t')))[j]? =some x→ρ[j]? =some x:=fun j x hj h=>by rw[List.getElem?_set_ne (Ne.symm hj)]at h;exact h
 have self:(ρ.set i (.on (.tr t')))[i]? =some (.on (.tr t')):=List.getElem?_set_self hi
 have nself:∀(j:Nat) x,(∀y,x≠Slot.on y)→(ρ.set i (.on (.tr t')))[j]? =some x→ρ[j]? =some x:=fun j x hx h=>by
   by_cases hj:j=i
   ·subst hj;rw[self]at h;cases h;exact absurd rfl (hx _)
   ·exact old j x hj h
 have ownd:∀j,bh (ρ.set i (.on (.tr t'))) j→bh ρ j:=fun j h=>by
   rcases h with⟨ds,h⟩|⟨ks,ds,h⟩
   ·exact .inl ⟨ds,nself j _ (fun y z=>nomatch z) h⟩
   ·exact .inr ⟨ks,ds,nself j _ (fun y z=>nomatch z) h⟩
 have keep:∀(j:Nat) b u,bh ρ j→σ[j]? =some (some (.ref b))→F b→H b=some u→F' b∧H' b=some u:=fun j b u oj ej fb hu=>by
   refine⟨(hF b).mpr (.inl fb),?_⟩
   refine hout b u (fun hb=>?_) hu
   rcases hnew b hb with h|h
   ·exact ro.2.1 b (at0 b h) j oj ej
   ·rw[h]at hu;cases hu
 have aT:∀a,F' a→∃o,H' a=some o:=fun a fa=>by
   by_cases ha:a∈as'
   ·exact(tr'.fs a ha).2
   · obtain⟨o,ho⟩:=r.rs.aT a (((hF a).mp fa).resolve_right ha)
     exact⟨o,hout a _ ha ho⟩
 have rs:aQ M H' F' σ (ρ.set i (.on (.tr t'))):=by
   refine⟨by simp[r.rs.len],aT,fun j d h=>?_,fun j ds h=>?_,fun j ks ds h=>?_,fun j k a oj ok ej ek=>r.rs.bX j k a (ownd j oj) (ownd k ok) ej ek,?_⟩
   · obtain⟨w,e1,g⟩:=r.rs.sh j d (nself j _ (fun y z=>nomatch z) h)
     exact⟨w,e1,g.mv mv⟩
   · have h0:=nself j (.ol ds) (fun y z=>nomatch z) h
     obtain⟨a,xs,e1,f,e2,g⟩:=r.rs.ol j ds h0
     obtain⟨f',e3⟩:=keep j a _ (.inl ⟨_,h0⟩) e1 f e2
     exact⟨a,xs,e1,f',e3,g.mv mv⟩
   · have h0:=nself j (.od ks ds) (fun y z=>nomatch z) h
     obtain⟨a,xs,e1,f,e2,l,g⟩:=r.rs.od j ks ds h0
     obtain⟨f',e3⟩:=keep j a _ (.inr ⟨_,_,h0⟩) e1 f e2
     exact⟨a,xs,e1,f',e3,l,g.mv mv⟩
   · intro j x h
     have onat:∀b,cV M H' F' σ (ρ.set i (.on (.tr t'))) j b→j=i∧b∈as':=fun b hb=>by
       obtain⟨t1,v1,as1,e1,ev1,tr1,hb⟩:=hb
       have hj:j=i:=by
         by_cases hj:j=i
         ·exact hj
         ·exact ro.2.2 t rfl j t1 (old j _ hj e1)
       subst hj
       rw[self]at e1;cases e1
       rw[ev]at ev1;cases ev1
       have:=ag.g7 tr' tr1
       subst this
       exact⟨rfl,hb⟩
     refine⟨?_,fun b hb k ok ek=>?_,fun t1 ht k t2 hk=>?_⟩
     · by_cases hj:j=i
       · subst hj
         rw[self]at h;cases h
         exact⟨v,as',ev,tr',nd⟩
       · have h0:=old j _ hj h
         cases x with
         |tr t1=>exact absurd (ro.2.2 t rfl j t1 h0) hj
         | al k p=>
           intro t1 ht1
           have⟨hk,et⟩:k=i∧t1=t':=by
             by_cases hk:k=i
             ·subst hk;rw[self]at ht1;cases ht1;exact⟨rfl,rfl⟩
             ·exact absurd (ro.2.2 t rfl k t1 (old k _ hk ht1)) hk
           subst hk et
           obtain⟨v1,w,t2,e1,e2,at2,o2⟩:=(r.rs.on j _ h0).1 t e
           rw[ev]at e1;cases e1
           obtain⟨t3,o3,at3⟩:=hal j p h0 t2 w at2 o2
           exact⟨v,w,t3,ev,e2,at3,o3⟩
     · obtain⟨rfl,hb'⟩:=onat b hb
       rcases hnew b hb' with h2|h2
       ·exact ro.2.1 b (at0 b h2) k (ownd k ok) ek
       · obtain⟨a,_,u,_,e1,_,e2,_⟩:=r.rs.ownAt (ownd k ok)
         rw[ek]at e1;cases e1
         rw[h2]at e2;cases e2
     · subst ht
       have hj:j=i:=by
         by_cases hj:j=i
         ·exact hj
         ·exact ro.2.2 t rfl j t1 (old j _ hj h)
       by_cases hk2:k=i
       ·rw[hk2,hj]
       ·exact absurd (ro.2.2 t rfl k t2 (old k _ hk2 hk)) hk2
 refine⟨mv,⟨rs,fun b u hb=>?_,fun b f=>(hF b).mpr (.inl (r.sub b f)),r.dD,fun j a oj ej=>r.own j a (ownd j oj) ej,fun j x b h hb=>?_⟩⟩
 · have hu:=r.sm b u hb
   refine hout b u (fun hb2=>?_) hu
   rcases hnew b hb2 with h2|h2
   ·rw[r.eB i _ b e (at0 b h2)]at hb;cases hb
   ·rw[h2]at hu;cases hu
 · obtain⟨t1,v1,as1,e1,ev1,tr1,hb⟩:=hb
   have hj:j=i:=by
     by_cases hj:j=i
     ·exact hj
     ·exact ro.2.2 t rfl j t1 (old j _ hj e1)
   subst hj
   rw[self]at e1;cases e1
   rw[ev]at ev1;cases ev1
   have:=ag.g7 tr' tr1
   subst this
   rcases hnew b hb with h2|h2
   ·exact r.eB j _ b e (at0 b h2)
   ·exact r.sm.free h2
theorem y2{i j:Nat}{p:List Nat}{t:T}(h:ρ[j]? =some (.on (.tr t))):(hV i p ρ)[j]? =some (.on (.tr t)):=by
 unfold hV
 rw[List.getElem?_map,h];rfl
theorem aP.rQ{H2:Hp}{F2:Addr→Prop}{i:Nat}{t n0 n1:T}{w:V}{p:List Nat}{c:Addr}{bs0 bs1:List Addr}(r:aP M G F0 H F σ ρ)(e1:ρ[i]? =some (.on (.tr t)))(e2:σ[i]? =some (some w))(hat:av H t w p n0 (.ref c))(C:fB M H H2 F F2 c n0 n1 bs0 bs1)(o1:n1.own=true):
   Mv F H F2 H2∧aP M G F0 H2 F2 σ ((hV i p ρ).set i (.on (.tr (T.put n1 t p)))):=by
 obtain⟨⟨w',as,ew,tr,nd⟩,_,_⟩:=r.rs.on i _ e1
 rw[e2]at ew;cases ew
 obtain⟨hc,as1,tr',nd1,k1,k2⟩:=ag.put C tr nd hat
 have hc1:c∈as1:=k2 c (C.new.head o1)
 exact(r.drop i p).wa (y2 e1) e2 tr (fun b hb=>(k1 b hb).imp id And.right) (fun b u hb hu=>C.out b u (fun z=>by subst z;exact hb hc1) hu) (fun b=>by
     rw[C.fs b]
     exact⟨fun h=>h.imp id (k2 b),fun h=>h.elim .inl fun hb=>(k1 b hb).elim (fun h=>.inl (tr.fs b h).1) fun h=>.inr h.1⟩) tr' nd1
   fun j q hq t1 w1 hq1 ho=>av.put C o1 tr nd hat hq1 ho (((ui hq).resolve_left fun z=>nomatch z).2 q rfl)
end
noncomputable def kA(ρ:En):Bool:=ρ.all fun s=>match s with
 |.on _=>false
 |_=>true
noncomputable def cW:List Xt→En→R (List T)
 |[],_=>.ok []
 |f::fs,ρ=>(f ρ).bind fun t=>(cW fs ρ).bind fun ts=>.ok (t::ts)
noncomputable def xL(fs:List Xt):Xt:=fun ρ=>(cW fs ρ).bind fun ts=>.ok (.l ts)
noncomputable def gI:Xt:=fun _=>.ok (.m [] [])
noncomputable def ia(i:Nat)(f:Xt):Sm:=fun ρ=>(f ρ).bind fun t=>if kA ρ=true then .ok (.next (ρ.set i (.on (.tr t))))else .bad
section
variable{X:Cx}{M:Md}{G H H':Hp}{F0 F F':Addr→Prop}{σ:L2.St}{ρ:En}{pos:Pos}{pins:List (Addr×Obj)}{s:Shared}{as:List Addr}
noncomputable def pe(M:Md)(f:En→R (List T)):TA:=fun σ H Q=>∃ρ F ts,aQ M H F σ ρ∧f ρ=.ok ts∧∀vs H' F' as,af H H'→(∀b∈as,H b=none)→as.Nodup→(∀b,F' b↔F b∨b∈as)→ah M H' F' ts vs as→Q vs H'
noncomputable abbrev jM(X:Cx)(es:List Expr)(f:En→R (List T)):Prop:=PA X es (pe (aw X) f)
theorem xh:jM X [] (cW []):=
 mf L2.jv fun σ H Q ⟨ρ,F,ts,hr,e,q⟩=>by
   cases e
   exact q [] H F [] (af.refl _) (fun _ hb=>nomatch hb) List.nodup_nil (fun b=>by simp) (by rw[ah];exact⟨rfl,rfl⟩)
theorem zE{f:Xt}{fs:List Xt}{Q:List V→Hp→Prop}{te:TE}{ta:TA}(h1:∀σ H Q,oF M f σ H Q→te σ H Q)(h2:∀σ H Q,pe M (cW fs) σ H Q→ta σ H Q)(h:pe M (cW (f::fs)) σ H Q):L2.uD te ta σ H Q:=by
 obtain⟨ρ,F,ts,hr,e,q⟩:=h
 obtain⟨t,et,e⟩:=aq.mp e
 obtain⟨us,eu,e⟩:=aq.mp e
 cases e
 refine h1 _ _ _ ⟨ρ,F,t,hr,et,fun v H1 F1 as s1 hn nd hF tr=>?_⟩
 obtain⟨mv1,r1⟩:=hr.wide s1 hn hF (fun b hb=>(tr.fs b hb).2)
 refine h2 _ _ _ ⟨ρ,F1,us,r1,eu,fun vs H2 F2 bs s2 hn2 nd2 hF2 trs=>?_⟩
 have apart:∀a∈as,∀b∈bs,a≠b:=fun a ha b hb z=>by
   subst z
   obtain⟨_,u,hu⟩:=tr.fs a ha
   rw[hn2 a hb]at hu;cases hu
 have mv2:Mv F1 H1 F2 H2:=fun b o n e=>⟨fun f=>((hF2 b).mp f).elim n (fun hb=>by rw[hn2 b hb]at e;cases e),s2 _ _ e⟩
 refine q (v::vs) H2 F2 (as++bs) (s1.trans s2) (fun b hb=>?_) (List.nodup_append.mpr ⟨nd,nd2,apart⟩) (fun b=>?_) ?_
 · rcases List.mem_append.mp hb with hb|hb
   ·exact hn b hb
   ·exact s1.free (hn2 b hb)
 ·rw[hF2 b,hF b,List.mem_append,or_assoc]
 · simp only[ah]
   exact⟨v,vs,as,bs,rfl,rfl,tr.mv mv2 fun b hb u f hu=>⟨(hF2 b).mpr (.inl f),s2 _ _ hu⟩,trs⟩
theorem D4{e:Expr}{es:List Expr}{f:Xt}{fs:List Xt}(h1:JX X e f)(h2:jM X es (cW fs))(hs:starEach (e::es) X.env=(false,eval e X.env)::starEach es X.env:=by rfl):jM X (e::es) (cW (f::fs)):=
 mf (L2.gr h1 h2 hs) fun σ H Q h=>zE (fun _ _ _ h=>h) (fun _ _ _ h=>h) h
theorem pz:∀ {fs:List Xt} {ts:List T},cW fs ρ=.ok ts→ts.length=fs.length
 |[],ts,h=>by cases h;rfl
 | f::fs,ts,h=>by
   obtain⟨t,et,h⟩:=aq.mp h
   obtain⟨us,eu,h⟩:=aq.mp h
   cases h
   simp[pz eu]
theorem su{ts:List T}{vs:List V}{p:Addr}(s1:af H H')(hn:∀b∈as,H b=none)(nd:as.Nodup)(hF:∀b,F' b↔F b∨b∈as)(tr:ah M H' F' ts vs as)(hp:H' p=none):
   af H (upd H' p (.lst vs))∧(∀b∈p::as,H b=none)∧(p::as).Nodup∧ag M (upd H' p (.lst vs)) (fun b=>F b∨b∈p::as) (.l ts) (.ref p) (p::as):=by
 have hpa:p∉as:=fun hb=>by obtain⟨_,u,hu⟩:=tr.fs p hb;rw[hp]at hu;cases hu
 refine⟨s1.trans (af.cj hp _),fun b hb=>?_,List.nodup_cons.mpr ⟨hpa,nd⟩,?_⟩
 · rcases List.mem_cons.mp hb with rfl|hb
   ·exact s1.free hp
   ·exact hn b hb
 · simp only[ag]
   refine⟨p,vs,as,rfl,rfl,.inr List.mem_cons_self,L2.bt,tr.mv (fun b o n e=>?_) fun b hb u f hu=>?_⟩
   · have hb:b≠p:=fun z=>by subst z;rw[hp]at e;cases e
     refine⟨fun f=>?_,by rw[L2.aC hb];exact e⟩
     rcases f with f|f
     ·exact n ((hF b).mpr (.inl f))
     · rcases List.mem_cons.mp f with f|f
       ·exact hb f
       ·exact n ((hF b).mpr (.inr f))
   · have hb':b≠p:=fun z=>by subst z;exact hpa hb
     exact⟨.inr (List.mem_cons_of_mem _ hb),by rw[L2.aC hb'];exact hu⟩
theorem Bs{es:List Expr}{fs:List Xt}(h:jM X es (cW fs))(hl:fs.length≤1000:=by decide):JX X (.List es pos) (xL fs):=
 bq (L2.og h) fun σ H Q ⟨ρ,F,t,hr,e,q⟩=>by
   obtain⟨ts,ets,e⟩:=aq.mp e
   cases e
   refine⟨ρ,F,ts,hr,ets,fun vs H1 F1 as s1 hn nd hF tr=>⟨?_,fun p hp=>?_⟩⟩
   ·rw[←tr.len,pz ets];exact Nat.le_trans hl (by decide)
   · obtain⟨a,b,c,d⟩:=su s1 hn nd hF tr hp
     exact q _ _ _ _ a b c (fun _=>Iff.rfl) d
theorem ye:JX X (.Dict [] [] pos) gI:=
 bq L2.vH fun σ H Q ⟨ρ,F,t,hr,e,q⟩=>by
   cases e
   intro p hp
   refine q (.ref p) _ (fun b=>F b∨b∈[p]) [p] (af.cj hp _) (fun b hb=>by rw[List.mem_singleton.mp hb];exact hp) (by simp) (fun _=>Iff.rfl) ?_
   simp only[ag,ah]
   exact⟨p,[],[],rfl,rfl,.inr List.mem_cons_self,L2.bt,rfl,rfl,rfl⟩
theorem gQ{i j:Nat}{x:Sp}(h:bh (ρ.set i (.on x)) j):i≠j∧bh ρ j:=by
 rcases h with⟨ds,q⟩|⟨ks,ds,q⟩
 · rcases get_set q with⟨_,z,_⟩|⟨hne,q⟩
   ·cases z
   ·exact⟨hne,.inl ⟨ds,q⟩⟩
 · rcases get_set q with⟨_,z,_⟩|⟨hne,q⟩
   ·cases z
   ·exact⟨hne,.inr ⟨ks,ds,q⟩⟩
theorem AZ(h:kA ρ=true)(j:Nat)(x:Sp):ρ[j]? ≠some (.on x):=fun e=>by
 have:=List.all_eq_true.mp h _ (List.mem_of_getElem? e)
 cases this
theorem aP.xW{i:Nat}{t:T}{v:V}(r:aP M G F0 H F σ ρ)(no:kA ρ=true)(s1:af H H')(hn:∀b∈as,H b=none)(nd:as.Nodup)(hF:∀b,F' b↔F b∨b∈as)(tr:ag M H' F' t v as):
   Mv F H F' H'∧aP M G F0 H' F' (σ.set i (some v)) (ρ.set i (.on (.tr t))):=by
 obtain⟨mv,rs⟩:=r.rs.wide s1 hn hF (fun b hb=>(tr.fs b hb).2)
 have only:∀(j:Nat) x,(ρ.set i (.on (.tr t)))[j]? =some (.on x)→i=j∧x=.tr t∧i<ρ.length:=fun j x h=>by
   rcases get_set h with⟨h1,h2,h3⟩|⟨_,h⟩
   ·injection h2 with h2;exact⟨h1,h2.symm,h3⟩
   ·exact absurd h (AZ no j x)
 have self:i<ρ.length→(σ.set i (some v))[i]? =some (some v):=fun h=>List.getElem?_set_self (by rw[←r.rs.len];exact h)
 have onat:∀(j:Nat) b,cV M H' F' (σ.set i (some v)) (ρ.set i (.on (.tr t))) j b→b∈as:=fun j b ⟨t1,v1,as1,e1,ev1,tr1,hb⟩=>by
   obtain⟨rfl,z,hl⟩:=only j _ e1
   cases z
   rw[self hl]at ev1
   cases ev1
   have:=ag.g7 tr tr1
   subst this
   exact hb
 refine⟨mv,⟨⟨by simp[rs.len],rs.aT,fun j d q=>?_,fun j d q=>?_,fun j k d q=>?_,fun j k b oj ok ej ek=>?_,fun j x h=>?_⟩,r.sm.trans s1,fun b f=>(hF b).mpr (.inl (r.sub b f)),r.dD,fun j a oj e=>?_,fun j x b e hb=>r.sm.free (hn b (onat j b hb))⟩⟩
 · rcases get_set q with⟨_,z,_⟩|⟨hne,q⟩
   ·cases z
   · obtain⟨w,e1,g⟩:=rs.sh j d q
     exact⟨w,by rw[List.getElem?_set_ne hne];exact e1,g⟩
 · rcases get_set q with⟨_,z,_⟩|⟨hne,q⟩
   ·cases z
   · obtain⟨a,xs,e1,g⟩:=rs.ol j d q
     exact⟨a,xs,by rw[List.getElem?_set_ne hne];exact e1,g⟩
 · rcases get_set q with⟨_,z,_⟩|⟨hne,q⟩
   ·cases z
   · obtain⟨a,xs,e1,g⟩:=rs.od j k d q
     exact⟨a,xs,by rw[List.getElem?_set_ne hne];exact e1,g⟩
 · obtain⟨nj,oj⟩:=gQ oj
   obtain⟨nk,ok⟩:=gQ ok
   rw[List.getElem?_set_ne nj]at ej
   rw[List.getElem?_set_ne nk]at ek
   exact rs.bX j k b oj ok ej ek
 · obtain⟨rfl,rfl,hl⟩:=only j x h
   refine⟨⟨v,as,self hl,tr,nd⟩,fun b hb k ok ek=>?_,fun t1 _ k t2 hk=>((only k _ hk).1).symm⟩
   obtain⟨nk,ok⟩:=gQ ok
   rw[List.getElem?_set_ne nk]at ek
   obtain⟨a,_,u,_,e1,_,e2,_⟩:=r.rs.ownAt ok
   rw[ek]at e1;cases e1
   rw[hn _ (onat _ _ hb)]at e2;cases e2
 · obtain⟨nj,oj⟩:=gQ oj
   rw[List.getElem?_set_ne nj]at e
   exact r.own j a oj e
theorem zJ(i:Nat){x:Str}{e:Expr}{f:Xt}{p2:Pos}(hN:X.N.Nodup)(he:JX X e f)(hi:X.N[i]? =some x:=by rfl)(hx:L2.Loc X.env.scope x:=by exact Or.inl rfl)(hf:X.fn x=true∨X.env.scope.names.lookup x=some .local:=by first|exact .inl rfl|exact .inr rfl)
   (hs:swapsWith e (some (.Name x p2)) pos.line X.env=pure false:=by rfl):JS X (.Assign [.Name x p2] e pos) (ia i f):=fun F0=>
 dZ (L2.lH hN hi hx he hs hf) fun D σ H ⟨ρ,F,fl,r,e,q⟩=>by
   obtain⟨t,et,e⟩:=aq.mp e
   by_cases no:kA ρ=true
   · rw[if_pos no]at e
     cases e
     refine⟨ρ,F,t,r.rs,et,fun v H1 F1 as s1 hn nd hF tr=>?_⟩
     obtain⟨mv,r'⟩:=r.xW (i:=i) no s1 hn nd hF tr
     exact q _ _ _ mv r'
   ·rw[if_neg no]at e;cases e
end
noncomputable abbrev Pt:=En→R (List Nat)
noncomputable def pN:Pt:=fun _=>.ok []
noncomputable def pI(i:Nat)(f:Pt)(e:Ex):Pt:=fun ρ=>(f ρ).bind fun p=>(e ρ).bind fun x=>match ρ[i]?,x with
 | some (.on (.tr t)),.int k=>match T.at t p with
   | some (.l ts)=>match cX ts.length k with
     |some m=>.ok (p++[m])
     |none=>.bad
   |_=>.bad
 |_,_=>.bad
noncomputable def iq(j i:Nat)(f:Pt):Sm:=fun ρ=>(f ρ).bind fun p=>match ρ[i]? with
 | some (.on (.tr t))=>match T.at t p with
   |some t1=>if t1.own=true∧i≠j then .ok (.next (ρ.set j (.on (.al i p))))else .bad
   |none=>.bad
 |_=>.bad
noncomputable def EE:List T→Option (List D)
 |[]=>some []
 |.d x::r=>(EE r).map (x:: ·)
 |_::_=>none
section
variable{X:Cx}{M:Md}{G H H':Hp}{F0 F F':Addr→Prop}{σ:L2.St}{ρ:En}{pos:Pos}{pins:List (Addr×Obj)}{s:Shared}{as:List Addr}
theorem av.kg:∀ {p:List Nat} {t:T} {v:V} {t1:T} {w:V},av H t v p t1 w→T.at t p=some t1
 | [],t,v,t1,w,h=>by
   have e':t=t1∧v=w:=by cases t<;>exact h
   rw[e'.1];cases t1<;>rfl
 | k::p,.l ts,v,t1,w,h=>by
   simp only[av]at h
   obtain⟨a,xs,t2,x2,_,_,e1,_,h⟩:=h
   unfold T.at
   rw[e1]
   exact h.kg
 | k::p,.m ks ts,v,t1,w,h=>by
   simp only[av]at h
   obtain⟨a,xs,t2,x2,_,_,_,e1,_,h⟩:=h
   unfold T.at
   rw[e1]
   exact h.kg
 | k::p,.tu ts,v,t1,w,h=>by
   simp only[av]at h
   obtain⟨a,xs,t2,x2,_,_,e1,_,h⟩:=h
   unfold T.at
   rw[e1]
   exact h.kg
 |k::p,.d _,v,t1,w,h=>h.elim
theorem av.snoc{n0:T}{x:V}{m:Nat}{t1:T}{x1:V}(h1:av H n0 x [m] t1 x1):∀ {p:List Nat} {t:T} {v:V},av H t v p n0 x→av H t v (p++[m]) t1 x1
 | [],t,v,h=>by
   have e':t=n0∧v=x:=by cases t<;>exact h
   obtain⟨rfl,rfl⟩:=e'
   exact h1
 | k::p,.l us,v,h=>by
   show av H (.l us) v (k::(p++[m])) t1 x1
   simp only[av]at h ⊢
   obtain⟨b,ys,t2,x2,h1',h2,h3,h4,h⟩:=h
   exact⟨b,ys,t2,x2,h1',h2,h3,h4,av.snoc h1 h⟩
 | k::p,.m ks us,v,h=>by
   show av H (.m ks us) v (k::(p++[m])) t1 x1
   simp only[av]at h ⊢
   obtain⟨b,ys,t2,x2,h1',h2,h0,h3,h4,h⟩:=h
   exact⟨b,ys,t2,x2,h1',h2,h0,h3,h4,av.snoc h1 h⟩
 | k::p,.tu us,v,h=>by
   show av H (.tu us) v (k::(p++[m])) t1 x1
   simp only[av]at h ⊢
   obtain⟨b,ys,t2,x2,h1',h2,h3,h4,h⟩:=h
   exact⟨b,ys,t2,x2,h1',h2,h3,h4,av.snoc h1 h⟩
 |k::p,.d _,v,h=>h.elim
theorem av.here(t:T)(v:V):av H t v [] t v:=by cases t<;>exact⟨rfl,rfl⟩
theorem av.DQ{a:Addr}{xs:List V}{ts:List T}{m:Nat}{t1:T}{x1:V}(ha:H a=some (.lst xs))(h1:ts[m]? =some t1)(hx:xs[m]? =some x1):av H (.l ts) (.ref a) [m] t1 x1:=by
 unfold av;exact⟨a,xs,t1,x1,rfl,ha,h1,hx,av.here _ _⟩
theorem av.xP{a:Addr}{xs:List V}{ts:List T}{m:Nat}{t1:T}{x1:V}(ha:H a=some (.tup xs))(h1:ts[m]? =some t1)(hx:xs[m]? =some x1):av H (.tu ts) (.ref a) [m] t1 x1:=by
 unfold av;exact⟨a,xs,t1,x1,rfl,ha,h1,hx,av.here _ _⟩
theorem av.BN{a:Addr}{xs:List V}{ks:List Ky}{ts:List T}{m:Nat}{t1:T}{x1:V}(ha:H a=some (.dK (ks.zip xs)))(hl:ks.length=xs.length)(h1:ts[m]? =some t1)(hx:xs[m]? =some x1):av H (.m ks ts) (.ref a) [m] t1 x1:=by
 unfold av;exact⟨a,xs,t1,x1,rfl,ha,hl,h1,hx,av.here _ _⟩
theorem T.m7{n0:T}{m:Nat}:∀ {p:List Nat} {t:T},T.at t p=some n0→T.at t (p++[m])=T.at n0 [m]
 | [],t,h=>by
   have:t=n0:=by cases t<;>(injection h)
   subst this;rfl
 | k::p,.l us,h=>by
   have h:(match us[k]? with|some t=>T.at t p|none=>none)=some n0:=h
   show(match us[k]? with|some t=>T.at t (p++[m])|none=>none)=T.at n0 [m]
   cases e:us[k]? with
   |none=>rw[e]at h;cases h
   |some u=>rw[e]at h;exact T.m7 h
 | k::p,.m ks us,h=>by
   have h:(match us[k]? with|some t=>T.at t p|none=>none)=some n0:=h
   show(match us[k]? with|some t=>T.at t (p++[m])|none=>none)=T.at n0 [m]
   cases e:us[k]? with
   |none=>rw[e]at h;cases h
   |some u=>rw[e]at h;exact T.m7 h
 | k::p,.tu us,h=>by
   have h:(match us[k]? with|some t=>T.at t p|none=>none)=some n0:=h
   show(match us[k]? with|some t=>T.at t (p++[m])|none=>none)=T.at n0 [m]
   cases e:us[k]? with
   |none=>rw[e]at h;cases h
   |some u=>rw[e]at h;exact T.m7 h
 |k::p,.d _,h=>by cases h
theorem T.AF{ts:List T}{m:Nat}:T.at (.l ts) [m]=ts[m]? :=by
 unfold T.at
 cases e:ts[m]? with
 |none=>rfl
 |some u=>cases u<;>rfl
noncomputable def wD(M:Md)(i:Nat)(f:Pt):TE:=fun σ H Q=>∃ρ F t w p t1,aQ M H F σ ρ∧ρ[i]? =some (.on (.tr t))∧σ[i]? =some (some w)∧f ρ=.ok p∧T.at t p=some t1∧∀v H',af H H'→av H' t w p t1 v→Q v H'
noncomputable abbrev JL(X:Cx)(i:Nat)(e:Expr)(f:Pt):Prop:=PE X e (wD (aw X) i f)
theorem zR(i:Nat){x:Str}(hN:X.N[i]? =some x:=by rfl)(hv:L2.cR X.env.scope x:=by first|exact Or.inl rfl|exact Or.inr (Or.inl rfl)|exact Or.inr (Or.inr rfl))(hd:(x==("__debug__":Str))=false:=by decide)
   (hcd:(x==("__classdict__":Str))=false:=by decide):JL X i (.Name x pos) pN:=
 bq (L2.pv i hN hv hd hcd) fun σ H Q ⟨ρ,F,t,w,p,t1,r,e1,e2,ef,eat,q⟩=>by
   cases ef
   have:t1=t:=by cases t<;>(injection eat with eat;exact eat.symm)
   subst this
   exact⟨w,e2,q w H (af.refl _) (by cases t1<;>exact⟨rfl,rfl⟩)⟩
theorem av.same{t:T}{v w:V}{p:List Nat}{t1:T}{i:Nat}(r:aQ M H F σ ρ)(e1:ρ[i]? =some (.on (.tr t)))(e2:σ[i]? =some (some v))(s1:af H H')(h:av H t v p t1 w):av H' t v p t1 w:=by
 obtain⟨⟨v',as,ev,tr,_⟩,_,_⟩:=r.on i _ e1
 rw[e2]at ev;cases ev
 exact h.mv (fun _ _ _ e=>s1 _ _ e) tr fun b hb u f hu=>s1 _ _ hu
theorem aP.wj{i j:Nat}{t:T}{w v:V}{p:List Nat}{t1:T}(r:aP M G F0 H F σ ρ)(e1:ρ[i]? =some (.on (.tr t)))(e2:σ[i]? =some (some w))(hat:av H t w p t1 v)(ho:t1.own=true)(hij:i≠j):
   aP M G F0 H F (σ.set j (some v)) (ρ.set j (.on (.al i p))):=by
 have back:∀(k:Nat) b,cV M H F (σ.set j (some v)) (ρ.set j (.on (.al i p))) k b→j≠k∧cV M H F σ ρ k b:=fun k b ⟨t1,v1,as1,h1,hv1,tr1,hb⟩=>by
   rcases get_set h1 with⟨_,z,_⟩|⟨hne,h1⟩
   ·cases z
   · rw[List.getElem?_set_ne hne]at hv1
     exact⟨hne,t1,v1,as1,h1,hv1,tr1,hb⟩
 refine⟨⟨by simp[r.rs.len],r.rs.aT,fun k d q=>?_,fun k d q=>?_,fun k ks d q=>?_,fun k l b ok ol ek el=>?_,fun k x h=>?_⟩,r.sm,r.sub,r.dD,fun k a ok e=>?_,fun k x b e hb=>?_⟩
 · rcases get_set q with⟨_,z,_⟩|⟨hne,q⟩
   ·cases z
   · obtain⟨w,e1,g⟩:=r.rs.sh k d q
     exact⟨w,by rw[List.getElem?_set_ne hne];exact e1,g⟩
 · rcases get_set q with⟨_,z,_⟩|⟨hne,q⟩
   ·cases z
   · obtain⟨a,xs,e1,g⟩:=r.rs.ol k d q
     exact⟨a,xs,by rw[List.getElem?_set_ne hne];exact e1,g⟩
 · rcases get_set q with⟨_,z,_⟩|⟨hne,q⟩
   ·cases z
   · obtain⟨a,xs,e1,g⟩:=r.rs.od k ks d q
     exact⟨a,xs,by rw[List.getElem?_set_ne hne];exact e1,g⟩
 · obtain⟨nk,ok⟩:=gQ ok
   obtain⟨nl,ol⟩:=gQ ol
   rw[List.getElem?_set_ne nk]at ek
   rw[List.getElem?_set_ne nl]at el
   exact r.rs.bX k l b ok ol ek el
 · rcases get_set h with⟨rfl,z,hl⟩|⟨hne,h⟩
   · injection z with z
     subst z
     refine⟨fun t' h'=>?_,fun b hb=>absurd rfl (back _ b hb).1,fun t' ht=>nomatch ht⟩
     rw[List.getElem?_set_ne (Ne.symm hij),e1]at h'
     cases h'
     exact⟨w,v,t1,by rw[List.getElem?_set_ne (Ne.symm hij)];exact e2,List.getElem?_set_self (by rw[←r.rs.len];exact hl),hat,ho⟩
   · obtain⟨h1,h2,h3⟩:=r.rs.on k x h
     refine⟨?_,fun b hb l ol el=>?_,fun t' ht l t2 hl=>?_⟩
     · cases x with
       | tr t0=>
         obtain⟨v0,as0,ev0,cD,nd0⟩:=h1
         exact⟨v0,as0,by rw[List.getElem?_set_ne hne];exact ev0,cD,nd0⟩
       | al i0 p0=>
         intro t0 h0
         rcases get_set h0 with⟨_,z,_⟩|⟨hne0,h0⟩
         ·cases z
         · obtain⟨v0,w0,t2,a1,a2,a3,a4⟩:=h1 t0 h0
           exact⟨v0,w0,t2,by rw[List.getElem?_set_ne hne0];exact a1,by rw[List.getElem?_set_ne hne];exact a2,a3,a4⟩
     · obtain⟨nl,ol⟩:=gQ ol
       rw[List.getElem?_set_ne nl]at el
       exact h2 b (back k b hb).2 l ol el
     · rcases get_set hl with⟨_,z,_⟩|⟨_,hl⟩
       ·cases z
       ·exact h3 t' ht l t2 hl
 · obtain⟨nk,ok⟩:=gQ ok
   rw[List.getElem?_set_ne nk]at e
   exact r.own k a ok e
 · obtain⟨hne,hb⟩:=back k b hb
   rw[List.getElem?_set_ne hne]at e
   exact r.eB k x b e hb
theorem Ax (j i:Nat) {x:Str} {e:Expr} {f:Pt} {p2:Pos} (hN:X.N.Nodup) (he:JL X i e f) (hi:X.N[j]? =some x:=by rfl) (hx:L2.Loc X.env.scope x:=by exact Or.inl rfl) (hf:X.fn x=true∨X.env.scope.names.lookup x=some .local:=by first|exact .inl rfl|exact .inr rfl)
   (hs:swapsWith e (some (.Name x p2)) pos.line X.env=pure false:=by rfl):JS X (.Assign [.Name x p2] e pos) (iq j i f):=fun F0=>
 dZ (L2.lH hN hi hx he hs hf) fun D σ H ⟨ρ,F,fl,r,e,q⟩=>by
   obtain⟨p,ep,e⟩:=aq.mp e
   cases h1:ρ[i]? with
   |none=>rw[h1]at e;cases e
   | some s=>
     rw[h1]at e
     cases s with
     | on x=>
       cases x with
       | tr t=>
         have e:(match T.at t p with|some t1=>if t1.own=true∧i≠j then R.ok (Fl.next (ρ.set j (.on (.al i p))))else .bad|none=>.bad)=.ok fl:=e
         cases hat:T.at t p with
         |none=>rw[hat]at e;cases e
         | some t1=>
           rw[hat]at e
           have e:(if t1.own=true∧i≠j then R.ok (Fl.next (ρ.set j (.on (.al i p))))else .bad)=.ok fl:=e
           by_cases hc:t1.own=true∧i≠j
           · rw[if_pos hc]at e
             cases e
             obtain⟨⟨w,as,ew,tr,nd⟩,_,_⟩:=r.rs.on i _ h1
             exact⟨ρ,F,t,w,p,t1,r.rs,h1,ew,ep,hat,fun v H1 s1 at1=>q _ _ F (.same s1) ((r.same s1).wj h1 ew at1 hc.1 hc.2)⟩
           ·rw[if_neg hc]at e;cases e
       |al _ _=>cases e
     |_=>cases e
end
noncomputable def iw(i:Nat):Sm:=fun ρ=>match ρ[i]? with
 |some (.on (.tr t))=>.ok (.next (ρ.set i (.sh (T.toD t))))
 |_=>.bad
section
variable{X:Cx}{M:Md}{G H H':Hp}{F0 F F':Addr→Prop}{σ:L2.St}{ρ:En}{pos:Pos}{pins:List (Addr×Obj)}{s:Shared}{as:List Addr}
noncomputable def gq(H H':Hp)(b:Addr):Prop:=(H' b=H b∧∃xs,H b=some (.lst xs))∨∃ob kvs,H b=some (.dK kvs)∧H' b=some (.frz ob (.dK kvs))
mutual
theorem ag.frz:∀ {t:T} {H:Hp} {v:V} {as:List Addr},Inv X pins σ H s→ag M H F t v as→as.Nodup→∃H',Inv X pins σ H' s∧(∀b,b∉as→H' b=H b)∧∀b∈as,gq H H' b
 | .d x,H,v,as,I,h,_=>by
   simp only[ag]at h
   exact⟨H,I,fun _ _=>rfl,fun b hb=>by rw[h.1]at hb;cases hb⟩
 | .l ts,H,v,as,I,h,nd=>by
   simp only[ag]at h
   obtain⟨a,xs,bs,rfl,rfl,f,e2,r⟩:=h
   have nd2:=List.nodup_cons.mp nd
   obtain⟨H1,I1,h1,k1⟩:=ah.frz I r nd2.2
   refine⟨H1,I1,fun b hb=>h1 b fun hb2=>hb (List.mem_cons_of_mem _ hb2),fun b hb=>?_⟩
   rcases List.mem_cons.mp hb with rfl|hb
   ·exact .inl ⟨h1 b nd2.1,_,e2⟩
   ·exact k1 b hb
 | .m ks ts,H,v,as,I,h,nd=>by
   simp only[ag]at h
   obtain⟨a,xs,bs,rfl,rfl,f,e2,l,r⟩:=h
   have nd2:=List.nodup_cons.mp nd
   obtain⟨H1,I1,h1,k1⟩:=ah.frz I r nd2.2
   have ha:H1 a=some (.dK (ks.zip xs)):=by rw[h1 a nd2.1];exact e2
   obtain⟨ob,I2⟩:=qz I1 ha
   refine⟨_,I2,fun b hb=>?_,fun b hb=>?_⟩
   · have hb':b≠a:=fun z=>by subst z;exact hb List.mem_cons_self
     rw[L2.aC hb'];exact h1 b fun hb2=>hb (List.mem_cons_of_mem _ hb2)
   · rcases List.mem_cons.mp hb with h9|h9
     ·subst h9;exact .inr ⟨ob,_,e2,L2.bt⟩
     · have hb':b≠a:=fun z=>nd2.1 (z▸h9)
       unfold gq
       rw[L2.aC hb']
       exact k1 b h9
 | .tu ts,H,v,as,I,h,nd=>by
   simp only[ag]at h
   obtain⟨a,xs,rfl,f,e2,r⟩:=h
   exact ah.frz I r nd
theorem ah.frz:∀ {ts:List T} {H:Hp} {xs:List V} {as:List Addr},Inv X pins σ H s→ah M H F ts xs as→as.Nodup→∃H',Inv X pins σ H' s∧(∀b,b∉as→H' b=H b)∧∀b∈as,gq H H' b
 | [],H,xs,as,I,h,_=>by
   simp only[ah]at h
   exact⟨H,I,fun _ _=>rfl,fun b hb=>by rw[h.2]at hb;cases hb⟩
 | t::ts,H,xs,as,I,h,nd=>by
   simp only[ah]at h
   obtain⟨x,r,bs,cs,rfl,rfl,h1,h2⟩:=h
   have nd2:=List.nodup_append.mp nd
   obtain⟨H1,I1,o1,k1⟩:=ag.frz I h1 nd2.1
   have fs1:=h1.fs
   have mv1:Mv F H F H1:=fun b o n e=>⟨n,by rw[o1 b fun hb=>n (fs1 b hb).1];exact e⟩
   have h2':ah M H1 F ts r cs:=ah.mv mv1 (fun b hb u f hu=>⟨f,by rw[o1 b fun hb2=>nd2.2.2 b hb2 b hb rfl];exact hu⟩) h2
   obtain⟨H2,I2,o2,k2⟩:=ah.frz I1 h2' nd2.2.1
   refine⟨H2,I2,fun b hb=>?_,fun b hb=>?_⟩
   ·rw[o2 b fun hb2=>hb (List.mem_append_right _ hb2),o1 b fun hb2=>hb (List.mem_append_left _ hb2)]
   · rcases List.mem_append.mp hb with hb|hb
     · have:=k1 b hb
       unfold gq at this ⊢
       rw[o2 b fun hb2=>nd2.2.2 b hb b hb2 rfl];exact this
     · have:=k2 b hb
       unfold gq at this ⊢
       rw[o1 b fun hb2=>nd2.2.2 b hb2 b hb rfl]at this;exact this
end
mutual
theorem ag.seen(m:Mv F H F' H'):∀ {t:T} {v:V} {as:List Addr},ag M H F t v as→(∀b∈as,gq H H' b∧¬F' b)→Rep M H' F' (T.toD t) v
 | .d x,v,as,h,_=>by
   simp only[ag]at h
   exact h.2.mv m
 | .l ts,v,as,h,k=>by
   simp only[ag]at h
   obtain⟨a,xs,bs,rfl,rfl,f,e2,r⟩:=h
   obtain⟨ka,na⟩:=k a List.mem_cons_self
   simp only[T.toD,Rep]
   refine⟨a,xs,rfl,.inl ⟨na,.inl ?_⟩,ah.seen m r fun b hb=>k b (List.mem_cons_of_mem _ hb)⟩
   rcases ka with⟨z,_⟩|⟨ob,kvs,z,_⟩
   ·rw[z];exact e2
   ·rw[e2]at z;cases z
 | .m ks ts,v,as,h,k=>by
   simp only[ag]at h
   obtain⟨a,xs,bs,rfl,rfl,f,e2,l,r⟩:=h
   obtain⟨ka,na⟩:=k a List.mem_cons_self
   simp only[T.toD,Rep]
   rcases ka with⟨_,ys,z⟩|⟨ob,kvs,z,z2⟩
   ·rw[e2]at z;cases z
   · rw[e2]at z;cases z
     exact⟨a,xs,rfl,.inl ⟨na,ob,z2⟩,l,ah.seen m r fun b hb=>k b (List.mem_cons_of_mem _ hb)⟩
 | .tu ts,v,as,h,k=>by
   simp only[ag]at h
   obtain⟨a,xs,rfl,f,e2,r⟩:=h
   simp only[T.toD,Rep]
   exact⟨a,xs,rfl,.inl ⟨(m _ _ f e2).1,.inl (m _ _ f e2).2⟩,ah.seen m r k⟩
theorem ah.seen(m:Mv F H F' H'):∀ {ts:List T} {xs:List V} {as:List Addr},ah M H F ts xs as→(∀b∈as,gq H H' b∧¬F' b)→ae M H' F' (T.d7 ts) xs
 | [],xs,as,h,_=>by
   simp only[ah]at h
   rw[h.1];exact ae.nil
 | t::ts,xs,as,h,k=>by
   simp only[ah]at h
   obtain⟨x,r,bs,cs,rfl,rfl,h1,h2⟩:=h
   exact ae.cons (ag.seen m h1 fun b hb=>k b (List.mem_append_left _ hb)) (ah.seen m h2 fun b hb=>k b (List.mem_append_right _ hb))
end
theorem aQ.ym{i:Nat}{t:T}{w:V}{d:D}(r:aQ M H F σ ρ)(e1:ρ[i]? =some (.on (.tr t)))(e2:σ[i]? =some (some w))(tr:ag M H F t w as)(hH:∀b,b∉as→H' b=H b)(hF:∀b,F' b↔F b∧b∉as)(hd:Rep M H' F' d w):
   Mv F H F' H'∧aQ M H' F' σ (ρ.set i (.sh d)):=by
 have fs:=tr.fs
 have mv:Mv F H F' H':=fun b o n e=>⟨fun h=>n ((hF b).mp h).1,by rw[hH b fun hb=>n (fs b hb).1];exact e⟩
 have ro:=r.on i _ e1
 have at0:∀b∈as,cV M H F σ ρ i b:=fun b hb=>⟨t,w,as,e1,e2,tr,hb⟩
 have keep:∀(j:Nat) b u,bh ρ j→σ[j]? =some (some (.ref b))→F b→H b=some u→F' b∧H' b=some u:=fun j b u oj ej fb hu=>by
   have hb:b∉as:=fun hb=>ro.2.1 b (at0 b hb) j oj ej
   exact⟨(hF b).mpr ⟨fb,hb⟩,by rw[hH b hb];exact hu⟩
 refine⟨mv,⟨by simp[r.len],fun b h=>?_,fun j e q=>?_,fun j ds q=>?_,fun j ks ds q=>?_,fun j k b oj ok ej ek=>r.bX j k b oj.dN.2 ok.dN.2 ej ek,?_⟩⟩
 · obtain⟨f,hb⟩:=(hF b).mp h
   obtain⟨o,e⟩:=r.aT b f
   exact⟨o,by rw[hH b hb];exact e⟩
 · rcases get_set q with⟨rfl,hx,hl⟩|⟨hne,q⟩
   · cases hx
     exact⟨_,e2,hd⟩
   · obtain⟨w,e1,g⟩:=r.sh j e q
     exact⟨w,e1,g.mv mv⟩
 · rcases get_set q with⟨rfl,x,hl⟩|⟨hne,q⟩
   ·cases x
   · obtain⟨b,ys,e1,f,e3,g⟩:=r.ol j ds q
     obtain⟨f',e'⟩:=keep j b _ (.inl ⟨_,q⟩) e1 f e3
     exact⟨b,ys,e1,f',e',g.mv mv⟩
 · rcases get_set q with⟨rfl,x,hl⟩|⟨hne,q⟩
   ·cases x
   · obtain⟨b,ys,e1,f,e3,l,g⟩:=r.od j ks ds q
     obtain⟨f',e'⟩:=keep j b _ (.inr ⟨_,_,q⟩) e1 f e3
     exact⟨b,ys,e1,f',e',l,g.mv mv⟩
 · have old:∀(j:Nat) x,(ρ.set i (.sh d))[j]? =some (.on x)→i≠j∧ρ[j]? =some (.on x):=fun j x e=>by
     rcases get_set e with⟨_,z,_⟩|⟨hne,e⟩
     ·cases z
     ·exact⟨hne,e⟩
   refine r.on.mv mv (fun j x e=>⟨(old j x e).2,rfl⟩) (fun j x b u e hb f hu=>?_) fun j x b e hb k ok=>(r.on j x (old j x e).2).2.1 b hb k ok.dN.2
   obtain⟨t2,v2,as2,h2,_⟩:=hb
   exact absurd (ro.2.2 t rfl j t2 h2).symm (old j x e).1
theorem CI(i:Nat){rest:List Stmt}{fs:List Sm}(h:dj X rest (ak fs)):dj X rest (ak (iw i::fs)):=fun F0 pins s σ H D I ⟨ρ,F,fl,r,e,q⟩=>by
 obtain⟨f1,e1,e⟩:=aq.mp e
 unfold iw at e1
 split at e1
 · rename_i t q1
   cases e1
   obtain⟨⟨w,as,ew,tr,nd⟩,_,_⟩:=r.rs.on i _ q1
   obtain⟨H1,I1,o1,k1⟩:=ag.frz I tr nd
   have fs1:=tr.fs
   have mv0:Mv F H (fun b=>F b∧b∉as) H1:=fun b o n e=>⟨fun h=>n h.1,by rw[o1 b fun hb=>n (fs1 b hb).1];exact e⟩
   obtain⟨mv,rs⟩:=r.rs.ym q1 ew tr o1 (F':=fun b=>F b∧b∉as) (fun _=>Iff.rfl) (ag.seen mv0 tr fun b hb=>⟨k1 b hb,fun h=>h.2 hb⟩)
   have hG:∀b∈as,X.fj b=none:=fun b hb=>r.eB i _ b q1 ⟨t,w,as,q1,ew,tr,hb⟩
   refine h F0 pins s σ H1 D I1 ⟨_,_,fl,⟨rs,fun b u hb=>?_,fun b f=>⟨r.sub b f,fun hb=>?_⟩,r.dD,fun j b oj ej=>r.own j b oj.dN.2 ej,fun j x b ex hb=>?_⟩,e,q.mv mv⟩
   ·rw[o1 b fun hb2=>by rw[hG b hb2]at hb;cases hb];exact r.sm b u hb
   · obtain⟨o,eo⟩:=r.dD b f
     rw[hG b hb]at eo;cases eo
   · obtain⟨t2,v2,as2,h2,_⟩:=hb
     rcases get_set h2 with⟨_,z,_⟩|⟨hne,h2⟩
     ·cases z
     ·exact absurd ((r.rs.on i _ q1).2.2 t rfl j t2 h2).symm hne
 ·cases e1
end
noncomputable def aX(ns:List Int):List Int:=ns.mergeSort fun a b=>decide (a≤b)
theorem Ef(ns:List Int):(aX ns).Pairwise (· ≤ ·):=by
 have:=List.pairwise_mergeSort (le:=fun a b:Int=>decide (a≤b)) (fun a b c h1 h2=>by simp at*;omega) (fun a b=>by simp;omega) ns
 exact this.imp (by simp)
theorem ic(ns:List Int):(aX ns).Perm ns:=List.mergeSort_perm ns _
theorem ya{ns l:List Int}(h1:l.Perm ns)(h2:l.Pairwise (· ≤ ·)):l=aX ns:=
 List.Perm.eq_of_pairwise (fun a b _ _ h1 h2=>Int.le_antisymm h1 h2) h2 (Ef ns) (h1.trans (ic ns).symm)
noncomputable def fY:List Ky→Option (List Int)
 |[]=>some []
 |.inl i::r=>(fY r).map (i:: ·)
 |.inr _::_=>none
theorem uX:∀ {ks:List Ky} {ns:List Int},fY ks=some ns→ks=ns.map .inl
 |[],_,h=>by cases h;rfl
 | .inl i::r,ns,h=>by
   unfold fY at h
   cases e:fY r with
   |none=>rw[e]at h;cases h
   |some us=>rw[e]at h;cases h;rw[uX e];rfl
 |.inr _::r,ns,h=>by cases h
theorem yc:∀ns:List Int,fY (ns.map .inl)=some ns
 |[]=>rfl
 |n::ns=>by show(fY (ns.map .inl)).map (n:: ·)=_;rw[yc ns];rfl
noncomputable def fR:D→R D
 | .ao ks _=>match fY ks with
   |some ns=>if ns.length<64 then .ok (.lst ((aX ns).map .int))else .bad
   |none=>.bad
 |_=>.bad
noncomputable def dg:D→R D
 |.ao ks _=>.ok (.int ks.length)
 |x=>jT x
section
variable{X:Cx}{M:Md}{G H H':Hp}{F0 F F':Addr→Prop}{σ:L2.St}{ρ:En}{pos:Pos}{pins:List (Addr×Obj)}{s:Shared}
theorem sU:∀ {vs:List Value} {ns:List Int},PyProof.Rows.IntsAre vs ns→Vals (ns.map V.int) vs
 |_,_,.nil=>.nil
 |_,_,.cons n t h=>.cons ⟨t,rfl⟩ (sU h)
theorem uJ:∀ {ns:List Int} {vs:List Value},Vals (ns.map V.int) vs→PyProof.Rows.IntsAre vs ns
 |[],_,h=>by cases h;exact .nil
 | s::ss,_,h=>by
   cases h with
   | cons r t=>
     obtain⟨tk,rfl⟩:=r
     exact .cons s tk (uJ t)
theorem yH{h:Heap}{a:Addr}{vs:List Value}{out:Array Value}{b:Addr}{o:Obj}(hb:b≠a)(e:h.get? b=some o):(PyProof.Rows.sortedHeap h a vs out).get? b=some o:=by
 unfold PyProof.Rows.sortedHeap
 rw[Heap.get?_update_other _ _ (Ne.symm hb)]
 refine Heap.get?_push_of_some _ (Heap.get?_push_of_some _ ?_)
 rw[Heap.get?_update_other _ _ (Ne.symm hb)]
 exact e
theorem qj(hc:X.calm=true):bu X (.builtin "sorted") (fun xs H Q=>∃F p kvs ns,xs=[.ref p]∧cJ (aw X) H F p kvs∧kvs.map (·.1)=ns.map .inl∧ns.length<64∧∀l,H l=none→Q (.ref l) (upd H l (.lst ((aX ns).map V.int)))):=by
 intro pins s σ H xs us Q I r h
 obtain⟨F,p,kvs,ns,rfl,hd,hk,h64,q⟩:=h
 obtain⟨u,rfl,ru⟩:=L2.vals1 r
 cases ru
 obtain⟨z,hsys,vs,rel,dd⟩:=fI I hd
 obtain⟨ep,hat⟩:=dd.dictAt
 have hl:=iJ rel
 refine PyProof.Rows.call_builtin_at PyProof.Rows.plain_sorted PyProof.Rows.entry_sorted (PyProof.Rows.args_sorted1 _) (PyProof.Rows.wpAt_of_any ?_)
 unfold Builtin.sorted
 refine wpAny_bind (wpAny_pure ?_)
 refine wpAny_bind (PySem.W.kdu_collect (PySem.W.kdl_dict (knd:=L2.bL X.prog X.w) (kvs:=vs) (ep:=ep) hsys) (I.ok.hd hc) hat (by omega) fun h1 tk acc keep hacc=>?_)
 have hv:Vals (ns.map V.int) acc.toList:=by
   refine C0 (P:=fun _ _=>True) (by rw[List.length_map];have:=congrArg List.length hk;simp only[List.length_map]at this;have:=hacc.1;simp;omega) fun j v hj=>?_
   obtain⟨k,x,e1,e2⟩:=hacc.2 j v (by simpa using hj)
   obtain⟨y,e3,e4⟩:=sQ rel e1
   have e5:(kvs.map (·.1))[j]? =some k:=by rw[List.getElem?_map,e3];show some y.1=_;rw[e4]
   rw[hk,List.getElem?_map]at e5
   cases e6:ns[j]? with
   |none=>rw[e6]at e5;cases e5
   | some n=>
     rw[e6]at e5
     cases e5
     exact⟨.int n,by rw[List.getElem?_map,e6];rfl,vA (k:=(.inl n:Key)) (by exact e2)⟩
 have hints:=uJ hv
 have hlen:acc.toList.length<64:=by have:=hv.length;rw[List.length_map]at this;omega
 have I1:Inv X pins σ H {s with heap:=h1,toks:=tk}:=I.kept keep
 refine wpAny_bind (wpAny_newList ?_ (by have:(sizeLine:Nat)=16777216:=sizeLine_eq;omega))
 refine wpAny_bind (wpAny_holding ?_)
 have hget:(h1.push {cls:=Value.type "list",data:=Data.seq acc.toList.toArray}).get? h1.objs.size=some (PyProof.Rows.seqObj "list" acc.toList.toArray 0):=Heap.get?_push_size _ rfl
 refine PyProof.Rows.wpAny_call_entry_kw PyProof.Rows.slot_list_sort ⟨_,hget,rfl⟩ PyProof.Rows.entry_list_sort (PyProof.Rows.list_sort_tree hget hints hlen fun out ns' a1 a2 a3=>?_) (PyProof.Rows.args_list_sort _)
 rw[ya a2 a3]at a1
 refine⟨_,rfl,wpAny_pure ⟨_,rfl,?_⟩⟩
 have hz:((aX ns).map V.int).length≤sizeLine:=by
   have:(sizeLine:Nat)=16777216:=sizeLine_eq
   rw[List.length_map,(ic ns).length_eq];omega
 have hend:∃e,(PyProof.Rows.sortedHeap (h1.push {cls:=Value.type "list",data:=Data.seq acc.toList.toArray}) h1.objs.size acc.toList out).get? h1.objs.size=some {cls:=Value.type "list",data:=Data.seq out e}:=PyProof.Rows.sortedHeap_at hget
 obtain⟨e,he⟩:=hend
 have I3:=I1.laid (a:=h1.objs.size) (o:=.lst ((aX ns).map V.int)) (h':=PyProof.Rows.sortedHeap (h1.push {cls:=Value.type "list",data:=Data.seq acc.toList.toArray}) h1.objs.size acc.toList out) (t':=tk) (fun b u hb=>yH (fun z=>by subst z;rw[Heap.get?_none_of_le (Nat.le_refl _)]at hb;cases hb) (Heap.get?_push_of_some _ hb)) (Nat.le_refl _) ⟨hz,out.toList,e,sU a1,by simpa using he⟩
 exact⟨.ref _,_,I3,rfl,q _ I1.fresh⟩
theorem rP:∀ns:List Int,ae M H F (ns.map .int) (ns.map V.int)
 |[]=>ae.nil
 |n::ns=>ae.cons dM (rP ns)
theorem oA:fw M (g1 fR) (fun xs H Q=>∃F p kvs ns,xs=[.ref p]∧cJ M H F p kvs∧kvs.map (·.1)=ns.map .inl∧ns.length<64∧∀l,H l=none→Q (.ref l) (upd H l (.lst ((aX ns).map V.int)))):=by
 intro F H xs as d Q tr rs e q
 unfold g1 at e
 split at e
 · rename_i a
   obtain⟨x,rfl,r⟩:=rs.one
   unfold fR at e
   split at e
   · rename_i ks vs
     split at e
     · rename_i ns hns
       split at e
       · rename_i h64
         cases e
         have hks:=uX hns
         simp only[Rep]at r
         obtain⟨p,ys,rfl,h,hl,rs⟩:=r
         refine⟨F,p,_,ns,rfl,h,by rw[List.map_fst_zip (by omega)];exact hks,h64,fun l hn=>q _ _ (af.cj hn _) (ki tr hn (rP _))⟩
       ·cases e
     ·cases e
   ·cases e
 ·cases e
noncomputable def uT(M:Md):List V→Hp→VK→Prop:=fun xs H Q=>oZ M xs H Q∨∃F p kvs,xs=[.ref p]∧cJ M H F p kvs∧Q (.int kvs.length) H
theorem kS:bu X (.builtin "len") (uT (aw X)):=by
 intro pins s σ H xs us Q I r h
 rcases h with h|⟨F,p,kvs,rfl,hd,q⟩
 ·exact oK pins s σ H xs us Q I r h
 · obtain⟨u,rfl,ru⟩:=L2.vals1 r
   cases ru
   obtain⟨z,hsys,vs,rel,dd⟩:=fI I hd
   have hl:=iJ rel
   refine call_len_dict hsys dd (by rw[←hl];rw[sizeLine_eq]at z;omega) ?_
   rw[←hl]
   exact⟨.int _,H,I.tok _,⟨_,rfl⟩,q⟩
theorem lG:fw M (g1 dg) (uT M):=by
 intro F H xs as d Q tr rs e q
 have e0:=e
 unfold g1 at e
 split at e
 · rename_i a
   by_cases hd:∃ks vs,a=.ao ks vs
   · obtain⟨ks,vs,rfl⟩:=hd
     cases e
     obtain⟨x,rfl,r⟩:=rs.one
     simp only[Rep]at r
     obtain⟨p,ys,rfl,h1,hl,rs⟩:=r
     refine .inr ⟨F,p,_,rfl,h1,?_⟩
     rw[List.length_zip,show min ks.length ys.length=ks.length by omega]
     exact q _ _ (af.refl _) dM
   · refine .inl (nV F H xs _ d Q tr rs ?_ q)
     show jT a=.ok d
     cases a with
     |ao ks vs=>exact absurd ⟨ks,vs,rfl⟩ hd
     |_=>exact e
 ·cases e
end
end PL
namespace PL
open PySem PySem.Spec
theorem vG{o b:Expr}{p:Pos}{a:Str}{env:Env}{w:Sem Value}:attributeBase (.Subscript o b p) a env w=w:=rfl
end PL
namespace PL
open PySem PySem.Spec
open L2 (V Hp HO Cx PE PT PW PA PS bT PG cY VK TE TT TA TS TI TG Inv RelV Vals Rd aY bb upd af Key XK Ends aR fi bu R2 EP It Turn cu Un)
noncomputable def eJ(f:Xt):Sm:=fun ρ=>(f ρ).bind fun t=>.ok (.di t)
noncomputable def mK(i:Nat):Sm:=fun ρ=>match ρ[i]? with
 |some (.on (.tr t))=>.ok (.di t)
 |_=>.bad
noncomputable def iF(n:Nat)(body:Sm):List D→R T:=fun ds=>(body (ds.map .sh++List.replicate (n - ds.length) .un)).bind fun f=>match f with
 |.di t=>.ok t
 |_=>.bad
noncomputable def spT(M:Md)(m:List D→R T)(n:Nat):L2.Sp:=fun vs H Q _=>∃F ds t,(∀p,F p→∃o,H p=some o)∧ae M H F ds vs∧ds.length=n∧m ds=.ok t∧∀v H' F' as,af H H'→(∀b∈as,H b=none)→as.Nodup→(∀b,F' b↔F b∨b∈as)→ag M H' F' t v as→Q v H'
noncomputable def bR(m:List D→R T)(fs:List Ex):Xt:=fun ρ=>(eList fs ρ).bind m
noncomputable def eX(f:Xt):Ex:=fun ρ=>(f ρ).bind fun t=>.ok (T.toD t)
section
variable{X:Cx}{M:Md}{G H H':Hp}{F0 F F':Addr→Prop}{σ:L2.St}{ρ:En}{pos:Pos}{pins:List (Addr×Obj)}{s:Shared}{as:List Addr}
theorem EB{a:Expr}{f:Xt}(ha:JX X a f):JS X (.Return (some a) pos) (eJ f):=fun F0=>
 dZ (L2.o5 ha) fun D σ H ⟨ρ,F,fl,r,e,q⟩=>by
   obtain⟨t,et,e⟩:=aq.mp e
   cases e
   exact⟨ρ,F,t,r.rs,et,fun v H1 F1 as s1 hn nd hF tr=>q v H1 F F1 as (.same s1) (r.sm.trans s1) r.sub (fun b hb=>r.sm.free (hn b hb)) nd hF tr⟩
theorem Cg(i:Nat){x:Str}{p2:Pos}(hN:X.N[i]? =some x:=by rfl)(hv:L2.cR X.env.scope x:=by first|exact Or.inl rfl|exact Or.inr (Or.inl rfl)|exact Or.inr (Or.inr rfl))(hd:(x==("__debug__":Str))=false:=by decide)
   (hcd:(x==("__classdict__":Str))=false:=by decide):JS X (.Return (some (.Name x p2)) pos) (mK i):=fun F0=>
 dZ (L2.o5 (L2.pv i hN hv hd hcd)) fun D σ H ⟨ρ,F,fl,r,e,q⟩=>by
   unfold mK at e
   split at e
   · rename_i t q1
     cases e
     obtain⟨⟨w,as,ew,tr,nd⟩,_,_⟩:=r.rs.on i _ q1
     have hG:∀b∈as,X.fj b=none:=fun b hb=>r.eB i _ b q1 ⟨t,w,as,q1,ew,tr,hb⟩
     have fs:=tr.fs
     refine⟨w,ew,q w H (fun b=>F b∧b∉as) F as (fun b o n e=>⟨fun h=>n h.1,e⟩) r.sm (fun b f=>⟨r.sub b f,fun hb=>?_⟩) hG nd (fun b=>?_) tr⟩
     · obtain⟨o,e⟩:=r.dD b f
       rw[hG b hb]at e;cases e
     · by_cases hb:b∈as
       ·exact⟨fun _=>.inr hb,fun _=>(fs b hb).1⟩
       ·exact⟨fun f=>.inl ⟨f,hb⟩,fun h=>h.elim And.left fun h=>absurd h hb⟩
   ·cases e
theorem Ee{N:List Str}{n:Nat}{body:Sm}{vs:List V}{Q:VK}{E:XK}{t:TS}(ht:∀F0 D σ H,eP M G F0 body D σ H→t D σ H)(h:spT M (iF N.length body) n vs G Q E)(hn:n≤N.length):t {nx:=fun _ H'=>Q .aA H',rt:=Q} (L2.start N vs) G:=by
 obtain⟨F,ds,t',tr,rs,hl,e,q⟩:=h
 obtain⟨f,ef,e⟩:=aq.mp e
 refine ht F _ _ _ ⟨_,F,f,ug tr rs hl hn,ef,?_⟩
 cases f with
 | di t1=>
   cases e
   exact fun v H' F1 F2 as mv sm sub hG nd hF tr=>q v H' (fun b=>F b∨b∈as) as sm hG nd (fun _=>Iff.rfl) (ag.less (fun b f=>(hF b).mpr (f.imp (sub b) id)) (fun b hb=>.inr hb) tr)
 |_=>cases e
structure dh(P:Program)(w:World)(K:PySem.W.Frag)(mg:Str→Option Value)(base:Heap)(x:Str)(k n:Nat)(m:List D→R T):Prop where
 ex:∃f fd ps,L2.cO P w K mg base L2.eE k f fd ps (spT ⟨K,P,w⟩ m n)∧L2.Binds K fd ps []∧PySem.W.keepIn K (.ref f)=true∧mg x=some (.ref f)
theorem pQ{P:Program}{w:World}{K:PySem.W.Frag}{mg:Str→Option Value}{base:Heap}{x qual:Str}{st:Stmt}{f:Addr}{fd:FuncData}{N ps:List Str}{k n:Nat}{body:Sm}(Fu:L2.bB K x qual st f fd)(hm:mg x=some (.ref f))(S:L2.bS N ps (L2.aI st))(hb:L2.Binds K fd ps [])
   (h:∀(cdv:Value) (A:Around) (outer:List Env) (s:Shared) (H:Hp) (E:XK),L2.bE k (A.deeper (PyProof.Rows.envOfC qual (L2.aI st) s.heap.objs.size f cdv))→dj (L2.gb L2.eE P w K mg base N qual (L2.aI st) f cdv A outer s H E).fE (L2.bI st) body)
   (hn:ps.length=n:=by rfl):dh P w K mg base x (k+1) n (iF N.length body):=by
 refine⟨f,fd,ps,Fu.ok S (fun vs H Q E h=>?_) (fun cdv A outer s H vs Q E hr hsp=>?_),hb,Fu.kp,hm⟩
 · obtain⟨F,ds,d,_,rs,hl,_⟩:=h
   rw[←rs.length,hl,hn]
 · refine⟨fun D σ H'=>∃F0,eP ⟨K,P,w⟩ H F0 body D σ H',fun pins s' σ H' D I ⟨F0,q⟩=>h cdv A outer s H E hr F0 pins s' σ H' D I q,?_⟩
   refine Ee (G:=H) (t:=fun D σ H'=>∃F0,eP ⟨K,P,w⟩ H F0 body D σ H') (fun F0 D σ H' h=>⟨F0,h⟩) hsp ?_
   have:=congrArg List.length S.pre
   rw[List.length_take]at this
   omega
theorem DJ{m:List D→R T}{n:Nat}{fs:List Ex}{Q:VK}{E:XK}(hn:fs.length=n)(h:oF M (bR m fs) σ H Q):L2.mr (spT M m n) [] E (my M (eList fs)) σ H Q:=by
 obtain⟨ρ,F,t,hr,e,q⟩:=h
 obtain⟨ds,eds,e⟩:=aq.mp e
 refine⟨ρ,F,ds,hr,eds,fun vs H1 s1 rs=>?_⟩
 show spT M m n (vs++[]) H1 Q E
 rw[List.append_nil]
 exact⟨F,ds,t,(hr.same s1).aT,rs,by rw[ib eds];exact hn,e,fun v H2 F2 as s2 hn nd hF tr=>q v H2 F2 as (s1.trans s2) (fun b hb=>s1.free (hn b hb)) nd hF tr⟩
theorem Dk{x:Str}{k j n:Nat}{m:List D→R T}{e:Expr}{es:List Expr}{fs:List Ex}{p:Pos}(d:dh X.prog X.w X.K X.mg X.base x k n m)(hr:L2.bE j X.A)(hg:L2.Gl X x)(ha:JA X (e::es) (eList fs))(hk:k≤j:=by decide)(hn:fs.length=n:=by rfl)
   (hdb:(x==("__debug__":Str))=false:=by decide) (he:starEach (e::es) X.env=(false,eval e X.env)::starEach es X.env:=by rfl) (hpl:(backTo pos (starEach es X.env)).any (·.1)=false:=by rfl):JX X (.Call (.Name x p) (e::es) [] pos) (bR m fs):=by
 obtain⟨f,fd,ps,h1,h2,h3,h4⟩:=d.ex
 exact bq (L2.vz h1 (hr.mono hk) hg h4 h3 h2 .nil L2.nL ha hdb he hpl) fun σ H Q h=>DJ hn h
theorem AJ{e:Expr}{f:Xt}(h:JX X e f):JE X e (eX f):=by
 intro pins s σ H Q I ⟨ρ,F,d,hr,e,q⟩
 obtain⟨t,et,e⟩:=aq.mp e
 cases e
 refine L2.aE (h pins s σ H (fun v H'=>∃F' as,af H H'∧(∀b∈as,H b=none)∧as.Nodup∧(∀b,F' b↔F b∨b∈as)∧ag (aw X) H' F' t v as) I ⟨ρ,F,t,hr,et,fun v H' F' as a b c d e=>⟨F',as,a,b,c,d,e⟩⟩) fun u s1 ⟨v,H1,I1,rv,F1,as,sm,hn,nd,hF,tr⟩=>?_
 obtain⟨H2,I2,o2,k2⟩:=ag.frz I1 tr nd
 have fs:=tr.fs
 have nF:∀b∈as,¬F b:=fun b hb f=>by obtain⟨o,e⟩:=hr.aT b f;rw[hn b hb]at e;cases e
 refine⟨v,H2,I2,rv,q v H2 (fun b o e=>?_) (ag.seen (fun b o n e=>⟨fun f=>n ((hF b).mpr (.inl f)),?_⟩) tr fun b hb=>⟨k2 b hb,nF b hb⟩)⟩
 ·rw[o2 b fun hb=>by rw[hn b hb]at e;cases e];exact sm _ _ e
 ·rw[o2 b fun hb=>n ((hF b).mpr (.inr hb))];exact e
noncomputable def xT(fs:List Xt):Xt:=fun ρ=>(cW fs ρ).bind fun ts=>.ok (.tu ts)
theorem zj{es:List Expr}{fs:List Xt}{k1}(h:jM X es (cW fs))(hl:fs.length≤1000:=by decide):JX X (.Tuple es k1 pos) (xT fs):=
 bq (L2.pJ h) fun σ H Q ⟨ρ,F,t,hr,e,q⟩=>by
   obtain⟨ts,ets,e⟩:=aq.mp e
   cases e
   refine⟨ρ,F,ts,hr,ets,fun vs H1 F1 as s1 hn nd hF tr=>⟨?_,fun p hp=>?_⟩⟩
   ·rw[←tr.len,pz ets];exact Nat.le_trans hl (by decide)
   · have hpF:¬F1 p:=fun f=>by
       rcases(hF p).mp f with f|f
       · obtain⟨o,eo⟩:=hr.aT p f
         rw[s1 _ _ eo]at hp;cases hp
       · obtain⟨_,u,hu⟩:=tr.fs p f
         rw[hp]at hu;cases hu
     refine q _ _ F1 as (s1.trans (af.cj hp _)) hn nd hF ?_
     simp only[ag]
     have ne:∀b u,H1 b=some u→b≠p:=fun b u e z=>by subst z;rw[hp]at e;cases e
     exact⟨p,vs,rfl,hpF,L2.bt,tr.mv (fun b o n e=>⟨n,by rw[L2.aC (ne b o e)];exact e⟩) fun b hb u f hu=>⟨f,by rw[L2.aC (ne b u hu)];exact hu⟩⟩
noncomputable def gE(it:br)(n:Nat)(fv:List Nat)(tg:bo)(cs:List aG)(el:Xt):Xt:=fun ρ=>(lW it n fv tg cs el ρ).bind fun ts=>.ok (.l ts)
theorem yJ(tn fv:List Str)(fvi:List Nat){elt iter target:Expr}{ifs:List Expr}{scope:Scope}{it:br}{tg:bo}{cs:List aG}{el:Xt}(hxe:∀e s,¬X.xe e s)(hc:X.calm=true)(ok:ip X scope tn fv fvi)(hi:JI X target iter it)(low:gU tn.length tg)
   (ht:∀cl C s H fp,JG (cH X scope cl C (tn++fv) s H fp) target tg) (hcs:∀cl C s H fp,ja (cH X scope cl C (tn++fv) s H fp) ifs cs) (hel:∀cl C s H fp,JX (cH X scope cl C (tn++fv) s H fp) elt el)
   (hs:∀x,foldedSetIterable iter X.env x=pure x):JX X (.ListComp elt [⟨target,iter,ifs,0⟩] scope pos) (gE it tn.length fvi tg cs el):=by
 intro pins s σ H Q I ⟨ρ,F,t,hr,e,q⟩
 obtain⟨all,ea,e⟩:=aq.mp e
 cases e
 show wpAny _ _ (comprehension (.ListComp elt [⟨target,iter,ifs,0⟩] scope pos) scope X.env _ (newList []) false (eval iter X.env) none) _ _ s
 refine ud tn fv fvi hxe hc ok hi low ht hcs hel hs I hr ea fun D C s4 H' vs Hq bs F2 f hm I5 fC q1 q2 q3 q5 q6 q7 q4=>?_
 obtain⟨m,hm⟩:=hm
 refine⟨m,hm,fun h' hsb=>⟨.ref D,H',I5.turned (t':=s4.toks) (fun b o n e=>by rw[hsb.2 b n];exact e) fC.1 fC.2.1 fC.2.2.2.1 fC.2.2.2.2.1 fC.2.2.2.2.2,rfl,?_⟩⟩
 rw[←q4]
 obtain⟨a1,a2,a3,a4⟩:=su q1 q3 q5 q6 q7 q2
 exact q _ _ _ _ a1 a2 a3 (fun _=>Iff.rfl) a4
end
noncomputable def lU(i:Nat)(t:T):Slot→Slot
 | .on (.al k p)=>if k=i then(match T.at t p with
   |some t1=>.sh (T.toD t1)
   |none=>.un)else .un
 |s=>s
noncomputable def cS(i:Nat)(t:T)(ρ:En):En:=(ρ.map (lU i t)).set i (.sh (T.toD t))
noncomputable def en(i:Nat)(f:Ex):Ex:=fun ρ=>match ρ[i]? with
 |some (.on (.tr t))=>(f (cS i t ρ)).bind fun d=>if cM d=true then .ok d else .bad
 |_=>.bad
noncomputable def fq(i:Nat)(f:aG):aG:=fun ρ=>match ρ[i]? with
 |some (.on (.tr t))=>f (cS i t ρ)
 |_=>.bad
section
variable{X:Cx}{M:Md}{G H H':Hp}{F0 F F':Addr→Prop}{σ:L2.St}{ρ:En}{pos:Pos}{pins:List (Addr×Obj)}{s:Shared}{as:List Addr}
theorem uS(I0:Inv X pins σ H s):∀ {as:List Addr} {H1:Hp} {s1:Shared},Inv X pins σ H1 s1→(∀b∈as,H1 b=H b∨∃ob kvs,H b=some (.dK kvs)∧H1 b=some (.frz ob (.dK kvs)))→as.Nodup→∃H2,Inv X pins σ H2 s1∧(∀b∈as,H2 b=H b)∧∀b,b∉as→H2 b=H1 b
 |[],H1,s1,I1,_,_=>⟨H1,I1,(fun _ hb=>nomatch hb),fun _ _=>rfl⟩
 | a::as,H1,s1,I1,k,nd=>by
   have nd2:=List.nodup_cons.mp nd
   obtain⟨H2,I2,k2,o2⟩:=uS I0 I1 (fun b hb=>k b (List.mem_cons_of_mem _ hb)) nd2.2
   have ea:H2 a=H1 a:=o2 a nd2.1
   rcases k a List.mem_cons_self with h|⟨ob,kvs,h1,h2⟩
   · refine⟨H2,I2,fun b hb=>?_,fun b hb=>o2 b fun hb2=>hb (List.mem_cons_of_mem _ hb2)⟩
     rcases List.mem_cons.mp hb with rfl|hb
     ·rw[ea];exact h
     ·exact k2 b hb
   · refine⟨_,Bc I0 h1 I2 (by rw[ea];exact h2),fun b hb=>?_,fun b hb=>?_⟩
     · by_cases hba:b=a
       ·subst hba;rw[L2.bt,h1]
       · rw[L2.aC hba]
         exact k2 b ((List.mem_cons.mp hb).resolve_left hba)
     · have hba:b≠a:=fun z=>by subst z;exact hb List.mem_cons_self
       rw[L2.aC hba];exact o2 b fun hb2=>hb (List.mem_cons_of_mem _ hb2)
theorem aQ.cS{i:Nat}{t:T}{w:V}(r:aQ M H F σ ρ)(e1:ρ[i]? =some (.on (.tr t)))(e2:σ[i]? =some (some w))(tr:ag M H F t w as)(hH:∀b,b∉as→H' b=H b)(hz:∀b∈as,gq H H' b):
   Mv F H (fun b=>F b∧b∉as) H'∧aQ M H' (fun b=>F b∧b∉as) σ (PL.cS i t ρ):=by
 have fs:=tr.fs
 have mv:Mv F H (fun b=>F b∧b∉as) H':=fun b o n e=>⟨fun h=>n h.1,by rw[hH b fun hb=>n (fs b hb).1];exact e⟩
 have ro:=r.on i _ e1
 have at0:∀b∈as,cV M H F σ ρ i b:=fun b hb=>⟨t,w,as,e1,e2,tr,hb⟩
 have keep:∀(j:Nat) b u,bh ρ j→σ[j]? =some (some (.ref b))→F b→H b=some u→(F b∧b∉as)∧H' b=some u:=fun j b u oj ej fb hu=>by
   have hb:b∉as:=fun hb=>ro.2.1 b (at0 b hb) j oj ej
   exact⟨⟨fb,hb⟩,by rw[hH b hb];exact hu⟩
 have root:Rep M H' (fun b=>F b∧b∉as) (T.toD t) w:=ag.seen mv tr fun b hb=>⟨hz b hb,fun h=>h.2 hb⟩
 have get:∀(j:Nat) s,(PL.cS i t ρ)[j]? =some s→(j=i∧s=.sh (T.toD t))∨(j≠i∧∃z,ρ[j]? =some z∧lU i t z=s):=fun j s h=>by
   unfold PL.cS at h
   rcases get_set h with⟨h1,h2,_⟩|⟨hne,h⟩
   ·exact .inl ⟨h1.symm,h2.symm⟩
   · rw[List.getElem?_map]at h
     cases e:ρ[j]? with
     |none=>rw[e]at h;cases h
     |some z=>rw[e]at h;exact .inr ⟨Ne.symm hne,z,rfl,by simpa using h⟩
 have same:∀ {z s:Slot},lU i t z=s→(s=z∧∀k p,z≠.on (.al k p))∨s=.un∨∃p t1,z=.on (.al i p)∧T.at t p=some t1∧s=.sh (T.toD t1):=fun {z s} h=>by
   unfold lU at h
   split at h
   · rename_i k p
     by_cases hk:k=i
     · subst hk
       rw[if_pos rfl]at h
       split at h
       · rename_i t1 h1
         exact .inr (.inr ⟨p,t1,rfl,h1,h.symm⟩)
       ·exact .inr (.inl h.symm)
     ·rw[if_neg hk]at h;exact .inr (.inl h.symm)
   · rename_i hne
     exact .inl ⟨h.symm,fun k p z=>hne k p z⟩
 have owned:∀j,bh (PL.cS i t ρ) j→bh ρ j:=fun j h=>by
   rcases h with⟨ds,h⟩|⟨ks,ds,h⟩
   · rcases get j _ h with⟨_,z⟩|⟨_,z,hz1,hz2⟩
     ·cases z
     · rcases same hz2 with⟨z1,_⟩|z1|⟨_,_,_,_,z1⟩
       ·subst z1;exact .inl ⟨_,hz1⟩
       ·cases z1
       ·cases z1
   · rcases get j _ h with⟨_,z⟩|⟨_,z,hz1,hz2⟩
     ·cases z
     · rcases same hz2 with⟨z1,_⟩|z1|⟨_,_,_,_,z1⟩
       ·subst z1;exact .inr ⟨_,_,hz1⟩
       ·cases z1
       ·cases z1
 refine⟨mv,⟨by unfold PL.cS;simp[r.len],fun b h=>?_,fun j d h=>?_,fun j ds h=>?_,fun j ks ds h=>?_,fun j k b oj ok ej ek=>r.bX j k b (owned j oj) (owned k ok) ej ek,.no fun j x h=>?_⟩⟩
 · obtain⟨o,e⟩:=r.aT b h.1
   exact⟨o,by rw[hH b h.2];exact e⟩
 · rcases get j _ h with⟨rfl,z⟩|⟨_,z,hz1,hz2⟩
   ·cases z;exact⟨w,e2,root⟩
   · rcases same hz2 with⟨z1,_⟩|z1|⟨p,t1,z1,hat,z2⟩
     · subst z1
       obtain⟨v,ev,rv⟩:=r.sh j d hz1
       exact⟨v,ev,rv.mv mv⟩
     ·cases z1
     · subst z1
       cases z2
       obtain⟨v0,w1,t2,a1,a2,a3,_⟩:=(r.on j _ hz1).1 t e1
       rw[e2]at a1;cases a1
       have:=a3.kg
       rw[hat]at this;cases this
       obtain⟨bs,tp,sub⟩:=av.part tr a3
       exact⟨w1,a2,ag.seen mv tp fun b hb=>⟨hz b (sub.subset hb),fun h=>h.2 (sub.subset hb)⟩⟩
 · rcases get j _ h with⟨_,z⟩|⟨_,z,hz1,hz2⟩
   ·cases z
   · rcases same hz2 with⟨z1,_⟩|z1|⟨_,_,_,_,z1⟩
     · subst z1
       obtain⟨b,ys,e3,f,e4,g⟩:=r.ol j ds hz1
       obtain⟨f',e'⟩:=keep j b _ (.inl ⟨_,hz1⟩) e3 f e4
       exact⟨b,ys,e3,f',e',g.mv mv⟩
     ·cases z1
     ·cases z1
 · rcases get j _ h with⟨_,z⟩|⟨_,z,hz1,hz2⟩
   ·cases z
   · rcases same hz2 with⟨z1,_⟩|z1|⟨_,_,_,_,z1⟩
     · subst z1
       obtain⟨b,ys,e3,f,e4,l,g⟩:=r.od j ks ds hz1
       obtain⟨f',e'⟩:=keep j b _ (.inr ⟨_,_,hz1⟩) e3 f e4
       exact⟨b,ys,e3,f',e',l,g.mv mv⟩
     ·cases z1
     ·cases z1
 · rcases get j _ h with⟨_,z⟩|⟨hj,z,hz1,hz2⟩
   ·cases z
   · rcases same hz2 with⟨z1,hn⟩|z1|⟨_,_,_,_,z1⟩
     · subst z1
       cases x with
       |tr t'=>exact hj (ro.2.2 t rfl j t' hz1)
       |al k p=>exact hn k p rfl
     ·cases z1
     ·cases z1
theorem rg{H1:Hp}{s1:Shared}(I:Inv X pins σ H s)(nd:as.Nodup)(hH:∀b,b∉as→H' b=H b)(hz:∀b∈as,gq H H' b)(I1:Inv X pins σ H1 s1)(sm:af H' H1):
   ∃H2,Inv X pins σ H2 s1∧af H H2∧(∀b,b∉as→H2 b=H1 b)∧(∀b∈as,H2 b=H b)∧(∀b∈as,∃u,H1 b=some u)∧∀a xs,df M H1 (fun b=>F b∧b∉as) a xs→df M H2 F a xs:=by
 have k1:∀b∈as,(H1 b=H b∧∃xs,H b=some (.lst xs))∨∃ob kvs,H b=some (.dK kvs)∧H1 b=some (.frz ob (.dK kvs)):=fun b hb=>by
   rcases hz b hb with⟨h1,xs,h2⟩|⟨ob,kvs,h1,h2⟩
   ·exact .inl ⟨by rw[h2]at h1 ⊢;exact sm _ _ h1,xs,h2⟩
   ·exact .inr ⟨ob,kvs,h1,sm _ _ h2⟩
 obtain⟨H2,I2,a2,o2⟩:=uS I I1 (fun b hb=>(k1 b hb).imp And.left id) nd
 refine⟨H2,I2,fun b o e=>?_,o2,a2,fun b hb=>?_,fun a xs h=>?_⟩
 · by_cases hb:b∈as
   ·rw[a2 b hb];exact e
   ·rw[o2 b hb];exact sm _ _ (by rw[hH b hb];exact e)
 · rcases k1 b hb with⟨h1,xs,h2⟩|⟨ob,kvs,h1,h2⟩
   ·exact⟨_,h1.trans h2⟩
   ·exact⟨_,h2⟩
 · rcases h with⟨n,h⟩|h
   · have ha:a∉as:=fun ha=>by
       rcases k1 a ha with⟨h1,ys,h2⟩|⟨ob,kvs,h1,h2⟩
       · rcases h with h|⟨o,h⟩
         ·rw[h1,h2]at h;cases h
         ·rw[h1,h2]at h;cases h
       · rcases h with h|⟨o,h⟩
         ·rw[h2]at h;cases h
         ·rw[h2]at h;cases h
     refine .inl ⟨fun f=>n ⟨f,ha⟩,?_⟩
     rcases h with h|⟨o,h⟩
     ·exact .inl (by rw[o2 a ha];exact h)
     ·exact .inr ⟨o,by rw[o2 a ha];exact h⟩
   ·exact .inr h
theorem wF(i:Nat){e:Expr}{f:Ex}(h:JE X e f):JE X e (en i f):=by
 intro pins s σ H Q I ⟨ρ,F,d,hr,e,q⟩
 unfold en at e
 split at e
 · rename_i t q1
   obtain⟨d',ed,e⟩:=aq.mp e
   by_cases hf:PL.cM d'=true
   · rw[if_pos hf]at e
     cases e
     obtain⟨⟨w,as,ew,tr,nd⟩,_,_⟩:=hr.on i _ q1
     obtain⟨H',I',hH,hz⟩:=ag.frz I tr nd
     obtain⟨mv,rs⟩:=hr.cS q1 ew tr hH hz
     refine L2.aE (h pins s σ _ _ I' ⟨_,_,_,rs,ed,fun v H1 s1 rv=>(⟨s1,rv⟩:af H' H1∧Rep (aw X) H1 (fun b=>F b∧b∉as) d v)⟩) fun u s1 ⟨x,H1,I1,rx,sm,rv⟩=>?_
     obtain⟨H2,I2,s2,_,_,_,tp⟩:=rg (M:=aw X) (F:=F) I nd hH hz I1 sm
     exact⟨x,H2,I2,rx,q _ _ s2 (Rep.lg tp hf rv)⟩
   ·rw[if_neg hf]at e;cases e
 ·cases e
theorem v3(i:Nat){e:Expr}{f:aG}(h:JT X e f):JT X e (fq i f):=by
 intro pins s σ H Q I ⟨ρ,F,d,hr,e,q⟩
 unfold fq at e
 split at e
 · rename_i t q1
   obtain⟨⟨w,as,ew,tr,nd⟩,_,_⟩:=hr.on i _ q1
   obtain⟨H',I',hH,hz⟩:=ag.frz I tr nd
   obtain⟨mv,rs⟩:=hr.cS q1 ew tr hH hz
   refine L2.aE (h pins s σ _ (fun b H1=>b=d∧af H' H1) I' ⟨_,_,_,rs,e,fun H1 s1=>⟨rfl,s1⟩⟩) fun b s1 ⟨H1,I1,hb,sm⟩=>?_
   subst hb
   obtain⟨H2,I2,s2,_,_,_,tp⟩:=rg (M:=aw X) (F:=F) I nd hH hz I1 sm
   exact⟨H2,I2,q _ s2⟩
 ·cases e
end
noncomputable def iS(z:Ky):List Ky→Option Nat
 |[]=>none
 |a::ks=>if a=z then some 0 else(iS z ks).map (· +1)
noncomputable def stepT:T→D→Option Nat
 |.l ts,.int k=>cX ts.length k
 |.tu ts,.int k=>cX ts.length k
 | .m ks _,x=>match keyOf x with
   |some z=>iS z ks
   |none=>none
 |_,_=>none
noncomputable def pX(i:Nat)(f:Pt)(e:Ex):Pt:=fun ρ=>(f ρ).bind fun p=>(e ρ).bind fun x=>match ρ[i]? with
 | some (.on (.tr t))=>match T.at t p with
   | some n=>match stepT n x with
     |some m=>.ok (p++[m])
     |none=>.bad
   |none=>.bad
 |_=>.bad
noncomputable def pA(i j:Nat):Pt:=fun ρ=>match ρ[j]? with
 |some (.on (.al k p))=>if k=i then .ok p else .bad
 |_=>.bad
noncomputable def gf(z:Ky)(u:T)(ks:List Ky)(ts:List T):List Ky×List T:=if(ks.any fun a=>decide (a=z))=true then(ks,List.zipWith (fun a t=>if a=z then u else t) ks ts)else(ks++[z],ts++[u])
noncomputable def bW(i:Nat)(f:Pt)(k e:Ex):Sm:=fun ρ=>(e ρ).bind fun d=>(f ρ).bind fun p=>(k ρ).bind fun q=>match ρ[i]?,keyOf q with
 | some (.on (.tr t)),some z=>match T.at t p with
   |some (.m ks ts)=>if ks.length<1000 then .ok (.next ((hV i p ρ).set i (.on (.tr (T.put (.m (gf z (.d d) ks ts).1 (gf z (.d d) ks ts).2) t p)))))else .bad
   |_=>.bad
 |_,_=>.bad
section
variable{X:Cx}{M:Md}{G H H':Hp}{F0 F F':Addr→Prop}{σ:L2.St}{ρ:En}{pos:Pos}{pins:List (Addr×Obj)}{s:Shared}{as:List Addr}
noncomputable def yQ:R2:=fun x y H Q=>∃p kvs k v,x=.ref p∧y=L2.kV k∧Rd H p (.dK kvs)∧L2.ck kvs k=some v∧Q v H
theorem se:L2.d8 X (fun x y H Q=>L2.lI X.K x y H Q∨yQ x y H Q):=by
 refine L2.d8.or L2.tU ?_
 intro value slice pins s σ H x y v u Q I rx ry h hs
 obtain⟨p,kvs,k,w,rfl,rfl,hd,hv,q⟩:=h
 cases rx
 obtain⟨z,hsys,vs,rel,dd⟩:=L2.ph I.aD hd
 have r:=L2.KV.val rel k
 rw[hv]at r
 obtain⟨w',hw,rw'⟩:=L2.dF.some_of r
 exact PyProof.Rows.tail_any dd.typeIs PySem.F.slot_dict_getitem.lookup (wpAny_getItem_of (L2.gj ry) dd.mapOf hw ⟨w,H,I.tok _,rw',q⟩) hs
theorem rY{z:Ky}:∀ {ks:List Ky} {xs:List V} {m:Nat},ks.length=xs.length→iS z ks=some m→∃x,xs[m]? =some x∧L2.ck (ks.zip xs) z=some x
 |[],_,_,_,h=>by cases h
 |a::ks,[],_,l,_=>by simp at l
 | a::ks,x::xs,m,l,h=>by
   unfold iS at h
   unfold L2.ck
   rw[List.zip_cons_cons,List.find?_cons]
   by_cases hz:a=z
   · rw[if_pos hz]at h
     cases h
     exact⟨x,rfl,by simp[hz]⟩
   · rw[if_neg hz]at h
     cases e:iS z ks with
     |none=>rw[e]at h;cases h
     | some j=>
       rw[e]at h
       cases h
       obtain⟨y,h1,h2⟩:=rY (xs:=xs) (by simpa using l) e
       refine⟨y,by simpa using h1,?_⟩
       simp only[decide_eq_false hz]
       exact h2
theorem BL(i j:Nat){x:Str}(hN:X.N[j]? =some x:=by rfl)(hv:L2.cR X.env.scope x:=by first|exact Or.inl rfl|exact Or.inr (Or.inl rfl)|exact Or.inr (Or.inr rfl))(hd:(x==("__debug__":Str))=false:=by decide)
   (hcd:(x==("__classdict__":Str))=false:=by decide):JL X i (.Name x pos) (pA i j):=
 bq (L2.pv j hN hv hd hcd) fun σ H Q ⟨ρ,F,t,w,p,t1,r,e1,e2,ef,eat,q⟩=>by
   unfold pA at ef
   split at ef
   · rename_i k p' h1
     by_cases hk:k=i
     · rw[if_pos hk]at ef
       cases ef
       subst hk
       obtain⟨v,w1,t2,a1,a2,a3,_⟩:=(r.on j _ h1).1 t e1
       rw[e2]at a1;cases a1
       have:=a3.kg
       rw[eat]at this;cases this
       exact⟨w1,a2,q w1 H (af.refl _) a3⟩
     ·rw[if_neg hk]at ef;cases ef
   ·cases ef
theorem yT{i:Nat}{a b:Expr}{f:Pt}{fb:Ex}(ha:JL X i a f)(hb:JE X b fb)(hs:L2.gW b:=by exact fun _ _=>rfl):JL X i (.Subscript a b pos) (pX i f fb):=
 bq (L2.pZ se ha hb hs) fun σ H Q ⟨ρ,F,t,w,p',t1,r,e1,e2,ef,eat,q⟩=>by
   obtain⟨p,ep,ef⟩:=aq.mp ef
   obtain⟨x,ex,ef⟩:=aq.mp ef
   rw[e1]at ef
   have ef:(match T.at t p with|some n=>(match stepT n x with|some m=>R.ok (p++[m])|none=>.bad)|none=>.bad)=.ok p':=ef
   cases hat:T.at t p with
   |none=>rw[hat]at ef;cases ef
   | some n=>
     rw[hat]at ef
     have ef:(match stepT n x with|some m=>R.ok (p++[m])|none=>.bad)=.ok p':=ef
     cases hm:stepT n x with
     |none=>rw[hm]at ef;cases ef
     | some m=>
       rw[hm]at ef
       cases ef
       refine⟨ρ,F,t,w,p,n,r,e1,e2,ep,hat,fun v H1 s1 at1=>⟨ρ,F,x,r.same s1,ex,fun y H2 s2 ry=>?_⟩⟩
       have r2:=(r.same s1).same s2
       obtain⟨⟨w',as,ew,tr,nd⟩,_,_⟩:=r2.on i _ e1
       rw[e2]at ew;cases ew
       have at2:=at1.same (r.same s1) e1 e2 s2
       obtain⟨bs,tp,_⟩:=av.part tr at2
       have h1:=eat
       rw[T.m7 hat]at h1
       cases n with
       |d _=>cases x<;>cases hm
       | l ts=>
         cases x with
         | int k=>
           simp only[ag]at tp
           obtain⟨a,xs,cs,rfl,rfl,fa,ha,trs⟩:=tp
           rw[T.AF]at h1
           have hlen:=trs.len
           have hx:∃x1,xs[m]? =some x1:=by
             obtain⟨hl,_⟩:=List.getElem?_eq_some_iff.mp h1
             exact⟨xs[m]'(by omega),List.getElem?_eq_getElem (by omega)⟩
           obtain⟨x1,hx⟩:=hx
           have hm:cX ts.length k=some m:=hm
           have h3:cm xs k=some x1:=by unfold cm;rw[←hlen,hm];exact hx
           exact .inl (.inl ⟨a,xs,k,x1,rfl,bO ry,aY.of ha,h3,q x1 H2 (s1.trans s2) (av.snoc (av.DQ ha h1 hx) at2)⟩)
         |_=>cases hm
       | tu ts=>
         cases x with
         | int k=>
           simp only[ag]at tp
           obtain⟨a,xs,rfl,fa,ha,trs⟩:=tp
           have h1:ts[m]? =some t1:=by
             unfold T.at at h1
             cases e:ts[m]? with
             |none=>rw[e]at h1;cases h1
             |some u=>rw[e]at h1;cases u<;>exact h1
           have hlen:=trs.len
           have hx:∃x1,xs[m]? =some x1:=by
             obtain⟨hl,_⟩:=List.getElem?_eq_some_iff.mp h1
             exact⟨xs[m]'(by omega),List.getElem?_eq_getElem (by omega)⟩
           obtain⟨x1,hx⟩:=hx
           have hm:cX ts.length k=some m:=hm
           have h3:cm xs k=some x1:=by unfold cm;rw[←hlen,hm];exact hx
           exact .inl (.inr (.inl ⟨a,xs,k,x1,rfl,bO ry,.inl (.inl ha),h3,q x1 H2 (s1.trans s2) (av.snoc (av.xP ha h1 hx) at2)⟩))
         |_=>cases hm
       | m ks ts=>
         have hm:(match keyOf x with|some z=>iS z ks|none=>none)=some m:=by cases x<;>exact hm
         cases hz:keyOf x with
         |none=>rw[hz]at hm;cases hm
         | some z=>
           rw[hz]at hm
           have hm:iS z ks=some m:=hm
           simp only[ag]at tp
           obtain⟨a,xs,cs,rfl,rfl,fa,ha,hl,trs⟩:=tp
           have h1:ts[m]? =some t1:=by
             unfold T.at at h1
             cases e:ts[m]? with
             |none=>rw[e]at h1;cases h1
             |some u=>rw[e]at h1;cases u<;>exact h1
           obtain⟨x1,hx,hv⟩:=rY hl hm
           exact .inr ⟨a,_,z,x1,rfl,fz hz ry,.inl ha,hv,q x1 H2 (s1.trans s2) (av.snoc (av.BN ha hl h1 hx) at2)⟩
theorem fB.of{n0 n1:T}{c:Addr}{cs cs':List Addr}{o:HO}(h0:ag M H F n0 (.ref c) (c::cs))(nd:(c::cs).Nodup)(sub:cs'.Sublist cs)(h1:ag M (upd H c o) F n1 (.ref c) (c::cs')):fB M H (upd H c o) F F c n0 n1 (c::cs) (c::cs'):=
 have s2:(c::cs').Sublist (c::cs):=List.Sublist.cons₂ c sub
 ⟨h0,List.mem_cons_self,h1,nd.sublist s2,fun b u n e=>by rw[L2.aC n];exact e,fun b=>⟨.inl,fun h=>h.elim id fun hb=>(h0.fs b (s2.subset hb)).1⟩,fun b hb=>.inl (s2.subset hb)⟩
theorem ah.tm{d:D}{v:V}{z:Ky}(rd:Rep M H F d v):∀ {ks:List Ky} {ts:List T} {xs:List V} {as:List Addr},ah M H F ts xs as→∃as',ah M H F (List.zipWith (fun a t=>if a=z then T.d d else t) ks ts) (List.zipWith (fun a x=>if a=z then v else x) ks xs) as'∧as'.Sublist as
 |[],ts,xs,as,h=>⟨[],by simp[ah],List.nil_sublist _⟩
 | a::ks,[],xs,as,h=>by
   simp only[ah]at h
   obtain⟨rfl,rfl⟩:=h
   exact⟨[],by simp[ah],List.Sublist.refl _⟩
 | a::ks,t::ts,xs,as,h=>by
   simp only[ah]at h
   obtain⟨x,r,bs,cs,rfl,rfl,h1,h2⟩:=h
   obtain⟨cs',k1,k2⟩:=ah.tm (z:=z) rd (ks:=ks) h2
   rw[List.zipWith_cons_cons,List.zipWith_cons_cons]
   by_cases hz:a=z
   · refine⟨cs',?_,k2.trans (List.sublist_append_right _ _)⟩
     rw[if_pos hz,if_pos hz]
     simp only[ah,ag]
     exact⟨v,_,[],cs',rfl,rfl,⟨rfl,rd⟩,k1⟩
   · refine⟨bs++cs',?_,List.Sublist.append (List.Sublist.refl _) k2⟩
     rw[if_neg hz,if_neg hz]
     simp only[ah]
     exact⟨x,_,bs,cs',rfl,rfl,h1,k1⟩
theorem A1 (i:Nat) {o e k:Expr} {f:Pt} {g h:Ex} {p3:Pos} (hu:X.A.units+64<cLine) (ho:JL X i o f) (hk:JE X k g) (he:JE X e h) (hs:swapsWith e (some (.Subscript o k p3)) pos.line X.env=pure false:=by rfl):
   JS X (.Assign [.Subscript o k p3] e pos) (bW i f g h):=fun F0=>
 dZ (L2.t8 (by omega) ho hk he hs) fun D σ H ⟨ρ,F,fl,r,e,q⟩=>by
   obtain⟨d,ed,e⟩:=aq.mp e
   obtain⟨p,ep,e⟩:=aq.mp e
   obtain⟨y,ey,e⟩:=aq.mp e
   split at e
   · rename_i t z q1 hz
     split at e
     · rename_i ks ts hat
       split at e
       · rename_i hlt
         cases e
         obtain⟨⟨w,as,ew,tr,nd⟩,_,_⟩:=r.rs.on i _ q1
         refine⟨ρ,F,d,r.rs,ed,fun v H1 s1 rv=>⟨ρ,F,t,w,p,_,(r.same s1).rs,q1,ew,ep,hat,fun v0 H2 s2 at2=>⟨ρ,F,y,((r.same s1).same s2).rs,ey,fun w2 H3 s3 rw'=>?_⟩⟩⟩
         have r2:=(r.same s1).same s2
         have r3:=r2.same s3
         have at3:=at2.same r2.rs q1 ew s3
         obtain⟨⟨w',as',ew',tr',nd'⟩,_,_⟩:=r3.rs.on i _ q1
         rw[ew]at ew';cases ew'
         obtain⟨bs,tp,sub⟩:=av.part tr' at3
         have tp0:=tp
         simp only[ag]at tp
         obtain⟨a,xs,cs,rfl,rfl,fa,ha,hl,trs⟩:=tp
         have ndb:=nd'.sublist sub
         have ndc:=List.nodup_cons.mp ndb
         cases fz hz rw'
         have rv3:=rv.mv (M:=aw X) (F':=F) (.same (s2.trans s3))
         have hzl:(ks.zip xs).length<sizeLine:=by
           have:(sizeLine:Nat)=16777216:=sizeLine_eq
           rw[List.length_zip];omega
         refine⟨a,_,rfl,L2.gR.k ha hzl,?_⟩
         rw[oE z v hl]
         have mvu:∀o:HO,Mv F H3 F (upd H3 a o):=fun o b u n e=>⟨n,by rw[L2.aC (fun z=>by subst z;exact n fa)];exact e⟩
         have kp:∀(o:HO) {cs':List Addr},cs'.Sublist cs→∀b∈cs',∀u,F b→H3 b=some u→F b∧upd H3 a o b=some u:=fun o cs' hs b hb u f hu=>⟨f,by rw[L2.aC (fun z=>by subst z;exact ndc.1 (hs.subset hb))];exact hu⟩
         unfold gf at q
         by_cases hm:(ks.any fun a=>decide (a=z))=true
         · rw[if_pos hm]at q ⊢
           obtain⟨cs',k1,k2⟩:=ah.tm (z:=z) rv3 (ks:=ks) trs
           obtain⟨mv,r'⟩:=r3.rQ (H2:=upd H3 a (.dK (ks.zip (List.zipWith (fun a x=>if a=z then v else x) ks xs)))) (F2:=F) (n1:=.m ks (List.zipWith (fun a t=>if a=z then T.d d else t) ks ts)) q1 ew at3 (fB.of tp0 ndb k2 (by
             simp only[ag]
             exact⟨a,_,cs',rfl,rfl,fa,L2.bt,by rw[List.length_zipWith];omega,k1.mv (mvu _) (kp _ k2)⟩)) rfl
           exact q _ _ _ (Mv.trans (.same (s1.trans (s2.trans s3))) mv) r'
         · rw[if_neg hm]at q ⊢
           obtain⟨mv,r'⟩:=r3.rQ (H2:=upd H3 a (.dK ((ks++[z]).zip (xs++[v])))) (F2:=F) (n1:=.m (ks++[z]) (ts++[T.d d])) q1 ew at3 (fB.of tp0 ndb (List.Sublist.refl _) (by
             simp only[ag]
             refine⟨a,_,cs,rfl,rfl,fa,L2.bt,by rw[List.length_append,List.length_append,hl];rfl,?_⟩
             have:=ah.append (trs.mv (mvu (.dK ((ks++[z]).zip (xs++[v])))) (kp _ (List.Sublist.refl _))) (mR (vs:=[d]) (xs:=[v]) (as:=[]) |>.mpr ⟨rfl,ae.cons (rv3.mv (mvu _)) ae.nil⟩)
             simpa using this)) rfl
           exact q _ _ _ (Mv.trans (.same (s1.trans (s2.trans s3))) mv) r'
       ·cases e
     ·cases e
   ·cases e
end
noncomputable def j5:D→R D
 |.ao ks vs=>.ok (.ao ks vs)
 |_=>.bad
section
variable{X:Cx}{M:Md}{G H H':Hp}{F0 F F':Addr→Prop}{σ:L2.St}{ρ:En}{pos:Pos}{pins:List (Addr×Obj)}{s:Shared}{as:List Addr}
theorem Dw:bu X (.type "dict") (fun xs H Q=>∃F p kvs,xs=[.ref p]∧cJ (aw X) H F p kvs∧∀l,H l=none→Q (.ref l) (upd H l (.dK kvs))):=by
 intro pins s σ H xs us Q I r h
 obtain⟨F,p,kvs,rfl,hd,q⟩:=h
 obtain⟨u,rfl,ru⟩:=L2.vals1 r
 cases ru
 obtain⟨z,hsys,vs,rel,dd⟩:=fI I hd
 have hl:=iJ rel
 refine kt_call_dict (knd:=L2.bL X.prog X.w) hsys dd (by omega) fun h' d1 sb=>?_
 have keep:∀b o,s.heap.get? b=some o→h'.get? b=some o:=fun b o e=>by
   rw[sb.2 b (Nat.ne_of_lt (Heap.lt_size e))]
   exact Heap.get?_push_of_some _ e
 exact⟨.ref _,_,I.laid (a:=s.heap.objs.size) (o:=.dK kvs) (t':=s.toks) keep (Nat.le_refl _) (L2.kR z (beq_eq_false_iff_ne.mpr (Ne.symm (Nat.ne_of_lt I.big))) rel d1),rfl,q _ (I.aD.fresh (Nat.le_refl _))⟩
theorem Bi{a:Expr}{fa:Ex}{p:Pos}(hg:L2.Gl X "dict")(hm:X.mg "dict"=none)(ha:JE X a fa)(hs:starEach [a] X.env=(false,eval a X.env)::starEach [] X.env):JD X (.Call (.Name "dict" p) [a] [] pos) (e1 j5 fa):=
 bq (L2.oT Dw hg hm lu (fH ha gA hs) (by decide) (by decide) hs) fun σ H Q ⟨ρ,F,ks,ds,hr,e,q⟩=>by
   obtain⟨d1,ed,e⟩:=aq.mp e
   refine⟨ρ,F,[d1],hr,by show(fa ρ).bind _=_;rw[ed];rfl,fun vs H1 s1 rv=>?_⟩
   obtain⟨y,rfl,ry⟩:=rv.one
   unfold j5 at e
   split at e
   · cases e
     simp only[Rep]at ry
     obtain⟨a,xs,rfl,h1,hl,rs⟩:=ry
     exact⟨F,a,_,rfl,h1,fun l hn=>q l H1 xs s1 hn hl rs⟩
   ·cases e
theorem cJ.ne{a b:Addr}{kvs more:List (Key×V)}(I:Inv X pins σ H s)(ha:H a=some (.dK kvs))(hb:cJ (aw X) H F b more):a≠b:=by
 rintro rfl
 rcases hb with⟨_,ob,hb⟩|⟨o,es,ep,vs,hk,_⟩
 ·rw[ha]at hb;cases hb
 · have:=(I.bs a o (I.mod.mG a o hk)).2
   rw[ha]at this;cases this
noncomputable def xM(M:Md):V→List V→Hp→VK→Prop:=fun x vs H Q=>∃F a b kvs more,x=.ref a∧vs=[.ref b]∧H a=some (.dK kvs)∧cJ M H F b more∧kvs.length+more.length≤1000∧Q .aA (upd H a (.dK (L2.dm kvs more)))
theorem CV:L2.tw X "dict.update" (xM (aw X)):=by
 intro pins s σ H x vs v us Q I rx rv h
 obtain⟨F,a,b,kvs,more,rfl,rfl,ha,hb,hz,q⟩:=h
 cases rx
 obtain⟨u,rfl,ru⟩:=rv.one
 cases ru
 obtain⟨z,hsys,ws,rel,dd⟩:=L2.pK I.aD ha
 obtain⟨z2,hsys2,ws2,rel2,dd2⟩:=fI I hb
 have h3:(sizeLine:Nat)=16777216:=sizeLine_eq
 refine call_meetsIn PySem.F.slot_dict_update dd.typeIs PySem.F.entry_dict_update (PySem.F.args_dict_update_2 _ _) (meets_dict_update (L2.bL X.prog X.w) a b (cJ.ne I ha hb) hsys2) ⟨ws,ws2,dd,dd2,by rw[←rel.length, ←rel2.length];omega,fun h' d1 d2 hs=>?_⟩
 have he:∃q,h'.get? a=some q:=let⟨q,_,_,hq,_⟩:=d1;⟨q,hq⟩
 have hl:(L2.dm kvs more).length≤sizeLine:=by have:=L2.mL more kvs;omega
 exact⟨.aA,_,L2.nu I (by rw[ha];exact True.intro) hs he (L2.kR hl hsys (rel2.merge rel) d1),rfl,q⟩
theorem Dx(i:Nat){x:Str}{e:Expr}{f:Ex}{p2 apos cpos:Pos}(he:JE X e f)(hN:X.N[i]? =some x)(hv:L2.cR X.env.scope x)(hd:(x==("__debug__":Str))=false)
   (hcd:(x==("__classdict__":Str))=false) (hbase:attributeBase (.Name x p2) "update" X.env (eval (.Name x p2) X.env)=eval (.Name x p2) X.env)
   (hfew:((backTo cpos (starEach [e] X.env)).all (fun x=> !x.1)&&(backToKw cpos (keywordEach [] X.env)).all (fun x=>x.1.isSome)
     &&decide (([e]:List Expr).length+([]:List Keyword).length+(if([]:List Keyword).isEmpty then 0 else 1)<30))=true)
   (hline:(apos.endLine==cpos.line)=true) (hs:starEach [e] X.env=(false,eval e X.env)::starEach [] X.env)
   (hsw:swapsWith (.Call (.Attribute (.Name x p2) "update" apos) [e] [] cpos) none pos.line X.env=pure false):
   JS X (.Expr (.Call (.Attribute (.Name x p2) "update" apos) [e] [] cpos) pos) (kz i f):=fun F0=>
 dZ (L2.ti (L2.sy PySem.F.plainAttrs_dict PySem.F.slot_dict_update PySem.F.type_dict_update CV (L2.pv i hN hv hd hcd) (fH he gA hs) hbase hfew hline hs) hsw) fun D σ H ⟨ρ,F,fl,r,e,q⟩=>by
   obtain⟨d,ed,e⟩:=aq.mp e
   split at e
   · rename_i ks vs as bs q1
     split at e
     · rename_i hlt
       cases e
       have oi:bh ρ i:=.inr ⟨_,_,q1⟩
       obtain⟨a,xs,ea,fa,ha,hl,rs⟩:=r.rs.od i _ _ q1
       refine⟨_,ea,.inr (.inr (.inl ⟨rfl,.inl ⟨_,ha⟩⟩)),ρ,F,[.ao ks vs],r.rs,by show(f ρ).bind _=_;rw[ed];rfl,fun us H1 s1 rv=>?_⟩
       obtain⟨y,rfl,ry⟩:=rv.one
       simp only[Rep]at ry
       obtain⟨b,ys,rfl,h1,hly,ry⟩:=ry
       have r1:=r.same s1
       have ha2:=s1 _ _ ha
       obtain⟨zs,e1,l1,rs1⟩:=tG (M:=aw X) (H:=H1) (F:=F) hly ry hl (rs.mv (.same s1))
       refine⟨F,a,b,_,_,rfl,rfl,ha2,h1,by rw[List.length_zip,List.length_zip];omega,?_⟩
       rw[e1]
       obtain⟨mv,r'⟩:=r1.chg (s:=.od (eM ks vs as bs).1 (eM ks vs as bs).2) oi ea (.inr ⟨_,_,zs,rfl,rfl,l1,rs1⟩)
       exact q _ _ _ (Mv.trans (.same s1) mv) r'
     ·cases e
   ·cases e
noncomputable def jd:List (Ex×Xt)→En→R (List Ky×List T)
 |[],_=>.ok ([],[])
 | (fk,fv)::r,ρ=>(fk ρ).bind fun q=>(fv ρ).bind fun t=>match keyOf q with
   |some z=>(jd r ρ).bind fun y=>.ok (z::y.1,t::y.2)
   |none=>.bad
noncomputable def eT(kfs:List (Ex×Xt)):Xt:=fun ρ=>(jd kfs ρ).bind fun y=>if y.1.Nodup then .ok (.m y.1 y.2)else .bad
noncomputable def lp(X:Cx)(pos:Pos)(keys:List (Option Expr))(values:List Expr)(kfs:List (Ex×Xt)):Prop:=
 ∃trs,L2.jh X pos keys values trs∧∀(F:Addr→Prop) (σ:L2.St) (H:Hp) (ρ:En) (ks:List Ky) (ts:List T) (Q:List (V×V)→Hp→Prop),aQ (aw X) H F σ ρ→jd kfs ρ=.ok (ks,ts)→
   (∀xs H' F' as,af H H'→(∀b∈as,H b=none)→as.Nodup→(∀b,F' b↔F b∨b∈as)→ks.length=xs.length→ah (aw X) H' F' ts xs as→Q ((ks.zip xs).map fun kv=>(L2.kV kv.1,kv.2)) H')→L2.kN trs σ H Q
theorem yK:lp X pos [] [] []:=⟨[],L2.pG,fun F σ H ρ ks ts Q r e q=>by
 cases e
 exact q [] H F [] (af.refl _) (fun _ hb=>nomatch hb) List.nodup_nil (fun b=>by simp) rfl (by rw[ah];exact⟨rfl,rfl⟩)⟩
theorem Aq{k v:Expr}{fk:Ex}{fv:Xt}{keys:List (Option Expr)}{values:List Expr}{kfs:List (Ex×Xt)}(hk:JE X k fk)(hv:JX X v fv)(hr:lp X pos keys values kfs):lp X pos (some k::keys) (v::values) ((fk,fv)::kfs):=by
 obtain⟨trs,h,g⟩:=hr
 refine⟨_,L2.mx hk hv h,fun F σ H ρ ks ts Q r e q=>?_⟩
 obtain⟨d,ed,e⟩:=aq.mp e
 obtain⟨t,et,e⟩:=aq.mp e
 cases hz:keyOf d with
 |none=>rw[hz]at e;cases e
 | some z=>
   rw[hz]at e
   obtain⟨⟨ks',ts'⟩,ey,e⟩:=aq.mp e
   cases e
   refine⟨ρ,F,d,r,ed,fun x H1 s1 rx=>⟨ρ,F,t,r.same s1,et,fun y H2 F2 as s2 hn nd hF tr=>?_⟩⟩
   obtain⟨mv2,r2⟩:=(r.same s1).wide s2 hn hF (fun b hb=>(tr.fs b hb).2)
   refine g F2 σ H2 ρ ks' ts' _ r2 ey fun xs H3 F3 bs s3 hn3 nd3 hF3 hl trs=>?_
   have apart:∀a∈as,∀b∈bs,a≠b:=fun a ha b hb z=>by
     subst z
     obtain⟨_,u,hu⟩:=tr.fs a ha
     rw[hn3 a hb]at hu;cases hu
   have mv3:Mv F2 H2 F3 H3:=fun b o n e=>⟨fun f=>((hF3 b).mp f).elim n (fun hb=>by rw[hn3 b hb]at e;cases e),s3 _ _ e⟩
   cases fz hz rx
   refine q (y::xs) H3 F3 (as++bs) (s1.trans (s2.trans s3)) (fun b hb=>?_) (List.nodup_append.mpr ⟨nd,nd3,apart⟩) (fun b=>?_) (by simp[hl]) ?_
   · rcases List.mem_append.mp hb with hb|hb
     ·exact s1.free (hn b hb)
     ·exact s1.free (s2.free (hn3 b hb))
   ·rw[hF3 b,hF b,List.mem_append,or_assoc]
   · simp only[ah]
     exact⟨y,xs,as,bs,rfl,rfl,tr.mv mv3 fun b hb u f hu=>⟨(hF3 b).mpr (.inl f),s3 _ _ hu⟩,trs⟩
theorem sS:∀ {kfs:List (Ex×Xt)} {y:List Ky×List T},jd kfs ρ=.ok y→y.1.length=kfs.length
 |[],y,h=>by cases h;rfl
 | (fk,fv)::r,y,h=>by
   obtain⟨q,eq,h⟩:=aq.mp h
   obtain⟨t,et,h⟩:=aq.mp h
   split at h
   · obtain⟨z,ez,h⟩:=aq.mp h
     cases h
     simp[sS ez]
   ·cases h
theorem xv{keys:List (Option Expr)}{values:List Expr}{kfs:List (Ex×Xt)}(h:lp X pos keys values kfs)(hall:keys.all (·.isSome)=true)(hl:keys.length=values.length)(h0:keys≠[])(h15:keys.length≤15)(hk:kfs.length≤15):JX X (.Dict keys values pos) (eT kfs):=by
 obtain⟨trs,hp,g⟩:=h
 refine bq (L2.qf hp hall hl h0 h15) fun σ H Q ⟨ρ,F,t,hr,e,q⟩=>?_
 obtain⟨⟨ks,ts⟩,ey,e⟩:=aq.mp e
 by_cases cE:ks.Nodup
 · rw[if_pos cE]at e
   cases e
   intro p hp
   have hfr:=hr.fresh (o:=.dK []) hp
   refine g _ σ _ ρ ks ts _ hfr ey fun xs H2 F2 as s2 hn nd hF hlx rs=>?_
   have e2:H2 p=some (.dK []):=s2 _ _ L2.bt
   have hm:L2.dm [] (ks.zip xs)=ks.zip xs:=by
     rw[lR (by simp only[List.map_nil,List.nil_append];rw[show(ks.zip xs).map (·.1)=ks from by rw[List.map_fst_zip];omega];exact cE)]
     rfl
   have hk9:ks.length=kfs.length:=sS ey
   refine⟨e2,ks.zip xs,rfl,by rw[List.length_zip];omega,?_⟩
   rw[hm]
   have hpa:p∉as:=fun hb=>by have:=hn p hb;rw[L2.bt]at this;cases this
   have sm:af H (upd H2 p (.dK (ks.zip xs))):=fun b u e=>by
     have ne:b≠p:=fun z=>by subst z;rw[hp]at e;cases e
     rw[L2.aC ne]
     exact s2 _ _ (by rw[L2.aC ne];exact e)
   refine q _ _ F2 (p::as) sm (fun b hb=>?_) (List.nodup_cons.mpr ⟨hpa,nd⟩) (fun b=>?_) ?_
   · rcases List.mem_cons.mp hb with h9|h9
     ·rw[h9];exact hp
     · have:=hn b h9
       have hne:b≠p:=fun z=>by rw[z]at h9;exact hpa h9
       rwa[L2.aC hne]at this
   ·rw[hF b,List.mem_cons,or_assoc]
   · simp only[ag]
     have fp:F2 p:=(hF p).mpr (.inl (.inr rfl))
     exact⟨p,xs,as,rfl,rfl,fp,L2.bt,hlx,rs.mv (fun b o n e=>⟨n,by rw[L2.aC (fun z=>by subst z;exact n fp)];exact e⟩) fun b hb u f hu=>⟨f,by rw[L2.aC (fun z=>by subst z;exact hpa hb)];exact hu⟩⟩
 ·rw[if_neg cE]at e;cases e
noncomputable def g9:List T→Option (List Ky×List T)
 |[]=>some ([],[])
 | .tu [.d q,u]::r=>match keyOf q,g9 r with
   |some z,some y=>some (z::y.1,u::y.2)
   |_,_=>none
 |_=>none
noncomputable def kX(f:Xt):Xt:=fun ρ=>(f ρ).bind fun t=>match t with
 | .l ps=>match g9 ps with
   |some y=>if y.1.Nodup∧y.1.length≤1000 then .ok (.m y.1 y.2)else .bad
   |none=>.bad
 |_=>.bad
theorem sg:∀ {ps:List T} {y:List Ky×List T} {vs:List V} {as:List Addr},g9 ps=some y→ah M H F ps vs as→∃xs,y.1.length=xs.length∧jL M H F vs (y.1.zip xs)∧ah M H F y.2 xs as
 | [],y,vs,as,h,tr=>by
   cases h
   simp only[ah]at tr
   obtain⟨rfl,rfl⟩:=tr
   exact⟨[],rfl,True.intro,by rw[ah];exact⟨rfl,rfl⟩⟩
 | t::ps,y,vs,as,h,tr=>by
   unfold g9 at h
   split at h
   ·rename_i h0;cases h0
   · rename_i q u r h0
     cases h0
     cases hz:keyOf q with
     |none=>rw[hz]at h;cases h
     | some z=>
       rw[hz]at h
       cases hr:g9 ps with
       |none=>rw[hr]at h;cases h
       | some y'=>
         rw[hr]at h
         cases h
         simp only[ah]at tr
         obtain⟨x,r,bs,cs,rfl,rfl,h1,h2⟩:=tr
         obtain⟨xs,l,k1,k2⟩:=sg hr h2
         simp only[ag,ah]at h1
         obtain⟨a,ys,rfl,nf,ha,x1,r1,b1,c1,rfl,rfl,⟨rfl,rq⟩,x2,r2,b2,c2,rfl,rfl,hu,rfl,rfl⟩:=h1
         cases fz hz rq
         refine⟨x2::xs,by simp[l],⟨⟨a,rfl,.inl ⟨nf,.inl ha⟩⟩,k1⟩,?_⟩
         simp only[ah]
         refine⟨x2,xs,b2,cs,rfl,by simp,hu,k2⟩
   ·cases h
theorem zo{a:Expr}{f:Xt}{p:Pos}(hc:X.calm=true)(hg:L2.Gl X "dict")(hm:X.mg "dict"=none)(ha:JX X a f)(hs:starEach [a] X.env=(false,eval a X.env)::starEach [] X.env):JX X (.Call (.Name "dict" p) [a] [] pos) (kX f):=
 bq (L2.oT (yr hc) hg hm lu (L2.gr ha L2.jv hs) (by decide) (by decide) hs) fun σ H Q ⟨ρ,F,t,hr,e,q⟩=>by
   obtain⟨t1,et,e⟩:=aq.mp e
   refine⟨ρ,F,t1,hr,et,fun v H1 F1 as s1 hn nd hF tr=>?_⟩
   split at e
   · rename_i ps
     split at e
     · rename_i y hy
       by_cases cE:y.1.Nodup∧y.1.length≤1000
       · rw[if_pos cE]at e
         cases e
         simp only[ag]at tr
         obtain⟨l,vs,bs,rfl,rfl,fl,hl,trs⟩:=tr
         have nd2:=List.nodup_cons.mp nd
         obtain⟨xs,lx,k1,k2⟩:=sg hy trs
         have hm:L2.dm [] (y.1.zip xs)=y.1.zip xs:=by
           rw[lR (by simp only[List.map_nil,List.nil_append];rw[show(y.1.zip xs).map (·.1)=y.1 from by rw[List.map_fst_zip];omega];exact cE.1)]
           rfl
         have mv1:Mv F1 H1 (fun b=>F1 b∧b≠l) H1:=fun b o n e=>⟨fun h=>n h.1,e⟩
         have prv:∀ {ws:List V} {more:List (Key×V)},jL (aw X) H1 F1 ws more→jL (aw X) H1 (fun b=>F1 b∧b≠l) ws more:=by
           intro ws
           induction ws with
           | nil=>intro more h;cases more with
             |nil=>exact h
             |cons _ _=>exact h.elim
           | cons w ws ih=>intro more h;cases more with
             |nil=>exact h.elim
             | cons p more=>
               obtain⟨⟨a,e1,e2⟩,h⟩:=h
               exact⟨⟨a,e1,e2.mv mv1⟩,ih h⟩
         refine⟨fun b=>F1 b∧b≠l,l,vs,y.1.zip xs,rfl,.inl ⟨fun h=>h.2 rfl,.inl hl⟩,prv k1,by rw[List.length_zip];omega,fun p hp=>?_⟩
         rw[hm]
         have hpb:p∉bs:=fun hb=>by obtain⟨_,u,hu⟩:=k2.fs p hb;rw[hp]at hu;cases hu
         have ne:∀b u,H1 b=some u→b≠p:=fun b u e z=>by subst z;rw[hp]at e;cases e
         refine q _ _ (fun b=>F b∨b∈p::bs) (p::bs) (s1.trans (af.cj hp _)) (fun b hb=>?_) (List.nodup_cons.mpr ⟨hpb,nd2.2⟩) (fun _=>Iff.rfl) ?_
         · rcases List.mem_cons.mp hb with rfl|hb
           ·exact s1.free hp
           ·exact hn b (List.mem_cons_of_mem _ hb)
         · simp only[ag]
           refine⟨p,xs,bs,rfl,rfl,.inr List.mem_cons_self,L2.bt,lx,k2.mv (fun b o n e=>⟨fun f=>?_,by rw[L2.aC (ne b o e)];exact e⟩) fun b hb u f hu=>⟨.inr (List.mem_cons_of_mem _ hb),by rw[L2.aC (ne b u hu)];exact hu⟩⟩
           rcases f with f|f
           ·exact n ((hF b).mpr (.inl f))
           · rcases List.mem_cons.mp f with f|f
             ·exact ne b o e f
             ·exact n ((hF b).mpr (.inr (List.mem_cons_of_mem _ f)))
       ·rw[if_neg cE]at e;cases e
     ·cases e
   ·cases e
end
noncomputable def gD:D→R D
 |.lst _=>.ok (.bl true)
 |.tup _=>.ok (.bl true)
 |.b6 _ _ _=>.bad
 |_=>.ok (.bl false)
section
variable{X:Cx}{M:Md}{G H H':Hp}{F0 F F':Addr→Prop}{σ:L2.St}{ρ:En}{pos:Pos}{pins:List (Addr×Obj)}{s:Shared}{as:List Addr}
theorem wc:bu X (.builtin "isinstance") (fun xs H Q=>∃F d x tp b,xs=[x,.ref tp]∧Rep (aw X) H F d x∧H tp=some (.tup [.ty "list",.ty "tuple"])∧gD d=.ok (.bl b)∧Q (.bl b) H):=by
 intro pins s σ H xs us Q I r h
 obtain⟨F,d,x,tp,b,rfl,rd,ht,e,q⟩:=h
 obtain⟨u,w,rfl,ru,rw'⟩:=L2.vals2 r
 cases (show w=Value.ref tp from rw')
 obtain⟨_,its,rv,o,ho,hc,n,hd⟩:=I.aD _ _ ht
 obtain⟨oc,od,oda,osl⟩:=o
 simp only at hc hd
 subst hc hd
 have hi:its=[.type "list",.type "tuple"]:=by
   obtain⟨u1,u2,rfl,r1,r2⟩:=L2.vals2 rv
   cases (show u1=Value.type "list" from r1)
   cases (show u2=Value.type "tuple" from r2)
   rfl
 subst hi
 have fin:∀tk,EP X pins σ Q (.bool b) {s with toks:=tk}:=fun tk=>⟨.bl _,H,I.tok tk,rfl,q⟩
 cases d with
 |aA=>cases mY rd;cases ru;cases e;exact PySem.W.kia_tup PySem.W.kitx_none I.b5 True.intro ho rfl (fun z=>nomatch z) fin
 |bl y=>cases fA rd;cases ru;cases e;exact PySem.W.kia_tup PySem.W.kitx_bool I.b5 True.intro ho rfl (fun z=>nomatch z) fin
 |int i=>cases bO rd;obtain⟨t,rfl⟩:=ru;cases e;exact PySem.W.kia_tup PySem.W.kitx_int I.b5 True.intro ho rfl (fun z=>nomatch z) fin
 |str z=>cases eA rd;obtain⟨t,rfl⟩:=ru;cases e;exact PySem.W.kia_tup PySem.W.kitx_str I.b5 True.intro ho rfl (fun z=>nomatch z) fin
 | tup ds=>
   simp only[Rep]at rd
   obtain⟨p,xs,rfl,h,_⟩:=rd
   cases ru
   obtain⟨its,_,⟨o,h1,h2,_⟩,_⟩:=jP I h
   cases e;exact PySem.W.kia_tup PySem.W.kitx_tuple I.b5 ⟨o,h1,h2⟩ ho rfl (fun z=>nomatch z) fin
 | lst ds=>
   simp only[Rep]at rd
   obtain⟨p,xs,rfl,h,_⟩:=rd
   cases ru
   obtain⟨its,n,sl,_,h1,_⟩:=iW I h
   cases e;exact PySem.W.kia_tup PySem.W.kitx_list I.b5 ⟨_,h1,rfl⟩ ho rfl (fun z=>nomatch z) fin
 | ao ks ds=>
   simp only[Rep]at rd
   obtain⟨p,xs,rfl,h,_⟩:=rd
   cases ru
   obtain⟨_,_,vs,_,o,es,ep,e1,e2,e3,_⟩:=fI I h
   cases e;exact PySem.W.kia_tup PySem.W.kitx_dict I.b5 ⟨o,e1,e2.1⟩ ho rfl (fun z=>nomatch z) fin
 |b6 c ns vs=>cases e
theorem BP{d r:D}(h:gD d=.ok r):∃b,r=.bl b:=by
 unfold gD at h
 split at h<;>cases h<;>exact⟨_,rfl⟩
theorem Am{a:Expr}{fa:Ex}{p p2 p3 p4:Pos}{k1}(ha:JE X a fa)(hg:L2.Gl X "isinstance")(hm:X.mg "isinstance"=none)(hgL:L2.Gl X "list")(hmL:X.mg "list"=none)(hgT:L2.Gl X "tuple")(hmT:X.mg "tuple"=none)
   (hs:starEach [a,.Tuple [.Name "list" p3,.Name "tuple" p4] k1 p2] X.env=(false,eval a X.env)::starEach [.Tuple [.Name "list" p3,.Name "tuple" p4] k1 p2] X.env) (hs2:starEach [.Tuple [.Name "list" p3,.Name "tuple" p4] k1 p2] X.env=(false,eval (.Tuple [.Name "list" p3,.Name "tuple" p4] k1 p2) X.env)::starEach [] X.env)
   (hs3:starEach [.Name "list" p3,.Name "tuple" p4] X.env=(false,eval (.Name "list" p3) X.env)::starEach [.Name "tuple" p4] X.env) (hs4:starEach [.Name "tuple" p4] X.env=(false,eval (.Name "tuple" p4) X.env)::starEach [] X.env):
   JE X (.Call (.Name "isinstance" p) [a,.Tuple [.Name "list" p3,.Name "tuple" p4] k1 p2] [] pos) (e1 gD fa):=
 bq (L2.oa wc hg hm t4 (L2.gr ha (L2.gr (L2.pJ (L2.gr (L2.qr (v:=.ty "list") hgL hmL nh rfl (by decide) (by decide)) (L2.gr (L2.qr (v:=.ty "tuple") hgT hmT gh rfl (by decide) (by decide)) L2.jv hs4) hs3)) L2.jv hs2) hs) (by decide) (by decide) hs (by rw[hs2];rfl)) fun σ H Q ⟨ρ,F,d,hr,e,q⟩=>by
   obtain⟨a,ea,e⟩:=aq.mp e
   obtain⟨b,rfl⟩:=BP e
   refine⟨ρ,F,a,hr,ea,fun x H1 s1 rx=>⟨by decide,fun tp hn=>⟨F,a,x,tp,b,rfl,rx.mv (.same (af.cj hn _)),L2.bt,e,q _ _ (s1.trans (af.cj hn _)) er⟩⟩⟩
theorem qJ{sts:List Stmt}:dj X sts (fun _=>.bad):=fun F0 pins s σ H D I ⟨ρ,F,fl,r,e,q⟩=>by cases e
end
noncomputable def jz(b:(List D→R T)→List D→R T):Nat→List D→R T
 |0=>fun _=>.bad
 |n+1=>b (jz b n)
noncomputable def i9(b:(List D→R D)→List D→R D):Nat→List D→R D
 |0=>fun _=>.bad
 |n+1=>b (i9 b n)
theorem dh.kQ{P:Program}{w:World}{K:PySem.W.Frag}{mg:Str→Option Value}{base:Heap}{x:Str}{k n:Nat}{b:(List D→R T)→List D→R T}(h0:dh P w K mg base x k n fun _=>.bad)(h:∀j m,dh P w K mg base x (k+j) n m→dh P w K mg base x (k+(j+1)) n (b m)):∀j,dh P w K mg base x (k+j) n (jz b j)
 |0=>h0
 |j+1=>h j _ (dh.kQ h0 h j)
theorem Df.kQ{P:Program}{w:World}{K:PySem.W.Frag}{mg:Str→Option Value}{base:Heap}{x:Str}{k n:Nat}{b:(List D→R D)→List D→R D}(h0:Df P w K mg base x k n fun _=>.bad)(h:∀j m,Df P w K mg base x (k+j) n m→Df P w K mg base x (k+(j+1)) n (b m)):∀j,Df P w K mg base x (k+j) n (i9 b j)
 |0=>h0
 |j+1=>h j _ (Df.kQ h0 h j)
noncomputable def m9(i:Nat)(e:Ex):Ex:=fun ρ=>(e ρ).bind fun x=>match ρ[i]? with
 |some (.od ks vs)=>jK (.ao ks vs) x
 |_=>.bad
section
variable{X:Cx}{M:Md}{G H H':Hp}{F0 F F':Addr→Prop}{σ:L2.St}{ρ:En}{pos:Pos}{pins:List (Addr×Obj)}{s:Shared}{as:List Addr}
theorem EA(i:Nat){x:Str}{b:Expr}{fb:Ex}{p2:Pos}(hb:JE X b fb)(hN:X.N[i]? =some x:=by rfl)(hv:L2.cR X.env.scope x:=by first|exact Or.inl rfl|exact Or.inr (Or.inl rfl)|exact Or.inr (Or.inr rfl))(hd:(x==("__debug__":Str))=false:=by decide)
   (hcd:(x==("__classdict__":Str))=false:=by decide) (hs:L2.gW b:=by exact fun _ _=>rfl):JE X (.Subscript (.Name x p2) b pos) (m9 i fb):=
 bq (L2.pZ se (L2.pv i hN hv hd hcd) hb hs) fun σ H Q ⟨ρ,F,d,hr,e,q⟩=>by
   obtain⟨y,ey,e⟩:=aq.mp e
   split at e
   · rename_i ks vs q1
     obtain⟨a,ys,ea,fa,ha,hl,rs⟩:=hr.od i _ _ q1
     refine⟨_,ea,ρ,F,y,hr,ey,fun z H1 s1 rz=>?_⟩
     have e:(match keyOf y with|some q=>(match bj q ks vs with|some v=>R.ok v|none=>.bad)|none=>.bad)=.ok d:=e
     cases hk:keyOf y with
     |none=>rw[hk]at e;cases e
     | some k=>
       rw[hk]at e
       cases hf:bj k ks vs with
       | none=>
         have e:(match bj k ks vs with|some v=>R.ok v|none=>.bad)=.ok d:=e
         rw[hf]at e;cases e
       | some v=>
         have e:(match bj k ks vs with|some v=>R.ok v|none=>.bad)=.ok d:=e
         rw[hf]at e
         cases e
         obtain⟨w,hw,rw'⟩:=(uu (M:=aw X) (H:=H1) (F:=F) k hl (rs.mv (.same s1))).2 _ hf
         exact .inr ⟨a,_,k,w,rfl,fz hk rz,.inl (s1 _ _ ha),hw,q _ _ s1 rw'⟩
   ·cases e
theorem B7{k v:Expr}{z:Int}{f:Ex}{keys:List (Option Expr)}{values:List Expr}{ks:List Ky}{fs:List Ex}(hk:JE X k (eC (.int z)))(hv:JE X v f)(hr:JP X pos keys values ks fs):JP X pos (some k::keys) (v::values) (.inl z::ks) (f::fs):=by
 obtain⟨trs,h,g⟩:=hr
 refine⟨_,L2.mx hk hv h,fun F σ H ρ ds Q r e q=>?_⟩
 obtain⟨a,ea,e⟩:=aq.mp e
 obtain⟨as,eas,e⟩:=aq.mp e
 cases e
 refine⟨ρ,F,.int z,r,rfl,fun x H1 s1 rx=>⟨ρ,F,a,r.same s1,ea,fun y H2 s2 ry=>g F σ H2 ρ as _ ((r.same s1).same s2) eas fun xs H3 s3 rs=>?_⟩⟩
 cases bO rx
 exact q (y::xs) H3 ((s1.trans s2).trans s3) (ae.cons (ry.mv (.same s3)) rs)
end
noncomputable def gZ:D→D→R D
 |.ao ks _,.ao [] []=>.ok (.bl (!ks.isEmpty))
 |_,_=>.bad
section
variable{X:Cx}{M:Md}{G H H':Hp}{F0 F F':Addr→Prop}{σ:L2.St}{ρ:En}{pos:Pos}{pins:List (Addr×Obj)}{s:Shared}{as:List Addr}
noncomputable def qV(M:Md)(n:Bool):R2:=fun x y H Q=>∃F p kvs p',x=.ref p∧y=.ref p'∧cJ M H F p kvs∧cJ M H F p' []∧Q (.bl (if n=true then !kvs.isEmpty else kvs.isEmpty)) H
theorem Ct{kvs:List (Key×V)}{ws:List (Key×Value)}(r:L2.KV kvs ws):(ws.length==0)=kvs.isEmpty:=by
 have:=iJ r
 cases kvs<;>cases ws<;>first|rfl|simp at this
theorem DH(hu:X.A.units+64<cLine):aR X (compareOp .NotEq) (qV (aw X) true):=by
 intro pins s σ H x y v u Q I rx ry h
 obtain⟨F,p,kvs,p',rfl,rfl,hp,hp',q⟩:=h
 cases rx
 cases ry
 obtain⟨_,hs1,ws,rel,dd⟩:=fI I hp
 obtain⟨_,hs2,ws',rel',dd'⟩:=fI I hp'
 cases rel'
 refine PySem.W.keq_ne (r:=true) hs1 hs2 dd dd' (Nat.lt_of_le_of_lt (Nat.le_add_right _ 64) hu) (fun hl=>?_) ⟨.bl _,H,I,rfl,?_⟩
 · have:ws=[]:=List.length_eq_zero_iff.mp hl
   subst this;exact .nil
 ·rw[List.length_nil,Ct rel,Bool.and_true];exact q
theorem Ab:gN gZ:=fun a b d h=>by
 unfold gZ at h
 split at h
 ·cases h;exact⟨_,rfl⟩
 ·cases h
theorem BM{x:V}{ks:List Ky}{vs:List D}(h:Rep M H F (.ao ks vs) x):∃p kvs,x=.ref p∧cJ M H F p kvs∧kvs.isEmpty=ks.isEmpty:=by
 simp only[Rep]at h
 obtain⟨p,xs,rfl,h1,hl,rs⟩:=h
 refine⟨p,_,rfl,h1,?_⟩
 cases ks with
 |nil=>rfl
 | cons a ks=>cases xs with
   |nil=>simp at hl
   |cons _ _=>rfl
theorem zh{x:V}(h:Rep M H F (.ao [] []) x):∃p,x=.ref p∧cJ M H F p []:=by
 simp only[Rep]at h
 obtain⟨p,xs,rfl,h1,hl,rs⟩:=h
 exact⟨p,rfl,h1⟩
theorem xl:cg M gZ (qV M true):=by
 intro F H x y a b d Q tr ra rb e q
 unfold gZ at e
 split at e
 · cases e
   obtain⟨p,kvs,rfl,h1,h2⟩:=BM ra
   obtain⟨p',rfl,h3⟩:=zh rb
   exact⟨F,p,kvs,p',rfl,rfl,h1,h3,by rw[if_pos rfl,h2];exact q _ _ (af.refl _) er⟩
 ·cases e
end
end PL
namespace PL
namespace eR
open PySem
noncomputable abbrev S(x:String):D:=.str (Str.ofString x)
noncomputable def gF:D:=(.int 16)
noncomputable def iC:List D→R D:=fn 2 (ak [aV (tV (e2 oLt (aa 1) (e1 jT (aa 0)))) (aS (e2 au (aa 0) (aa 1))) (ba),aS (eC (.int 0))])
noncomputable def nz:Sm:=ak [iZ 1 (e2 oMod (e2 cy (aa 0) (e2 fS (e2 fS (eC (.int 40503)) (aa 2)) (aa 2))) (eC (.int 4294967296))),bg (aF 0) (e2 oDiv (aa 0) (eC (.int 4294967296)))]
noncomputable def iO:List D→R D:=fn 3 (ak [jJ 1 (cz []),gP (hW (eC (.int 16))) (aF 2) nz,eO 1,aS (e1 fF (aa 1))])
noncomputable def fV:List D→R T:=iF 2 (ak [ia 1 (eT [(eC (S "parent"),xD (aa 0)),(eC (S "rank"),xD (eC (.int 1))),(eC (S "regs"),xL [xD (eC (.int 0)),xD (eC (.int 1)),xD (eC (.int 2)),xD (eC (.int 3)),xD (eC (.int 4)),xD (eC (.int 5)),xD (eC (.int 6)),xD (eC (.int 7))]),(eC (S "row"),xD (eC (.int 0))),(eC (S "pages"),gI),(eC (S "handles"),gI)]),bW 1 (pN) (eC (S "waits")) (eC .aA),bW 1 (pN) (eC (S "handler")) (eC (.int 0)),bW 1 (pN) (eC (S "rung")) (eC (.bl false)),bW 1 (pN) (eC (S "saved")) (eC .aA),mK 1])
noncomputable def jy:Sm:=ak [bg (aF 6) (e2 cy (eC (.int 1)) (e2 oMod (e2 cy (e2 oDiv (aa 1) (eC (.int 1000))) (e2 fS (eC (.int 4)) (aa 5))) (eC (.int 15)))),bW 4 (pX 4 (pN) (eC (S "lent"))) (aa 6) (aN iO [aN iC [aa 0,e2 cy (eC (.int 1)) (aa 5)]]),bW 4 (pX 4 (pX 4 (pX 4 (pN) (eC (S "tasks"))) (aa 2)) (eC (S "pages"))) (e2 cy (eC (.int 100)) (aa 5)) (cA [eC (S "lent"),aa 6])]
noncomputable def jR:Sm:=ak [bg (aF 8) (aN iC [aa 0,aa 7]),iq 9 4 (pX 4 (pX 4 (pX 4 (pN) (eC (S "tasks"))) (e2 au (cz [aa 2,aa 3]) (e2 oMod (aa 8) (eC (.int 2))))) (eC (S "pages"))),bg (aF 10) (e2 au (cz [eC (.int 0),eC (.int 1),eC (.int 2),eC (.int 3),eC (.int 4095),e2 oMod (e2 oDiv (aa 8) (eC (.int 144))) (eC (.int 4096))]) (e2 oMod (e2 oDiv (aa 8) (eC (.int 2))) (eC (.int 6)))),bg (aF 11) (cA [eC (S "own"),aN iO [e2 oDiv (aa 8) (eC (.int 36))]]),aV (fq 4 (gw (tV (e2 oEq (e2 oMod (e2 oDiv (aa 8) (eC (.int 12))) (eC (.int 3))) (eC (.int 2)))) (tV (e2 gZ (e2 au (aa 4) (eC (S "lent"))) (cU [] []))))) (bg (aF 11) (eX (xT [xD (eC (S "lent")),xD (en 4 (e2 au (e1 fR (e2 au (aa 4) (eC (S "lent")))) (e2 oMod (e2 oDiv (aa 8) (eC (.int 36))) (e1 dg (e2 au (aa 4) (eC (S "lent")))))))]))) (ba),aV (b7 (tV (e2 oLt (aa 10) (eC (.int 100)))) (tV (e2 g6 (aa 10) (eC (.int 102))))) (bW 4 (pA 4 9) (aa 10) (aa 11)) (ba)]
noncomputable def j3:List D→R D:=fn 12 (ak [bg (aF 1) (aN iC [aa 0,eC (.int 0)]),bg (aF 2) (e2 cy (eC (.int 1)) (e2 oMod (aa 1) (eC (.int 15)))),bg (aF 3) (e2 cy (eC (.int 1)) (e2 oMod (e2 cy (e2 cy (aa 1) (eC (.int 1))) (e2 oMod (e2 oDiv (aa 1) (eC (.int 15))) (eC (.int 14)))) (eC (.int 15)))),ia 4 (eT [(eC (S "tasks"),eT [(aa 2,bR fV [eC (.int 0)]),(aa 3,bR fV [eC (.int 0)])]),(eC (S "lent"),gI),(eC (S "nodes"),eT [(eC (.int 0),xT [xD (eC (S "folder")),gI])])]),bW 4 (pN) (eC (S "nodes")) (cU [(.inl 0),(.inl 1)] [cA [eC (S "folder"),cU [(.inl 7)] [eC (.int 1)]],cA [eC (S "file"),cz [eC (.int 5),eC (.int 6)]]]),bW 4 (pN) (eC (S "boxes")) (cU [(.inl 2)] [cA [eC (.int 3),cz [eC (.int 9)]]]),bW 4 (pN) (eC (S "clock")) (eC (.int 4)),bW 4 (pX 4 (pX 4 (pN) (eC (S "tasks"))) (aa 2)) (eC (S "handles")) (cU [(.inl 3)] [eC (.int 1)]),bW 4 (pX 4 (pX 4 (pN) (eC (S "tasks"))) (aa 2)) (eC (S "saved")) (cA [cz [eC (.int 1),eC (.int 2),eC (.int 3),eC (.int 4),eC (.int 5),eC (.int 6),eC (.int 7),eC (.int 8)],eC (.int 70)]),bW 4 (pX 4 (pX 4 (pN) (eC (S "tasks"))) (aa 3)) (eC (S "handler")) (eC (.int 50)),bW 4 (pX 4 (pX 4 (pN) (eC (S "tasks"))) (aa 3)) (eC (S "rung")) (e2 oEq (e2 oMod (aa 1) (eC (.int 2))) (eC (.int 1))),gP (hW (e2 oMod (e2 oDiv (aa 1) (eC (.int 225))) (eC (.int 4)))) (aF 5) jy,gP (kH (eC (.int 3)) (eC (.int 13))) (aF 7) jR,iw 4,aS (aa 4)])
noncomputable def o7:List D→R D:=fn 0 (aS (e2 o8 (cA [eC (.int 0)]) (eC gF)))
noncomputable def j0:List D→R D:=fn 4 (ak [bg (aF 3) (e1 fR (e2 au (e2 au (e2 au (aa 0) (eC (S "tasks"))) (aa 1)) (eC (S "pages")))),aV (b7 (tV (e2 oEq (e2 oMod (aa 2) (eC (.int 4))) (eC (.int 0)))) (tV (e2 oEq (aa 3) (cz [])))) (aS (e2 oMod (e2 oDiv (aa 2) (eC (.int 4))) (eC (.int 4294967296)))) (ba),aV (tV (e2 oEq (e2 oMod (aa 2) (eC (.int 4))) (eC (.int 1)))) (aS (e2 oMod (e2 oDiv (aa 2) (eC (.int 4))) (eC (.int 70000)))) (ba),aS (e2 cy (e2 fS (e2 au (aa 3) (e2 oMod (e2 oDiv (aa 2) (eC (.int 64))) (e1 jT (aa 3)))) (eC (.int 16))) (e2 oMod (e2 oDiv (aa 2) (eC (.int 4))) (eC (.int 16))))])
noncomputable def oQ(rec:List D→R T):List D→R T:=iF 1 (ak [aV (tV (e1 (bf .dict) (aa 0))) (eJ (kX (gE (gX (aa 0)) 1 [0] (aF 0) [] (xT [xD (aa 0),bR rec [e2 au (aa 1) (aa 0)]])))) (ba),aV (tV (e1 (bf .list) (aa 0))) (eJ (gE (iN (aa 0)) 1 [] (aF 0) [] (bR rec [aa 0]))) (ba),aV (tV (e1 (bf .tuple) (aa 0))) (eJ (xD (e1 fF (dI (iN (aa 0)) 1 [] (aF 0) [] (eX (bR rec [aa 0])))))) (ba),eJ (xD (aa 0))])
noncomputable def gm:List D→R T:=jz oQ 9
noncomputable def ik:List D→R D:=fn 3 (ak [aV (tV (e2 jG (aa 1) (e2 au (aa 0) (eC (S "tasks"))))) (aS (eC .aA)) (ba),aS (e2 (ju .aA) (e2 au (e2 au (e2 au (aa 0) (eC (S "tasks"))) (aa 1)) (eC (S "pages"))) (aa 2))])
noncomputable def hZ:List D→R D:=fn 2 (aS (g8 (tV (e2 oEq (e2 au (aa 1) (eC (.int 0))) (eC (S "own")))) (e2 au (aa 1) (eC (.int 1))) (e2 au (e2 au (aa 0) (eC (S "lent"))) (e2 au (aa 1) (eC (.int 1))))))
noncomputable def kh:List D→R D:=fn 4 (ak [bg (aF 3) (aN ik [aa 0,aa 1,e2 oDiv (aa 2) (eC gF)]),aS (g8 (tV (e1 iA (aa 3))) (eC .aA) (e2 au (aN hZ [aa 0,aa 3]) (e2 oMod (aa 2) (eC gF))))])
noncomputable def gH:List D→R D:=fn 4 (ak [bg (aF 3) (e2 (ju .aA) (e2 au (e2 au (e2 au (aa 0) (eC (S "tasks"))) (aa 1)) (eC (S "pages"))) (e2 oDiv (aa 2) (eC (.int 16)))),aV (tV (e1 iA (aa 3))) (aS (eC .aA)) (ba),aV (tV (e2 oEq (e2 au (aa 3) (eC (.int 0))) (eC (S "own")))) (aS (e2 au (e2 au (aa 3) (eC (.int 1))) (e2 oMod (aa 2) (eC (.int 16))))) (ba),aS (e2 au (e2 au (e2 au (aa 0) (eC (S "lent"))) (e2 au (aa 3) (eC (.int 1)))) (e2 oMod (aa 2) (eC (.int 16))))])
noncomputable def kD:List D→R D:=fn 3 (aS (e2 cy (e2 mh (gu (aa 0) none (some (aa 1))) (cA [aa 2])) (gu (aa 0) (some (e2 cy (aa 1) (eC (.int 1)))) none)))
noncomputable def cZ:List D→R D:=fn 3 (ak [jE 2 (e1 j5 (aa 0)),kz 2 (aa 1),eO 2,aS (aa 2)])
noncomputable def lN:List D→R D:=fn 3 (aS (aN cZ [aa 0,cU [(.inr (Str.ofString "lent"))] [aN cZ [e2 au (aa 0) (eC (S "lent")),je (aa 1) (aa 2)]]]))
noncomputable def lh:List D→R D:=fn 4 (ak [jE 3 (e1 j5 (e2 au (aa 0) (eC (S "tasks")))),kW 3 (aa 1) (aN cZ [m9 3 (aa 1),aa 2]),eO 3,aS (aN cZ [aa 0,cU [(.inr (Str.ofString "tasks"))] [aa 3]])])
noncomputable def kL:List D→R D:=fn 5 (ak [bg (aF 4) (aN cZ [e2 au (e2 au (e2 au (aa 0) (eC (S "tasks"))) (aa 1)) (eC (S "pages")),je (aa 2) (aa 3)]),aS (aN lh [aa 0,aa 1,cU [(.inr (Str.ofString "pages"))] [aa 4]])])
noncomputable def gn:List D→R D:=fn 7 (ak [bg (aF 4) (e2 oDiv (aa 2) (eC gF)),bg (aF 5) (aN ik [aa 0,aa 1,aa 4]),aV (tV (e1 iA (aa 5))) (aS (eC .aA)) (ba),bg (aF 6) (aN kD [aN hZ [aa 0,aa 5],e2 oMod (aa 2) (eC gF),aa 3]),aV (tV (e2 oEq (e2 au (aa 5) (eC (.int 0))) (eC (S "own")))) (aS (aN kL [aa 0,aa 1,aa 4,cA [eC (S "own"),aa 6]])) (ba),aS (aN lN [aa 0,e2 au (aa 5) (eC (.int 1)),aa 6])])
noncomputable def oM(rec:List D→R D):List D→R D:=fn 2 (ak [aV (tV (e1 (bf .dict) (aa 1))) (ak [aV (b7 (d6 (tV (e1 (bf .dict) (aa 0)))) (tV (e2 cT (e1 dg (aa 0)) (e1 dg (aa 1))))) (aS (eC (.bl false))) (ba),aS (e1 gY (dI (gX (aa 1)) 1 [0,1] (aF 0) [] (dH (e2 eZ (aa 0) (aa 1)) (aN rec [e2 au (aa 1) (aa 0),e2 au (aa 2) (aa 0)]))))]) (ba),aV (tV (e1 gD (aa 1))) (ak [aV (b7 (tV (e2 cT (e1 (bf .list) (aa 0)) (e1 (bf .list) (aa 1)))) (tV (e2 cT (e1 (bf .tuple) (aa 0)) (e1 (bf .tuple) (aa 1))))) (aS (eC (.bl false))) (ba),aS (dH (e2 oEq (e1 dg (aa 0)) (e1 dg (aa 1))) (e1 gY (dI (j4 (aa 0) (aa 1)) 2 [] (fP [0,1]) [] (aN rec [aa 0,aa 1]))))]) (ba),aS (dH (e2 oEq (aa 0) (aa 1)) (e2 oEq (e1 (bf .bool) (aa 0)) (e1 (bf .bool) (aa 1))))])
noncomputable def ir:List D→R D:=i9 oM 9
noncomputable def lA:Sm:=iZ 7 (e2 au (cz [aN gH [aa 0,aa 1,e2 cy (e2 fS (aa 6) (eC (.int 16))) (aa 8)],aa 3]) (e1 ng (e2 oEq (aa 8) (e2 oMod (aa 2) (eC (.int 16))))))
noncomputable def g0:List D→R D:=fn 9 (ak [ia 4 (bR gm [aa 0]),iq 5 4 (pX 4 (pX 4 (pX 4 (pN) (eC (S "tasks"))) (aa 1)) (eC (S "pages"))),bg (aF 6) (e2 oDiv (aa 2) (eC (.int 16))),jJ 7 (cz []),gP (hW (eC (.int 16))) (aF 8) lA,aV (fq 4 (tV (e2 oEq (e2 au (e2 au (aa 5) (aa 6)) (eC (.int 0))) (eC (S "own"))))) (ak [eO 7,bW 4 (pA 4 5) (aa 6) (cA [eC (S "own"),e1 fF (aa 7)])]) (ak [eO 7,bW 4 (pX 4 (pN) (eC (S "lent"))) (en 4 (e2 au (e2 au (aa 5) (aa 6)) (eC (.int 1)))) (e1 fF (aa 7))]),iw 4,aS (aa 4)])
noncomputable def kB:List D→R D:=fn 1 (aS (dH (e1 (bf .int) (aa 0)) (e1 jX (e1 (bf .bool) (aa 0)))))
noncomputable def jI:Sm:=ak [bg (aF 4) (e2 au (aa 2) (e2 oMod (aa 3) (eC (.int 2)))),bg (aF 5) (aN j0 [aa 1,aa 4,e2 oDiv (aa 3) (eC (.int 2))]),bg (aF 6) (e2 oMod (e2 fS (e2 oDiv (aa 3) (eC (.int 8))) (eC (.int 2654435761))) (eC (.int 4294967296))),bg (aF 7) (eX (bR gm [aa 1])),bg (aF 8) (aN kh [aa 7,aa 4,aa 5]),bg (aF 9) (aN gH [aa 1,aa 4,aa 5]),bg (aF 10) (aN gn [aa 7,aa 4,aa 5,aa 6]),aV (d6 (tV (aN ir [aa 7,aa 1]))) (aS (eC (.bl false))) (ba),aV (tV (e1 iA (aa 9))) (aV (b7 (tV (e1 jt (aa 8))) (tV (e1 jt (aa 10)))) (aS (eC (.bl false))) (ba)) (ak [bg (aF 11) (aN g0 [aa 1,aa 4,aa 5,aa 6]),aV (b7 (d6 (tV (aN kB [aa 8]))) (b7 (tV (e2 cT (aa 8) (aa 9))) (d6 (tV (aN ir [aa 10,aa 11]))))) (aS (eC (.bl false))) (ba),bg (aF 1) (aa 11)])]
noncomputable def kl:List D→R D:=fn 13 (ak [bg (aF 1) (aN j3 [aa 0]),bg (aF 2) (e1 fR (e2 au (aa 1) (eC (S "tasks")))),gP (iN (gu (aa 0) (some (eC (.int 13))) (some (eC (.int 53))))) (aF 3) jI,bg (aF 12) (aN o7 []),aS (dH (e1 (bf .tuple) (aa 12)) (e2 oEq (aa 12) (cA [eC (.int 0),eC (.int 0),eC (.int 0),eC (.int 0),eC (.int 0),eC (.int 0),eC (.int 0),eC (.int 0),eC (.int 0),eC (.int 0),eC (.int 0),eC (.int 0),eC (.int 0),eC (.int 0),eC (.int 0),eC (.int 0)])))])
end eR
end PL
set_option maxRecDepth 1000
namespace PL
open PySem
theorem vF{tg:bo}{body:Sm}(P:En→Prop):∀ {ds:List D},(∀d∈ds,∀ρ,P ρ→∃ρ1,tg d ρ=.ok ρ1∧∃ρ2,body ρ1=.ok (.next ρ2)∧P ρ2)→
   ∀ {ρ:En},P ρ→∃ρ',forL tg body ds ρ=.ok (.next ρ')∧P ρ'
 |[],_,ρ,h=>⟨ρ,rfl,h⟩
 | d::ds,hs,ρ,h=>by
   obtain⟨ρ1,e1,ρ2,e2,h2⟩:=hs d (List.mem_cons_self ..) ρ h
   obtain⟨ρ',e,h'⟩:=vF (ds:=ds) P (fun d hd=>hs d (List.mem_cons_of_mem _ hd)) h2
   exact⟨ρ',by simp[forL,e1,e2,e],h'⟩
theorem kq{tg:bo}{body:Sm}(P:Nat→En→Prop):∀ {ds:List D} (n:Nat),(∀i d,ds[i]? =some d→∀ρ,P (n+i) ρ→∃ρ1,tg d ρ=.ok ρ1∧∃ρ2,body ρ1=.ok (.next ρ2)∧P (n+i+1) ρ2)→
   ∀ {ρ:En},P n ρ→∃ρ',forL tg body ds ρ=.ok (.next ρ')∧P (n+ds.length) ρ'
 |[],n,_,ρ,h=>⟨ρ,rfl,h⟩
 | d::ds,n,hs,ρ,h=>by
   obtain⟨ρ1,e1,ρ2,e2,h2⟩:=hs 0 d rfl ρ h
   obtain⟨ρ',e,h'⟩:=kq (ds:=ds) P (n+1) (fun i d hd ρ hp=>by
     have:=hs (i+1) d (by simpa using hd) ρ (by rw[show n+(i+1)=n+1+i by omega];exact hp)
     rw[show n+1+i+1=n+(i+1)+1 by omega];exact this) h2
   refine⟨ρ',by simp[forL,e1,e2,e],?_⟩
   rw[List.length_cons,show n+(ds.length+1)=n+1+ds.length by omega];exact h'
theorem jO{α:Type}{xs:List α}{i:Int}(h0:0≤i)(h:i<xs.length):cm xs i=some (xs[i.toNat]'(by omega)):=by
 unfold cm cX
 rw[if_pos h0,if_pos h]
 have:i.toNat<xs.length:=by omega
 simp[this]
theorem dk{c:aG}{a b:Sm}{ρ:En}(h:c ρ=.ok true):aV c a b ρ=a ρ:=by simp[h]
theorem rJ{c:aG}{a b:Sm}{ρ:En}(h:c ρ=.ok false):aV c a b ρ=b ρ:=by simp[h]
theorem sx{c:aG}{a b:Ex}{ρ:En}(h:c ρ=.ok true):g8 c a b ρ=a ρ:=by simp[h]
theorem tI{c:aG}{a b:Ex}{ρ:En}(h:c ρ=.ok false):g8 c a b ρ=b ρ:=by simp[h]
theorem aB{a:Sm}{r:List Sm}{ρ ρ':En}(h:a ρ=.ok (.next ρ')):ak (a::r) ρ=ak r ρ':=by
 show(a ρ).bind _=_
 rw[h];rfl
theorem bQ{a:Sm}{r:List Sm}{ρ:En}{d:D}(h:a ρ=.ok (.ret d)):ak (a::r) ρ=.ok (.ret d):=by
 show(a ρ).bind _=_
 rw[h];rfl
theorem cq{c:aG}{a:Sm}{ρ:En}(h:c ρ=.ok false):aV c a ba ρ=.ok (.next ρ):=by simp[h]
theorem cF{n:Nat}{b:Sm}{ds:List D}{d:D}(h:b (ds.map .sh++List.replicate (n - ds.length) .un)=.ok (.ret d)):fn n b ds=.ok d:=by
 unfold fn;rw[h];rfl
set_option maxRecDepth 2000
namespace G
theorem dP{o:D→R D}{a:Ex}{ρ:En}{x d:D}(ha:a ρ=.ok x)(h:o x=.ok d):e1 o a ρ=.ok d:=by
 show(a ρ).bind _=_
 rw[ha,R.aW,h]
theorem aL{o:D→D→R D}{a b:Ex}{ρ:En}{x y d:D}(ha:a ρ=.ok x)(hb:b ρ=.ok y)(h:o x y=.ok d):e2 o a b ρ=.ok d:=by
 show(a ρ).bind _=_
 rw[ha,R.aW]
 show(b ρ).bind _=_
 rw[hb,R.aW,h]
theorem m5{f:List D→R D}{a:Ex}{ρ:En}{x d:D}(ha:a ρ=.ok x)(h:f [x]=.ok d):aN f [a] ρ=.ok d:=by
 simp only[aN,eList,ha,R.aW];exact h
theorem dG{f:List D→R D}{a b:Ex}{ρ:En}{x y d:D}(ha:a ρ=.ok x)(hb:b ρ=.ok y)(h:f [x,y]=.ok d):aN f [a,b] ρ=.ok d:=by
 simp only[aN,eList,ha,hb,R.aW];exact h
theorem fX{f:List D→R D}{a b c:Ex}{ρ:En}{x y z d:D}(ha:a ρ=.ok x)(hb:b ρ=.ok y)(hc:c ρ=.ok z)(h:f [x,y,z]=.ok d):aN f [a,b,c] ρ=.ok d:=by
 simp only[aN,eList,ha,hb,hc,R.aW];exact h
theorem ft{a b:Ex}{ρ:En}{i u:Int}(ha:a ρ=.ok (.int i))(hb:b ρ=.ok (.int u)):e2 cy a b ρ=.ok (.int (i+u)):=aL ha hb rfl
theorem bM{a b:Ex}{ρ:En}{i u:Int}(ha:a ρ=.ok (.int i))(hb:b ρ=.ok (.int u))(h:0<u):e2 oMod a b ρ=.ok (.int (i % u)):=aL ha hb (if_pos h)
theorem nH{a b:Ex}{ρ:En}{x y:D}(h:a ρ=.ok x)(h2:b ρ=.ok y):cA [a,b] ρ=.ok (.tup [x,y]):=by
 simp only[cA,eList,h,h2,R.aW]
theorem bF{a:Ex}{ρ:En}{b:Bool}(ha:a ρ=.ok (.bl b)):tV a ρ=.ok b:=by
 simp only[tV,ha,R.aW,truth]
theorem oY{t:aG}{ρ:En}{b:Bool}(h:t ρ=.ok b):d6 t ρ=.ok (!b):=by
 simp only[d6,h,R.aW]
theorem iQ{t u:aG}{ρ:En}{b c:Bool}(h:t ρ=.ok b)(h':u ρ=.ok c):b7 t u ρ=.ok (b||c):=by
 simp only[b7,h,R.aW]
 cases b
 ·rw[if_neg (by decide),h'];rfl
 ·rfl
theorem wM{t u:aG}{ρ:En}(h:t ρ=.ok true):b7 t u ρ=.ok true:=by
 simp only[b7,h,R.aW];rfl
theorem rM{t u:aG}{ρ:En}{b c:Bool}(h:t ρ=.ok b)(h':u ρ=.ok c):gw t u ρ=.ok (b&&c):=by
 simp only[gw,h,R.aW]
 cases b
 ·rfl
 ·rw[if_pos rfl,h'];rfl
theorem mQ{a b:Ex}{ρ:En}{x:Bool}{d:D}(ha:a ρ=.ok (.bl true))(hb:b ρ=.ok d):dH a b ρ=.ok d:=by
 simp only[dH,ha,R.aW];exact hb
theorem bY{a:Ex}{ρ:En}{d:D}(h:a ρ=.ok d):aS a ρ=.ok (.ret d):=by
 simp only[aS,h,R.aW]
theorem bH{i:Nat}{a:Ex}{ρ:En}{d:D}(h:a ρ=.ok d):bg (aF i) a ρ=.ok (.next (ρ.set i (.sh d))):=by
 simp only[bg,h,R.aW,aF]
theorem tR{i:Nat}{a:Ex}{ρ:En}{d:D}{xs:List D}(h:a ρ=.ok d)(hi:ρ[i]? =some (.ol xs))(hl:xs.length<16777216):iZ i a ρ=.ok (.next (ρ.set i (.ol (xs++[d])))):=by
 simp only[iZ,h,R.aW,hi]
 exact if_pos hl
theorem tF{i:Nat}{a:Ex}{ρ:En}{xs:List D}(h:a ρ=.ok (.lst xs)):jJ i a ρ=.ok (.next (ρ.set i (.ol xs))):=by
 simp only[jJ,h,R.aW]
theorem Ag{n:Nat}{j:Int}(h0:0≤j)(h1:j<n):cX n j=some j.toNat:=by
 unfold cX;rw[if_pos h0,if_pos h1]
theorem jj{xs:List D}{i:Int}{d:D}(h:cm xs i=some d):au (.lst xs) (.int i)=.ok d:=by simp[h]
theorem qk{xs:List D}{i:Int}{d:D}(h:cm xs i=some d):au (.tup xs) (.int i)=.ok d:=by simp[h]
theorem eq_int(i j:Int):oEq (.int i) (.int j)=.ok (.bl (decide (i=j))):=by
 unfold oEq
 rw[CF,if_pos rfl]
 show R.ok (D.bl (i==j))=_
 rfl
theorem lt_int(i j:Int):oLt (.int i) (.int j)=.ok (.bl (decide (i<j))):=rfl
theorem mw{n d:Nat}{v:Int}(h:0≤v):aJ n d (some v)=min v.toNat n:=if_neg (by omega)
theorem yV{α:Type}(xs:List α){v:Int}(h:0≤v):cut xs none (some v)=xs.take v.toNat:=by
 unfold cut
 rw[mw h]
 show((xs.drop 0).take _)=_
 rw[List.drop_zero]
 show xs.take (min v.toNat xs.length - 0)=_
 rw[Nat.sub_zero]
 by_cases hl:v.toNat≤xs.length
 ·rw[Nat.min_eq_left hl]
 ·rw[Nat.min_eq_right (by omega),List.take_length,List.take_of_length_le (by omega)]
theorem Cm{α:Type}(xs:List α){v:Int}(h:0≤v):cut xs (some v) none=xs.drop v.toNat:=by
 unfold cut
 rw[mw h]
 show(xs.drop (min v.toNat xs.length)).take (xs.length - min v.toNat xs.length)=_
 by_cases hl:v.toNat≤xs.length
 · rw[Nat.min_eq_left hl]
   exact List.take_of_length_le (by rw[List.length_drop];omega)
 ·rw[Nat.min_eq_right (by omega),List.drop_length,List.drop_of_length_le (by omega),List.take_nil]
mutual
theorem pb:∀d:D,lay d=true→bA d d=true
 |.aA,_=>rfl
 |.bl b,_=>by simp
 |.int i,_=>by simp
 |.str x,_=>by simp
 |.tup xs,h=>by unfold bA;exact nP xs (by unfold lay at h;exact h)
 |.lst xs,h=>by unfold bA;exact nP xs (by unfold lay at h;exact h)
 |.ao _ _,h=>by unfold lay at h;cases h
 |.b6 _ _ _,h=>by unfold lay at h;cases h
theorem nP:∀ds:List D,dB ds=true→iy ds ds=true
 |[],_=>rfl
 | d::ds,h=>by
   unfold dB at h
   rw[Bool.and_eq_true]at h
   unfold iy
   rw[pb d h.1,nP ds h.2];rfl
end
theorem sO{d:D}(h:lay d=true)(h2:dep d≤60):dY d d=true:=by
 unfold dY
 rw[h,decide_eq_true (show min (dep d) (dep d)≤60 by omega)];simp
theorem ne_self{d:D}(h:lay d=true)(h2:dep d≤60):cT d d=.ok (.bl false):=by
 unfold cT
 rw[if_pos (sO h h2),pb d h];rfl
theorem eq_self{d:D}(h:lay d=true)(h2:dep d≤60):oEq d d=.ok (.bl true):=by
 unfold oEq cQ
 rw[sO h h2,pb d h];rfl
theorem CH{ds:List D}(h:∀d∈ds,lay d=true):dB ds=true:=by
 induction ds with
 |nil=>rfl
 | cons d ds ih=>
   unfold dB
   rw[h d List.mem_cons_self,ih fun x hx=>h x (List.mem_cons_of_mem _ hx)];rfl
theorem kC{α:Type}{tg:bo}{el:Ex}{ρ:En}(u:α→D)(v:α→D):∀ {xs:List α},(∀x∈xs,∃ρ1,tg (u x) ρ=.ok ρ1∧el ρ1=.ok (v x))→fG tg [] el ρ (xs.map u)=.ok (xs.map v)
 |[],_=>rfl
 | x::xs,h=>by
   obtain⟨ρ1,e1,e2⟩:=h x List.mem_cons_self
   rw[List.map_cons,fG,e1,R.aW]
   show(R.ok true).bind _=_
   rw[R.aW,if_pos rfl,e2,R.aW,kC u v (fun y hy=>h y (List.mem_cons_of_mem _ hy))]
   rfl
theorem mW{it:br}{n:Nat}{fv:List Nat}{tg:bo}{cs:List aG}{el:Ex}{ρ:En}{ds ys:List D}(hi:it ρ=.ok ds)(hl:ds.length≤16777216)(hc:fG tg cs el (List.replicate n .un++frees ρ fv) ds=.ok ys):dI it n fv tg cs el ρ=.ok (.lst ys):=by
 show(it ρ).bind _=_
 rw[hi,R.aW,if_pos hl,hc];rfl
theorem j9{it:br}{tg:bo}{body:Sm}{ρ:En}{ds:List D}{r:R Fl}(hi:it ρ=.ok ds)(h:forL tg body ds ρ=r):gP it tg body ρ=r:=by
 show(it ρ).bind _=_
 rw[hi,R.aW,h]
end G
end PL
set_option maxRecDepth 4000
set_option maxHeartbeats 400000
namespace PL
namespace C
open PySem G
noncomputable def kj(rec:List D→R T):List D→R T:=iF 1 (ak [aV (tV (e1 (bf .dict) (aa 0))) (eJ (kX (gE (gX (aa 0)) 1 [0] (aF 0) [] (xT [xD (aa 0),bR rec [e2 au (aa 1) (aa 0)]])))) (ba),aV (tV (e1 (bf .list) (aa 0))) (eJ (gE (iN (aa 0)) 1 [] (aF 0) [] (bR rec [aa 0]))) (ba),aV (tV (e1 (bf .tuple) (aa 0))) (eJ (xD (e1 fF (dI (iN (aa 0)) 1 [] (aF 0) [] (eX (bR rec [aa 0])))))) (ba),eJ (xD (aa 0))])
noncomputable def kT(rec:List D→R D):List D→R D:=fn 2 (ak [aV (tV (e1 (bf .dict) (aa 1))) (ak [aV (b7 (d6 (tV (e1 (bf .dict) (aa 0)))) (tV (e2 cT (e1 dg (aa 0)) (e1 dg (aa 1))))) (aS (eC (.bl false))) (ba),aS (e1 gY (dI (gX (aa 1)) 1 [0,1] (aF 0) [] (dH (e2 eZ (aa 0) (aa 1)) (aN rec [e2 au (aa 1) (aa 0),e2 au (aa 2) (aa 0)]))))]) (ba),aV (tV (e1 gD (aa 1))) (ak [aV (b7 (tV (e2 cT (e1 (bf .list) (aa 0)) (e1 (bf .list) (aa 1)))) (tV (e2 cT (e1 (bf .tuple) (aa 0)) (e1 (bf .tuple) (aa 1))))) (aS (eC (.bl false))) (ba),aS (dH (e2 oEq (e1 dg (aa 0)) (e1 dg (aa 1))) (e1 gY (dI (j4 (aa 0) (aa 1)) 2 [] (fP [0,1]) [] (aN rec [aa 0,aa 1]))))]) (ba),aS (dH (e2 oEq (aa 0) (aa 1)) (e2 oEq (e1 (bf .bool) (aa 0)) (e1 (bf .bool) (aa 1))))])
mutual
noncomputable def nice:D→Bool
 |.str x=>x.cps.all (· <0x110000)
 |.tup xs=>decide (xs.length≤1000)&&eY xs
 |.lst xs=>decide (xs.length≤1000)&&eY xs
 |.ao ks vs=>decide ks.Nodup&&decide (ks.length=vs.length)&&decide (ks.length≤1000)&&eY vs
 |.b6 _ _ _=>false
 |_=>true
noncomputable def eY:List D→Bool
 |[]=>true
 |d::ds=>nice d&&eY ds
end
mutual
noncomputable def aZ:D→Nat
 |.tup xs=>cB xs+1
 |.lst xs=>cB xs+1
 |.ao _ vs=>cB vs+1
 |_=>0
noncomputable def cB:List D→Nat
 |[]=>0
 |d::ds=>max (aZ d) (cB ds)
end
mutual
noncomputable def deep:D→T
 |.lst xs=>.l (eU xs)
 |.ao ks vs=>.m ks (eU vs)
 |x=>.d x
noncomputable def eU:List D→List T
 |[]=>[]
 |d::ds=>deep d::eU ds
end
theorem km:∀ds:List D,eU ds=ds.map deep
 |[]=>rfl
 |d::ds=>by show deep d::eU ds=_;rw[km ds];rfl
mutual
theorem iz:∀d:D,T.toD (deep d)=d
 |.lst xs=>by show D.lst (T.d7 (eU xs))=_;rw[nU xs]
 |.ao ks vs=>by show D.ao ks (T.d7 (eU vs))=_;rw[nU vs]
 |.aA=>rfl
 |.bl _=>rfl
 |.int _=>rfl
 |.str _=>rfl
 |.tup _=>rfl
 |.b6 _ _ _=>rfl
theorem nU:∀ds:List D,T.d7 (eU ds)=ds
 |[]=>rfl
 |d::ds=>by show T.toD (deep d)::T.d7 (eU ds)=_;rw[iz d,nU ds]
end
theorem iK:∀ {ds:List D},eY ds=true→∀d∈ds,nice d=true
 |[],_,_,h=>nomatch h
 | d::ds,h,x,hx=>by
   unfold eY at h
   rw[Bool.and_eq_true]at h
   rcases List.mem_cons.mp hx with rfl|hx
   ·exact h.1
   ·exact iK h.2 x hx
theorem iD:∀ {ds:List D} {d:D},d∈ds→aZ d≤cB ds
 |[],_,h=>nomatch h
 | x::ds,d,h=>by
   show aZ d≤max (aZ x) (cB ds)
   rcases List.mem_cons.mp h with rfl|h
   ·omega
   ·have:=iD h;omega
theorem pq{α:Type}{tg:bo}{el:Xt}{ρ:En}(u:α→D)(v:α→T):∀ {xs:List α},(∀x∈xs,∃ρ1,tg (u x) ρ=.ok ρ1∧el ρ1=.ok (v x))→fm tg [] el ρ (xs.map u)=.ok (xs.map v)
 |[],_=>rfl
 | x::xs,h=>by
   obtain⟨ρ1,e1,e2⟩:=h x List.mem_cons_self
   rw[List.map_cons,fm,e1,R.aW]
   show(R.ok true).bind _=_
   rw[R.aW,if_pos rfl,e2,R.aW,pq u v (fun y hy=>h y (List.mem_cons_of_mem _ hy))]
   rfl
theorem rT{it:br}{n:Nat}{fv:List Nat}{tg:bo}{cs:List aG}{el:Xt}{ρ:En}{ds:List D}{ts:List T}(hi:it ρ=.ok ds)(hl:ds.length≤16777216)(hc:fm tg cs el (List.replicate n .un++frees ρ fv) ds=.ok ts):gE it n fv tg cs el ρ=.ok (.l ts):=by
 unfold gE lW
 rw[hi,R.aW,if_pos hl,hc];rfl
theorem nI{z:Ky}{v:D}:∀ {ks:List Ky} {vs:List D},ks.Nodup→(z,v)∈ks.zip vs→bj z ks vs=some v
 |[],_,_,h=>by simp at h
 |_::_,[],_,h=>by simp at h
 | a::ks,x::vs,hn,h=>by
   rw[List.zip_cons_cons]at h
   unfold bj
   have hn:=List.nodup_cons.mp hn
   rcases List.mem_cons.mp h with h|h
   ·cases h;rw[if_pos rfl]
   · have hz:a≠z:=fun e=>by subst e;exact hn.1 (List.of_mem_zip h).1
     rw[if_neg hz];exact nI hn.2 h
theorem pF(z:Ky):keyOf (bP z)=some z:=by cases z<;>rfl
theorem i8{z:Ky}{v:D}{ks:List Ky}{vs:List D}(h:bj z ks vs=some v):au (.ao ks vs) (bP z)=.ok v:=by
 show(match keyOf (bP z)with|some q=>(match bj q ks vs with|some v=>R.ok v|none=>.bad)|none=>.bad)=_
 rw[pF]
 show(match bj z ks vs with|some v=>R.ok v|none=>.bad)=_
 rw[h]
theorem tN{z:Ky}{v:D}{ks:List Ky}{vs:List D}(h:bj z ks vs=some v):eZ (bP z) (.ao ks vs)=.ok (.bl true):=by
 have:eZ (bP z) (.ao ks vs)=(match keyOf (bP z)with|some k=>R.ok (D.bl (bj k ks vs).isSome)|none=>.bad):=by cases z<;>rfl
 rw[this,pF]
 show R.ok (D.bl (bj z ks vs).isSome)=_
 rw[h];rfl
theorem uj:∀(ps:List (Ky×D)),g9 (ps.map fun p=>.tu [.d (bP p.1),deep p.2])=some (ps.map (·.1),ps.map fun p=>deep p.2)
 |[]=>rfl
 | p::ps=>by
   show(match keyOf (bP p.1),g9 (ps.map fun p=>.tu [.d (bP p.1),deep p.2])with|some z,some y=>some (z::y.1,deep p.2::y.2)|_,_=>none)=_
   rw[pF,uj ps];rfl
theorem ou{f:Xt}{ρ:En}{t:T}(h:f ρ=.ok t):eJ f ρ=.ok (.di t):=by unfold eJ;rw[h];rfl
theorem pw{a:Sm}{r:List Sm}{ρ:En}{t:T}(h:a ρ=.ok (.di t)):ak (a::r) ρ=.ok (.di t):=by
 show(a ρ).bind _=_
 rw[h];rfl
theorem AB{n:Nat}{b:Sm}{ds:List D}{t:T}(h:b (ds.map .sh++List.replicate (n - ds.length) .un)=.ok (.di t)):iF n b ds=.ok t:=by
 unfold iF;rw[h];rfl
theorem lr{m:List D→R T}{a:Ex}{ρ:En}{x:D}{t:T}(ha:a ρ=.ok x)(h:m [x]=.ok t):bR m [a] ρ=.ok t:=by
 unfold bR;simp only[eList,ha,R.aW];exact h
theorem qc{f:Xt}{ρ:En}{t:T}(h:f ρ=.ok t):eX f ρ=.ok (T.toD t):=by unfold eX;rw[h];rfl
theorem oJ:∀(n:Nat) (d:D),nice d=true→aZ d<n→jz kj n [d]=.ok (deep d)
 |0,_,_,h=>absurd h (Nat.not_lt_zero _)
 | n+1,d,hd,hn=>by
   show kj (jz kj n) [d]=_
   have ih:=fun x hx=>oJ n x hx
   generalize hrec:jz kj n=rec at ih
   unfold kj
   refine AB ?_
   cases d with
   |aA=>rfl
   |bl b=>rfl
   |int i=>rfl
   |str x=>rfl
   |b6 _ _ _=>cases hd
   | tup xs=>
     unfold nice at hd
     rw[Bool.and_eq_true,decide_eq_true_eq]at hd
     have hm:=iK hd.2
     have hdp:∀x∈xs,aZ x<n:=fun x hx=>by have:=iD hx;have:cB xs+1<n+1:=hn;omega
     show ak _ [.sh (.tup xs)]=_
     rw[aB (cq rfl),aB (cq rfl)]
     refine pw ?_
     rw[dk rfl]
     refine ou (t:=.d (.tup xs)) ?_
     unfold xD
     rw[dP (x:=.lst xs) (d:=.tup xs) (mW (ds:=xs) rfl (by omega) ?_) rfl]
     ·rfl
     · have:=kC (tg:=aF 0) (el:=eX (bR rec [aa 0])) (ρ:=List.replicate 1 .un++frees [.sh (.tup xs)] []) (u:=fun x:D=>x) (v:=fun x=>x) (xs:=xs) fun x hx=>⟨[.sh x],rfl,by rw[qc (lr rfl (ih x (hm x hx) (hdp x hx))),iz]⟩
       simpa using this
   | lst xs=>
     unfold nice at hd
     rw[Bool.and_eq_true,decide_eq_true_eq]at hd
     have hm:=iK hd.2
     have hdp:∀x∈xs,aZ x<n:=fun x hx=>by have:=iD hx;have:cB xs+1<n+1:=hn;omega
     show ak _ [.sh (.lst xs)]=_
     rw[aB (cq rfl)]
     refine pw ?_
     rw[dk rfl]
     refine ou (rT (ds:=xs) rfl (by omega) ?_)
     have:=pq (tg:=aF 0) (el:=bR rec [aa 0]) (ρ:=List.replicate 1 .un++frees [.sh (.lst xs)] []) (u:=fun x:D=>x) (v:=deep) (xs:=xs) fun x hx=>⟨[.sh x],rfl,lr rfl (ih x (hm x hx) (hdp x hx))⟩
     rw[km]
     simpa using this
   | ao ks vs=>
     unfold nice at hd
     rw[Bool.and_eq_true,Bool.and_eq_true,Bool.and_eq_true,decide_eq_true_eq,decide_eq_true_eq,decide_eq_true_eq]at hd
     obtain⟨⟨⟨cE,hl⟩,h1000⟩,hns⟩:=hd
     have hm:=iK hns
     have hdp:∀x∈vs,aZ x<n:=fun x hx=>by have:=iD hx;have:cB vs+1<n+1:=hn;omega
     show ak _ [.sh (.ao ks vs)]=_
     refine pw ?_
     rw[dk rfl]
     refine ou ?_
     have e1':gE (gX (aa 0)) 1 [0] (aF 0) [] (xT [xD (aa 0),bR rec [e2 au (aa 1) (aa 0)]]) [.sh (.ao ks vs)]=.ok (.l ((ks.zip vs).map fun p=>.tu [.d (bP p.1),deep p.2])):=by
       refine rT (ds:=(ks.zip vs).map fun p=>bP p.1) ?_ (by rw[List.length_map,List.length_zip];omega) ?_
       · show R.ok (ks.map bP)=_
         rw[show((ks.zip vs).map fun p=>bP p.1)=((ks.zip vs).map (·.1)).map bP by rw[List.map_map];rfl,List.map_fst_zip (by omega)]
       · refine pq (u:=fun p:Ky×D=>bP p.1) (v:=fun p=>.tu [.d (bP p.1),deep p.2]) fun p hp=>⟨[.sh (bP p.1),.sh (.ao ks vs)],rfl,?_⟩
         have hv:p.2∈vs:=(List.of_mem_zip (show(p.1,p.2)∈ks.zip vs from hp)).2
         have hc:bR rec [e2 au (aa 1) (aa 0)] [.sh (bP p.1),.sh (.ao ks vs)]=.ok (deep p.2):=lr (aL rfl rfl (i8 (nI cE hp))) (ih p.2 (hm _ hv) (hdp _ hv))
         unfold xT
         simp only[cW,hc,R.aW]
         rfl
     unfold kX
     rw[e1',R.aW]
     show(match g9 ((ks.zip vs).map fun p=>.tu [.d (bP p.1),deep p.2])with|some y=>if y.1.Nodup∧y.1.length≤1000 then R.ok (T.m y.1 y.2)else .bad|none=>.bad)=_
     rw[uj]
     show(if((ks.zip vs).map (·.1)).Nodup∧((ks.zip vs).map (·.1)).length≤1000 then R.ok (T.m ((ks.zip vs).map (·.1)) ((ks.zip vs).map fun p=>deep p.2))else .bad)=_
     rw[List.map_fst_zip (by omega),if_pos ⟨cE,h1000⟩,show((ks.zip vs).map fun p=>deep p.2)=((ks.zip vs).map (·.2)).map deep by rw[List.map_map];rfl,List.map_snd_zip (by omega)]
     show _=R.ok (T.m ks (eU vs))
     rw[km]
theorem all_true:∀ {α:Type} (xs:List α),allB (xs.map fun _=>D.bl true)=.ok (.bl true)
 |_,[]=>rfl
 | _,x::xs=>by
   show allB (D.bl true::xs.map fun _=>D.bl true)=_
   unfold allB
   rw[all_true xs];rfl
theorem p6:∀xs:List D,fQ xs xs=xs.map fun x=>.tup [x,x]
 |[]=>rfl
 |x::xs=>by show D.tup [x,x]::fQ xs xs=_;rw[p6 xs];rfl
theorem vn(i:Int):oEq (.int i) (.int i)=.ok (.bl true):=by rw[eq_int,decide_eq_true rfl]
theorem vw(i:Int):cT (.int i) (.int i)=.ok (.bl false):=ne_self rfl (Nat.zero_le _)
theorem vp:∀(n:Nat) (d:D),nice d=true→aZ d<n→i9 kT n [d,d]=.ok (.bl true)
 |0,_,_,h=>absurd h (Nat.not_lt_zero _)
 | n+1,d,hd,hn=>by
   show kT (i9 kT n) [d,d]=_
   have ih:=fun x hx=>vp n x hx
   generalize hrec:i9 kT n=rec at ih
   unfold kT
   refine cF ?_
   have leaf:∀d:D,lay d=true→dep d=0→bf .dict d=.ok (.bl false)→gD d=.ok (.bl false)→(∃b,bf .bool d=.ok (.bl b))→ak [aV (tV (e1 (bf .dict) (aa 1))) (ak [aV (b7 (d6 (tV (e1 (bf .dict) (aa 0)))) (tV (e2 cT (e1 dg (aa 0)) (e1 dg (aa 1))))) (aS (eC (.bl false))) (ba),aS (e1 gY (dI (gX (aa 1)) 1 [0,1] (aF 0) [] (dH (e2 eZ (aa 0) (aa 1)) (aN rec [e2 au (aa 1) (aa 0),e2 au (aa 2) (aa 0)]))))]) (ba),aV (tV (e1 gD (aa 1))) (ak [aV (b7 (tV (e2 cT (e1 (bf .list) (aa 0)) (e1 (bf .list) (aa 1)))) (tV (e2 cT (e1 (bf .tuple) (aa 0)) (e1 (bf .tuple) (aa 1))))) (aS (eC (.bl false))) (ba),aS (dH (e2 oEq (e1 dg (aa 0)) (e1 dg (aa 1))) (e1 gY (dI (j4 (aa 0) (aa 1)) 2 [] (fP [0,1]) [] (aN rec [aa 0,aa 1]))))]) (ba),aS (dH (e2 oEq (aa 0) (aa 1)) (e2 oEq (e1 (bf .bool) (aa 0)) (e1 (bf .bool) (aa 1))))] [.sh d,.sh d]=.ok (.ret (.bl true)):=fun d h1 h2 h3 h4 h5=>by
     obtain⟨b,hb⟩:=h5
     rw[aB (cq (bF (dP rfl h3))),aB (cq (bF (dP rfl h4)))]
     exact bQ (bY (mQ (x:=true) (aL (o:=oEq) rfl rfl (eq_self h1 (by omega))) (aL (o:=oEq) (dP rfl hb) (dP rfl hb) (eq_self rfl (Nat.zero_le _)))))
   cases d with
   |aA=>exact leaf _ rfl rfl rfl rfl ⟨_,rfl⟩
   |bl b=>exact leaf _ rfl rfl rfl rfl ⟨_,rfl⟩
   |int i=>exact leaf _ rfl rfl rfl rfl ⟨_,rfl⟩
   |str x=>exact leaf _ (by unfold nice at hd;unfold lay;exact hd) rfl rfl rfl ⟨_,rfl⟩
   |b6 _ _ _=>cases hd
   | tup xs=>
     unfold nice at hd
     rw[Bool.and_eq_true,decide_eq_true_eq]at hd
     have hm:=iK hd.2
     have hdp:∀x∈xs,aZ x<n:=fun x hx=>by have:=iD hx;have:cB xs+1<n+1:=hn;omega
     show ak _ [.sh (.tup xs),.sh (.tup xs)]=_
     rw[aB (cq rfl)]
     refine bQ ?_
     rw[dk rfl,aB (cq rfl)]
     refine bQ (bY (mQ (x:=true) (aL (x:=.int xs.length) (y:=.int xs.length) rfl rfl (vn _)) ?_))
     refine dP (x:=.lst (xs.map fun _=>.bl true)) (mW (ds:=xs.map fun x=>.tup [x,x]) (by show R.ok (fQ xs xs)=_;rw[p6]) (by rw[List.length_map];omega) ?_) (all_true xs)
     exact kC (u:=fun x:D=>.tup [x,x]) (v:=fun _=>.bl true) fun x hx=>⟨[.sh x,.sh x],rfl,dG rfl rfl (ih x (hm x hx) (hdp x hx))⟩
   | lst xs=>
     unfold nice at hd
     rw[Bool.and_eq_true,decide_eq_true_eq]at hd
     have hm:=iK hd.2
     have hdp:∀x∈xs,aZ x<n:=fun x hx=>by have:=iD hx;have:cB xs+1<n+1:=hn;omega
     show ak _ [.sh (.lst xs),.sh (.lst xs)]=_
     rw[aB (cq rfl)]
     refine bQ ?_
     rw[dk rfl,aB (cq rfl)]
     refine bQ (bY (mQ (x:=true) (aL (x:=.int xs.length) (y:=.int xs.length) rfl rfl (vn _)) ?_))
     refine dP (x:=.lst (xs.map fun _=>.bl true)) (mW (ds:=xs.map fun x=>.tup [x,x]) (by show R.ok (fQ xs xs)=_;rw[p6]) (by rw[List.length_map];omega) ?_) (all_true xs)
     exact kC (u:=fun x:D=>.tup [x,x]) (v:=fun _=>.bl true) fun x hx=>⟨[.sh x,.sh x],rfl,dG rfl rfl (ih x (hm x hx) (hdp x hx))⟩
   | ao ks vs=>
     unfold nice at hd
     rw[Bool.and_eq_true,Bool.and_eq_true,Bool.and_eq_true,decide_eq_true_eq,decide_eq_true_eq,decide_eq_true_eq]at hd
     obtain⟨⟨⟨cE,hl⟩,h1000⟩,hns⟩:=hd
     have hm:=iK hns
     have hdp:∀x∈vs,aZ x<n:=fun x hx=>by have:=iD hx;have:cB vs+1<n+1:=hn;omega
     show ak _ [.sh (.ao ks vs),.sh (.ao ks vs)]=_
     refine bQ ?_
     rw[dk rfl,aB (cq (iQ (b:=false) (c:=false) rfl (bF (aL (x:=.int ks.length) (y:=.int ks.length) rfl rfl (vw _)))))]
     refine bQ (bY (dP (x:=.lst ((ks.zip vs).map fun _=>.bl true)) (mW (ds:=(ks.zip vs).map fun p=>bP p.1) ?_ (by rw[List.length_map,List.length_zip];omega) ?_) (all_true _)))
     · show R.ok (ks.map bP)=_
       rw[show((ks.zip vs).map fun p=>bP p.1)=((ks.zip vs).map (·.1)).map bP by rw[List.map_map];rfl,List.map_fst_zip (by omega)]
     · refine kC (u:=fun p:Ky×D=>bP p.1) (v:=fun _=>.bl true) fun p hp=>⟨[.sh (bP p.1),.sh (.ao ks vs),.sh (.ao ks vs)],rfl,?_⟩
       have hf:=nI cE (show(p.1,p.2)∈ks.zip vs from hp)
       have hv:p.2∈vs:=(List.of_mem_zip (show(p.1,p.2)∈ks.zip vs from hp)).2
       exact mQ (x:=true) (aL rfl rfl (tN hf)) (dG (aL rfl rfl (i8 hf)) (aL rfl rfl (i8 hf)) (ih p.2 (hm _ hv) (hdp _ hv)))
end C
end PL
set_option maxRecDepth 100000
namespace PL
namespace eR
open PySem G C
theorem rO{a b:Ex}{ρ:En}{i u:Int}(ha:a ρ=.ok (.int i))(hb:b ρ=.ok (.int u)):e2 g6 a b ρ=.ok (.bl (decide (u<i))):=aL ha hb rfl
theorem lZ{a b:Ex}{ρ:En}{i u:Int}(ha:a ρ=.ok (.int i))(hb:b ρ=.ok (.int u)):e2 oLt a b ρ=.ok (.bl (decide (i<u))):=aL ha hb rfl
theorem gK{a b:Ex}{ρ:En}{i u:Int}(ha:a ρ=.ok (.int i))(hb:b ρ=.ok (.int u)):e2 oEq a b ρ=.ok (.bl (decide (i=u))):=aL ha hb (eq_int i u)
theorem js{a b:Ex}{ρ:En}{i u:Int}(ha:a ρ=.ok (.int i))(hb:b ρ=.ok (.int u))(h:small i=true∨small u=true):e2 fS a b ρ=.ok (.int (i*u)):=aL ha hb (if_pos (by rcases h with h|h<;>simp[h]))
theorem cw{a b:Ex}{ρ:En}{i u:Int}(ha:a ρ=.ok (.int i))(hb:b ρ=.ok (.int u))(h:pT u=true):e2 oDiv a b ρ=.ok (.int (i / u)):=aL ha hb (if_pos h)
theorem Cz{i:Nat}{k e:Ex}{ρ:En}{d q:D}{z:Ky}{ks ks':List Ky}{vs vs':List D}(he:e ρ=.ok d)(hk:k ρ=.ok q)(hz:keyOf q=some z)(hi:ρ[i]? =some (.od ks vs))(hl:ks.length<1000)(hp:putL z d ks vs=(ks',vs')):kW i k e ρ=.ok (.next (ρ.set i (.od ks' vs'))):=by
 unfold kW
 simp only[he,hk,R.aW,hi,hz]
 rw[if_pos hl,hp]
theorem qe{i:Nat}{a:Ex}{ρ:En}{ks:List Ky}{vs:List D}(h:a ρ=.ok (.ao ks vs)):jE i a ρ=.ok (.next (ρ.set i (.od ks vs))):=by
 simp only[jE,h,R.aW]
theorem t6{i:Nat}{a:Ex}{ρ:En}{ks as:List Ky}{vs bs:List D}(h:a ρ=.ok (.ao ks vs))(hi:ρ[i]? =some (.od as bs))(hl:ks.length+as.length<1000):kz i a ρ=.ok (.next (ρ.set i (.od (eM ks vs as bs).1 (eM ks vs as bs).2))):=by
 unfold kz
 simp only[h,R.aW,hi]
 exact if_pos hl
theorem rR{i:Nat}{f:Xt}{ρ:En}{t:T}(h:f ρ=.ok t)(hn:kA ρ=true):ia i f ρ=.ok (.next (ρ.set i (.on (.tr t)))):=by
 unfold ia
 rw[h,R.aW,if_pos hn]
theorem qb{i:Nat}{ρ:En}{t:T}(h:ρ[i]? =some (.on (.tr t))):iw i ρ=.ok (.next (ρ.set i (.sh (T.toD t)))):=by
 unfold iw
 rw[h]
noncomputable def look{α:Type}(p:Int):List Int→List α→Option α
 |k::ks,e::es=>if k=p then some e else look p ks es
 |_,_=>none
noncomputable def IK(ks:List Int):List Ky:=ks.map .inl
noncomputable def bG{α:Type}(p:Int)(e:α)(ks:List Int)(es:List α):List α:=List.zipWith (fun a x=>if a=p then e else x) ks es
theorem kI{α:Type}(f:α→D)(p:Int):∀(ks:List Int) (es:List α),bj (.inl p) (IK ks) (es.map f)=(look p ks es).map f
 |[],es=>by simp[IK,bj,look]
 |k::ks,[]=>by simp[IK,bj,look]
 | k::ks,e::es=>by
   have ih:=kI f p ks es
   unfold IK at ih ⊢
   rw[List.map_cons,List.map_cons,bj,look]
   by_cases h:k=p
   ·rw[if_pos (by rw[h]),if_pos h];rfl
   ·rw[if_neg (fun z=>h (Sum.inl.inj z)),if_neg h];exact ih
theorem eN{α:Type}{p:Int}{e:α}:∀ {ks:List Int} {es:List α},look p ks es=some e→e∈es∧p∈ks
 |[],es,h=>by simp[look]at h
 |k::ks,[],h=>by simp[look]at h
 | k::ks,x::es,h=>by
   unfold look at h
   by_cases hk:k=p
   ·rw[if_pos hk]at h;cases h;exact⟨List.mem_cons_self,by rw[hk];exact List.mem_cons_self⟩
   · rw[if_neg hk]at h
     obtain⟨h1,h2⟩:=eN h
     exact⟨List.mem_cons_of_mem _ h1,List.mem_cons_of_mem _ h2⟩
theorem nq{α:Type}{p:Int}:∀ {ks:List Int} {es:List α},ks.length=es.length→p∈ks→∃e,look p ks es=some e
 |[],es,_,h=>by simp at h
 |k::ks,[],hl,_=>by simp at hl
 | k::ks,x::es,hl,h=>by
   unfold look
   by_cases hk:k=p
   ·exact⟨x,if_pos hk⟩
   · rw[if_neg hk]
     exact nq (by simpa using hl) ((List.mem_cons.mp h).resolve_left fun z=>hk z.symm)
theorem EX{α:Type}{p n:Int}{e:α}:∀ {ks:List Int} {es:List α},ks.length=es.length→p∈ks→(∃w,look p ks (bG n e ks es)=some w)
 |ks,es,hl,h=>nq (by unfold bG;rw[List.length_zipWith];omega) h
theorem oU{α:Type}{p:Int}{e:α}{ks:List Int}{es:List α}(hl:ks.length=es.length):ks.length=(bG p e ks es).length:=by unfold bG;rw[List.length_zipWith];omega
theorem mZ{α:Type}{q:Int}{e:α}:∀ {ks:List Int} {es:List α},∀x∈bG q e ks es,x∈es∨x=e
 |[],es,x,h=>by simp[bG]at h
 |k::ks,[],x,h=>by simp[bG]at h
 | k::ks,y::es,x,h=>by
   unfold bG at h
   rw[List.zipWith_cons_cons]at h
   rcases List.mem_cons.mp h with h|h
   · by_cases hk:k=q
     ·rw[if_pos hk]at h;exact .inr h
     ·rw[if_neg hk]at h;exact .inl (by rw[h];exact List.mem_cons_self)
   ·exact(mZ x h).imp (List.mem_cons_of_mem _) id
theorem o6(q:Int)(ks:List Int):((IK ks).any fun a=>decide (a=.inl q))=decide (q∈ks):=by
 unfold IK
 induction ks with
 |nil=>simp
 | cons k ks ih=>
   rw[List.map_cons,List.any_cons,ih]
   by_cases h:k=q
   ·subst h;simp
   · have h':¬q=k:=fun z=>h z.symm
     have h2:¬((Sum.inl k:Ky)=.inl q):=fun z=>h (Sum.inl.inj z)
     simp[h2,h']
theorem zipWith_map{α β:Type}(f:α→β)(q:Int)(e:α):∀(ks:List Int) (es:List α),List.zipWith (fun(a:Ky) v=>if a=.inl q then f e else v) (IK ks) (es.map f)=(bG q e ks es).map f
 |[],es=>by simp[IK,bG]
 |k::ks,[]=>by simp[IK,bG]
 | k::ks,x::es=>by
   have ih:=zipWith_map f q e ks es
   unfold IK bG at*
   simp only[List.map_cons,List.zipWith_cons_cons]
   rw[ih]
   by_cases h:k=q
   ·rw[if_pos h,if_pos (by rw[h])]
   ·rw[if_neg h,if_neg (fun z=>h (Sum.inl.inj z))]
theorem uE{α:Type}(f:α→D){q:Int}{e:α}{ks:List Int}{es:List α}(h:q∈ks):putL (.inl q) (f e) (IK ks) (es.map f)=(IK ks,(bG q e ks es).map f):=by
 unfold putL
 rw[o6,if_pos (decide_eq_true h),zipWith_map]
theorem oo{α:Type}(f:α→D){q:Int}{e:α}{ks:List Int}{es:List α}(h:q∈ks):gf (.inl q) (.d (f e)) (IK ks) (es.map fun x=>.d (f x))=(IK ks,(bG q e ks es).map fun x=>.d (f x)):=by
 unfold gf
 rw[o6,if_pos (decide_eq_true h),zipWith_map (fun x=>T.d (f x))]
theorem wR{α:Type}(f:α→D){q:Int}{e:α}{ks:List Int}{es:List α}(h:q∉ks):gf (.inl q) (.d (f e)) (IK ks) (es.map fun x=>.d (f x))=(IK (ks++[q]),(es++[e]).map fun x=>.d (f x)):=by
 unfold gf
 rw[o6,if_neg (by rw[decide_eq_false h];decide)]
 unfold IK
 rw[List.map_append,List.map_append];rfl
noncomputable def ins{α:Type}(q:Int)(e:α)(ks:List Int)(es:List α):List Int×List α:=if q∈ks then(ks,bG q e ks es)else(ks++[q],es++[e])
theorem oV{α:Type}(f:α→D){q:Int}{e:α}{ks:List Int}{es:List α}:gf (.inl q) (.d (f e)) (IK ks) (es.map fun x=>.d (f x))=(IK (ins q e ks es).1,(ins q e ks es).2.map fun x=>.d (f x)):=by
 unfold ins
 by_cases h:q∈ks
 ·rw[if_pos h,oo f h]
 ·rw[if_neg h,wR f h]
inductive Ent where
 |own (ws:List Int)|ln (n:Int)
noncomputable def W(ws:List Int):D:=.tup (ws.map .int)
noncomputable def Ent.d:Ent→D
 |.own ws=>.tup [S "own",W ws]
 |.ln n=>.tup [S "lent",.int n]
noncomputable def ar(ks:List Int)(es:List Ent):D:=.ao (IK ks) (es.map Ent.d)
noncomputable def aM(ls:List Int)(ws:List (List Int)):D:=.ao (IK ls) (ws.map W)
noncomputable def KS:List Ky:=[.inr (Str.ofString "parent"),.inr (Str.ofString "rank"),.inr (Str.ofString "regs"),.inr (Str.ofString "row"),.inr (Str.ofString "pages"),.inr (Str.ofString "handles"),.inr (Str.ofString "waits"),.inr (Str.ofString "handler"),.inr (Str.ofString "rung"),.inr (Str.ofString "saved")]
structure Q where
 (p k g r h w hd ru sv:D)
noncomputable def tk(q:Q)(pg:D):D:=.ao KS [q.p,q.k,q.g,q.r,pg,q.h,q.w,q.hd,q.ru,q.sv]
noncomputable def SK:List Ky:=[.inr (Str.ofString "tasks"),.inr (Str.ofString "lent"),.inr (Str.ofString "nodes"),.inr (Str.ofString "boxes"),.inr (Str.ofString "clock")]
noncomputable def bD:D:=.ao [.inl 0,.inl 1] [.tup [S "folder",.ao [.inl 7] [.int 1]],.tup [S "file",.lst [.int 5,.int 6]]]
noncomputable def bK:D:=.ao [.inl 2] [.tup [.int 3,.lst [.int 9]]]
noncomputable def eF(j:Bool)(a b:Int)(A B:D):D:=match j with
 |false=>.ao [.inl a,.inl b] [A,B]
 |true=>.ao [.inl a,.inl b] [B,A]
noncomputable def tid(j:Bool)(a b:Int):Int:=match j with
 |false=>a
 |true=>b
noncomputable def st(j:Bool)(a b:Int)(q q':Q)(pg pg' lt:D):D:=.ao SK [eF j a b (tk q pg) (tk q' pg'),lt,bD,bK,.int 4]
section
variable{j:Bool}{a b:Int}{q q':Q}{pg pg' lt A B:D}
theorem nB:au (st j a b q q' pg pg' lt) (S "tasks")=.ok (eF j a b (tk q pg) (tk q' pg')):=by kernel_rfl
theorem lL:au (st j a b q q' pg pg' lt) (S "lent")=.ok lt:=by kernel_rfl
theorem Ah:au (tk q pg) (S "pages")=.ok pg:=by kernel_rfl
theorem iu{a b:Int}(h:a≠b):¬((Sum.inl a:Ky)=.inl b):=fun z=>h (Sum.inl.inj z)
theorem u7(h:a≠b):∃ks vs,eF j a b A B=.ao ks vs∧bj (.inl (tid j a b)) ks vs=some A:=by
 cases j with
 |false=>exact⟨_,_,rfl,if_pos rfl⟩
 |true=>exact⟨_,_,rfl,by show(if(Sum.inl a:Ky)=.inl b then _ else _)=_;rw[if_neg (iu h)];exact if_pos rfl⟩
theorem BW(h:a≠b):au (eF j a b A B) (.int (tid j a b))=.ok A:=by
 obtain⟨ks,vs,e1,e2⟩:=u7 (A:=A) (B:=B) (j:=j) h
 rw[e1]
 exact i8 (z:=.inl (tid j a b)) e2
theorem Dt(h:a≠b):jG (.int (tid j a b)) (eF j a b A B)=.ok (.bl false):=by
 obtain⟨ks,vs,e1,e2⟩:=u7 (A:=A) (B:=B) (j:=j) h
 rw[e1]
 unfold jG
 rw[show eZ (.int (tid j a b)) (.ao ks vs)=.ok (.bl true)from tN (z:=.inl (tid j a b)) e2];rfl
theorem Bq(h:a≠b){A':D}:∃ks vs vs',eF j a b A B=.ao ks vs∧ks.length=2∧bj (.inl (tid j a b)) ks vs=some A∧putL (.inl (tid j a b)) A' ks vs=(ks,vs')∧eF j a b A' B=.ao ks vs':=by
 cases j with
 | false=>
   refine⟨_,_,_,rfl,rfl,if_pos rfl,?_,rfl⟩
   unfold putL
   rw[if_pos (by simp[tid])]
   show(_,[if(Sum.inl a:Ky)=.inl a then A' else A,if(Sum.inl b:Ky)=.inl a then A' else B])=_
   rw[if_pos rfl,if_neg (iu (Ne.symm h))]
 | true=>
   refine⟨_,_,_,rfl,rfl,by show(if(Sum.inl a:Ky)=.inl b then _ else _)=_;rw[if_neg (iu h)];exact if_pos rfl,?_,rfl⟩
   unfold putL
   rw[if_pos (by simp[tid])]
   show(_,[if(Sum.inl a:Ky)=.inl b then A' else B,if(Sum.inl b:Ky)=.inl b then A' else A])=_
   rw[if_pos rfl,if_neg (iu h)]
theorem mC(h:a≠b){x y:Ex}{ρ:En}(hx:x ρ=.ok (st j a b q q' pg pg' lt))(hy:y ρ=.ok (.int (tid j a b))):(e2 au (e2 au (e2 au x (eC (S "tasks"))) y) (eC (S "pages"))) ρ=.ok pg:=
 aL (aL (aL hx rfl nB) hy (BW h)) rfl Ah
end
noncomputable def ew(ls:List Int)(lw:List (List Int)):Ent→Option (List Int)
 |.own ws=>some ws
 |.ln n=>look n ls lw
noncomputable def Lt(ls:List Int)(lw:List (List Int)):Prop:=ls.Nodup∧ls.length=lw.length∧ls.length<64∧∀w∈lw,w.length=16
noncomputable def gg(ls:List Int):Ent→Prop
 |.own ws=>ws.length=16
 |.ln n=>n∈ls
noncomputable def Pg(ls ks:List Int)(es:List Ent):Prop:=ks.Nodup∧ks.length=es.length∧ks.length<64∧∀e∈es,gg ls e
theorem lX{ls:List Int}{lw:List (List Int)}{e:Ent}(hl:Lt ls lw)(he:gg ls e):∃w,ew ls lw e=some w∧w.length=16:=by
 cases e with
 |own ws=>exact⟨ws,rfl,he⟩
 | ln n=>
   obtain⟨w,hw⟩:=nq hl.2.1 he
   exact⟨w,hw,hl.2.2.2 w (eN hw).1⟩
end eR
end PL
namespace PL
namespace eR
open PySem G C
section
variable{j:Bool}{a b:Int}{q q':Q}{pg':D}{ls ks:List Int}{lw:List (List Int)}{es:List Ent}
theorem nZ(h:a≠b){p:Int}{lt:D}:ik [st j a b q q' (ar ks es) pg' lt,.int (tid j a b),.int p]=.ok (((look p ks es).map Ent.d).getD .aA):=by
 rw[ik]
 refine cF ?_
 show ak _ [.sh (st j a b q q' (ar ks es) pg' lt),.sh (.int (tid j a b)),.sh (.int p)]=_
 rw[aB (cq (bF (aL rfl (aL rfl rfl nB) (Dt h))))]
 refine bQ (bY (aL (mC h rfl rfl) rfl ?_))
 show R.ok ((bj (.inl p) (IK ks) (es.map Ent.d)).getD .aA)=_
 rw[kI]
theorem DC{w:List Int}(h:w.length=16)(i:Int):cm (w.map D.int) (i % 16)=some (.int (w.getD (i % 16).toNat 0)):=by
 have h1:=Int.emod_nonneg i (show(16:Int)≠0 by decide)
 have h2:=Int.emod_lt_of_pos i (show(0:Int)<16 by decide)
 rw[jO h1 (by rw[List.length_map];omega)]
 have h3:(i % 16).toNat<w.length:=by omega
 simp[List.getD_eq_getElem?_getD,h3]
theorem oN{w:List Int}(h:w.length=16)(i:Int):au (W w) (.int (i % 16))=.ok (.int (w.getD (i % 16).toNat 0)):=qk (DC h i)
theorem tK{n:Int}{w:List Int}(h:look n ls lw=some w):au (aM ls lw) (.int n)=.ok (W w):=i8 (z:=.inl n) (by rw[kI,h];rfl)
theorem eq_str{x y:Str}{c:Bool}(h:decide (x=y)=c):oEq (.str x) (.str y)=.ok (.bl c):=by
 unfold oEq
 rw[Ds,if_pos rfl]
 show R.ok (D.bl (decide (x=y)))=_
 rw[h]
theorem mP:oEq (S "own") (S "own")=.ok (.bl true):=eq_str (by kernel_rfl)
theorem mI:oEq (S "lent") (S "own")=.ok (.bl false):=eq_str (by kernel_rfl)
theorem u6{e:Ent}{w:List Int}{pg:D}(he:ew ls lw e=some w):hZ [st j a b q q' pg pg' (aM ls lw),e.d]=.ok (W w):=by
 rw[hZ]
 refine cF (bY ?_)
 show g8 _ _ _ [.sh (st j a b q q' pg pg' (aM ls lw)),.sh e.d]=_
 cases e with
 | own ws=>
   cases he
   rw[sx (bF (aL (o:=oEq) (x:=S "own") rfl rfl mP))]
   rfl
 | ln n=>
   rw[tI (bF (aL (o:=oEq) (x:=S "lent") rfl rfl mI))]
   exact aL (aL rfl rfl lL) (aL (x:=(Ent.ln n).d) (y:=.int 1) rfl rfl rfl) (tK he)
noncomputable def gM(ks:List Int)(es:List Ent)(ls:List Int)(lw:List (List Int))(i:Int):D:=match look (i / 16) ks es with
 |none=>.aA
 |some e=>.int (((ew ls lw e).getD []).getD (i % 16).toNat 0)
theorem DW(h:a≠b)(hp:Pg ls ks es)(hl:Lt ls lw)(i:Int):kh [st j a b q q' (ar ks es) pg' (aM ls lw),.int (tid j a b),.int i]=.ok (gM ks es ls lw i):=by
 rw[kh]
 refine cF ?_
 show ak _ [.sh (st j a b q q' (ar ks es) pg' (aM ls lw)),.sh (.int (tid j a b)),.sh (.int i),.un]=_
 rw[aB (bH (fX rfl rfl (cw rfl rfl (by decide)) (nZ h (p:=i / 16))))]
 unfold gM
 cases e:look (i / 16) ks es with
 |none=>exact bQ (bY (by rw[sx rfl];rfl))
 | some x=>
   obtain⟨w,hw,h16⟩:=lX hl (hp.2.2.2 x (eN e).1)
   refine bQ (bY ?_)
   show g8 _ _ _ [.sh (st j a b q q' (ar ks es) pg' (aM ls lw)),.sh (.int (tid j a b)),.sh (.int i),.sh x.d]=_
   show _=R.ok (D.int (((ew ls lw x).getD []).getD (i % 16).toNat 0))
   rw[tI (by cases x<;>rfl),aL (dG rfl rfl (u6 hw)) (bM rfl rfl (by decide)) (oN h16 i),hw]
   rfl
theorem sd(h:a≠b)(hp:Pg ls ks es)(hl:Lt ls lw)(i:Int):gH [st j a b q q' (ar ks es) pg' (aM ls lw),.int (tid j a b),.int i]=.ok (gM ks es ls lw i):=by
 rw[gH]
 refine cF ?_
 show ak _ [.sh (st j a b q q' (ar ks es) pg' (aM ls lw)),.sh (.int (tid j a b)),.sh (.int i),.un]=_
 rw[aB (bH (d:=((look (i / 16) ks es).map Ent.d).getD .aA) (aL (mC h rfl rfl) (cw rfl rfl (by decide)) (by
   show R.ok ((bj (.inl (i / 16)) (IK ks) (es.map Ent.d)).getD .aA)=_
   rw[kI])))]
 unfold gM
 cases e:look (i / 16) ks es with
 |none=>exact bQ (by rw[dk rfl];rfl)
 | some x=>
   obtain⟨w,hw,h16⟩:=lX hl (hp.2.2.2 x (eN e).1)
   show ak _ [.sh (st j a b q q' (ar ks es) pg' (aM ls lw)),.sh (.int (tid j a b)),.sh (.int i),.sh x.d]=_
   show _=R.ok (Fl.ret (D.int (((ew ls lw x).getD []).getD (i % 16).toNat 0)))
   rw[aB (cq (by cases x<;>rfl)),hw]
   cases x with
   | own ws=>
     cases hw
     refine bQ ?_
     rw[dk (bF (aL (o:=oEq) (x:=S "own") rfl rfl mP))]
     exact bY (aL (x:=W w) rfl (bM rfl rfl (by decide)) (oN h16 i))
   | ln n=>
     rw[aB (cq (bF (aL (o:=oEq) (x:=S "lent") rfl rfl mI)))]
     exact bQ (bY (aL (aL (aL rfl rfl lL) (aL (x:=(Ent.ln n).d) (y:=.int 1) rfl rfl rfl) (tK hw)) (bM rfl rfl (by decide)) (oN h16 i)))
theorem C5{w:List Int}(h:w.length=16){i v:Int}(h0:0≤i)(h1:i<16):kD [W w,.int i,.int v]=.ok (W (w.set i.toNat v)):=by
 rw[kD]
 refine cF (bY ?_)
 have hn:i.toNat<16:=by omega
 have a1:(gu (aa 0) none (some (aa 1))) [.sh (W w),.sh (.int i),.sh (.int v)]=.ok (.tup ((w.take i.toNat).map .int)):=by
   show(if aJ (w.map D.int).length 0 none=0∧aJ (w.map D.int).length (w.map D.int).length (some i)=(w.map D.int).length then R.bad else R.ok (D.tup (cut (w.map D.int) none (some i))))=_
   rw[if_neg (fun z=>by have z2:=z.2;rw[mw h0,List.length_map,h]at z2;omega),yV _ h0,List.map_take]
 have a2:(gu (aa 0) (some (e2 cy (aa 1) (eC (.int 1)))) none) [.sh (W w),.sh (.int i),.sh (.int v)]=.ok (.tup ((w.drop (i.toNat+1)).map .int)):=by
   show(if aJ (w.map D.int).length 0 (some (i+1))=0∧aJ (w.map D.int).length (w.map D.int).length none=(w.map D.int).length then R.bad else R.ok (D.tup (cut (w.map D.int) (some (i+1)) none)))=_
   rw[if_neg (by rw[mw (by omega),List.length_map,h];omega),Cm _ (by omega),List.map_drop,show(i+1).toNat=i.toNat+1 by omega]
 have a3:(e2 mh (gu (aa 0) none (some (aa 1))) (cA [aa 2])) [.sh (W w),.sh (.int i),.sh (.int v)]=.ok (.tup ((w.take i.toNat++[v]).map .int)):=by
   refine aL a1 (y:=.tup [.int v]) rfl ?_
   rw[List.map_append]
   cases ht:(w.take i.toNat).map D.int with
   |nil=>rfl
   | cons x xs=>
     show(if(x::xs).isEmpty=false∧(x::xs).length+[D.int v].length≤dE then R.ok (D.tup (x::xs++[.int v]))else .bad)=_
     have hl:(x::xs).length≤16:=by rw[←ht,List.length_map,List.length_take];omega
     rw[if_pos ⟨rfl,by show _+1≤16777216;omega⟩];rfl
 show e2 cy _ _ [.sh (W w),.sh (.int i),.sh (.int v)]=_
 refine aL (o:=cy) a3 a2 ?_
 show(if((w.take i.toNat++[v]).map D.int).isEmpty=false∧((w.take i.toNat++[v]).map D.int).length+((w.drop (i.toNat+1)).map D.int).length≤dE then R.ok (D.tup ((w.take i.toNat++[v]).map D.int++(w.drop (i.toNat+1)).map D.int))else .bad)=_
 rw[if_pos ⟨by simp,by rw[List.length_map,List.length_map,List.length_append,List.length_take,List.length_drop,h];show _≤16777216;simp;omega⟩, ←List.map_append,List.set_eq_take_append_cons_drop,if_pos (by omega)]
 simp[W]
theorem Ez{p:Int}{e:Ent}(h:p∈ks)(hk:ks.length<64):cZ [ar ks es,.ao [.inl p] [e.d]]=.ok (ar ks (bG p e ks es)):=by
 rw[cZ]
 refine cF ?_
 show ak _ [.sh (ar ks es),.sh (.ao [.inl p] [e.d]),.un]=_
 rw[aB (qe (ks:=IK ks) (vs:=es.map Ent.d) rfl)]
 show ak _ [.sh (ar ks es),.sh (.ao [.inl p] [e.d]),.od (IK ks) (es.map Ent.d)]=_
 rw[aB (t6 (ks:=[.inl p]) (vs:=[e.d]) rfl rfl (by unfold IK;rw[List.length_map];simp;omega))]
 show ak _ [.sh (ar ks es),.sh (.ao [.inl p] [e.d]),.od (putL (.inl p) e.d (IK ks) (es.map Ent.d)).1 (putL (.inl p) e.d (IK ks) (es.map Ent.d)).2]=_
 rw[uE Ent.d h]
 rfl
theorem Bb{n:Int}{w:List Int}(h:n∈ls)(hk:ls.length<64):cZ [aM ls lw,.ao [.inl n] [W w]]=.ok (aM ls (bG n w ls lw)):=by
 rw[cZ]
 refine cF ?_
 show ak _ [.sh (aM ls lw),.sh (.ao [.inl n] [W w]),.un]=_
 rw[aB (qe (ks:=IK ls) (vs:=lw.map W) rfl)]
 show ak _ [.sh (aM ls lw),.sh (.ao [.inl n] [W w]),.od (IK ls) (lw.map W)]=_
 rw[aB (t6 (ks:=[.inl n]) (vs:=[W w]) rfl rfl (by unfold IK;rw[List.length_map];simp;omega))]
 show ak _ [.sh (aM ls lw),.sh (.ao [.inl n] [W w]),.od (putL (.inl n) (W w) (IK ls) (lw.map W)).1 (putL (.inl n) (W w) (IK ls) (lw.map W)).2]=_
 rw[uE W h]
 rfl
theorem vT{pg p2:D}:cZ [tk q pg,.ao [.inr (Str.ofString "pages")] [p2]]=.ok (tk q p2):=by kernel_rfl
theorem Ar{pg lt:D}{X:D}:cZ [.ao SK [X,lt,bD,bK,.int 4],.ao [.inr (Str.ofString "tasks")] [pg]]=.ok (.ao SK [pg,lt,bD,bK,.int 4]):=by kernel_rfl
theorem Ei{lt l2 X:D}:cZ [.ao SK [X,lt,bD,bK,.int 4],.ao [.inr (Str.ofString "lent")] [l2]]=.ok (.ao SK [X,l2,bD,bK,.int 4]):=by kernel_rfl
theorem we(h:a≠b){pg p2 lt:D}:lh [st j a b q q' pg pg' lt,.int (tid j a b),.ao [.inr (Str.ofString "pages")] [p2]]=.ok (st j a b q q' p2 pg' lt):=by
 obtain⟨tks',vs,vs',e1,e2,e3,e4,e5⟩:=Bq (j:=j) (A:=tk q pg) (B:=tk q' pg') (A':=tk q p2) h
 rw[lh]
 refine cF ?_
 show ak _ [.sh (st j a b q q' pg pg' lt),.sh (.int (tid j a b)),.sh (.ao [.inr (Str.ofString "pages")] [p2]),.un]=_
 rw[aB (qe (ks:=tks') (vs:=vs) (dP (aL rfl rfl nB) (by rw[e1];rfl)))]
 show ak _ [.sh (st j a b q q' pg pg' lt),.sh (.int (tid j a b)),.sh (.ao [.inr (Str.ofString "pages")] [p2]),.od tks' vs]=_
 have hix:(m9 3 (aa 1)) [.sh (st j a b q q' pg pg' lt),.sh (.int (tid j a b)),.sh (.ao [.inr (Str.ofString "pages")] [p2]),.od tks' vs]=.ok (tk q pg):=by
   show jK (.ao tks' vs) (.int (tid j a b))=_
   show(match bj (.inl (tid j a b)) tks' vs with|some v=>R.ok v|none=>.bad)=_
   rw[e3]
 rw[aB (Cz (dG hix rfl vT) rfl rfl rfl (by omega) e4)]
 show ak _ [.sh (st j a b q q' pg pg' lt),.sh (.int (tid j a b)),.sh (.ao [.inr (Str.ofString "pages")] [p2]),.od tks' vs']=_
 rw[aB (ρ':=[.sh (st j a b q q' pg pg' lt),.sh (.int (tid j a b)),.sh (.ao [.inr (Str.ofString "pages")] [p2]),.sh (.ao tks' vs')]) rfl]
 refine bQ (bY (dG rfl (y:=.ao [.inr (Str.ofString "tasks")] [.ao tks' vs']) rfl ?_))
 unfold st
 rw[Ar, ←e5]
noncomputable def put(j:Bool)(a b:Int)(q q':Q)(ks:List Int)(es:List Ent)(pg':D)(ls:List Int)(lw:List (List Int))(i v:Int):Ent→D
 |.own ws=>st j a b q q' (ar ks (bG (i / 16) (.own (ws.set (i % 16).toNat v)) ks es)) pg' (aM ls lw)
 |.ln n=>st j a b q q' (ar ks es) pg' (aM ls (bG n (((look n ls lw).getD []).set (i % 16).toNat v) ls lw))
theorem DK(h:a≠b){i:Int}{v lt:D}(hn:look (i / 16) ks es=none):gn [st j a b q q' (ar ks es) pg' lt,.int (tid j a b),.int i,v]=.ok .aA:=by
 rw[gn]
 refine cF ?_
 show ak _ [.sh (st j a b q q' (ar ks es) pg' lt),.sh (.int (tid j a b)),.sh (.int i),.sh v,.un,.un,.un]=_
 rw[aB (bH (cw rfl rfl (by decide)))]
 show ak _ [.sh (st j a b q q' (ar ks es) pg' lt),.sh (.int (tid j a b)),.sh (.int i),.sh v,.sh (.int (i / 16)),.un,.un]=_
 rw[aB (bH (fX rfl rfl rfl (nZ h (p:=i / 16)))),hn]
 exact bQ (by rw[dk rfl];rfl)
theorem CQ(h:a≠b)(hp:Pg ls ks es)(hl:Lt ls lw){i v:Int}{e:Ent}(he:look (i / 16) ks es=some e):gn [st j a b q q' (ar ks es) pg' (aM ls lw),.int (tid j a b),.int i,.int v]=.ok (put j a b q q' ks es pg' ls lw i v e):=by
 obtain⟨w,hw,h16⟩:=lX hl (hp.2.2.2 e (eN he).1)
 have i0:=Int.emod_nonneg i (show(16:Int)≠0 by decide)
 have i1:=Int.emod_lt_of_pos i (show(0:Int)<16 by decide)
 rw[gn]
 refine cF ?_
 show ak _ [.sh (st j a b q q' (ar ks es) pg' (aM ls lw)),.sh (.int (tid j a b)),.sh (.int i),.sh (.int v),.un,.un,.un]=_
 rw[aB (bH (cw rfl rfl (by decide)))]
 show ak _ [.sh (st j a b q q' (ar ks es) pg' (aM ls lw)),.sh (.int (tid j a b)),.sh (.int i),.sh (.int v),.sh (.int (i / 16)),.un,.un]=_
 rw[aB (bH (fX rfl rfl rfl (nZ h (p:=i / 16)))),he]
 show ak _ [.sh (st j a b q q' (ar ks es) pg' (aM ls lw)),.sh (.int (tid j a b)),.sh (.int i),.sh (.int v),.sh (.int (i / 16)),.sh e.d,.un]=_
 rw[aB (cq (by cases e<;>rfl))]
 rw[aB (bH (fX (dG rfl rfl (u6 hw)) (bM rfl rfl (by decide)) rfl (C5 h16 i0 i1)))]
 show ak _ [.sh (st j a b q q' (ar ks es) pg' (aM ls lw)),.sh (.int (tid j a b)),.sh (.int i),.sh (.int v),.sh (.int (i / 16)),.sh e.d,.sh (W (w.set (i % 16).toNat v))]=_
 cases e with
 | own ws=>
   cases hw
   refine bQ ?_
   rw[dk (bF (aL (o:=oEq) (x:=S "own") rfl rfl mP))]
   have hwp:kL [st j a b q q' (ar ks es) pg' (aM ls lw),.int (tid j a b),.int (i / 16),(Ent.own (w.set (i % 16).toNat v)).d]=.ok (st j a b q q' (ar ks (bG (i / 16) (.own (w.set (i % 16).toNat v)) ks es)) pg' (aM ls lw)):=by
     rw[kL]
     refine cF ?_
     show ak _ [.sh (st j a b q q' (ar ks es) pg' (aM ls lw)),.sh (.int (tid j a b)),.sh (.int (i / 16)),.sh (Ent.own (w.set (i % 16).toNat v)).d,.un]=_
     rw[aB (bH (dG (mC h rfl rfl) (y:=.ao [.inl (i / 16)] [(Ent.own (w.set (i % 16).toNat v)).d]) rfl (Ez (eN he).2 hp.2.2.1)))]
     exact bQ (bY (fX rfl rfl rfl (we h)))
   refine bY ?_
   have ex:(cA [eC (S "own"),aa 6]) [.sh (st j a b q q' (ar ks es) pg' (aM ls lw)),.sh (.int (tid j a b)),.sh (.int i),.sh (.int v),.sh (.int (i / 16)),.sh (Ent.own w).d,.sh (W (w.set (i % 16).toNat v))]=.ok (Ent.own (w.set (i % 16).toNat v)).d:=nH rfl rfl
   simp only[aN,eList,ex,R.aW]
   exact hwp
 | ln n=>
   have hw':look n ls lw=some w:=hw
   rw[aB (cq (bF (aL (o:=oEq) (x:=S "lent") rfl rfl mI)))]
   refine bQ (bY (fX rfl (aL (x:=(Ent.ln n).d) (y:=.int 1) (d:=.int n) rfl rfl rfl) rfl ?_))
   rw[lN]
   refine cF (bY ?_)
   have ex:(aN cZ [e2 au (aa 0) (eC (S "lent")),je (aa 1) (aa 2)]) [.sh (st j a b q q' (ar ks es) pg' (aM ls lw)),.sh (.int n),.sh (W (w.set (i % 16).toNat v))]=.ok (aM ls (bG n (w.set (i % 16).toNat v) ls lw)):=dG (aL rfl rfl lL) (y:=.ao [.inl n] [W (w.set (i % 16).toNat v)]) rfl (Bb (eN hw').2 hl.2.2.1)
   have ey:(cU [.inr (Str.ofString "lent")] [aN cZ [e2 au (aa 0) (eC (S "lent")),je (aa 1) (aa 2)]]) [.sh (st j a b q q' (ar ks es) pg' (aM ls lw)),.sh (.int n),.sh (W (w.set (i % 16).toNat v))]=.ok (.ao [.inr (Str.ofString "lent")] [aM ls (bG n (w.set (i % 16).toNat v) ls lw)]):=by
     simp only[cU,eList,ex,R.aW]
   refine dG rfl ey ?_
   show _=R.ok (st j a b q q' (ar ks es) pg' (aM ls (bG n (((look n ls lw).getD []).set (i % 16).toNat v) ls lw)))
   rw[hw']
   unfold st
   exact Ei
end
theorem lP{i:Nat}{f:Pt}{e:Ex}{ρ:En}{p:List Nat}{x:D}{t n:T}{m:Nat}(hf:f ρ=.ok p)(he:e ρ=.ok x)(ht:ρ[i]? =some (.on (.tr t)))(hn:T.at t p=some n)(hm:stepT n x=some m):pX i f e ρ=.ok (p++[m]):=by
 unfold pX
 simp only[hf,he,R.aW,ht,hn,hm]
theorem fZ{i:Nat}{f:Pt}{k e:Ex}{ρ:En}{d q:D}{p:List Nat}{z:Ky}{t:T}{ks ks':List Ky}{ts ts':List T}(he:e ρ=.ok d)(hf:f ρ=.ok p)(hk:k ρ=.ok q)(hz:keyOf q=some z)(ht:ρ[i]? =some (.on (.tr t)))(hat:T.at t p=some (.m ks ts))(hl:ks.length<1000)(hp:gf z (.d d) ks ts=(ks',ts')):bW i f k e ρ=.ok (.next ((hV i p ρ).set i (.on (.tr (T.put (.m ks' ts') t p))))):=by
 unfold bW
 simp only[he,hf,hk,R.aW,ht,hz,hat]
 rw[if_pos hl,hp]
theorem vL{j i:Nat}{f:Pt}{ρ:En}{p:List Nat}{t t1:T}(hf:f ρ=.ok p)(ht:ρ[i]? =some (.on (.tr t)))(hat:T.at t p=some t1)(ho:t1.own=true)(hij:i≠j):iq j i f ρ=.ok (.next (ρ.set j (.on (.al i p)))):=by
 unfold iq
 simp only[hf,R.aW,ht,hat]
 exact if_pos ⟨ho,hij⟩
theorem nG{i:Nat}{f:aG}{ρ:En}{t:T}{b:Bool}(ht:ρ[i]? =some (.on (.tr t)))(h:f (cS i t ρ)=.ok b):fq i f ρ=.ok b:=by
 unfold fq
 rw[ht];exact h
theorem vf{i:Nat}{f:Ex}{ρ:En}{t:T}{n:Int}(ht:ρ[i]? =some (.on (.tr t)))(h:f (cS i t ρ)=.ok (.int n)):en i f ρ=.ok (.int n):=by
 unfold en
 rw[ht]
 show(f (cS i t ρ)).bind _=_
 rw[h];rfl
theorem tE{ρ:En}{i:Nat}{x:Slot}{d:D}(h:ρ[i]? =some x):aa i (ρ.set i (.sh d))=.ok d:=by
 unfold aa
 rw[List.getElem?_set_self (List.getElem?_eq_some_iff.mp h).1]
structure QT where
 (p k g r h w hd ru sv:T)
noncomputable def Q.t(q:Q):QT:=⟨deep q.p,deep q.k,deep q.g,deep q.r,deep q.h,deep q.w,deep q.hd,deep q.ru,deep q.sv⟩
noncomputable def QT.q(q:QT):Q:=⟨T.toD q.p,T.toD q.k,T.toD q.g,T.toD q.r,T.toD q.h,T.toD q.w,T.toD q.hd,T.toD q.ru,T.toD q.sv⟩
noncomputable def dy(q:QT)(pg:T):T:=.m KS [q.p,q.k,q.g,q.r,pg,q.h,q.w,q.hd,q.ru,q.sv]
noncomputable def iM(j:Bool)(a b:Int)(A B:T):T:=match j with
 |false=>.m [.inl a,.inl b] [A,B]
 |true=>.m [.inl a,.inl b] [B,A]
noncomputable def J:Bool→Nat
 |false=>0
 |true=>1
noncomputable def bz(j:Bool)(a b:Int)(q q':QT)(pg pg' lt nd bx:T):T:=.m SK [iM j a b (dy q pg) (dy q' pg'),lt,nd,bx,.d (.int 4)]
noncomputable def cb(ks:List Int)(es:List Ent):T:=.m (IK ks) (es.map fun x=>.d x.d)
noncomputable def dU(ls:List Int)(lw:List (List Int)):T:=.m (IK ls) (lw.map fun w=>.d (W w))
theorem nM{α:Type}(f:α→D):∀xs:List α,T.d7 (xs.map fun x=>.d (f x))=xs.map f
 |[]=>rfl
 |x::xs=>by show f x::T.d7 (xs.map fun x=>.d (f x))=_;rw[nM f xs];rfl
theorem jY(ks:List Int)(es:List Ent):T.toD (cb ks es)=ar ks es:=by show D.ao (IK ks) (T.d7 (es.map fun x=>.d x.d))=_;rw[nM];rfl
theorem lM(ls:List Int)(lw:List (List Int)):T.toD (dU ls lw)=aM ls lw:=by show D.ao (IK ls) (T.d7 (lw.map fun x=>.d (W x)))=_;rw[nM];rfl
theorem yp(ks:List Int)(es:List Ent):deep (ar ks es)=cb ks es:=by
 show T.m (IK ks) (eU (es.map Ent.d))=_
 rw[km,List.map_map]
 unfold cb
 congr 1
 apply List.map_congr_left
 intro x _
 cases x<;>rfl
theorem zN(ls:List Int)(lw:List (List Int)):deep (aM ls lw)=dU ls lw:=by
 show T.m (IK ls) (eU (lw.map W))=_
 rw[km,List.map_map]
 rfl
section
variable{j:Bool}{a b:Int}{q q':QT}{pg pg' lt nd bx:T}
theorem Dr{q q':Q}{pg pg' lt:D}:deep (st j a b q q' pg pg' lt)=bz j a b q.t q'.t (deep pg) (deep pg') (deep lt) (deep bD) (deep bK):=by cases j<;>rfl
theorem p8:T.toD (bz j a b q q' pg pg' lt nd bx)=.ao SK [eF j a b (tk q.q (T.toD pg)) (tk q'.q (T.toD pg')),T.toD lt,T.toD nd,T.toD bx,.int 4]:=by cases j<;>rfl
theorem Q.qt(q:Q):q.t.q=q:=by
 cases q
 unfold Q.t QT.q
 simp only[iz]
theorem rX{q q':Q}{pg':D}:T.toD (bz j a b q.t q'.t pg (deep pg') lt (deep bD) (deep bK))=st j a b q q' (T.toD pg) pg' (T.toD lt):=by
 rw[p8,Q.qt,Q.qt,iz,iz,iz];rfl
theorem BU:T.at (bz j a b q q' pg pg' lt nd bx) [0]=some (iM j a b (dy q pg) (dy q' pg')):=rfl
theorem CC:T.at (bz j a b q q' pg pg' lt nd bx) [0,J j]=some (dy q pg):=by cases j<;>rfl
theorem oX:T.at (bz j a b q q' pg pg' lt nd bx) [0,J j,4]=some pg:=by cases j<;>rfl
theorem zS:T.at (bz j a b q q' pg pg' lt nd bx) [1]=some lt:=rfl
theorem t9{x:T}:T.put x (bz j a b q q' pg pg' lt nd bx) [0,J j,4]=bz j a b q q' x pg' lt nd bx:=by cases j<;>rfl
theorem D0{x:T}:T.put x (bz j a b q q' pg pg' lt nd bx) [1]=bz j a b q q' pg pg' x nd bx:=rfl
theorem Dl:stepT (bz j a b q q' pg pg' lt nd bx) (S "tasks")=some 0:=by kernel_rfl
theorem yG:stepT (bz j a b q q' pg pg' lt nd bx) (S "lent")=some 1:=by kernel_rfl
theorem Eo:stepT (dy q pg) (S "pages")=some 4:=by kernel_rfl
theorem Bk(h:a≠b){A B:T}:stepT (iM j a b A B) (.int (tid j a b))=some (J j):=by
 cases j with
 |false=>exact if_pos rfl
 | true=>
   show(if(Sum.inl a:Ky)=.inl b then some 0 else(if(Sum.inl b:Ky)=.inl b then some 0 else none).map (· +1))=_
   rw[if_neg (iu h),if_pos rfl];rfl
theorem pj(h:a≠b){i:Nat}{y:Ex}{ρ:En}(ht:ρ[i]? =some (.on (.tr (bz j a b q q' pg pg' lt nd bx))))(hy:y ρ=.ok (.int (tid j a b))):pX i (pX i pN (eC (S "tasks"))) y ρ=.ok [0,J j]:=
 lP (lP (p:=[]) rfl rfl ht rfl Dl) hy ht BU (Bk h)
theorem oI(h:a≠b){i:Nat}{y:Ex}{ρ:En}(ht:ρ[i]? =some (.on (.tr (bz j a b q q' pg pg' lt nd bx))))(hy:y ρ=.ok (.int (tid j a b))):pX i (pX i (pX i pN (eC (S "tasks"))) y) (eC (S "pages")) ρ=.ok [0,J j,4]:=
 lP (pj h ht hy) rfl ht CC Eo
theorem um{i:Nat}{ρ:En}(ht:ρ[i]? =some (.on (.tr (bz j a b q q' pg pg' lt nd bx)))):pX i pN (eC (S "lent")) ρ=.ok [1]:=
 lP (p:=[]) rfl rfl ht rfl yG
end
theorem mS{a b:Int}{i:Nat}{d:D}(h:(cC a b)[i]? =some d):d=.int (a+(i:Int))∧(i:Int)<b - a:=by
 unfold cC at h
 rw[List.getElem?_map]at h
 by_cases hi:i<(b - a).toNat
 · rw[List.getElem?_range hi]at h
   cases h
   exact⟨rfl,by omega⟩
 · rw[List.getElem?_eq_none (by rw[List.length_range];omega)]at h
   cases h
section
variable{j:Bool}{a b:Int}{q q':Q}{pg':D}{ls ks:List Int}{lw:List (List Int)}{es:List Ent}
theorem Ey(h:a≠b)(hp:Pg ls ks es)(hl:Lt ls lw)(hn:nice (st j a b q q' (ar ks es) pg' (aM ls lw))=true)(hd:aZ (st j a b q q' (ar ks es) pg' (aM ls lw))<9){i v:Int}{e:Ent}(he:look (i / 16) ks es=some e):g0 [st j a b q q' (ar ks es) pg' (aM ls lw),.int (tid j a b),.int i,.int v]=.ok (put j a b q q' ks es pg' ls lw i v e):=by
 obtain⟨w,hw,h16⟩:=lX hl (hp.2.2.2 e (eN he).1)
 have i0:=Int.emod_nonneg i (show(16:Int)≠0 by decide)
 have i1:=Int.emod_lt_of_pos i (show(0:Int)<16 by decide)
 have hcopy:gm [st j a b q q' (ar ks es) pg' (aM ls lw)]=.ok (bz j a b q.t q'.t (cb ks es) (deep pg') (dU ls lw) (deep bD) (deep bK)):=by
   rw[←yp, ←zN, ←Dr]
   exact oJ 9 _ hn hd
 rw[g0]
 refine cF ?_
 generalize hS:st j a b q q' (ar ks es) pg' (aM ls lw)=s at hcopy
 generalize ht:bz j a b q.t q'.t (cb ks es) (deep pg') (dU ls lw) (deep bD) (deep bK)=t at hcopy
 have hpg:∀ {y:Ex} {ρ:En},ρ[4]? =some (.on (.tr t))→y ρ=.ok (.int (tid j a b))→pX 4 (pX 4 (pX 4 pN (eC (S "tasks"))) y) (eC (S "pages")) ρ=.ok [0,J j,4]:=fun h1 h2=>oI h (by rw[h1, ←ht]) h2
 have hlt:∀ {ρ:En},ρ[4]? =some (.on (.tr t))→pX 4 pN (eC (S "lent")) ρ=.ok [1]:=fun h1=>um (by rw[h1, ←ht])
 have hat:T.at t [0,J j,4]=some (cb ks es):=by rw[←ht];exact oX
 have hal:T.at t [1]=some (dU ls lw):=by rw[←ht];exact zS
 show ak _ [.sh s,.sh (.int (tid j a b)),.sh (.int i),.sh (.int v),.un,.un,.un,.un,.un]=_
 rw[aB (rR (lr rfl hcopy) rfl)]
 show ak _ [.sh s,.sh (.int (tid j a b)),.sh (.int i),.sh (.int v),.on (.tr t),.un,.un,.un,.un]=_
 rw[aB (vL (hpg rfl rfl) rfl hat rfl (by decide))]
 show ak _ [.sh s,.sh (.int (tid j a b)),.sh (.int i),.sh (.int v),.on (.tr t),.on (.al 4 [0,J j,4]),.un,.un,.un]=_
 rw[aB (bH (cw rfl rfl (by decide)))]
 show ak _ [.sh s,.sh (.int (tid j a b)),.sh (.int i),.sh (.int v),.on (.tr t),.on (.al 4 [0,J j,4]),.sh (.int (i / 16)),.un,.un]=_
 rw[aB (tF (xs:=[]) rfl)]
 show ak _ [.sh s,.sh (.int (tid j a b)),.sh (.int i),.sh (.int v),.on (.tr t),.on (.al 4 [0,J j,4]),.sh (.int (i / 16)),.ol [],.un]=_
 obtain ⟨ρ1,eL,x8,rfl⟩:=kq (tg:=aF 8) (body:=lA) (fun k ρ=>∃x8,ρ=[.sh s,.sh (.int (tid j a b)),.sh (.int i),.sh (.int v),.on (.tr t),.on (.al 4 [0,J j,4]),.sh (.int (i / 16)),.ol (((w.set (i % 16).toNat v).take k).map .int),x8]) (ds:=cC 0 16) 0 (by
   intro k d hk ρ ⟨x8,hρ⟩
   obtain⟨rfl,hk2⟩:=mS hk
   subst hρ
   refine⟨_,rfl,?_⟩
   rw[show(0:Int)+(k:Int)=(k:Int) by omega,show 0+k=k by omega]
   show ∃ρ2,lA [.sh s,.sh (.int (tid j a b)),.sh (.int i),.sh (.int v),.on (.tr t),.on (.al 4 [0,J j,4]),.sh (.int (i / 16)),.ol (((w.set (i % 16).toNat v).take k).map .int),.sh (.int k)]=_∧_
   have hwd:gH [s,.int (tid j a b),.int (i / 16*16+k)]=.ok (.int (w.getD k 0)):=by
     rw[←hS,sd h hp hl]
     unfold gM
     rw[show(i / 16*16+(k:Int)) / 16=i / 16 by omega,show(i / 16*16+(k:Int)) % 16=k by omega,he]
     show R.ok (D.int (((ew ls lw e).getD []).getD (k:Int).toNat 0))=_
     rw[hw];rfl
   have hel:(e2 au (cz [aN gH [aa 0,aa 1,e2 cy (e2 fS (aa 6) (eC (.int 16))) (aa 8)],aa 3]) (e1 ng (e2 oEq (aa 8) (e2 oMod (aa 2) (eC (.int 16)))))) [.sh s,.sh (.int (tid j a b)),.sh (.int i),.sh (.int v),.on (.tr t),.on (.al 4 [0,J j,4]),.sh (.int (i / 16)),.ol (((w.set (i % 16).toNat v).take k).map .int),.sh (.int k)]=.ok (.int ((w.set (i % 16).toNat v).getD k 0)):=by
     refine aL (x:=.lst [.int (w.getD k 0),.int v]) ?_ (dP (x:=.bl (decide ((k:Int)=i % 16))) (d:=.int (if(k:Int)=i % 16 then 1 else 0)) (gK rfl (bM rfl rfl (by decide))) (by by_cases hc:(k:Int)=i % 16<;>simp[hc])) ?_
     · simp only[cz,eList]
       rw[fX (x:=s) (y:=.int (tid j a b)) rfl rfl (ft (js rfl rfl (.inr (by decide))) rfl) hwd]
       rfl
     · by_cases hc:(k:Int)=i % 16
       · rw[if_pos hc]
         show R.ok (D.int v)=_
         have:(i % 16).toNat=k:=by omega
         rw[this,List.getD_eq_getElem?_getD,List.getElem?_set_self (by omega)];rfl
       · rw[if_neg hc]
         show R.ok (D.int (w.getD k 0))=_
         rw[List.getD_eq_getElem?_getD,List.getD_eq_getElem?_getD,List.getElem?_set_ne (by omega)]
   refine⟨_,tR hel rfl (by rw[List.length_map,List.length_take,List.length_set];omega),.sh (.int k),?_⟩
   have hk3:k<(w.set (i % 16).toNat v).length:=by rw[List.length_set];omega
   rw[List.take_add_one,List.getElem?_eq_getElem hk3,List.map_append,List.getD_eq_getElem?_getD,List.getElem?_eq_getElem hk3]
   rfl) ⟨.un,rfl⟩
 rw[List.take_zero,List.map_nil]at eL
 rw[aB (j9 (ds:=cC 0 16) rfl eL)]
 rw[show(w.set (i % 16).toNat v).take (0+(cC 0 16).length)=w.set (i % 16).toNat v from List.take_of_length_le (by rw[List.length_set,h16];decide)]
 have hpk:e2 au (aa 5) (aa 6) (cS 4 t [.sh s,.sh (.int (tid j a b)),.sh (.int i),.sh (.int v),.on (.tr t),.on (.al 4 [0,J j,4]),.sh (.int (i / 16)),.ol ((w.set (i % 16).toNat v).map .int),x8])=.ok e.d:=by
   have h5:aa 5 (cS 4 t [.sh s,.sh (.int (tid j a b)),.sh (.int i),.sh (.int v),.on (.tr t),.on (.al 4 [0,J j,4]),.sh (.int (i / 16)),.ol ((w.set (i % 16).toNat v).map .int),x8])=.ok (ar ks es):=by
     show(match(some (match T.at t [0,J j,4]with|some t1=>Slot.sh (T.toD t1)|none=>.un):Option Slot)with|some (.sh d)=>R.ok d|_=>.bad)=_
     rw[←ht,oX]
     show R.ok (T.toD (cb ks es))=_
     rw[jY]
   exact aL h5 (y:=.int (i / 16)) rfl (i8 (z:=.inl (i / 16)) (by rw[kI,he];rfl))
 cases e with
 | own ws=>
   cases hw
   have hsif:∃ρ2,aV (fq 4 (tV (e2 oEq (e2 au (e2 au (aa 5) (aa 6)) (eC (.int 0))) (eC (S "own"))))) (ak [eO 7,bW 4 (pA 4 5) (aa 6) (cA [eC (S "own"),e1 fF (aa 7)])]) (ak [eO 7,bW 4 (pX 4 (pN) (eC (S "lent"))) (en 4 (e2 au (e2 au (aa 5) (aa 6)) (eC (.int 1)))) (e1 fF (aa 7))]) [.sh s,.sh (.int (tid j a b)),.sh (.int i),.sh (.int v),.on (.tr t),.on (.al 4 [0,J j,4]),.sh (.int (i / 16)),.ol ((w.set (i % 16).toNat v).map .int),x8]=.ok (.next ρ2)∧ρ2[4]? =some (.on (.tr (bz j a b q.t q'.t (cb ks (bG (i / 16) (.own (w.set (i % 16).toNat v)) ks es)) (deep pg') (dU ls lw) (deep bD) (deep bK)))):=by
     rw[dk (nG rfl (bF (aL (aL hpk (y:=.int 0) (d:=S "own") rfl rfl) rfl mP)))]
     rw[aB (ρ':=[.sh s,.sh (.int (tid j a b)),.sh (.int i),.sh (.int v),.on (.tr t),.on (.al 4 [0,J j,4]),.sh (.int (i / 16)),.sh (.lst ((w.set (i % 16).toNat v).map .int)),x8]) rfl]
     rw[aB (fZ (d:=(Ent.own (w.set (i % 16).toNat v)).d) (nH rfl rfl) (p:=[0,J j,4]) rfl rfl rfl rfl hat (by unfold IK;rw[List.length_map];have:=hp.2.2.1;omega) (oo Ent.d (eN he).2)), ←ht]
     refine⟨_,rfl,?_⟩
     rw[show T.m (IK ks) ((bG (i / 16) (Ent.own (w.set (i % 16).toNat v)) ks es).map fun x=>.d x.d)=cb ks (bG (i / 16) (Ent.own (w.set (i % 16).toNat v)) ks es)from rfl,t9]
     rfl
   obtain⟨ρ2,hs,h4⟩:=hsif
   rw[aB hs,aB (qb h4)]
   refine bQ (bY ?_)
   rw[tE h4]
   show R.ok (T.toD _)=_
   rw[rX,jY,lM];rfl
 | ln n=>
   have hw':look n ls lw=some w:=hw
   have hsif:∃ρ2,aV (fq 4 (tV (e2 oEq (e2 au (e2 au (aa 5) (aa 6)) (eC (.int 0))) (eC (S "own"))))) (ak [eO 7,bW 4 (pA 4 5) (aa 6) (cA [eC (S "own"),e1 fF (aa 7)])]) (ak [eO 7,bW 4 (pX 4 (pN) (eC (S "lent"))) (en 4 (e2 au (e2 au (aa 5) (aa 6)) (eC (.int 1)))) (e1 fF (aa 7))]) [.sh s,.sh (.int (tid j a b)),.sh (.int i),.sh (.int v),.on (.tr t),.on (.al 4 [0,J j,4]),.sh (.int (i / 16)),.ol ((w.set (i % 16).toNat v).map .int),x8]=.ok (.next ρ2)∧ρ2[4]? =some (.on (.tr (bz j a b q.t q'.t (cb ks es) (deep pg') (dU ls (bG n (w.set (i % 16).toNat v) ls lw)) (deep bD) (deep bK)))):=by
     rw[rJ (nG rfl (bF (aL (aL hpk (y:=.int 0) (d:=S "lent") rfl rfl) rfl mI)))]
     rw[aB (ρ':=[.sh s,.sh (.int (tid j a b)),.sh (.int i),.sh (.int v),.on (.tr t),.on (.al 4 [0,J j,4]),.sh (.int (i / 16)),.sh (.lst ((w.set (i % 16).toNat v).map .int)),x8]) rfl]
     have hpk2:en 4 (e2 au (e2 au (aa 5) (aa 6)) (eC (.int 1))) [.sh s,.sh (.int (tid j a b)),.sh (.int i),.sh (.int v),.on (.tr t),.on (.al 4 [0,J j,4]),.sh (.int (i / 16)),.sh (.lst ((w.set (i % 16).toNat v).map .int)),x8]=.ok (.int n):=vf rfl (aL (x:=(Ent.ln n).d) (y:=.int 1) hpk rfl rfl)
     rw[aB (fZ (d:=W (w.set (i % 16).toNat v)) rfl (hlt rfl) hpk2 rfl rfl hal (by unfold IK;rw[List.length_map];have:=hl.2.2.1;omega) (oo W (eN hw').2)), ←ht]
     refine⟨_,rfl,?_⟩
     rw[show T.m (IK ls) ((bG n (w.set (i % 16).toNat v) ls lw).map fun x=>.d (W x))=dU ls (bG n (w.set (i % 16).toNat v) ls lw)from rfl,D0]
     rfl
   obtain⟨ρ2,hs,h4⟩:=hsif
   rw[aB hs,aB (qb h4)]
   refine bQ (bY ?_)
   rw[tE h4]
   show R.ok (T.toD _)=R.ok (st j a b q q' (ar ks es) pg' (aM ls (bG n (((look n ls lw).getD []).set (i % 16).toNat v) ls lw)))
   rw[rX,jY,lM,hw'];rfl
end
theorem lC:∀ {ds:List D},(∀d∈ds,nice d=true)→eY ds=true
 |[],_=>rfl
 | d::ds,h=>by
   show(nice d&&eY ds)=true
   rw[h d List.mem_cons_self,lC fun x hx=>h x (List.mem_cons_of_mem _ hx)];rfl
theorem kG{n:Nat}:∀ {ds:List D},(∀d∈ds,aZ d≤n)→cB ds≤n
 |[],_=>Nat.zero_le _
 | d::ds,h=>by
   show max (aZ d) (cB ds)≤n
   have h1:=h d List.mem_cons_self
   have h2:=kG (ds:=ds) fun x hx=>h x (List.mem_cons_of_mem _ hx)
   omega
theorem nR{w:List Int}(h:w.length=16):nice (W w)=true∧aZ (W w)≤1:=by
 constructor
 · show(decide ((w.map D.int).length≤1000)&&eY (w.map D.int))=true
   rw[lC (by intro d hd;obtain⟨i,_,rfl⟩:=List.mem_map.mp hd;rfl),decide_eq_true (by rw[List.length_map];omega)];rfl
 · show cB (w.map D.int)+1≤1
   have:cB (w.map D.int)≤0:=kG (by intro d hd;obtain⟨i,_,rfl⟩:=List.mem_map.mp hd;exact Nat.le_refl 0)
   omega
theorem rN{ls:List Int}{e:Ent}(h:gg ls e):nice e.d=true∧aZ e.d≤2:=by
 cases e with
 | own ws=>
   obtain⟨h1,h2⟩:=nR h
   constructor
   · show(decide (2≤1000)&&(nice (S "own")&&(nice (W ws)&&true)))=true
     rw[h1];kernel_rfl
   · show max (aZ (S "own")) (max (aZ (W ws)) 0)+1≤2
     have:aZ (S "own")=0:=rfl
     omega
 | ln n=>
   constructor
   · show(decide (2≤1000)&&(nice (S "lent")&&(nice (.int n)&&true)))=true
     kernel_rfl
   · show max (aZ (S "lent")) (max (aZ (.int n)) 0)+1≤2
     have:aZ (S "lent")=0:=rfl
     have:aZ (.int n)=0:=rfl
     omega
theorem qY{ks:List Int}(h:ks.Nodup):(IK ks).Nodup:=by
 unfold IK
 induction ks with
 |nil=>exact List.nodup_nil
 | cons k ks ih=>
   have hn:=List.nodup_cons.mp h
   rw[List.map_cons]
   refine List.nodup_cons.mpr ⟨fun hm=>?_,ih hn.2⟩
   obtain⟨x,hx,e⟩:=List.mem_map.mp hm
   exact hn.1 (Sum.inl.inj e▸hx)
theorem Bu{ls ks:List Int}{es:List Ent}(h:Pg ls ks es):nice (ar ks es)=true∧aZ (ar ks es)≤3:=by
 constructor
 · show(decide (IK ks).Nodup&&decide ((IK ks).length=(es.map Ent.d).length)&&decide ((IK ks).length≤1000)&&eY (es.map Ent.d))=true
   have hl:(IK ks).length=ks.length:=List.length_map ..
   rw[lC (by intro d hd;obtain⟨e,he,rfl⟩:=List.mem_map.mp hd;exact(rN (h.2.2.2 e he)).1),decide_eq_true (qY h.1),decide_eq_true (by rw[hl,List.length_map];exact h.2.1),decide_eq_true (by rw[hl];have:=h.2.2.1;omega)];rfl
 · show cB (es.map Ent.d)+1≤3
   have:cB (es.map Ent.d)≤2:=kG (by intro d hd;obtain⟨e,he,rfl⟩:=List.mem_map.mp hd;exact(rN (h.2.2.2 e he)).2)
   omega
theorem DZ{ls:List Int}{lw:List (List Int)}(h:Lt ls lw):nice (aM ls lw)=true∧aZ (aM ls lw)≤2:=by
 constructor
 · show(decide (IK ls).Nodup&&decide ((IK ls).length=(lw.map W).length)&&decide ((IK ls).length≤1000)&&eY (lw.map W))=true
   have hl:(IK ls).length=ls.length:=List.length_map ..
   rw[lC (by intro d hd;obtain⟨e,he,rfl⟩:=List.mem_map.mp hd;exact(nR (h.2.2.2 e he)).1),decide_eq_true (qY h.1),decide_eq_true (by rw[hl,List.length_map];exact h.2.1),decide_eq_true (by rw[hl];have:=h.2.2.1;omega)];rfl
 · show cB (lw.map W)+1≤2
   have:cB (lw.map W)≤1:=kG (by intro d hd;obtain⟨e,he,rfl⟩:=List.mem_map.mp hd;exact(nR (h.2.2.2 e he)).2)
   omega
noncomputable def NQ(q:Q):Prop:=∀d∈[q.p,q.k,q.g,q.r,q.h,q.w,q.hd,q.ru,q.sv],nice d=true∧aZ d≤2
theorem ua{q:Q}{ls ks:List Int}{es:List Ent}(hq:NQ q)(h:Pg ls ks es):nice (tk q (ar ks es))=true∧aZ (tk q (ar ks es))≤4:=by
 have hp:=Bu h
 have hm:∀d∈[q.p,q.k,q.g,q.r,ar ks es,q.h,q.w,q.hd,q.ru,q.sv],nice d=true∧aZ d≤3:=by
   intro d hd
   by_cases hc:d=ar ks es
   ·rw[hc];exact hp
   · have:=hq d (by simp only[List.mem_cons]at hd ⊢;rcases hd with h|h|h|h|h|h|h|h|h|h|h<;>simp[h]at hc ⊢)
     exact⟨this.1,by omega⟩
 constructor
 · show(decide KS.Nodup&&decide (KS.length=10)&&decide (KS.length≤1000)&&eY [q.p,q.k,q.g,q.r,ar ks es,q.h,q.w,q.hd,q.ru,q.sv])=true
   rw[lC fun d hd=>(hm d hd).1]
   kernel_rfl
 · show cB [q.p,q.k,q.g,q.r,ar ks es,q.h,q.w,q.hd,q.ru,q.sv]+1≤4
   have:=kG (n:=3) fun d hd=>(hm d hd).2
   omega
section
variable{j:Bool}{a b:Int}{q q':Q}{ls ks ks':List Int}{lw:List (List Int)}{es es':List Ent}
theorem pV(h:a≠b)(hq:NQ q)(hq':NQ q')(hp:Pg ls ks es)(hp':Pg ls ks' es')(hl:Lt ls lw):nice (st j a b q q' (ar ks es) (ar ks' es') (aM ls lw))=true∧aZ (st j a b q q' (ar ks es) (ar ks' es') (aM ls lw))<9:=by
 have h1:=ua hq hp
 have h2:=ua hq' hp'
 have h3:=DZ hl
 have nd:([.inl a,.inl b]:List Ky).Nodup:=by
   refine List.nodup_cons.mpr ⟨fun hm=>iu h (List.mem_singleton.mp hm),by simp⟩
 have ht:nice (eF j a b (tk q (ar ks es)) (tk q' (ar ks' es')))=true∧aZ (eF j a b (tk q (ar ks es)) (tk q' (ar ks' es')))≤5:=by
   cases j with
   | false=>
     constructor
     · show(decide ([.inl a,.inl b]:List Ky).Nodup&&decide (2=2)&&decide (2≤1000)&&(nice (tk q (ar ks es))&&(nice (tk q' (ar ks' es'))&&true)))=true
       rw[h1.1,h2.1,decide_eq_true nd];rfl
     · show max (aZ (tk q (ar ks es))) (max (aZ (tk q' (ar ks' es'))) 0)+1≤5
       omega
   | true=>
     constructor
     · show(decide ([.inl a,.inl b]:List Ky).Nodup&&decide (2=2)&&decide (2≤1000)&&(nice (tk q' (ar ks' es'))&&(nice (tk q (ar ks es))&&true)))=true
       rw[h1.1,h2.1,decide_eq_true nd];rfl
     · show max (aZ (tk q' (ar ks' es'))) (max (aZ (tk q (ar ks es))) 0)+1≤5
       omega
 constructor
 · show(decide SK.Nodup&&decide (SK.length=5)&&decide (SK.length≤1000)&&(nice (eF j a b (tk q (ar ks es)) (tk q' (ar ks' es')))&&(nice (aM ls lw)&&(nice bD&&(nice bK&&(nice (.int 4)&&true))))))=true
   rw[ht.1,h3.1]
   kernel_rfl
 · show max (aZ (eF j a b (tk q (ar ks es)) (tk q' (ar ks' es')))) (max (aZ (aM ls lw)) (max (aZ bD) (max (aZ bK) (max (aZ (.int 4)) 0))))+1<9
   have e1:aZ bD=3:=by kernel_rfl
   have e2:aZ bK=3:=by kernel_rfl
   have e3:aZ (.int 4)=0:=rfl
   omega
theorem uc:∀ks:List Int,fY (IK ks)=some ks
 |[]=>rfl
 | k::ks=>by
   have ih:=uc ks
   unfold IK at ih ⊢
   rw[List.map_cons]
   unfold fY
   rw[ih];rfl
theorem pd{ks:List Int}{vs:List D}(h:ks.length<64):fR (.ao (IK ks) vs)=.ok (.lst ((aX ks).map .int)):=by
 show(match fY (IK ks)with|some ns=>if ns.length<64 then R.ok (D.lst ((aX ns).map D.int))else .bad|none=>.bad)=_
 rw[uc]
 exact if_pos h
theorem eq_nil(ns:List Int):oEq (.lst (ns.map .int)) (.lst [])=.ok (.bl ns.isEmpty):=by
 unfold oEq
 have h1:lay (D.lst (ns.map D.int))=true:=by
   unfold lay
   exact CH (by intro d hd;obtain⟨i,_,rfl⟩:=List.mem_map.mp hd;rfl)
 have h2:cQ (D.lst (ns.map D.int)) (D.lst [])=true:=by
   unfold cQ dY
   have hm:min (dep (D.lst (ns.map D.int))) (dep (D.lst []))≤60:=Nat.le_trans (Nat.min_le_right _ _) (by decide)
   rw[h1,show lay (D.lst [])=true from rfl,decide_eq_true hm]
   simp
 rw[if_pos h2]
 cases ns<;>rfl
theorem Bw(h:a≠b)(hp:Pg ls ks es){lt pg':D}(k:Int):∃i,j0 [st j a b q q' (ar ks es) pg' lt,.int (tid j a b),.int k]=.ok (.int i):=by
 rw[j0]
 suffices hh:∃i:Int,_=R.ok (Fl.ret (.int i)) by
   obtain⟨i,hi⟩:=hh
   exact⟨i,cF hi⟩
 show ∃i:Int,ak _ [.sh (st j a b q q' (ar ks es) pg' lt),.sh (.int (tid j a b)),.sh (.int k),.un]=_
 rw[aB (bH (dP (mC h rfl rfl) (pd hp.2.2.1)))]
 generalize hS:st j a b q q' (ar ks es) pg' lt=s
 show ∃i:Int,ak _ [.sh s,.sh (.int (tid j a b)),.sh (.int k),.sh (.lst ((aX ks).map .int))]=_
 by_cases c0:k % 4=0
 · refine⟨k / 4 % 4294967296,bQ ?_⟩
   rw[dk (wM (by rw[bF (gK (bM rfl rfl (by decide)) rfl),decide_eq_true c0]))]
   exact bY (bM (cw rfl rfl (by decide)) rfl (by decide))
 · by_cases c1:(aX ks).isEmpty=true
   · refine⟨k / 4 % 4294967296,bQ ?_⟩
     rw[dk (by rw[iQ (bF (gK (bM rfl rfl (by decide)) rfl)) (bF (aL rfl rfl (eq_nil _))),c1,Bool.or_true])]
     exact bY (bM (cw rfl rfl (by decide)) rfl (by decide))
   · have c1':(aX ks).isEmpty=false:=by simpa using c1
     rw[aB (cq (by rw[iQ (bF (gK (bM rfl rfl (by decide)) rfl)) (bF (aL rfl rfl (eq_nil _))),c1',decide_eq_false c0];rfl))]
     by_cases c2:k % 4=1
     · refine⟨k / 4 % 70000,bQ ?_⟩
       rw[dk (by rw[bF (gK (bM rfl rfl (by decide)) rfl),decide_eq_true c2])]
       exact bY (bM (cw rfl rfl (by decide)) rfl (by decide))
     · rw[aB (cq (by rw[bF (gK (bM rfl rfl (by decide)) rfl),decide_eq_false c2]))]
       have hpos:0<(((aX ks).map D.int).length:Int):=by
         rw[List.length_map]
         cases hz:aX ks with
         |nil=>rw[hz]at c1';cases c1'
         |cons x xs=>simp
       have i0:=Int.emod_nonneg (k / 64) (Int.ne_of_gt hpos)
       have i1:=Int.emod_lt_of_pos (k / 64) hpos
       have hi:(k / 64 % (((aX ks).map D.int).length:Int)).toNat<(aX ks).length:=by rw[List.length_map]at*;omega
       have hat:cm ((aX ks).map D.int) (k / 64 % (((aX ks).map D.int).length:Int))=some (.int (aX ks)[(k / 64 % (((aX ks).map D.int).length:Int)).toNat]):=by
         rw[jO i0 i1,List.getElem_map]
       exact⟨_,bQ (bY (ft (js (aL rfl (bM (cw rfl rfl (by decide)) rfl hpos) (jj hat)) rfl (.inr (by decide))) (bM (cw rfl rfl (by decide)) rfl (by decide))))⟩
end
theorem pU(ns:List Int)(k:Int)(h0:0≤k):∃i,iC [.lst (ns.map .int),.int k]=.ok (.int i):=by
 rw[iC]
 by_cases h:k<((ns.map D.int).length:Int)
 · have hn:k.toNat<ns.length:=by rw[List.length_map]at h;omega
   refine⟨ns[k.toNat],cF ?_⟩
   show ak _ [.sh (.lst (ns.map .int)),.sh (.int k)]=_
   refine bQ ?_
   rw[dk (by rw[bF (lZ (u:=((ns.map D.int).length:Int)) rfl rfl),decide_eq_true h])]
   exact bY (aL rfl rfl (jj (by rw[jO h0 h,List.getElem_map])))
 · refine⟨0,cF ?_⟩
   show ak _ [.sh (.lst (ns.map .int)),.sh (.int k)]=_
   rw[aB (cq (by rw[bF (lZ (u:=((ns.map D.int).length:Int)) rfl rfl),decide_eq_false h]))]
   rfl
theorem tS(k:Int):∃w,iO [.int k]=.ok (W w)∧w.length=16:=by
 rw[iO]
 obtain⟨ρ1,eL,ss,w,x2,hw,hρ⟩:=kq (tg:=aF 2) (body:=nz) (fun n ρ=>∃(ss:Int) (w:List Int) (x2:Slot),w.length=n∧ρ=[.sh (.int ss),.ol (w.map .int),x2]) (ds:=cC 0 16) 0 (by
   intro n d hk ρ ⟨ss,w,x2,hw,hρ⟩
   obtain⟨rfl,hk2⟩:=mS hk
   subst hρ
   refine⟨_,rfl,?_⟩
   show ∃ρ2,ak _ [.sh (.int ss),.ol (w.map .int),.sh (.int (0+(n:Int)))]=_∧_
   rw[aB (tR (bM (ft rfl (js (js rfl rfl (.inl (by decide))) rfl (.inr (by unfold small;rw[decide_eq_true (by omega),decide_eq_true (by omega)];rfl)))) rfl (by decide)) rfl (by rw[List.length_map];omega))]
   show ∃ρ2,ak _ [.sh (.int ss),.ol (w.map .int++[.int ((ss+40503*(0+(n:Int))*(0+(n:Int))) % 4294967296)]),.sh (.int (0+(n:Int)))]=_∧_
   rw[aB (bH (cw rfl rfl (by decide)))]
   refine⟨_,rfl,ss / 4294967296,w++[(ss+40503*(0+(n:Int))*(0+(n:Int))) % 4294967296],.sh (.int (0+(n:Int))),by rw[List.length_append];simp;omega,?_⟩
   rw[List.map_append]
   rfl) (ρ:=[.sh (.int k),.ol [],.un]) ⟨k,[],.un,rfl,rfl⟩
 subst hρ
 refine⟨w,cF ?_,by rw[hw];rfl⟩
 show ak _ [.sh (.int k),.un,.un]=_
 rw[aB (tF (xs:=[]) rfl)]
 show ak _ [.sh (.int k),.ol [],.un]=_
 rw[aB (j9 (ds:=cC 0 16) rfl eL)]
 rw[aB (ρ':=[.sh (.int ss),.sh (.lst (w.map .int)),x2]) rfl]
 exact bQ (bY rfl)
theorem uv{α:Type}{p:Int}{e:α}{ks:List Int}{es:List α}(h:ks.Nodup):(ins p e ks es).1.Nodup:=by
 unfold ins
 by_cases hp:p∈ks
 ·rw[if_pos hp];exact h
 · rw[if_neg hp]
   show(ks++[p]).Nodup
   rw[List.nodup_append]
   exact⟨h,by simp,fun x hx y hy=>by rw[List.mem_singleton.mp hy];exact fun z=>hp (z▸hx)⟩
theorem r9{α:Type}{p:Int}{e:α}{ks:List Int}{es:List α}(h:ks.length=es.length):(ins p e ks es).1.length=(ins p e ks es).2.length∧(ins p e ks es).1.length≤ks.length+1:=by
 unfold ins
 by_cases hp:p∈ks
 ·rw[if_pos hp];exact⟨oU h,Nat.le_succ _⟩
 · rw[if_neg hp]
   show(ks++[p]).length=(es++[e]).length∧(ks++[p]).length≤_
   rw[List.length_append,List.length_append]
   exact⟨by simp;omega,by simp⟩
theorem rD{α:Type}{p:Int}{e x:α}{ks:List Int}{es:List α}(h:x∈(ins p e ks es).2):x∈es∨x=e:=by
 unfold ins at h
 by_cases hp:p∈ks
 ·rw[if_pos hp]at h;exact mZ x h
 · rw[if_neg hp]at h
   rcases List.mem_append.mp h with h|h
   ·exact .inl h
   ·exact .inr (List.mem_singleton.mp h)
theorem Bv{α:Type}{p:Int}{e:α}{ks:List Int}{es:List α}:∀x∈ks,x∈(ins p e ks es).1:=by
 intro x hx
 unfold ins
 by_cases hp:p∈ks
 ·rw[if_pos hp];exact hx
 ·rw[if_neg hp];exact List.mem_append_left _ hx
theorem Eu{α:Type}{p:Int}{e:α}{ks:List Int}{es:List α}:p∈(ins p e ks es).1:=by
 unfold ins
 by_cases hp:p∈ks
 ·rw[if_pos hp];exact hp
 ·rw[if_neg hp];exact List.mem_append_right _ (List.mem_singleton.mpr rfl)
noncomputable def eG(n:Nat)(ls:List Int)(lw:List (List Int)):Prop:=ls.Nodup∧ls.length=lw.length∧ls.length≤n∧∀w∈lw,w.length=16
noncomputable def cN(n:Nat)(ls ks:List Int)(es:List Ent):Prop:=ks.Nodup∧ks.length=es.length∧ks.length≤n∧∀e∈es,gg ls e
theorem eG.lt{n:Nat}{ls:List Int}{lw:List (List Int)}(h:eG n ls lw)(hn:n<64):Lt ls lw:=⟨h.1,h.2.1,by have:=h.2.2.1;omega,h.2.2.2⟩
theorem cN.pg{n:Nat}{ls ks:List Int}{es:List Ent}(h:cN n ls ks es)(hn:n<64):Pg ls ks es:=⟨h.1,h.2.1,by have:=h.2.2.1;omega,h.2.2.2⟩
theorem eG.ins{n:Nat}{ls:List Int}{lw:List (List Int)}{p:Int}{w:List Int}(h:eG n ls lw)(hw:w.length=16):eG (n+1) (ins p w ls lw).1 (ins p w ls lw).2:=by
 have hl:=r9 (p:=p) (e:=w) h.2.1
 exact⟨uv h.1,hl.1,by have:=h.2.2.1;omega,fun x hx=>(rD hx).elim (h.2.2.2 x) fun e=>e▸hw⟩
theorem cN.ins{n:Nat}{ls ks:List Int}{es:List Ent}{p:Int}{e:Ent}(h:cN n ls ks es)(he:gg ls e):cN (n+1) ls (ins p e ks es).1 (ins p e ks es).2:=by
 have hl:=r9 (p:=p) (e:=e) h.2.1
 exact⟨uv h.1,hl.1,by have:=h.2.2.1;omega,fun x hx=>(rD hx).elim (h.2.2.2 x) fun z=>z▸he⟩
theorem gg.sub{ls ls':List Int}{e:Ent}(hs:∀x∈ls,x∈ls')(h:gg ls e):gg ls' e:=by
 cases e with
 |own ws=>exact h
 |ln n=>exact hs n h
theorem cN.sub{n m:Nat}{ls ls' ks:List Int}{es:List Ent}(h:cN n ls ks es)(hs:∀x∈ls,x∈ls')(hm:n≤m):cN m ls' ks es:=⟨h.1,h.2.1,by have:=h.2.2.1;omega,fun e he=>(h.2.2.2 e he).sub hs⟩
theorem eG.up{n m:Nat}{ls:List Int}{lw:List (List Int)}(h:eG n ls lw)(hm:n≤m):eG m ls lw:=⟨h.1,h.2.1,by have:=h.2.2.1;omega,h.2.2.2⟩
noncomputable def q0:QT:=⟨.d (.int 0),.d (.int 1),.l [.d (.int 0),.d (.int 1),.d (.int 2),.d (.int 3),.d (.int 4),.d (.int 5),.d (.int 6),.d (.int 7)],.d (.int 0),.m [] [],.d .aA,.d (.int 0),.d (.bl false),.d .aA⟩
noncomputable def cE:D:=.ao [.inl 3] [.int 1]
noncomputable def qw:D:=.tup [.lst [.int 1,.int 2,.int 3,.int 4,.int 5,.int 6,.int 7,.int 8],.int 70]
noncomputable def qA:QT:={q0 with h:=.d cE,sv:=.d qw}
noncomputable def qB(r:Bool):QT:={q0 with hd:=.d (.int 50),ru:=.d (.bl r)}
theorem sR:NQ qA.q:=by
 intro d hd
 simp only[List.mem_cons,List.not_mem_nil,or_false]at hd
 rcases hd with rfl|rfl|rfl|rfl|rfl|rfl|rfl|rfl|rfl<;>exact⟨by kernel_rfl,by decide⟩
theorem rW(r:Bool):NQ (qB r).q:=by
 intro d hd
 simp only[List.mem_cons,List.not_mem_nil,or_false]at hd
 cases r<;>rcases hd with rfl|rfl|rfl|rfl|rfl|rfl|rfl|rfl|rfl<;>exact⟨by kernel_rfl,by decide⟩
section
variable{j:Bool}{a b:Int}{q q':QT}{pg pg' lt nd bx:T}
end
noncomputable def cD(a b:Int)(r:Bool)(ks ks' ls:List Int)(es es':List Ent)(lw:List (List Int)):T:=bz false a b qA (qB r) (cb ks es) (cb ks' es') (dU ls lw) (.d bD) (.d bK)
section
variable{a b c:Int}{ns:List Int}{r:Bool}{n:Nat}{ks ks' ls:List Int}{es es':List Ent}{lw:List (List Int)}{x6 x7 x8 x9 x10 x11:Slot}
theorem BY(h:a≠b)(hp:cN n ls ks es)(hl:eG n ls lw)(hn:n<4):
   ∃ks2 ls2 es2 lw2 y6 y7 y8 y9 y10 y11,jy [.sh (.lst (ns.map .int)),.sh (.int c),.sh (.int a),.sh (.int b),.on (.tr (cD a b r ks [] ls es [] lw)),.sh (.int n),x6,x7,x8,x9,x10,x11]=.ok (.next [.sh (.lst (ns.map .int)),.sh (.int c),.sh (.int a),.sh (.int b),.on (.tr (cD a b r ks2 [] ls2 es2 [] lw2)),.sh (.int n),y6,y7,y8,y9,y10,y11])∧cN (n+1) ls2 ks2 es2∧eG (n+1) ls2 lw2:=by
 obtain⟨i,hi⟩:=pU ns (1+(n:Int)) (by omega)
 obtain⟨w,hw,h16⟩:=tS i
 rw[jy]
 rw[aB (bH (ft rfl (bM (ft (cw rfl rfl (by decide)) (js rfl rfl (.inl (by decide)))) rfl (by decide))))]
 generalize 1+(c / 1000+4*(n:Int)) % 15=p
 show ∃ks2 ls2 es2 lw2 y6 y7 y8 y9 y10 y11,ak _ [.sh (.lst (ns.map .int)),.sh (.int c),.sh (.int a),.sh (.int b),.on (.tr (cD a b r ks [] ls es [] lw)),.sh (.int n),.sh (.int p),x7,x8,x9,x10,x11]=_∧_
 have hp1:pX 4 pN (eC (S "lent")) [.sh (.lst (ns.map .int)),.sh (.int c),.sh (.int a),.sh (.int b),.on (.tr (cD a b r ks [] ls es [] lw)),.sh (.int n),.sh (.int p),x7,x8,x9,x10,x11]=.ok [1]:=um rfl
 have hkl:(IK ls).length<1000:=by unfold IK;rw[List.length_map];have:=hl.2.2.1;omega
 have hkk:(IK ks).length<1000:=by unfold IK;rw[List.length_map];have:=hp.2.2.1;omega
 rw[aB (fZ (t:=cD a b r ks [] ls es [] lw) (ks:=IK ls) (ts:=lw.map fun x=>.d (W x)) (m5 (dG rfl (ft rfl rfl) hi) hw) hp1 rfl rfl rfl rfl hkl (oV W))]
 show ∃ks2 ls2 es2 lw2 y6 y7 y8 y9 y10 y11,ak _ [.sh (.lst (ns.map .int)),.sh (.int c),.sh (.int a),.sh (.int b),.on (.tr (cD a b r ks [] (ins p w ls lw).1 es [] (ins p w ls lw).2)),.sh (.int n),.sh (.int p),cn 4 [1] x7,cn 4 [1] x8,cn 4 [1] x9,cn 4 [1] x10,cn 4 [1] x11]=_∧_
 generalize cn 4 [1] x7=x7
 generalize cn 4 [1] x8=x8
 generalize cn 4 [1] x9=x9
 generalize cn 4 [1] x10=x10
 generalize cn 4 [1] x11=x11
 have hp2:pX 4 (pX 4 (pX 4 pN (eC (S "tasks"))) (aa 2)) (eC (S "pages")) [.sh (.lst (ns.map .int)),.sh (.int c),.sh (.int a),.sh (.int b),.on (.tr (cD a b r ks [] (ins p w ls lw).1 es [] (ins p w ls lw).2)),.sh (.int n),.sh (.int p),x7,x8,x9,x10,x11]=.ok [0,0,4]:=oI (j:=false) h rfl rfl
 rw[aB (fZ (t:=cD a b r ks [] (ins p w ls lw).1 es [] (ins p w ls lw).2) (ks:=IK ks) (ts:=es.map fun x=>.d x.d) (d:=(Ent.ln p).d) (nH rfl rfl) hp2 (ft (i:=100) (u:=n) rfl rfl) rfl rfl rfl hkk (oV Ent.d))]
 refine⟨(ins (100+(n:Int)) (.ln p) ks es).1,(ins p w ls lw).1,(ins (100+(n:Int)) (.ln p) ks es).2,(ins p w ls lw).2,.sh (.int p),cn 4 [0,0,4] x7,cn 4 [0,0,4] x8,cn 4 [0,0,4] x9,cn 4 [0,0,4] x10,cn 4 [0,0,4] x11,rfl,?_,hl.ins h16⟩
 exact(hp.sub (m:=n) Bv (Nat.le_refl _)).ins Eu
theorem vO(h:a≠b){j:Bool}{q q':QT}{pg':T}{c8 k7:Int}{x5 x6:Slot}{x11:Slot}(hp:cN n ls ks es)(hl:eG n ls lw)(hn:n<50)(hj:[a,b][(c8 % 2).toNat]? =some (tid j a b)):
   ∃ks2 es2 y5 y6 y9 y10 y11,ak [iq 9 4 (pX 4 (pX 4 (pX 4 (pN) (eC (S "tasks"))) (e2 au (cz [aa 2,aa 3]) (e2 oMod (aa 8) (eC (.int 2))))) (eC (S "pages"))),bg (aF 10) (e2 au (cz [eC (.int 0),eC (.int 1),eC (.int 2),eC (.int 3),eC (.int 4095),e2 oMod (e2 oDiv (aa 8) (eC (.int 144))) (eC (.int 4096))]) (e2 oMod (e2 oDiv (aa 8) (eC (.int 2))) (eC (.int 6)))),bg (aF 11) (cA [eC (S "own"),aN iO [e2 oDiv (aa 8) (eC (.int 36))]]),aV (fq 4 (gw (tV (e2 oEq (e2 oMod (e2 oDiv (aa 8) (eC (.int 12))) (eC (.int 3))) (eC (.int 2)))) (tV (e2 gZ (e2 au (aa 4) (eC (S "lent"))) (cU [] []))))) (bg (aF 11) (eX (xT [xD (eC (S "lent")),xD (en 4 (e2 au (e1 fR (e2 au (aa 4) (eC (S "lent")))) (e2 oMod (e2 oDiv (aa 8) (eC (.int 36))) (e1 dg (e2 au (aa 4) (eC (S "lent")))))))]))) (ba),aV (b7 (tV (e2 oLt (aa 10) (eC (.int 100)))) (tV (e2 g6 (aa 10) (eC (.int 102))))) (bW 4 (pA 4 9) (aa 10) (aa 11)) (ba)] [.sh (.lst (ns.map .int)),.sh (.int c),.sh (.int a),.sh (.int b),.on (.tr (bz j a b q q' (cb ks es) pg' (dU ls lw) (.d bD) (.d bK))),x5,x6,.sh (.int k7),.sh (.int c8),x9,x10,x11]=.ok (.next [.sh (.lst (ns.map .int)),.sh (.int c),.sh (.int a),.sh (.int b),.on (.tr (bz j a b q q' (cb ks2 es2) pg' (dU ls lw) (.d bD) (.d bK))),y5,y6,.sh (.int k7),.sh (.int c8),y9,y10,y11])∧cN (n+1) ls ks2 es2:=by
 obtain⟨w,hw,h16⟩:=tS (c8 / 36)
 have m0:=Int.emod_nonneg c8 (show(2:Int)≠0 by decide)
 have m1:=Int.emod_lt_of_pos c8 (show(0:Int)<2 by decide)
 generalize ht:bz j a b q q' (cb ks es) pg' (dU ls lw) (.d bD) (.d bK)=t
 have htid:(e2 au (cz [aa 2,aa 3]) (e2 oMod (aa 8) (eC (.int 2)))) [.sh (.lst (ns.map .int)),.sh (.int c),.sh (.int a),.sh (.int b),.on (.tr t),x5,x6,.sh (.int k7),.sh (.int c8),x9,x10,x11]=.ok (.int (tid j a b)):=by
   refine aL (x:=.lst [.int a,.int b]) rfl (bM rfl rfl (by decide)) (jj ?_)
   show(cX 2 (c8 % 2)).bind (fun k=>([a,b].map D.int)[k]?)=_
   rw[Ag m0 (by omega)]
   show([a,b].map D.int)[(c8 % 2).toNat]? =_
   rw[List.getElem?_map,hj];rfl
 have hpp:=oI (q:=q) (q':=q') (pg:=cb ks es) (pg':=pg') (lt:=dU ls lw) (nd:=.d bD) (bx:=.d bK) h (i:=4) (by rw[ht];rfl) htid
 have hat:T.at t [0,J j,4]=some (cb ks es):=by rw[←ht];exact oX
 rw[aB (vL hpp rfl hat rfl (by decide))]
 show ∃ks2 es2 y5 y6 y9 y10 y11,ak _ [.sh (.lst (ns.map .int)),.sh (.int c),.sh (.int a),.sh (.int b),.on (.tr t),x5,x6,.sh (.int k7),.sh (.int c8),.on (.al 4 [0,J j,4]),x10,x11]=_∧_
 obtain⟨p,hpi⟩:∃p,(e2 au (cz [eC (.int 0),eC (.int 1),eC (.int 2),eC (.int 3),eC (.int 4095),e2 oMod (e2 oDiv (aa 8) (eC (.int 144))) (eC (.int 4096))]) (e2 oMod (e2 oDiv (aa 8) (eC (.int 2))) (eC (.int 6)))) [.sh (.lst (ns.map .int)),.sh (.int c),.sh (.int a),.sh (.int b),.on (.tr t),x5,x6,.sh (.int k7),.sh (.int c8),.on (.al 4 [0,J j,4]),x10,x11]=.ok (.int p):=by
   have i0:=Int.emod_nonneg (c8 / 2) (show(6:Int)≠0 by decide)
   have i1:=Int.emod_lt_of_pos (c8 / 2) (show(0:Int)<6 by decide)
   have hi:(c8 / 2 % 6).toNat< [0,1,2,3,4095,c8 / 144 % 4096].length:=by show _<6;omega
   refine⟨[0,1,2,3,4095,c8 / 144 % 4096][(c8 / 2 % 6).toNat],aL (x:=.lst ([0,1,2,3,4095,c8 / 144 % 4096].map .int)) ?_ (bM (cw rfl rfl (by decide)) rfl (by decide)) (jj ?_)⟩
   · simp only[cz,eList]
     rw[bM (cw rfl rfl (by decide)) rfl (by decide)]
     rfl
   ·rw[jO i0 (by rw[List.length_map];exact i1),List.getElem_map]
 rw[aB (bH hpi)]
 show ∃ks2 es2 y5 y6 y9 y10 y11,ak _ [.sh (.lst (ns.map .int)),.sh (.int c),.sh (.int a),.sh (.int b),.on (.tr t),x5,x6,.sh (.int k7),.sh (.int c8),.on (.al 4 [0,J j,4]),.sh (.int p),x11]=_∧_
 rw[aB (bH (d:=(Ent.own w).d) (nH rfl (m5 (cw rfl rfl (by decide)) hw)))]
 show ∃ks2 es2 y5 y6 y9 y10 y11,ak _ [.sh (.lst (ns.map .int)),.sh (.int c),.sh (.int a),.sh (.int b),.on (.tr t),x5,x6,.sh (.int k7),.sh (.int c8),.on (.al 4 [0,J j,4]),.sh (.int p),.sh (Ent.own w).d]=_∧_
 have hlen:∀ {ρ:En},ρ[4]? =some (.on (.tr t))→e2 au (aa 4) (eC (S "lent")) (cS 4 t ρ)=.ok (aM ls lw):=by
   intro ρ h4
   refine aL (x:=T.toD t) ?_ rfl ?_
   · unfold cS aa
     rw[List.getElem?_set_self (by rw[List.length_map];exact(List.getElem?_eq_some_iff.mp h4).1)]
   · rw[←ht,p8,lM]
     exact lL (pg:=T.toD (cb ks es)) (pg':=T.toD pg') (q:=q.q) (q':=q'.q)
 obtain⟨e,he,hs⟩:∃e,gg ls e∧aV (fq 4 (gw (tV (e2 oEq (e2 oMod (e2 oDiv (aa 8) (eC (.int 12))) (eC (.int 3))) (eC (.int 2)))) (tV (e2 gZ (e2 au (aa 4) (eC (S "lent"))) (cU [] []))))) (bg (aF 11) (eX (xT [xD (eC (S "lent")),xD (en 4 (e2 au (e1 fR (e2 au (aa 4) (eC (S "lent")))) (e2 oMod (e2 oDiv (aa 8) (eC (.int 36))) (e1 dg (e2 au (aa 4) (eC (S "lent")))))))]))) (ba) [.sh (.lst (ns.map .int)),.sh (.int c),.sh (.int a),.sh (.int b),.on (.tr t),x5,x6,.sh (.int k7),.sh (.int c8),.on (.al 4 [0,J j,4]),.sh (.int p),.sh (Ent.own w).d]=.ok (.next [.sh (.lst (ns.map .int)),.sh (.int c),.sh (.int a),.sh (.int b),.on (.tr t),x5,x6,.sh (.int k7),.sh (.int c8),.on (.al 4 [0,J j,4]),.sh (.int p),.sh e.d]):=by
   have hA:tV (e2 oEq (e2 oMod (e2 oDiv (aa 8) (eC (.int 12))) (eC (.int 3))) (eC (.int 2))) (cS 4 t [.sh (.lst (ns.map .int)),.sh (.int c),.sh (.int a),.sh (.int b),.on (.tr t),x5,x6,.sh (.int k7),.sh (.int c8),.on (.al 4 [0,J j,4]),.sh (.int p),.sh (Ent.own w).d])=.ok (decide (c8 / 12 % 3=2)):=bF (gK (bM (cw rfl rfl (by decide)) rfl (by decide)) rfl)
   have hB:tV (e2 gZ (e2 au (aa 4) (eC (S "lent"))) (cU [] [])) (cS 4 t [.sh (.lst (ns.map .int)),.sh (.int c),.sh (.int a),.sh (.int b),.on (.tr t),x5,x6,.sh (.int k7),.sh (.int c8),.on (.al 4 [0,J j,4]),.sh (.int p),.sh (Ent.own w).d])=.ok (!(IK ls).isEmpty):=bF (aL (hlen rfl) (y:=.ao [] []) rfl rfl)
   by_cases hc:(decide (c8 / 12 % 3=2)&& !(IK ls).isEmpty)=true
   · rw[Bool.and_eq_true]at hc
     have hpos:0<((aX ls).length:Int):=by
       rw[(ic ls).length_eq]
       cases ls with
       |nil=>exact absurd hc.2 (by decide)
       |cons x xs=>simp
     have hll:((IK ls).length:Int)=((aX ls).length:Int):=by
       rw[(ic ls).length_eq];unfold IK;rw[List.length_map]
     have i0:=Int.emod_nonneg (c8 / 36) (Int.ne_of_gt hpos)
     have i1:=Int.emod_lt_of_pos (c8 / 36) hpos
     have hi:(c8 / 36 % ((aX ls).length:Int)).toNat<(aX ls).length:=by omega
     have hpk:en 4 (e2 au (e1 fR (e2 au (aa 4) (eC (S "lent")))) (e2 oMod (e2 oDiv (aa 8) (eC (.int 36))) (e1 dg (e2 au (aa 4) (eC (S "lent")))))) [.sh (.lst (ns.map .int)),.sh (.int c),.sh (.int a),.sh (.int b),.on (.tr t),x5,x6,.sh (.int k7),.sh (.int c8),.on (.al 4 [0,J j,4]),.sh (.int p),.sh (Ent.own w).d]=.ok (.int (aX ls)[(c8 / 36 % ((aX ls).length:Int)).toNat]):=by
       refine vf rfl (aL (dP (hlen rfl) (pd (by have:=hl.2.2.1;omega))) (bM (cw rfl rfl (by decide)) (dP (d:=.int ((aX ls).length:Int)) (hlen rfl) (by rw[←hll];rfl)) hpos) (jj ?_))
       rw[jO i0 (by rw[List.length_map];exact i1),List.getElem_map]
     refine⟨.ln (aX ls)[(c8 / 36 % ((aX ls).length:Int)).toNat],(ic ls).mem_iff.mp (List.getElem_mem hi),?_⟩
     rw[dk (nG rfl (by rw[rM hA hB];simp only[hc.1,hc.2];rfl))]
     refine bH (qc (t:=.tu [.d (S "lent"),.d (.int (aX ls)[(c8 / 36 % ((aX ls).length:Int)).toNat])]) ?_)
     unfold xT
     simp only[cW,xD,hpk,R.aW]
     rfl
   · refine⟨.own w,h16,cq (nG rfl ?_)⟩
     rw[rM hA hB]
     simp only[Bool.not_eq_true]at hc
     rw[hc]
 rw[aB hs]
 have hkk:(IK ks).length<1000:=by unfold IK;rw[List.length_map];have:=hp.2.2.1;omega
 by_cases hc:(decide (p<100)||decide (102<p))=true
 · have hput:aV (b7 (tV (e2 oLt (aa 10) (eC (.int 100)))) (tV (e2 g6 (aa 10) (eC (.int 102))))) (bW 4 (pA 4 9) (aa 10) (aa 11)) (ba) [.sh (.lst (ns.map .int)),.sh (.int c),.sh (.int a),.sh (.int b),.on (.tr t),x5,x6,.sh (.int k7),.sh (.int c8),.on (.al 4 [0,J j,4]),.sh (.int p),.sh e.d]=.ok (.next [.sh (.lst (ns.map .int)),.sh (.int c),.sh (.int a),.sh (.int b),.on (.tr (bz j a b q q' (cb (ins p e ks es).1 (ins p e ks es).2) pg' (dU ls lw) (.d bD) (.d bK))),cn 4 [0,J j,4] x5,cn 4 [0,J j,4] x6,.sh (.int k7),.sh (.int c8),cn 4 [0,J j,4] (.on (.al 4 [0,J j,4])),.sh (.int p),.sh e.d]):=by
     rw[dk (by rw[iQ (bF (lZ rfl rfl)) (bF (rO rfl rfl)),hc])]
     rw[fZ (p:=[0,J j,4]) (d:=e.d) rfl rfl rfl rfl rfl hat hkk (oV Ent.d)]
     rw[show T.m (IK (ins p e ks es).1) ((ins p e ks es).2.map fun x=>.d x.d)=cb (ins p e ks es).1 (ins p e ks es).2 from rfl, ←ht,t9]
     rfl
   rw[aB hput]
   exact⟨_,_,_,_,_,_,_,rfl,hp.ins he⟩
 · rw[aB (cq (by rw[iQ (bF (lZ rfl rfl)) (bF (rO rfl rfl))];simpa using hc)), ←ht]
   exact⟨_,_,_,_,_,_,_,rfl,hp.sub (fun _ h=>h) (Nat.le_succ _)⟩
end
section
variable{a b c:Int}{ns:List Int}{r:Bool}{n:Nat}{ks ks' ls:List Int}{es es':List Ent}{lw:List (List Int)}{x5 x6 x7 x8 x9 x10 x11:Slot}
theorem yd(h:a≠b){k7:Int}(hk:0≤k7)(hp:cN n ls ks es)(hp':cN n ls ks' es')(hl:eG n ls lw)(hn:n<50):
   ∃ks2 ks2' es2 es2' y5 y6 y8 y9 y10 y11,jR [.sh (.lst (ns.map .int)),.sh (.int c),.sh (.int a),.sh (.int b),.on (.tr (cD a b r ks ks' ls es es' lw)),x5,x6,.sh (.int k7),x8,x9,x10,x11]=.ok (.next [.sh (.lst (ns.map .int)),.sh (.int c),.sh (.int a),.sh (.int b),.on (.tr (cD a b r ks2 ks2' ls es2 es2' lw)),y5,y6,.sh (.int k7),y8,y9,y10,y11])∧cN (n+1) ls ks2 es2∧cN (n+1) ls ks2' es2':=by
 obtain⟨c8,hc8⟩:=pU ns k7 hk
 rw[jR]
 rw[aB (bH (dG rfl rfl hc8))]
 show ∃ks2 ks2' es2 es2' y5 y6 y8 y9 y10 y11,ak _ [.sh (.lst (ns.map .int)),.sh (.int c),.sh (.int a),.sh (.int b),.on (.tr (cD a b r ks ks' ls es es' lw)),x5,x6,.sh (.int k7),.sh (.int c8),x9,x10,x11]=_∧_
 by_cases hm:c8 % 2=0
 · obtain⟨ks2,es2,y5,y6,y9,y10,y11,hs,hp2⟩:=vO (j:=false) (q:=qA) (q':=qB r) (pg':=cb ks' es') (ns:=ns) (c:=c) (k7:=k7) (x5:=x5) (x6:=x6) (x9:=x9) (x10:=x10) (x11:=x11) h hp hl hn (c8:=c8) (by rw[hm];rfl)
   exact⟨ks2,ks',es2,es',y5,y6,_,y9,y10,y11,hs,hp2,hp'.sub (fun _ h=>h) (Nat.le_succ _)⟩
 · have hm1:c8 % 2=1:=by omega
   obtain⟨ks2,es2,y5,y6,y9,y10,y11,hs,hp2⟩:=vO (j:=true) (q:=qB r) (q':=qA) (pg':=cb ks es) (ns:=ns) (c:=c) (k7:=k7) (x5:=x5) (x6:=x6) (x9:=x9) (x10:=x10) (x11:=x11) h hp' hl hn (c8:=c8) (by rw[hm1];rfl)
   exact⟨ks,ks2,es,es2,y5,y6,_,y9,y10,y11,hs,hp.sub (fun _ h=>h) (Nat.le_succ _),hp2⟩
end
theorem wg(ns:List Int):∃a b r ks ks' ls es es' lw,a≠b∧Pg ls ks es∧Pg ls ks' es'∧Lt ls lw∧j3 [.lst (ns.map .int)]=.ok (st false a b qA.q (qB r).q (ar ks es) (ar ks' es') (aM ls lw)):=by
 obtain⟨c,hc⟩:=pU ns 0 (Int.le_refl 0)
 have hab:1+c % 15≠1+(c+1+c / 15 % 14) % 15:=by omega
 suffices hh:∃a b r ks ks' ls es es' lw,a≠b∧Pg ls ks es∧Pg ls ks' es'∧Lt ls lw∧_=R.ok (Fl.ret (st false a b qA.q (qB r).q (ar ks es) (ar ks' es') (aM ls lw))) by
   obtain⟨a,b,r,ks,ks',ls,es,es',lw,h1,h2,h3,h4,h5⟩:=hh
   exact⟨a,b,r,ks,ks',ls,es,es',lw,h1,h2,h3,h4,by rw[j3];exact cF h5⟩
 show ∃a b r ks ks' ls es es' lw,a≠b∧Pg ls ks es∧Pg ls ks' es'∧Lt ls lw∧ak _ [.sh (.lst (ns.map .int)),.un,.un,.un,.un,.un,.un,.un,.un,.un,.un,.un]=_
 rw[aB (bH (dG rfl rfl hc))]
 generalize hsc:D.lst (ns.map .int)=sc
 show ∃a b r ks ks' ls es es' lw,a≠b∧Pg ls ks es∧Pg ls ks' es'∧Lt ls lw∧ak _ [.sh sc,.sh (.int c),.un,.un,.un,.un,.un,.un,.un,.un,.un,.un]=_
 rw[aB (bH (ft rfl (bM rfl rfl (by decide))))]
 show ∃a b r ks ks' ls es es' lw,a≠b∧Pg ls ks es∧Pg ls ks' es'∧Lt ls lw∧ak _ [.sh sc,.sh (.int c),.sh (.int (1+c % 15)),.un,.un,.un,.un,.un,.un,.un,.un,.un]=_
 rw[aB (bH (ft rfl (bM (ft (ft rfl rfl) (bM (cw rfl rfl (by decide)) rfl (by decide))) rfl (by decide))))]
 show ∃a b r ks ks' ls es es' lw,a≠b∧Pg ls ks es∧Pg ls ks' es'∧Lt ls lw∧ak _ [.sh sc,.sh (.int c),.sh (.int (1+c % 15)),.sh (.int (1+(c+1+c / 15 % 14) % 15)),.un,.un,.un,.un,.un,.un,.un,.un]=_
 revert hab
 generalize 1+c % 15=a
 generalize 1+(c+1+c / 15 % 14) % 15=b
 intro h
 have nd:([.inl a,.inl b]:List Ky).Nodup:=List.nodup_cons.mpr ⟨fun hm=>iu h (List.mem_singleton.mp hm),by simp⟩
 have hin:eT [(aa 2,bR fV [eC (.int 0)]),(aa 3,bR fV [eC (.int 0)])] [.sh sc,.sh (.int c),.sh (.int a),.sh (.int b),.un,.un,.un,.un,.un,.un,.un,.un]=.ok (iM false a b (dy q0 (.m [] [])) (dy q0 (.m [] []))):=by
   unfold eT
   rw[show jd [(aa 2,bR fV [eC (.int 0)]),(aa 3,bR fV [eC (.int 0)])] [.sh sc,.sh (.int c),.sh (.int a),.sh (.int b),.un,.un,.un,.un,.un,.un,.un,.un]=.ok ([.inl a,.inl b],[dy q0 (.m [] []),dy q0 (.m [] [])]) by kernel_rfl,R.aW]
   exact if_pos nd
 have hout:eT [(eC (S "tasks"),eT [(aa 2,bR fV [eC (.int 0)]),(aa 3,bR fV [eC (.int 0)])]),(eC (S "lent"),gI),(eC (S "nodes"),eT [(eC (.int 0),xT [xD (eC (S "folder")),gI])])] [.sh sc,.sh (.int c),.sh (.int a),.sh (.int b),.un,.un,.un,.un,.un,.un,.un,.un]=.ok (.m [.inr (Str.ofString "tasks"),.inr (Str.ofString "lent"),.inr (Str.ofString "nodes")] [iM false a b (dy q0 (.m [] [])) (dy q0 (.m [] [])),.m [] [],.m [.inl 0] [.tu [.d (S "folder"),.m [] []]]]):=by
   rw[eT]
   unfold jd
   rw[hin]
   kernel_rfl
 rw[aB (rR hout rfl)]
 rw[aB (ρ':=[.sh sc,.sh (.int c),.sh (.int a),.sh (.int b),.on (.tr (.m [.inr (Str.ofString "tasks"),.inr (Str.ofString "lent"),.inr (Str.ofString "nodes")] [iM false a b (dy q0 (.m [] [])) (dy q0 (.m [] [])),.m [] [],.d bD])),.un,.un,.un,.un,.un,.un,.un]) (by kernel_rfl)]
 rw[aB (ρ':=[.sh sc,.sh (.int c),.sh (.int a),.sh (.int b),.on (.tr (.m [.inr (Str.ofString "tasks"),.inr (Str.ofString "lent"),.inr (Str.ofString "nodes"),.inr (Str.ofString "boxes")] [iM false a b (dy q0 (.m [] [])) (dy q0 (.m [] [])),.m [] [],.d bD,.d bK])),.un,.un,.un,.un,.un,.un,.un]) (by kernel_rfl)]
 rw[aB (ρ':=[.sh sc,.sh (.int c),.sh (.int a),.sh (.int b),.on (.tr (bz false a b q0 q0 (.m [] []) (.m [] []) (.m [] []) (.d bD) (.d bK))),.un,.un,.un,.un,.un,.un,.un]) (by kernel_rfl)]
 have P1:∀ {q q':QT} {y:Ex},y [.sh sc,.sh (.int c),.sh (.int a),.sh (.int b),.on (.tr (bz false a b q q' (.m [] []) (.m [] []) (.m [] []) (.d bD) (.d bK))),.un,.un,.un,.un,.un,.un,.un]=.ok (.int a)→pX 4 (pX 4 pN (eC (S "tasks"))) y [.sh sc,.sh (.int c),.sh (.int a),.sh (.int b),.on (.tr (bz false a b q q' (.m [] []) (.m [] []) (.m [] []) (.d bD) (.d bK))),.un,.un,.un,.un,.un,.un,.un]=.ok [0,0]:=fun hy=>pj (j:=false) h rfl hy
 have P2:∀ {q q':QT} {y:Ex},y [.sh sc,.sh (.int c),.sh (.int a),.sh (.int b),.on (.tr (bz false a b q q' (.m [] []) (.m [] []) (.m [] []) (.d bD) (.d bK))),.un,.un,.un,.un,.un,.un,.un]=.ok (.int b)→pX 4 (pX 4 pN (eC (S "tasks"))) y [.sh sc,.sh (.int c),.sh (.int a),.sh (.int b),.on (.tr (bz false a b q q' (.m [] []) (.m [] []) (.m [] []) (.d bD) (.d bK))),.un,.un,.un,.un,.un,.un,.un]=.ok [0,1]:=fun hy=>pj (j:=true) h (q:=_) (q':=_) (pg:=.m [] []) (pg':=.m [] []) (lt:=.m [] []) (nd:=.d bD) (bx:=.d bK) rfl hy
 have p1:=fZ (i:=4) (k:=eC (S "handles")) (e:=cU [(.inl 3)] [eC (.int 1)]) (d:=cE) (z:=.inr (Str.ofString "handles")) (ks:=KS) (ks':=KS) (ts:=[q0.p,q0.k,q0.g,q0.r,.m [] [],q0.h,q0.w,q0.hd,q0.ru,q0.sv]) (ts':=[q0.p,q0.k,q0.g,q0.r,.m [] [],.d cE,q0.w,q0.hd,q0.ru,q0.sv]) rfl (P1 (q:=q0) (q':=q0) (y:=aa 2) rfl) rfl rfl rfl rfl (by decide) (by kernel_rfl)
 rw[aB p1]
 show ∃a b r ks ks' ls es es' lw,a≠b∧Pg ls ks es∧Pg ls ks' es'∧Lt ls lw∧ak _ [.sh sc,.sh (.int c),.sh (.int _),.sh (.int _),.on (.tr (bz false _ _ {q0 with h:=.d cE} q0 (.m [] []) (.m [] []) (.m [] []) (.d bD) (.d bK))),.un,.un,.un,.un,.un,.un,.un]=_
 have p2:=fZ (i:=4) (k:=eC (S "saved")) (e:=cA [cz [eC (.int 1),eC (.int 2),eC (.int 3),eC (.int 4),eC (.int 5),eC (.int 6),eC (.int 7),eC (.int 8)],eC (.int 70)]) (d:=qw) (z:=.inr (Str.ofString "saved")) (ks:=KS) (ks':=KS) (ts:=[q0.p,q0.k,q0.g,q0.r,.m [] [],.d cE,q0.w,q0.hd,q0.ru,q0.sv]) (ts':=[q0.p,q0.k,q0.g,q0.r,.m [] [],.d cE,q0.w,q0.hd,q0.ru,.d qw]) rfl (P1 (q:={q0 with h:=.d cE}) (q':=q0) (y:=aa 2) rfl) rfl rfl rfl rfl (by decide) (by kernel_rfl)
 rw[aB p2]
 show ∃a b r ks ks' ls es es' lw,a≠b∧Pg ls ks es∧Pg ls ks' es'∧Lt ls lw∧ak _ [.sh sc,.sh (.int c),.sh (.int _),.sh (.int _),.on (.tr (bz false _ _ qA q0 (.m [] []) (.m [] []) (.m [] []) (.d bD) (.d bK))),.un,.un,.un,.un,.un,.un,.un]=_
 have p3:=fZ (i:=4) (k:=eC (S "handler")) (e:=eC (.int 50)) (d:=.int 50) (z:=.inr (Str.ofString "handler")) (ks:=KS) (ks':=KS) (ts:=[q0.p,q0.k,q0.g,q0.r,.m [] [],q0.h,q0.w,q0.hd,q0.ru,q0.sv]) (ts':=[q0.p,q0.k,q0.g,q0.r,.m [] [],q0.h,q0.w,.d (.int 50),q0.ru,q0.sv]) rfl (P2 (q:=qA) (q':=q0) (y:=aa 3) rfl) rfl rfl rfl rfl (by decide) (by kernel_rfl)
 rw[aB p3]
 show ∃a b r ks ks' ls es es' lw,a≠b∧Pg ls ks es∧Pg ls ks' es'∧Lt ls lw∧ak _ [.sh sc,.sh (.int c),.sh (.int _),.sh (.int _),.on (.tr (bz false _ _ qA {q0 with hd:=.d (.int 50)} (.m [] []) (.m [] []) (.m [] []) (.d bD) (.d bK))),.un,.un,.un,.un,.un,.un,.un]=_
 have p4:=fZ (i:=4) (k:=eC (S "rung")) (e:=e2 oEq (e2 oMod (aa 1) (eC (.int 2))) (eC (.int 1))) (d:=.bl (decide (c % 2=1))) (z:=.inr (Str.ofString "rung")) (ks:=KS) (ks':=KS) (ts:=[q0.p,q0.k,q0.g,q0.r,.m [] [],q0.h,q0.w,.d (.int 50),q0.ru,q0.sv]) (ts':=[q0.p,q0.k,q0.g,q0.r,.m [] [],q0.h,q0.w,.d (.int 50),.d (.bl (decide (c % 2=1))),q0.sv]) (gK (bM rfl rfl (by decide)) rfl) (P2 (q:=qA) (q':={q0 with hd:=.d (.int 50)}) (y:=aa 3) rfl) rfl rfl rfl rfl (by decide) (by kernel_rfl)
 rw[aB p4]
 generalize decide (c % 2=1)=r
 show ∃a b r ks ks' ls es es' lw,a≠b∧Pg ls ks es∧Pg ls ks' es'∧Lt ls lw∧ak _ [.sh sc,.sh (.int c),.sh (.int _),.sh (.int _),.on (.tr (cD _ _ _ [] [] [] [] [] [])),.un,.un,.un,.un,.un,.un,.un]=_
 subst hsc
 have hm1:=Int.emod_lt_of_pos (c / 225) (show(0:Int)<4 by decide)
 have hm0:=Int.emod_nonneg (c / 225) (show(4:Int)≠0 by decide)
 obtain⟨ρ1,eL,ks,ls,es,lw,x5,x6,x7,x8,x9,x10,x11,hp,hl,hρ⟩:=kq (tg:=aF 5) (body:=jy) (fun n ρ=>∃ks ls es lw x5 x6 x7 x8 x9 x10 x11,cN n ls ks es∧eG n ls lw∧ρ=[.sh (.lst (ns.map .int)),.sh (.int c),.sh (.int a),.sh (.int b),.on (.tr (cD a b r ks [] ls es [] lw)),x5,x6,x7,x8,x9,x10,x11]) (ds:=cC 0 (c / 225 % 4)) 0 (by
   intro n d hk ρ ⟨ks,ls,es,lw,x5,x6,x7,x8,x9,x10,x11,hp,hl,hρ⟩
   obtain⟨rfl,hk2⟩:=mS hk
   subst hρ
   refine⟨_,rfl,?_⟩
   rw[show(0:Int)+(n:Int)=(n:Int) by omega,show 0+n=n by omega]
   rw[show 0+n=n by omega]at hp hl
   obtain⟨ks2,ls2,es2,lw2,y6,y7,y8,y9,y10,y11,hs,hp2,hl2⟩:=BY (c:=c) (ns:=ns) (r:=r) (x6:=x6) (x7:=x7) (x8:=x8) (x9:=x9) (x10:=x10) (x11:=x11) h hp hl (by omega)
   exact⟨_,hs,ks2,ls2,es2,lw2,_,y6,y7,y8,y9,y10,y11,hp2,hl2,rfl⟩) (ρ:=[.sh (.lst (ns.map .int)),.sh (.int c),.sh (.int a),.sh (.int b),.on (.tr (cD a b r [] [] [] [] [] [])),.un,.un,.un,.un,.un,.un,.un]) ⟨[],[],[],[],.un,.un,.un,.un,.un,.un,.un,⟨List.nodup_nil,rfl,Nat.le_refl _,fun _ hm=>nomatch hm⟩,⟨List.nodup_nil,rfl,Nat.le_refl _,fun _ hm=>nomatch hm⟩,rfl⟩
 have hlen:(cC 0 (c / 225 % 4)).length≤4:=by unfold cC;rw[List.length_map,List.length_range];omega
 have hp:=hp.sub (m:=4) (fun _ h=>h) (by omega)
 have hl:=hl.up (m:=4) (by omega)
 rw[aB (j9 (ds:=cC 0 (c / 225 % 4)) (by rw[hW,bM (i:=c / 225) (u:=4) (cw rfl rfl (by decide)) rfl (by decide)];exact if_pos (by unfold inR;rw[decide_eq_true (by omega),decide_eq_true (by omega)];rfl)) eL)]
 subst hρ
 obtain⟨ρ2,eL2,ks2,ks2',es2,es2',x5,x6,x7,x8,x9,x10,x11,hp2,hp2',hρ⟩:=kq (tg:=aF 7) (body:=jR) (fun n ρ=>∃ks ks' es es' x5 x6 x7 x8 x9 x10 x11,cN (4+n) ls ks es∧cN (4+n) ls ks' es'∧ρ=[.sh (.lst (ns.map .int)),.sh (.int c),.sh (.int a),.sh (.int b),.on (.tr (cD a b r ks ks' ls es es' lw)),x5,x6,x7,x8,x9,x10,x11]) (ds:=cC 3 13) 0 (by
   intro n d hk ρ ⟨ks,ks',es,es',x5,x6,x7,x8,x9,x10,x11,hp,hp',hρ⟩
   obtain⟨rfl,hk2⟩:=mS hk
   subst hρ
   refine⟨_,rfl,?_⟩
   obtain⟨ks2,ks2',es2,es2',y5,y6,y8,y9,y10,y11,hs,hp2,hp2'⟩:=yd (c:=c) (ns:=ns) (r:=r) (k7:=3+(n:Int)) (x5:=x5) (x6:=x6) (x8:=x8) (x9:=x9) (x10:=x10) (x11:=x11) h (by omega) hp hp' (hl.up (m:=4+(0+n)) (by omega)) (by omega)
   exact⟨_,hs,ks2,ks2',es2,es2',y5,y6,_,y8,y9,y10,y11,hp2,hp2',rfl⟩) (ρ:=[.sh (.lst (ns.map .int)),.sh (.int c),.sh (.int a),.sh (.int b),.on (.tr (cD a b r ks [] ls es [] lw)),x5,x6,x7,x8,x9,x10,x11]) ⟨ks,[],es,[],x5,x6,x7,x8,x9,x10,x11,hp,⟨List.nodup_nil,rfl,Nat.zero_le _,fun _ hm=>nomatch hm⟩,rfl⟩
 rw[aB (j9 (ds:=cC 3 13) rfl eL2)]
 subst hρ
 rw[aB (qb rfl)]
 refine⟨a,b,r,ks2,ks2',ls,es2,es2',lw,h,hp2.pg (by decide),hp2'.pg (by decide),hl.lt (by decide),bQ (bY ?_)⟩
 show R.ok (T.toD (cD a b r ks2 ks2' ls es2 es2' lw))=_
 unfold cD
 rw[p8,jY,jY,lM];rfl
end eR
end PL
namespace PL
open PySem PySem.Spec
open L2 (V Hp HO Cx PE PT PW PA PS bT PG cY VK TE TT TA TS TI TG Inv RelV Vals Rd aY bb upd af Key XK Ends aR fi bu R2 EP It Turn cu)
structure XE(X:Cx)(e:Expr)(f:Ex):Prop where
 out:JE X e f
structure XF(X:Cx)(e:Expr)(f:Ex):Prop where
 out:JF X e f
structure XT(X:Cx)(e:Expr)(f:aG):Prop where
 out:JT X e f
structure XW(X:Cx)(e:Expr)(f:aG):Prop where
 out:JW X e f
structure XA(X:Cx)(e:List Expr)(f:En→R (List D)):Prop where
 out:JA X e f
structure XO(X:Cx)(e:Option Expr)(f:Option Ex):Prop where
 out:JO X e f
structure XS(X:Cx)(e:Stmt)(f:Sm):Prop where
 out:JS X e f
structure eQ(X:Cx)(e:List Stmt)(f:Sm):Prop where
 out:dj X e f
structure XG(X:Cx)(e:Expr)(f:bo):Prop where
 out:JG X e f
structure nr(X:Cx)(e:List Expr)(f:List D→En→R En):Prop where
 out:lq X e f
structure oC(X:Cx)(e:List Expr)(f:List aG):Prop where
 out:ja X e f
structure XP(X:Cx)(pos:Pos)(keys:List (Option Expr))(values:List Expr)(ks:List Ky)(fs:List Ex):Prop where
 out:JP X pos keys values ks fs
structure XI(X:Cx)(tg e:Expr)(f:br):Prop where
 out:JI X tg e f
structure XD(X:Cx)(e:Expr)(f:Ex):Prop where
 out:JD X e f
structure XX(X:Cx)(e:Expr)(f:Xt):Prop where
 out:JX X e f
structure kJ(X:Cx)(e:List Expr)(f:En→R (List T)):Prop where
 out:jM X e f
structure XL(X:Cx)(i:Nat)(e:Expr)(f:Pt):Prop where
 out:JL X i e f
structure mm(X:Cx)(pos:Pos)(keys:List (Option Expr))(values:List Expr)(kfs:List (Ex×Xt)):Prop where
 out:lp X pos keys values kfs
theorem ab{X:L2.Cx}{pos:Pos}(i:Nat){x:Str}(hN:X.N[i]? =some x:=by rfl)(hv:L2.cR X.env.scope x:=by first|exact Or.inl rfl|exact Or.inr (Or.inl rfl)|exact Or.inr (Or.inr rfl))(hd:(x==("__debug__":Str))=false:=by decide)(hcd:(x==("__classdict__":Str))=false:=by decide):XE X (.Name x pos) (aa i):=⟨wU i hN hv hd hcd⟩
theorem aj{X:L2.Cx}{pos:Pos}{i:Int}{j:Nat}:XE X (.Constant (.int i) j pos) (eC (.int i)):=⟨yl ⟩
theorem i7{X:L2.Cx}{pos:Pos}{b:Bool}{j:Nat}:XE X (.Constant (.bool b) j pos) (eC (.bl b)):=⟨zQ ⟩
theorem jA{X:L2.Cx}{pos:Pos}{j:Nat}:XE X (.Constant .none j pos) (eC .aA):=⟨AX ⟩
theorem aK{X:L2.Cx}{pos:Pos}{x:Str}{j:Nat}:XE X (.Constant (.str x) j pos) (eC (.str x)):=⟨Bn ⟩
theorem aH{X:L2.Cx}{pos:Pos}{op:Operator}{g:D→D→R D}{r:R2}{a b:Expr}{fa fb:Ex}(ho:aR X (binaryOp op) r)(hg:cg (aw X) g r)(ha:XE X a fa)(hb:XE X b fb):XE X (.BinOp a op b pos) (e2 g fa fb):=⟨z6 ho hg ha.out hb.out⟩
theorem ig{X:L2.Cx}{pos:Pos}{op:CmpOp}{g:D→D→R D}{r:R2}{a b:Expr}{fa fb:Ex}(ho:aR X (compareOp op) r)(hg:cg (aw X) g r)(ha:XE X a fa)(hb:XE X b fb)(hm:behindInMarks op b=false:=by first|exact L2.sj _|rfl):XE X (.Compare a [op] [b] pos) (e2 g fa fb):=⟨BD ho hg ha.out hb.out hm⟩
theorem j6{X:L2.Cx}{pos:Pos}{op:BoolOp}{a:Expr}{fa:Ex}(h:XE X a fa):XE X (.BoolOp op [a] pos) fa:=⟨yf h.out⟩
theorem lE{X:L2.Cx}{pos:Pos}{a b:Expr}{rest:List Expr}{fa fb:Ex}(ha:XE X a fa)(hb:XE X (.BoolOp .And (b::rest) pos) fb):XE X (.BoolOp .And (a::b::rest) pos) (dH fa fb):=⟨xn ha.out hb.out⟩
theorem gz{X:L2.Cx}{a:Expr}{fa:Ex}(ha:XE X a fa)(he:∀whole,isTrue a X.env whole=(do let v ←whole;standAt a.pos;holding [v] (truthy v)):=by exact BH (by rfl)):XT X a (tV fa):=⟨xY ha.out he⟩
theorem de{X:L2.Cx}{pos:Pos}{op:CmpOp}{g:D→D→R D}{r:R2}{a b:Expr}{fa fb:Ex}(ho:aR X (compareOp op) r)(hg:cg (aw X) g r)(hB:gN g)(ha:XE X a fa)(hb:XE X b fb)(hm:behindInMarks op b=false:=by first|exact L2.sj _|rfl):XT X (.Compare a [op] [b] pos) (tV (e2 g fa fb)):=⟨BO ho hg hB ha.out hb.out hm⟩
theorem mU{X:L2.Cx}{pos:Pos}{j:Nat}{p2:Pos}{a:Expr}{fa:Ex}(ha:XE X a fa):XT X (.Compare a [.Is] [.Constant .none j p2] pos) (tV (e1 iA fa)):=⟨Ea ha.out⟩
theorem sP{X:L2.Cx}{pos:Pos}{j:Nat}{p2:Pos}{a:Expr}{fa:Ex}(ha:XE X a fa):XT X (.Compare a [.IsNot] [.Constant .none j p2] pos) (tV (e1 jt fa)):=⟨w8 ha.out⟩
theorem mz{X:L2.Cx}{pos:Pos}{a:Expr}{c:aG}(ha:XT X a c):XT X (.UnaryOp .Not a pos) (d6 c):=⟨A2 ha.out⟩
theorem xi{X:L2.Cx}{pos:Pos}{a:Expr}{c:aG}(ha:XT X a c):XW X (.BoolOp .And [a] pos) c:=⟨yU ha.out⟩
theorem iX{X:L2.Cx}{pos:Pos}{a:Expr}{c:aG}(ha:XT X a c):XW X (.BoolOp .Or [a] pos) c:=⟨zq ha.out⟩
theorem yE{X:L2.Cx}{pos:Pos}{a b:Expr}{rest:List Expr}{c c':aG}(ha:XT X a c)(hb:XW X (.BoolOp .And (b::rest) pos) c'):XW X (.BoolOp .And (a::b::rest) pos) (gw c c'):=⟨xQ ha.out hb.out⟩
theorem ix{X:L2.Cx}{pos:Pos}{a b:Expr}{rest:List Expr}{c c':aG}(ha:XT X a c)(hb:XW X (.BoolOp .Or (b::rest) pos) c'):XW X (.BoolOp .Or (a::b::rest) pos) (b7 c c'):=⟨BS ha.out hb.out⟩
theorem iE{X:L2.Cx}{e:Expr}{c:aG}(h:XW X e c):XT X e c:=⟨AW h.out⟩
theorem Bg{X:L2.Cx}{pos:Pos}{a:Expr}{fa:Ex}(ha:XE X a fa):XE X (.UnaryOp .Not a pos) (e1 jX fa):=⟨Cd ha.out⟩
theorem uY{X:L2.Cx}{pos:Pos}{c a b:Expr}{fc:aG}{fa fb:Ex}(hc:XT X c fc)(ha:XE X a fa)(hb:XE X b fb):XE X (.IfExp c a b pos) (g8 fc fa fb):=⟨Bl hc.out ha.out hb.out⟩
theorem aO{X:L2.Cx}:XA X [] (eList []):=⟨gA ⟩
theorem ai{X:L2.Cx}{e:Expr}{es:List Expr}{f:Ex}{fs:List Ex}(ha:XE X e f)(hr:XA X es (eList fs))(hs:starEach (e::es) X.env=(false,eval e X.env)::starEach es X.env:=by exact bC (by rfl)):XA X (e::es) (eList (f::fs)):=⟨fH ha.out hr.out hs⟩
theorem fK{X:L2.Cx}{pos:Pos}{es:List Expr}{fs:List Ex}{k:Nat}(h:XA X es (eList fs))(hl:fs.length≤1000:=by decide):XE X (.Tuple es k pos) (cA fs):=⟨xV h.out hl⟩
theorem ij{X:L2.Cx}{pos:Pos}{es:List Expr}{fs:List Ex}(h:XA X es (eList fs))(hl:fs.length≤1000:=by decide):XE X (.List es pos) (cz fs):=⟨yh h.out hl⟩
theorem CB{X:L2.Cx}{pos:Pos}:XE X (.Dict [] [] pos) (cU [] []):=⟨wZ ⟩
theorem ue{X:L2.Cx}:XO X none none:=⟨vX ⟩
theorem lO{X:L2.Cx}{e:Expr}{f:Ex}(h:XE X e f):XO X (some e) (some f):=⟨BE h.out⟩
theorem oh{X:L2.Cx}{pos:Pos}{a:Expr}{lo hi:Option Expr}{fa:Ex}{fl fh:Option Ex}{p2:Pos}(ha:XE X a fa)(hl:XO X lo fl)(hh:XO X hi fh):XE X (.Subscript a (.Slice lo hi none p2) pos) (gu fa fl fh):=⟨BF ha.out hl.out hh.out⟩
theorem eW{X:L2.Cx}{pos:Pos}{g:D→R D}{r:List V→Hp→VK→Prop}{x:Str}{id:String}{a:Expr}{fa:Ex}{p:Pos}(hc:bu X (.builtin id) r)(hg:fw (aw X) (g1 g) r)(hm:X.mg x=none)(hv:bootBuiltins x=some (.builtin id))(ha:XE X a fa)(hgl:L2.Gl X x:=by rfl)(hs:starEach [a] X.env=(false,eval a X.env)::starEach [] X.env:=by exact bC (by rfl))(hn:x≠"__name__":=by decide)(hdb:(x==("__debug__":Str))=false:=by decide):XE X (.Call (.Name x p) [a] [] pos) (e1 g fa):=⟨wB hc hg hgl hm hv ha.out hs hn hdb⟩
theorem j1{X:L2.Cx}{pos:Pos}{g:D→R D}{r:List V→Hp→VK→Prop}{x:Str}{T:String}{a:Expr}{fa:Ex}{p:Pos}(hc:bu X (.type T) r)(hg:fw (aw X) (g1 g) r)(hm:X.mg x=none)(hv:bootBuiltins x=some (.type T))(ha:XE X a fa)(hgl:L2.Gl X x:=by rfl)(hs:starEach [a] X.env=(false,eval a X.env)::starEach [] X.env:=by exact bC (by rfl))(hn:x≠"__name__":=by decide)(hdb:(x==("__debug__":Str))=false:=by decide):XE X (.Call (.Name x p) [a] [] pos) (e1 g fa):=⟨zW hc hg hgl hm hv ha.out hs hn hdb⟩
theorem d5{X:L2.Cx}{pos:Pos}(ty:Ty){a:Expr}{fa:Ex}{p p2:Pos}{T:Str}(ha:XE X a fa)(hm:X.mg "isinstance"=none)(hmT:X.mg T=none)(hvT:bootBuiltins T=some (.type (kU ty)))(hg:L2.Gl X "isinstance":=by rfl)(hgT:L2.Gl X T:=by rfl)(hs:starEach [a,.Name T p2] X.env=(false,eval a X.env)::starEach [.Name T p2] X.env:=by exact bC (by rfl))(hs2:starEach [.Name T p2] X.env=(false,eval (.Name T p2) X.env)::starEach [] X.env:=by exact bC (by rfl))(hnT:T≠"__name__":=by decide)(hdT:(T==("__debug__":Str))=false:=by decide):XE X (.Call (.Name "isinstance" p) [a,.Name T p2] [] pos) (e1 (bf ty) fa):=⟨BC ty ha.out hg hm hgT hmT hvT hs hs2 hnT hdT⟩
theorem b3{X:L2.Cx}:eQ X [] (ak []):=⟨tT ⟩
theorem cG{X:L2.Cx}:eQ X [] ba:=⟨CA ⟩
theorem az{X:L2.Cx}{st:Stmt}{rest:List Stmt}{f:Sm}{fs:List Sm}(h1:XS X st f)(h2:eQ X rest (ak fs)):eQ X (st::rest) (ak (f::fs)):=⟨DI h1.out h2.out⟩
theorem bZ{X:L2.Cx}{st:Stmt}{f:Sm}(h:XS X st f):eQ X [st] f:=⟨DU h.out⟩
theorem b9{X:L2.Cx}{pos:Pos}{c:Expr}{a b:List Stmt}{fc:aG}{fa fb:Sm}(hc:XT X c fc)(ha:eQ X a fa)(hb:eQ X b fb):XS X (.If c a b pos) (aV fc fa fb):=⟨zX hc.out ha.out hb.out⟩
theorem bw{X:L2.Cx}{pos:Pos}{a:Expr}{fa:Ex}(ha:XE X a fa):XS X (.Return (some a) pos) (aS fa):=⟨EF ha.out⟩
theorem bc{X:L2.Cx}{pos:Pos}(i:Nat){x:Str}(hN:X.N.Nodup)(hi:X.N[i]? =some x:=by rfl)(hx:L2.Loc X.env.scope x:=by exact Or.inl rfl)(hf:X.fn x=true∨X.env.scope.names.lookup x=some .local:=by first|exact .inl rfl|exact .inr rfl):XG X (.Name x pos) (aF i):=⟨zx i hN hi hx hf⟩
theorem Cj{X:L2.Cx}:nr X [] (dA []):=⟨AH ⟩
theorem uA{X:L2.Cx}(i:Nat){is:List Nat}{e:Expr}{es:List Expr}(h1:XG X e (aF i))(h2:nr X es (dA is))(hs:(assignEach (e::es) X.env).map (·.2)=assign e X.env::(assignEach es X.env).map (·.2):=by exact uo (by rfl)):nr X (e::es) (dA (i::is)):=⟨zO i h1.out h2.out hs⟩
theorem y1{X:L2.Cx}{pos:Pos}{is:List Nat}{es:List Expr}{k:Nat}(h:nr X es (dA is))(hn:(assignEach es X.env).length=is.length)(hc:X.calm=true:=by rfl)(hst:(assignEach es X.env).findIdx? (·.1)=none:=by exact uC (by rfl)):XG X (.Tuple es k pos) (fP is):=⟨yI hc h.out hn hst⟩
theorem bN{X:L2.Cx}{pos:Pos}{tg e:Expr}{fa:Ex}{g:bo}(ha:XE X e fa)(hg:XG X tg g)(hs:swapsWithSole [tg] e pos.line X.env=pure false:=by exact yF (by rfl))(hw:swappedStores [tg] e X.env=pure none:=by exact CL (by rfl))(h1:(assignEach [tg] X.env).map (·.2)=[assign tg X.env]:=by exact uo (by rfl)):XS X (.Assign [tg] e pos) (bg g fa):=⟨z0 ha.out hg.out hs hw h1⟩
theorem kP{X:L2.Cx}{pos:Pos}{tg iter:Expr}{body:List Stmt}{it:br}{g:bo}{f:Sm}(hi:XI X tg iter it)(hg:XG X tg g)(hb:eQ X body f)(hp:PassesOwn (model X.prog X.w) X.A X.env X.xe:=by exact PassesOwn.never)(hc:X.calm=true:=by exact rfl)(hs:∀x,foldedSetIterable iter X.env x=pure x:=by exact qC (by rfl)):XS X (.For tg iter body [] pos) (gP it g f):=⟨zi hp hc hi.out hg.out hb.out hs⟩
theorem qi{X:L2.Cx}{pos:Pos}{tg a:Expr}{fa:Ex}{p:Pos}(hm:X.mg "range"=none)(ha:XE X a fa)(hg:L2.Gl X "range":=by rfl)(hs:starEach [a] X.env=(false,eval a X.env)::starEach [] X.env:=by exact bC (by rfl)):XI X tg (.Call (.Name "range" p) [a] [] pos) (hW fa):=⟨A9 hg hm ha.out hs⟩
theorem Ca{X:L2.Cx}{pos:Pos}{tg a b:Expr}{fa fb:Ex}{p:Pos}(hm:X.mg "range"=none)(ha:XE X a fa)(hb:XE X b fb)(hg:L2.Gl X "range":=by rfl)(hs:starEach [a,b] X.env=(false,eval a X.env)::starEach [b] X.env:=by exact bC (by rfl))(hs2:starEach [b] X.env=(false,eval b X.env)::starEach [] X.env:=by exact bC (by rfl)):XI X tg (.Call (.Name "range" p) [a,b] [] pos) (kH fa fb):=⟨BQ hg hm ha.out hb.out hs hs2⟩
theorem j8{X:L2.Cx}(i:Nat){rest:List Stmt}{fs:List Sm}(h:eQ X rest (ak fs)):eQ X rest (ak (eO i::fs)):=⟨yL i h.out⟩
theorem vC{X:L2.Cx}{pos:Pos}{es:List Expr}{fs:List Ex}(h:XA X es (eList fs))(hl:fs.length≤1000:=by decide):XF X (.List es pos) (cz fs):=⟨xy h.out hl⟩
theorem sH{X:L2.Cx}{pos:Pos}(i:Nat){x:Str}{e:Expr}{f:Ex}{p2:Pos}(hN:X.N.Nodup)(he:XF X e f)(hi:X.N[i]? =some x:=by rfl)(hx:L2.Loc X.env.scope x:=by exact Or.inl rfl)(hf:X.fn x=true∨X.env.scope.names.lookup x=some .local:=by exact .inl rfl)(hs:swapsWith e (some (.Name x p2)) pos.line X.env=pure false:=by exact gG (by rfl)):XS X (.Assign [.Name x p2] e pos) (jJ i f):=⟨xC i hN he.out hi hx hf hs⟩
theorem sT{X:L2.Cx}{pos:Pos}(i:Nat){x:Str}{e:Expr}{f:Ex}{p2 apos cpos:Pos}(he:XE X e f)(hN:X.N[i]? =some x:=by rfl)(hv:L2.cR X.env.scope x:=by exact Or.inl rfl)(hd:(x==("__debug__":Str))=false:=by decide)(hcd:(x==("__classdict__":Str))=false:=by decide)(hbase:attributeBase (.Name x p2) "append" X.env (eval (.Name x p2) X.env)=eval (.Name x p2) X.env:=by exact rL)(hfew:((backTo cpos (starEach [e] X.env)).all (fun x=> !x.1)&&(backToKw cpos (keywordEach [] X.env)).all (fun x=>x.1.isSome)&&decide (([e]:List Expr).length+([]:List Keyword).length+(if([]:List Keyword).isEmpty then 0 else 1)<30))=true:=by exact oG (by rfl) (by decide))(hline:(apos.endLine==cpos.line)=true:=by rfl)(hs:starEach [e] X.env=(false,eval e X.env)::starEach [] X.env:=by exact bC (by rfl))(hsw:swapsWith (.Call (.Attribute (.Name x p2) "append" apos) [e] [] cpos) none pos.line X.env=pure false:=by exact gG (by rfl)):XS X (.Expr (.Call (.Attribute (.Name x p2) "append" apos) [e] [] cpos) pos) (iZ i f):=⟨Dz i he.out hN hv hd hcd hbase hfew hline hs hsw⟩
theorem bJ{X:L2.Cx}{pos:Pos}{x:Str}{k j n:Nat}{m:List D→R D}{e:Expr}{es:List Expr}{fs:List Ex}{p:Pos}(d:Df X.prog X.w X.K X.mg X.base x k n m)(hr:L2.bE j X.A)(ha:XA X (e::es) (eList fs))(hk:k≤j)(hg:L2.Gl X x:=by rfl)(hn:fs.length=n:=by rfl)(hdb:(x==("__debug__":Str))=false:=by decide)(he:starEach (e::es) X.env=(false,eval e X.env)::starEach es X.env:=by exact bC (by rfl))(hpl:(backTo pos (starEach es X.env)).any (·.1)=false:=by exact nJ (by rfl)):XE X (.Call (.Name x p) (e::es) [] pos) (aN m fs):=⟨zw d hr hg ha.out hk hn hdb he hpl⟩
theorem xE{X:L2.Cx}{pos:Pos}{x:Str}{k j:Nat}{m:List D→R D}{p:Pos}(d:Df X.prog X.w X.K X.mg X.base x k 0 m)(hr:L2.bE j X.A)(hg:L2.Gl X x:=by rfl)(hk:k≤j:=by decide)(hdb:(x==("__debug__":Str))=false:=by decide):XE X (.Call (.Name x p) [] [] pos) (aN m []):=⟨yw d hr hg hk hdb⟩
theorem qu{X:L2.Cx}{tg l:Expr}{fa:Ex}(ha:XE X l fa):XI X tg l (iN fa):=⟨B6 ha.out⟩
theorem ku{X:Cx}{pos:Pos}{x:Str}{d:D}(g:iL X.prog X.w X.K X.mg x d)(hg:L2.Gl X x:=by rfl)(hd:(x==("__debug__":Str))=false:=by decide):XE X (.Name x pos) (eC d):=⟨xB g hg hd⟩
theorem dn{X:Cx}{e:Expr}{f:Ex}(h:XE X e f):XX X e (xD f):=⟨vt h.out⟩
theorem aU{X:L2.Cx}{pos:Pos}{a b:Expr}{fa fb:Ex}(ha:XE X a fa)(hb:XE X b fb)(hs:L2.gW b:=by exact nX (by rfl)):XE X (.Subscript a b pos) (e2 au fa fb):=⟨Ay ha.out hb.out hs⟩
theorem vq{X:L2.Cx}{o e:Expr}{fo fe:Ex}{apos cpos:Pos}(ho:XE X o fo)(he:XE X e fe)(m:L2.M1 X o "get" apos e cpos):XE X (.Call (.Attribute o "get" apos) [e] [] cpos) (e2 (ju .aA) fo fe):=⟨wV ho.out he.out m⟩
theorem Dn{X:L2.Cx}{pos:Pos}{elts:List Expr}{k:Nat}{tp:Pos}{a b:Expr}{fa fb:Ex}{p:Pos}(hm:X.mg "zip"=none)(ha:XE X a fa)(hb:XE X b fb)(hg:L2.Gl X "zip":=by rfl)(hs:starEach [a,b] X.env=(false,eval a X.env)::starEach [b] X.env:=by exact bC (by rfl))(hs2:starEach [b] X.env=(false,eval b X.env)::starEach [] X.env:=by exact bC (by rfl)):XI X (.Tuple elts k tp) (.Call (.Name "zip" p) [a,b] [] pos) (j4 fa fb):=⟨Bh hg hm ha.out hb.out hs hs2⟩
theorem iG{X:L2.Cx}{pos:Pos}:XP X pos [] [] [] []:=⟨zU ⟩
theorem qD{X:L2.Cx}{pos:Pos}{k v:Expr}{z:Str}{f:Ex}{keys:List (Option Expr)}{values:List Expr}{ks:List Ky}{fs:List Ex}(hk:XE X k (eC (.str z)))(hv:XE X v f)(hr:XP X pos keys values ks fs):XP X pos (some k::keys) (v::values) (.inr z::ks) (f::fs):=⟨Cu hk.out hv.out hr.out⟩
theorem iR{X:L2.Cx}{pos:Pos}{keys:List (Option Expr)}{values:List Expr}{ks:List Ky}{fs:List Ex}(h:XP X pos keys values ks fs)(hall:keys.all (·.isSome)=true:=by rfl)(hl:keys.length=values.length:=by rfl)(h0:keys≠[]:=by simp)(h15:keys.length≤15:=by decide)(hk:ks.length=fs.length:=by rfl)(hk15:ks.length≤15:=by decide)(hn:ks.Nodup:=by decide+kernel):XE X (.Dict keys values pos) (cU ks fs):=⟨yW h.out hall hl h0 h15 hk hk15 hn⟩
theorem u9{X:L2.Cx}{tg l:Expr}{fa:Ex}(ha:XE X l fa):XI X tg l (gX fa):=⟨DF ha.out⟩
theorem yX{X:L2.Cx}{pos:Pos}(i:Nat){x:Str}{e k:Expr}{f g:Ex}{p2 p3:Pos}(hu:X.A.units+64<cLine)(hk:XE X k g)(he:XE X e f)(hN:X.N[i]? =some x:=by rfl)(hv:L2.cR X.env.scope x:=by exact Or.inl rfl)(hd:(x==("__debug__":Str))=false:=by decide)(hcd:(x==("__classdict__":Str))=false:=by decide)(hs:swapsWith e (some (.Subscript (.Name x p2) k p3)) pos.line X.env=pure false:=by exact gG (by rfl)):XS X (.Assign [.Subscript (.Name x p2) k p3] e pos) (kW i g f):=⟨BG i hu hk.out he.out hN hv hd hcd hs⟩
theorem vj{X:L2.Cx}{pos:Pos}(i:Nat){x:Str}{e:Expr}{f:Ex}{p2:Pos}(hN:X.N.Nodup)(he:XD X e f)(hi:X.N[i]? =some x:=by rfl)(hx:L2.Loc X.env.scope x:=by exact Or.inl rfl)(hf:X.fn x=true∨X.env.scope.names.lookup x=some .local:=by exact .inl rfl)(hs:swapsWith e (some (.Name x p2)) pos.line X.env=pure false:=by exact gG (by rfl)):XS X (.Assign [.Name x p2] e pos) (jE i f):=⟨Ci i hN he.out hi hx hf hs⟩
theorem uG{X:L2.Cx}{pos:Pos}{k v:Expr}{fk fv:Ex}(hk:XE X k fk)(hv:XE X v fv):XE X (.Dict [some k] [v] pos) (je fk fv):=⟨Cf hk.out hv.out⟩
theorem lY{X:L2.Cx}:kJ X [] (cW []):=⟨xh ⟩
theorem dW{X:L2.Cx}{e:Expr}{es:List Expr}{f:Xt}{fs:List Xt}(h1:XX X e f)(h2:kJ X es (cW fs))(hs:starEach (e::es) X.env=(false,eval e X.env)::starEach es X.env:=by exact bC (by rfl)):kJ X (e::es) (cW (f::fs)):=⟨D4 h1.out h2.out hs⟩
theorem Dq{X:L2.Cx}{pos:Pos}{es:List Expr}{fs:List Xt}(h:kJ X es (cW fs))(hl:fs.length≤1000:=by decide):XX X (.List es pos) (xL fs):=⟨Bs h.out hl⟩
theorem mT{X:L2.Cx}{pos:Pos}:XX X (.Dict [] [] pos) gI:=⟨ye ⟩
theorem qa{X:L2.Cx}{pos:Pos}(i:Nat){x:Str}{e:Expr}{f:Xt}{p2:Pos}(hN:X.N.Nodup)(he:XX X e f)(hi:X.N[i]? =some x:=by rfl)(hx:L2.Loc X.env.scope x:=by exact Or.inl rfl)(hf:X.fn x=true∨X.env.scope.names.lookup x=some .local:=by exact .inl rfl)(hs:swapsWith e (some (.Name x p2)) pos.line X.env=pure false:=by exact gG (by rfl)):XS X (.Assign [.Name x p2] e pos) (ia i f):=⟨zJ i hN he.out hi hx hf hs⟩
theorem dv{X:L2.Cx}{pos:Pos}(i:Nat){x:Str}(hN:X.N[i]? =some x:=by rfl)(hv:L2.cR X.env.scope x:=by exact Or.inl rfl)(hd:(x==("__debug__":Str))=false:=by decide)(hcd:(x==("__classdict__":Str))=false:=by decide):XL X i (.Name x pos) pN:=⟨zR i hN hv hd hcd⟩
theorem vg{X:L2.Cx}{pos:Pos}(j:Nat)(i:Nat){x:Str}{e:Expr}{f:Pt}{p2:Pos}(hN:X.N.Nodup)(he:XL X i e f)(hi:X.N[j]? =some x:=by rfl)(hx:L2.Loc X.env.scope x:=by exact Or.inl rfl)(hf:X.fn x=true∨X.env.scope.names.lookup x=some .local:=by exact .inl rfl)(hs:swapsWith e (some (.Name x p2)) pos.line X.env=pure false:=by exact gG (by rfl)):XS X (.Assign [.Name x p2] e pos) (iq j i f):=⟨Ax j i hN he.out hi hx hf hs⟩
theorem rZ{X:L2.Cx}(i:Nat){rest:List Stmt}{fs:List Sm}(h:eQ X rest (ak fs)):eQ X rest (ak (iw i::fs)):=⟨CI i h.out⟩
theorem m8{X:L2.Cx}{pos:Pos}{a:Expr}{f:Xt}(ha:XX X a f):XS X (.Return (some a) pos) (eJ f):=⟨EB ha.out⟩
theorem Ce{X:L2.Cx}{pos:Pos}(i:Nat){x:Str}{p2:Pos}(hN:X.N[i]? =some x:=by rfl)(hv:L2.cR X.env.scope x:=by exact Or.inl rfl)(hd:(x==("__debug__":Str))=false:=by decide)(hcd:(x==("__classdict__":Str))=false:=by decide):XS X (.Return (some (.Name x p2)) pos) (mK i):=⟨Cg i hN hv hd hcd⟩
theorem il{X:L2.Cx}{pos:Pos}{x:Str}{k j n:Nat}{m:List D→R T}{e:Expr}{es:List Expr}{fs:List Ex}{p:Pos}(d:dh X.prog X.w X.K X.mg X.base x k n m)(hr:L2.bE j X.A)(ha:XA X (e::es) (eList fs))(hk:k≤j)(hg:L2.Gl X x:=by rfl)(hn:fs.length=n:=by rfl)(hdb:(x==("__debug__":Str))=false:=by decide)(he:starEach (e::es) X.env=(false,eval e X.env)::starEach es X.env:=by exact bC (by rfl))(hpl:(backTo pos (starEach es X.env)).any (·.1)=false:=by exact nJ (by rfl)):XX X (.Call (.Name x p) (e::es) [] pos) (bR m fs):=⟨Dk d hr hg ha.out hk hn hdb he hpl⟩
theorem nS{X:L2.Cx}{e:Expr}{f:Xt}(h:XX X e f):XE X e (eX f):=⟨AJ h.out⟩
theorem o4{X:L2.Cx}{pos:Pos}{es:List Expr}{fs:List Xt}{k1}(h:kJ X es (cW fs))(hl:fs.length≤1000):XX X (.Tuple es k1 pos) (xT fs):=⟨zj h.out hl⟩
theorem vB{X:L2.Cx}(i:Nat){e:Expr}{f:Ex}(h:XE X e f):XE X e (en i f):=⟨wF i h.out⟩
theorem ux{X:L2.Cx}(i:Nat){e:Expr}{f:aG}(h:XT X e f):XT X e (fq i f):=⟨v3 i h.out⟩
theorem tD{X:L2.Cx}{pos:Pos}(i:Nat)(j:Nat){x:Str}(hN:X.N[j]? =some x:=by rfl)(hv:L2.cR X.env.scope x:=by exact Or.inl rfl)(hd:(x==("__debug__":Str))=false:=by decide)(hcd:(x==("__classdict__":Str))=false:=by decide):XL X i (.Name x pos) (pA i j):=⟨BL i j hN hv hd hcd⟩
theorem cK{X:L2.Cx}{pos:Pos}{i:Nat}{a b:Expr}{f:Pt}{fb:Ex}(ha:XL X i a f)(hb:XE X b fb)(hs:L2.gW b:=by exact nX (by rfl)):XL X i (.Subscript a b pos) (pX i f fb):=⟨yT ha.out hb.out hs⟩
theorem dC{X:L2.Cx}{pos:Pos}(i:Nat){o e k:Expr}{f:Pt}{g h:Ex}{p3:Pos}(hu:X.A.units+64<cLine)(ho:XL X i o f)(hk:XE X k g)(he:XE X e h)(hs:swapsWith e (some (.Subscript o k p3)) pos.line X.env=pure false:=by exact gG (by rfl)):XS X (.Assign [.Subscript o k p3] e pos) (bW i f g h):=⟨A1 i hu ho.out hk.out he.out hs⟩
theorem vJ{X:L2.Cx}{pos:Pos}{a:Expr}{fa:Ex}{p:Pos}(hm:X.mg "dict"=none)(ha:XE X a fa)(hg:L2.Gl X "dict":=by rfl)(hs:starEach [a] X.env=(false,eval a X.env)::starEach [] X.env:=by exact bC (by rfl)):XD X (.Call (.Name "dict" p) [a] [] pos) (e1 j5 fa):=⟨Bi hg hm ha.out hs⟩
theorem Br{X:L2.Cx}{pos:Pos}(i:Nat){x:Str}{e:Expr}{f:Ex}{p2 apos cpos:Pos}(he:XE X e f)(hN:X.N[i]? =some x:=by rfl)(hv:L2.cR X.env.scope x:=by exact Or.inl rfl)(hd:(x==("__debug__":Str))=false:=by decide)(hcd:(x==("__classdict__":Str))=false:=by decide)(hbase:attributeBase (.Name x p2) "update" X.env (eval (.Name x p2) X.env)=eval (.Name x p2) X.env:=by exact rL)(hfew:((backTo cpos (starEach [e] X.env)).all (fun x=> !x.1)&&(backToKw cpos (keywordEach [] X.env)).all (fun x=>x.1.isSome)&&decide (([e]:List Expr).length+([]:List Keyword).length+(if([]:List Keyword).isEmpty then 0 else 1)<30))=true:=by exact oG (by rfl) (by decide))(hline:(apos.endLine==cpos.line)=true:=by rfl)(hs:starEach [e] X.env=(false,eval e X.env)::starEach [] X.env:=by exact bC (by rfl))(hsw:swapsWith (.Call (.Attribute (.Name x p2) "update" apos) [e] [] cpos) none pos.line X.env=pure false:=by exact gG (by rfl)):XS X (.Expr (.Call (.Attribute (.Name x p2) "update" apos) [e] [] cpos) pos) (kz i f):=⟨Dx i he.out hN hv hd hcd hbase hfew hline hs hsw⟩
theorem mV{X:L2.Cx}{pos:Pos}:mm X pos [] [] []:=⟨yK ⟩
theorem eI{X:L2.Cx}{pos:Pos}{k v:Expr}{fk:Ex}{fv:Xt}{keys:List (Option Expr)}{values:List Expr}{kfs:List (Ex×Xt)}(hk:XE X k fk)(hv:XX X v fv)(hr:mm X pos keys values kfs):mm X pos (some k::keys) (v::values) ((fk,fv)::kfs):=⟨Aq hk.out hv.out hr.out⟩
theorem md{X:L2.Cx}{pos:Pos}{keys:List (Option Expr)}{values:List Expr}{kfs:List (Ex×Xt)}(h:mm X pos keys values kfs)(hall:keys.all (·.isSome)=true:=by rfl)(hl:keys.length=values.length:=by rfl)(h0:keys≠[]:=by simp)(h15:keys.length≤15:=by decide)(hk:kfs.length≤15:=by decide):XX X (.Dict keys values pos) (eT kfs):=⟨xv h.out hall hl h0 h15 hk⟩
theorem Eh{X:L2.Cx}{pos:Pos}{a:Expr}{f:Xt}{p:Pos}(hm:X.mg "dict"=none)(ha:XX X a f)(hc:X.calm=true:=by rfl)(hg:L2.Gl X "dict":=by rfl)(hs:starEach [a] X.env=(false,eval a X.env)::starEach [] X.env:=by exact bC (by rfl)):XX X (.Call (.Name "dict" p) [a] [] pos) (kX f):=⟨zo hc hg hm ha.out hs⟩
theorem C1{X:L2.Cx}{pos:Pos}{a:Expr}{fa:Ex}{p p2 p3 p4:Pos}{k1}(ha:XE X a fa)(hm:X.mg "isinstance"=none)(hmL:X.mg "list"=none)(hmT:X.mg "tuple"=none)(hg:L2.Gl X "isinstance":=by rfl)(hgL:L2.Gl X "list":=by rfl)(hgT:L2.Gl X "tuple":=by rfl)(hs:starEach [a,.Tuple [.Name "list" p3,.Name "tuple" p4] k1 p2] X.env=(false,eval a X.env)::starEach [.Tuple [.Name "list" p3,.Name "tuple" p4] k1 p2] X.env:=by exact bC (by rfl))(hs2:starEach [.Tuple [.Name "list" p3,.Name "tuple" p4] k1 p2] X.env=(false,eval (.Tuple [.Name "list" p3,.Name "tuple" p4] k1 p2) X.env)::starEach [] X.env:=by exact bC (by rfl))(hs3:starEach [.Name "list" p3,.Name "tuple" p4] X.env=(false,eval (.Name "list" p3) X.env)::starEach [.Name "tuple" p4] X.env:=by exact bC (by rfl))(hs4:starEach [.Name "tuple" p4] X.env=(false,eval (.Name "tuple" p4) X.env)::starEach [] X.env:=by exact bC (by rfl)):XE X (.Call (.Name "isinstance" p) [a,.Tuple [.Name "list" p3,.Name "tuple" p4] k1 p2] [] pos) (e1 gD fa):=⟨Am ha.out hg hm hgL hmL hgT hmT hs hs2 hs3 hs4⟩
theorem EM{X:L2.Cx}{pos:Pos}(i:Nat){x:Str}{b:Expr}{fb:Ex}{p2:Pos}(hb:XE X b fb)(hN:X.N[i]? =some x:=by rfl)(hv:L2.cR X.env.scope x:=by exact Or.inl rfl)(hd:(x==("__debug__":Str))=false:=by decide)(hcd:(x==("__classdict__":Str))=false:=by decide)(hs:L2.gW b:=by exact nX (by rfl)):XE X (.Subscript (.Name x p2) b pos) (m9 i fb):=⟨EA i hb.out hN hv hd hcd hs⟩
theorem j7{X:L2.Cx}{pos:Pos}{k v:Expr}{z:Int}{f:Ex}{keys:List (Option Expr)}{values:List Expr}{ks:List Ky}{fs:List Ex}(hk:XE X k (eC (.int z)))(hv:XE X v f)(hr:XP X pos keys values ks fs):XP X pos (some k::keys) (v::values) (.inl z::ks) (f::fs):=⟨B7 hk.out hv.out hr.out⟩
theorem nW{X:L2.Cx}{pos:Pos}(tn:List Str)(fv:List Str)(fvi:List Nat){elt iter target:Expr}{ifs:List Expr}{scope:Scope}{it:br}{tg:bo}{cs:List aG}{el:Ex}(ok:ip X scope tn fv fvi)(hi:XI X target iter it)(ht:∀cl C s H fp,XG (cH X scope cl C (tn++fv) s H fp) target tg)(hcs:∀cl C s H fp,oC (cH X scope cl C (tn++fv) s H fp) ifs cs)(hel:∀cl C s H fp,XE (cH X scope cl C (tn++fv) s H fp) elt el)(hxe:∀e s,¬X.xe e s:=by exact fun _ _ h=>h)(hc:X.calm=true:=by rfl)(low:gU tn.length tg:=by first|exact rf (by decide)|exact A8 (by decide))(hs:∀x,foldedSetIterable iter X.env x=pure x:=by exact qC (by rfl)):XF X (.ListComp elt [⟨target,iter,ifs,0⟩] scope pos) (dI it tn.length fvi tg cs el):=
 ⟨wo tn fv fvi hxe hc ok hi.out low (fun cl C s H fp=>(ht cl C s H fp).out) (fun cl C s H fp=>(hcs cl C s H fp).out) (fun cl C s H fp=>(hel cl C s H fp).out) hs⟩
theorem nQ{X:L2.Cx}{e:Expr}{it:br}{n:Nat}{fv:List Nat}{tg:bo}{cs:List aG}{el:Ex}(h:XF X e (dI it n fv tg cs el)):XE X e (dI it n fv tg cs el):=⟨A7 h.out vW⟩
theorem kE{X:L2.Cx}:oC X [] []:=⟨.nil⟩
theorem uh{X:L2.Cx}{pos:Pos}(tn:List Str)(fv:List Str)(fvi:List Nat){elt iter target:Expr}{ifs:List Expr}{scope:Scope}{it:br}{tg:bo}{cs:List aG}{el:Xt}(ok:ip X scope tn fv fvi)(hi:XI X target iter it)(ht:∀cl C s H fp,XG (cH X scope cl C (tn++fv) s H fp) target tg)(hcs:∀cl C s H fp,oC (cH X scope cl C (tn++fv) s H fp) ifs cs)(hel:∀cl C s H fp,XX (cH X scope cl C (tn++fv) s H fp) elt el)(hxe:∀e s,¬X.xe e s:=by exact fun _ _ h=>h)(hc:X.calm=true:=by rfl)(low:gU tn.length tg:=by exact rf (by decide))(hs:∀x,foldedSetIterable iter X.env x=pure x:=by exact qC (by rfl)):XX X (.ListComp elt [⟨target,iter,ifs,0⟩] scope pos) (gE it tn.length fvi tg cs el):=
 ⟨yJ tn fv fvi hxe hc ok hi.out low (fun cl C s H fp=>(ht cl C s H fp).out) (fun cl C s H fp=>(hcs cl C s H fp).out) (fun cl C s H fp=>(hel cl C s H fp).out) hs⟩
end PL
namespace PL
namespace eR
open PySem PySem.Spec
open L2 (Hp XK)
section
variable{P:Program}{w:World}{K:PySem.W.Frag}{mg:Str→Option Value}{base:Heap}{f:Addr}{fd:FuncData}
noncomputable def top(i:Nat):Stmt:=PySem.Challenge.pw_underfloor_k12_words_in_pages.main.body.getD i (.Pass ⟨0,0,0,0⟩)
noncomputable abbrev iV:Stmt:=top 15
theorem AM:L2.bS ["_law_script","_law_k"] ["_law_script","_law_k"] (L2.aI iV):=⟨rfl,rfl,rfl,by decide+kernel,rfl,by decide+kernel,by decide+kernel⟩
theorem EG(Fu:L2.bB K "_law_cell_at" "_law_cell_at" iV f fd)(hm:mg "_law_cell_at"=some (.ref f))(mg_len:mg "len"=none):Df P w K mg base "_law_cell_at" 1 2 iC:=by
 have sc:=AM
 refine cP (k:=0) Fu hm sc (Fu.binds (ps:=["_law_script","_law_k"]) fun _ _ _ _ _ _ us hl=>match us,hl with|[_,_],_=>rfl) (fun cdv A outer s H E hr=>?_)
 exact((az (b9 (de L2.tX qR tH (ab 1) (eW oK nV mg_len iI (ab 0))) (bZ (bw (aU (ab 0) (ab 1)))) cG) (az (bw aj) b3))).out
noncomputable abbrev jk:Stmt:=top 18
theorem C9:L2.bS ["_law_number","_law_words","_law_k"] ["_law_number"] (L2.aI jk):=⟨rfl,rfl,rfl,by decide+kernel,rfl,by decide+kernel,by decide+kernel⟩
theorem DR(Fu:L2.bB K "_law_page" "_law_page" jk f fd)(hm:mg "_law_page"=some (.ref f))(mg_range:mg "range"=none)(mg_tuple:mg "tuple"=none):Df P w K mg base "_law_page" 1 1 iO:=by
 have sc:=C9
 refine cP (k:=0) Fu hm sc (Fu.binds (ps:=["_law_number"]) fun _ _ _ _ _ _ us hl=>match us,hl with|[_],_=>rfl) (fun cdv A outer s H E hr=>?_)
 exact((az (sH 1 sc.nd (vC aO)) (az (kP (f:=nz) (qi mg_range aj) (bc 2 sc.nd) (by delta nz;exact(az (sT 1 (aH L2.b4 b0 (aH du dX (ab 0) (aH L2.jQ jn (aH L2.jQ jn aj (ab 2)) (ab 2))) aj)) (az (bN (aH cL cI (ab 0) aj) (bc 0 sc.nd)) b3)))) (j8 1 (az (bw (j1 L2.ny me mg_tuple gh (ab 1))) b3))))).out
noncomputable abbrev jq:Stmt:=top 19
theorem xU:L2.bS ["_law_parent","_law_one"] ["_law_parent"] (L2.aI jq):=⟨rfl,rfl,rfl,by decide+kernel,rfl,by decide+kernel,by decide+kernel⟩
theorem zP(Fu:L2.bB K "_law_task" "_law_task" jq f fd)(hm:mg "_law_task"=some (.ref f)):dh P w K mg base "_law_task" 1 1 fV:=by
 have sc:=xU
 refine pQ (k:=0) Fu hm sc (Fu.binds (ps:=["_law_parent"]) fun _ _ _ _ _ _ us hl=>match us,hl with|[_],_=>rfl) (fun cdv A outer s H E hr=>?_)
 exact((az (qa 1 sc.nd (md (eI aK (dn (ab 0)) (eI aK (dn aj) (eI aK (Dq (dW (dn aj) (dW (dn aj) (dW (dn aj) (dW (dn aj) (dW (dn aj) (dW (dn aj) (dW (dn aj) (dW (dn aj) lY))))))))) (eI aK (dn aj) (eI aK mT (eI aK mT mV)))))))) (az (dC 1 hr.units (dv 1) aK jA) (az (dC 1 hr.units (dv 1) aK aj) (az (dC 1 hr.units (dv 1) aK i7) (az (dC 1 hr.units (dv 1) aK jA) (az (Ce 1) b3))))))).out
noncomputable abbrev jx:Stmt:=top 20
theorem CK:L2.bS ["_law_script","_law_first","_law_one","_law_other","_law_state","_law_n","_law_lent","_law_k","_law_cell","_law_pages","_law_page_here","_law_entry"] ["_law_script"] (L2.aI jx):=⟨rfl,rfl,rfl,by decide+kernel,rfl,by decide+kernel,by decide+kernel⟩
theorem w4(Fu:L2.bB K "_law_begun" "_law_begun" jx f fd)(hm:mg "_law_begun"=some (.ref f))(mg_len:mg "len"=none)(mg_range:mg "range"=none)(mg_sorted:mg "sorted"=none)(df_law_cell_at:Df P w K mg base "_law_cell_at" 1 2 iC)(df_law_task:dh P w K mg base "_law_task" 1 1 fV)(df_law_page:Df P w K mg base "_law_page" 1 1 iO):Df P w K mg base "_law_begun" 2 1 j3:=by
 have sc:=CK
 refine cP (k:=1) Fu hm sc (Fu.binds (ps:=["_law_script"]) fun _ _ _ _ _ _ us hl=>match us,hl with|[_],_=>rfl) (fun cdv A outer s H E hr=>?_)
 exact((az (bN (bJ df_law_cell_at hr (ai (ab 0) (ai aj aO)) (by decide)) (bc 1 sc.nd)) (az (bN (aH du dX aj (aH L2.b4 b0 (ab 1) aj)) (bc 2 sc.nd)) (az (bN (aH du dX aj (aH L2.b4 b0 (aH du dX (aH du dX (ab 1) aj) (aH L2.b4 b0 (aH cL cI (ab 1) aj) aj)) aj)) (bc 3 sc.nd)) (az (qa 4 sc.nd (md (eI aK (md (eI (ab 2) (il df_law_task hr (ai aj aO) (by decide)) (eI (ab 3) (il df_law_task hr (ai aj aO) (by decide)) mV))) (eI aK mT (eI aK (md (eI aj (o4 (dW (dn aK) (dW mT lY)) (show 2≤1000 from by decide)) mV)) mV))))) (az (dC 4 hr.units (dv 4) aK (iR (j7 aj (fK (ai aK (ai (iR (j7 aj aj iG)) aO))) (j7 aj (fK (ai aK (ai (ij (ai aj (ai aj aO))) aO))) iG)))) (az (dC 4 hr.units (dv 4) aK (iR (j7 aj (fK (ai aj (ai (ij (ai aj aO)) aO))) iG))) (az (dC 4 hr.units (dv 4) aK aj) (az (dC 4 hr.units (cK (cK (dv 4) aK) (ab 2)) aK (iR (j7 aj aj iG))) (az (dC 4 hr.units (cK (cK (dv 4) aK) (ab 2)) aK (fK (ai (ij (ai aj (ai aj (ai aj (ai aj (ai aj (ai aj (ai aj (ai aj aO))))))))) (ai aj aO)))) (az (dC 4 hr.units (cK (cK (dv 4) aK) (ab 3)) aK aj) (az (dC 4 hr.units (cK (cK (dv 4) aK) (ab 3)) aK (ig (dS hr.units) d4 (aH L2.b4 b0 (ab 1) aj) aj)) (az (kP (f:=jy) (qi mg_range (aH L2.b4 b0 (aH cL cI (ab 1) aj) aj)) (bc 5 sc.nd) (by delta jy;exact(az (bN (aH du dX aj (aH L2.b4 b0 (aH du dX (aH cL cI (ab 1) aj) (aH L2.jQ jn aj (ab 5))) aj)) (bc 6 sc.nd)) (az (dC 4 hr.units (cK (dv 4) aK) (ab 6) (bJ df_law_page hr (ai (bJ df_law_cell_at hr (ai (ab 0) (ai (aH du dX aj (ab 5)) aO)) (by decide)) aO) (by decide))) (az (dC 4 hr.units (cK (cK (cK (dv 4) aK) (ab 2)) aK) (aH du dX aj (ab 5)) (fK (ai aK (ai (ab 6) aO)))) b3))))) (az (kP (f:=jR) (Ca mg_range aj aj) (bc 7 sc.nd) (by delta jR;exact(az (bN (bJ df_law_cell_at hr (ai (ab 0) (ai (ab 7) aO)) (by decide)) (bc 8 sc.nd)) (az (vg 9 4 sc.nd (cK (cK (cK (dv 4) aK) (aU (ij (ai (ab 2) (ai (ab 3) aO))) (aH L2.b4 b0 (ab 8) aj))) aK)) (az (bN (aU (ij (ai aj (ai aj (ai aj (ai aj (ai aj (ai (aH L2.b4 b0 (aH cL cI (ab 8) aj) aj) aO))))))) (aH L2.b4 b0 (aH cL cI (ab 8) aj) aj)) (bc 10 sc.nd)) (az (bN (fK (ai aK (ai (bJ df_law_page hr (ai (aH cL cI (ab 8) aj) aO) (by decide)) aO))) (bc 11 sc.nd)) (az (b9 (ux 4 (iE (yE (de (dS hr.units) d4 hJ (aH L2.b4 b0 (aH cL cI (ab 8) aj) aj) aj) (xi (de (DH hr.units) xl Ab (aU (ab 4) aK) CB))))) (bZ (bN (nS (o4 (dW (dn aK) (dW (dn (vB 4 (aU (eW (qj rfl) oA mg_sorted pY (aU (ab 4) aK)) (aH L2.b4 b0 (aH cL cI (ab 8) aj) (eW kS lG mg_len iI (aU (ab 4) aK)))))) lY)) (show 2≤1000 from by decide))) (bc 11 sc.nd))) cG) (az (b9 (iE (ix (de L2.tX qR tH (ab 10) aj) (iX (de L2.Eb yy B3 (ab 10) aj)))) (bZ (dC 4 hr.units (tD 4 9) (ab 10) (ab 11))) cG) b3)))))))) (rZ 4 (az (bw (ab 4)) b3)))))))))))))))).out
noncomputable abbrev i5:Stmt:=top 7
theorem DA:L2.bS [] [] (L2.aI i5):=⟨rfl,rfl,rfl,by decide+kernel,rfl,by decide+kernel,by decide+kernel⟩
theorem CT(Fu:L2.bB K "nought_page" "nought_page" i5 f fd)(hm:mg "nought_page"=some (.ref f))(gl_PAGE_WORDS:iL P w K mg "PAGE_WORDS" gF):Df P w K mg base "nought_page" 1 0 o7:=by
 have sc:=DA
 refine cP (k:=0) Fu hm sc (Fu.binds (ps:=[]) fun _ _ _ _ _ _ us hl=>match us,hl with|[],_=>rfl) (fun cdv A outer s H E hr=>?_)
 refine(bZ ?_).out
 refine bw ?_
 exact(aH B5 Ao (fK (ai aj aO)) (ku gl_PAGE_WORDS))
noncomputable abbrev jC:Stmt:=top 22
theorem Cp:L2.bS ["_law_state","_law_task_here","_law_cell","_law_pages"] ["_law_state","_law_task_here","_law_cell"] (L2.aI jC):=⟨rfl,rfl,rfl,by decide+kernel,rfl,by decide+kernel,by decide+kernel⟩
theorem vY(Fu:L2.bB K "_law_address" "_law_address" jC f fd)(hm:mg "_law_address"=some (.ref f))(mg_len:mg "len"=none)(mg_sorted:mg "sorted"=none):Df P w K mg base "_law_address" 1 3 j0:=by
 have sc:=Cp
 refine cP (k:=0) Fu hm sc (Fu.binds (ps:=["_law_state","_law_task_here","_law_cell"]) fun _ _ _ _ _ _ us hl=>match us,hl with|[_,_,_],_=>rfl) (fun cdv A outer s H E hr=>?_)
 exact((az (bN (eW (qj rfl) oA mg_sorted pY (aU (aU (aU (ab 0) aK) (ab 1)) aK)) (bc 3 sc.nd)) (az (b9 (iE (ix (de (dS hr.units) d4 hJ (aH L2.b4 b0 (ab 2) aj) aj) (iX (de (dS hr.units) d4 hJ (ab 3) (ij aO))))) (bZ (bw (aH L2.b4 b0 (aH cL cI (ab 2) aj) aj))) cG) (az (b9 (de (dS hr.units) d4 hJ (aH L2.b4 b0 (ab 2) aj) aj) (bZ (bw (aH L2.b4 b0 (aH cL cI (ab 2) aj) aj))) cG) (az (bw (aH du dX (aH L2.jQ jn (aU (ab 3) (aH L2.b4 b0 (aH cL cI (ab 2) aj) (eW oK nV mg_len iI (ab 3)))) aj) (aH L2.b4 b0 (aH cL cI (ab 2) aj) aj))) b3))))).out
noncomputable abbrev fW:Stmt:=top 16
theorem vM:L2.bS ["_law_thing"] ["_law_thing"] (L2.aI fW):=⟨rfl,rfl,rfl,by decide+kernel,rfl,by decide+kernel,by decide+kernel⟩
theorem xr(Fu:L2.bB K "_law_copied" "_law_copied" fW f fd)(hm:mg "_law_copied"=some (.ref f))(mg_dict:mg "dict"=none)(mg_isinstance:mg "isinstance"=none)(mg_list:mg "list"=none)(mg_tuple:mg "tuple"=none){j:Nat}{m:List D→R T}(df_rec:dh P w K mg base "_law_copied" (1+j) 1 m):dh P w K mg base "_law_copied" (1+(j+1)) 1 (oQ m):=by
 have sc:=vM
 refine pQ (k:=1+j) Fu hm sc (Fu.binds (ps:=["_law_thing"]) fun _ _ _ _ _ _ us hl=>match us,hl with|[_],_=>rfl) (fun cdv A outer s H E hr=>?_)
 exact((az (b9 (gz (d5 .dict (ab 0) mg_isinstance mg_dict lu)) (bZ (m8 (Eh mg_dict (uh ["_law_key"] ["_law_thing"] [0] (ko (L2.aI fW) ["_law_thing"] (by rfl) (by rfl) (by decide+kernel)) (u9 (ab 0)) (fun cl C s H fp=>by exact(bc 0 (show List.Nodup (["_law_key","_law_thing"]:List Str)from by decide+kernel))) (fun cl C s H fp=>by exact kE) (fun cl C s H fp=>by exact(o4 (dW (dn (ab 0)) (dW (il df_rec hr (ai (aU (ab 1) (ab 0)) aO) (Nat.le_refl _)) lY)) (show 2≤1000 from by decide))))))) cG) (az (b9 (gz (d5 .list (ab 0) mg_isinstance mg_list nh)) (bZ (m8 (uh ["_law_one"] [] [] (ko (L2.aI fW) ["_law_thing"] (by rfl) (by rfl) (by decide+kernel)) (qu (ab 0)) (fun cl C s H fp=>by exact(bc 0 (show List.Nodup (["_law_one"]:List Str)from by decide+kernel))) (fun cl C s H fp=>by exact kE) (fun cl C s H fp=>by exact(il df_rec hr (ai (ab 0) aO) (Nat.le_refl _)))))) cG) (az (b9 (gz (d5 .tuple (ab 0) mg_isinstance mg_tuple gh)) (bZ (m8 (dn (j1 L2.ny me mg_tuple gh (nQ (nW ["_law_one"] [] [] (ko (L2.aI fW) ["_law_thing"] (by rfl) (by rfl) (by decide+kernel)) (qu (ab 0)) (fun cl C s H fp=>by exact(bc 0 (show List.Nodup (["_law_one"]:List Str)from by decide+kernel))) (fun cl C s H fp=>by exact kE) (fun cl C s H fp=>by exact(nS (il df_rec hr (ai (ab 0) aO) (Nat.le_refl _)))))))))) cG) (az (m8 (dn (ab 0))) b3))))).out
theorem C8(Fu:L2.bB K "_law_copied" "_law_copied" fW f fd)(hm:mg "_law_copied"=some (.ref f))(mg_dict:mg "dict"=none)(mg_isinstance:mg "isinstance"=none)(mg_list:mg "list"=none)(mg_tuple:mg "tuple"=none):dh P w K mg base "_law_copied" 10 1 gm:=by
 exact dh.kQ (k:=1) (b:=oQ) (pQ (body:=fun _=>.bad) (k:=0) Fu hm vM (Fu.binds (ps:=["_law_thing"]) fun _ _ _ _ _ _ us hl=>match us,hl with|[_],_=>rfl) (fun cdv A outer s H E hr=>qJ)) (fun j m h=>xr Fu hm mg_dict mg_isinstance mg_list mg_tuple h) 9
noncomputable abbrev jw:Stmt:=top 8
theorem yM:L2.bS ["state","task","page"] ["state","task","page"] (L2.aI jw):=⟨rfl,rfl,rfl,by decide+kernel,rfl,by decide+kernel,by decide+kernel⟩
theorem A6(Fu:L2.bB K "page_entry" "page_entry" jw f fd)(hm:mg "page_entry"=some (.ref f)):Df P w K mg base "page_entry" 1 3 ik:=by
 have sc:=yM
 refine cP (k:=0) Fu hm sc (Fu.binds (ps:=["state","task","page"]) fun _ _ _ _ _ _ us hl=>match us,hl with|[_,_,_],_=>rfl) (fun cdv A outer s H E hr=>?_)
 exact((az (b9 (de (D3 hr.units) zM AY (ab 1) (aU (ab 0) aK)) (bZ (bw jA)) cG) (az (bw (vq (aU (aU (aU (ab 0) aK) (ab 1)) aK) (ab 2) (uW vG (by rfl) (by rfl)))) b3))).out
noncomputable abbrev jb:Stmt:=top 9
theorem wQ:L2.bS ["state","entry"] ["state","entry"] (L2.aI jb):=⟨rfl,rfl,rfl,by decide+kernel,rfl,by decide+kernel,by decide+kernel⟩
theorem z8(Fu:L2.bB K "entry_words" "entry_words" jb f fd)(hm:mg "entry_words"=some (.ref f)):Df P w K mg base "entry_words" 1 2 hZ:=by
 have sc:=wQ
 refine cP (k:=0) Fu hm sc (Fu.binds (ps:=["state","entry"]) fun _ _ _ _ _ _ us hl=>match us,hl with|[_,_],_=>rfl) (fun cdv A outer s H E hr=>?_)
 exact((bZ (bw (uY (de (dS hr.units) d4 hJ (aU (ab 1) aj) aK) (aU (ab 1) aj) (aU (aU (ab 0) aK) (aU (ab 1) aj)))))).out
noncomputable abbrev jH:Stmt:=top 10
theorem Au:L2.bS ["state","task","address","entry"] ["state","task","address"] (L2.aI jH):=⟨rfl,rfl,rfl,by decide+kernel,rfl,by decide+kernel,by decide+kernel⟩
theorem C6(Fu:L2.bB K "word_in" "word_in" jH f fd)(hm:mg "word_in"=some (.ref f))(gl_PAGE_WORDS:iL P w K mg "PAGE_WORDS" gF)(df_page_entry:Df P w K mg base "page_entry" 1 3 ik)(df_entry_words:Df P w K mg base "entry_words" 1 2 hZ):Df P w K mg base "word_in" 2 3 kh:=by
 have sc:=Au
 refine cP (k:=1) Fu hm sc (Fu.binds (ps:=["state","task","address"]) fun _ _ _ _ _ _ us hl=>match us,hl with|[_,_,_],_=>rfl) (fun cdv A outer s H E hr=>?_)
 exact((az (bN (bJ df_page_entry hr (ai (ab 0) (ai (ab 1) (ai (aH cL cI (ab 2) (ku gl_PAGE_WORDS)) aO))) (by decide)) (bc 3 sc.nd)) (az (bw (uY (mU (ab 3)) jA (aU (bJ df_entry_words hr (ai (ab 0) (ai (ab 3) aO)) (by decide)) (aH L2.b4 b0 (ab 2) (ku gl_PAGE_WORDS))))) b3))).out
noncomputable abbrev ji:Stmt:=top 23
theorem Dj:L2.bS ["_law_state","_law_task_here","_law_address_here","_law_entry"] ["_law_state","_law_task_here","_law_address_here"] (L2.aI ji):=⟨rfl,rfl,rfl,by decide+kernel,rfl,by decide+kernel,by decide+kernel⟩
theorem CJ(Fu:L2.bB K "_law_word" "_law_word" ji f fd)(hm:mg "_law_word"=some (.ref f)):Df P w K mg base "_law_word" 1 3 gH:=by
 have sc:=Dj
 refine cP (k:=0) Fu hm sc (Fu.binds (ps:=["_law_state","_law_task_here","_law_address_here"]) fun _ _ _ _ _ _ us hl=>match us,hl with|[_,_,_],_=>rfl) (fun cdv A outer s H E hr=>?_)
 exact((az (bN (vq (aU (aU (aU (ab 0) aK) (ab 1)) aK) (aH cL cI (ab 2) aj) (uW vG (by rfl) (by rfl))) (bc 3 sc.nd)) (az (b9 (mU (ab 3)) (bZ (bw jA)) cG) (az (b9 (de (dS hr.units) d4 hJ (aU (ab 3) aj) aK) (bZ (bw (aU (aU (ab 3) aj) (aH L2.b4 b0 (ab 2) aj)))) cG) (az (bw (aU (aU (aU (ab 0) aK) (aU (ab 3) aj)) (aH L2.b4 b0 (ab 2) aj))) b3))))).out
noncomputable abbrev jD:Stmt:=top 3
theorem v5:L2.bS ["row","place","part"] ["row","place","part"] (L2.aI jD):=⟨rfl,rfl,rfl,by decide+kernel,rfl,by decide+kernel,by decide+kernel⟩
theorem DG(Fu:L2.bB K "put_at" "put_at" jD f fd)(hm:mg "put_at"=some (.ref f)):Df P w K mg base "put_at" 1 3 kD:=by
 have sc:=v5
 refine cP (k:=0) Fu hm sc (Fu.binds (ps:=["row","place","part"]) fun _ _ _ _ _ _ us hl=>match us,hl with|[_,_,_],_=>rfl) (fun cdv A outer s H E hr=>?_)
 exact((bZ (bw (aH du dX (aH Et wH (oh (ab 0) ue (lO (ab 1))) (fK (ai (ab 2) aO))) (oh (ab 0) (lO (aH du dX (ab 1) aj)) ue))))).out
noncomputable abbrev jF:Stmt:=top 2
theorem wL:L2.bS ["old","news","new"] ["old","news"] (L2.aI jF):=⟨rfl,rfl,rfl,by decide+kernel,rfl,by decide+kernel,by decide+kernel⟩
theorem AI(Fu:L2.bB K "changed" "changed" jF f fd)(hm:mg "changed"=some (.ref f))(mg_dict:mg "dict"=none):Df P w K mg base "changed" 1 2 cZ:=by
 have sc:=wL
 refine cP (k:=0) Fu hm sc (Fu.binds (ps:=["old","news"]) fun _ _ _ _ _ _ us hl=>match us,hl with|[_,_],_=>rfl) (fun cdv A outer s H E hr=>?_)
 exact((az (vj 2 sc.nd (vJ mg_dict (ab 0))) (az (Br 2 (ab 1)) (j8 2 (az (bw (ab 2)) b3))))).out
noncomputable abbrev jN:Stmt:=top 13
theorem zk:L2.bS ["state","number","words"] ["state","number","words"] (L2.aI jN):=⟨rfl,rfl,rfl,by decide+kernel,rfl,by decide+kernel,by decide+kernel⟩
theorem yu(Fu:L2.bB K "with_lent" "with_lent" jN f fd)(hm:mg "with_lent"=some (.ref f))(df_changed:Df P w K mg base "changed" 1 2 cZ):Df P w K mg base "with_lent" 2 3 lN:=by
 have sc:=zk
 refine cP (k:=1) Fu hm sc (Fu.binds (ps:=["state","number","words"]) fun _ _ _ _ _ _ us hl=>match us,hl with|[_,_,_],_=>rfl) (fun cdv A outer s H E hr=>?_)
 exact((bZ (bw (bJ df_changed hr (ai (ab 0) (ai (iR (qD aK (bJ df_changed hr (ai (aU (ab 0) aK) (ai (uG (ab 1) (ab 2)) aO)) (by decide)) iG)) aO)) (by decide))))).out
noncomputable abbrev jW:Stmt:=top 5
theorem Dg:L2.bS ["state","task","news","tasks"] ["state","task","news"] (L2.aI jW):=⟨rfl,rfl,rfl,by decide+kernel,rfl,by decide+kernel,by decide+kernel⟩
theorem Bm(Fu:L2.bB K "with_task" "with_task" jW f fd)(hm:mg "with_task"=some (.ref f))(mg_dict:mg "dict"=none)(df_changed:Df P w K mg base "changed" 1 2 cZ):Df P w K mg base "with_task" 2 3 lh:=by
 have sc:=Dg
 refine cP (k:=1) Fu hm sc (Fu.binds (ps:=["state","task","news"]) fun _ _ _ _ _ _ us hl=>match us,hl with|[_,_,_],_=>rfl) (fun cdv A outer s H E hr=>?_)
 exact((az (vj 3 sc.nd (vJ mg_dict (aU (ab 0) aK))) (az (yX 3 hr.units (ab 1) (bJ df_changed hr (ai (EM 3 (ab 1)) (ai (ab 2) aO)) (by decide))) (j8 3 (az (bw (bJ df_changed hr (ai (ab 0) (ai (iR (qD aK (ab 3) iG)) aO)) (by decide))) b3))))).out
noncomputable abbrev iY:Stmt:=top 12
theorem xt:L2.bS ["state","task","page","entry","pages"] ["state","task","page","entry"] (L2.aI iY):=⟨rfl,rfl,rfl,by decide+kernel,rfl,by decide+kernel,by decide+kernel⟩
theorem C7(Fu:L2.bB K "with_page" "with_page" iY f fd)(hm:mg "with_page"=some (.ref f))(df_changed:Df P w K mg base "changed" 1 2 cZ)(df_with_task:Df P w K mg base "with_task" 2 3 lh):Df P w K mg base "with_page" 3 4 kL:=by
 have sc:=xt
 refine cP (k:=2) Fu hm sc (Fu.binds (ps:=["state","task","page","entry"]) fun _ _ _ _ _ _ us hl=>match us,hl with|[_,_,_,_],_=>rfl) (fun cdv A outer s H E hr=>?_)
 exact((az (bN (bJ df_changed hr (ai (aU (aU (aU (ab 0) aK) (ab 1)) aK) (ai (uG (ab 2) (ab 3)) aO)) (by decide)) (bc 4 sc.nd)) (az (bw (bJ df_with_task hr (ai (ab 0) (ai (ab 1) (ai (iR (qD aK (ab 4) iG)) aO))) (by decide))) b3))).out
noncomputable abbrev iU:Stmt:=top 11
theorem AD:L2.bS ["state","task","address","word","page","entry","words"] ["state","task","address","word"] (L2.aI iU):=⟨rfl,rfl,rfl,by decide+kernel,rfl,by decide+kernel,by decide+kernel⟩
theorem Cy(Fu:L2.bB K "put_word_in" "put_word_in" iU f fd)(hm:mg "put_word_in"=some (.ref f))(gl_PAGE_WORDS:iL P w K mg "PAGE_WORDS" gF)(df_page_entry:Df P w K mg base "page_entry" 1 3 ik)(df_entry_words:Df P w K mg base "entry_words" 1 2 hZ)(df_put_at:Df P w K mg base "put_at" 1 3 kD)(df_with_page:Df P w K mg base "with_page" 3 4 kL)(df_with_lent:Df P w K mg base "with_lent" 2 3 lN):Df P w K mg base "put_word_in" 4 4 gn:=by
 have sc:=AD
 refine cP (k:=3) Fu hm sc (Fu.binds (ps:=["state","task","address","word"]) fun _ _ _ _ _ _ us hl=>match us,hl with|[_,_,_,_],_=>rfl) (fun cdv A outer s H E hr=>?_)
 exact((az (bN (aH cL cI (ab 2) (ku gl_PAGE_WORDS)) (bc 4 sc.nd)) (az (bN (bJ df_page_entry hr (ai (ab 0) (ai (ab 1) (ai (ab 4) aO))) (by decide)) (bc 5 sc.nd)) (az (b9 (mU (ab 5)) (bZ (bw jA)) cG) (az (bN (bJ df_put_at hr (ai (bJ df_entry_words hr (ai (ab 0) (ai (ab 5) aO)) (by decide)) (ai (aH L2.b4 b0 (ab 2) (ku gl_PAGE_WORDS)) (ai (ab 3) aO))) (by decide)) (bc 6 sc.nd)) (az (b9 (de (dS hr.units) d4 hJ (aU (ab 5) aj) aK) (bZ (bw (bJ df_with_page hr (ai (ab 0) (ai (ab 1) (ai (ab 4) (ai (fK (ai aK (ai (ab 6) aO))) aO)))) (by decide)))) cG) (az (bw (bJ df_with_lent hr (ai (ab 0) (ai (aU (ab 5) aj) (ai (ab 6) aO))) (by decide))) b3))))))).out
noncomputable abbrev gc:Stmt:=top 17
theorem rh:L2.bS ["_law_found","_law_due"] ["_law_found","_law_due"] (L2.aI gc):=⟨rfl,rfl,rfl,by decide+kernel,rfl,by decide+kernel,by decide+kernel⟩
theorem Bj(Fu:L2.bB K "_law_same" "_law_same" gc f fd)(hm:mg "_law_same"=some (.ref f))(mg_all:mg "all"=none)(mg_bool:mg "bool"=none)(mg_dict:mg "dict"=none)(mg_isinstance:mg "isinstance"=none)(mg_len:mg "len"=none)(mg_list:mg "list"=none)(mg_tuple:mg "tuple"=none)(mg_zip:mg "zip"=none){j:Nat}{m:List D→R D}(df_rec:Df P w K mg base "_law_same" (1+j) 2 m):Df P w K mg base "_law_same" (1+(j+1)) 2 (oM m):=by
 have sc:=rh
 refine cP (k:=1+j) Fu hm sc (Fu.binds (ps:=["_law_found","_law_due"]) fun _ _ _ _ _ _ us hl=>match us,hl with|[_,_],_=>rfl) (fun cdv A outer s H E hr=>?_)
 exact((az (b9 (gz (d5 .dict (ab 1) mg_isinstance mg_dict lu)) (az (b9 (iE (ix (mz (gz (d5 .dict (ab 0) mg_isinstance mg_dict lu))) (iX (de (nA hr.units) mF mE (eW kS lG mg_len iI (ab 0)) (eW kS lG mg_len iI (ab 1)))))) (bZ (bw i7)) cG) (az (bw (eW (rH rfl) uN mg_all vb (nQ (nW ["_law_key"] ["_law_found","_law_due"] [0,1] (ko (L2.aI gc) ["_law_found","_law_due"] (by rfl) (by rfl) (by decide+kernel)) (u9 (ab 1)) (fun cl C s H fp=>by exact(bc 0 (show List.Nodup (["_law_key","_law_found","_law_due"]:List Str)from by decide+kernel))) (fun cl C s H fp=>by exact kE) (fun cl C s H fp=>by exact(lE (ig (yS hr.units) wW (ab 0) (ab 1)) (j6 (bJ df_rec hr (ai (aU (ab 1) (ab 0)) (ai (aU (ab 2) (ab 0)) aO)) (Nat.le_refl _))))))))) b3)) cG) (az (b9 (gz (C1 (ab 1) mg_isinstance mg_list mg_tuple)) (az (b9 (iE (ix (de (nA hr.units) mF mE (d5 .list (ab 0) mg_isinstance mg_list nh) (d5 .list (ab 1) mg_isinstance mg_list nh)) (iX (de (nA hr.units) mF mE (d5 .tuple (ab 0) mg_isinstance mg_tuple gh) (d5 .tuple (ab 1) mg_isinstance mg_tuple gh))))) (bZ (bw i7)) cG) (az (bw (lE (ig (dS hr.units) d4 (eW kS lG mg_len iI (ab 0)) (eW kS lG mg_len iI (ab 1))) (j6 (eW (rH rfl) uN mg_all vb (nQ (nW ["_law_one","_law_other"] [] [] (ko (L2.aI gc) ["_law_found","_law_due"] (by rfl) (by rfl) (by decide+kernel)) (Dn mg_zip (ab 0) (ab 1)) (fun cl C s H fp=>by exact(y1 (uA 0 (bc 0 (show List.Nodup (["_law_one","_law_other"]:List Str)from by decide+kernel)) (uA 1 (bc 1 (show List.Nodup (["_law_one","_law_other"]:List Str)from by decide+kernel)) Cj)) uZ)) (fun cl C s H fp=>by exact kE) (fun cl C s H fp=>by exact(bJ df_rec hr (ai (ab 0) (ai (ab 1) aO)) (Nat.le_refl _))))))))) b3)) cG) (az (bw (lE (ig (dS hr.units) d4 (ab 0) (ab 1)) (j6 (ig (dS hr.units) d4 (d5 .bool (ab 0) mg_isinstance mg_bool p7) (d5 .bool (ab 1) mg_isinstance mg_bool p7))))) b3)))).out
theorem wd(Fu:L2.bB K "_law_same" "_law_same" gc f fd)(hm:mg "_law_same"=some (.ref f))(mg_all:mg "all"=none)(mg_bool:mg "bool"=none)(mg_dict:mg "dict"=none)(mg_isinstance:mg "isinstance"=none)(mg_len:mg "len"=none)(mg_list:mg "list"=none)(mg_tuple:mg "tuple"=none)(mg_zip:mg "zip"=none):Df P w K mg base "_law_same" 10 2 ir:=by
 exact Df.kQ (k:=1) (b:=oM) (cP (body:=fun _=>.bad) (k:=0) Fu hm rh (Fu.binds (ps:=["_law_found","_law_due"]) fun _ _ _ _ _ _ us hl=>match us,hl with|[_,_],_=>rfl) (fun cdv A outer s H E hr=>qJ)) (fun j m h=>Bj Fu hm mg_all mg_bool mg_dict mg_isinstance mg_len mg_list mg_tuple mg_zip h) 9
noncomputable abbrev jo:Stmt:=top 24
theorem w9:L2.bS ["_law_state","_law_task_here","_law_address_here","_law_word_here","_law_due","_law_pages","_law_page_here","_law_words","_law_place"] ["_law_state","_law_task_here","_law_address_here","_law_word_here"] (L2.aI jo):=⟨rfl,rfl,rfl,by decide+kernel,rfl,by decide+kernel,by decide+kernel⟩
theorem w5(Fu:L2.bB K "_law_put" "_law_put" jo f fd)(hm:mg "_law_put"=some (.ref f))(mg_int:mg "int"=none)(mg_range:mg "range"=none)(mg_tuple:mg "tuple"=none)(df_law_copied:dh P w K mg base "_law_copied" 10 1 gm)(df_law_word:Df P w K mg base "_law_word" 1 3 gH):Df P w K mg base "_law_put" 11 4 g0:=by
 have sc:=w9
 refine cP (k:=10) Fu hm sc (Fu.binds (ps:=["_law_state","_law_task_here","_law_address_here","_law_word_here"]) fun _ _ _ _ _ _ us hl=>match us,hl with|[_,_,_,_],_=>rfl) (fun cdv A outer s H E hr=>?_)
 exact((az (qa 4 sc.nd (il df_law_copied hr (ai (ab 0) aO) (by decide))) (az (vg 5 4 sc.nd (cK (cK (cK (dv 4) aK) (ab 1)) aK)) (az (bN (aH cL cI (ab 2) aj) (bc 6 sc.nd)) (az (sH 7 sc.nd (vC aO)) (az (kP (f:=lA) (qi mg_range aj) (bc 8 sc.nd) (by delta lA;exact(bZ (sT 7 (aU (ij (ai (bJ df_law_word hr (ai (ab 0) (ai (ab 1) (ai (aH du dX (aH L2.jQ jn (ab 6) aj) (ab 8)) aO))) (by decide)) (ai (ab 3) aO))) (j1 L2.Ed CG mg_int vm (ig (dS hr.units) d4 (ab 8) (aH L2.b4 b0 (ab 2) aj)))))))) (az (b9 (ux 4 (de (dS hr.units) d4 hJ (aU (aU (ab 5) (ab 6)) aj) aK)) (j8 7 (az (dC 4 hr.units (tD 4 5) (ab 6) (fK (ai aK (ai (j1 L2.ny me mg_tuple gh (ab 7)) aO)))) b3)) (j8 7 (az (dC 4 hr.units (cK (dv 4) aK) (vB 4 (aU (aU (ab 5) (ab 6)) aj)) (j1 L2.ny me mg_tuple gh (ab 7))) b3))) (rZ 4 (az (bw (ab 4)) b3))))))))).out
noncomputable abbrev jV:Stmt:=top 21
theorem Cc:L2.bS ["_law_found"] ["_law_found"] (L2.aI jV):=⟨rfl,rfl,rfl,by decide+kernel,rfl,by decide+kernel,by decide+kernel⟩
theorem zF(Fu:L2.bB K "_law_whole" "_law_whole" jV f fd)(hm:mg "_law_whole"=some (.ref f))(mg_bool:mg "bool"=none)(mg_int:mg "int"=none)(mg_isinstance:mg "isinstance"=none):Df P w K mg base "_law_whole" 1 1 kB:=by
 have sc:=Cc
 refine cP (k:=0) Fu hm sc (Fu.binds (ps:=["_law_found"]) fun _ _ _ _ _ _ us hl=>match us,hl with|[_],_=>rfl) (fun cdv A outer s H E hr=>?_)
 exact((bZ (bw (lE (d5 .int (ab 0) mg_isinstance mg_int vm) (j6 (Bg (d5 .bool (ab 0) mg_isinstance mg_bool p7))))))).out
noncomputable abbrev gp:Stmt:=top 25
theorem Az:L2.bS ["_law_script","_law_state","_law_tasks","_law_cell","_law_task_here","_law_address_here","_law_word_here","_law_handed","_law_found","_law_due","_law_behind","_law_due_state","_law_page_here"] ["_law_script"] (L2.aI gp):=⟨rfl,rfl,rfl,by decide+kernel,rfl,by decide+kernel,by decide+kernel⟩
theorem Ck(Fu:L2.bB K "law" "law" gp f fd)(hm:mg "law"=some (.ref f))(mg_isinstance:mg "isinstance"=none)(mg_sorted:mg "sorted"=none)(mg_tuple:mg "tuple"=none)(df_law_begun:Df P w K mg base "_law_begun" 2 1 j3)(df_law_address:Df P w K mg base "_law_address" 1 3 j0)(df_law_copied:dh P w K mg base "_law_copied" 10 1 gm)(df_word_in:Df P w K mg base "word_in" 2 3 kh)(df_law_word:Df P w K mg base "_law_word" 1 3 gH)(df_put_word_in:Df P w K mg base "put_word_in" 4 4 gn)(df_law_same:Df P w K mg base "_law_same" 10 2 ir)(df_law_put:Df P w K mg base "_law_put" 11 4 g0)(df_law_whole:Df P w K mg base "_law_whole" 1 1 kB)(df_nought_page:Df P w K mg base "nought_page" 1 0 o7):L2.cO P w K mg base L2.eE 12 f fd ["_law_script"] (gd ⟨K,P,w⟩ kl 1):=by
 have sc:=Az
 refine vD (k:=11) Fu sc (fun cdv A outer s H E hr=>?_)
 exact((az (bN (bJ df_law_begun hr (ai (ab 0) aO) (by decide)) (bc 1 sc.nd)) (az (bN (eW (qj rfl) oA mg_sorted pY (aU (ab 1) aK)) (bc 2 sc.nd)) (az (kP (f:=jI) (qu (oh (ab 0) (lO aj) (lO aj))) (bc 3 sc.nd) (by delta jI;exact(az (bN (aU (ab 2) (aH L2.b4 b0 (ab 3) aj)) (bc 4 sc.nd)) (az (bN (bJ df_law_address hr (ai (ab 1) (ai (ab 4) (ai (aH cL cI (ab 3) aj) aO))) (by decide)) (bc 5 sc.nd)) (az (bN (aH L2.b4 b0 (aH L2.jQ jn (aH cL cI (ab 3) aj) aj) aj) (bc 6 sc.nd)) (az (bN (nS (il df_law_copied hr (ai (ab 1) aO) (by decide))) (bc 7 sc.nd)) (az (bN (bJ df_word_in hr (ai (ab 7) (ai (ab 4) (ai (ab 5) aO))) (by decide)) (bc 8 sc.nd)) (az (bN (bJ df_law_word hr (ai (ab 1) (ai (ab 4) (ai (ab 5) aO))) (by decide)) (bc 9 sc.nd)) (az (bN (bJ df_put_word_in hr (ai (ab 7) (ai (ab 4) (ai (ab 5) (ai (ab 6) aO)))) (by decide)) (bc 10 sc.nd)) (az (b9 (mz (gz (bJ df_law_same hr (ai (ab 7) (ai (ab 1) aO)) (by decide)))) (bZ (bw i7)) cG) (az (b9 (mU (ab 9)) (bZ (b9 (iE (ix (sP (ab 8)) (iX (sP (ab 10))))) (bZ (bw i7)) cG)) (az (bN (bJ df_law_put hr (ai (ab 1) (ai (ab 4) (ai (ab 5) (ai (ab 6) aO)))) (by decide)) (bc 11 sc.nd)) (az (b9 (iE (ix (mz (gz (bJ df_law_whole hr (ai (ab 8) aO) (by decide)))) (ix (de (nA hr.units) mF mE (ab 8) (ab 9)) (iX (mz (gz (bJ df_law_same hr (ai (ab 10) (ai (ab 11) aO)) (by decide)))))))) (bZ (bw i7)) cG) (az (bN (ab 11) (bc 1 sc.nd)) b3)))) b3))))))))))) (az (bN (xE df_nought_page hr) (bc 12 sc.nd)) (az (bw (lE (d5 .tuple (ab 12) mg_isinstance mg_tuple gh) (j6 (ig (dS hr.units) d4 (ab 12) (fK (ai aj (ai aj (ai aj (ai aj (ai aj (ai aj (ai aj (ai aj (ai aj (ai aj (ai aj (ai aj (ai aj (ai aj (ai aj (ai aj aO))))))))))))))))))))) b3)))))).out
end
theorem all_mk{w:World}{K:PySem.W.Frag}{h:Heap}{mg:Str→Option Value}{fa f0 f1 f2 f3 f4 f5 f6 f7 f8 f9 f10 f11 f12 f13 f14 f15 f16 f17 f18 f19 f20:Addr}(X:K.In h)(G:h.Ns mainGlobals mg)(hfa:mg "law"=some (.ref fa))
   {od0 an0 od1 an1 od2 an2 od3 an3 od4 an4 od5 an5 od6 an6 od7 an7 od8 an8 od9 an9 od10 an10 od11 an11 od12 an12 od13 an13 od14 an14 od15 an15 od16 an16 od17 an17 od18 an18 od19 an19 od20 an20:Option Addr} {sl0 sl1 sl2 sl3 sl4 sl5 sl6 sl7 sl8 sl9 sl10 sl11 sl12 sl13 sl14 sl15 sl16 sl17 sl18 sl19 sl20:Array (Option Value)} {oc0 kV0 dc0 pm0 cd0 ct0 oc1 kV1 dc1 pm1 cd1 ct1 oc2 kV2 dc2 pm2 cd2 ct2 oc3 kV3 dc3 pm3 cd3 ct3 oc4 kV4 dc4 pm4 cd4 ct4 oc5 kV5 dc5 pm5 cd5 ct5 oc6 kV6 dc6 pm6 cd6 ct6 oc7 kV7 dc7 pm7 cd7 ct7 oc8 kV8 dc8 pm8 cd8 ct8 oc9 kV9 dc9 pm9 cd9 ct9 oc10 kV10 dc10 pm10 cd10 ct10 oc11 kV11 dc11 pm11 cd11 ct11 oc12 kV12 dc12 pm12 cd12 ct12 oc13 kV13 dc13 pm13 cd13 ct13 oc14 kV14 dc14 pm14 cd14 ct14 oc15 kV15 dc15 pm15 cd15 ct15 oc16 kV16 dc16 pm16 cd16 ct16 oc17 kV17 dc17 pm17 cd17 ct17 oc18 kV18 dc18 pm18 cd18 ct18 oc19 kV19 dc19 pm19 cd19 ct19 oc20 kV20 dc20 pm20 cd20 ct20:Value}
   (a0:PySem.W.nsIn K mainGlobals "_law_cell_at"=some (some (.ref f0))) (l0:K.lookup f0=some ⟨oc0,od0,.func (PySem.W.fnOf "_law_cell_at" "_law_cell_at" (L2.bV iV) (L2.bI iV) (L2.aI iV) .none kV0 dc0 pm0 an0 cd0 ct0),sl0⟩) (c0:PySem.W.codeIn K cd0 "_law_cell_at"=true) (k0:PySem.W.keepIn K (.ref f0)=true)
   (a1:PySem.W.nsIn K mainGlobals "_law_page"=some (some (.ref f1))) (l1:K.lookup f1=some ⟨oc1,od1,.func (PySem.W.fnOf "_law_page" "_law_page" (L2.bV jk) (L2.bI jk) (L2.aI jk) .none kV1 dc1 pm1 an1 cd1 ct1),sl1⟩) (c1:PySem.W.codeIn K cd1 "_law_page"=true) (k1:PySem.W.keepIn K (.ref f1)=true)
   (a2:PySem.W.nsIn K mainGlobals "_law_task"=some (some (.ref f2))) (l2:K.lookup f2=some ⟨oc2,od2,.func (PySem.W.fnOf "_law_task" "_law_task" (L2.bV jq) (L2.bI jq) (L2.aI jq) .none kV2 dc2 pm2 an2 cd2 ct2),sl2⟩) (c2:PySem.W.codeIn K cd2 "_law_task"=true) (k2:PySem.W.keepIn K (.ref f2)=true)
   (a3:PySem.W.nsIn K mainGlobals "_law_begun"=some (some (.ref f3))) (l3:K.lookup f3=some ⟨oc3,od3,.func (PySem.W.fnOf "_law_begun" "_law_begun" (L2.bV jx) (L2.bI jx) (L2.aI jx) .none kV3 dc3 pm3 an3 cd3 ct3),sl3⟩) (c3:PySem.W.codeIn K cd3 "_law_begun"=true) (k3:PySem.W.keepIn K (.ref f3)=true)
   (a4:PySem.W.nsIn K mainGlobals "nought_page"=some (some (.ref f4))) (l4:K.lookup f4=some ⟨oc4,od4,.func (PySem.W.fnOf "nought_page" "nought_page" (L2.bV i5) (L2.bI i5) (L2.aI i5) .none kV4 dc4 pm4 an4 cd4 ct4),sl4⟩) (c4:PySem.W.codeIn K cd4 "nought_page"=true) (k4:PySem.W.keepIn K (.ref f4)=true)
   (a5:PySem.W.nsIn K mainGlobals "_law_address"=some (some (.ref f5))) (l5:K.lookup f5=some ⟨oc5,od5,.func (PySem.W.fnOf "_law_address" "_law_address" (L2.bV jC) (L2.bI jC) (L2.aI jC) .none kV5 dc5 pm5 an5 cd5 ct5),sl5⟩) (c5:PySem.W.codeIn K cd5 "_law_address"=true) (k5:PySem.W.keepIn K (.ref f5)=true)
   (a6:PySem.W.nsIn K mainGlobals "_law_copied"=some (some (.ref f6))) (l6:K.lookup f6=some ⟨oc6,od6,.func (PySem.W.fnOf "_law_copied" "_law_copied" (L2.bV fW) (L2.bI fW) (L2.aI fW) .none kV6 dc6 pm6 an6 cd6 ct6),sl6⟩) (c6:PySem.W.codeIn K cd6 "_law_copied"=true) (k6:PySem.W.keepIn K (.ref f6)=true)
   (a7:PySem.W.nsIn K mainGlobals "page_entry"=some (some (.ref f7))) (l7:K.lookup f7=some ⟨oc7,od7,.func (PySem.W.fnOf "page_entry" "page_entry" (L2.bV jw) (L2.bI jw) (L2.aI jw) .none kV7 dc7 pm7 an7 cd7 ct7),sl7⟩) (c7:PySem.W.codeIn K cd7 "page_entry"=true) (k7:PySem.W.keepIn K (.ref f7)=true)
   (a8:PySem.W.nsIn K mainGlobals "entry_words"=some (some (.ref f8))) (l8:K.lookup f8=some ⟨oc8,od8,.func (PySem.W.fnOf "entry_words" "entry_words" (L2.bV jb) (L2.bI jb) (L2.aI jb) .none kV8 dc8 pm8 an8 cd8 ct8),sl8⟩) (c8:PySem.W.codeIn K cd8 "entry_words"=true) (k8:PySem.W.keepIn K (.ref f8)=true)
   (a9:PySem.W.nsIn K mainGlobals "word_in"=some (some (.ref f9))) (l9:K.lookup f9=some ⟨oc9,od9,.func (PySem.W.fnOf "word_in" "word_in" (L2.bV jH) (L2.bI jH) (L2.aI jH) .none kV9 dc9 pm9 an9 cd9 ct9),sl9⟩) (c9:PySem.W.codeIn K cd9 "word_in"=true) (k9:PySem.W.keepIn K (.ref f9)=true)
   (a10:PySem.W.nsIn K mainGlobals "_law_word"=some (some (.ref f10))) (l10:K.lookup f10=some ⟨oc10,od10,.func (PySem.W.fnOf "_law_word" "_law_word" (L2.bV ji) (L2.bI ji) (L2.aI ji) .none kV10 dc10 pm10 an10 cd10 ct10),sl10⟩) (c10:PySem.W.codeIn K cd10 "_law_word"=true) (k10:PySem.W.keepIn K (.ref f10)=true)
   (a11:PySem.W.nsIn K mainGlobals "put_at"=some (some (.ref f11))) (l11:K.lookup f11=some ⟨oc11,od11,.func (PySem.W.fnOf "put_at" "put_at" (L2.bV jD) (L2.bI jD) (L2.aI jD) .none kV11 dc11 pm11 an11 cd11 ct11),sl11⟩) (c11:PySem.W.codeIn K cd11 "put_at"=true) (k11:PySem.W.keepIn K (.ref f11)=true)
   (a12:PySem.W.nsIn K mainGlobals "changed"=some (some (.ref f12))) (l12:K.lookup f12=some ⟨oc12,od12,.func (PySem.W.fnOf "changed" "changed" (L2.bV jF) (L2.bI jF) (L2.aI jF) .none kV12 dc12 pm12 an12 cd12 ct12),sl12⟩) (c12:PySem.W.codeIn K cd12 "changed"=true) (k12:PySem.W.keepIn K (.ref f12)=true)
   (a13:PySem.W.nsIn K mainGlobals "with_lent"=some (some (.ref f13))) (l13:K.lookup f13=some ⟨oc13,od13,.func (PySem.W.fnOf "with_lent" "with_lent" (L2.bV jN) (L2.bI jN) (L2.aI jN) .none kV13 dc13 pm13 an13 cd13 ct13),sl13⟩) (c13:PySem.W.codeIn K cd13 "with_lent"=true) (k13:PySem.W.keepIn K (.ref f13)=true)
   (a14:PySem.W.nsIn K mainGlobals "with_task"=some (some (.ref f14))) (l14:K.lookup f14=some ⟨oc14,od14,.func (PySem.W.fnOf "with_task" "with_task" (L2.bV jW) (L2.bI jW) (L2.aI jW) .none kV14 dc14 pm14 an14 cd14 ct14),sl14⟩) (c14:PySem.W.codeIn K cd14 "with_task"=true) (k14:PySem.W.keepIn K (.ref f14)=true)
   (a15:PySem.W.nsIn K mainGlobals "with_page"=some (some (.ref f15))) (l15:K.lookup f15=some ⟨oc15,od15,.func (PySem.W.fnOf "with_page" "with_page" (L2.bV iY) (L2.bI iY) (L2.aI iY) .none kV15 dc15 pm15 an15 cd15 ct15),sl15⟩) (c15:PySem.W.codeIn K cd15 "with_page"=true) (k15:PySem.W.keepIn K (.ref f15)=true)
   (a16:PySem.W.nsIn K mainGlobals "put_word_in"=some (some (.ref f16))) (l16:K.lookup f16=some ⟨oc16,od16,.func (PySem.W.fnOf "put_word_in" "put_word_in" (L2.bV iU) (L2.bI iU) (L2.aI iU) .none kV16 dc16 pm16 an16 cd16 ct16),sl16⟩) (c16:PySem.W.codeIn K cd16 "put_word_in"=true) (k16:PySem.W.keepIn K (.ref f16)=true)
   (a17:PySem.W.nsIn K mainGlobals "_law_same"=some (some (.ref f17))) (l17:K.lookup f17=some ⟨oc17,od17,.func (PySem.W.fnOf "_law_same" "_law_same" (L2.bV gc) (L2.bI gc) (L2.aI gc) .none kV17 dc17 pm17 an17 cd17 ct17),sl17⟩) (c17:PySem.W.codeIn K cd17 "_law_same"=true) (k17:PySem.W.keepIn K (.ref f17)=true)
   (a18:PySem.W.nsIn K mainGlobals "_law_put"=some (some (.ref f18))) (l18:K.lookup f18=some ⟨oc18,od18,.func (PySem.W.fnOf "_law_put" "_law_put" (L2.bV jo) (L2.bI jo) (L2.aI jo) .none kV18 dc18 pm18 an18 cd18 ct18),sl18⟩) (c18:PySem.W.codeIn K cd18 "_law_put"=true) (k18:PySem.W.keepIn K (.ref f18)=true)
   (a19:PySem.W.nsIn K mainGlobals "_law_whole"=some (some (.ref f19))) (l19:K.lookup f19=some ⟨oc19,od19,.func (PySem.W.fnOf "_law_whole" "_law_whole" (L2.bV jV) (L2.bI jV) (L2.aI jV) .none kV19 dc19 pm19 an19 cd19 ct19),sl19⟩) (c19:PySem.W.codeIn K cd19 "_law_whole"=true) (k19:PySem.W.keepIn K (.ref f19)=true)
   (a20:PySem.W.nsIn K mainGlobals "law"=some (some (.ref f20))) (l20:K.lookup f20=some ⟨oc20,od20,.func (PySem.W.fnOf "law" "law" (L2.bV gp) (L2.bI gp) (L2.aI gp) .none kV20 dc20 pm20 an20 cd20 ct20),sl20⟩) (c20:PySem.W.codeIn K cd20 "law"=true) (k20:PySem.W.keepIn K (.ref f20)=true)
   (z_all:PySem.W.nsIn K mainGlobals "all"=some none)
   (z_bool:PySem.W.nsIn K mainGlobals "bool"=some none)
   (z_dict:PySem.W.nsIn K mainGlobals "dict"=some none)
   (z_int:PySem.W.nsIn K mainGlobals "int"=some none)
   (z_isinstance:PySem.W.nsIn K mainGlobals "isinstance"=some none)
   (z_len:PySem.W.nsIn K mainGlobals "len"=some none)
   (z_list:PySem.W.nsIn K mainGlobals "list"=some none)
   (z_range:PySem.W.nsIn K mainGlobals "range"=some none)
   (z_sorted:PySem.W.nsIn K mainGlobals "sorted"=some none)
   (z_tuple:PySem.W.nsIn K mainGlobals "tuple"=some none)
   (z_zip:PySem.W.nsIn K mainGlobals "zip"=some none)
   (gl_PAGE_WORDS:iL PySem.Challenge.pw_underfloor_k12_words_in_pages w K mg "PAGE_WORDS" gF):
   ∃fd:FuncData,(∀(s:Shared) (v:Value),BindsTo s fd ⟨[v],[]⟩ [("_law_script",v)])∧∀base:Heap,K.In base→base.Ns mainGlobals mg→L2.cO PySem.Challenge.pw_underfloor_k12_words_in_pages w K mg base L2.eE 12 fa fd ["_law_script"] (gd ⟨K,PySem.Challenge.pw_underfloor_k12_words_in_pages,w⟩ kl 1):=by
 have e:=hfa.symm.trans (PySem.W.mg_of X G a20)
 cases e
 have mg_all:=PySem.W.mg_none_of X G z_all
 have mg_bool:=PySem.W.mg_none_of X G z_bool
 have mg_dict:=PySem.W.mg_none_of X G z_dict
 have mg_int:=PySem.W.mg_none_of X G z_int
 have mg_isinstance:=PySem.W.mg_none_of X G z_isinstance
 have mg_len:=PySem.W.mg_none_of X G z_len
 have mg_list:=PySem.W.mg_none_of X G z_list
 have mg_range:=PySem.W.mg_none_of X G z_range
 have mg_sorted:=PySem.W.mg_none_of X G z_sorted
 have mg_tuple:=PySem.W.mg_none_of X G z_tuple
 have mg_zip:=PySem.W.mg_none_of X G z_zip
 refine⟨PySem.W.fnOf "law" "law" (L2.bV gp) (L2.bI gp) (L2.aI gp) .none kV20 dc20 pm20 an20 cd20 ct20,fun s v=>.of_eq rfl,fun base _ _=>?_⟩
 have df_law_cell_at:=EG (P:=PySem.Challenge.pw_underfloor_k12_words_in_pages) (w:=w) (base:=base) (L2.cx (st:=iV) l0 c0 k0) (PySem.W.mg_of X G a0) mg_len
 have df_law_page:=DR (P:=PySem.Challenge.pw_underfloor_k12_words_in_pages) (w:=w) (base:=base) (L2.cx (st:=jk) l1 c1 k1) (PySem.W.mg_of X G a1) mg_range mg_tuple
 have df_law_task:=zP (P:=PySem.Challenge.pw_underfloor_k12_words_in_pages) (w:=w) (base:=base) (L2.cx (st:=jq) l2 c2 k2) (PySem.W.mg_of X G a2)
 have df_law_begun:=w4 (P:=PySem.Challenge.pw_underfloor_k12_words_in_pages) (w:=w) (base:=base) (L2.cx (st:=jx) l3 c3 k3) (PySem.W.mg_of X G a3) mg_len mg_range mg_sorted df_law_cell_at df_law_task df_law_page
 have df_nought_page:=CT (P:=PySem.Challenge.pw_underfloor_k12_words_in_pages) (w:=w) (base:=base) (L2.cx (st:=i5) l4 c4 k4) (PySem.W.mg_of X G a4) gl_PAGE_WORDS
 have df_law_address:=vY (P:=PySem.Challenge.pw_underfloor_k12_words_in_pages) (w:=w) (base:=base) (L2.cx (st:=jC) l5 c5 k5) (PySem.W.mg_of X G a5) mg_len mg_sorted
 have df_law_copied:=C8 (P:=PySem.Challenge.pw_underfloor_k12_words_in_pages) (w:=w) (base:=base) (L2.cx (st:=fW) l6 c6 k6) (PySem.W.mg_of X G a6) mg_dict mg_isinstance mg_list mg_tuple
 have df_page_entry:=A6 (P:=PySem.Challenge.pw_underfloor_k12_words_in_pages) (w:=w) (base:=base) (L2.cx (st:=jw) l7 c7 k7) (PySem.W.mg_of X G a7)
 have df_entry_words:=z8 (P:=PySem.Challenge.pw_underfloor_k12_words_in_pages) (w:=w) (base:=base) (L2.cx (st:=jb) l8 c8 k8) (PySem.W.mg_of X G a8)
 have df_word_in:=C6 (P:=PySem.Challenge.pw_underfloor_k12_words_in_pages) (w:=w) (base:=base) (L2.cx (st:=jH) l9 c9 k9) (PySem.W.mg_of X G a9) gl_PAGE_WORDS df_page_entry df_entry_words
 have df_law_word:=CJ (P:=PySem.Challenge.pw_underfloor_k12_words_in_pages) (w:=w) (base:=base) (L2.cx (st:=ji) l10 c10 k10) (PySem.W.mg_of X G a10)
 have df_put_at:=DG (P:=PySem.Challenge.pw_underfloor_k12_words_in_pages) (w:=w) (base:=base) (L2.cx (st:=jD) l11 c11 k11) (PySem.W.mg_of X G a11)
 have df_changed:=AI (P:=PySem.Challenge.pw_underfloor_k12_words_in_pages) (w:=w) (base:=base) (L2.cx (st:=jF) l12 c12 k12) (PySem.W.mg_of X G a12) mg_dict
 have df_with_lent:=yu (P:=PySem.Challenge.pw_underfloor_k12_words_in_pages) (w:=w) (base:=base) (L2.cx (st:=jN) l13 c13 k13) (PySem.W.mg_of X G a13) df_changed
 have df_with_task:=Bm (P:=PySem.Challenge.pw_underfloor_k12_words_in_pages) (w:=w) (base:=base) (L2.cx (st:=jW) l14 c14 k14) (PySem.W.mg_of X G a14) mg_dict df_changed
 have df_with_page:=C7 (P:=PySem.Challenge.pw_underfloor_k12_words_in_pages) (w:=w) (base:=base) (L2.cx (st:=iY) l15 c15 k15) (PySem.W.mg_of X G a15) df_changed df_with_task
 have df_put_word_in:=Cy (P:=PySem.Challenge.pw_underfloor_k12_words_in_pages) (w:=w) (base:=base) (L2.cx (st:=iU) l16 c16 k16) (PySem.W.mg_of X G a16) gl_PAGE_WORDS df_page_entry df_entry_words df_put_at df_with_page df_with_lent
 have df_law_same:=wd (P:=PySem.Challenge.pw_underfloor_k12_words_in_pages) (w:=w) (base:=base) (L2.cx (st:=gc) l17 c17 k17) (PySem.W.mg_of X G a17) mg_all mg_bool mg_dict mg_isinstance mg_len mg_list mg_tuple mg_zip
 have df_law_put:=w5 (P:=PySem.Challenge.pw_underfloor_k12_words_in_pages) (w:=w) (base:=base) (L2.cx (st:=jo) l18 c18 k18) (PySem.W.mg_of X G a18) mg_int mg_range mg_tuple df_law_copied df_law_word
 have df_law_whole:=zF (P:=PySem.Challenge.pw_underfloor_k12_words_in_pages) (w:=w) (base:=base) (L2.cx (st:=jV) l19 c19 k19) (PySem.W.mg_of X G a19) mg_bool mg_int mg_isinstance
 have df_law:=Ck (P:=PySem.Challenge.pw_underfloor_k12_words_in_pages) (w:=w) (base:=base) (L2.cx (st:=gp) l20 c20 k20) (PySem.W.mg_of X G a20) mg_isinstance mg_sorted mg_tuple df_law_begun df_law_address df_law_copied df_word_in df_law_word df_put_word_in df_law_same df_law_put df_law_whole df_nought_page
 exact df_law
end eR
end PL
namespace PL
namespace eR
open PySem G C
section
variable{j:Bool}{a b:Int}{q q':Q}{ls ks ks':List Int}{lw:List (List Int)}{es es':List Ent}
theorem yZ(h:a≠b)(hq:NQ q)(hq':NQ q')(hp:Pg ls ks es)(hp':Pg ls ks' es')(hl:Lt ls lw){x:Ex}{ρ:En}(hx:x ρ=.ok (st j a b q q' (ar ks es) (ar ks' es') (aM ls lw))):eX (bR gm [x]) ρ=.ok (st j a b q q' (ar ks es) (ar ks' es') (aM ls lw)):=by
 obtain⟨h1,h2⟩:=pV (j:=j) h hq hq' hp hp' hl
 have hc:gm [st j a b q q' (ar ks es) (ar ks' es') (aM ls lw)]=.ok (deep (st j a b q q' (ar ks es) (ar ks' es') (aM ls lw))):=oJ 9 _ h1 h2
 rw[qc (lr hx hc),iz]
theorem same_self(h:a≠b)(hq:NQ q)(hq':NQ q')(hp:Pg ls ks es)(hp':Pg ls ks' es')(hl:Lt ls lw):ir [st j a b q q' (ar ks es) (ar ks' es') (aM ls lw),st j a b q q' (ar ks es) (ar ks' es') (aM ls lw)]=.ok (.bl true):=by
 obtain⟨h1,h2⟩:=pV (j:=j) h hq hq' hp hp' hl
 exact vp 9 _ h1 h2
theorem wk(hp:Pg ls ks es)(hp':Pg ls ks' es')(hl:Lt ls lw){i v:Int}{e:Ent}(he:look (i / 16) ks es=some e):∃es2 lw2,put j a b q q' ks es (ar ks' es') ls lw i v e=st j a b q q' (ar ks es2) (ar ks' es') (aM ls lw2)∧Pg ls ks es2∧Lt ls lw2:=by
 have hm:=eN he
 cases e with
 | own ws=>
   refine⟨_,_,rfl,⟨hp.1,oU hp.2.1,hp.2.2.1,fun x hx=>?_⟩,hl⟩
   rcases mZ x hx with hx|rfl
   ·exact hp.2.2.2 x hx
   · have:ws.length=16:=hp.2.2.2 _ hm.1
     show(ws.set _ _).length=16
     rw[List.length_set];exact this
 | ln n=>
   refine⟨_,_,rfl,hp,⟨hl.1,oU hl.2.1,hl.2.2.1,fun x hx=>?_⟩⟩
   rcases mZ x hx with hx|rfl
   ·exact hl.2.2.2 x hx
   · have hn:n∈ls:=hp.2.2.2 _ hm.1
     obtain⟨w,hw⟩:=nq hl.2.1 hn
     rw[hw,List.length_set]
     exact hl.2.2.2 w (eN hw).1
theorem Ep(i:Int):kB [.int i]=.ok (.bl true):=by kernel_rfl
theorem u0(h:a≠b)(hq:NQ q)(hq':NQ q')(hp:Pg ls ks es)(hp':Pg ls ks' es')(hl:Lt ls lw){s0 tl:D}{op:Int}{x4 x5 x6 x7 x8 x9 x10 x11 x12:Slot}(ht:au tl (.int (op % 2))=.ok (.int (tid j a b))):
   ∃es2 lw2 y3 y4 y5 y6 y7 y8 y9 y10 y11 y12,jI [.sh s0,.sh (st j a b q q' (ar ks es) (ar ks' es') (aM ls lw)),.sh tl,.sh (.int op),x4,x5,x6,x7,x8,x9,x10,x11,x12]=.ok (.next [.sh s0,.sh (st j a b q q' (ar ks es2) (ar ks' es') (aM ls lw2)),.sh tl,y3,y4,y5,y6,y7,y8,y9,y10,y11,y12])∧Pg ls ks es2∧Lt ls lw2:=by
 obtain⟨i,hi⟩:=Bw (j:=j) (q:=q) (q':=q') h hp (lt:=aM ls lw) (pg':=ar ks' es') (op / 2)
 obtain⟨n1,n2⟩:=pV (j:=j) h hq hq' hp hp' hl
 rw[jI]
 rw[aB (bH (aL (y:=.int (op % 2)) rfl (bM rfl rfl (by decide)) ht))]
 have hw1:=DW (j:=j) (q:=q) (q':=q') (pg':=ar ks' es') h hp hl i
 have hw2:=sd (j:=j) (q:=q) (q':=q') (pg':=ar ks' es') h hp hl i
 have hsm:=same_self (j:=j) h hq hq' hp hp' hl
 generalize hS:st j a b q q' (ar ks es) (ar ks' es') (aM ls lw)=s at hi hw1 hw2 hsm
 show ∃es2 lw2 y3 y4 y5 y6 y7 y8 y9 y10 y11 y12,ak _ [.sh s0,.sh s,.sh tl,.sh (.int op),.sh (.int (tid j a b)),x5,x6,x7,x8,x9,x10,x11,x12]=_∧_
 rw[aB (bH (fX rfl rfl (cw rfl rfl (by decide)) hi))]
 show ∃es2 lw2 y3 y4 y5 y6 y7 y8 y9 y10 y11 y12,ak _ [.sh s0,.sh s,.sh tl,.sh (.int op),.sh (.int (tid j a b)),.sh (.int i),x6,x7,x8,x9,x10,x11,x12]=_∧_
 rw[aB (bH (bM (js (cw rfl rfl (by decide)) rfl (.inr (by decide))) rfl (by decide)))]
 generalize op / 8*2654435761 % 4294967296=v
 show ∃es2 lw2 y3 y4 y5 y6 y7 y8 y9 y10 y11 y12,ak _ [.sh s0,.sh s,.sh tl,.sh (.int op),.sh (.int (tid j a b)),.sh (.int i),.sh (.int v),x7,x8,x9,x10,x11,x12]=_∧_
 have hcp:eX (bR gm [aa 1]) [.sh s0,.sh s,.sh tl,.sh (.int op),.sh (.int (tid j a b)),.sh (.int i),.sh (.int v),x7,x8,x9,x10,x11,x12]=.ok s:=by
   rw[←hS];exact yZ h hq hq' hp hp' hl rfl
 rw[aB (bH hcp)]
 show ∃es2 lw2 y3 y4 y5 y6 y7 y8 y9 y10 y11 y12,ak _ [.sh s0,.sh s,.sh tl,.sh (.int op),.sh (.int (tid j a b)),.sh (.int i),.sh (.int v),.sh s,x8,x9,x10,x11,x12]=_∧_
 rw[aB (bH (fX rfl rfl rfl hw1))]
 generalize hwv:gM ks es ls lw i=wv at hw1 hw2
 show ∃es2 lw2 y3 y4 y5 y6 y7 y8 y9 y10 y11 y12,ak _ [.sh s0,.sh s,.sh tl,.sh (.int op),.sh (.int (tid j a b)),.sh (.int i),.sh (.int v),.sh s,.sh wv,x9,x10,x11,x12]=_∧_
 rw[aB (bH (fX rfl rfl rfl hw2))]
 show ∃es2 lw2 y3 y4 y5 y6 y7 y8 y9 y10 y11 y12,ak _ [.sh s0,.sh s,.sh tl,.sh (.int op),.sh (.int (tid j a b)),.sh (.int i),.sh (.int v),.sh s,.sh wv,.sh wv,x10,x11,x12]=_∧_
 obtain⟨pv,hpv⟩:∃pv,pv=(match look (i / 16) ks es with|none=>D.aA|some e=>put j a b q q' ks es (ar ks' es') ls lw i v e):=⟨_,rfl⟩
 have hput:gn [s,.int (tid j a b),.int i,.int v]=.ok pv:=by
   rw[hpv, ←hS]
   cases he:look (i / 16) ks es with
   |none=>exact DK h he
   |some e=>exact CQ h hp hl he
 have hput4:aN gn [aa 7,aa 4,aa 5,aa 6] [.sh s0,.sh s,.sh tl,.sh (.int op),.sh (.int (tid j a b)),.sh (.int i),.sh (.int v),.sh s,.sh wv,.sh wv,x10,x11,x12]=.ok pv:=hput
 rw[aB (bH hput4)]
 show ∃es2 lw2 y3 y4 y5 y6 y7 y8 y9 y10 y11 y12,ak _ [.sh s0,.sh s,.sh tl,.sh (.int op),.sh (.int (tid j a b)),.sh (.int i),.sh (.int v),.sh s,.sh wv,.sh wv,.sh pv,x11,x12]=_∧_
 rw[aB (cq (oY (bF (dG rfl rfl hsm))))]
 cases he:look (i / 16) ks es with
 | none=>
   rw[he]at hpv
   unfold gM at hwv
   rw[he]at hwv
   subst hpv;subst hwv
   refine⟨es,lw,.sh (.int op),.sh (.int (tid j a b)),.sh (.int i),.sh (.int v),.sh s,.sh .aA,.sh .aA,.sh .aA,x11,x12,?_,hp,hl⟩
   rw[hS]
   rfl
 | some e=>
   rw[he]at hpv
   unfold gM at hwv
   rw[he]at hwv
   have hwv:D.int (((ew ls lw e).getD []).getD (i % 16).toNat 0)=wv:=hwv
   generalize ((ew ls lw e).getD []).getD (i % 16).toNat 0=z at hwv
   subst hwv
   have hlp:g0 [s,.int (tid j a b),.int i,.int v]=.ok pv:=by
     rw[hpv, ←hS];exact Ey h hp hl n1 n2 he
   obtain⟨es2,lw2,hst,hp2,hl2⟩:=wk (j:=j) (a:=a) (b:=b) (q:=q) (q':=q') hp hp' hl (v:=v) he
   have hpv:pv=put j a b q q' ks es (ar ks' es') ls lw i v e:=hpv
   have hsm2:ir [pv,pv]=.ok (.bl true):=by
     rw[hpv,hst];exact same_self h hq hq' hp2 hp' hl2
   have hlp4:aN g0 [aa 1,aa 4,aa 5,aa 6] [.sh s0,.sh s,.sh tl,.sh (.int op),.sh (.int (tid j a b)),.sh (.int i),.sh (.int v),.sh s,.sh (.int z),.sh (.int z),.sh pv,x11,x12]=.ok pv:=hlp
   refine⟨es2,lw2,.sh (.int op),.sh (.int (tid j a b)),.sh (.int i),.sh (.int v),.sh s,.sh (.int z),.sh (.int z),.sh pv,.sh pv,x12,?_,hp2,hl2⟩
   rw[←hst, ←hpv]
   have hif:aV (tV (e1 iA (aa 9))) (aV (b7 (tV (e1 jt (aa 8))) (tV (e1 jt (aa 10)))) (aS (eC (.bl false))) (ba)) (ak [bg (aF 11) (aN g0 [aa 1,aa 4,aa 5,aa 6]),aV (b7 (d6 (tV (aN kB [aa 8]))) (b7 (tV (e2 cT (aa 8) (aa 9))) (d6 (tV (aN ir [aa 10,aa 11]))))) (aS (eC (.bl false))) (ba),bg (aF 1) (aa 11)]) [.sh s0,.sh s,.sh tl,.sh (.int op),.sh (.int (tid j a b)),.sh (.int i),.sh (.int v),.sh s,.sh (.int z),.sh (.int z),.sh pv,x11,x12]=.ok (.next [.sh s0,.sh pv,.sh tl,.sh (.int op),.sh (.int (tid j a b)),.sh (.int i),.sh (.int v),.sh s,.sh (.int z),.sh (.int z),.sh pv,.sh pv,x12]):=by
     rw[rJ rfl,aB (bH hlp4)]
     show ak _ [.sh s0,.sh s,.sh tl,.sh (.int op),.sh (.int (tid j a b)),.sh (.int i),.sh (.int v),.sh s,.sh (.int z),.sh (.int z),.sh pv,.sh pv,x12]=_
     rw[aB (cq (iQ (b:=false) (c:=false) (oY (bF (m5 rfl (Ep z)))) (iQ (b:=false) (c:=false) (bF (aL rfl rfl (vw z))) (oY (bF (dG rfl rfl hsm2))))))]
     rfl
   rw[aB hif]
   rfl
end
theorem DV(ns:List Int)(hlen:ns.length≤63):kl [.lst (ns.map .int)]=.ok (.bl true):=by
 obtain⟨a,b,r,ks,ks',ls,es,es',lw,h,hp,hp',hl,hbg⟩:=wg ns
 rw[kl]
 refine cF ?_
 show ak _ [.sh (.lst (ns.map .int)),.un,.un,.un,.un,.un,.un,.un,.un,.un,.un,.un,.un]=_
 rw[aB (bH (m5 rfl hbg))]
 show ak _ [.sh (.lst (ns.map .int)),.sh (st false a b qA.q (qB r).q (ar ks es) (ar ks' es') (aM ls lw)),.un,.un,.un,.un,.un,.un,.un,.un,.un,.un,.un]=_
 have hsrt:fR (eF false a b (tk qA.q (ar ks es)) (tk (qB r).q (ar ks' es')))=.ok (.lst ((aX [a,b]).map .int)):=pd (ks:=[a,b]) (show 2<64 by decide)
 rw[aB (bH (dP (aL rfl rfl nB) hsrt))]
 show ak _ [.sh (.lst (ns.map .int)),.sh (st false a b qA.q (qB r).q (ar ks es) (ar ks' es') (aM ls lw)),.sh (.lst ((aX [a,b]).map .int)),.un,.un,.un,.un,.un,.un,.un,.un,.un,.un]=_
 have hsl:(aX [a,b]).length=2:=(ic [a,b]).length_eq
 obtain⟨ρ1,eL,es2,es2',lw2,x3,x4,x5,x6,x7,x8,x9,x10,x11,x12,hp2,hp2',hl2,hρ⟩:=vF (tg:=aF 3) (body:=jI) (fun ρ=>∃es es' lw x3 x4 x5 x6 x7 x8 x9 x10 x11 x12,Pg ls ks es∧Pg ls ks' es'∧Lt ls lw∧ρ=[.sh (.lst (ns.map .int)),.sh (st false a b qA.q (qB r).q (ar ks es) (ar ks' es') (aM ls lw)),.sh (.lst ((aX [a,b]).map .int)),x3,x4,x5,x6,x7,x8,x9,x10,x11,x12]) (ds:=cut (ns.map .int) (some 13) (some 53)) (by
   intro d hd ρ ⟨es,es',lw,x3,x4,x5,x6,x7,x8,x9,x10,x11,x12,hp,hp',hl,hρ⟩
   subst hρ
   obtain⟨op,rfl⟩:∃op,d=.int op:=by
     unfold cut at hd
     obtain⟨op,_,rfl⟩:=List.mem_map.mp (List.mem_of_mem_drop (List.mem_of_mem_take hd))
     exact⟨op,rfl⟩
   refine⟨_,rfl,?_⟩
   have i0:=Int.emod_nonneg op (show(2:Int)≠0 by decide)
   have i1:=Int.emod_lt_of_pos op (show(0:Int)<2 by decide)
   have hi:(op % 2).toNat<(aX [a,b]).length:=by omega
   have hix:au (.lst ((aX [a,b]).map .int)) (.int (op % 2))=.ok (.int (aX [a,b])[(op % 2).toNat]):=jj (by rw[jO i0 (by rw[List.length_map];omega),List.getElem_map])
   have hmem:(aX [a,b])[(op % 2).toNat]∈[a,b]:=(ic [a,b]).mem_iff.mp (List.getElem_mem hi)
   generalize (aX [a,b])[(op % 2).toNat]=t at hix hmem
   simp only[List.mem_cons,List.not_mem_nil,or_false]at hmem
   rcases hmem with rfl|rfl
   · obtain⟨es2,lw2,y3,y4,y5,y6,y7,y8,y9,y10,y11,y12,hs,hp2,hl2⟩:=u0 (j:=false) h sR (rW r) hp hp' hl (s0:=.lst (ns.map .int)) (tl:=.lst ((aX [t,b]).map .int)) (op:=op) (x4:=x4) (x5:=x5) (x6:=x6) (x7:=x7) (x8:=x8) (x9:=x9) (x10:=x10) (x11:=x11) (x12:=x12) hix
     exact⟨_,hs,es2,es',lw2,y3,y4,y5,y6,y7,y8,y9,y10,y11,y12,hp2,hp',hl2,rfl⟩
   · obtain⟨es2,lw2,y3,y4,y5,y6,y7,y8,y9,y10,y11,y12,hs,hp2,hl2⟩:=u0 (j:=true) h (rW r) sR hp' hp hl (s0:=.lst (ns.map .int)) (tl:=.lst ((aX [a,t]).map .int)) (op:=op) (x4:=x4) (x5:=x5) (x6:=x6) (x7:=x7) (x8:=x8) (x9:=x9) (x10:=x10) (x11:=x11) (x12:=x12) hix
     exact⟨_,hs,es,es2,lw2,y3,y4,y5,y6,y7,y8,y9,y10,y11,y12,hp,hp2,hl2,rfl⟩) (ρ:=[.sh (.lst (ns.map .int)),.sh (st false a b qA.q (qB r).q (ar ks es) (ar ks' es') (aM ls lw)),.sh (.lst ((aX [a,b]).map .int)),.un,.un,.un,.un,.un,.un,.un,.un,.un,.un]) ⟨es,es',lw,_,_,_,_,_,_,_,_,_,_,hp,hp',hl,rfl⟩
 rw[aB (j9 (ds:=cut (ns.map .int) (some 13) (some 53)) rfl eL)]
 subst hρ
 rw[aB (bH (d:=.tup [.int 0,.int 0,.int 0,.int 0,.int 0,.int 0,.int 0,.int 0,.int 0,.int 0,.int 0,.int 0,.int 0,.int 0,.int 0,.int 0]) (by kernel_rfl))]
 exact bQ (by kernel_rfl)
end eR
end PL
open PySem PySem.W PyProof.Rows
set_option maxRecDepth 100000 in
set_option maxHeartbeats 0 in
theorem PySem.Challenge.cw_underfloor_k12_words_in_pages_holds : PySem.Challenge.rw_underfloor_k12_words_in_pages.Holds := by
  w_on; o_law; k_head; (case hw => w_witness2)
  k_fill
  refine PL.walk (l := PySem.Challenge.rw_underfloor_k12_words_in_pages) (k := 12) (x := "_law_script") (m := PL.eR.kl) rfl rfl ⟨rfl, by decide, by decide⟩ (fun w h Y => PySem.W.kIn_of Y) ?F PL.eR.DV
  case F =>
    intro w mg fa h KX G hmg
    refine' PL.eR.all_mk KX G hmg ?a0 ?l0 ?c0 ?k0 ?a1 ?l1 ?c1 ?k1 ?a2 ?l2 ?c2 ?k2 ?a3 ?l3 ?c3 ?k3 ?a4 ?l4 ?c4 ?k4 ?a5 ?l5 ?c5 ?k5 ?a6 ?l6 ?c6 ?k6 ?a7 ?l7 ?c7 ?k7 ?a8 ?l8 ?c8 ?k8 ?a9 ?l9 ?c9 ?k9 ?a10 ?l10 ?c10 ?k10 ?a11 ?l11 ?c11 ?k11 ?a12 ?l12 ?c12 ?k12 ?a13 ?l13 ?c13 ?k13 ?a14 ?l14 ?c14 ?k14 ?a15 ?l15 ?c15 ?k15 ?a16 ?l16 ?c16 ?k16 ?a17 ?l17 ?c17 ?k17 ?a18 ?l18 ?c18 ?k18 ?a19 ?l19 ?c19 ?k19 ?a20 ?l20 ?c20 ?k20 ?z_all ?z_bool ?z_dict ?z_int ?z_isinstance ?z_len ?z_list ?z_range ?z_sorted ?z_tuple ?z_zip ?gl_PAGE_WORDS
    (case a0 => k_is)
    (case l0 => k_is)
    (case c0 => k_is)
    (case k0 => k_is)
    (case a1 => k_is)
    (case l1 => k_is)
    (case c1 => k_is)
    (case k1 => k_is)
    (case a2 => k_is)
    (case l2 => k_is)
    (case c2 => k_is)
    (case k2 => k_is)
    (case a3 => k_is)
    (case l3 => k_is)
    (case c3 => k_is)
    (case k3 => k_is)
    (case a4 => k_is)
    (case l4 => k_is)
    (case c4 => k_is)
    (case k4 => k_is)
    (case a5 => k_is)
    (case l5 => k_is)
    (case c5 => k_is)
    (case k5 => k_is)
    (case a6 => k_is)
    (case l6 => k_is)
    (case c6 => k_is)
    (case k6 => k_is)
    (case a7 => k_is)
    (case l7 => k_is)
    (case c7 => k_is)
    (case k7 => k_is)
    (case a8 => k_is)
    (case l8 => k_is)
    (case c8 => k_is)
    (case k8 => k_is)
    (case a9 => k_is)
    (case l9 => k_is)
    (case c9 => k_is)
    (case k9 => k_is)
    (case a10 => k_is)
    (case l10 => k_is)
    (case c10 => k_is)
    (case k10 => k_is)
    (case a11 => k_is)
    (case l11 => k_is)
    (case c11 => k_is)
    (case k11 => k_is)
    (case a12 => k_is)
    (case l12 => k_is)
    (case c12 => k_is)
    (case k12 => k_is)
    (case a13 => k_is)
    (case l13 => k_is)
    (case c13 => k_is)
    (case k13 => k_is)
    (case a14 => k_is)
    (case l14 => k_is)
    (case c14 => k_is)
    (case k14 => k_is)
    (case a15 => k_is)
    (case l15 => k_is)
    (case c15 => k_is)
    (case k15 => k_is)
    (case a16 => k_is)
    (case l16 => k_is)
    (case c16 => k_is)
    (case k16 => k_is)
    (case a17 => k_is)
    (case l17 => k_is)
    (case c17 => k_is)
    (case k17 => k_is)
    (case a18 => k_is)
    (case l18 => k_is)
    (case c18 => k_is)
    (case k18 => k_is)
    (case a19 => k_is)
    (case l19 => k_is)
    (case c19 => k_is)
    (case k19 => k_is)
    (case a20 => k_is)
    (case l20 => k_is)
    (case c20 => k_is)
    (case k20 => k_is)
    (case z_all => k_is)
    (case z_bool => k_is)
    (case z_dict => k_is)
    (case z_int => k_is)
    (case z_isinstance => k_is)
    (case z_len => k_is)
    (case z_list => k_is)
    (case z_range => k_is)
    (case z_sorted => k_is)
    (case z_tuple => k_is)
    (case z_zip => k_is)
    (case gl_PAGE_WORDS => refine' PL.CN KX G ?x1_PAGE_WORDS ?x2_PAGE_WORDS; (case x1_PAGE_WORDS => k_is); (case x2_PAGE_WORDS => exact ⟨_, rfl⟩))

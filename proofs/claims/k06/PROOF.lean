import PyProof.Rows.All
import Wide.All
import OpenK.AllK
import Wide.FinOn
import Lean
import PyProof.EqAt
import PyProof.EqKinds
import PyProof.TupleCall
import KE.KIntText
import Wide.Seal
import PyProof.Rows.SortStr
import KE.KDictList
import PyProof.StrBlockH
import KE.KSortedL
import KE.KSorted
import PyProof.Rows.SortWalk
import PyProof.TupleKey
import PyProof.Rows.SetFrom
import PySem.Challenge.RW_underfloor_k06_whole_rows_and_words
noncomputable section
set_option Elab.async false
set_option linter.all false
set_option maxRecDepth 100000
namespace L2
open PySem PySem.Spec PyProof.Rows
abbrev Key:=Sum Int Str
def ia:Key→Value→Bool
 |.inl k,v=>Value.isInt k v
 |.inr x,v=>Value.isStrOf x v
def yk(w:World):Key→Int
 |.inl k=>hashInt k
 |.inr x=>hashStr w x
theorem eY:∀ {k:Key} {v:Value},ia k v=true→(∃i t,k=Sum.inl i∧v=Value.int i t)∨(∃x t,k=Sum.inr x∧v=Value.str x t)
 | .inl i,v,h=>by
   obtain⟨t,e⟩:=Value.isInt_shape (k:=i) (v:=v) h;exact .inl ⟨i,t,rfl,e⟩
 | .inr x,v,h=>by
   obtain⟨t,e⟩:=Value.isStrOf_shape (x:=x) (v:=v) h;exact .inr ⟨x,t,rfl,e⟩
theorem yv(i:Int)(t:Tok):ia (.inl i) (.int i t)=true:=by simp[ia,Value.isInt]
theorem va(x:Str)(t:Tok):ia (.inr x) (.str x t)=true:=by simp[ia,Value.isStrOf]
theorem wR(a b:Int):decide ((Sum.inl a:Key)=Sum.inl b)=(a==b):=by
 by_cases e:a=b
 ·subst e;simp
 · have h:¬(Sum.inl a:Key)=Sum.inl b:=fun q=>e (Sum.inl.inj q)
   rw[decide_eq_false h];exact(beq_eq_false_iff_ne.mpr e).symm
theorem Au(a b:Str):decide ((Sum.inr a:Key)=Sum.inr b)=decide (a=b):=by
 by_cases e:a=b
 ·subst e;simp
 · have h:¬(Sum.inr a:Key)=Sum.inr b:=fun q=>e (Sum.inr.inj q)
   rw[decide_eq_false h,decide_eq_false e]
theorem xR(a:Int)(b:Str):decide ((Sum.inl a:Key)=Sum.inr b)=false:=decide_eq_false (fun q=>nomatch q)
theorem wo(a:Str)(b:Int):decide ((Sum.inr a:Key)=Sum.inl b)=false:=decide_eq_false (fun q=>nomatch q)
noncomputable def bc(prog:Program)(w:World):PySem.KeyKind prog w Key where
 is:=ia
 hash:=yk w
 inj:=fun v a b ha hb=>by
   rcases eY ha with⟨i,t,rfl,rfl⟩|⟨x,t,rfl,rfl⟩
   · rcases eY hb with⟨j,u,rfl,e⟩|⟨y,u,rfl,e⟩
     ·injection e with e1 _;rw[e1]
     ·exact nomatch e
   · rcases eY hb with⟨j,u,rfl,e⟩|⟨y,u,rfl,e⟩
     ·exact nomatch e
     ·injection e with e1 _;rw[e1]
 byValue:=fun k v h=>by
   rcases eY h with⟨i,t,rfl,rfl⟩|⟨x,t,rfl,rfl⟩<;>rfl
 pyHash:=fun hv h=>by
   rcases eY hv with⟨i,t,rfl,rfl⟩|⟨x,t,rfl,rfl⟩
   ·exact wpAny_pyHash_int h
   ·exact wpAny_pyHash_str h
 eqBool:=fun hu hv h=>by
   rcases eY hu with⟨i,t,rfl,rfl⟩|⟨x,t,rfl,rfl⟩
   · rcases eY hv with⟨j,u,rfl,rfl⟩|⟨y,u,rfl,rfl⟩
     ·rw[wR]at h;exact wpAny_eqBool_int h
     ·rw[xR]at h;exact SeqAt.EqAt.int_str i t y u _ _ _ _ h
   · rcases eY hv with⟨j,u,rfl,rfl⟩|⟨y,u,rfl,rfl⟩
     ·rw[wo]at h;exact SeqAt.EqAt.str_int x t j u _ _ _ _ h
     ·rw[Au]at h;exact wpAny_eqBool_str h
 «strs»:=fun k x t v h=>by
   rcases eY h with⟨i,u,rfl,e⟩|⟨y,u,rfl,e⟩
   ·exact nomatch e
   · injection e with e1 _
     subst e1;cases v<;>rfl
theorem yM(prog:Program)(w:World)(i:Int)(t:Tok):(bc prog w).is (.inl i) (.int i t)=true:=yv i t
theorem lM(prog:Program)(w:World)(x:Str)(t:Tok):(bc prog w).is (.inr x) (.str x t)=true:=va x t
end L2
namespace L2
open PySem PySem.Spec PyProof.Rows
inductive V where
 |aq|bl (b:Bool)|int (i:Int)|str (x:Str)|gW (b:Array UInt8)|jY (b:UInt64)|ref (a:Addr)|ty (n:String)
 deriving DecidableEq
def RelV:V→Value→Prop
 |.aq,u=>u=Value.none
 |.bl b,u=>u=Value.bool b
 |.int i,u=>∃t,u=Value.int i t
 |.str x,u=>∃t,u=Value.str x t
 |.gW b,u=>∃t,u=Value.bytes b t
 |.jY b,u=>∃t,u=Value.float b t
 |.ref a,u=>u=Value.ref a
 |.ty n,u=>u=Value.type n
abbrev Vals:List V→List Value→Prop:=Paired RelV
theorem Vals.length{xs:List V}{us:List Value}(r:Vals xs us):xs.length=us.length:=Paired.length r
theorem Vals.get:∀ {xs:List V} {us:List Value} {i:Nat} {x:V},Vals xs us→xs[i]? =some x→∃u,us[i]? =some u∧RelV x u
 |_,_,_,_,.nil,e=>by simp at e
 |_,_,0,_,.cons r _,e=>by simp at e;subst e;exact⟨_,rfl,r⟩
 | _,_,i+1,x,.cons _ t,e=>by
   obtain⟨u,h1,h2⟩:=Vals.get (i:=i) (x:=x) t (by simpa using e)
   exact⟨u,by simpa using h1,h2⟩
theorem Vals.set{x:V}{u:Value}(r:RelV x u):∀ {xs:List V} {us:List Value} (i:Nat),Vals xs us→Vals (xs.set i x) (us.set i u)
 |_,_,_,.nil=>.nil
 |_,_,0,.cons _ t=>.cons r t
 |_,_,i+1,.cons q t=>.cons q (Vals.set r i t)
theorem Vals.append:∀ {xs ys:List V} {us ws:List Value},Vals xs us→Vals ys ws→Vals (xs++ys) (us++ws)
 |_,_,_,_,.nil,s=>s
 |_,_,_,_,.cons r t,s=>.cons r (Vals.append t s)
theorem Vals.take:∀ {xs:List V} {us:List Value} (n:Nat),Vals xs us→Vals (xs.take n) (us.take n)
 |_,_,0,_=>.nil
 |_,_,_+1,.nil=>.nil
 |_,_,n+1,.cons r t=>.cons r (Vals.take n t)
theorem Vals.drop:∀ {xs:List V} {us:List Value} (n:Nat),Vals xs us→Vals (xs.drop n) (us.drop n)
 |_,_,0,r=>r
 |_,_,_+1,.nil=>.nil
 |_,_,n+1,.cons _ t=>Vals.drop n t
theorem Vals.none_of:∀ {xs:List V} {us:List Value} {i:Nat},Vals xs us→xs[i]? =none→us[i]? =none:=fun {xs us i} r e=>by
 have h1:=r.length;have h2:xs.length≤i:=List.getElem?_eq_none_iff.mp e;exact List.getElem?_eq_none_iff.mpr (by omega)
def cu:Option V→Option Value→Prop
 |some v,some u=>RelV v u
 |none,none=>True
 |_,_=>False
def KV{κ:Type}:List (κ×V)→List (κ×Value)→Prop:=Paired fun(p:κ×V) (q:κ×Value)=>p.1=q.1∧RelV p.2 q.2
def kV:Key→V
 |.inl i=>.int i
 |.inr x=>.str x
inductive HO where
 |lst (xs:List V)
 |tup (xs:List V)
 |dK (kvs:List (Key×V))|dT (kvs:List (List Key×V))
 |set (S:Int→Bool) (n:Nat)
 |ins (C dx:Addr) (fs:List (Str×V))
 |own (x:Addr)
 |xd (fs:List (Str×V))
 |met (f x:Addr)
 |jQ (lo hi:Int)
 |frz (o:Obj) (u:HO)
 |fO (ps:Array Value)
 |ext (φ:Heap→Prop)
abbrev Hp:=Addr→Option HO
def upd(H:Hp)(a:Addr)(o:HO):Hp:=fun b=>if b=a then some o else H b
theorem b6{H:Hp}{a:Addr}{o:HO}:upd H a o a=some o:=by unfold upd;rw[if_pos rfl]
theorem aE{H:Hp}{a b:Addr}{o:HO}(h:b≠a):upd H a o b=H b:=by unfold upd;rw[if_neg h]
theorem AL{H:Hp}{a:Addr}{o u:HO}:upd (upd H a o) a u=upd H a u:=by
 funext b;unfold upd;split<;>rfl
theorem AB{H:Hp}{a b:Addr}{o u:HO}(h:H a=some o)(h':H b=some u)(d:o≠u):a≠b:=by
 intro e;subst e;rw[h]at h';exact d (Option.some.inj h')
theorem dH{H:Hp}{a b:Addr}{o:HO}(h:H a=some o)(h':H b=none):a≠b:=by
 intro e;subst e;rw[h]at h';cases h'
section
variable(P:Program)(w:World)
def bL(H:Hp)(h:Heap)(a:Addr):HO→Prop
 |.lst xs=>xs.length≤sizeLine∧∃(y':List Value) (n:Nat),Vals xs y'∧h.get? a=some {cls:=.type "list",data:=.seq y'.toArray n}
 |.tup xs=>xs.length≤sizeLine∧∃y':List Value,Vals xs y'∧IsTup h a y'.toArray
 |.dK kvs=>kvs.length≤sizeLine∧(a==sysModules)=false∧∃vs,KV kvs vs∧h.DictOf (bc P w) a vs
 |.dT kvs=>kvs.length≤sizeLine∧(a==sysModules)=false∧∃xs:List (List Key×Addr×Value),
     Paired (fun(p:List Key×V) (q:List Key×Addr×Value)=>p.1=q.1∧H q.2.1=some (.tup (p.1.map kV))∧RelV p.2 q.2.2) kvs xs∧
     ∃o es ep,h.get? a=some o∧o.ExactDict∧o.data=.dict es ep∧es.toList=xs.map (entryOfKey (tupleKind (bc P w)))∧(xs.map (·.1)).Nodup
 |.set S n=>h.SetOf (intKind P w) a S n
 |.ins C dx fs=>H dx=some (.own a)∧fs.length≤1000∧dx≠a∧h.get? a=some (PySem.W.instObj C dx)∧
     ∃mA,h.Ns1 dx mA∧(∀f,cu (fs.lookup f) (mA f))∧PySem.Within mA (fs.map (·.1))
 |.own _=>∃o,h.get? a=some o
 |.xd fs=>∃mA,h.Ns1 a mA∧∀f,cu (fs.lookup f) (mA f)
 |.jQ lo hi=>∃t u v,h.get? a=some {cls:=.type "range",data:=.fields #[.int lo t,.int hi u,.int 1 v]}
 |.frz o u=>h.get? a=some o∧bL H h a u
 |.fO ps=>h.get? a=some {cls:=.none,data:=.fields ps}
 |.met f x=>h.get? a=some (PySem.W.methodObj (.ref f) (.ref x))
 |.ext φ=>φ h∧(∃o,h.get? a=some o)∧∀h1 h2:Heap,φ h1→(∀o,h1.get? a=some o→h2.get? a=some o)→φ h2
def aU(H:Hp)(h:Heap):Prop:=∀a o,H a=some o→bL P w H h a o
end
section
variable{P:Program}{w:World}{H H':Hp}{h h':Heap}{a:Addr}{o:HO}
theorem bL.lt(x:bL P w H h a o):a<h.objs.size:=by
 cases o with
 |lst xs=>obtain⟨_,_,_,_,e⟩:=x;exact Heap.lt_size e
 |tup xs=>obtain⟨_,_,_,p⟩:=x;exact p.lt
 |dK kvs=>obtain⟨_,_,_,_,o,_,_,e,_⟩:=x;exact Heap.lt_size e
 |dT kvs=>obtain⟨_,_,_,_,o,_,_,e,_⟩:=x;exact Heap.lt_size e
 |set S n=>obtain⟨o,_,_,_,e,_⟩:=x;exact Heap.lt_size e
 |ins C dx fs=>obtain⟨_,_,_,e,_⟩:=x;exact Heap.lt_size e
 |own y=>obtain⟨_,e⟩:=x;exact Heap.lt_size e
 |xd fs=>obtain⟨_,⟨_,_,_,e,_⟩,_⟩:=x;exact Heap.lt_size e
 |jQ lo hi=>obtain⟨_,_,_,e⟩:=x;exact Heap.lt_size e
 |frz ob u=>obtain⟨e,_⟩:=x;exact Heap.lt_size e
 |fO ps=>exact Heap.lt_size (show h.get? a=some _ from x)
 |met f y=>exact Heap.lt_size (show h.get? a=some _ from x)
 |ext φ=>obtain⟨_,⟨_,e⟩,_⟩:=x;exact Heap.lt_size e
theorem Paired.m6{α β:Type}{F G:α→β→Prop}:∀ {Fm:List α} {Gg:List β},Paired F Fm Gg→(∀a b,F a b→G a b)→Paired G Fm Gg
 |_,_,.nil,_=>.nil
 |_,_,.cons r t,f=>.cons (f _ _ r) (Paired.m6 t f)
theorem bL.fB(x:bL P w H h a o)(k:∀b u,(b=a∨H b=some (.own a))→h.get? b=some u→h'.get? b=some u)
   (ho:∀b,H b=some (.own a)→H' b=some (.own a)) (ht:∀b xs,H b=some (.tup xs)→H' b=some (.tup xs)):bL P w H' h' a o:=by
 induction o with
 |lst xs=>obtain⟨z,y',n,r,e⟩:=x;exact⟨z,y',n,r,k _ _ (.inl rfl) e⟩
 |tup xs=>obtain⟨z,y',r,ob,e,c⟩:=x;exact⟨z,y',r,ob,k _ _ (.inl rfl) e,c⟩
 |dK kvs=>obtain⟨z,y,vs,r,ob,es,ep,e,c⟩:=x;exact⟨z,y,vs,r,ob,es,ep,k _ _ (.inl rfl) e,c⟩
 | dT kvs=>
   obtain⟨z,y,xs,r,ob,es,ep,e,c⟩:=x;exact⟨z,y,xs,Paired.m6 r fun p q z=>⟨z.1,ht _ _ z.2.1,z.2.2⟩,ob,es,ep,k _ _ (.inl rfl) e,c⟩
 |set S n=>obtain⟨ob,es,ep,t,e,c⟩:=x;exact⟨ob,es,ep,t,k _ _ (.inl rfl) e,c⟩
 | ins C dx fs=>
   obtain⟨d,z,ne,e,mA,⟨od,es,ep,e2,c⟩,r⟩:=x;exact⟨ho _ d,z,ne,k _ _ (.inl rfl) e,mA,⟨od,es,ep,k _ _ (.inr d) e2,c⟩,r⟩
 |own y=>obtain⟨ob,e⟩:=x;exact⟨ob,k _ _ (.inl rfl) e⟩
 |xd fs=>obtain⟨mA,⟨od,es,ep,e,c⟩,r⟩:=x;exact⟨mA,⟨od,es,ep,k _ _ (.inl rfl) e,c⟩,r⟩
 |jQ lo hi=>obtain⟨t,u,v,e⟩:=x;exact⟨t,u,v,k _ _ (.inl rfl) e⟩
 |frz ob u ih=>obtain⟨e,q⟩:=x;exact⟨k _ _ (.inl rfl) e,ih q⟩
 | fO ps=>
   have e:h.get? a=some {cls:=.none,data:=.fields ps}:=x;show h'.get? a=some {cls:=.none,data:=.fields ps};exact k a _ (.inl rfl) e
 | met f y=>
   have e:h.get? a=some (PySem.W.methodObj (.ref f) (.ref y)):=x;show h'.get? a=some (PySem.W.methodObj (.ref f) (.ref y));exact k a _ (.inl rfl) e
 |ext φ=>obtain⟨p,⟨o,e⟩,st⟩:=x;exact⟨st _ _ p fun o q=>k _ _ (.inl rfl) q,⟨o,k _ _ (.inl rfl) e⟩,st⟩
theorem aU.lt(x:aU P w H h)(e:H a=some o):a<h.objs.size:=(x a o e).lt
theorem aU.fresh(x:aU P w H h)(e:h.objs.size≤a):H a=none:=by
 cases q:H a with
 |none=>rfl
 |some u=>exact absurd (Nat.lt_of_lt_of_le (x.lt q) e) (Nat.lt_irrefl _)
theorem aU.kept(x:aU P w H h)(k:∀b u,h.get? b=some u→h'.get? b=some u):aU P w H h':=fun a o e=>
 (x a o e).fB (fun b u _ q=>k b u q) (fun _ q=>q) fun _ _ q=>q
theorem aU.laid(x:aU P w H h)(k:∀b u,h.get? b=some u→h'.get? b=some u)(hp:h.objs.size≤a)(new:bL P w (upd H a o) h' a o):aU P w (upd H a o) h':=fun b u e=>by
 have hn:=x.fresh hp;by_cases hb:b=a
 ·subst hb;rw[b6]at e;cases e;exact new
 · rw[aE hb]at e
   exact(x b u e).fB (fun c v _ q=>k c v q) (fun c q=>by rw[aE (dH q hn)];exact q) fun c xs q=>by rw[aE (dH q hn)];exact q
end
def Rd(H:Hp)(a:Addr)(u:HO):Prop:=H a=some u∨∃o,H a=some (.frz o u)
theorem Rd.of{H:Hp}{a:Addr}{u:HO}(h:H a=some u):Rd H a u:=.inl h
theorem Rd.ok{P:Program}{w:World}{H:Hp}{h:Heap}{a:Addr}{u:HO}(r:Rd H a u)(x:aU P w H h):bL P w H h a u:=by
 rcases r with r|⟨o,r⟩
 ·exact x a u r
 · obtain⟨_,q⟩:=x a _ r
   exact q
def jj:Option HO→Prop
 |some (.lst _)=>True
 |some (.dK _)=>True
 |some (.dT _)=>True
 |some (.set _ _)=>True
 |some (.ins _ _ _)=>True
 |some (.ext _)=>True
 |_=>False
section
variable{P:Program}{w:World}{H:Hp}{h h':Heap}{x e:Addr}{o':HO}
theorem aU.write(ok:aU P w H h)(mu:jj (H x))(he:e=x∨H e=some (.own x))(k:∀b u,b≠e→h.get? b=some u→h'.get? b=some u)(Fg:∃u,h'.get? e=some u)
   (new:bL P w (upd H x o') h' x o'):aU P w (upd H x o') h':=fun b u q=>by
 have Fw:∀c y,H c=some (.own y)→c≠x:=fun c y r z=>by subst z;rw[r]at mu;exact mu
 have HF:∀c xs,H c=some (.tup xs)→c≠x:=fun c xs r z=>by subst z;rw[r]at mu;exact mu
 by_cases hb:b=x
 ·subst hb;rw[b6]at q;cases q;exact new
 · rw[aE hb]at q
   by_cases hbe:b=e
   · have q':H b=some (.own x):=by
       rcases he with z|z
       ·exact absurd (hbe.trans z) hb
       ·rw[hbe];exact z
     rw[q]at q';cases q';obtain⟨v,hv⟩:=Fg;exact⟨v,by rw[hbe];exact hv⟩
   · refine(ok b u q).fB (fun c v hc r=>k c v ?_ r) (fun c r=>by rw[aE (Fw c b r)];exact r) fun c xs r=>by rw[aE (HF c xs r)];exact r
     rcases hc with rfl|hc
     ·exact hbe
     · rintro rfl
       rcases he with z|z
       ·exact Fw c b hc z
       ·rw[hc]at z;cases z;exact hb rfl
end
structure Un(fs ex:List Addr)(H H':Hp)(h h':Heap):Prop where
 keep:∀b o,h.get? b=some o→H b=none→b∉fs→b∉ex→h'.get? b=some o
 slot:∀b o,h.get? b=some o→H b=none→b∈fs→b∉ex→∃sl,h'.get? b=some {o with slots:=sl}
 free:∀b o,h.get? b=some o→H b=none→b∉ex→H' b=none
 there:∀b o,h.get? b=some o→b∉ex→∃o',h'.get? b=some o'
 cO:∀b xs,H b=some (.tup xs)→H' b=some (.tup xs)
 cH:∀b o u,H b=some (.frz o u)→H' b=some (.frz o u)
 cR:∀b ps,H b=some (.fO ps)→∃more,H' b=some (.fO (ps++more))
section
variable{fs G1 ex JH:List Addr}{H H1 H2:Hp}{h h1 h2 h':Heap}{a x e:Addr}{o:HO}
theorem Un.any(u:Un fs ex H H1 h h1){b:Addr}{ob:Obj}(q:h.get? b=some ob)(n:H b=none)(hx:b∉ex):∃sl,h1.get? b=some {ob with slots:=sl}:=by
 by_cases hb:b∈fs
 ·exact u.slot b ob q n hb hx
 ·exact⟨ob.slots,u.keep b ob q n hb hx⟩
theorem Un.trans(a:Un fs ex H H1 h h1)(b:Un fs ex H1 H2 h1 h2):Un fs ex H H2 h h2 where
 keep:=fun c ob q n hc hx=>b.keep c ob (a.keep c ob q n hc hx) (a.free c ob q n hx) hc hx
 slot:=fun c ob q n hc hx=>by
   obtain⟨sl,e1⟩:=a.slot c ob q n hc hx;obtain⟨IL,e2⟩:=b.slot c _ e1 (a.free c ob q n hx) hc hx;exact⟨IL,e2⟩
 free:=fun c ob q n hx=>by
   obtain⟨o',e1⟩:=a.there c ob q hx;exact b.free c o' e1 (a.free c ob q n hx) hx
 there:=fun c ob q hx=>by
   obtain⟨o',e1⟩:=a.there c ob q hx;exact b.there c o' e1 hx
 cO:=fun c xs q=>b.cO c xs (a.cO c xs q)
 cH:=fun c ob xs q=>b.cH c ob xs (a.cH c ob xs q)
 cR:=fun c ps q=>by
   obtain⟨m1,e1⟩:=a.cR c ps q;obtain⟨m2,e2⟩:=b.cR c _ e1;exact⟨m1++m2,by rw[e2,Array.append_assoc]⟩
theorem Un.kept(k:∀b u,h.get? b=some u→h'.get? b=some u):Un fs ex H H h h':=
 ⟨fun b ob q _ _ _=>k b ob q,fun b ob q _ _ _=>⟨ob.slots,k b ob q⟩,fun _ _ _ n _=>n,fun b ob q _=>⟨ob,k b ob q⟩,fun _ _ q=>q,fun _ _ _ q=>q,fun _ ps q=>⟨#[],by rw[q];simp⟩⟩
theorem Un.refl:Un fs ex H H h h:=Un.kept fun _ _ q=>q
theorem Un.laid(k:∀b u,h.get? b=some u→h'.get? b=some u)(hp:h.objs.size≤a)(hn:H a=none):Un fs ex H (upd H a o) h h' where
 keep:=fun b u q _ _ _=>k b u q
 slot:=fun b u q _ _ _=>⟨u.slots,k b u q⟩
 free:=fun b u q n _=>by rw[aE (Nat.ne_of_lt (Nat.lt_of_lt_of_le (Heap.lt_size q) hp))];exact n
 there:=fun b u q _=>⟨u,k b u q⟩
 cO:=fun b xs q=>by rw[aE (dH q hn)];exact q
 cH:=fun b u xs q=>by rw[aE (dH q hn)];exact q
 cR:=fun b ps q=>⟨#[],by rw[aE (dH q hn),q];simp⟩
theorem Un.write(mu:jj (H x))(he:e=x∨H e=some (.own x))(k:∀b u,b≠e→h.get? b=some u→h'.get? b=some u)(Fg:∃u,h'.get? e=some u):Un fs ex H (upd H x o) h h':=by
 have hx:∀b,H b=none→b≠x:=fun b n z=>by subst z;rw[n]at mu;exact mu
 have hb:∀b,H b=none→b≠e:=fun b n z=>by
   subst z;rcases he with r|r
   ·exact hx b n r
   ·rw[n]at r;cases r
 have hm:∀b u,H b=some u→¬jj (some u)→b≠x:=fun b u q nm z=>by subst z;rw[q]at mu;exact nm mu
 refine⟨fun b u q n _ _=>k b u (hb b n) q,fun b u q n _ _=>⟨u.slots,k b u (hb b n) q⟩,fun b u q n _=>by rw[aE (hx b n)];exact n,fun b u q _=>?_,
   fun b xs q=>by rw[aE (hm b _ q fun z=>z)];exact q,fun b u xs q=>by rw[aE (hm b _ q fun z=>z)];exact q,fun b ps q=>⟨#[],by rw[aE (hm b _ q fun z=>z),q];simp⟩⟩
 by_cases hbe:b=e
 ·subst hbe;exact Fg
 ·exact⟨u,k b u hbe q⟩
theorem Un.mono(u:Un fs ex H H1 h h1)(hs:∀b∈fs,b∈G1)(hx:∀b∈ex,b∈JH):Un G1 JH H H1 h h1:=
 ⟨fun b ob q n hb he=>u.keep b ob q n (fun z=>hb (hs b z)) fun z=>he (hx b z),fun _ _ q n _ he=>u.any q n fun z=>he (hx _ z),fun b ob q n he=>u.free b ob q n fun z=>he (hx b z),fun b ob q he=>u.there b ob q fun z=>he (hx b z),u.cO,u.cH,u.cR⟩
end
def aN(h:Heap)(H:Hp):List Addr:=(List.range h.objs.size).filter fun a=>(H a).isSome
def fi(h:Heap)(H:Hp):Heap:=PySem.W.hideAll h (aN h H)
theorem AF(h:Heap)(H:Hp):(fi h H).objs.size=h.objs.size:=PySem.W.hideAll_size _ _
theorem wI{h:Heap}{H:Hp}{b:Addr}{o:Obj}(e:h.get? b=some o)(n:H b=none):(fi h H).get? b=some o:=
 PySem.W.hideAll_get _ e fun hm=>by
   have q:(H b).isSome=true:=(List.mem_filter.mp hm).2;rw[n]at q;simp at q
theorem vf{h:Heap}{H:Hp}{b:Addr}{o:Obj}(e:(fi h H).get? b=some o):h.get? b=some o∧H b=none:=by
 have e':h.get? b=some o:=PySem.W.of_hideAll (aN h H) e;refine⟨e',?_⟩;cases q:H b with
 |none=>rfl
 | some x=>
   have hm:b∈aN h H:=List.mem_filter.mpr ⟨List.mem_range.mpr (Heap.lt_size e'),by simp[q]⟩
   have z:(fi h H).get? b=none:=PySem.W.hideAll_none (aN h H) hm;rw[z]at e;cases e
noncomputable def ur(g h:Heap)(L:Addr):List (Addr×Obj):=(List.range h.objs.size).filterMap fun a=>if a=L∨(g.get? a).isSome=true then none else(h.get? a).map fun o=>(a,o)
def rest(g h:Heap)(L d:Addr):List (Addr×Obj):=(ur g h L).filter fun p=>decide (p.1≠d)
end L2
namespace L2
open PySem PySem.Spec PyProof.Rows
structure Mod(K:PySem.W.Frag)(mg:Str→Option Value)(base:Heap):Prop where
 mm:K.In base
 glob:base.Ns mainGlobals mg
 blt:∃mb,base.Ns builtinsNs mb∧∀x:Str,x≠"__name__"→mb x=bootBuiltins x
 nolimit:base.NoLimit
structure Cx where
 prog:Program
 w:World
 K:PySem.W.Frag
 mg:Str→Option Value
 base:Heap
 A:Around
 N:List Str
 bE:Shared
 jb:Hp
 env:Env
 outer:List Env
 stack:List Env
 ex:List Addr
 fn:Str→Bool
 calm:Bool
 pn:List (Addr×Obj)
 xe:Value→Shared→Prop
def bQ(l:List Env):List Addr:=l.filterMap (·.frame)
abbrev Cx.fs(X:Cx):List Addr:=bQ X.outer
def cz(sc:Scope)(x:Str):Prop:=sc.names.lookup x=some .local∨sc.names.lookup x=some .cell∨sc.names.lookup x=some .free
def Loc(sc:Scope)(x:Str):Prop:=sc.names.lookup x=some .local∨sc.names.lookup x=some .cell
def Look(env:Env)(h:Heap)(m:Str→Option Value)(x:Str)(u:Value):Prop:=
 (env.kindOf x=some .local∧m x=some u)∨((env.kindOf x=some .cell∨env.kindOf x=some .free)∧∃c,env.cells.lookup x=some c∧h.IsCell c (some u))
structure Cx.Ok(X:Cx):Prop where
 mod:Mod X.K X.mg X.base
 kind:X.env.scope.kind=.function
 glob:X.env.globals=mainGlobals
 blt:X.env.builtins=builtinsNs
 above:X.bE.heap.objs.size≤X.env.locals
 inj:∀x y c,X.env.cells.lookup x=some c→X.env.cells.lookup y=some c→x=y
 has:∀x,(X.env.kindOf x=some .cell∨X.env.kindOf x=some .free)→∃c,X.env.cells.lookup x=some c
 iI:∀x c,X.fn x=true→X.env.cells.lookup x=some c→X.bE.heap.objs.size≤c
 hd:X.calm=true→X.A.handled=none
 frames:X.A.frames=some X.stack
 jv:X.stack=X.outer∨(X.stack=X.env::X.outer∧X.env.frame=some X.env.locals)
 rP:∀b∈X.ex,b≠X.env.locals∧∀x c,X.env.cells.lookup x=some c→c≠b
 bs:∀b o,X.base.get? b=some o→X.bE.heap.get? b=some o∧X.jb b=none
 fA:X.base.objs.size≤X.bE.heap.objs.size
 iZ:∀b o,X.base.get? b=some o→b∉X.ex
 jH:∀b∈X.ex,b∉X.fs
 dw:X.bE.heap.FunFrames X.base X.outer
 gk:∀b∈X.fs,X.jb b=none
structure Inv(X:Cx)(pins:List (Addr×Obj))(σ:List (Option V))(H:Hp)(s:Shared):Prop where
 ok:X.Ok
 os:s.os=X.bE.os
 bare:AllBare s.gens
 base:Un X.fs X.ex X.jb H X.bE.heap s.heap
 loc:∃m,s.heap.Ns X.env.locals m∧∀(i:Nat) (x:Str) (v:V),X.N[i]? =some x→σ[i]? =some (some v)→cz X.env.scope x→∃u,RelV v u∧Look X.env s.heap m x u
 cell:∀x c,X.env.cells.lookup x=some c→∃v,s.heap.IsCell c v
 free:H X.env.locals=none
 eM:∀x c,X.env.cells.lookup x=some c→H c=none
 pin:∀p∈X.pn++pins,s.heap.get? p.1=some p.2∧H p.1=none∧p.1≠X.env.locals∧p.1∉X.fs∧∀v,p.2.data≠.cell v
 au:aU X.prog X.w H s.heap
 len:σ.length=X.N.length
section
variable{X:Cx}{pins:List (Addr×Obj)}{σ:List (Option V)}{H H':Hp}{s:Shared}{h':Heap}
theorem Cx.Ok.z8(ok:X.Ok){b:Addr}{o:Obj}(e:X.base.get? b=some o):b∉X.fs:=fun hb=>by
 have:=(ok.dw.mem hb).1;rw[e]at this;cases this
theorem Inv.bs(I:Inv X pins σ H s):∀b o,X.base.get? b=some o→s.heap.get? b=some o∧H b=none:=fun b o e=>
 ⟨I.base.keep b o (I.ok.bs b o e).1 (I.ok.bs b o e).2 (I.ok.z8 e) (I.ok.iZ b o e),I.base.free b o (I.ok.bs b o e).1 (I.ok.bs b o e).2 (I.ok.iZ b o e)⟩
theorem Inv.bk(I:Inv X pins σ H s):∀b o,X.base.get? b=some o→s.heap.get? b=some o:=fun b o e=>(I.bs b o e).1
theorem Inv.mod(I:Inv X pins σ H s):Mod X.K X.mg X.base:=I.ok.mod
theorem Inv.bS(I:Inv X pins σ H s):X.K.In s.heap:=I.ok.mod.mm.keeps I.bk
theorem Inv.nolimit(I:Inv X pins σ H s):s.heap.NoLimit:=I.ok.mod.nolimit.keeps I.bk
theorem Inv.lt(I:Inv X pins σ H s):X.env.locals<s.heap.objs.size:=let⟨_,hn,_⟩:=I.loc;hn.lt
theorem Inv.sz(I:Inv X pins σ H s):X.bE.heap.objs.size≤s.heap.objs.size:=Nat.le_trans I.ok.above (Nat.le_of_lt I.lt)
theorem Inv.tG(I:Inv X pins σ H s){a:Addr}(h:s.heap.objs.size≤a):a∉X.fs:=fun hb=>by
 obtain⟨_,o,ho,_⟩:=I.ok.dw.mem hb;exact absurd (Nat.lt_of_lt_of_le (Heap.lt_size ho) (Nat.le_trans I.sz h)) (Nat.lt_irrefl _)
theorem Inv.dZ(I:Inv X pins σ H s):∀x c,X.env.cells.lookup x=some c→c≠X.env.locals:=fun x c e z=>by
 obtain⟨v,o,ho,hd⟩:=I.cell x c e;obtain⟨m,⟨o',es,ep,C9,MU,_⟩,_⟩:=I.loc;rw[z,C9]at ho;cases ho;rw[MU]at hd;cases hd
theorem Inv.dw(I:Inv X pins σ H s):s.heap.FunFrames X.base X.outer:=by
 have all:∀(l:List Env),(∀b∈bQ l,b∈X.fs)→X.bE.heap.FunFrames X.base l→s.heap.FunFrames X.base l:=by
   intro l
   induction l with
   |nil=>intro _ _;trivial
   | cons env r ih=>
     intro hs hl;obtain⟨hk,⟨L,o,hf,hn,ho,hd⟩,hr⟩:=hl;have hL:L∈X.fs:=hs L (by unfold bQ;rw[List.filterMap_cons,hf];exact List.mem_cons_self)
     obtain⟨sl,e⟩:=I.base.slot L o ho (I.ok.gk L hL) hL fun z=>I.ok.jH L z hL;exact⟨hk,⟨L,_,hf,hn,e,hd⟩,ih (fun b hb=>hs b (by unfold bQ;rw[List.filterMap_cons,hf];exact List.mem_cons_of_mem _ hb)) hr⟩
 exact all X.outer (fun _ hb=>hb) I.ok.dw
theorem Inv.stack(I:Inv X pins σ H s):s.heap.FunFrames X.base X.stack:=by
 rcases I.ok.jv with e|⟨e,hf⟩
 ·rw[e];exact I.dw
 · rw[e]
   obtain⟨m,hn,_⟩:=I.loc;refine .cons (by rw[I.ok.kind];decide) hf hn ?_ I.dw
   exact Heap.get?_none_of_le (Nat.le_trans I.ok.fA I.ok.above)
theorem Inv.jL(I:Inv X pins σ H s):∀b∈bQ X.stack,b∈X.env.locals::X.fs:=fun b hb=>by
 rcases I.ok.jv with e|⟨e,hf⟩
 ·rw[e]at hb;exact List.mem_cons_of_mem _ hb
 · rw[e]at hb
   unfold bQ at hb;rw[List.filterMap_cons,hf]at hb;exact hb
theorem Inv.pQ(I:Inv X pins σ H s):∀b∈bQ X.stack,H b=none:=fun b hb=>by
 rcases List.mem_cons.mp (I.jL b hb)with e|hb
 ·rw[e];exact I.free
 · obtain⟨_,o,ho,_⟩:=I.ok.dw.mem hb
   exact I.base.free b o ho (I.ok.gk b hb) fun z=>I.ok.jH b z hb
theorem Inv.step{g':Array GenState}{t':Nat}{d':Drawn}{ch:List Addr}(I:Inv X pins σ H s)
   (Ee:∀b∈ch,(b∈X.ex∨X.bE.heap.objs.size≤b)∧b≠X.env.locals∧(∀x c,X.env.cells.lookup x=some c→c≠b)∧∀p∈X.pn++pins,p.1≠b)
   (keep:∀b o,b≠X.env.locals→b∉X.fs→b∉ch→s.heap.get? b=some o→H b=none→h'.get? b=some o)
   (slot:∀b o,b≠X.env.locals→b∈X.fs→b∉ch→s.heap.get? b=some o→H b=none→∃sl,h'.get? b=some {o with slots:=sl}) (free:∀b o,b∉ch→s.heap.get? b=some o→H b=none→H' b=none)
   (there:∀b o,b∉ch→s.heap.get? b=some o→∃o',h'.get? b=some o')
   (cO:∀b xs,H b=some (.tup xs)→H' b=some (.tup xs)) (cH:∀b o u,H b=some (.frz o u)→H' b=some (.frz o u)) (cR:∀b ps,H b=some (.fO ps)→∃more,H' b=some (.fO (ps++more)))
   (ns:∀m,s.heap.Ns X.env.locals m→h'.Ns X.env.locals m) (au:aU X.prog X.w H' h') (hg:AllBare g'):
   Inv X pins σ H' {s with heap:=h',gens:=g',drawn:=d',toks:=t'}:=by
 have Kr:∀b o,X.bE.heap.get? b=some o→b≠X.env.locals:=fun b o e=>Nat.ne_of_lt (Nat.lt_of_lt_of_le (Heap.lt_size e) I.ok.above)
 have GC:∀b o,X.bE.heap.get? b=some o→b∉X.ex→b∉ch:=fun b o e hx hb=>by
   rcases(Ee b hb).1 with z|z
   ·exact hx z
   ·exact absurd (Nat.lt_of_lt_of_le (Heap.lt_size e) z) (Nat.lt_irrefl _)
 have cellK:∀x c,X.env.cells.lookup x=some c→∀v,s.heap.IsCell c v→h'.IsCell c v:=fun x c e v ⟨o,ho,hd⟩=>by
   have Dw:c∉ch:=fun z=>(Ee c z).2.2.1 x c e rfl;by_cases hc:c∈X.fs
   · obtain⟨sl,q⟩:=slot c o (I.dZ x c e) hc Dw ho (I.eM x c e)
     exact⟨_,q,hd⟩
   ·exact⟨o,keep c o (I.dZ x c e) hc Dw ho (I.eM x c e),hd⟩
 refine⟨I.ok,I.os,hg,⟨fun b o e n hb hx=>?_,fun b o e n hb hx=>?_,fun b o e n hx=>?_,fun b o e hx=>?_,fun b xs e=>cO b xs (I.base.cO b xs e),fun b o xs e=>cH b o xs (I.base.cH b o xs e),fun b ps e=>?_⟩,?_,fun x c e=>?_,?_,fun x c e=>?_,fun p hp=>?_,au,I.len⟩
 ·exact keep b o (Kr b o e) hb (GC b o e hx) (I.base.keep b o e n hb hx) (I.base.free b o e n hx)
 · obtain⟨sl,e1⟩:=I.base.slot b o e n hb hx
   obtain⟨IL,e2⟩:=slot b _ (Kr b o e) hb (GC b o e hx) e1 (I.base.free b o e n hx);exact⟨IL,e2⟩
 · obtain⟨o',e1⟩:=I.base.there b o e hx
   exact free b o' (GC b o e hx) e1 (I.base.free b o e n hx)
 · obtain⟨o',e1⟩:=I.base.there b o e hx
   exact there b o' (GC b o e hx) e1
 · obtain⟨m1,e1⟩:=I.base.cR b ps e
   obtain⟨m2,e2⟩:=cR b _ e1;exact⟨m1++m2,by rw[e2,Array.append_assoc]⟩
 · obtain⟨m,hn,hl⟩:=I.loc
   refine⟨m,ns m hn,fun i x v e1 e2 e3=>?_⟩;obtain⟨u,r,l⟩:=hl i x v e1 e2 e3;refine⟨u,r,?_⟩;rcases l with l|⟨k,c,e,z⟩
   ·exact .inl l
   ·exact .inr ⟨k,c,e,cellK x c e _ z⟩
 · obtain⟨v,z⟩:=I.cell x c e
   exact⟨v,cellK x c e v z⟩
 · obtain⟨m,⟨o,_,_,ho,_⟩,_⟩:=I.loc
   exact free _ o (fun z=>(Ee _ z).2.1 rfl) ho I.free
 · obtain⟨v,o,ho,hd⟩:=I.cell x c e
   exact free c o (fun z=>(Ee c z).2.2.1 x c e rfl) ho (I.eM x c e)
 · obtain⟨e,n,ne,nf,d⟩:=I.pin p hp
   have Dw:p.1∉ch:=fun z=>(Ee p.1 z).2.2.2 p hp rfl;exact⟨keep p.1 p.2 ne nf Dw e n,free p.1 p.2 Dw e n,ne,nf,d⟩
theorem Inv.un{t':Nat}(I:Inv X pins σ H s)(u:Un X.fs [] H H' s.heap h')(au:aU X.prog X.w H' h'):Inv X pins σ H' {s with heap:=h',toks:=t'}:=by
 obtain⟨m,⟨o,es,ep,ho,r⟩,_⟩:=id I.loc;obtain⟨sl,hL⟩:=u.any ho I.free (by simp)
 exact I.step (g':=s.gens) (d':=s.drawn) (ch:=[]) (fun _ z=>nomatch z) (fun b o _ hb _ e n=>u.keep b o e n hb (by simp)) (fun b o _ hb _ e n=>u.slot b o e n hb (by simp)) (fun b o _ e n=>u.free b o e n (by simp)) (fun b o _ e=>u.there b o e (by simp)) u.cO u.cH u.cR (fun m' hm=>by
   obtain⟨o',Ec,GA,C9,r'⟩:=hm;rw[ho]at C9;cases C9;exact⟨_,Ec,GA,hL,r'⟩) au I.bare
theorem Inv.call{g':Array GenState}{t':Nat}{d':Drawn}{ch:List Addr}(I:Inv X pins σ H s)(u:Un (bQ X.stack) ch H H' s.heap h')(au:aU X.prog X.w H' h')(hg:AllBare g')
   (Ee:∀b∈ch,(b∈X.ex∨X.bE.heap.objs.size≤b)∧b≠X.env.locals∧(∀x c,X.env.cells.lookup x=some c→c≠b)∧∀p∈X.pn++pins,p.1≠b):
   Inv X pins σ H' {s with heap:=h',gens:=g',drawn:=d',toks:=t'}:=by
 obtain⟨m,⟨o,es,ep,ho,r⟩,_⟩:=id I.loc;obtain⟨sl,hL⟩:=u.any ho I.free fun z=>(Ee _ z).2.1 rfl
 exact I.step (ch:=ch) Ee (fun b o hL hb hc e n=>u.keep b o e n (fun z=>(List.mem_cons.mp (I.jL b z)).elim hL hb) hc) (fun b o _ _ hc e n=>u.any e n hc) (fun b o hc e n=>u.free b o e n hc) (fun b o hc e=>u.there b o e hc) u.cO u.cH u.cR (fun m' hm=>by
   obtain⟨o',Ec,GA,C9,r'⟩:=hm;rw[ho]at C9;cases C9;exact⟨_,Ec,GA,hL,r'⟩) au hg
theorem Inv.turned{t':Nat}{it:Addr}(I:Inv X pins σ H s)(k:∀b o,b≠it→s.heap.get? b=some o→h'.get? b=some o)(hn:H it=none)(hL:it≠X.env.locals)
   (h1:it∈X.ex∨X.bE.heap.objs.size≤it) (h2:∀x c,X.env.cells.lookup x=some c→c≠it) (h3:∀p∈X.pn++pins,p.1≠it):Inv X pins σ H {s with heap:=h',toks:=t'}:=by
 have Ji:∀b u,H b=some u→b≠it:=fun b u e z=>by rw[z,hn]at e;cases e
 refine I.step (g':=s.gens) (d':=s.drawn) (ch:=[it]) (fun b hb=>?_) (fun b o _ _ hc e _=>k b o (fun z=>hc (by simp[z])) e) (fun b o _ _ hc e _=>⟨o.slots,k b o (fun z=>hc (by simp[z])) e⟩) (fun _ _ _ _ n=>n)
   (fun b o hc e=>⟨o,k b o (fun z=>hc (by simp[z])) e⟩) (fun _ _ e=>e) (fun _ _ _ e=>e) (fun b ps e=>⟨#[],by rw[e];simp⟩) (fun m hm=>?_) (fun b u e=>?_) I.bare
 · have e:b=it:=by simpa using hb
   subst e;exact⟨h1,hL,h2,h3⟩
 · obtain⟨o,es,ep,ho,r⟩:=hm
   exact⟨o,es,ep,k _ o (Ne.symm hL) ho,r⟩
 · refine(I.au b u e).fB (fun c v hc q=>k c v ?_ q) (fun _ q=>q) fun _ _ q=>q
   rcases hc with z|z
   ·rw[z];exact Ji b u e
   ·exact Ji c _ z
theorem Inv.tok(I:Inv X pins σ H s)(t:Nat):Inv X pins σ H {s with toks:=t}:=I.un (h':=s.heap) (t':=t) Un.refl I.au
theorem Inv.kept{t':Nat}(I:Inv X pins σ H s)(k:∀b u,s.heap.get? b=some u→h'.get? b=some u):Inv X pins σ H {s with heap:=h',toks:=t'}:=I.un (Un.kept k) (I.au.kept k)
theorem Inv.laid{a:Addr}{o:HO}{t':Nat}(I:Inv X pins σ H s)(k:∀b u,s.heap.get? b=some u→h'.get? b=some u)(hp:s.heap.objs.size≤a)(new:bL X.prog X.w (upd H a o) h' a o):
   Inv X pins σ (upd H a o) {s with heap:=h',toks:=t'}:=I.un (Un.laid k hp (I.au.fresh hp)) (I.au.laid k hp new)
theorem Inv.write{x e:Addr}{o:HO}{t':Nat}(I:Inv X pins σ H s)(mu:jj (H x))(he:e=x∨H e=some (.own x))(k:∀b u,b≠e→s.heap.get? b=some u→h'.get? b=some u)(Fg:∃u,h'.get? e=some u)
   (new:bL X.prog X.w (upd H x o) h' x o):Inv X pins σ (upd H x o) {s with heap:=h',toks:=t'}:=I.un (Un.write mu he k Fg) (I.au.write mu he k Fg new)
theorem Inv.rJ{EJ:List (Addr×Obj)}(I:Inv X pins σ H s)(h:∀p∈EJ,s.heap.get? p.1=some p.2∧H p.1=none∧p.1≠X.env.locals∧p.1∉X.fs∧∀v,p.2.data≠.cell v):Inv X EJ σ H s:=
 ⟨I.ok,I.os,I.bare,I.base,I.loc,I.cell,I.free,I.eM,fun p hp=>(List.mem_append.mp hp).elim (fun z=>I.pin p (List.mem_append_left _ z)) (h p),I.au,I.len⟩
theorem oW{N:List Str}(hN:N.Nodup){i j:Nat}{x:Str}(a:N[i]? =some x)(b:N[j]? =some x):i=j:=by
 obtain⟨h1,e1⟩:=List.getElem?_eq_some_iff.mp a;obtain⟨h2,e2⟩:=List.getElem?_eq_some_iff.mp b;exact(List.getElem_inj hN).mp (e1.trans e2.symm)
theorem sU{M:Model}{A:Around}{E:Value→Shared→Prop}{i:Nat}{x:Str}{v:V}{u:Value}{Q:Unit→Shared→Prop}(I:Inv X pins σ H s)(hN:X.N.Nodup)(hi:X.N[i]? =some x)(hx:Loc X.env.scope x)(r:RelV v u)
   (h:∀s',Inv X pins (σ.set i (some v)) H s'→(∃a,Heap.SameBut a s.heap s'.heap∧(a=X.env.locals∨X.env.cells.lookup x=some a))→Q () s') (hf:X.fn x=true∨X.env.scope.names.lookup x=some .local:=by first|exact .inl rfl|exact .inr rfl|assumption):wpAny M A (storeName X.env x u) Q E s:=by
 obtain⟨m,hn,hl⟩:=id I.loc;have Ib:(X.env.scope.kind==.class||(X.env.scope.kind==.module&&X.env.locals != X.env.globals))=false:=by rw[I.ok.kind];rfl
 have Fx:i<σ.length:=by rw[I.len];exact(List.getElem?_eq_some_iff.mp hi).1
 have dZ:=I.dZ
 have tracked:∀ {a:Addr} {h':Heap},(∃o,s.heap.get? a=some o∧H a=none)→Heap.SameBut a s.heap h'→aU X.prog X.w H h':=fun {a h'} ha hs b ob e=>by
   obtain⟨_,_,EF⟩:=ha;refine(I.au b ob e).fB (fun c w' hc q=>(hs.2 c ?_).trans q) (fun _ q=>q) fun _ _ q=>q;rintro rfl;rcases hc with rfl|hc
   ·rw[EF]at e;cases e
   ·rw[EF]at hc;cases hc
 rcases hx with hk|hk
 · refine wpAny_storeName_local hk hn (fun h' Et hs=>?_) Ib
   obtain⟨oL,_,_,M3,_⟩:=id hn;refine h _ ⟨I.ok,I.os,I.bare,⟨fun b o e n hb hx=>?_,fun b o e n hb hx=>?_,I.base.free,fun b o e hx=>?_,I.base.cO,I.base.cH,I.base.cR⟩,⟨_,Et,fun j y v' e1 e2 e3=>?_⟩,fun y c e=>?_,I.free,I.eM,fun p hp=>?_,tracked ⟨oL,M3,I.free⟩ hs,by simpa using I.len⟩ ⟨_,hs,.inl rfl⟩
   ·exact(hs.2 b (Nat.ne_of_lt (Nat.lt_of_lt_of_le (Heap.lt_size e) I.ok.above))).trans (I.base.keep b o e n hb hx)
   · obtain⟨sl,e1⟩:=I.base.slot b o e n hb hx
     exact⟨sl,(hs.2 b (Nat.ne_of_lt (Nat.lt_of_lt_of_le (Heap.lt_size e) I.ok.above))).trans e1⟩
   · obtain⟨o',e1⟩:=I.base.there b o e hx
     exact⟨o',(hs.2 b (Nat.ne_of_lt (Nat.lt_of_lt_of_le (Heap.lt_size e) I.ok.above))).trans e1⟩
   · by_cases hj:j=i
     · subst hj
       rw[hi]at e1;cases e1;rw[List.getElem?_set_self Fx]at e2;cases e2;exact⟨u,r,.inl ⟨hk,by simp⟩⟩
     · rw[List.getElem?_set_ne (Ne.symm hj)]at e2
       obtain⟨u',r',q⟩:=hl j y v' e1 e2 e3;refine⟨u',r',?_⟩;rcases q with⟨k,e⟩|⟨k,c,e,z⟩
       · refine .inl ⟨k,?_⟩
         have:y≠x:=fun e=>hj (oW hN e1 (e▸hi));simp[this,e]
       ·exact .inr ⟨k,c,e,z.sameBut hs (dZ y c e)⟩
   · obtain⟨w',z⟩:=I.cell y c e
     exact⟨w',z.sameBut hs (dZ y c e)⟩
   · obtain⟨e,n,ne,nf,d⟩:=I.pin p hp
     exact⟨(hs.2 p.1 ne).trans e,n,ne,nf,d⟩
 · have Hk:X.fn x=true:=by
     rcases hf with z|z
     ·exact z
     ·rw[z]at hk;cases hk
   obtain⟨c,hc⟩:=I.ok.has x (.inl hk);obtain⟨w',z⟩:=I.cell x c hc;refine wpAny_storeName_cell I.ok.kind hk hc z (fun h' C7 hs=>?_);obtain⟨oc,Ke,G9⟩:=id z;refine h {s with heap:=h'} ⟨I.ok,I.os,I.bare,⟨fun b o e n hb hx=>?_,fun b o e n hb hx=>?_,I.base.free,fun b o e hx=>?_,I.base.cO,I.base.cH,I.base.cR⟩,⟨m,hn.sameBut hs (Ne.symm (dZ x c hc)),fun j y v' e1 e2 e3=>?_⟩,fun y c' e=>?_,I.free,I.eM,fun p hp=>?_,tracked ⟨oc,Ke,I.eM x c hc⟩ hs,by simpa using I.len⟩ ⟨c,hs,.inr hc⟩
   ·exact(hs.2 b (Nat.ne_of_lt (Nat.lt_of_lt_of_le (Heap.lt_size e) (I.ok.iI x c Hk hc)))).trans (I.base.keep b o e n hb hx)
   · obtain⟨sl,e1⟩:=I.base.slot b o e n hb hx
     exact⟨sl,(hs.2 b (Nat.ne_of_lt (Nat.lt_of_lt_of_le (Heap.lt_size e) (I.ok.iI x c Hk hc)))).trans e1⟩
   · obtain⟨o',e1⟩:=I.base.there b o e hx
     exact⟨o',(hs.2 b (Nat.ne_of_lt (Nat.lt_of_lt_of_le (Heap.lt_size e) (I.ok.iI x c Hk hc)))).trans e1⟩
   · by_cases hj:j=i
     · subst hj
       rw[hi]at e1;cases e1;rw[List.getElem?_set_self Fx]at e2;cases e2;exact⟨u,r,.inr ⟨.inl hk,c,hc,C7⟩⟩
     · rw[List.getElem?_set_ne (Ne.symm hj)]at e2
       obtain⟨u',r',q⟩:=hl j y v' e1 e2 e3;refine⟨u',r',?_⟩;rcases q with q|⟨k,c',e,z'⟩
       ·exact .inl q
       · refine .inr ⟨k,c',e,z'.sameBut hs ?_⟩
         rintro rfl;exact hj (oW hN e1 (I.ok.inj _ _ _ e hc▸hi))
   · by_cases GL:c'=c
     ·subst GL;exact⟨_,C7⟩
     · obtain⟨w2,z2⟩:=I.cell y c' e
       exact⟨w2,z2.sameBut hs GL⟩
   · obtain⟨e,n,ne,nf,d⟩:=I.pin p hp
     refine⟨(hs.2 p.1 ?_).trans e,n,ne,nf,d⟩;intro q;rw[q,Ke]at e;have q':oc=p.2:=Option.some.inj e;exact d w' (by rw[←q'];exact G9)
theorem q8{M:Model}{A:Around}{E:Value→Shared→Prop}{i:Nat}{x:Str}{v:V}{u:Value}{Q:Unit→Shared→Prop}(I:Inv X pins σ H s)(hN:X.N.Nodup)(hi:X.N[i]? =some x)(hx:Loc X.env.scope x)(r:RelV v u)
   (h:∀s',Inv X pins (σ.set i (some v)) H s'→Q () s') (hf:X.fn x=true∨X.env.scope.names.lookup x=some .local:=by first|exact .inl rfl|exact .inr rfl|assumption):wpAny M A (storeName X.env x u) Q E s:=
 sU I hN hi hx r (fun s' I' _=>h s' I') hf
theorem Inv.kQ{s':Shared}{ch:List Addr}(I:Inv X pins σ H s)(ho:s'.os=s.os)(u:Un (bQ X.stack) ch H H' s.heap s'.heap)(au:aU X.prog X.w H' s'.heap)(hg:AllBare s'.gens)
   (Ee:∀b∈ch,(b∈X.ex∨X.bE.heap.objs.size≤b)∧b≠X.env.locals∧(∀x c,X.env.cells.lookup x=some c→c≠b)∧∀p∈X.pn++pins,p.1≠b):Inv X pins σ H' s':=by
 obtain⟨h',g',d',t',o'⟩:=s';have e:o'=s.os:=ho;subst e;exact I.call (g':=g') (t':=t') (d':=d') u au hg Ee
end
abbrev XK:=Value→Option Addr→Hp→Prop
abbrev St:=List (Option V)
abbrev VK:=V→Hp→Prop
abbrev TE:=St→Hp→VK→Prop
abbrev TT:=St→Hp→(Bool→Hp→Prop)→Prop
abbrev TA:=St→Hp→(List V→Hp→Prop)→Prop
structure Ends where
 nx:St→Hp→Prop
 rt:VK
 bk:St→Hp→Prop:=fun _ _=>False
 ct:St→Hp→Prop:=fun _ _=>False
abbrev TS:=Ends→St→Hp→Prop
def EP(X:Cx)(pins:List (Addr×Obj))(σ:St)(Q:VK)(u:Value)(s':Shared):Prop:=∃v H',Inv X pins σ H' s'∧RelV v u∧Q v H'
def TP(X:Cx)(pins:List (Addr×Obj))(σ:St)(Q:Bool→Hp→Prop)(b:Bool)(s':Shared):Prop:=∃H',Inv X pins σ H' s'∧Q b H'
def AP(X:Cx)(pins:List (Addr×Obj))(σ:St)(Q:List V→Hp→Prop)(us:List Value)(s':Shared):Prop:=∃vs H',Inv X pins σ H' s'∧Vals vs us∧Q vs H'
def SP(X:Cx)(pins:List (Addr×Obj))(D:Ends)(f:Flow)(s':Shared):Prop:=
 match f with
 |.next=>∃B1 H',Inv X pins B1 H' s'∧D.nx B1 H'
 |.brk=>∃B1 H',Inv X pins B1 H' s'∧D.bk B1 H'
 |.cont=>∃B1 H',Inv X pins B1 H' s'∧D.ct B1 H'
 |.ret u=>∃v B1 H',Inv X pins B1 H' s'∧RelV v u∧D.rt v H'
def PE(X:Cx)(e:Expr)(t:TE):Prop:=
 ∀(pins:List (Addr×Obj)) (s:Shared) (σ:St) (H:Hp) (Q:VK),Inv X pins σ H s→t σ H Q→wpAny (model X.prog X.w) X.A (eval e X.env) (EP X pins σ Q) X.xe s
def PT(X:Cx)(e:Expr)(t:TT):Prop:=
 ∀(pins:List (Addr×Obj)) (s:Shared) (σ:St) (H:Hp) (Q:Bool→Hp→Prop),Inv X pins σ H s→t σ H Q→wpAny (model X.prog X.w) X.A (isTrue e X.env (eval e X.env)) (TP X pins σ Q) X.xe s
def PW(X:Cx)(e:Expr)(t:TT):Prop:=
 ∀(whole:Sem Value) (pins:List (Addr×Obj)) (s:Shared) (σ:St) (H:Hp) (Q:Bool→Hp→Prop),Inv X pins σ H s→t σ H Q→wpAny (model X.prog X.w) X.A (isTrue e X.env whole) (TP X pins σ Q) X.xe s
theorem PW.pt{X:Cx}{e:Expr}{t:TT}(h:PW X e t):PT X e t:=h _
def PA(X:Cx)(es:List Expr)(t:TA):Prop:=
 ∀(pos:Pos) (pins:List (Addr×Obj)) (s:Shared) (σ:St) (H:Hp) (Q:List V→Hp→Prop),Inv X pins σ H s→t σ H Q→wpAny (model X.prog X.w) X.A (spliced (backTo pos (starEach es X.env))) (AP X pins σ Q) X.xe s
def PS(X:Cx)(st:Stmt)(t:TS):Prop:=
 ∀(pins:List (Addr×Obj)) (s:Shared) (σ:St) (H:Hp) (D:Ends),Inv X pins σ H s→t D σ H→wpAny (model X.prog X.w) X.A (exec st X.env) (SP X pins D) X.xe s
def bu(X:Cx)(st:List Stmt)(t:TS):Prop:=
 ∀(pins:List (Addr×Obj)) (s:Shared) (σ:St) (H:Hp) (D:Ends),Inv X pins σ H s→t D σ H→wpAny (model X.prog X.w) X.A (execs st X.env) (SP X pins D) X.xe s
theorem ao{α:Type}{t:Sem α}{Q Q':α→Shared→Prop}{M:Model}{A:Around}{E:Value→Shared→Prop}{s:Shared}(h:wpAny M A t Q E s)(hQ:∀a s,Q a s→Q' a s):wpAny M A t Q' E s:=wpAny_mono h hQ fun _ _ x=>x
end L2
namespace L2
open PySem PySem.Spec PyProof.Rows
section
variable{X:Cx}
theorem bin{a b:Expr}{ta tb:TE}(ha:PE X a ta)(hb:PE X b tb){pins:List (Addr×Obj)}{s:Shared}{σ:St}{H:Hp}{R:V→V→Hp→Prop}(I:Inv X pins σ H s)(h:ta σ H fun x H1=>tb σ H1 fun y H2=>R x y H2)
   {α:Type} {Q:α→Shared→Prop} {f:Value→Value→Sem α}
   (hf:∀v u s2 x y H2,Inv X pins σ H2 s2→RelV x v→RelV y u→R x y H2→wpAny (model X.prog X.w) X.A (f v u) Q X.xe s2):
   wpAny (model X.prog X.w) X.A (eval a X.env) (fun v B2=>wpAny (model X.prog X.w) X.A (eval b X.env) (fun u CP=>wpAny (model X.prog X.w) X.A (f v u) Q X.xe CP) X.xe B2) X.xe s:=by
 refine ao (ha pins s σ H _ I h) fun v s1 ⟨x,H1,I1,r1,q1⟩=>?_;refine ao (hb pins s1 σ H1 _ I1 q1) fun u s2 ⟨y,H2,I2,r2,q2⟩=>?_;exact hf v u s2 x y H2 I2 r1 r2 q2
def oM(i:Nat):TE:=fun σ H Q=>∃v,σ[i]? =some (some v)∧Q v H
def tC(v:V):TE:=fun _ H Q=>Q v H
theorem tm{i:Nat}{x:Str}{pos:Pos}(hN:X.N[i]? =some x)(hv:cz X.env.scope x)(hd:(x==("__debug__":Str))=false:=by decide)(Cs:(x==("__classdict__":Str))=false:=by decide):PE X (.Name x pos) (oM i):=by
 intro pins s σ H Q I h;obtain⟨v,e,h⟩:=h;obtain⟨m,hn,hl⟩:=I.loc;obtain⟨u,r,l⟩:=hl i x v hN e hv;have fin:EP X pins σ Q u s:=⟨v,H,I,r,h⟩;rcases l with⟨hk,hm⟩|⟨hk,c,hc,C6⟩
 ·exact wpAny_Name (wpAny_loadName_local I.ok.kind hk hn hm fin) hd
 · rcases hk with hk|hk
   ·exact wpAny_Name (wpAny_loadName_cell I.ok.kind hk hc C6 fin) hd
   ·exact wpAny_Name (wpAny_loadName_free I.ok.kind hk hc C6 fin Cs) hd
theorem zR{i j pos}:PE X (.Constant (.int i) j pos) (tC (.int i)):=fun _ _ _ H _ I h=>wpAny_Constant_int ⟨.int i,H,I.tok _,⟨_,rfl⟩,h⟩
theorem xO{b j pos}:PE X (.Constant (.bool b) j pos) (tC (.bl b)):=fun _ _ _ H _ I h=>Constant_bool ⟨.bl b,H,I,rfl,h⟩
theorem ug{j pos}:PE X (.Constant .none j pos) (tC .aq):=fun _ _ _ H _ I h=>Constant_none ⟨.aq,H,I,rfl,h⟩
theorem yw{x j pos}:PE X (.Constant (.str x) j pos) (tC (.str x)):=fun _ _ _ H _ I h=>Calls.Constant_str ⟨.str x,H,I.tok _,⟨_,rfl⟩,h⟩
def Gl(X:Cx)(x:Str):Prop:=X.env.kindOf x=some .globalImplicit
theorem kS{E:Value→Shared→Prop}{pins:List (Addr×Obj)}{s:Shared}{σ:St}{H:Hp}{x:Str}{u:Value}{pos:Pos}{Q:Value→Shared→Prop}(I:Inv X pins σ H s)(hg:Gl X x)(hm:X.mg x=some u)(h:Q u s)
   (hd:(x==("__debug__":Str))=false:=by decide):wpAny (model X.prog X.w) X.A (eval (.Name x pos) X.env) Q E s:=
 Calls.Name_function_global I.ok.kind hg (Calls.loadGlobal_global (by rw[I.ok.glob];exact I.mod.glob.keeps I.bk) hm h) hd
theorem eN{E:Value→Shared→Prop}{pins:List (Addr×Obj)}{s:Shared}{σ:St}{H:Hp}{x:Str}{u:Value}{pos:Pos}{Q:Value→Shared→Prop}(I:Inv X pins σ H s)(hg:Gl X x)(hm:X.mg x=none)(hv:bootBuiltins x=some u)(h:Q u s)
   (hn:x≠"__name__":=by decide) (hd:(x==("__debug__":Str))=false:=by decide):wpAny (model X.prog X.w) X.A (eval (.Name x pos) X.env) Q E s:=by
 obtain⟨mb,h1,h2⟩:=I.mod.blt;exact Calls.Name_function_global I.ok.kind hg (Calls.loadGlobal_builtin (by rw[I.ok.glob];exact I.mod.glob.keeps I.bk) hm (by rw[I.ok.blt];exact h1.keeps I.bk) ((h2 x hn).trans hv) h) hd
theorem ny{x:Str}{v:V}{u:Value}{pos:Pos}(hg:Gl X x)(hm:X.mg x=some u)(r:RelV v u)(hd:(x==("__debug__":Str))=false:=by decide):PE X (.Name x pos) (tC v):=
 fun _ _ _ H _ I h=>kS I hg hm ⟨v,H,I,r,h⟩ hd
theorem vM{x:Str}{v:V}{u:Value}{pos:Pos}(hg:Gl X x)(hm:X.mg x=none)(hv:bootBuiltins x=some u)(r:RelV v u)(hn:x≠"__name__":=by decide)(hd:(x==("__debug__":Str))=false:=by decide):PE X (.Name x pos) (tC v):=
 fun _ _ _ H _ I h=>eN I hg hm hv ⟨v,H,I,r,h⟩ hn hd
variable{a b:Expr}{ta tb:TE}{pos:Pos}
def PC(X:Cx)(op:CmpOp)(a b:Expr)(t:TE):Prop:=
 ∀(pins:List (Addr×Obj)) (s:Shared) (σ:St) (H:Hp) (Q:VK),Inv X pins σ H s→t σ H Q→
   wpAny (model X.prog X.w) X.A (eval a X.env) (fun v B2=>wpAny (model X.prog X.w) X.A (eval b X.env) (fun u CP=>wpAny (model X.prog X.w) X.A (compareOp op v u) (EP X pins σ Q) X.xe CP) X.xe B2) X.xe s
theorem ub(b:Expr){op:CmpOp}(h:op≠.In)(h2:op≠.NotIn):behindInMarks op b=false:=by
 have e1:(op==CmpOp.In)=false:=by cases op<;>first|rfl|exact absurd rfl h
 have e2:(op==CmpOp.NotIn)=false:=by cases op<;>first|rfl|exact absurd rfl h2
 cases b<;>simp[behindInMarks,e1,e2]
def wN(ta:TE):TE:=fun σ H Q=>ta σ H fun x H1=>Q (.bl (decide (x=.aq))) H1
def vi(ta:TE):TE:=fun σ H Q=>ta σ H fun x H1=>Q (.bl (!decide (x=.aq))) H1
theorem RelV.pj{x:V}{v:Value}(r:RelV x v):(v==Value.none)=decide (x=.aq):=by
 cases x with
 |aq=>cases r;rfl
 |bl _=>cases r;rfl
 |int _=>obtain⟨t,rfl⟩:=r;rfl
 |str _=>obtain⟨t,rfl⟩:=r;rfl
 |gW _=>obtain⟨t,rfl⟩:=r;rfl
 |jY _=>obtain⟨t,rfl⟩:=r;rfl
 |ref _=>cases r;rfl
 |ty _=>cases r;rfl
theorem zk{j pos'}(ha:PE X a ta):PC X .Is a (.Constant .none j pos') (wN ta):=by
 intro pins s σ H Q I h;refine ao (ha pins s σ H _ I h) fun v s1 ⟨x,H1,I1,r1,q1⟩=>?_;exact Constant_none (is_none_gen ⟨.bl _,H1,I1,by rw[r1.pj];rfl,q1⟩)
theorem yX{j pos'}(ha:PE X a ta):PC X .IsNot a (.Constant .none j pos') (vi ta):=by
 intro pins s σ H Q I h;refine ao (ha pins s σ H _ I h) fun v s1 ⟨x,H1,I1,r1,q1⟩=>?_;exact Constant_none (isnot_none_gen ⟨.bl _,H1,I1,by rw[r1.pj];rfl,q1⟩)
def tB(t:TE):TT:=fun σ H Q=>t σ H fun x H1=>∃c,x=.bl c∧Q c H1
theorem o7{op:CmpOp}{t:TE}(h:PC X op a b t)(h1:behindInMarks op b=false:=by first|exact ub _ (by decide) (by decide)|rfl):PT X (.Compare a [op] [b] pos) (tB t):=by
 intro pins s σ H Q I hw;refine wpAny_isTrue_Compare1 (ao (h pins s σ H _ I hw) fun v s1 h1=>ao h1 fun u s2 h2=>ao h2 fun c s3 ⟨x,H1,I1,r1,q1⟩=>?_) h1;obtain⟨d,rfl,q⟩:=q1;cases r1;exact wpAny_truthy_bool ⟨H1,I1,q⟩
variable{tA GI:TT}{rest:List Expr}
def cK(t u:TT):TT:=fun σ H Q=>t σ H fun c H1=>if c=true then u σ H1 Q else Q false H1
def b4(t u:TT):TT:=fun σ H Q=>t σ H fun c H1=>if c=true then Q true H1 else u σ H1 Q
def cf(t:TT):TT:=fun σ H Q=>t σ H fun c H1=>Q (!c) H1
theorem xa(ha:PT X a tA):PW X (.BoolOp .And [a] pos) tA:=by
 intro wh pins s σ H Q I h;refine isTrue_and (ao (ha pins s σ H Q I h) fun c s1 e=>?_);cases c with
 |true=>exact isTrue_and_nil e
 |false=>exact e
theorem Ad(ha:PT X a tA):PW X (.BoolOp .Or [a] pos) tA:=by
 intro wh pins s σ H Q I h;refine isTrue_or (ao (ha pins s σ H Q I h) fun c s1 e=>?_);cases c with
 |false=>exact isTrue_or_nil e
 |true=>exact e
theorem vL(ha:PT X a tA)(hb:PW X (.BoolOp .And (b::rest) pos) GI):PW X (.BoolOp .And (a::b::rest) pos) (cK tA GI):=by
 intro wh pins s σ H Q I h;refine isTrue_and (ao (ha pins s σ H _ I h) fun c s1 ⟨H1,I1,q1⟩=>?_);cases c with
 |true=>exact hb wh pins s1 σ H1 Q I1 q1
 |false=>exact⟨H1,I1,q1⟩
theorem tf(ha:PT X a tA)(hb:PW X (.BoolOp .Or (b::rest) pos) GI):PW X (.BoolOp .Or (a::b::rest) pos) (b4 tA GI):=by
 intro wh pins s σ H Q I h;refine isTrue_or (ao (ha pins s σ H _ I h) fun c s1 ⟨H1,I1,q1⟩=>?_);cases c with
 |true=>exact⟨H1,I1,q1⟩
 |false=>exact hb wh pins s1 σ H1 Q I1 q1
theorem AO(ha:PT X a tA):PT X (.UnaryOp .Not a pos) (cf tA):=by
 intro pins s σ H Q I h;exact isTrue_not (ha pins s σ H (fun c H1=>Q (!c) H1) I h)
def u5(ta tb:TE):TE:=fun σ H Q=>ta σ H fun x H1=>∃c,x=.bl c∧if c=true then tb σ H1 Q else Q (.bl false) H1
def uf(ta:TE):TE:=fun σ H Q=>ta σ H fun x H1=>∃c,x=.bl c∧Q (.bl (!c)) H1
theorem v7{op}{t:TE}(h:PE X a t):PE X (.BoolOp op [a] pos) t:=fun pins s σ H Q I hw=>BoolOp_one (h pins s σ H Q I hw)
theorem Ap(ha:PE X a ta)(hb:PE X (.BoolOp .And (b::rest) pos) tb):PE X (.BoolOp .And (a::b::rest) pos) (u5 ta tb):=by
 intro pins s σ H Q I h;refine BoolOp_and (ao (ha pins s σ H _ I h) fun v s1 ⟨x,H1,I1,r1,q1⟩=>?_);obtain⟨c,rfl,q1⟩:=q1;cases r1;refine wpAny_truthy_bool ?_;cases c with
 |true=>exact hb pins s1 σ H1 Q I1 q1
 |false=>exact⟨.bl false,H1,I1,rfl,q1⟩
theorem AS(ha:PE X a ta):PE X (.UnaryOp .Not a pos) (uf ta):=by
 intro pins s σ H Q I h;refine UnaryOp_ (ao (ha pins s σ H _ I h) fun v s1 ⟨x,H1,I1,r1,q1⟩=>?_);obtain⟨c,rfl,q1⟩:=q1;cases r1;exact not_of (wpAny_truthy_bool ⟨.bl (!c),H1,I1,rfl,q1⟩)
def uG(t:TT)(ta tb:TE):TE:=fun σ H Q=>t σ H fun c H1=>if c=true then ta σ H1 Q else tb σ H1 Q
theorem z9{c:Expr}(hc:PT X c tA)(ha:PE X a ta)(hb:PE X b tb):PE X (.IfExp c a b pos) (uG tA ta tb):=by
 intro pins s σ H Q I h;refine wpAny_IfExp (ao (hc pins s σ H _ I h) fun d s1 ⟨H1,I1,q1⟩=>?_);cases d with
 |true=>exact ha pins s1 σ H1 Q I1 q1
 |false=>exact hb pins s1 σ H1 Q I1 q1
end
end L2
namespace L2
open PySem PySem.Spec PyProof.Rows
def aO(K:PySem.W.Frag)(H:Hp)(a:Addr)(xs:List V):Prop:=
 Rd H a (.lst xs)∨
   ∃(o:Obj) (y':Array Value) (n:Nat),K.lookup a=some o∧o.cls=.type "list"∧o.dict=none∧o.data=.seq y' n∧y'.size≤sizeLine∧Vals xs y'.toList
def aT(K:PySem.W.Frag)(H:Hp)(a:Addr)(xs:List V):Prop:=
 Rd H a (.tup xs)∨
   ∃(o:Obj) (y':Array Value) (n:Nat),K.lookup a=some o∧o.cls=.type "tuple"∧o.data=.seq y' n∧y'.size≤sizeLine∧Vals xs y'.toList
noncomputable def sk:Value→Option V
 |.none=>some .aq
 |.bool b=>some (.bl b)
 |.int i _=>some (.int i)
 |.str x _=>some (.str x)
 |.bytes b _=>some (.gW b)
 |.float b _=>some (.jY b)
 |.ref a=>some (.ref a)
 |.type n=>some (.ty n)
 |_=>none
theorem RelV.abs{x:V}{u:Value}(r:RelV x u):sk u=some x:=by
 cases x with
 |aq=>cases r;rfl
 |bl _=>cases r;rfl
 |int _=>obtain⟨t,rfl⟩:=r;rfl
 |str _=>obtain⟨t,rfl⟩:=r;rfl
 |gW _=>obtain⟨t,rfl⟩:=r;rfl
 |jY _=>obtain⟨t,rfl⟩:=r;rfl
 |ref _=>cases r;rfl
 |ty _=>cases r;rfl
theorem RelV.inj{x y:V}{u:Value}(r:RelV x u)(q:RelV y u):x=y:=Option.some.inj (r.abs.symm.trans q.abs)
theorem Vals.inj:∀ {xs ys:List V} {us:List Value},Vals xs us→Vals ys us→xs=ys
 |_,_,_,.nil,.nil=>rfl
 |_,_,_,.cons r t,.cons r' t'=>by rw[r.inj r',Vals.inj t t']
section
variable{X:Cx}{pins:List (Addr×Obj)}{σ:St}{H:Hp}{s:Shared}{a:Addr}{xs ys:List V}
theorem aO.of{K:PySem.W.Frag}(h:H a=some (.lst xs)):aO K H a xs:=.inl (.inl h)
theorem aT.of{K:PySem.W.Frag}(h:H a=some (.tup xs)):aT K H a xs:=.inl (.inl h)
theorem Inv.list(I:Inv X pins σ H s)(h:aO X.K H a xs):∃y':List Value,Vals xs y'∧PlainL s.heap a y'.toArray∧xs.length≤sizeLine:=by
 rcases h with h|⟨o,y',n,hk,hc,hd,hs,hz,r⟩
 · obtain⟨z,y',n,r,e⟩:=h.ok I.au
   exact⟨y',r,⟨_,n,e,rfl,rfl,rfl⟩,z⟩
 · refine⟨y'.toList,r,⟨o,n,I.bS a o hk,hc,hd,by simpa using hs⟩,?_⟩
   have e:=r.length;simp only[Array.length_toList]at e;omega
theorem Inv.tuple(I:Inv X pins σ H s)(h:aT X.K H a xs):∃y':List Value,Vals xs y'∧IsTup s.heap a y'.toArray∧xs.length≤sizeLine:=by
 rcases h with h|⟨o,y',n,hk,hc,hs,hz,r⟩
 · obtain⟨z,y',r,p⟩:=h.ok I.au
   exact⟨y',r,p,z⟩
 · refine⟨y'.toList,r,⟨o,I.bS a o hk,hc,n,by simpa using hs⟩,?_⟩
   have e:=r.length;simp only[Array.length_toList]at e;omega
theorem Inv.nY(I:Inv X pins σ H s)(h:aO X.K H a xs)(h':aO X.K H a ys):xs=ys:=by
 obtain⟨y',r,⟨o,n,e,_,_,d⟩,_⟩:=I.list h;obtain⟨its',r',⟨o',n',e',_,_,d'⟩,_⟩:=I.list h';rw[e]at e';cases e';rw[d]at d';injection d' with d1 _;have:y'=its':=by simpa using congrArg Array.toList d1
 subst this;exact r.inj r'
theorem Inv.ph(I:Inv X pins σ H s)(h:aT X.K H a xs)(h':aT X.K H a ys):xs=ys:=by
 obtain⟨y',r,⟨o,e,_,n,d⟩,_⟩:=I.tuple h;obtain⟨its',r',⟨o',e',_,n',d'⟩,_⟩:=I.tuple h';rw[e]at e';cases e';rw[d]at d';injection d' with d1 _;have:y'=its':=by simpa using congrArg Array.toList d1
 subst this;exact r.inj r'
end
abbrev Cx.dm(X:Cx)(E:Value→Shared→Prop):Cx:={X with xe:=E}
abbrev Cx.eJ(X:Cx):Cx:=X.dm fun _ _=>False
theorem Cx.Ok.dm{X:Cx}(ok:X.Ok)(E:Value→Shared→Prop):(X.dm E).Ok:=
 ⟨ok.mod,ok.kind,ok.glob,ok.blt,ok.above,ok.inj,ok.has,ok.iI,ok.hd,ok.frames,ok.jv,ok.rP,ok.bs,ok.fA,ok.iZ,ok.jH,ok.dw,ok.gk⟩
theorem Cx.Ok.d4{X:Cx}{E:Value→Shared→Prop}(ok:(X.dm E).Ok):X.Ok:=
 ⟨ok.mod,ok.kind,ok.glob,ok.blt,ok.above,ok.inj,ok.has,ok.iI,ok.hd,ok.frames,ok.jv,ok.rP,ok.bs,ok.fA,ok.iZ,ok.jH,ok.dw,ok.gk⟩
section
variable{X:Cx}{pins:List (Addr×Obj)}{σ:St}{H:Hp}{s:Shared}{E:Value→Shared→Prop}
theorem Inv.dm(I:Inv X pins σ H s)(E:Value→Shared→Prop):Inv (X.dm E) pins σ H s:=⟨I.ok.dm E,I.os,I.bare,I.base,I.loc,I.cell,I.free,I.eM,I.pin,I.au,I.len⟩
theorem Inv.d4(I:Inv (X.dm E) pins σ H s):Inv X pins σ H s:=⟨I.ok.d4,I.os,I.bare,I.base,I.loc,I.cell,I.free,I.eM,I.pin,I.au,I.len⟩
theorem SP.d4{D:Ends}{f:Flow}{s':Shared}(h:SP (X.dm E) pins D f s'):SP X pins D f s':=by
 cases f with
 |next=>obtain⟨B1,H',I,q⟩:=h;exact⟨B1,H',I.d4,q⟩
 |brk=>obtain⟨B1,H',I,q⟩:=h;exact⟨B1,H',I.d4,q⟩
 |cont=>obtain⟨B1,H',I,q⟩:=h;exact⟨B1,H',I.d4,q⟩
 |ret u=>obtain⟨v,B1,H',I,r,q⟩:=h;exact⟨v,B1,H',I.d4,r,q⟩
theorem PE.eJ{e:Expr}{t:TE}(h:PE X.eJ e t):PE X e t:=fun pins s σ H Q I hw=>
 wpAny_mono (h pins s σ H Q (I.dm _) hw) (fun _ _ ⟨v,H',I',r,q⟩=>⟨v,H',I'.d4,r,q⟩) fun _ _ z=>False.elim z
theorem PT.eJ{e:Expr}{t:TT}(h:PT X.eJ e t):PT X e t:=fun pins s σ H Q I hw=>
 wpAny_mono (h pins s σ H Q (I.dm _) hw) (fun _ _ ⟨H',I',q⟩=>⟨H',I'.d4,q⟩) fun _ _ z=>False.elim z
theorem bu.eJ{st:List Stmt}{t:TS}(h:bu X.eJ st t):bu X st t:=fun pins s σ H D I hw=>
 wpAny_mono (h pins s σ H D (I.dm _) hw) (fun _ _ q=>q.d4) fun _ _ z=>False.elim z
end
section
variable{X:Cx}{st:Stmt}{rest:List Stmt}{t u:TS}{e:Expr}{te:TE}{pos:Pos}
def wH:TS:=fun D σ H=>D.nx σ H
def qf(t u:TS):TS:=fun D σ H=>t {D with nx:=u D} σ H
theorem rT:bu X [] wH:=fun _ _ σ H _ I h=>wpAny_execs_nil ⟨σ,H,I,h⟩
theorem tK(h1:PS X st t)(h2:bu X rest u):bu X (st::rest) (qf t u):=by
 intro pins s σ H D I h;refine wpAny_execs_cons (ao (h1 pins s σ H {D with nx:=u D} I h) fun f s1 q=>?_);cases f with
 | next=>
   obtain⟨B1,H',I',q⟩:=q;exact h2 pins s1 B1 H' D I' q
 |ret v=>exact q
 |brk=>exact q
 |cont=>exact q
theorem sI(h1:PS X st t):bu X [st] t:=by
 intro pins s σ H D I h;refine wpAny_execs_cons (ao (h1 pins s σ H D I h) fun f s1 q=>?_);cases f with
 |next=>exact wpAny_execs_nil q
 |ret v=>exact q
 |brk=>exact q
 |cont=>exact q
theorem Inv.quiet{pins:List (Addr×Obj)}{σ:St}{H:Hp}{s:Shared}(I:Inv X pins σ H s):interactive X.env=false:=by simp[interactive,I.ok.kind]
def zf(te:TE):TS:=fun D σ H=>te σ H fun _ H1=>D.nx σ H1
theorem y9(he:PE X e te)(hs:swapsWith e none pos.line X.env=pure false:=by rfl):PS X (.Expr e pos) (zf te):=by
 intro pins s σ H D I h;exact wpAny_Expr_any (ao (he pins s σ H _ I h) fun v s1 ⟨x,H1,I1,r1,q1⟩=>⟨σ,H1,I1,q1⟩) I.quiet hs
def zd(te:TE):TS:=fun D σ H=>te σ H D.rt
theorem zE(he:PE X e te):PS X (.Return (some e) pos) (zd te):=by
 intro pins s σ H D I h;exact wpAny_Return_some (ao (he pins s σ H _ I h) fun v s1 ⟨x,H1,I1,r1,q1⟩=>⟨x,σ,H1,I1,r1,q1⟩)
def AM(c:TT)(t u:TS):TS:=fun D σ H=>c σ H fun b H1=>if b=true then t D σ H1 else u D σ H1
theorem ya{c:Expr}{a b:List Stmt}{tc:TT}(hc:PT X c tc)(ha:bu X a t)(hb:bu X b u):PS X (.If c a b pos) (AM tc t u):=by
 intro pins s σ H D I h;refine wpAny_If (ao (hc pins s σ H _ I h) fun d s1 ⟨H1,I1,q1⟩=>?_);cases d with
 |true=>exact ha pins s1 σ H1 D I1 q1
 |false=>exact hb pins s1 σ H1 D I1 q1
def w5:TS:=fun _ _ _=>False
theorem w8:PS X st w5:=fun _ _ _ _ _ _ h=>h.elim
end
abbrev TG:=V→St→Hp→(St→Hp→Prop)→Prop
abbrev d6:=List V→St→Hp→(St→Hp→Prop)→Prop
def PG(X:Cx)(target:Expr)(t:TG):Prop:=
 ∀(pins:List (Addr×Obj)) (s:Shared) (σ:St) (H:Hp) (v:V) (u:Value) (Q:St→Hp→Prop),Inv X pins σ H s→RelV v u→t v σ H Q→
   wpAny (model X.prog X.w) X.A (assign target X.env u) (fun _ s'=>∃B1 H',Inv X pins B1 H' s'∧Q B1 H') X.xe s
def b5(X:Cx)(ts:List Expr)(t:d6):Prop:=
 ∀(pins:List (Addr×Obj)) (s:Shared) (σ:St) (H:Hp) (vs:List V) (us:List Value) (Q:St→Hp→Prop),Inv X pins σ H s→Vals vs us→t vs σ H Q→
   wpAny (model X.prog X.w) X.A (assignInOrder ((assignEach ts X.env).map (·.2)) us) (fun _ s'=>∃B1 H',Inv X pins B1 H' s'∧Q B1 H') X.xe s
section
variable{X:Cx}{pos:Pos}
def aC(i:Nat):TG:=fun v σ H Q=>Q (σ.set i (some v)) H
theorem tF{i:Nat}{x:Str}(hN:X.N.Nodup)(hi:X.N[i]? =some x)(hx:Loc X.env.scope x)(hf:X.fn x=true∨X.env.scope.names.lookup x=some .local:=by first|exact .inl rfl|exact .inr rfl|assumption):PG X (.Name x pos) (aC i):=by
 intro pins s σ H v u Q I r h;exact wpAny_assign_Name (q8 I hN hi hx r (fun s' I'=>⟨_,H,I',h⟩) hf)
def yA:d6:=fun vs σ H Q=>vs=[]∧Q σ H
def ql(t:TG)(u:d6):d6:=fun vs σ H Q=>∃v r,vs=v::r∧t v σ H fun B1 H'=>u r B1 H' Q
theorem xQ:b5 X [] yA:=by
 intro pins s σ H vs us Q I r h;obtain⟨e,h⟩:=h;subst e;cases r;exact assignInOrder_nil ⟨σ,H,I,h⟩
theorem y3{e:Expr}{es:List Expr}{t:TG}{u:d6}(h1:PG X e t)(h2:b5 X es u)
   (hs:(assignEach (e::es) X.env).map (·.2)=assign e X.env::(assignEach es X.env).map (·.2):=by rfl):b5 X (e::es) (ql t u):=by
 intro pins s σ H vs us Q I r h;obtain⟨v,vr,e1,h⟩:=h;subst e1;cases r with
 | cons r rr=>
   rw[hs];refine assignInOrder_cons (ao (h1 pins s σ H _ _ _ I r h) fun _ s1 ⟨GB,H1,I1,q1⟩=>?_);exact h2 pins s1 GB H1 _ _ Q I1 rr q1
def dn(K:PySem.W.Frag)(n:Nat)(t:d6):TG:=fun v σ H Q=>∃a xs,v=.ref a∧aT K H a xs∧xs.length=n∧t xs σ H Q
theorem Ax{es:List Expr}{k:Nat}{t:d6}{n:Nat}(hc:X.calm=true)(h:b5 X es t)
   (hn:(assignEach es X.env).length=n:=by rfl) (D5:(assignEach es X.env).findIdx? (·.1)=none:=by rfl):PG X (.Tuple es k pos) (dn X.K n t):=by
 intro pins s σ H v u Q I r hw;obtain⟨a,xs,e1,hq,hl,hw⟩:=hw;subst e1;cases r;obtain⟨y',rv,ht,hz⟩:=I.tuple hq;refine assign_Tuple_tuple (I.ok.hd hc) ht (by simp[hn, ←hl,rv.length]) D5 fun h' hx=>?_
 have I1:Inv X pins σ H {s with heap:=h'}:=I.kept (t':=s.toks) fun b o e=>hx b o (Nat.ne_of_lt (Heap.lt_size e)) e;exact h pins _ σ H xs _ Q I1 (by simpa using rv) hw
def qj(te:TE)(g:TG):TS:=fun D σ H=>te σ H fun x H1=>g x σ H1 D.nx
theorem zg{tg e:Expr}{te:TE}{g:TG}(he:PE X e te)(hg:PG X tg g)(hs:swapsWithSole [tg] e pos.line X.env=pure false:=by rfl)(hw:swappedStores [tg] e X.env=pure none:=by rfl)
   (h1:(assignEach [tg] X.env).map (·.2)=[assign tg X.env]:=by rfl):PS X (.Assign [tg] e pos) (qj te g):=by
 intro pins s σ H D I h;refine wpAny_Assign_stores (ao (he pins s σ H _ I h) fun v s1 ⟨x,H1,I1,r1,q1⟩=>?_) hs hw;rw[h1];exact ao (hg pins s1 σ H1 x v _ I1 r1 q1) fun _ s2 q=>q
theorem oB{i:Nat}{x:Str}{e:Expr}{te:TE}{pos':Pos}(hN:X.N.Nodup)(hi:X.N[i]? =some x)(hx:Loc X.env.scope x)(he:PE X e te)(hs:swapsWith e (some (.Name x pos')) pos.line X.env=pure false:=by rfl)(hf:X.fn x=true∨X.env.scope.names.lookup x=some .local:=by first|exact .inl rfl|exact .inr rfl|assumption):
   PS X (.Assign [.Name x pos'] e pos) (qj te (aC i)):=by
 intro pins s σ H D I h;refine wpAny_Assign_Name (ao (he pins s σ H _ I h) fun v s1 ⟨y,H1,I1,r1,q1⟩=>?_) hs;exact q8 I1 hN hi hx r1 (fun s2 I2=>⟨_,H1,I2,q1⟩) hf
end
section
variable{X:Cx}{pos:Pos}
end
structure It where
 go:Nat→Hp→Prop
 ip:Nat→Hp→V→Hp→Prop
 stop:Nat→Hp→Prop
def bM(X:Cx)(pins:List (Addr×Obj))(H:Hp)(b:Addr):Prop:=
 H b=none∧b≠X.env.locals∧b∉X.fs∧(b∈X.ex∨X.bE.heap.objs.size≤b)∧(∀x c,X.env.cells.lookup x=some c→c≠b)∧∀p∈X.pn++pins,p.1≠b
theorem Inv.iB{X:Cx}{pins:List (Addr×Obj)}{σ:St}{H H':Hp}{s:Shared}{b:Addr}(I:Inv X pins σ H s)(hb:s.heap.objs.size≤b)(hn:H' b=none):bM X pins H' b:=by
 refine⟨hn,Nat.ne_of_gt (Nat.lt_of_lt_of_le I.lt hb),I.tG hb,.inr (Nat.le_trans I.sz hb),fun x c e z=>?_,fun p hp z=>?_⟩
 · obtain⟨v,q⟩:=I.cell x c e
   exact absurd (Nat.lt_of_lt_of_le q.lt (by rw[z];exact hb)) (Nat.lt_irrefl _)
 ·exact absurd (Nat.lt_of_lt_of_le (Heap.lt_size (I.pin p hp).1) (by rw[z];exact hb)) (Nat.lt_irrefl _)
structure Turn(P:Program)(w:World)(K:PySem.W.Frag)(tg:Expr)(J:It)(fp:List Addr)(it:Addr)(tn:Nat→Heap→Prop):Prop where
 mem:it∈fp
 obj:∀i h,tn i h→∀b∈fp,∃o,h.get? b=some o∧∀v,o.data≠.cell v
 keep:∀i h h',tn i h→(∀b∈fp,∀o,h.get? b=some o→h'.get? b=some o)→tn i h'
 item:∀(X:Cx),X.prog=P→X.w=w→X.K=K→X.calm=true→∀(i:Nat) (pins:List (Addr×Obj)) (s:Shared) (σ:St) (H:Hp) (E:Value→Shared→Prop),Inv X pins σ H s→(∀b∈fp,bM X pins H b)→tn i s.heap→J.go i H→
   wpAny (model P w) X.A (pyNext (.ref it)) (fun r s1=>∃u,r=some u∧
     wpAny (model P w) X.A (letOwnedTupleGo tg (.ref it) u) (fun _ s2=>∃x H',Inv X pins σ H' s2∧RelV x u∧J.ip i H x H'∧tn (i+1) s2.heap∧∀b∈fp,H' b=none) E s1) E s
 done:∀(X:Cx),X.prog=P→X.w=w→X.K=K→X.calm=true→∀(i:Nat) (pins:List (Addr×Obj)) (s:Shared) (σ:St) (H:Hp) (E:Value→Shared→Prop),Inv X pins σ H s→(∀b∈fp,bM X pins H b)→tn i s.heap→J.stop i H→
   wpAny (model P w) X.A (pyNext (.ref it)) (fun r s1=>r=none∧Inv X pins σ H s1) E s
 self:∀(A:Around) (i:Nat) (s:Shared) (Q:Value→Shared→Prop) (E:Value→Shared→Prop),tn i s.heap→Q (.ref it) s→wpAny (model P w) A (pyIter (.ref it)) Q E s
abbrev TI:=St→Hp→(It→Hp→Prop)→Prop
def lz(X:Cx)(pins:List (Addr×Obj))(σ:St)(tg:Expr)(R:It→Hp→Prop)(IV:Value)(s2:Shared):Prop:=
 ∃(it:Addr) (fp:List Addr) (tn:Nat→Heap→Prop) (J:It) (H':Hp),IV=.ref it∧Inv X pins σ H' s2∧Turn X.prog X.w X.K tg J fp it tn∧tn 0 s2.heap∧(∀b∈fp,bM X pins H' b)∧R J H'
def PI(X:Cx)(tg iter:Expr)(wi:TI):Prop:=
 ∀(pins:List (Addr×Obj)) (s:Shared) (σ:St) (H:Hp) (R:It→Hp→Prop),Inv X pins σ H s→wi σ H R→
   wpAny (model X.prog X.w) X.A (eval iter X.env) (fun v s1=>wpAny (model X.prog X.w) X.A (pyIter v) (lz X pins σ tg R) X.xe s1) X.xe s
theorem iY{M:Model}{A:Around}{E:Value→Shared→Prop}{s:Shared}{tg:Expr}{it:Addr}{u:Value}{o:Obj}{n:String}{vs:Array Value}{Q:Unit→Shared→Prop}(ho:s.heap.get? it=some o)(hc:o.cls=.type n)(hd:o.data=.fields vs)
   (hn:["enumerate","zip","dict_itemiterator","dict_reverseitemiterator","odict_iterator","itertools.zip_longest","itertools.pairwise"].contains n=false) (hQ:Q () s):wpAny M A (letOwnedTupleGo tg (.ref it) u) Q E s:=by
 unfold letOwnedTupleGo
 cases tg<;>first
   |exact wpAny_pure hQ
   |(cases u<;>first
       |exact wpAny_pure hQ
       | (refine wpAny_bind (wpAny_load ho ?_)
          rw[hc,hd];show wpAny M A (if(["enumerate","zip","dict_itemiterator","dict_reverseitemiterator","odict_iterator","itertools.zip_longest","itertools.pairwise"].contains n&&vs[0]? ==some (rawInt _))=true then _ else _) Q E s
          rw[if_neg (by intro h;rw[hn,Bool.false_and]at h;cases h)]
          exact wpAny_pure hQ))
noncomputable def i7(K:PySem.W.Frag)(a:Addr):It:=
 ⟨fun i H=>∃xs x,aO K H a xs∧xs[i]? =some x,fun i H x H'=>H'=H∧∀xs,aO K H a xs→xs[i]? =some x,fun i H=>∃xs,aO K H a xs∧xs.length≤i⟩
noncomputable def iW(K:PySem.W.Frag)(a:Addr):It:=
 ⟨fun i H=>∃xs x,aT K H a xs∧xs[i]? =some x,fun i H x H'=>H'=H∧∀xs,aT K H a xs→xs[i]? =some x,fun i H=>∃xs,aT K H a xs∧xs.length≤i⟩
def bg(lo:Int)(n:Nat):It:=⟨fun i _=>i<n,fun i H x H'=>H'=H∧x=.int (lo+i),fun i _=>n≤i⟩
theorem tN{P:Program}{w:World}{K:PySem.W.Frag}{tg:Expr}(a it:Addr):Turn P w K tg (i7 K a) [it] it (fun i h=>h.IsListIter it a i) where
 mem:=by simp
 obj:=fun i h st b hb=>by
   have e:b=it:=by simpa using hb
   subst e;obtain⟨o,e,c,d⟩:=st;exact⟨o,e,fun v z=>by rw[d]at z;cases z⟩
 keep:=fun i h h' st k=>st.at fun o e=>k it (by simp) o e
 item:=by
   intro X hP hw hK hc i pins s σ H E I hf st hg;subst hP hw hK;obtain⟨xs,x,hq,hx⟩:=hg;obtain⟨y',rv,p,hz⟩:=I.list hq;obtain⟨u,hu,ru⟩:=rv.get hx;obtain⟨f0,f1,f2,f3,f4,f5⟩:=hf it (by simp)
   refine wpAny_pyNext_list_item st p.isList (x:=u) (by simpa using hu) fun h' C2 sb=>?_
   have I1:Inv X pins σ H {s with heap:=h'}:=I.turned (t':=s.toks) (fun b o hb e=>(sb.2 b hb).trans e) f0 f1 f3 f4 f5;obtain⟨o,e,c,d⟩:=id C2;exact⟨u,rfl,iY (s:={s with heap:=h'}) e c d (by decide) ⟨x,H,I1,ru,⟨rfl,fun ys hy=>by rw[I.nY hy hq];exact hx⟩,C2,fun b hb=>(hf b hb).1⟩⟩
 done:=by
   intro X hP hw hK hc i pins s σ H E I hf st hg;subst hP hw hK;obtain⟨xs,hq,hx⟩:=hg;obtain⟨y',rv,p,hz⟩:=I.list hq;obtain⟨f0,f1,f2,f3,f4,f5⟩:=hf it (by simp)
   have hl:=rv.length;exact wpAny_pyNext_list_end (I.ok.hd hc) st p.isList (by simp;omega) fun h' eb=>⟨rfl,I.turned (t':=s.toks) (fun b o hb e=>eb b o hb e) f0 f1 f3 f4 f5⟩
 self:=fun _ _ _ _ _ st h=>wpAny_pyIter_listiter st h
theorem u7{P:Program}{w:World}{K:PySem.W.Frag}{tg:Expr}(a it:Addr):Turn P w K tg (iW K a) [it] it (fun i h=>h.IsTupleIter it a i) where
 mem:=by simp
 obj:=fun i h st b hb=>by
   have e:b=it:=by simpa using hb
   subst e;obtain⟨o,e,c,d⟩:=st;exact⟨o,e,fun v z=>by rw[d]at z;cases z⟩
 keep:=fun i h h' st k=>st.at fun o e=>k it (by simp) o e
 item:=by
   intro X hP hw hK hc i pins s σ H E I hf st hg;subst hP hw hK;obtain⟨xs,x,hq,hx⟩:=hg;obtain⟨y',rv,p,hz⟩:=I.tuple hq;obtain⟨u,hu,ru⟩:=rv.get hx;obtain⟨f0,f1,f2,f3,f4,f5⟩:=hf it (by simp)
   refine wpAny_pyNext_tuple_item st (show s.heap.IsTuple a y'.toArray from p) (x:=u) (by simpa using hu) fun h' C2 sb=>?_
   have I1:Inv X pins σ H {s with heap:=h'}:=I.turned (t':=s.toks) (fun b o hb e=>(sb.2 b hb).trans e) f0 f1 f3 f4 f5;obtain⟨o,e,c,d⟩:=id C2;exact⟨u,rfl,iY (s:={s with heap:=h'}) e c d (by decide) ⟨x,H,I1,ru,⟨rfl,fun ys hy=>by rw[I.ph hy hq];exact hx⟩,C2,fun b hb=>(hf b hb).1⟩⟩
 done:=by
   intro X hP hw hK hc i pins s σ H E I hf st hg;subst hP hw hK;obtain⟨xs,hq,hx⟩:=hg;obtain⟨y',rv,p,hz⟩:=I.tuple hq;obtain⟨f0,f1,f2,f3,f4,f5⟩:=hf it (by simp)
   have hl:=rv.length;exact wpAny_pyNext_tuple_end (I.ok.hd hc) st (show s.heap.IsTuple a y'.toArray from p) (by simp;omega) fun h' eb=>⟨rfl,I.turned (t':=s.toks) (fun b o hb e=>eb b o hb e) f0 f1 f3 f4 f5⟩
 self:=fun _ _ _ _ _ st h=>wpAny_pyIter_tupleiter st h
theorem tR{P:Program}{w:World}{K:PySem.W.Frag}{tg:Expr}(it:Addr)(lo:Int)(n:Nat):Turn P w K tg (bg lo n) [it] it (fun i h=>IsRangeIter h it (lo+(i:Nat)*1) ((n:Int) - (i:Nat)) 1) where
 mem:=by simp
 obj:=fun i h st b hb=>by
   have e:b=it:=by simpa using hb
   subst e
   exact⟨_,st,fun v z=>by
     have z':Data.fields _=Data.cell v:=z;cases z'⟩
 keep:=fun i h h' st k=>k it (by simp) _ st
 item:=by
   intro X hP hw hK hc i pins s σ H E I hf st hg;subst hP hw hK;obtain⟨f0,f1,f2,f3,f4,f5⟩:=hf it (by simp)
   have W:=Walks.range (prog:=X.prog) (w:=X.w) (I.ok.hd hc) it lo 1 n;refine W.item i s _ _ hg st fun v h' tk hv C2 kk=>?_;obtain⟨t,rfl⟩:=hv;have I1:Inv X pins σ H {s with heap:=h',toks:=tk}:=I.turned (fun b o hb e=>kk b o (by simpa using hb) e) f0 f1 f3 f4 f5
   refine⟨_,rfl,iY (s:={s with heap:=h',toks:=tk}) (n:="range_iterator") C2 rfl rfl (by decide) ⟨.int (lo+i),H,I1,⟨t,?_⟩,⟨rfl,rfl⟩,C2,fun b hb=>(hf b hb).1⟩⟩
   rw[Int.mul_one]
 done:=by
   intro X hP hw hK hc i pins s σ H E I hf st hg;subst hP hw hK;obtain⟨f0,f1,f2,f3,f4,f5⟩:=hf it (by simp)
   exact wpAny_pyNext_range_end (I.ok.hd hc) st (by have:n≤i:=hg;omega) fun h' eb=>⟨rfl,I.turned (t':=s.toks) (fun b o hb e=>eb b o hb e) f0 f1 f3 f4 f5⟩
 self:=fun _ _ _ _ _ st h=>wpAny_pyIter_rangeiter st h
end L2
namespace L2
open PySem PySem.Spec PyProof.Rows
section
variable{X:Cx}{tg:Expr}
theorem nQ{pins:List (Addr×Obj)}{σ:St}{H:Hp}{s:Shared}{R:It→Hp→Prop}{E:Value→Shared→Prop}{lo hi:Int}{t u v:Tok}{tk:Nat}(I:Inv X pins σ H s)(h1: -(2 ^ 62)≤lo)(h2:lo<2 ^ 62)(h3: -(2 ^ 62)≤hi)(h4:hi<2 ^ 62)
   (q:R (bg lo (hi - lo).toNat) H):wpAny (model X.prog X.w) X.A (pyIter (.ref s.heap.objs.size)) (lz X pins σ tg R) E {s with heap:=s.heap.push {cls:=.type "range",data:=.fields #[.int lo t,.int hi u,.int 1 v]},toks:=tk}:=by
 refine wpAny_pyIter_range (IsRange.new ..) (small_one h1 h2 h3 h4) ?_;have I1:Inv X pins σ H {s with heap:=s.heap.push {cls:=.type "range",data:=.fields #[.int lo t,.int hi u,.int 1 v]},toks:=tk}:=I.kept fun b o e=>Heap.get?_push_of_some _ e
 refine⟨(s.heap.push {cls:=.type "range",data:=.fields #[.int lo t,.int hi u,.int 1 v]}).objs.size,[(s.heap.push {cls:=.type "range",data:=.fields #[.int lo t,.int hi u,.int 1 v]}).objs.size],_,_,H,rfl,
   I1.kept (t':=tk) fun b o e=>Heap.get?_push_of_some _ e,tR _ lo (hi - lo).toNat,?_,fun b hb=>?_,q⟩
 · have e1:lo+((0:Nat):Int)*1=lo:=by simp
   have e2:(((hi - lo).toNat:Nat):Int) - ((0:Nat):Int)=Builtin.Range.rangeSize lo hi 1:=by rw[rangeSize_one];split<;>omega
   show IsRangeIter _ _ (lo+((0:Nat):Int)*1) ((((hi - lo).toNat:Nat):Int) - ((0:Nat):Int)) 1;rw[e1,e2];exact Heap.get?_push_size _ rfl
 · have e:b=(s.heap.push {cls:=.type "range",data:=.fields #[.int lo t,.int hi u,.int 1 v]}).objs.size:=by simpa using hb
   subst e;exact I1.iB (Nat.le_refl _) (I1.au.fresh (Nat.le_refl _))
def eW(ta:TA):TI:=fun σ H R=>ta σ H fun vs H1=>∃j:Int,vs=[.int j]∧ -(2 ^ 62)≤j∧j<2 ^ 62∧R (bg 0 j.toNat) H1
def gh(ta:TA):TI:=fun σ H R=>ta σ H fun vs H1=>∃i j:Int,vs=[.int i,.int j]∧(-(2 ^ 62)≤i∧i<2 ^ 62∧ -(2 ^ 62)≤j∧j<2 ^ 62)∧R (bg i (j - i).toNat) H1
theorem wK{a:Expr}{ta:TA}{p pos:Pos}(hg:Gl X "range")(hm:X.mg "range"=none)(ha:PA X [a] ta)(hs:starEach [a] X.env=[(false,eval a X.env)]:=by rfl):PI X tg (.Call (.Name "range" p) [a] [] pos) (eW ta):=by
 intro pins s σ H R I h;refine Call_ (eN I hg hm boot_range (PyProof.Rows.callWith_type1 (ao (ha pos pins s σ H _ I h) fun us s1 ⟨vs,H1,I1,r1,q1⟩=>?_) hs rfl));obtain⟨j,e,q1,q2,q⟩:=q1;subst e;cases r1 with
 | cons r rr=>
   cases rr;obtain⟨t,rfl⟩:=r;exact call_range_1 (nQ I1 (by omega) (by omega) q1 q2 (by simpa using q))
theorem yG{a b:Expr}{ta:TA}{p pos:Pos}(hg:Gl X "range")(hm:X.mg "range"=none)(ha:PA X [a,b] ta)(hs:starEach [a,b] X.env=[(false,eval a X.env),(false,eval b X.env)]:=by rfl)(Cm:starEach [b] X.env=[(false,eval b X.env)]:=by rfl):
   PI X tg (.Call (.Name "range" p) [a,b] [] pos) (gh ta):=by
 intro pins s σ H R I h;refine Call_ (eN I hg hm boot_range (PyProof.Rows.callWith_type1 (ao (ha pos pins s σ H _ I h) fun us s1 ⟨vs,H1,I1,r1,q1⟩=>?_) (by rw[hs,Cm]) (by rw[Cm];rfl)))
 obtain⟨i,j,e,⟨q1,q2,q3,q4⟩,q⟩:=q1;subst e;cases r1 with
 | cons r rr=>
   cases rr with
   | cons r' rr=>
     cases rr;obtain⟨t,rfl⟩:=r;obtain⟨t',rfl⟩:=r';exact call_range_2 (nQ I1 q1 q2 q3 q4 q)
def sS(wi:TI)(g:TG)(tb:TS):TS:=fun D σ H=>wi σ H fun J H1=>∃W:Nat→Nat→St→Hp→Prop,(∃m,W 0 m σ H1)∧∀i m σ H,W i m σ H→
 (J.stop i H∧D.nx σ H)∨(J.go i H∧∃N:St→Hp→Prop,(∀B1 H',N B1 H'→∃m',m'<m∧W (i+1) m' B1 H')∧∀x H',J.ip i H x H'→g x σ H' fun Gw H2=>tb {D with nx:=N,ct:=N,bk:=D.nx} Gw H2)
def gL(fp:List Addr)(h:Heap):List (Addr×Obj):=fp.filterMap fun b=>(h.get? b).map fun o=>(b,o)
theorem kg{fp:List Addr}{h:Heap}{b:Addr}{o:Obj}(hb:b∈fp)(e:h.get? b=some o):(b,o)∈gL fp h:=List.mem_filterMap.mpr ⟨b,hb,by rw[e];rfl⟩
theorem za{fp:List Addr}{h:Heap}{p:Addr×Obj}(hp:p∈gL fp h):p.1∈fp∧h.get? p.1=some p.2:=by
 obtain⟨b,hb,e⟩:=List.mem_filterMap.mp hp;cases q:h.get? b with
 |none=>rw[q]at e;cases e
 | some o=>
   rw[q]at e;have e':(b,o)=p:=Option.some.inj e;subst e';exact⟨hb,q⟩
theorem Inv.pinned{pins:List (Addr×Obj)}{σ:St}{H:Hp}{s:Shared}{fp:List Addr}(I:Inv X pins σ H s)(hf:∀b∈fp,bM X pins H b)(ho:∀b∈fp,∃o,s.heap.get? b=some o∧∀v,o.data≠.cell v):Inv X (pins++gL fp s.heap) σ H s:=
 I.rJ fun p hp=>(List.mem_append.mp hp).elim (fun z=>I.pin p (List.mem_append_right _ z)) fun z=>by
   obtain⟨hb,e⟩:=za z;obtain⟨f0,f1,f2,_⟩:=hf p.1 hb;obtain⟨o,e',d⟩:=ho p.1 hb;rw[e]at e';cases e';exact⟨e,f0,f1,f2,d⟩
theorem Inv.j6{pins pl:List (Addr×Obj)}{σ:St}{H:Hp}{s:Shared}(I:Inv X (pins++pl) σ H s):Inv X pins σ H s:=I.rJ fun p hp=>I.pin p (List.mem_append_right _ (List.mem_append_left _ hp))
theorem rW{iter:Expr}{body:List Stmt}{wi:TI}{g:TG}{tb:TS}{pos:Pos}(hp:PassesOwn (model X.prog X.w) X.A X.env X.xe)(hc:X.calm=true)(hi:PI X tg iter wi)(hg:PG X tg g)(hb:bu X body tb)
   (hs:∀x,foldedSetIterable iter X.env x=pure x:=by intro _;rfl):PS X (.For tg iter body [] pos) (sS wi g tb):=by
 intro pins s σ H D I h;refine wpAny_For (ao (hi pins s σ H _ I h) fun v s1 h1=>ao h1 fun IV s2 h2=>?_) hs;obtain⟨it,fp,tn,J,H2,e,I2,T,Du,f2,W,⟨m0,w0⟩,turn⟩:=h2;subst e;have Fc:∀ {H':Hp},(∀b∈fp,H' b=none)→∀b∈fp,bM X pins H' b:=fun hn b hb=>⟨hn b hb,(f2 b hb).2⟩;refine codeAny_forLoop_any (fun n s'=>∃i B1 H',Inv X pins B1 H' s'∧tn i s'.heap∧(∀b∈fp,H' b=none)∧W i n B1 H') ?_ m0 ⟨0,σ,H2,I2,Du,fun b hb=>(f2 b hb).1,w0⟩;rintro n s3 ⟨i,Ek,H3,I3,JV,Jk,w3⟩;rcases turn i n Ek H3 w3 with⟨stop,qn⟩|⟨go,N,hN,step⟩
 · refine wpAny_passesOwn hp (ao (T.done X rfl rfl rfl hc i pins s3 Ek H3 X.xe I3 (Fc Jk) JV stop) fun r s4 ⟨hr,I4⟩=>?_)
   subst hr;exact wpAny_execs_nil ⟨Ek,H3,I4,qn⟩
 · refine wpAny_passesOwn hp (ao (T.item X rfl rfl rfl hc i pins s3 Ek H3 X.xe I3 (Fc Jk) JV go) fun r s4 ⟨u,hr,h4⟩=>?_)
   subst hr;refine wpAny_passesOwn hp (ao h4 fun _ s5 ⟨x,H5,I5,r5,y5,E8,IP⟩=>?_);have HN:=I5.pinned (Fc IP) (T.obj _ _ E8);refine wpAny_passesOwn hp (ao (hg _ s5 Ek H5 x u _ HN r5 (step x H5 y5)) fun _ s6 ⟨Dz,H6,I6,q6⟩=>?_);refine wpAny_passesOwn hp (ao (hb _ s6 Dz H6 _ I6 q6) fun f s7 q7=>?_)
   have again:∀ {D3:St} {H7:Hp},Inv X (pins++gL fp s5.heap) D3 H7 s7→N D3 H7→∃m,m<n∧∃i B1 H',Inv X pins B1 H' s7∧tn i s7.heap∧(∀b∈fp,H' b=none)∧W i m B1 H':=fun {D3 H7} I7 n7=>by
     obtain⟨m',hm,w7⟩:=hN D3 H7 n7;refine⟨m',hm,i+1,D3,H7,I7.j6,T.keep _ _ _ E8 fun b hb o e=>(I7.pin (b,o) (List.mem_append_right _ (List.mem_append_right _ (kg hb e)))).1,fun b hb=>?_,w7⟩;obtain⟨o,e,d⟩:=T.obj _ _ E8 b hb;exact(I7.pin (b,o) (List.mem_append_right _ (List.mem_append_right _ (kg hb e)))).2.1
   cases f with
   |next=>obtain⟨D3,H7,I7,n7⟩:=q7;exact again I7 n7
   |cont=>obtain⟨D3,H7,I7,n7⟩:=q7;exact again I7 n7
   |brk=>obtain⟨D3,H7,I7,q7⟩:=q7;exact⟨D3,H7,I7.j6,q7⟩
   |ret v=>obtain⟨x7,D3,H7,I7,r7,q7⟩:=q7;exact⟨x7,D3,H7,I7.j6,r7,q7⟩
end
end L2
namespace L2
open PySem PySem.Spec PyProof.Rows
abbrev R2:=V→V→Hp→VK→Prop
def aH(X:Cx)(f:Value→Value→Sem Value)(r:R2):Prop:=
 ∀(pins:List (Addr×Obj)) (s:Shared) (σ:St) (H:Hp) (x y:V) (v u:Value) (Q:VK),Inv X pins σ H s→RelV x v→RelV y u→r x y H Q→
   wpAny (model X.prog X.w) X.A (f v u) (EP X pins σ Q) X.xe s
def dh(X:Cx)(f:Value→Sem Value)(r:V→Hp→VK→Prop):Prop:=
 ∀(pins:List (Addr×Obj)) (s:Shared) (σ:St) (H:Hp) (x:V) (v:Value) (Q:VK),Inv X pins σ H s→RelV x v→r x H Q→
   wpAny (model X.prog X.w) X.A (f v) (EP X pins σ Q) X.xe s
def aW(X:Cx)(f:Value)(r:List V→Hp→VK→Prop):Prop:=
 ∀(pins:List (Addr×Obj)) (s:Shared) (σ:St) (H:Hp) (xs:List V) (us:List Value) (Q:VK),Inv X pins σ H s→Vals xs us→r xs H Q→
   wpAny (model X.prog X.w) X.A (call f us) (EP X pins σ Q) X.xe s
def wt(X:Cx)(r:V→Hp→(Bool→Hp→Prop)→Prop):Prop:=
 ∀(pins:List (Addr×Obj)) (s:Shared) (σ:St) (H:Hp) (x:V) (v:Value) (Q:Bool→Hp→Prop),Inv X pins σ H s→RelV x v→r x H Q→
   wpAny (model X.prog X.w) X.A (truthy v) (TP X pins σ Q) X.xe s
def iS(r:R2)(ta tb:TE):TE:=fun σ H Q=>ta σ H fun x H1=>tb σ H1 fun y H2=>r x y H2 Q
def rI(C:Int→Int→Prop)(g:Int→Int→V):R2:=fun x y H Q=>∃i j,x=.int i∧y=.int j∧C i j∧Q (g i j) H
def cV(g:Int→Int→V):R2:=fun x y H Q=>∃i j,x=.int i∧y=.int j∧Q (g i j) H
section
variable{X:Cx}{a b c:Expr}{ta tb tc:TE}{pos:Pos}
theorem mS(ha:PE X a ta)(hb:PE X b tb){pins:List (Addr×Obj)}{s:Shared}{σ:St}{H:Hp}{R:V→V→Hp→Prop}(I:Inv X pins σ H s)
   (h:ta σ H fun x H1=>tb σ H1 fun y H2=>R x y H2) {Q:Value→Shared→Prop} {f:Value→Value→Sem Value}
   (hf:∀v u s2 x y H2,Inv X pins σ H2 s2→RelV x v→RelV y u→R x y H2→wpAny (model X.prog X.w) X.A (f v u) Q X.xe s2):
   wpAny (model X.prog X.w) X.A (eval a X.env) (fun v B2=>wpAny (model X.prog X.w) X.A (eval b X.env) (fun u CP=>wpAny (model X.prog X.w) X.A (f v u) Q X.xe CP) X.xe B2) X.xe s:=by
 refine ao (ha pins s σ H _ I h) fun v s1 ⟨x,H1,I1,r1,q1⟩=>?_;refine ao (hb pins s1 σ H1 _ I1 q1) fun u s2 ⟨y,H2,I2,r2,q2⟩=>?_;exact hf v u s2 x y H2 I2 r1 r2 q2
theorem rZ{op:Operator}{r:R2}(ho:aH X (binaryOp op) r)(ha:PE X a ta)(hb:PE X b tb):PE X (.BinOp a op b pos) (iS r ta tb):=by
 intro pins s σ H Q I h;exact wpAny_BinOp (mS ha hb I h fun v u s2 x y H2 I2 rx ry q=>ho pins s2 σ H2 x y v u Q I2 rx ry q)
theorem jG{f:Value→Value→Sem Value}{C:Int→Int→Prop}{g:Int→Int→Int}
   (rule:∀(i j:Int) (t u:Tok) (s:Shared) (Q:Value→Shared→Prop) (E:Value→Shared→Prop),C i j→Q (.int (g i j) s.toks) {s with toks:=s.toks+1}→wpAny (model X.prog X.w) X.A (f (.int i t) (.int j u)) Q E s):
   aH X f (rI C fun i j=>.int (g i j)):=by
 intro pins s σ H x y v u Q I rx ry h;obtain⟨i,j,rfl,rfl,hc,q⟩:=h;obtain⟨t,rfl⟩:=rx;obtain⟨t',rfl⟩:=ry;exact rule i j t t' s _ _ hc ⟨.int (g i j),H,I.tok _,⟨_,rfl⟩,q⟩
theorem rE{f:Value→Value→Sem Value}{g:Int→Int→Int}
   (rule:∀(i j:Int) (t u:Tok) (s:Shared) (Q:Value→Shared→Prop) (E:Value→Shared→Prop),Q (.int (g i j) s.toks) {s with toks:=s.toks+1}→wpAny (model X.prog X.w) X.A (f (.int i t) (.int j u)) Q E s):
   aH X f (cV fun i j=>.int (g i j)):=by
 intro pins s σ H x y v u Q I rx ry h;obtain⟨i,j,rfl,rfl,q⟩:=h;obtain⟨t,rfl⟩:=rx;obtain⟨t',rfl⟩:=ry;exact rule i j t t' s _ _ ⟨.int (g i j),H,I.tok _,⟨_,rfl⟩,q⟩
theorem lD{f:Value→Value→Sem Value}{g:Int→Int→Bool}
   (rule:∀(i j:Int) (t u:Tok) (s:Shared) (Q:Value→Shared→Prop) (E:Value→Shared→Prop),Q (.bool (g i j)) s→wpAny (model X.prog X.w) X.A (f (.int i t) (.int j u)) Q E s):
   aH X f (cV fun i j=>.bl (g i j)):=by
 intro pins s σ H x y v u Q I rx ry h;obtain⟨i,j,rfl,rfl,q⟩:=h;obtain⟨t,rfl⟩:=rx;obtain⟨t',rfl⟩:=ry;exact rule i j t t' s _ _ ⟨.bl (g i j),H,I,rfl,q⟩
def nO(i j:Int):Prop:=0≤j∧j≤1000000∧i.natAbs<2 ^ 64
def jF(i j:Int):Prop:=(-(2 ^ 64)<i∧i<2 ^ 64)∨(-(2 ^ 64)<j∧j<2 ^ 64)
theorem jF.ok{i j:Int}(h:jF i j):IntMulOk i j:=by
 rcases h with⟨h1,h2⟩|⟨h1,h2⟩
 ·exact .of_left (intBits_le_64 h1 h2)
 ·exact .of_right (intBits_le_64 h1 h2)
theorem cb:aH X (binaryOp .Add) (cV fun i j=>.int (i+j)):=rE fun _ _ _ _ _ _ _ q=>add_int q
theorem sD:aH X (binaryOp .Sub) (cV fun i j=>.int (i - j)):=rE fun _ _ _ _ _ _ _ q=>sub_int q
theorem eF:aH X (binaryOp .Mult) (rI jF fun i j=>.int (i*j)):=jG fun _ _ _ _ _ _ _ hc q=>mul_int q hc.ok
theorem bZ:aH X (binaryOp .Mod) (rI (fun _ j=>0<j) fun i j=>.int (i % j)):=jG fun i j _ _ _ _ _ hc q=>by
 have h1:(0:Int)<j:=hc;exact mod_int' (by omega) (by rw[Int.fmod_eq_emod_of_nonneg i (by omega)];exact q)
theorem cI:aH X (binaryOp .Pow) (rI nO fun i j=>.int (i ^ j.toNat)):=jG fun _ _ _ _ _ _ _ hc q=>pow_int_small hc.1 hc.2.1 hc.2.2 q
end
section
variable{X:Cx}{a b c:Expr}{ta tb tc:TE}{pos:Pos}
theorem mK:aH X (compareOp .Lt) (cV fun i j=>.bl (decide (i<j))):=lD fun _ _ _ _ _ _ _ q=>lt_int q
theorem nK:aH X (compareOp .LtE) (cV fun i j=>.bl (decide (i≤j))):=lD fun _ _ _ _ _ _ _ q=>le_int q
theorem lH:aH X (compareOp .GtE) (cV fun i j=>.bl (decide (j≤i))):=lD fun _ _ _ _ _ _ _ q=>ge_int q
theorem aH.or{f:Value→Value→Sem Value}{r r':R2}(h:aH X f r)(h':aH X f r'):aH X f (fun x y H Q=>r x y H Q∨r' x y H Q):=by
 intro pins s σ H x y v u Q I rx ry q;rcases q with q|q
 ·exact h pins s σ H x y v u Q I rx ry q
 ·exact h' pins s σ H x y v u Q I rx ry q
theorem nv(b:Expr){op:CmpOp}(h:op≠.In:=by decide)(h2:op≠.NotIn:=by decide):behindInMarks op b=false:=by
 have e1:(op==CmpOp.In)=false:=by cases op<;>first|rfl|exact absurd rfl h
 have e2:(op==CmpOp.NotIn)=false:=by cases op<;>first|rfl|exact absurd rfl h2
 cases b<;>simp[behindInMarks,e1,e2]
theorem vR{op:CmpOp}{r:R2}(ho:aH X (compareOp op) r)(ha:PE X a ta)(hb:PE X b tb)(hm:behindInMarks op b=false):PE X (.Compare a [op] [b] pos) (iS r ta tb):=by
 intro pins s σ H Q I h;exact wpAny_Compare1 (mS ha hb I h fun v u s2 x y H2 I2 rx ry q=>ho pins s2 σ H2 x y v u Q I2 rx ry q) hm
def zv(t:TE):TT:=fun σ H Q=>t σ H fun x H'=>∃k,x=.bl k∧Q k H'
theorem tL{op:CmpOp}{r:R2}(ho:aH X (compareOp op) r)(ha:PE X a ta)(hb:PE X b tb)(hm:behindInMarks op b=false):PT X (.Compare a [op] [b] pos) (zv (iS r ta tb)):=by
 intro pins s σ H Q I h
 refine wpAny_isTrue_Compare1 (ao (ha pins s σ H _ I h) fun v s1 ⟨x,H1,I1,r1,q1⟩=>ao (hb pins s1 σ H1 _ I1 q1) fun u s2 ⟨y,H2,I2,r2,q2⟩=>
   ao (ho pins s2 σ H2 x y v u _ I2 r1 r2 q2) fun c s3 ⟨z,H3,I3,r3,k,e,q3⟩=>?_) hm
 subst e;cases r3;exact wpAny_truthy_bool ⟨H3,I3,q3⟩
def Ar(r r':R2)(ta tb tc:TE):TE:=fun σ H Q=>ta σ H fun x H1=>tb σ H1 fun y H2=>r x y H2 fun z H3=>∃k,z=.bl k∧
 (if k=true then tc σ H3 fun w' H4=>r' y w' H4 Q else Q (.bl false) H3)
theorem A1{op DS:CmpOp}{r r':R2}(ho:aH X (compareOp op) r)(C9:aH X (compareOp DS) r')(ha:PE X a ta)(hb:PE X b tb)(hc:PE X c tc)
   (hm:lastMarks [op,DS] [b,c]=false:=by with_unfolding_all rfl):PE X (.Compare a [op,DS] [b,c] pos) (Ar r r' ta tb tc):=by
 intro pins s σ H Q I h
 refine Compare_chain (ao (ha pins s σ H _ I h) fun v s1 ⟨x,H1,I1,r1,q1⟩=>chain_link (ao (hb pins s1 σ H1 _ I1 q1) fun u s2 ⟨y,H2,I2,r2,q2⟩=>
   ao (ho pins s2 σ H2 x y v u _ I2 r1 r2 q2) fun d s3 ⟨z,H3,I3,r3,k,e,q3⟩=>?_)) hm
 subst e;cases r3;refine wpAny_truthy_bool ?_;cases k with
 |false=>exact ite_ff ⟨.bl false,H3,I3,rfl,q3⟩
 |true=>exact ite_tt (chain_last (ao (hc pins s3 σ H3 _ I3 q3) fun w' s4 ⟨z',H4,I4,r4,q4⟩=>C9 pins s4 σ H4 y z' u w' Q I4 r2 r4 q4))
def kG(K:PySem.W.Frag)(x:V)(H:Hp)(k:Bool):Prop:=
 match x with
 |.aq=>k=false
 |.bl b=>k=b
 |.int i=>k=(i != 0)
 |.str y=>y.length≤sizeLine∧k=((y.length:Int) != 0)
 |.gW y=>y.size≤sizeLine∧k=((y.size:Int) != 0)
 |.ref p=>(∃xs,aO K H p xs∧k= !xs.isEmpty)∨(∃xs,aT K H p xs∧k= !xs.isEmpty)∨∃kvs,H p=some (.dK kvs)∧k= !kvs.isEmpty
 |_=>False
theorem uK{κ:Type}{kvs:List (κ×V)}{vs:List (κ×Value)}(r:KV kvs vs):(!vs.isEmpty)= !kvs.isEmpty:=by
 cases r<;>rfl
theorem o5{xs:List V}{y':List Value}(r:Vals xs y'):(!y'.toArray.isEmpty)= !xs.isEmpty:=by
 cases r<;>simp
theorem gI:(sizeLine:Nat)<2 ^ 63:=by rw[sizeLine_eq];decide
theorem tU:wt X (fun x H Q=>∃k,kG X.K x H k∧Q k H):=by
 intro pins s σ H x v Q I rx h;obtain⟨k,e,q⟩:=h;have hl:=gI;have hs:sizeLine=16777216:=sizeLine_eq;cases x with
 | aq=>
   cases rx;have e':k=false:=e;subst e';exact truthy_none ⟨H,I,q⟩
 | bl b=>
   cases rx;have e':k=b:=e;subst e';exact wpAny_truthy_bool ⟨H,I,q⟩
 | int i=>
   obtain⟨t,rfl⟩:=rx;have e':k=(i != 0):=e;subst e';exact PySem.P.truthy_int ⟨H,I,q⟩
 | str y=>
   obtain⟨t,rfl⟩:=rx;obtain⟨hy,e'⟩:y.length≤sizeLine∧k=((y.length:Int) != 0):=e;subst e';exact PySem.P.truthy_str (by omega) ⟨H,I.tok _,q⟩
 | gW y=>
   obtain⟨t,rfl⟩:=rx;obtain⟨hy,e'⟩:y.size≤sizeLine∧k=((y.size:Int) != 0):=e;subst e';exact PySem.W.truthy_bytes (by omega) ⟨H,I.tok _,q⟩
 | ref p=>
   cases rx;have e':(∃xs,aO X.K H p xs∧k= !xs.isEmpty)∨(∃xs,aT X.K H p xs∧k= !xs.isEmpty)∨∃kvs,H p=some (.dK kvs)∧k= !kvs.isEmpty:=e;rcases e' with⟨xs,hx,e'⟩|⟨xs,hx,e'⟩|⟨kvs,hx,e'⟩
   · subst e'
     obtain⟨y',r,pl,hz⟩:=I.list hx;have hlen:=r.length;exact wpAny_truthy_list pl.isList (by simp only[List.size_toArray];omega) ⟨H,I.tok _,by rw[o5 r];exact q⟩
   · subst e'
     obtain⟨y',r,pl,hz⟩:=I.tuple hx;have hlen:=r.length;exact truthy_tuple pl (by simp only[List.size_toArray];omega) ⟨H,I.tok _,by rw[o5 r];exact q⟩
   · subst e'
     obtain⟨hz,hS,vs,r,m⟩:kvs.length≤sizeLine∧(p==sysModules)=false∧∃vs,KV kvs vs∧s.heap.DictOf (bc X.prog X.w) p vs:=I.au p _ hx;have hlen:kvs.length=vs.length:=Paired.length r;exact wpAny_truthy_dict hS m (by omega) ⟨H,I.tok _,by rw[uK r];exact q⟩
 |_=>exact(show False from e).elim
theorem yl(ha:PE X a ta)(he:∀whole,isTrue a X.env whole=(do let v ←whole;standAt a.pos;holding [v] (truthy v))):
   PT X a (fun σ H Q=>ta σ H fun x H'=>∃k,kG X.K x H' k∧Q k H'):=by
 intro pins s σ H Q I h;exact isTrue_plain (ao (ha pins s σ H _ I h) fun v s1 ⟨x,H1,I1,r1,q1⟩=>tU pins s1 σ H1 x v Q I1 r1 q1) (he _)
theorem yW:aH X (binaryOp .Add) (fun x y H Q=>∃i j,x=.str i∧y=.str j∧i.length+j.length≤sizeLine∧Q (.str (i++j)) H):=by
 intro pins s σ H x y v u Q I rx ry h;obtain⟨i,j,rfl,rfl,hz,q⟩:=h;obtain⟨t,rfl⟩:=rx;obtain⟨t',rfl⟩:=ry;exact add_str (fun t' tk=>⟨.str (i++j),H,I.tok _,⟨_,rfl⟩,q⟩) hz
theorem vals1{x:V}{us:List Value}(r:Vals [x] us):∃u,us=[u]∧RelV x u:=by
 cases r with
 |cons r1 r2=>cases r2;exact⟨_,rfl,r1⟩
theorem vals2{x y:V}{us:List Value}(r:Vals [x,y] us):∃u w',us=[u,w']∧RelV x u∧RelV y w':=by
 cases r with
 | cons r1 r2=>
   cases r2 with
   |cons r3 r4=>cases r4;exact⟨_,_,rfl,r1,r3⟩
theorem xm(hc:X.calm=true):aW X (.builtin "min") (fun xs H Q=>∃i j,xs=[.int i,.int j]∧Q (.int (if j<i then j else i)) H):=by
 intro pins s σ H xs us Q I r h;obtain⟨i,j,rfl,q⟩:=h;obtain⟨u,w',rfl,⟨t,rfl⟩,⟨t',rfl⟩⟩:=vals2 r;refine min_two_ints (I.ok.hd hc) fun h' tk k=>⟨_,H,I.kept k,?_,q⟩;by_cases hj:j<i
 ·rw[if_pos hj,if_pos hj];exact⟨_,rfl⟩
 ·rw[if_neg hj,if_neg hj];exact⟨_,rfl⟩
theorem nU:aW X (.type "int") (fun xs H Q=>(∃i,xs=[.int i]∧Q (.int i) H)∨∃k,xs=[.bl k]∧Q (.int (if k then 1 else 0)) H):=by
 intro pins s σ H xs us Q I r h;rcases h with⟨i,rfl,q⟩|⟨k,rfl,q⟩
 · obtain⟨u,rfl,t,rfl⟩:=vals1 r
   exact call_int_int ⟨.int i,H,I,⟨_,rfl⟩,q⟩
 · obtain⟨u,rfl,r1⟩:=vals1 r
   cases r1;exact call_int_bool ⟨.int (if k then 1 else 0),H,I.tok _,⟨_,rfl⟩,q⟩
end
end L2
namespace L2
open PySem PySem.Spec PyProof.Rows
section
variable{prog:Program}{w:World}{A:Around}{E:Value→Shared→Prop}{s:Shared}{K:PySem.W.Frag}{x dx C f:Addr}{mA:Str→Option Value}{name:Str}{v:Value}
end
theorem cu.some_of{v:V}{o:Option Value}(r:cu (some v) o):∃u,o=some u∧RelV v u:=by
 cases o with
 |none=>exact(show False from r).elim
 |some u=>exact⟨u,rfl,r⟩
theorem cu.none_of{o:Option Value}(r:cu none o):o=none:=by
 cases o with
 |none=>rfl
 |some u=>exact(show False from r).elim
section
variable{P:Program}{w:World}{H H':Hp}{h h':Heap}{a C dx:Addr}{fs G1:List (Str×V)}
end
structure nz(K:PySem.W.Frag)(C:Addr):Prop where
 pg:PySem.W.plainGet K C Str.empty=true
 hd:PySem.W.hasDictIn K C=true
 po:PySem.W.plainOver K C=true
 sa:PySem.W.findIn K (.ref C) "__setattr__"=some (some (.builtin "object.__setattr__"))
theorem nz.get{K:PySem.W.Frag}{C:Addr}(c:nz K C)(f:Str):PySem.W.plainGet K C f=true:=c.pg
section
variable{X:Cx}{pins:List (Addr×Obj)}{σ:St}{H:Hp}{s:Shared}{a C dx:Addr}{fs:List (Str×V)}{f:Str}{v:V}{A:Around}{E:Value→Shared→Prop}
theorem Inv.made(I:Inv X pins σ H s):Inv X pins σ (upd (upd H s.heap.objs.size (.own (s.heap.objs.size+1))) (s.heap.objs.size+1) (.ins C s.heap.objs.size []))
   {s with heap:=(s.heap.push PySem.W.emptyDict).push (PySem.W.instObj C s.heap.objs.size)}:=by
 have e1:(s.heap.push PySem.W.emptyDict).get? s.heap.objs.size=some PySem.W.emptyDict:=Heap.get?_push_size s.heap rfl
 have e2:((s.heap.push PySem.W.emptyDict).push (PySem.W.instObj C s.heap.objs.size)).get? (s.heap.objs.size+1)=some (PySem.W.instObj C s.heap.objs.size):=by
   have:=Heap.get?_push_size (s.heap.push PySem.W.emptyDict) (o:=PySem.W.instObj C s.heap.objs.size) rfl;rwa[Heap.size_push]at this
 have e3:(s.heap.push PySem.W.emptyDict).Ns s.heap.objs.size (fun _=>none):=⟨PySem.W.emptyDict, #[],_,e1,rfl,(fun e he=>absurd he (by simp)),fun _=>rfl⟩
 have I1:=I.laid (a:=s.heap.objs.size) (o:=.own (s.heap.objs.size+1)) (h':=s.heap.push PySem.W.emptyDict) (t':=s.toks) (fun b u q=>Heap.get?_push_of_some _ q) (Nat.le_refl _) ⟨_,e1⟩;refine I1.laid (a:=s.heap.objs.size+1) (o:=.ins C s.heap.objs.size []) (t':=s.toks) (fun b u q=>Heap.get?_push_of_some _ q) (Nat.le_of_eq (Heap.size_push _ _)) ?_;have ne:s.heap.objs.size≠s.heap.objs.size+1:=Nat.ne_of_lt (Nat.lt_succ_self _);refine⟨by rw[aE ne,b6],Nat.zero_le _,ne,e2,fun _=>none,(Heap.Ns1.of_empty e3).at fun o q=>Heap.get?_push_of_some _ q,fun _=>True.intro,fun y hy=>absurd rfl hy⟩
end
section
variable{X:Cx}{o e value:Expr}{f:Str}{pos pos' HZ:Pos}{ta tv:TE}
end
section
variable{X:Cx}{pins:List (Addr×Obj)}{σ:St}{H:Hp}{s:Shared}{A:Around}{E:Value→Shared→Prop}{Q:Value→Shared→Prop}{c:Value}{b:Bool}
end
end L2
namespace L2
open PySem PySem.Spec PyProof.Rows
structure br(k:Nat)(A:Around):Prop where
 hd:A.handled=none
 dp:A.depth+3*k+5<recursionLimit
 un:A.units+16*k+200<cLine
theorem br.mono{j k:Nat}{A:Around}(r:br k A)(h:j≤k):br j A:=⟨r.hd,by have:=r.dp;omega,by have:=r.un;omega⟩
theorem br.deeper{k:Nat}{A:Around}(r:br (k+1) A)(env:Env):br k (A.deeper env):=
 ⟨r.hd,by have:=r.dp;show A.depth+1+3*k+5<_;omega,by have:=r.un;show A.units+3+16*k+200<_;omega⟩
theorem br.in1{k:Nat}{A:Around}(r:br (k+1) A):br k A.in1:=
 ⟨r.hd,by have:=r.dp;show A.depth+3*k+5<_;omega,by have:=r.un;show A.units+1+16*k+200<_;omega⟩
theorem br.depth{k:Nat}{A:Around}(r:br k A):A.depth<recursionLimit:=by have:=r.dp;omega
theorem br.units{k:Nat}{A:Around}(r:br k A):A.units+64<cLine:=by have:=r.un;omega
def rn:TA:=fun _ H Q=>Q [] H
def As(ta:TE)(tr:TA):TA:=fun σ H Q=>ta σ H fun x H1=>tr σ H1 fun xs H2=>Q (x::xs) H2
section
variable{X:Cx}{e:Expr}{es:List Expr}{te:TE}{t:TA}{pos:Pos}
theorem mZ:PA X [] rn:=fun _ _ _ _ H Q I h=>Calls.spliced_nil ⟨[],H,I,.nil,h⟩
theorem kb(ha:PE X e te)(hr:PA X es t)(hs:starEach (e::es) X.env=(false,eval e X.env)::starEach es X.env:=by rfl):PA X (e::es) (As te t):=by
 intro pos pins s σ H Q I h;rw[hs];show wpAny _ _ (spliced ((false,eval e X.env)::backTo pos (starEach es X.env))) _ _ s;refine Calls.spliced_cons (ao (ha pins s σ H _ I h) fun u s1 ⟨x,H1,I1,r1,q1⟩=>?_);exact ao (hr pos pins s1 σ H1 _ I1 q1) fun us s2 ⟨xs,H2,I2,r2,q2⟩=>⟨x::xs,H2,I2,.cons r1 r2,q2⟩
def rX(t:TA):TE:=fun σ H Q=>t σ H fun xs H1=>xs.length≤sizeLine∧∀p,H1 p=none→Q (.ref p) (upd H1 p (.tup xs))
def wD(t:TA):TE:=fun σ H Q=>t σ H fun xs H1=>xs.length≤sizeLine∧∀p,H1 p=none→Q (.ref p) (upd H1 p (.lst xs))
theorem zh{x1}(h:PA X es t):PE X (.Tuple es x1 pos) (rX t):=by
 intro pins s σ H Q I hq;refine wpAny_Tuple_spliced (ao (h pos pins s σ H _ I hq) fun us s1 ⟨xs,H1,I1,r,z,q⟩=>⟨by rw[←r.length];exact z,?_⟩)
 have hf:H1 s1.heap.objs.size=none:=I1.au.fresh (Nat.le_refl _);refine⟨.ref s1.heap.objs.size,upd H1 s1.heap.objs.size (.tup xs),I1.laid (t':=s1.toks) (fun b u e=>Heap.get?_push_of_some _ e) (Nat.le_refl _) ?_,rfl,q _ hf⟩;exact⟨z,us,r,⟨_,Heap.get?_push_size _ rfl,rfl,_,rfl⟩⟩
theorem qY(h:PA X es t):PE X (.List es pos) (wD t):=by
 intro pins s σ H Q I hq;refine wpAny_List_spliced (ao (h pos pins s σ H _ I hq) fun us s1 ⟨xs,H1,I1,r,z,q⟩=>⟨by rw[←r.length];exact z,?_⟩)
 have hf:H1 s1.heap.objs.size=none:=I1.au.fresh (Nat.le_refl _);refine⟨.ref s1.heap.objs.size,upd H1 s1.heap.objs.size (.lst xs),I1.laid (t':=s1.toks) (fun b u e=>Heap.get?_push_of_some _ e) (Nat.le_refl _) ?_,rfl,q _ hf⟩;exact⟨z,us,0,r,Heap.get?_push_size _ rfl⟩
end
abbrev Sp:=List V→Hp→VK→XK→Prop
abbrev cN:=List Env→Hp→Shared→XK→Value→Shared→Prop
structure gq(P:Program)(w:World)(K:PySem.W.Frag)(mg:Str→Option Value)(base:Heap)(A:Around)(outer:List Env)(s:Shared)(H:Hp):Prop where
 frames:A.frames=some outer
 mod:Mod K mg base
 bs:∀b o,base.get? b=some o→s.heap.get? b=some o∧H b=none
 fA:base.objs.size≤s.heap.objs.size
 dw:s.heap.FunFrames base outer
 gk:∀b∈bQ outer,H b=none
 au:aU P w H s.heap
 bare:AllBare s.gens
def CE(outer:List Env)(P:Program)(w:World)(H:Hp)(s:Shared)(Q:VK)(u:Value)(s':Shared):Prop:=
 ∃v H',s'.os=s.os∧AllBare s'.gens∧Un (bQ outer) [] H H' s.heap s'.heap∧aU P w H' s'.heap∧RelV v u∧Q v H'
def CR(CX:cN)(outer:List Env)(P:Program)(w:World)(H:Hp)(s:Shared)(Q:VK)(E:XK)(r:Result)(s':Shared):Prop:=
 match r with
 |.ok (.ret u)=>CE outer P w H s Q u s'
 |.ok _=>False
 |.error e=>CX outer H s E e s'
structure b8(P:Program)(w:World)(K:PySem.W.Frag)(mg:Str→Option Value)(base:Heap)(CX:cN)(k:Nat)(f:Addr)(fd:FuncData)(ps:List Str)(sp:Sp):Prop where
 len:∀vs H Q E,sp vs H Q E→vs.length=ps.length
 run:∀(A:Around) (outer:List Env) (s:Shared) (H:Hp) (args:Args) (us:List Value) (vs:List V) (Q:VK) (E:XK),br k A→gq P w K mg base A outer s H→BindsTo s fd args (ps.zip us)→Vals vs us→sp vs H Q E→
   codeAny (model P w) A (.call (.ref f) args) (CR CX outer P w H s Q E) s
theorem b8.mono{P:Program}{w:World}{K:PySem.W.Frag}{mg:Str→Option Value}{base:Heap}{CX:cN}{j k:Nat}{f:Addr}{fd:FuncData}{ps:List Str}{sp:Sp}(F:b8 P w K mg base CX j f fd ps sp)(h:j≤k):
   b8 P w K mg base CX k f fd ps sp:=⟨F.len,fun A outer s H args us vs Q E hr=>F.run A outer s H args us vs Q E (hr.mono h)⟩
theorem b8.imp{P:Program}{w:World}{K:PySem.W.Frag}{mg:Str→Option Value}{base:Heap}{CX:cN}{k:Nat}{f:Addr}{fd:FuncData}{ps:List Str}{sp J':Sp}(F:b8 P w K mg base CX k f fd ps sp)
   (h:∀vs H Q E,J' vs H Q E→sp vs H Q E):b8 P w K mg base CX k f fd ps J':=
 ⟨fun vs H Q E q=>F.len vs H Q E (h _ _ _ _ q),fun A outer s H args us vs Q E hr he hb hv hs=>F.run A outer s H args us vs Q E hr he hb hv (h _ _ _ _ hs)⟩
theorem gq.in1{P:Program}{w:World}{K:PySem.W.Frag}{mg:Str→Option Value}{base:Heap}{A:Around}{outer:List Env}{s:Shared}{H:Hp}(e:gq P w K mg base A outer s H):
   gq P w K mg base A.in1 outer s H:=⟨e.frames,e.mod,e.bs,e.fA,e.dw,e.gk,e.au,e.bare⟩
section
variable{X:Cx}{pins:List (Addr×Obj)}{σ:St}{H:Hp}{s s':Shared}
theorem Inv.vS(I:Inv X pins σ H s):gq X.prog X.w X.K X.mg X.base X.A X.stack s H:=
 ⟨I.ok.frames,I.ok.mod,I.bs,Nat.le_trans I.ok.fA I.sz,I.stack,I.pQ,I.au,I.bare⟩
theorem Inv.after{Q:VK}{u:Value}(I:Inv X pins σ H s)(h:CE X.stack X.prog X.w H s Q u s'):EP X pins σ Q u s':=by
 obtain⟨v,H',os,bare,un,au,r,q⟩:=h;obtain⟨hh,g,d,t,He⟩:=s';obtain rfl:He=s.os:=os;exact⟨v,H',I.call (h':=hh) (g':=g) (d':=d) (t':=t) (ch:=[]) un au bare (fun b z=>absurd z (by simp)),r,q⟩
end
def kN(sp:Sp)(Eh:List V)(E:XK)(t:TA):TE:=fun σ H Q=>t σ H fun vs H1=>sp (vs++Eh) H1 Q E
def Binds(K:PySem.W.Frag)(fd:FuncData)(ps:List Str)(ds:List Value):Prop:=
 ∀(s:Shared) (us:List Value),K.In s.heap→(us++ds).length=ps.length→BindsTo s fd ⟨us,[]⟩ (ps.zip (us++ds))
theorem Binds.all{K:PySem.W.Frag}{fd:FuncData}{ps:List Str}(h:∀us:List Value,us.length=ps.length→bindArgs fd ⟨us,[]⟩=pure (ps.zip us)):Binds K fd ps []:=fun s us _ hl=>by
 rw[List.append_nil]at hl ⊢;exact .of_eq (h us hl)
def Passes(CX:cN)(X:Cx)(E:XK):Prop:=∀(pins:List (Addr×Obj)) (σ:St) (H:Hp) (s:Shared) (e:Value) (s':Shared),Inv X pins σ H s→CX X.stack H s E e s'→X.xe e s'
section
variable{X:Cx}{CX:cN}{k:Nat}{f C:Addr}{fd:FuncData}{ps:List Str}{sp:Sp}{Eh:List V}{ds:List Value}{E:XK}{x m:Str}{p pos apos:Pos}{e o:Expr}{es:List Expr}{ta:TE}{t:TA}
theorem pM{pins:List (Addr×Obj)}{σ:St}{H:Hp}{s:Shared}{Q:VK}{us:List Value}{vs:List V}(F:b8 X.prog X.w X.K X.mg X.base CX k f fd ps sp)(hr:br k X.A)(hb:Binds X.K fd ps ds)(hd:Vals Eh ds)(hx:Passes CX X E)
   (I:Inv X pins σ H s) (r:Vals vs us) (h:sp (vs++Eh) H Q E):wpAny (model X.prog X.w) X.A (call (.ref f) us) (EP X pins σ Q) X.xe s:=by
 have r2:Vals (vs++Eh) (us++ds):=r.append hd;have hl:(us++ds).length=ps.length:=by rw[←r2.length];exact F.len _ _ _ _ h
 refine wpAny_call (codeAny_mono (F.run X.A X.stack s H ⟨us,[]⟩ (us++ds) (vs++Eh) Q E hr I.vS (hb s us I.bS hl) r2 h) fun r s' hq=>?_);cases r with
 |error e=>exact hx pins σ H s e s' I hq
 | ok fl=>
   cases fl with
   |ret u=>exact I.after hq
   |next=>exact False.elim hq
   |brk=>exact False.elim hq
   |cont=>exact False.elim hq
theorem wM(F:b8 X.prog X.w X.K X.mg X.base CX k f fd ps sp)(hr:br k X.A)(hg:Gl X x)(hm:X.mg x=some (.ref f))(hk:PySem.W.keepIn X.K (.ref f)=true)(hb:Binds X.K fd ps ds)(hd:Vals Eh ds)(hx:Passes CX X E)
   (ha:PA X (e::es) t) (CI:(x==("__debug__":Str))=false:=by decide) (he:starEach (e::es) X.env=(false,eval e X.env)::starEach es X.env:=by rfl) (CU:(backTo pos (starEach es X.env)).any (·.1)=false:=by rfl):
   PE X (.Call (.Name x p) (e::es) [] pos) (kN sp Eh E t):=by
 intro pins s σ H Q I h;refine wpAny_Call_Name_kw (kS I hg hm ?_ CI);refine PySem.W.callWith_K (h₀:=X.base) I.ok.mod.mm hk (ao (ha pos pins s σ H _ I h) fun us s1 ⟨vs,H1,I1,r,q⟩=>⟨I1.bS,?_⟩) he CU;exact pM F hr hb hd hx I1 r q
theorem y8(F:b8 X.prog X.w X.K X.mg X.base CX k f fd ps sp)(hr:br k X.A)(hg:Gl X x)(hm:X.mg x=some (.ref f))(hk:PySem.W.keepIn X.K (.ref f)=true)(hb:Binds X.K fd ps ds)(hd:Vals Eh ds)(hx:Passes CX X E)
   (CI:(x==("__debug__":Str))=false:=by decide):PE X (.Call (.Name x p) [] [] pos) (kN sp Eh E rn):=by
 intro pins s σ H Q I h;refine wpAny_Call_Name_kw (kS I hg hm ?_ CI);exact PySem.W.callWith_K0 I.bS hk (pM (us:=[]) F hr hb hd hx I .nil h)
end
section
variable{X:Cx}{CX:cN}{k:Nat}{f C:Addr}{fd:FuncData}{ps ks:List Str}{sp:Sp}{E:XK}{x m:Str}{p pos apos Nn:Pos}{e o:Expr}{es:List Expr}{NJ:List Keyword}{te ta:TE}{t tk:TA}{nm:Option Str}
variable{g:List Value→List Value→List Value}{gV:List V→List V→List V}
end
structure bT(N P:List Str)(sc:Scope):Prop where
 kind:sc.kind=.function
 co:sc.isCoroutine=false
 gen:sc.isGenerator=false
 nd:N.Nodup
 pre:N.take P.length=P
 par:∀x∈P,sc.names.lookup x=some .local∨sc.names.lookup x=some .cell
 zI:∀y∈sc.names,y.2≠.free
theorem qK{kindOf:Str→Option NameKind}{x:Str}:∀ {binds:List (Str×Value)} {m:Str→Option Value},(∀v,(x,v)∉binds)→bindL kindOf binds m x=m x
 |[],_,_=>rfl
 | (n,v)::r,m,h=>by
   unfold bindL;rw[qK fun w hw=>h w (List.mem_cons_of_mem _ hw)];split
   · have:x≠n:=by rintro rfl;exact h v List.mem_cons_self
     simp[this]
   ·rfl
theorem nh{kindOf:Str→Option NameKind}{x:Str}:∀ {binds:List (Str×Value)} {m:Str→Option Value},(∀v,(x,v)∉binds)→bindC kindOf binds m x=m x
 |[],_,_=>rfl
 | (n,v)::r,m,h=>by
   unfold bindC;rw[nh fun w hw=>h w (List.mem_cons_of_mem _ hw)];split
   ·rfl
   · have:x≠n:=by rintro rfl;exact h v List.mem_cons_self
     simp[this]
theorem oG{kindOf:Str→Option NameKind}{x:Str}{v:Value}:∀ {P:List Str} {vs:List Value} {i:Nat} {m:Str→Option Value},P.Nodup→P[i]? =some x→vs[i]? =some v→kindOf x=some .local→
   bindL kindOf (P.zip vs) m x=some v
 |[],_,_,_,_,h,_,_=>by simp at h
 |_::_,[],_,_,_,_,h,_=>by simp at h
 | p::P,w::vs,0,m,nd,h1,h2,hk=>by
   simp at h1 h2;subst h1;subst h2;show bindL kindOf ((p,w)::P.zip vs) m p=_;unfold bindL;rw[qK fun v hv=>(List.nodup_cons.mp nd).1 (List.of_mem_zip hv).1,if_pos hk];simp
 | p::P,w::vs,i+1,m,nd,h1,h2,hk=>by
   show bindL kindOf ((p,w)::P.zip vs) m x=_;unfold bindL;exact oG (i:=i) (List.nodup_cons.mp nd).2 (by simpa using h1) (by simpa using h2) hk
theorem oO{kindOf:Str→Option NameKind}{x:Str}{v:Value}:∀ {P:List Str} {vs:List Value} {i:Nat} {m:Str→Option Value},P.Nodup→P[i]? =some x→vs[i]? =some v→kindOf x≠some .local→
   bindC kindOf (P.zip vs) m x=some v
 |[],_,_,_,_,h,_,_=>by simp at h
 |_::_,[],_,_,_,_,h,_=>by simp at h
 | p::P,w::vs,0,m,nd,h1,h2,hk=>by
   simp at h1 h2;subst h1;subst h2;show bindC kindOf ((p,w)::P.zip vs) m p=_;unfold bindC;rw[nh fun v hv=>(List.nodup_cons.mp nd).1 (List.of_mem_zip hv).1,if_neg hk];simp
 | p::P,w::vs,i+1,m,nd,h1,h2,hk=>by
   show bindC kindOf ((p,w)::P.zip vs) m x=_;unfold bindC;exact oO (i:=i) (List.nodup_cons.mp nd).2 (by simpa using h1) (by simpa using h2) hk
def start(N:List Str)(vs:List V):St:=vs.map some++List.replicate (N.length - vs.length) none
noncomputable def fM(CX:cN)(P:Program)(w:World)(K:PySem.W.Frag)(mg:Str→Option Value)(base:Heap)(N:List Str)(qual:Str)(scope:Scope)(f:Addr)(cd:Value)(A:Around)(outer:List Env)(s:Shared)(H:Hp)(E:XK):Cx where
 prog:=P
 w:=w
 K:=K
 mg:=mg
 base:=base
 A:=A.deeper (envOfC qual scope s.heap.objs.size f cd)
 N:=N
 bE:=s
 jb:=H
 env:=envOfC qual scope s.heap.objs.size f cd
 outer:=outer
 stack:=envOfC qual scope s.heap.objs.size f cd::outer
 ex:=[]
 calm:=true
 fn:=fun _=>true
 pn:=[]
 xe:=fun e s'=>wpAny (model P w) (A.deeper (envOfC qual scope s.heap.objs.size f cd)) (leaving (envOfC qual scope s.heap.objs.size f cd) e) (fun _ FF=>CX outer H s E e FF) (fun e' FF=>CX outer H s E e' FF) s'
theorem nq{sc:Scope}{n:Nat}{x:Str}(h:sc.names.lookup x=some .cell):∃c,(cellsFrom n sc.names []).lookup x=some c:=by
 have q:=PySem.W.cellsFrom_some sc.names n [] (.inl h);exact Option.isSome_iff_exists.mp q
theorem zb{CX:cN}{P:Program}{w:World}{K:PySem.W.Frag}{mg:Str→Option Value}{base:Heap}{N ps:List Str}{qual:Str}{scope:Scope}{f:Addr}{cd:Value}{A:Around}{outer:List Env}{s s1:Shared}{H:Hp}{E:XK}{us:List Value}{vs:List V}
   (S:bT N ps scope) (hd:A.handled=none) (e0:gq P w K mg base A outer s H) (hl:vs.length=ps.length) (r:Vals vs us)
   (x:InCallC s s.heap.objs.size (bindL (envOfC qual scope s.heap.objs.size f cd).kindOf (ps.zip us) fun _=>none) (cellsFrom (s.heap.objs.size+1) scope.names []) (bindC (envOfC qual scope s.heap.objs.size f cd).kindOf (ps.zip us) fun _=>none) s1):
   Inv (fM CX P w K mg base N qual scope f cd A outer s H E) [] (start N vs) H s1:=by
 have CU:ps.length≤N.length:=by have:=congrArg List.length S.pre;rw[List.length_take]at this;omega
 obtain⟨h1,tk,rfl,hk⟩:=x.done;have FG:∀b:Addr,b∉(fM CX P w K mg base N qual scope f cd A outer s H E).ex:=fun b z=>absurd (show b∈([]:List Addr)from z) (by simp)
 refine⟨⟨e0.mod,S.kind,rfl,rfl,Nat.le_refl _,fun y z c h1 h2=>?_,fun y hy=>?_,fun y c _ h=>?_,fun _=>hd,Around.frames_deeper e0.frames,.inr ⟨rfl,rfl⟩,fun b z=>absurd z (FG b),e0.bs,e0.fA,fun b _ _=>FG b,fun b z=>absurd z (FG b),e0.dw,e0.gk⟩,
   rfl,e0.bare,Un.kept hk,⟨_,x.toInCall.ns,fun i y v h1 h2 h3=>?_⟩,fun y c h=>⟨_,x.cell y c h⟩,e0.au.fresh (Nat.le_refl _),fun y c h=>?_,fun p hp=>absurd (show p∈([]:List (Addr×Obj))from hp) (by simp),e0.au.kept hk,?_⟩
 ·exact name_of_addr x.apart (PySem.mem_of_lookup h1) (PySem.mem_of_lookup h2)
 · have hy:scope.names.lookup y=some .cell∨scope.names.lookup y=some .free:=hy
   rcases hy with hy|hy
   ·exact nq hy
   ·exact absurd rfl (S.zI _ (PySem.mem_of_lookup hy))
 ·exact Nat.le_of_lt (x.above y c (PySem.mem_of_lookup h))
 · have hi:i<vs.length:=by
     unfold start at h2;by_cases hi:i<vs.length
     ·exact hi
     · rw[List.getElem?_append_right (by simpa using hi)]at h2
       rw[List.getElem?_replicate]at h2;split at h2<;>cases h2
   have ha:vs[i]? =some v:=by
     unfold start at h2;rw[List.getElem?_append_left (by simpa using hi),List.getElem?_map]at h2
     cases e:vs[i]? with
     |none=>rw[e]at h2;cases h2
     |some a=>rw[e]at h2;cases h2;rfl
   obtain⟨u,hu,rv⟩:=r.get ha
   have hp:ps[i]? =some y:=by
     rw[←S.pre,List.getElem?_take_of_lt (by omega)];exact h1
   have J1:ps.Nodup:=by rw[←S.pre];exact S.nd.sublist (List.take_sublist _ _)
   refine⟨u,rv,?_⟩;rcases S.par y (List.mem_of_getElem? hp)with k|k
   ·exact .inl ⟨k,oG J1 hp hu k⟩
   · obtain⟨c,e⟩:=nq (n:=s.heap.objs.size+1) k
     refine .inr ⟨.inl k,c,e,?_⟩;have q:=x.cell y c e;rw[oO J1 hp hu (by show scope.names.lookup y≠_;rw[k];decide)]at q
     exact q
 ·exact e0.au.fresh (Nat.le_of_lt (x.above y c (PySem.mem_of_lookup h)))
 · unfold start
   show _=N.length;rw[List.length_append,List.length_map,List.length_replicate];omega
theorem wB{CX:cN}{P:Program}{w:World}{K:PySem.W.Frag}{mg:Str→Option Value}{base:Heap}{k:Nat}{f:Addr}{name qual:Str}{params:Arguments}{body:List Stmt}{scope:Scope}{dV kV doc pm Cj ct oc:Value}{an od:Option Addr}
   {EN:Array (Option Value)} {N ps:List Str} {sp:Sp} (lk:K.lookup f=some ⟨oc,od,.func (PySem.W.fnOf name qual params body scope dV kV doc pm an Cj ct),EN⟩) (Cs:PySem.W.codeIn K Cj qual=true) (S:bT N ps scope)
   (len:∀vs H Q E,sp vs H Q E→vs.length=ps.length)
   (DQ:∀(A:Around) (outer:List Env) (s:Shared) (H:Hp) (vs:List V) (Q:VK) (E:XK),br k (A.deeper (envOfC qual scope s.heap.objs.size f Cj))→sp vs H Q E→
     ∃t,bu (fM CX P w K mg base N qual scope f Cj A outer s H E) body t∧t {nx:=fun _ H'=>Q .aq H',rt:=Q} (start N vs) H):
   b8 P w K mg base CX (k+1) f (PySem.W.fnOf name qual params body scope dV kV doc pm an Cj ct) ps sp:=by
 refine⟨len,fun A outer s H args us vs Q E hr e0 hb r Ed=>?_⟩;have hl:=len _ _ _ _ Ed;have KX:K.In s.heap:=e0.mod.mm.keeps fun b o e=>(e0.bs b o e).1;have lim:s.heap.NoLimit:=e0.mod.nolimit.keeps fun b o e=>(e0.bs b o e).1
 have FJ:∀y∈ps.zip us,scope.names.lookup y.1=some .local∨(scope.names.lookup y.1=some .cell∧((cellsFrom (s.heap.objs.size+1) scope.names []).lookup y.1).isSome=true):=fun⟨n,v⟩ hy=>by
   rcases S.par n (List.of_mem_zip hy).1 with q|q
   ·exact .inl q
   ·exact .inr ⟨q,PySem.W.cellsFrom_some _ _ _ (.inl q)⟩
 refine codeAny_call_function hr.depth (KX _ _ lk) rfl S.co S.gen rfl (PySem.W.codeRec_of KX Cs) (hb _ _ _ _ ?_);refine wpAny_newFunctionEnv_cells S.kind FJ fun env he s1 x=>?_;subst he;refine⟨lim.keeps x.toInCall.keep,codeAny_func ?_⟩;obtain⟨t,ht,hq⟩:=DQ A outer s H vs Q E (hr.deeper _) Ed;have I:Inv (fM CX P w K mg base N qual scope f Cj A outer s H E) [] (start N vs) H s1:=zb S hr.hd e0 hl r x;refine wpAny_mono (ht [] s1 (start N vs) H _ I hq) (fun fl s' hs=>?_) fun e s' hs=>hs
 have fin:∀ {B1:St} {H':Hp} {v:V} {u:Value},Inv (fM CX P w K mg base N qual scope f Cj A outer s H E) [] B1 H' s'→RelV v u→Q v H'→CE outer P w H s Q u s':=
   fun {B1 H' v u} J rv q=>⟨v,H',J.os,J.bare,J.base,J.au,rv,q⟩
 cases fl with
 | ret u=>
   obtain⟨v,B1,H',J,rv,q⟩:=hs;exact fin J rv q
 | next=>
   obtain⟨B1,H',J,q⟩:=hs;exact fin (v:=V.aq) (u:=Value.none) J rfl q
 | brk=>
   obtain⟨_,_,_,q⟩:=hs;exact False.elim q
 | cont=>
   obtain⟨_,_,_,q⟩:=hs;exact False.elim q
end L2
namespace L2
open PySem PySem.Spec PyProof.Rows
section
variable{X:Cx}{x:Str}{p pos:Pos}{e:Expr}{es:List Expr}{t:TA}{id T:String}{r:List V→Hp→VK→Prop}
def nc(r:List V→Hp→VK→Prop)(t:TA):TE:=fun σ H Q=>t σ H fun vs H1=>r vs H1 Q
theorem kq(hc:aW X (.builtin id) r)(hg:Gl X x)(hm:X.mg x=none)(hv:bootBuiltins x=some (.builtin id))(ha:PA X (e::es) t)(hn:x≠"__name__":=by decide)(CI:(x==("__debug__":Str))=false:=by decide)
   (he:starEach (e::es) X.env=(false,eval e X.env)::starEach es X.env:=by rfl) (CU:(backTo pos (starEach es X.env)).any (·.1)=false:=by rfl):PE X (.Call (.Name x p) (e::es) [] pos) (nc r t):=by
 intro pins s σ H Q I h;refine wpAny_Call_Name_kw (eN I hg hm hv ?_ hn CI);exact PyProof.Rows.callWith_builtin1 (ao (ha pos pins s σ H _ I h) fun us s1 ⟨vs,H1,I1,r1,q1⟩=>hc pins s1 σ H1 vs us Q I1 r1 q1) he CU
theorem y1(hc:aW X (.type T) r)(hg:Gl X x)(hm:X.mg x=none)(hv:bootBuiltins x=some (.type T))(ha:PA X (e::es) t)(hn:x≠"__name__":=by decide)(CI:(x==("__debug__":Str))=false:=by decide)
   (he:starEach (e::es) X.env=(false,eval e X.env)::starEach es X.env:=by rfl) (CU:(backTo pos (starEach es X.env)).any (·.1)=false:=by rfl):PE X (.Call (.Name x p) (e::es) [] pos) (nc r t):=by
 intro pins s σ H Q I h;refine wpAny_Call_Name_kw (eN I hg hm hv ?_ hn CI);exact PyProof.Rows.callWith_type1 (ao (ha pos pins s σ H _ I h) fun us s1 ⟨vs,H1,I1,r1,q1⟩=>hc pins s1 σ H1 vs us Q I1 r1 q1) he CU
end
end L2
namespace HT
open PySem PyProof.Rows
section
open PySem.SeqAt
open PySem.AutoSeq1 (wpAny_loadPart')
open PySem.MeetsSeq PySem.MeetsSeq2 PySem.MeetsSeq3
end
section
variable{prog:Program}{w:World}{A:Around}{E:Value→Shared→Prop}{s:Shared}
theorem yd{t b:Addr}{vs ws:List Value}{Q:Value→Shared→Prop}(ht:IsTup s.heap t vs.toArray)(hb:IsTup s.heap b ws.toArray)(hv:vs≠[])
   (h1:ws=[]→Q (.ref t) s) (h2:ws≠[]→Q (.ref s.heap.objs.size) {s with heap:=s.heap.push {cls:=.type "tuple",data:=.seq (vs++ws).toArray} })
   (hsz:vs.length+ws.length≤sizeLine):wpAny (model prog w) A (binaryOp .Add (.ref t) (.ref b)) Q E s:=by
 obtain⟨⟨cls,dd,data,sl⟩,ho,hc,n,hd⟩:=id ht;obtain⟨⟨MV,Jq,data2,ED⟩,Ej,GO,n2,hd2⟩:=id hb;simp only at hc hd GO hd2;subst hc hd GO hd2;have e:vs.toArray++ws.toArray=(vs++ws).toArray:=by simp
 by_cases hw:ws=[]
 · exact concat_meets ⟨_,ho,rfl⟩ ⟨_,Ej,rfl⟩ noFill_tuple_add seq_tuple_add PySem.F.slot_tuple_add PySem.F.entry_tuple_add (PySem.F.args_tuple_add_2 _ _)
     (tuple_addW1 t b vs.toArray ws.toArray n n2 dd Jq sl ED (by simpa using hv) (by simp[hw])) ⟨ho,Ej,h1 hw⟩
 · refine concat_meets ⟨_,ho,rfl⟩ ⟨_,Ej,rfl⟩ noFill_tuple_add seq_tuple_add PySem.F.slot_tuple_add PySem.F.entry_tuple_add (PySem.F.args_tuple_add_2 _ _)
     (tuple_addW2 t b vs.toArray ws.toArray n n2 dd Jq sl ED (by simpa using hv) (by simpa using hw) (by rw[List.size_toArray,List.size_toArray];exact hsz)) ⟨ho,Ej,?_⟩
   rw[e];exact h2 hw
def aA(n d:Nat):Option Int→Nat
 |none=>d
 |some v=>if v<0 then(v+(n:Int)).toNat else min v.toNat n
theorem yS(n d:Nat)(hd:d≤n)(o:Option Int):aA n d o≤n:=by
 cases o with
 |none=>exact hd
 | some v=>
   show(if v<0 then(v+(n:Int)).toNat else min v.toNat n)≤n
   by_cases hv:v<0
   ·rw[if_pos hv];omega
   ·rw[if_neg hv];exact Nat.min_le_right _ _
theorem oD(v:Int)(n d:Nat):(if v<0 then max (v+(n:Int)) 0 else min v (n:Int))=((aA n d (some v):Nat):Int):=by
 show(if v<0 then max (v+(n:Int)) 0 else min v (n:Int))=(((if v<0 then(v+(n:Int)).toNat else min v.toNat n):Nat):Int)
 by_cases hv:v<0
 ·simp only[if_pos hv];omega
 ·simp only[if_neg hv];omega
theorem yF(lo hi:Option Int)(n:Nat):Builtin.Slice.sliceAdjust lo hi 1 (n:Int)=(((aA n 0 lo:Nat):Int),((aA n n hi:Nat):Int)):=by
 have h1:¬((1:Int)<0):=by omega
 unfold Builtin.Slice.sliceAdjust;simp only[h1,if_false];refine Prod.ext ?_ ?_
 · cases lo with
   |none=>rfl
   |some v=>exact oD v n 0
 · cases hi with
   |none=>rfl
   |some v=>exact oD v n n
theorem vH(i j:Nat):Builtin.Slice.slicePlaces (i:Int) (j:Int) 1=j - i:=by
 unfold Builtin.Slice.slicePlaces;have h1:(1:Int)>0:=by omega
 simp only[h1,if_true,Int.ediv_one];split<;>omega
theorem pU{v:Value}{o:Option Int}{Q:Option Int→Shared→Prop}(p:IsPart v o)(h:Q o s):wpAny (model prog w) A (Builtin.Slice.slicePartIndex v) Q E s:=by
 cases p with
 |none=>exact slicePart_none h
 |int i t=>exact slicePart_int h
theorem tI{sl:Addr}{vl vu:Value}{lo hi:Option Int}{n:Nat}{Q:Int×Int×Nat→Shared→Prop}(hs:s.heap.IsSliceOf sl vl vu .none)(pl:IsPart vl lo)(pu:IsPart vu hi)
   (h:Q (((aA n 0 lo:Nat):Int),1,aA n n hi - aA n 0 lo) s):wpAny (model prog w) A (Builtin.Slice.sliceApplied (.ref sl) (pure (n:Int))) Q E s:=by
 obtain⟨os,Fy,Ei,GR⟩:=id hs;unfold Builtin.Slice.sliceApplied Builtin.Slice.sliceFields;refine wpAny_bind (wpAny_bind (wpAny_field Fy GR (x:=vl) rfl (wpAny_bind (wpAny_field Fy GR (x:=vu) rfl (wpAny_bind (wpAny_field Fy GR (x:=.none) rfl (wpAny_pure ?_)))))));refine wpAny_bind (slicePart_none ?_);show wpAny _ _ (if((1:Int)==0)=true then _ else _) _ _ s
 rw[if_neg (by decide)]
 refine wpAny_bind (pU pl (wpAny_bind (pU pu (wpAny_bind (wpAny_pure ?_)))));show wpAny _ _ (match Builtin.Slice.sliceAdjust lo hi 1 (n:Int)with|(lo,hi)=>pure (lo,(1:Int),Builtin.Slice.slicePlaces lo hi 1)) _ _ s
 rw[yF lo hi n];show wpAny _ _ (pure (((aA n 0 lo:Nat):Int),(1:Int),Builtin.Slice.slicePlaces ((aA n 0 lo:Nat):Int) ((aA n n hi:Nat):Int) 1)) _ _ s;rw[vH];exact wpAny_pure h
theorem xU(xs:Array Value)(i k:Nat):((List.range k).filterMap fun(m:Nat)=>xs[((i:Int)+(m:Int)*1).toNat]?).toArray=((xs.toList.drop i).take k).toArray:=by
 have e:(fun(m:Nat)=>xs[((i:Int)+(m:Int)*1).toNat]?)=fun m=>xs[i+m]? :=by
   funext m;have:((i:Int)+(m:Int)*1).toNat=i+m:=by omega
   rw[this]
 rw[e];have:=pick_run xs i k;rw[List.filterMap_map]at this;have e2:((fun x=>xs[x]?)∘fun x=>i+x)=fun m=>xs[i+m]? :=rfl;rw[e2]at this;rw[this]
theorem v3{t sl:Addr}{items:Array Value}{vl vu:Value}{lo hi:Option Int}{Q:Value→Shared→Prop}(ht:IsTup s.heap t items)(hs:s.heap.IsSliceOf sl vl vu .none)(pl:IsPart vl lo)(pu:IsPart vu hi)
   (hw:¬(aA items.size 0 lo=0∧aA items.size items.size hi=items.size))
   (h:Q (.ref s.heap.objs.size) {s with heap:=s.heap.push {cls:=.type "tuple",data:=.seq ((items.toList.drop (aA items.size 0 lo)).take (aA items.size items.size hi - aA items.size 0 lo)).toArray} })
   (hsz:items.size≤sizeLine):wpAny (model prog w) A (getItem (.ref t) (.ref sl)) Q E s:=by
 have Dr:sizeOk (.seq ((items.toList.drop (aA items.size 0 lo)).take (aA items.size items.size hi - aA items.size 0 lo)).toArray):=by
   show((items.toList.drop (aA items.size 0 lo)).take (aA items.size items.size hi - aA items.size 0 lo)).toArray.size≤sizeLine;rw[List.size_toArray,List.length_take,List.length_drop,Array.length_toList];omega
 have hj:aA items.size items.size hi≤items.size:=yS _ _ (Nat.le_refl _) hi;obtain⟨os,Fy,Ei,GR⟩:=id hs;have KP:s.TypeIs (.ref sl) "slice":=⟨os,Fy,Ei⟩;unfold getItem
 try with_reducible refine wpAny_holding ?_
 first|refine wpAny_bind (wpAny_pure ?_)|skip
 refine wpAny_bind (wpAny_sequenceKey ht.typeIs (by decide) ?_)
 refine wpAny_bind (wpAny_callSpecial?_slot (name:=Str.ofString "__getitem__") ht.typeIs PyProof.Rows.slot_tuple_getitem
   (wpAny_call_entry PyProof.Rows.slot_tuple_getitem ht.typeIs entry_tuple_getitem ?_ (args_tuple_getitem _ _)))
 show wpAny _ _ (Builtin.Tuple.tupleItemsOf (.ref t) >>= _) _ _ s;refine wpAny_bind (tupleItemsOf_ ht ?_);refine wpAny_bind (wpAny_typeOf KP ?_);rw[if_pos (by decide)]
 refine wpAny_bind (tI hs pl pu ?_)
 have H0:¬((((aA items.size 0 lo:Nat):Int)==0&&(1:Int)==1&&(aA items.size items.size hi - aA items.size 0 lo)==items.size)=true):=by
   intro q;rw[Bool.and_eq_true,Bool.and_eq_true]at q;have q1:((aA items.size 0 lo:Nat):Int)=0:=eq_of_beq q.1.1;have q2:aA items.size items.size hi - aA items.size 0 lo=items.size:=eq_of_beq q.2;exact hw ⟨by omega,by omega⟩
 show wpAny _ _ (if(((aA items.size 0 lo:Nat):Int)==0&&(1:Int)==1&&(aA items.size items.size hi - aA items.size 0 lo)==items.size)=true then _ else _) _ _ s
 rw[if_neg H0,xU]
 first
   |exact wpAny_bind (m:=Builtin.Tuple.tupleExact _) (wpAny_newObj_type (wpAny_pure ⟨_,rfl,wpAny_pure h⟩) Dr)
   |exact wpAny_bind (m:=Builtin.Tuple.tupleExact _) (wpAny_newObj_type (wpAny_bind (wpAny_pure (wpAny_pure ⟨_,rfl,wpAny_pure h⟩))) Dr)
   |exact wpAny_bind (wpAny_bind (m:=Builtin.Tuple.tupleExact _) (wpAny_newObj_type (wpAny_pure (wpAny_pure ⟨_,rfl,wpAny_pure h⟩)) Dr))
   |exact wpAny_bind (wpAny_bind (m:=Builtin.Tuple.tupleExact _) (wpAny_newObj_type (wpAny_pure ⟨_,rfl,wpAny_pure h⟩) Dr))
end
end HT
namespace L2
open PySem PySem.Spec PyProof.Rows
abbrev TO:=St→Hp→(Option Int→Hp→Prop)→Prop
def PO(X:Cx)(e:Option Expr)(t:TO):Prop:=
 ∀(pins:List (Addr×Obj)) (s:Shared) (σ:St) (H:Hp) (Q:Option Int→Hp→Prop),Inv X pins σ H s→t σ H Q→
   wpAny (model X.prog X.w) X.A (evalPart e X.env) (fun u s'=>∃o H',Inv X pins σ H' s'∧IsPart u o∧Q o H') X.xe s
def vN:TO:=fun _ H Q=>Q none H
def sG(t:TE):TO:=fun σ H Q=>t σ H fun x H1=>∃i,x=.int i∧Q (some i) H1
section
variable{X:Cx}{e:Expr}{te:TE}{lo hi:Option Expr}{tl th:TO}{pos p2:Pos}
theorem vX:PO X none vN:=by
 intro pins s σ H Q I h;rw[evalPart_none];exact wpAny_pure ⟨none,H,I,.none,h⟩
theorem A7(h:PE X e te):PO X (some e) (sG te):=by
 intro pins s σ H Q I hw;rw[evalPart_some];refine ao (h pins s σ H _ I hw) fun u s1 ⟨x,H1,I1,r1,q1⟩=>?_;obtain⟨i,rfl,q⟩:=q1;obtain⟨t,rfl⟩:=r1;exact⟨some i,H1,I1,.int i t,q⟩
def fH(X:Cx)(r:V→Option Int→Option Int→Hp→VK→Prop):Prop:=
 ∀(pins:List (Addr×Obj)) (s:Shared) (σ:St) (H:Hp) (x:V) (v vl vu:Value) (lo hi:Option Int) (sl:Addr) (Q:VK),Inv X pins σ H s→RelV x v→s.heap.IsSliceOf sl vl vu .none→IsPart vl lo→IsPart vu hi→r x lo hi H Q→
   ∃T id,typeLookup (.type T) "__getitem__"=pure (some (.builtin id))∧s.TypeIs v T∧wpAny (model X.prog X.w) X.A (getItem v (.ref sl)) (EP X pins σ Q) X.xe s
theorem fH.or{r r':V→Option Int→Option Int→Hp→VK→Prop}(h:fH X r)(h':fH X r'):fH X (fun x lo hi H Q=>r x lo hi H Q∨r' x lo hi H Q):=by
 intro pins s σ H x v vl vu lo hi sl Q I rx hs pl pu q;rcases q with q|q
 ·exact h pins s σ H x v vl vu lo hi sl Q I rx hs pl pu q
 ·exact h' pins s σ H x v vl vu lo hi sl Q I rx hs pl pu q
def uz(r:V→Option Int→Option Int→Hp→VK→Prop)(te:TE)(tl th:TO):TE:=fun σ H Q=>te σ H fun x H1=>tl σ H1 fun l H2=>th σ H2 fun u H3=>r x l u H3 Q
theorem xr{r:V→Option Int→Option Int→Hp→VK→Prop}(hr:fH X r)(he:PE X e te)(hl:PO X lo tl)(hu:PO X hi th):PE X (.Subscript e (.Slice lo hi none p2) pos) (uz r te tl th):=by
 intro pins s σ H Q I h;refine Subscript_ (ao (he pins s σ H _ I h) fun v s1 ⟨x,H1,I1,r1,q1⟩=>?_);refine wpAny_Slice (ao (hl pins s1 σ H1 _ I1 q1) fun vl s2 ⟨l,H2,I2,pl,q2⟩=>ao (hu pins s2 σ H2 _ I2 q2) fun vu s3 ⟨u,H3,I3,pu,q3⟩=>?_);rw[evalPart_none];refine wpAny_pure ?_;have I4:Inv X pins σ H3 {s3 with heap:=s3.heap.push {cls:=.type "slice",data:=.fields #[vl,vu,.none]} }:=I3.kept (t':=s3.toks) fun b ob q=>Heap.get?_push_of_some _ q;obtain⟨T,id,hT,ht,hg⟩:=hr pins {s3 with heap:=s3.heap.push {cls:=.type "slice",data:=.fields #[vl,vu,.none]} } σ H3 x v vl vu l u s3.heap.objs.size Q I4 r1 (Heap.IsSliceOf.new ..) pl pu q3;show wpAny (model X.prog X.w) X.A (subscriptTail e (.Slice lo hi none p2) v (.ref s3.heap.objs.size)) (EP X pins σ Q) X.xe {s3 with heap:=s3.heap.push {cls:=.type "slice",data:=.fields #[vl,vu,.none]} };exact tail_any (ops:=[.ref s3.heap.objs.size,v]) ht hT hg (by with_unfolding_all rfl)
def ft(xs:List V)(lo hi:Option Int):List V:=(xs.drop (HT.aA xs.length 0 lo)).take (HT.aA xs.length xs.length hi - HT.aA xs.length 0 lo)
theorem pf(xs:List V)(lo hi:Option Int):(ft xs lo hi).length≤xs.length:=by
 unfold ft;rw[List.length_take,List.length_drop];omega
def A2(K:PySem.W.Frag):V→Option Int→Option Int→Hp→VK→Prop:=fun x lo hi H Q=>∃a xs,x=.ref a∧aT K H a xs∧
 ¬(HT.aA xs.length 0 lo=0∧HT.aA xs.length xs.length hi=xs.length)∧∀p,H p=none→Q (.ref p) (upd H p (.tup (ft xs lo hi)))
theorem xC:fH X (A2 X.K):=by
 intro pins s σ H x v vl vu lo hi sl Q I rx hs pl pu h;obtain⟨a,xs,rfl,hx,hw,q⟩:=h;cases rx;obtain⟨y',r,ht,hz⟩:=I.tuple hx;have hlen:y'.toArray.size=xs.length:=by rw[List.size_toArray];exact r.length.symm
 refine⟨"tuple",_,PyProof.Rows.slot_tuple_getitem.lookup,ht.typeIs,?_⟩;refine HT.v3 ht hs pl pu (by rw[hlen];exact hw) ?_ (by rw[hlen];exact hz)
 rw[hlen];refine⟨.ref s.heap.objs.size,_,I.laid (t':=s.toks) (o:=.tup (ft xs lo hi)) (fun b ob q=>Heap.get?_push_of_some _ q) (Nat.le_refl _) ?_,rfl,q _ (I.au.fresh (Nat.le_refl _))⟩;exact⟨Nat.le_trans (pf xs lo hi) hz,_,(r.drop (HT.aA xs.length 0 lo)).take (HT.aA xs.length xs.length hi - HT.aA xs.length 0 lo),IsTup.new _ _⟩
noncomputable def rg(K:PySem.W.Frag):R2:=fun x y H Q=>∃a b xs ys,x=.ref a∧y=.ref b∧aT K H a xs∧aT K H b ys∧xs≠[]∧xs.length+ys.length≤sizeLine∧
 (ys=[]→Q (.ref a) H)∧(ys≠[]→∀p,H p=none→Q (.ref p) (upd H p (.tup (xs++ys))))
theorem Vals.mx{xs:List V}{us:List Value}(r:Vals xs us):us=[]↔xs=[]:=by
 cases r with
 |nil=>simp
 |cons _ _=>simp
theorem z7:aH X (binaryOp .Add) (rg X.K):=by
 intro pins s σ H x y v u Q I rx ry h;obtain⟨a,b,xs,ys,rfl,rfl,ha,hb,hx,hz,q1,q2⟩:=h;cases rx;cases ry;obtain⟨y',r1,p1,_⟩:=I.tuple ha;obtain⟨DP,r2,p2,_⟩:=I.tuple hb;refine HT.yd p1 p2 (fun z=>hx (r1.mx.mp z)) (fun z=>⟨.ref a,H,I,rfl,q1 (r2.mx.mp z)⟩) (fun z=>?_) (by rw[←r1.length, ←r2.length];exact hz)
 refine⟨.ref s.heap.objs.size,_,I.laid (t':=s.toks) (o:=.tup (xs++ys)) (fun b ob q=>Heap.get?_push_of_some _ q) (Nat.le_refl _) ?_,rfl,q2 (fun w=>z (r2.mx.mpr w)) _ (I.au.fresh (Nat.le_refl _))⟩;exact⟨by rw[List.length_append];exact hz,_,r1.append r2,IsTup.new _ _⟩
end
end L2
namespace L2
open PySem PySem.Spec PyProof.Rows
def dA(n:Nat)(i:Int):Option Nat:=if 0≤i then(if i<n then some i.toNat else none)else if -(n:Int)≤i then some (i+n).toNat else none
def aZ{α:Type}(xs:List α)(i:Int):Option α:=(dA xs.length i).bind fun j=>xs[j]?
theorem z6{n:Nat}{i:Int}{j:Nat}(h:dA n i=some j):seqIndex? i n=some j∧j<n∧ -(n:Int)≤i∧i<n:=by
 unfold dA at h;by_cases h0:0≤i
 · rw[if_pos h0]at h
   by_cases h1:i<n
   · rw[if_pos h1]at h
     have e:i.toNat=j:=Option.some.inj h;exact⟨by rw[seqIndex_of h0 h1,e],by omega,by omega,h1⟩
   ·rw[if_neg h1]at h;cases h
 · rw[if_neg h0]at h
   by_cases h1: -(n:Int)≤i
   · rw[if_pos h1]at h
     have e:(i+n).toNat=j:=Option.some.inj h;exact⟨by rw[seqIndex_neg (by omega) h1,e],by omega,h1,by omega⟩
   ·rw[if_neg h1]at h;cases h
theorem mw{α:Type}{xs:List α}{i:Int}{v:α}(h:aZ xs i=some v):∃j,seqIndex? i xs.length=some j∧xs[j]? =some v∧j<xs.length∧ -(xs.length:Int)≤i∧i<xs.length:=by
 unfold aZ at h;cases e:dA xs.length i with
 |none=>rw[e]at h;cases h
 | some j=>
   rw[e]at h;obtain⟨h1,h2,h3,h4⟩:=z6 e;exact⟨j,h1,h,h2,h3,h4⟩
def j2(b:Expr):Prop:=∀o i,subscripted b false o i=operate [o,i] (getItem o i)
def dD(X:Cx)(r:R2):Prop:=
 ∀(value slice:Expr) (pins:List (Addr×Obj)) (s:Shared) (σ:St) (H:Hp) (x y:V) (v u:Value) (Q:VK),Inv X pins σ H s→RelV x v→RelV y u→r x y H Q→
   subscripted slice false v u=operate [v,u] (getItem v u)→wpAny (model X.prog X.w) X.A (subscriptTail value slice v u) (EP X pins σ Q) X.xe s
def jm(X:Cx)(id:String)(r:V→List V→Hp→VK→Prop):Prop:=
 ∀(pins:List (Addr×Obj)) (s:Shared) (σ:St) (H:Hp) (x:V) (xs:List V) (v:Value) (us:List Value) (Q:VK),Inv X pins σ H s→RelV x v→Vals xs us→r x xs H Q→
   wpAny (model X.prog X.w) X.A (call (.builtin id) (v::us)) (EP X pins σ Q) X.xe s
section
variable{X:Cx}{a b:Expr}{ta tb:TE}{pos:Pos}
theorem dD.or{r r':R2}(h:dD X r)(h':dD X r'):dD X (fun x y H Q=>r x y H Q∨r' x y H Q):=by
 intro value slice pins s σ H x y v u Q I rx ry q hs;rcases q with q|q
 ·exact h value slice pins s σ H x y v u Q I rx ry q hs
 ·exact h' value slice pins s σ H x y v u Q I rx ry q hs
theorem jm.or{id:String}{r r':V→List V→Hp→VK→Prop}(h:jm X id r)(h':jm X id r'):jm X id (fun x xs H Q=>r x xs H Q∨r' x xs H Q):=by
 intro pins s σ H x xs v us Q I rx rs q;rcases q with q|q
 ·exact h pins s σ H x xs v us Q I rx rs q
 ·exact h' pins s σ H x xs v us Q I rx rs q
theorem sW{r:R2}(hr:dD X r)(ha:PE X a ta)(hb:PE X b tb)(hs:j2 b):PE X (.Subscript a b pos) (iS r ta tb):=by
 intro pins s σ H Q I h;exact Subscript_ (mS ha hb I h fun v u s2 x y H2 I2 rx ry q=>hr a b pins s2 σ H2 x y v u Q I2 rx ry q (hs _ _))
def rK(K:PySem.W.Frag):R2:=fun x y H Q=>∃p xs i v,x=.ref p∧y=.int i∧aO K H p xs∧aZ xs i=some v∧Q v H
def o6(K:PySem.W.Frag):R2:=fun x y H Q=>∃p xs i v,x=.ref p∧y=.int i∧aT K H p xs∧aZ xs i=some v∧Q v H
def nH:R2:=fun x y H Q=>∃z i c,x=.str z∧y=.int i∧z.length≤sizeLine∧aZ z.cps.toList i=some c∧Q (.str ⟨#[c]⟩) H
theorem yU:dD X (rK X.K):=by
 intro value slice pins s σ H x y v u Q I rx ry h hs;obtain⟨p,xs,i,z,rfl,rfl,hq,he,q⟩:=h;cases rx;obtain⟨t,rfl⟩:=ry;obtain⟨y',r,pl,hz⟩:=I.list hq;obtain⟨j,h1,h2,h3,h4,h5⟩:=mw he;obtain⟨w,ew,Dx⟩:=r.get h2;have hl:=r.length;have hn:=gI;have fin:EP X pins σ Q w s:=⟨z,H,I,Dx,q⟩;by_cases h0:0≤i
 · have hj:i.toNat=j:=by
     rw[seqIndex_of h0 h5]at h1;exact Option.some.inj h1
   exact item_listR pl.isList h0 (by omega) (by rw[hj];simpa using ew) fin hs
 · have hj:(i+(y'.toArray.size:Int)).toNat=j:=by
     rw[seqIndex_neg (by omega) h4]at h1
     rw[List.size_toArray, ←hl];exact Option.some.inj h1
   exact subscriptTail_builtinR (x:=w) pl.isList.typeIs slot_list_getitem.lookup
     (wpAny_getItem_list_neg (Q:=fun r s'=>r=w∧EP X pins σ Q r s') pl.isList (by omega) (by rw[List.size_toArray]<;>omega) (by omega) (by rw[hj];simpa using ew) ⟨rfl,fin⟩) hs
theorem gP:dD X (o6 X.K):=by
 intro value slice pins s σ H x y v u Q I rx ry h hs;obtain⟨p,xs,i,z,rfl,rfl,hq,he,q⟩:=h;cases rx;obtain⟨t,rfl⟩:=ry;obtain⟨y',r,pl,hz⟩:=I.tuple hq;obtain⟨j,h1,h2,h3,h4,h5⟩:=mw he;obtain⟨w,ew,Dx⟩:=r.get h2;have hl:=r.length;have hn:=gI;have fin:EP X pins σ Q w s:=⟨z,H,I,Dx,q⟩
 exact subscriptTail_builtinR (x:=w) pl.typeIs slot_tuple_getitem.lookup
   (getItem_tuple (j:=j) (Q:=fun r s'=>r=w∧EP X pins σ Q r s') pl (by omega) (by omega) (by rw[List.size_toArray, ←hl];exact h1) (by simpa using ew) ⟨rfl,fin⟩) hs
theorem z0:dD X nH:=by
 intro value slice pins s σ H x y v u Q I rx ry h hs;obtain⟨z,i,c,rfl,rfl,hz,he,q⟩:=h;obtain⟨t,rfl⟩:=rx;obtain⟨t',rfl⟩:=ry;obtain⟨j,h1,h2,h3,h4,h5⟩:=mw he;have hl:z.cps.toList.length=z.length:=by simp[Str.length]
 rw[hl]at h1 h4 h5;have hn:=gI
 exact tail_any (typeIs_str s z t) slot_str_getitem.lookup (getItem_str (c:=c) (by
   have e1:decide (i< -(2 ^ 63:Int))=false:=decide_eq_false (by omega)
   have e2:decide (i≥2 ^ 63)=false:=decide_eq_false (by omega)
   rw[e1,e2,Bool.or_false]) (by rw[h1];simpa using h2) ⟨.str ⟨#[c]⟩,H,I.tok _,⟨_,rfl⟩,q⟩) hs
def lN(K:PySem.W.Frag):R2:=fun x y H Q=>rK K x y H Q∨o6 K x y H Q∨nH x y H Q
theorem wY:dD X (lN X.K):=yU.or (gP.or z0)
theorem Inv.lst{pins:List (Addr×Obj)}{σ:St}{H:Hp}{s:Shared}{p:Addr}{xs:List V}(I:Inv X pins σ H s)(h:H p=some (.lst xs)):
   ∃(y':List Value) (n:Nat),Vals xs y'∧s.heap.get? p=some {cls:=.type "list",data:=.seq y'.toArray n}∧xs.length≤sizeLine:=by
 obtain⟨z,y',n,r,e⟩:=I.au p _ h;exact⟨y',n,r,e,z⟩
theorem zN(lo hi:Option Int)(n:Nat):(sliceBounds lo hi none n).1=((HT.aA n 0 lo:Nat):Int)∧(sliceBounds lo hi none n).2.1=((HT.aA n n hi:Nat):Int)∧(sliceBounds lo hi none n).2.2=1:=by
 refine⟨?_,?_,rfl⟩
 · cases lo with
   |none=>simp[sliceBounds,HT.aA]
   | some i=>
     simp only[sliceBounds,HT.aA,Option.getD_none,show(1:Int)>0 by decide,if_true]
     by_cases h:i<0
     ·simp only[h,if_true]<;>omega
     ·simp only[h,if_false]<;>omega
 · cases hi with
   |none=>simp[sliceBounds,HT.aA]
   | some i=>
     simp only[sliceBounds,HT.aA,Option.getD_none,show(1:Int)>0 by decide,if_true]
     by_cases h:i<0
     ·simp only[h,if_true]<;>omega
     ·simp only[h,if_false]<;>omega
theorem xv(y':List Value)(lo hi:Option Int):slicePick y'.toArray lo hi none=((y'.drop (HT.aA y'.length 0 lo)).take (HT.aA y'.length y'.length hi - HT.aA y'.length 0 lo)).toArray:=by
 obtain⟨h1,h2,h3⟩:=zN lo hi y'.toArray.size;unfold slicePick;rw[h1,h2,h3];simp only[sliceRange_one,pick_run,List.size_toArray]<;>rfl
def yt(K:PySem.W.Frag):V→Option Int→Option Int→Hp→VK→Prop:=fun x lo hi H Q=>∃a xs,x=.ref a∧aO K H a xs∧∀p,H p=none→Q (.ref p) (upd H p (.lst (ft xs lo hi)))
theorem xg:fH X (yt X.K):=by
 intro pins s σ H x v vl vu lo hi sl Q I rx hs pl pu h;obtain⟨a,xs,rfl,hx,q⟩:=h;cases rx;obtain⟨y',r,ht,hz⟩:=I.list hx;have hlen:=r.length;refine⟨"list",_,slot_list_getitem.lookup,ht.isList.typeIs,?_⟩;refine wpAny_getItem_list_slice ht.isList hs pl pu .none (by simp) ?_ (by rw[List.size_toArray]<;>omega)
 rw[xv, ←hlen];refine⟨.ref s.heap.objs.size,_,I.laid (t':=s.toks) (o:=.lst (ft xs lo hi)) (fun b ob q=>Heap.get?_push_of_some _ q) (Nat.le_refl _) ?_,rfl,q _ (I.au.fresh (Nat.le_refl _))⟩;exact⟨Nat.le_trans (pf xs lo hi) hz,_,0,(r.drop (HT.aA xs.length 0 lo)).take (HT.aA xs.length xs.length hi - HT.aA xs.length 0 lo),Heap.get?_push_size _ rfl⟩
def gw:V→Bool
 |.aq=>true
 |.bl _=>true
 |.int _=>true
 |.str _=>true
 |_=>false
noncomputable def fL:V→V→Bool
 |.aq,.aq=>true
 |.bl a,.bl b=>a==b
 |.bl a,.int b=>(if a then 1 else 0)==b
 |.int a,.bl b=>a==(if b then 1 else 0)
 |.int a,.int b=>a==b
 |.str a,.str b=>a==b
 |_,_=>false
theorem xu{A:Around}{s:Shared}{y x:V}{u v:Value}(ry:RelV y u)(rx:RelV x v)(fy:gw y=true)(fx:gw x=true):SeqAt.EqAt A s u v (fL y x):=by
 cases y with
 | aq=>
   cases ry;cases x with
   |aq=>cases rx;exact SeqAt.EqAt.same _
   |bl b=>cases rx;exact SeqAt.EqAt.none_bool b
   |int b=>obtain⟨t,rfl⟩:=rx;exact SeqAt.EqAt.none_int b t
   |str b=>obtain⟨t,rfl⟩:=rx;exact SeqAt.EqAt.none_str b t
   |_=>exact absurd (show false=true from fx) Bool.false_ne_true
 | bl a=>
   cases ry;cases x with
   |aq=>cases rx;exact SeqAt.EqAt.bool_none a
   |bl b=>cases rx;exact SeqAt.EqAt.bool_bool a b
   |int b=>obtain⟨t,rfl⟩:=rx;exact SeqAt.EqAt.bool_int a b t
   |str b=>obtain⟨t,rfl⟩:=rx;exact SeqAt.EqAt.bool_str a b t
   |_=>exact absurd (show false=true from fx) Bool.false_ne_true
 | int a=>
   obtain⟨t',rfl⟩:=ry;cases x with
   |aq=>cases rx;exact SeqAt.EqAt.int_none a t'
   |bl b=>cases rx;exact SeqAt.EqAt.int_bool a t' b
   |int b=>obtain⟨t,rfl⟩:=rx;exact SeqAt.EqAt.int_int a t' b t
   |str b=>obtain⟨t,rfl⟩:=rx;exact SeqAt.EqAt.int_str a t' b t
   |_=>exact absurd (show false=true from fx) Bool.false_ne_true
 | str a=>
   obtain⟨t',rfl⟩:=ry;cases x with
   |aq=>cases rx;exact SeqAt.EqAt.str_none a t'
   |bl b=>cases rx;exact SeqAt.EqAt.str_bool a t' b
   |int b=>obtain⟨t,rfl⟩:=rx;exact SeqAt.EqAt.str_int a t' b t
   |str b=>obtain⟨t,rfl⟩:=rx;exact SeqAt.EqAt.str_str a t' b t
   |_=>exact absurd (show false=true from fx) Bool.false_ne_true
 |_=>exact absurd (show false=true from fy) Bool.false_ne_true
def jO(x:V)(u:Value):Bool:=match u with
 |.none=>fL .aq x
 |.bool b=>fL (.bl b) x
 |.int i _=>fL (.int i) x
 |.str z _=>fL (.str z) x
 |_=>false
theorem qI{x y:V}{u:Value}(r:RelV y u)(f:gw y=true):jO x u=fL y x:=by
 cases y with
 |aq=>cases r;rfl
 |bl b=>cases r;rfl
 |int i=>obtain⟨t,rfl⟩:=r;rfl
 |str z=>obtain⟨t,rfl⟩:=r;rfl
 |_=>exact absurd (show false=true from f) Bool.false_ne_true
theorem oZ{A:Around}{s:Shared}{x:V}{v:Value}(rx:RelV x v)(fx:gw x=true):∀ {xs:List V} {us:List Value},Vals xs us→xs.all gw=true→∀u∈us,SeqAt.EqAt A s u v (jO x u)
 |_,_,.nil,_=>fun u hu=>by cases hu
 | y::xs,u::us,.cons r t,f=>fun u' hu=>by
   rw[List.all_cons,Bool.and_eq_true]at f;rcases List.mem_cons.mp hu with rfl|hu
   ·rw[qI r f.1];exact xu r rx f.1 fx
   ·exact oZ rx fx t f.2 u' hu
theorem wV:aW X (.builtin "len") (fun xs H Q=>∃p ys,xs=[.ref p]∧(aO X.K H p ys∨aT X.K H p ys)∧Q (.int ys.length) H):=by
 intro pins s σ H xs us Q I r h;obtain⟨p,ys,rfl,hq,q⟩:=h;obtain⟨u,rfl,rx⟩:=vals1 r;cases rx;have hn:=gI;rcases hq with hq|hq
 · obtain⟨y',r',pl,hz⟩:=I.list hq
   have hlen:=r'.length;exact Calls.call_len_list pl.isList (by simp only[List.size_toArray]<;>omega) ⟨.int ys.length,H,I.tok _,⟨s.toks+1,by rw[List.size_toArray,hlen]⟩,q⟩
 · obtain⟨y',r',pl,hz⟩:=I.tuple hq
   have hlen:=r'.length;exact len_tuple pl (by simp only[List.size_toArray]<;>omega) ⟨.int ys.length,H,I.tok _,⟨s.toks+1,by rw[List.size_toArray,hlen]⟩,q⟩
theorem wu:aW X (.builtin "len") (fun xs H Q=>∃z,xs=[.str z]∧z.length≤sizeLine∧Q (.int z.length) H):=by
 intro pins s σ H xs us Q I r h;obtain⟨z,rfl,hz,q⟩:=h;obtain⟨u,rfl,t,rfl⟩:=vals1 r;have hn:=gI;exact len_str (by omega) ⟨.int z.length,H,I.tok _,⟨_,rfl⟩,q⟩
theorem aW.or{f:Value}{r r':List V→Hp→VK→Prop}(h:aW X f r)(h':aW X f r'):aW X f (fun xs H Q=>r xs H Q∨r' xs H Q):=by
 intro pins s σ H xs us Q I rs q;rcases q with q|q
 ·exact h pins s σ H xs us Q I rs q
 ·exact h' pins s σ H xs us Q I rs q
theorem mn:aW X (.type "tuple") (fun xs H Q=>∃p ys,xs=[.ref p]∧((aO X.K H p ys∧∀l,H l=none→Q (.ref l) (upd H l (.tup ys)))∨(aT X.K H p ys∧Q (.ref p) H))):=by
 intro pins s σ H xs us Q I r h;obtain⟨p,ys,rfl,h⟩:=h;obtain⟨u,rfl,rx⟩:=vals1 r;cases rx;rcases h with⟨hq,q⟩|⟨hq,q⟩
 · obtain⟨y',r',pl,hz⟩:=I.list hq
   have hlen:=r'.length;refine call_tuple_list pl.isList (fun h' kp=>?_) (by simp only[List.size_toArray]<;>omega)
   have I1:Inv X pins σ H {s with heap:=h'}:=I.kept (t':=s.toks) kp
   have I2:Inv X pins σ (upd H h'.objs.size (.tup ys)) {s with heap:=h'.push {cls:=.type "tuple",data:=.seq y'.toArray} }:=
     I1.laid (t':=s.toks) (fun b o e=>Heap.get?_push_of_some _ e) (Nat.le_refl _) (show bL X.prog X.w _ _ _ (.tup ys)from⟨hz,y',r',IsTup.new _ _⟩)
   exact⟨.ref h'.objs.size,_,I2,rfl,q _ (I1.au.fresh (Nat.le_refl _))⟩
 · obtain⟨y',r',pl,hz⟩:=I.tuple hq
   exact call_tuple_same pl ⟨.ref p,H,I,rfl,q⟩
def qw(K:PySem.W.Frag)(T:String)(x:V)(H:Hp):Prop:=match x with
 |.str _=>T="str"
 |.int _=>T="int"
 |.ref p=>(T="list"∧∃xs,aO K H p xs)∨(T="tuple"∧∃o,K.lookup p=some o∧o.cls=.type "tuple"∧o.dict=none)∨
     (T="dict"∧((∃kvs,H p=some (.dK kvs))∨∃kvs,H p=some (.dT kvs)))∨(T="set"∧∃S n,H p=some (.set S n))
 |_=>False
theorem vc{pins:List (Addr×Obj)}{σ:St}{H:Hp}{s:Shared}{T:String}{x:V}{v:Value}(I:Inv X pins σ H s)(r:RelV x v)(ty:qw X.K T x H):
   s.TypeIs v T∧∀a,v=.ref a→∃ob,s.heap.get? a=some ob∧ob.dict=none:=by
 cases x with
 | str z=>
   obtain⟨t,rfl⟩:=r;cases (show T="str" from ty)
   exact⟨typeIs_str s z t,fun _ e=>nomatch e⟩
 | int i=>
   obtain⟨t,rfl⟩:=r;cases (show T="int" from ty)
   exact⟨typeIs_int s i t,fun _ e=>nomatch e⟩
 | ref p=>
   cases r;rcases ty with⟨rfl,xs,hq⟩|⟨rfl,o,hk,hc,hd⟩|⟨rfl,hk⟩|⟨rfl,S,n,hk⟩
   · obtain⟨y',_,pl,_⟩:=I.list hq
     refine⟨pl.isList.typeIs,fun a e=>?_⟩;cases e;obtain⟨o,n,e,c,hd,_⟩:=pl;exact⟨o,e,hd⟩
   · refine⟨⟨o,I.bS p o hk,hc⟩,fun a e=>?_⟩
     cases e;exact⟨o,I.bS _ o hk,hd⟩
   · have z:∃o,s.heap.get? p=some o∧o.ExactDict:=by
       rcases hk with⟨kvs,hk⟩|⟨kvs,hk⟩
       · obtain⟨_,_,_,_,o,_,_,e,ex,_⟩:=I.au p _ hk
         exact⟨o,e,ex⟩
       · obtain⟨_,_,_,_,o,_,_,e,ex,_⟩:=I.au p _ hk
         exact⟨o,e,ex⟩
     obtain⟨o,e,ex⟩:=z;refine⟨⟨o,e,ex.1⟩,fun a e2=>?_⟩;cases e2;exact⟨o,e,ex.2.1⟩
   · obtain⟨o,_,_,_,e,ex,_⟩:=I.au p _ hk
     refine⟨⟨o,e,ex.1⟩,fun a e2=>?_⟩;cases e2;exact⟨o,e,ex.2.1⟩
 |_=>exact False.elim ty
def tD(K:PySem.W.Frag)(T:String)(r:V→List V→Hp→VK→Prop)(to:TE)(t:TA):TE:=fun σ H Q=>to σ H fun x H1=>qw K T x H1∧t σ H1 fun xs H2=>r x xs H2 Q
variable{o e:Expr}{es:List Expr}{to:TE}{t:TA}{name:Str}{apos A':Pos}{T id:String}{r:V→List V→Hp→VK→Prop}
theorem Az(pa:PlainAttrs T)(slot:Slot T name id)(GQ:typeOf (.builtin id)=pure (.type "method_descriptor"))(hm:jm X id r)(ho:PE X o to)(ha:PA X (e::es) t)
   (CH:attributeBase o name X.env (eval o X.env)=eval o X.env:=by rfl)
   (DU:((backTo A' (starEach (e::es) X.env)).all (fun x=> !x.1)&&(backToKw A' (keywordEach [] X.env)).all (fun x=>x.1.isSome)
     &&decide ((e::es).length+([]:List Keyword).length+(if([]:List Keyword).isEmpty then 0 else 1)<30))=true:=by rfl)
   (CG:(apos.endLine==A'.line)=true:=by rfl) (hs:starEach (e::es) X.env=(false,eval e X.env)::starEach es X.env:=by rfl) (E3:(backTo A' (starEach es X.env)).any (·.1)=false:=by rfl):
   PE X (.Call (.Attribute o name apos) (e::es) [] A') (tD X.K T r to t):=by
 intro pins s σ H Q I h;refine wpAny_Call_method_late CH DU CG rfl (ao (ho pins s σ H _ I h) fun v s1 ⟨x,H1,I1,r1,ty,q1⟩=>?_);obtain⟨h1,h2⟩:=vc I1 r1 ty;refine⟨T,id,pa,slot,GQ,h1,h2,?_⟩;have hA:=ha A' pins s1 σ H1 _ I1 q1;rw[hs]at hA ⊢;refine Calls.callWith_builtin (by show(false||(backTo A' (starEach es X.env)).any (·.1))=false;rw[E3]<;>rfl) (Calls.evalArgs_plain ?_)
 exact ao hA fun us s2 ⟨vs,H2,I2,r2,q2⟩=>hm pins s2 σ H2 x vs v us Q I2 r1 r2 q2
end
end L2
namespace L2
open PySem PySem.Spec PyProof.Rows
def tZ(X:Cx)(id:String)(r:V→List V→Hp→VK→Prop):Prop:=
 ∀(pins:List (Addr×Obj)) (s:Shared) (σ:St) (H:Hp) (x:V) (xs:List V) (v:Value) (us:List Value) (Q:VK),Inv X pins σ H s→RelV x v→Vals xs us→r x xs H Q→
   wpAny (model X.prog X.w) X.A (call (.builtin id) (v::us)) (EP X pins σ Q) X.xe s
theorem Vals.one:∀ {x:V} {us:List Value},Vals [x] us→∃u,us=[u]∧RelV x u
 |_,_,.cons r .nil=>⟨_,rfl,r⟩
theorem Vals.two:∀ {x y:V} {us:List Value},Vals [x,y] us→∃u v,us=[u,v]∧RelV x u∧RelV y v
 |_,_,_,.cons r (.cons q .nil)=>⟨_,_,rfl,r,q⟩
theorem Vals.eraseIdx:∀ {xs:List V} {us:List Value} (i:Nat),Vals xs us→Vals (xs.eraseIdx i) (us.eraseIdx i)
 |_,_,_,.nil=>.nil
 |_,_,0,.cons _ t=>t
 |_,_,i+1,.cons r t=>.cons r (Vals.eraseIdx i t)
theorem Vals.reverse{xs:List V}{us:List Value}(h:Vals xs us):Vals xs.reverse us.reverse:=by
 induction h with
 |nil=>exact .nil
 |cons r t ih=>rw[List.reverse_cons,List.reverse_cons];exact Vals.append ih (.cons r .nil)
section
variable{X:Cx}{pins:List (Addr×Obj)}{σ:St}{H:Hp}{s:Shared}{l b:Addr}{xs ys zs:List V}
theorem Inv.vh{y' its':List Value}{n:Nat}{f:Array Value→Array Value}{t':Nat}(I:Inv X pins σ H s)(hH:H l=some (.lst xs))
   (e:s.heap.get? l=some {cls:=.type "list",data:=.seq y'.toArray n}) (hf:f y'.toArray=its'.toArray) (hv:Vals ys its') (hz:ys.length≤sizeLine):
   Inv X pins σ (upd H l (.lst ys)) {s with heap:=s.heap.update l (Obj.mapSeq f),toks:=t'}:=by
 have q:=PySem.IsL.update e f;rw[hf]at q;refine I.write (x:=l) (e:=l) (by rw[hH];exact trivial) (.inl rfl) (fun b' u hb hu=>(Heap.get?_update_other s.heap (Obj.mapSeq f) (Ne.symm hb)).trans hu) ⟨_,q⟩ ?_
 exact⟨hz,its',_,hv,q⟩
theorem Inv.rY{y':List Value}{t':Nat}(I:Inv X pins σ H s)(hv:Vals ys y')(hz:ys.length≤sizeLine):
   Inv X pins σ (upd H s.heap.objs.size (.lst ys)) {s with heap:=s.heap.push {cls:=.type "list",data:=.seq y'.toArray},toks:=t'}:=
 I.laid (fun _ _ q=>Heap.get?_push_of_some _ q) (Nat.le_refl _) ⟨hz,y',0,hv,Heap.get?_push_size _ rfl⟩
theorem Inv.fresh(I:Inv X pins σ H s):H s.heap.objs.size=none:=I.au.fresh (Nat.le_refl _)
theorem Inv.yh(I:Inv X pins σ H s)(hH:H l=some (.lst xs)):xs.length≤sizeLine∧∃(y':List Value) (n:Nat),Vals xs y'∧xs.length=y'.length∧s.heap.get? l=some {cls:=.type "list",data:=.seq y'.toArray n}:=by
 obtain⟨z,y',n,r,e⟩:=I.au l _ hH;exact⟨z,y',n,r,r.length,e⟩
end
section
variable{X:Cx}
def vg:V→List V→Hp→VK→Prop:=fun x vs H Q=>∃l xs y,x=.ref l∧vs=[y]∧H l=some (.lst xs)∧xs.length<sizeLine∧Q .aq (upd H l (.lst (xs++[y])))
theorem ro:tZ X "list.append" vg:=by
 intro pins s σ H x vs v us Q I rx rv h;obtain⟨l,xs,y,rfl,rfl,hH,hz,q⟩:=h;cases rx;obtain⟨u,rfl,ru⟩:=rv.one;obtain⟨z,y',n,r,hl,e⟩:=I.yh hH;refine call_meets F.slot_list_append ⟨_,e,rfl⟩ F.entry_list_append (F.args_list_append_2 _ _) (PySem.list_append l y'.toArray n u (by rw[List.size_toArray];omega)) ⟨e,?_⟩
 refine⟨.aq,_,I.vh (its':=y'++[u]) hH e (by simp) (r.append (.cons ru .nil)) ?_,rfl,q⟩
 rw[List.length_append,List.length_singleton];omega
end
section
variable{prog:Program}{w:World}{A:Around}{E:Value→Shared→Prop}{s:Shared}
end
section
variable{X:Cx}
end
end L2
namespace L2
open PySem PySem.Spec PyProof.Rows
section
variable{κ:Type} [DecidableEq κ]
def b3(kvs:List (κ×V))(k:κ):Option V:=(kvs.find? fun kv=>decide (kv.1=k)).map (·.2)
noncomputable def putK(kvs:List (κ×V))(k:κ)(v:V):List (κ×V):=
 if(kvs.any fun kv=>decide (kv.1=k))=true then kvs.map (fun kv=>if kv.1=k then(kv.1,v)else kv)else kvs++[(k,v)]
def nG(kvs:List (κ×V))(k:κ):List (κ×V):=kvs.filter fun kv=>decide (kv.1≠k)
theorem kT{p:κ×V}{r:List (κ×V)}{k:κ}(e:p.1=k):b3 (p::r) k=some p.2:=by simp[b3,List.find?_cons,e]
theorem kU{p:κ×V}{r:List (κ×V)}{k:κ}(e:¬p.1=k):b3 (p::r) k=b3 r k:=by simp[b3,List.find?_cons,e]
theorem qB(k:κ):∀kvs:List (κ×V),(kvs.any fun kv=>decide (kv.1=k))=(b3 kvs k).isSome
 |[]=>rfl
 | p::r=>by
   rw[List.any_cons];by_cases e:p.1=k
   ·simp only[kT e,decide_eq_true e,Bool.true_or,Option.isSome_some]
   ·rw[kU e,decide_eq_false e,Bool.false_or];exact qB k r
theorem mq(kvs:List (κ×V))(k:κ)(v:V):(putK kvs k v).length≤kvs.length+1:=by
 unfold putK;split
 ·rw[List.length_map];omega
 ·rw[List.length_append,List.length_cons,List.length_nil];omega
theorem cu.uV{o:Option V}{u:Option Value}(r:cu o u):o.isSome=u.isSome:=by
 cases o with
 | none=>cases u with
   |none=>rfl
   |some _=>exact(show False from r).elim
 | some _=>cases u with
   |none=>exact(show False from r).elim
   |some _=>rfl
theorem cu.getD{o:Option V}{u:Option Value}{d:V}{d':Value}(r:cu o u)(rd:RelV d d'):RelV (o.getD d) (u.getD d'):=by
 cases o with
 | none=>cases u with
   |none=>exact rd
   |some _=>exact(show False from r).elim
 | some _=>cases u with
   |none=>exact(show False from r).elim
   |some _=>exact r
theorem KV.val{kvs:List (κ×V)}{vs:List (κ×Value)}(r:KV kvs vs)(k:κ):cu (b3 kvs k) (valueAt vs k):=by
 unfold KV at r
 induction r with
 |nil=>exact True.intro
 | @cons p q ps qs h t ih=>
   obtain⟨h1,h2⟩:=h;by_cases e:p.1=k
   · have e':q.1=k:=h1.symm.trans e
     have b:valueAt (q::qs) k=some q.2:=by simp[valueAt,List.find?_cons,e']
     rw[kT e,b];exact h2
   · have e':¬q.1=k:=fun z=>e (h1.trans z)
     have b:valueAt (q::qs) k=valueAt qs k:=by simp[valueAt,List.find?_cons,e']
     rw[kU e,b];exact ih
theorem KV.any{kvs:List (κ×V)}{vs:List (κ×Value)}(r:KV kvs vs)(k:κ):(kvs.any fun kv=>decide (kv.1=k))=vs.any fun kv=>decide (kv.1=k):=by
 unfold KV at r
 induction r with
 |nil=>rfl
 |cons h t ih=>rw[List.any_cons,List.any_cons,ih,h.1]
theorem KV.mT{kvs:List (κ×V)}{vs:List (κ×Value)}(r:KV kvs vs)(k:κ){y:V}{u:Value}(ry:RelV y u):
   KV (kvs.map fun kv=>if kv.1=k then(kv.1,y)else kv) (vs.map fun kv=>if kv.1=k then(kv.1,u)else kv):=by
 unfold KV at r ⊢
 induction r with
 |nil=>exact .nil
 | @cons p q ps qs h t ih=>
   rw[List.map_cons,List.map_cons];refine .cons ?_ ih;obtain⟨h1,h2⟩:=h;by_cases e:p.1=k
   ·rw[if_pos e,if_pos (h1.symm.trans e)];exact⟨h1,ry⟩
   ·rw[if_neg e,if_neg (fun z=>e (h1.trans z))];exact⟨h1,h2⟩
theorem KV.put{kvs:List (κ×V)}{vs:List (κ×Value)}(r:KV kvs vs)(k:κ){y:V}{u:Value}(ry:RelV y u):KV (putK kvs k y) (stored vs k u):=by
 unfold putK stored;rw[r.any k];by_cases e:(vs.any fun kv=>decide (kv.1=k))=true
 ·rw[if_pos e,if_pos e];exact r.mT k ry
 ·rw[if_neg e,if_neg e];exact Paired.snoc r ⟨rfl,ry⟩
theorem KV.drop{kvs:List (κ×V)}{vs:List (κ×Value)}(r:KV kvs vs)(k:κ):KV (nG kvs k) (without vs k):=by
 unfold KV at r ⊢;unfold nG without
 induction r with
 |nil=>exact .nil
 | @cons p q ps qs h t ih=>
   obtain⟨h1,h2⟩:=h;rw[List.filter_cons,List.filter_cons];by_cases e:p.1=k
   · have a:¬decide (p.1≠k)=true:=by simp[e]
     have b:¬decide (q.1≠k)=true:=by simp[h1.symm.trans e]
     rw[if_neg a,if_neg b];exact ih
   · have e':¬q.1=k:=fun z=>e (h1.trans z)
     have a:decide (p.1≠k)=true:=by simp[e]
     have b:decide (q.1≠k)=true:=by simp[e']
     rw[if_pos a,if_pos b];exact .cons ⟨h1,h2⟩ ih
theorem KV.length{kvs:List (κ×V)}{vs:List (κ×Value)}(r:KV kvs vs):kvs.length=vs.length:=Paired.length r
end
theorem gi{P:Program}{w:World}{k:Key}{u:Value}(r:RelV (kV k) u):(bc P w).is k u=true:=by
 cases k with
 |inl i=>obtain⟨t,e⟩:=(show ∃t,u=Value.int i t from r);subst e;exact yM P w i t
 |inr x=>obtain⟨t,e⟩:=(show ∃t,u=Value.str x t from r);subst e;exact lM P w x t
theorem ox{P:Program}{w:World}:∀ {ks:List Key} {us:List Value},Vals (ks.map kV) us→ItemsAre (bc P w) ks us
 |[],_,r=>by rw[List.map_nil]at r;cases r;exact .nil
 | k::ks,_,r=>by
   rw[List.map_cons]at r;cases r with
   |cons h t=>exact .cons (gi h) (ox t)
abbrev KT(H:Hp):List (List Key×V)→List (List Key×Addr×Value)→Prop:=Paired fun p q=>p.1=q.1∧H q.2.1=some (.tup (p.1.map kV))∧RelV p.2 q.2.2
theorem KT.val{H:Hp}{kvs:List (List Key×V)}{xs:List (List Key×Addr×Value)}(r:KT H kvs xs)(k:List Key):cu (b3 kvs k) ((atKey xs k).map (·.2)):=by
 induction r with
 |nil=>exact True.intro
 | @cons p q ps qs h t ih=>
   obtain⟨h1,_,h2⟩:=h;by_cases e:p.1=k
   · have e':q.1=k:=h1.symm.trans e
     have b:atKey (q::qs) k=some q.2:=by simp[atKey,List.find?_cons,e']
     rw[kT e,b];exact h2
   · have e':¬q.1=k:=fun z=>e (h1.trans z)
     have b:atKey (q::qs) k=atKey qs k:=by simp[atKey,List.find?_cons,e']
     rw[kU e,b];exact ih
theorem KT.mT{H:Hp}{kvs:List (List Key×V)}{xs:List (List Key×Addr×Value)}(r:KT H kvs xs)(k:List Key){y:V}{u:Value}(ry:RelV y u):
   KT H (kvs.map fun kv=>if kv.1=k then(kv.1,y)else kv) (xs.map (putAt k u)):=by
 induction r with
 |nil=>exact .nil
 | @cons p q ps qs h t ih=>
   rw[List.map_cons,List.map_cons];refine .cons ?_ ih;obtain⟨h1,h2,h3⟩:=h;unfold putAt;by_cases e:p.1=k
   ·rw[if_pos e,if_pos (h1.symm.trans e)];exact⟨h1,h2,ry⟩
   ·rw[if_neg e,if_neg (fun z=>e (h1.trans z))];exact⟨h1,h2,h3⟩
theorem KT.put{H:Hp}{kvs:List (List Key×V)}{xs:List (List Key×Addr×Value)}(r:KT H kvs xs)(k:List Key){b:Addr}{y:V}{u:Value}(hb:H b=some (.tup (k.map kV)))(ry:RelV y u):
   KT H (putK kvs k y) (storedH xs k b u):=by
 have e:(kvs.any fun kv=>decide (kv.1=k))=(atKey xs k).isSome:=by
   rw[qB,(r.val k).uV,Option.isSome_map]
 unfold putK storedH;rw[e];by_cases q:(atKey xs k).isSome=true
 ·rw[if_pos q,if_pos q];exact r.mT k ry
 ·rw[if_neg q,if_neg q];exact Paired.snoc r ⟨rfl,hb,ry⟩
theorem KT.keeps{H H':Hp}{kvs:List (List Key×V)}{xs:List (List Key×Addr×Value)}(r:KT H kvs xs)(ht:∀b ys,H b=some (.tup ys)→H' b=some (.tup ys)):KT H' kvs xs:=
 Paired.m6 r fun _ _ z=>⟨z.1,ht _ _ z.2.1,z.2.2⟩
section
variable{P:Program}{w:World}{H:Hp}{h:Heap}{a:Addr}
theorem qh{u:HO}(ok:aU P w H h)(e:Rd H a u):bL P w H h a u:=e.ok ok
theorem mQ{kvs:List (Key×V)}(ok:aU P w H h)(e:Rd H a (.dK kvs)):kvs.length≤sizeLine∧(a==sysModules)=false∧∃vs,KV kvs vs∧h.DictOf (bc P w) a vs:=
 show bL P w H h a (.dK kvs)from qh ok e
theorem jo{kvs:List (Key×V)}(ok:aU P w H h)(e:H a=some (.dK kvs)):kvs.length≤sizeLine∧(a==sysModules)=false∧∃vs,KV kvs vs∧h.DictOf (bc P w) a vs:=mQ ok (.inl e)
theorem qe{ks:List Key}(ok:aU P w H h)(e:H a=some (.tup (ks.map kV))):(tupleKind (bc P w)).is h ks a:=by
 obtain⟨_,y',r,o,h1,h2,n,h3⟩:=(show bL P w H h a (.tup (ks.map kV))from ok a _ e)
 exact⟨o,y'.toArray,n,h1,h2,h3,by simpa using ox r⟩
theorem zV{kvs:List (List Key×V)}(ok:aU P w H h)(e:Rd H a (.dT kvs)):kvs.length≤sizeLine∧(a==sysModules)=false∧
   ∃xs,KT H kvs xs∧h.DictOfH (tupleKind (bc P w)) a xs:=by
 obtain⟨z,y,xs,r,o,es,ep,h1,h2,h3,h4,h5⟩:=(show bL P w H h a (.dT kvs)from qh ok e)
 refine⟨z,y,xs,r,o,es,ep,h1,h2,h3,h4,fun x hx=>?_,h5⟩
 have all:∀ {l:List (List Key×V)} {m:List (List Key×Addr×Value)},KT H l m→∀x∈m,(tupleKind (bc P w)).is h x.1 x.2.1:=by
   intro l m q
   induction q with
   |nil=>intro x hx;exact nomatch hx
   | @cons p q ps qs hq t ih=>
     intro x hx;rcases List.mem_cons.mp hx with e|hx
     · subst e
       exact qe ok (by rw[←hq.1];exact hq.2.1)
     ·exact ih x hx
 exact all r x hx
theorem w9{kvs:List (List Key×V)}(ok:aU P w H h)(e:H a=some (.dT kvs)):kvs.length≤sizeLine∧(a==sysModules)=false∧
   ∃xs,KT H kvs xs∧h.DictOfH (tupleKind (bc P w)) a xs:=zV ok (.inl e)
end
def ju(H:Hp)(a:Addr)(y:V)(r:Option V):Prop:=
 (∃kvs k,Rd H a (.dK kvs)∧y=kV k∧r=b3 kvs k)∨∃kvs k b,Rd H a (.dT kvs)∧y=.ref b∧H b=some (.tup (k.map kV))∧r=b3 kvs k
def gp(H:Hp)(a:Addr)(y v:V)(H':Hp):Prop:=
 (∃kvs k,H a=some (.dK kvs)∧y=kV k∧kvs.length<sizeLine∧H'=upd H a (.dK (putK kvs k v)))∨
 ∃kvs k b,H a=some (.dT kvs)∧y=.ref b∧H b=some (.tup (k.map kV))∧kvs.length<sizeLine∧H'=upd H a (.dT (putK kvs k v))
theorem ju.k{H:Hp}{a:Addr}{kvs:List (Key×V)}{k:Key}(e:H a=some (.dK kvs)):ju H a (kV k) (b3 kvs k):=.inl ⟨kvs,k,.inl e,rfl,rfl⟩
theorem ju.t{H:Hp}{a b:Addr}{kvs:List (List Key×V)}{k:List Key}(e:H a=some (.dT kvs))(eb:H b=some (.tup (k.map kV))):ju H a (.ref b) (b3 kvs k):=.inr ⟨kvs,k,b,.inl e,rfl,eb,rfl⟩
theorem gp.k{H:Hp}{a:Addr}{kvs:List (Key×V)}{k:Key}{v:V}(e:H a=some (.dK kvs))(hl:kvs.length<sizeLine):gp H a (kV k) v (upd H a (.dK (putK kvs k v))):=.inl ⟨kvs,k,e,rfl,hl,rfl⟩
theorem gp.t{H:Hp}{a b:Addr}{kvs:List (List Key×V)}{k:List Key}{v:V}(e:H a=some (.dT kvs))(eb:H b=some (.tup (k.map kV)))(hl:kvs.length<sizeLine):
   gp H a (.ref b) v (upd H a (.dT (putK kvs k v))):=.inr ⟨kvs,k,b,e,rfl,eb,hl,rfl⟩
section
variable{X:Cx}{pins:List (Addr×Obj)}{σ:St}{H:Hp}{s:Shared}{a:Addr}{y v:V}{u r:Value}{o:Option V}{A:Around}{E:Value→Shared→Prop}
theorem Inv.big(I:Inv X pins σ H s):sysModules<s.heap.objs.size:=by
 have h:mainGlobals<s.heap.objs.size:=(I.mod.glob.keeps I.bk).lt;exact Nat.lt_trans (by decide) h
theorem ma{h':Heap}{t':Nat}{ob:HO}(I:Inv X pins σ H s)(mu:jj (H a))(hs:Heap.SameBut a s.heap h')(he:∃q,h'.get? a=some q)(new:bL X.prog X.w (upd H a ob) h' a ob):
   Inv X pins σ (upd H a ob) {s with heap:=h',toks:=t'}:=
 I.write (x:=a) (e:=a) mu (.inl rfl) (fun b q hb z=>(hs.2 b hb).trans z) he new
theorem rm{P:Program}{w:World}{H':Hp}{h':Heap}{kvs:List (Key×V)}{vs:List (Key×Value)}(z:kvs.length≤sizeLine)(hd:(a==sysModules)=false)(rel:KV kvs vs)(dd:h'.DictOf (bc P w) a vs):
   bL P w H' h' a (.dK kvs):=⟨z,hd,vs,rel,dd⟩
theorem x8{H':Hp}{Q:Unit→Shared→Prop}(hu:A.units+1<cLine)(I:Inv X pins σ H s)(g:gp H a y v H')(ry:RelV y u)(rv:RelV v r)(h:∀s',Inv X pins σ H' s'→Q () s'):
   wpAny (model X.prog X.w) A (setItem (.ref a) u r) Q E s:=by
 rcases g with⟨kvs,k,e,ey,l,eH⟩|⟨kvs,k,b,e,ey,eb,l,eH⟩
 · subst ey eH
   obtain⟨z,hd,vs,rel,dd⟩:=jo I.au e;have hz:vs.length≤sizeLine:=by rw[←rel.length];exact z
   have hl:(putK kvs k v).length≤sizeLine:=by have:=mq kvs k v;omega
   refine wpAny_setItem_pairs (hsz:=hz) (gi ry) dd fun h' E4 hs=>h _ ?_;have he:∃q,h'.get? a=some q:=let⟨q,_,_,hq,_⟩:=E4;⟨q,hq⟩
   exact ma I (by rw[e];exact True.intro) hs he (rm hl hd (rel.put k rv) E4)
 · subst ey eH
   cases (show u=Value.ref b from ry)
   obtain⟨z,hd,xs,rel,dd⟩:=w9 I.au e;have hz:xs.length≤sizeLine:=by rw[←Paired.length rel];exact z
   have hl:(putK kvs k v).length≤sizeLine:=by have:=mq kvs k v;omega
   refine wpAny_setItem_heap (hsz:=hz) (tupleKind_room_in1 hu) (qe I.au eb) dd fun h' E4 hs=>h _ ?_;obtain⟨q,es,ep,hq,h2,h3,h4,_,h5⟩:=E4;refine ma I (by rw[e];exact True.intro) hs ⟨q,hq⟩ ⟨hl,hd,_,(rel.put k eb rv).keeps fun c ys ec=>?_,q,es,ep,hq,h2,h3,h4,h5⟩
   rw[aE (AB ec e (fun z=>nomatch z))]
   exact ec
end
section
variable{X:Cx}{pins:List (Addr×Obj)}{σ:St}{H:Hp}{s:Shared}{a:Addr}{kvs:List (Key×V)}{k:Key}{u:Value}{A:Around}{E:Value→Shared→Prop}
theorem Aa{Q:Value→Shared→Prop}(I:Inv X pins σ H s)(e:Rd H a (.dK kvs))(h:∀t s',Inv X pins σ H s'→Q (.int kvs.length t) s'):wpAny (model X.prog X.w) A (call (.builtin "len") [.ref a]) Q E s:=by
 obtain⟨z,hd,vs,rel,dd⟩:=mQ I.au e;refine call_len_dict hd dd (by rw[←rel.length];rw[sizeLine_eq]at z;omega) ?_
 rw[←rel.length];exact h _ _ (I.tok _)
end
def uT(td ty tv:TE):TS:=fun D σ H=>tv σ H fun v H1=>td σ H1 fun x H2=>ty σ H2 fun y H3=>∃a H4,x=.ref a∧gp H3 a y v H4∧D.nx σ H4
section
variable{X:Cx}{o i e value:Expr}{pos pos' HZ:Pos}{td ty tv:TE}
theorem zQ(hu:X.A.units+1<cLine)(ho:PE X o td)(hi:PE X i ty)(hv:PE X value tv)(hs:swapsWith value (some (.Subscript o i pos')) pos.line X.env=pure false):
   PS X (.Assign [.Subscript o i pos'] value pos) (uT td ty tv):=by
 intro pins s σ H D I h;refine wpAny_Assign_Subscript (ao (hv pins s σ H _ I h) fun r s1 ⟨v,H1,I1,rv,q1⟩=>ao (ho pins s1 σ H1 _ I1 q1) fun u s2 ⟨x,H2,I2,rx,q2⟩=>ao (hi pins s2 σ H2 _ I2 q2) fun iv s3 ⟨y,H3,I3,ry,a,H4,ex,g,q3⟩=>?_) hs;subst ex;obtain rfl:u=Value.ref a:=rx;exact x8 hu I3 g ry rv fun s4 I4=>⟨σ,H4,I4,q3⟩
end
theorem oT{P:Program}{w:World}{H:Hp}(h:Heap)(hb:sysModules<h.objs.size):bL P w H (h.push {cls:=.type "dict",data:=.dict #[]}) h.objs.size (.dK []):=
 ⟨Nat.zero_le _,beq_eq_false_iff_ne.mpr (Ne.symm (Nat.ne_of_lt hb)),[],.nil,Heap.DictOf.new h⟩
def sP:TE:=fun _ H Q=>∀p,H p=none→Q (.ref p) (upd H p (.dK []))
section
variable{X:Cx}{pos:Pos}
theorem wa:PE X (.Dict [] [] pos) sP:=fun pins s σ H Q I h=>
 wpAny_Dict_empty ⟨.ref s.heap.objs.size,_,I.laid (a:=s.heap.objs.size) (o:=.dK []) (t':=s.toks) (fun _ _ q=>Heap.get?_push_of_some _ q) (Nat.le_refl _) (oT s.heap I.big),rfl,h _ (I.au.fresh (Nat.le_refl _))⟩
end
def kA:List (TE×TE)→St→Hp→(List (V×V)→Hp→Prop)→Prop
 |[],_,H,Q=>Q [] H
 |(tk,tv)::r,σ,H,Q=>tk σ H fun x H1=>tv σ H1 fun y H2=>kA r σ H2 fun ps H3=>Q ((x,y)::ps) H3
abbrev VV:List (V×V)→List (Value×Value)→Prop:=Paired fun p q=>RelV p.1 q.1∧RelV p.2 q.2
def iu(X:Cx)(pos:Pos)(keys:List (Option Expr))(values:List Expr)(Dq:List (TE×TE)):Prop:=
 ∀(pins:List (Addr×Obj)) (s:Shared) (σ:St) (H:Hp) (Q:List (V×V)→Hp→Prop),Inv X pins σ H s→kA Dq σ H Q→
   wpAny (model X.prog X.w) X.A (evalPairs (pairTrees keys values X.env pos)) (fun vs s'=>∃ps H',Inv X pins σ H' s'∧VV ps vs∧Q ps H') X.xe s
theorem Ab{X:Cx}{pos:Pos}:iu X pos [] [] []:=fun pins s σ H Q I h=>pairTrees_nil_walk ⟨[],H,I,.nil,h⟩
theorem vQ{X:Cx}{pos:Pos}{k v:Expr}{ks:List (Option Expr)}{vs:List Expr}{tk tv:TE}{Dq:List (TE×TE)}(hk:PE X k tk)(hv:PE X v tv)(hr:iu X pos ks vs Dq):
   iu X pos (some k::ks) (v::vs) ((tk,tv)::Dq):=fun pins s σ H Q I h=>
 pairTrees_cons_walk (ao (hk pins s σ H _ I h) fun u s1 ⟨x,H1,I1,rx,q1⟩=>ao (hv pins s1 σ H1 _ I1 q1) fun w2 s2 ⟨y,H2,I2,ry,q2⟩=>
   ao (hr pins s2 σ H2 _ I2 q2) fun ws s3 ⟨ps,H3,I3,rel,q3⟩=>⟨(x,y)::ps,H3,I3,.cons ⟨rx,ry⟩ rel,q3⟩)
def fR(kvs more:List (Key×V)):List (Key×V):=more.foldl (fun acc kv=>putK acc kv.1 kv.2) kvs
theorem KV.merge:∀ {more:List (Key×V)} {rs:List (Key×Value)} {kvs:List (Key×V)} {vs:List (Key×Value)},KV more rs→KV kvs vs→KV (fR kvs more) (merged vs rs):=by
 intro more rs kvs vs r;unfold KV at r
 induction r generalizing kvs vs with
 |nil=>intro q;exact q
 | @cons p q ps qs h t ih=>
   intro r0
   have e:KV (putK kvs p.1 p.2) (stored vs q.1 q.2):=by
     have:=r0.put p.1 h.2;rw[←h.1];exact this
   exact ih e
theorem rA:∀(more kvs:List (Key×V)),(fR kvs more).length≤kvs.length+more.length
 |[],kvs=>by show kvs.length≤kvs.length+0;omega
 | p::r,kvs=>by
   have h1:=rA r (putK kvs p.1 p.2);have h2:=mq kvs p.1 p.2;show(fR (putK kvs p.1 p.2) r).length≤_;rw[List.length_cons];omega
theorem oS{P:Program}{w:World}:∀ {kvs:List (Key×V)} {ws:List (Value×Value)},VV (kvs.map fun kv=>(kV kv.1,kv.2)) ws→∃rs,Carries (bc P w) ws rs∧KV kvs rs
 |[],_,r=>by rw[List.map_nil]at r;cases r;exact⟨[],True.intro,.nil⟩
 | p::kvs,_,r=>by
   rw[List.map_cons]at r;cases r with
   | @cons a b as bs h t=>
     obtain⟨rs,c,q⟩:=oS (P:=P) (w:=w) t;obtain⟨b1,b2⟩:=b;exact⟨(p.1,b2)::rs,⟨gi h.1,rfl,c⟩,.cons ⟨rfl,h.2⟩ q⟩
def zz(Dq:List (TE×TE)):TE:=fun σ H Q=>∀p,H p=none→kA Dq σ (upd H p (.dK [])) fun ps H2=>H2 p=some (.dK [])∧∃kvs:List (Key×V),ps=kvs.map (fun kv=>(kV kv.1,kv.2))∧kvs.length≤15∧Q (.ref p) (upd H2 p (.dK (fR [] kvs)))
theorem Aw{X:Cx}{pos:Pos}{keys:List (Option Expr)}{values:List Expr}{Dq:List (TE×TE)}(h:iu X pos keys values Dq)(CV:keys.all (·.isSome)=true)(hl:keys.length=values.length)(h0:keys≠[])
   (Gs:keys.length≤15):PE X (.Dict keys values pos) (zz Dq):=by
 intro pins s σ H Q I q;have hn:=I.au.fresh (Nat.le_refl s.heap.objs.size);have I1:=I.laid (a:=s.heap.objs.size) (o:=.dK []) (h':=s.heap.push {cls:=.type "dict",data:=.dict #[]}) (t':=s.toks) (fun _ _ q=>Heap.get?_push_of_some _ q) (Nat.le_refl _) (oT s.heap I.big);refine wpAny_Dict_walk (knd:=bc X.prog X.w) CV hl h0 Gs (ao (h pins _ σ _ _ I1 (q _ hn)) fun ws s2 ⟨ps,H2,I2,rel,e,kvs,ep,lk,q2⟩=>?_);subst ep;obtain⟨rs,c,rk⟩:=oS (P:=X.prog) (w:=X.w) rel;obtain⟨z,hd,NP,r0,dd⟩:=jo I2.au e;cases r0;refine⟨rs,c,dd,fun h' E4 hs=>⟨.ref s.heap.objs.size,_,?_,rfl,q2⟩⟩
 have hz:(fR [] kvs).length≤sizeLine:=by
   have h1:=rA kvs [];rw[List.length_nil]at h1;rw[sizeLine_eq];omega
 have he:∃q,h'.get? s.heap.objs.size=some q:=let⟨q,_,_,hq,_⟩:=E4;⟨q,hq⟩
 exact ma I2 (by rw[e];exact True.intro) hs he (rm hz hd (rk.merge .nil) E4)
structure M1(X:Cx)(o:Expr)(m:Str)(apos:Pos)(e:Expr)(A':Pos):Prop where
 base:attributeBase o m X.env (eval o X.env)=eval o X.env
 iX:((backTo A' (starEach [e] X.env)).all (fun x=> !x.1)&&(backToKw A' (keywordEach [] X.env)).all (fun x=>x.1.isSome)
   &&decide (([e]:List Expr).length+([]:List Keyword).length+(if([]:List Keyword).isEmpty then 0 else 1)<30))=true
 line:(apos.endLine==A'.line)=true
 trees:backTo A' (starEach [e] X.env)=[(false,eval e X.env)]
structure M2(X:Cx)(o:Expr)(m:Str)(apos:Pos)(e f:Expr)(A':Pos):Prop where
 base:attributeBase o m X.env (eval o X.env)=eval o X.env
 iX:((backTo A' (starEach [e,f] X.env)).all (fun x=> !x.1)&&(backToKw A' (keywordEach [] X.env)).all (fun x=>x.1.isSome)
   &&decide (([e,f]:List Expr).length+([]:List Keyword).length+(if([]:List Keyword).isEmpty then 0 else 1)<30))=true
 line:(apos.endLine==A'.line)=true
 trees:backTo A' (starEach [e,f] X.env)=[(false,eval e X.env),(false,eval f X.env)]
section
variable{X:Cx}{pins:List (Addr×Obj)}{σ:St}{H:Hp}{s:Shared}{a:Addr}{y d:V}{u r:Value}{o:Option V}{A:Around}{E:Value→Shared→Prop}
end
section
variable{X:Cx}{o e f:Expr}{apos A':Pos}{td ty tx:TE}
end
section
variable{X:Cx}{pins:List (Addr×Obj)}{σ:St}{H:Hp}{s:Shared}{a:Addr}{kvs:List (Key×V)}{A:Around}{E:Value→Shared→Prop}
end
section
variable{X:Cx}{pins:List (Addr×Obj)}{σ:St}{H:Hp}{s:Shared}{a:Addr}{y:V}{u:Value}{A:Around}{E:Value→Shared→Prop}
end
end L2
namespace qD
open PySem PySem.W PySem.Calls PyProof.Rows
theorem xx{P:Params}{h:Heap}:∀(ns:List Int) (vs:List Value),WellAll P h vs (ns.map WData.int)→IntsAre vs ns:=by
 intro ns
 induction ns with
 | nil=>
   intro vs w;rw[List.map_nil]at w;cases w;exact .nil
 | cons n ns ih=>
   intro vs w;rw[List.map_cons]at w;cases w with
   | cons a b=>
     cases a;exact .cons _ _ (ih _ b)
theorem yx{l:OpenLaw}{n:Nat}(hn:l.most=some n){P:Params}{h:Heap}{args:List WData}{vals:List Value}
   (Er:l.row.toRowW.claim.pre args=true) (Hn:WellAll P h vals args):
   ∃a vs ns,vals=[Value.ref a]∧args=[WData.list (ns.map WData.int)]∧h.get? a=some {cls:=.type "list",data:=.seq vs.toArray}∧IntsAre vs ns∧ns.length≤n:=by
 have K6:WShape.hasAll [] args [.list .int]=true:=(pre_splitW Er).1;have hc:l.pre.holds [] {args:=args}=true:=(pre_splitW Er).2;obtain⟨d,r,rfl,h1,h2⟩:=hasAllW_cons K6;obtain rfl:=hasAllW_nil h2;obtain⟨xs,rfl,h3⟩:=hasW_list h1;obtain⟨ns,rfl⟩:=items_int h3
 have hlen:ns.length≤n:=by
   unfold OpenLaw.pre at hc
   have h4:(WTm.not (.lt (.lit (.int (n:Int))) (.len (.arg 0)))).holds [] {args:=[.list (ns.map .int)]}=true:=by
     have h4:=(holds_andW hc).1;rw[hn]at h4;exact h4
   have h5:=condW_of h4 (w_not (w_lt w_lit (w_len_list (w_arg rfl))));rw[List.length_map]at h5;refine Nat.le_of_not_lt fun q=>?_;have q':(n:Int)<((ns.length:Nat):Int):=by omega
   first
     |(rw[decide_eq_true q']at h5;exact absurd h5 (by decide))
     |(simp at h5;omega)
 cases Hn with
 | cons w1 w2=>
   cases w2;cases w1 with
   |list ho CV=>exact⟨_,_,ns,rfl,rfl,ho,xx ns _ CV,hlen⟩
theorem vU(l:OpenLaw)(args:List WData):l.row.toRowW.claim.post args (.bool true) args=true:=
 postW_of (r:=l.row.toRowW) (X:=(true==true))
   (show WShape.has [] (.bool true) .bool=true by first|rfl|decide|simp[WShape.has,WShape.arms,WShape.armsAll])
   (show(WTm.eq .res (.lit (.bool true))).value [] {args:=args,res:=some (.bool true),after:=args}=some (.bool (true==true))from w_eq_bool (w_res rfl) w_lit) rfl
theorem yB{l:OpenLaw}{n:Nat}{q:Program}{loose:List Str}{XP:(Str→Option Value)→Heap→Prop}{YP:World→Heap→Prop}{d:DefRec}
   (hn:l.most=some n) (F6:d.params.defaults=[])
   (call:∀(w:World) (bE B2:Shared) (mg mb:Str→Option Value) (fa:Addr) (o:Obj) (pm cd doc:Value) (a:Addr) (vs:List Value) (ns:List Int),
     Ground q loose [] XP w bE mg mb B2.heap→YP w B2.heap→
     B2.heap.get? fa=some o→o.data=.func (docDef d.name d.params d.body d.scope pm cd doc)→B2.heap.CodeRec cd d.name→mg d.name=some (.ref fa)→
     B2.heap.get? a=some {cls:=.type "list",data:=.seq vs.toArray}→IntsAre vs ns→ns.length≤n→B2.gens= #[]→
     codeAny (model l.prog w) callerA (.call (.ref fa) ⟨[.ref a],[]⟩) (fun r s'=>r=.ok (.ret (.bool true))∧OldK B2.heap s'.heap∧s'.os=B2.os∧AllBare s'.gens) B2):
   WalkO q loose XP YP l.row.toRowW d [] (fun f vs=>PySem.call f vs):=by
 intro w bE B2 mg mb G Y fa o pm cd doc dV kV ho hd Cs hD hmg hg args vals as Er DX NV Hn NF;obtain rfl:dV=.none:=Dflts.none hD F6;obtain rfl:kV=.none:=Dflts.noKw hD;obtain⟨a,vs,ns,rfl,rfl,EY,hints,hlen⟩:=yx hn Er Hn;refine enter_call (codeAny_mono (call w bE B2 mg mb fa o pm cd doc a vs ns G Y ho (fd_plain hd) Cs hmg EY hints hlen hg) fun r s' hq=>?_);obtain⟨rfl,h2,h3,h4⟩:=hq;exact⟨.inl ⟨.bool true,.bool true,[],rfl,fun _=>rfl,.bool true,vU l _,fun _=>⟨List.Pairwise.nil,fun _ hm=>(nomatch hm)⟩⟩,h2,h3,h4⟩
section
variable{prog:Program}{w:World}{A:Around}{E:Value→Shared→Prop}{s:Shared}{K:Frag}
end
end qD
namespace L2
open PySem PySem.Spec PyProof.Rows
theorem p9:∀ {vs:List Value} {ns:List Int},IntsAre vs ns→Vals (ns.map V.int) vs
 |_,_,.nil=>.nil
 |_,_,.cons n t h=>.cons ⟨t,rfl⟩ (p9 h)
def mW(H:Hp):Prop:=∀b,H b=none∨∃o xs,H b=some (.frz o (.lst xs))
theorem wL{P:Program}{w:World}{K:PySem.W.Frag}{mg mb:Str→Option Value}{CX:cN}{k:Nat}{fa a:Addr}{fd:FuncData}{x:Str}{sp:Sp}{B2:Shared}{vs:List Value}{ns:List Int}
   (KX:K.In B2.heap) (Ki:B2.heap.Ns mainGlobals mg) (hb:B2.heap.Ns builtinsNs mb) (Li:∀x:Str,x≠"__name__"→mb x=bootBuiltins x) (Jc:B2.heap.NoLimit) (hg:B2.gens= #[])
   (ha:B2.heap.get? a=some {cls:=.type "list",data:=.seq vs.toArray}) (hi:IntsAre vs ns) (hl:ns.length≤sizeLine) (hr:br k callerA)
   (F:∀base:Heap,K.In base→base.Ns mainGlobals mg→b8 P w K mg base CX k fa fd [x] sp) (Gr:∀(s:Shared) (u:Value),BindsTo s fd ⟨[u],[]⟩ [(x,u)])
   (Ed:∀H:Hp,mW H→aO K H a (ns.map V.int)→sp [.ref a] H (fun v _=>v=.bl true) fun _ _ _=>False)
   (Hf:∀H e s',CX [] H B2 (fun _ _ _=>False) e s'→False):
   codeAny (model P w) callerA (.call (.ref fa) ⟨[.ref a],[]⟩) (fun r s'=>r=.ok (.ret (.bool true))∧OldK B2.heap s'.heap∧s'.os=B2.os∧AllBare s'.gens) B2:=by
 have rv:=p9 hi;have HX:=hi.length
 have core:∀H:Hp,mW H→aO K H a (ns.map V.int)→aU P w H B2.heap→(∀b,H b≠none→b=a)→(H a≠none→K.lookup a=none)→
     codeAny (model P w) callerA (.call (.ref fa) ⟨[.ref a],[]⟩) (fun r s'=>r=.ok (.ret (.bool true))∧OldK B2.heap s'.heap∧s'.os=B2.os∧AllBare s'.gens) B2:=by
   intro H hO hS au hA hK;have Dt:∀ {b:Addr} {o:Obj},B2.heap.get? b=some o→H b=none→(fi B2.heap H).get? b=some o:=fun e n=>wI e n
   have FG:∀ {b:Addr} {o:Obj} {es:Array DictEntry} {ep:Nat},B2.heap.get? b=some o→o.data=.dict es ep→H b=none:=fun {b o es ep} e d=>by
     cases q:H b with
     |none=>rfl
     | some u=>
       have e':b=a:=hA b (by rw[q];simp)
       subst e';rw[ha]at e;cases e;have d':Data.seq vs.toArray _=Data.dict es ep:=d;cases d'
   have GS:∀ {b:Addr} {m:Str→Option Value},B2.heap.Ns b m→(fi B2.heap H).Ns b m:=fun {b m} ⟨o,es,ep,e,d,r⟩=>⟨o,es,ep,Dt e (FG e d),d,r⟩
   have Ju:K.In (fi B2.heap H):=fun b o e=>Dt (KX b o e) (by
     cases q:H b with
     |none=>rfl
     | some u=>
       have e':b=a:=hA b (by rw[q];simp)
       subst e';rw[hK (by rw[q];simp)]at e;cases e)
   have hM:Mod K mg (fi B2.heap H):=⟨Ju,GS Ki,⟨mb,GS hb,Li⟩,let⟨mc,h1,h2⟩:=Jc;⟨mc,GS h1,h2⟩⟩
   have e0:gq P w K mg (fi B2.heap H) callerA [] B2 H:=⟨rfl,hM,fun b o e=>vf e,Nat.le_of_eq (AF _ _),trivial,fun b hb=>absurd (show b∈([]:List Addr)from hb) (by simp),au,.of_eq hg⟩
   refine codeAny_mono ((F _ Ju (GS Ki)).run callerA [] B2 H ⟨[.ref a],[]⟩ [.ref a] [.ref a] _ _ hr e0 (Gr B2 (.ref a)) (.cons rfl .nil) (Ed H hO hS)) fun r s' h=>?_;cases r with
   |error e=>exact(Hf H e s' h).elim
   | ok fl=>
     cases fl with
     |next=>exact False.elim h
     |brk=>exact False.elim h
     |cont=>exact False.elim h
     | ret u=>
       obtain⟨v,H',os,bare,un,HK,r',q⟩:=h;have q':v=.bl true:=q;subst q';obtain rfl:u=Value.bool true:=r';refine⟨rfl,OldK.of_keep fun b o e=>?_,os,bare⟩;cases q:H b with
       |none=>exact un.keep b o e q (by intro z;exact absurd (show b∈([]:List Addr)from z) (by simp)) (by simp)
       | some u=>
         rcases hO b with z|⟨ob,xs,z⟩
         ·rw[q]at z;cases z
         · have z2:=un.cH b ob _ z
           obtain⟨e1,_⟩:=au b _ z;obtain⟨e2,_⟩:=HK b _ z2;rw[e]at e1;cases e1;exact e2
 cases hk:K.lookup a with
 | some o=>
   have e:=KX a o hk;rw[ha]at e;cases e;refine core (fun _=>none) (fun _=>.inl rfl) (.inr ⟨_,vs.toArray,_,hk,rfl,rfl,rfl,by rw[List.size_toArray,HX];exact hl,by simpa using rv⟩) (fun b u z=>by have z':(none:Option HO)=some u:=z;cases z') (fun b z=>absurd rfl z) fun z=>absurd rfl z
 | none=>
   refine core (fun b=>if b=a then some (.frz {cls:=.type "list",data:=.seq vs.toArray} (.lst (ns.map V.int)))else none) (fun b=>?_) (.inl (.inr ⟨{cls:=.type "list",data:=.seq vs.toArray},if_pos rfl⟩)) (fun b u z=>?_) (fun b z=>?_) fun _=>hk
   · by_cases hb:b=a
     ·exact .inr ⟨_,_,if_pos hb⟩
     ·exact .inl (if_neg hb)
   · by_cases hb:b=a
     · have z':=(if_pos hb).symm.trans z
       cases z';subst hb;exact⟨ha,by rw[List.length_map];exact hl,vs,_,rv,ha⟩
     · have z':=(if_neg hb).symm.trans z
       cases z'
   · by_cases hb:b=a
     ·exact hb
     ·exact absurd (if_neg hb) z
end L2
namespace L2
open PySem PySem.Spec PyProof.Rows
abbrev BQ{K:PySem.W.Frag}{h:Heap}(_:K.In h):PySem.W.Frag:=K
theorem yO{l:PySem.W.OpenLaw}{n k:Nat}{q:Program}{loose:List Str}{XP:(Str→Option Value)→Heap→Prop}{YP:World→Heap→Prop}{d:DefRec}{K:Params→PySem.W.Frag}{CX:World→cN}{sp:World→Sp}{x:Str}
   (hn:l.most=some n) (EI:n≤sizeLine) (F6:d.params.defaults=[]) (hr:br k callerA)
   (hY:∀(w:World) (h:Heap),YP w h→(K w.params).In h)
   (F:∀(w:World) (mg:Str→Option Value) (fa:Addr) (h:Heap),(K w.params).In h→h.Ns mainGlobals mg→mg d.name=some (.ref fa)→
     ∃fd:FuncData,(∀(s:Shared) (u:Value),BindsTo s fd ⟨[u],[]⟩ [(x,u)])∧
       ∀base:Heap,(K w.params).In base→base.Ns mainGlobals mg→b8 l.prog w (K w.params) mg base (CX w) k fa fd [x] (sp w))
   (Ed:∀(w:World) (H:Hp) (a:Addr) (ns:List Int),ns.length≤n→mW H→aO (K w.params) H a (ns.map V.int)→sp w [.ref a] H (fun v _=>v=.bl true) fun _ _ _=>False)
   (Hf:∀(w:World) (H:Hp) (s:Shared) (e:Value) (s':Shared),CX w [] H s (fun _ _ _=>False) e s'→False):
   PySem.W.WalkO q loose XP YP l.row.toRowW d [] (fun f vs=>PySem.call f vs):=by
 refine qD.yB hn F6 fun w bE B2 mg mb fa o pm cd doc a vs ns G Y ho hd Cs hmg EY hints hlen hg=>?_;have KX:=hY w _ Y;obtain⟨fd,hb,hF⟩:=F w mg fa _ KX G.T.g hmg;exact wL KX G.T.g G.T.b G.T.builtins G.T.nolimit hg EY hints (Nat.le_trans hlen EI) hr hF hb (fun H hO hS=>Ed w H a ns hlen hO hS) fun H e s'=>Hf w H B2 e s'
end L2
namespace L2
open PySem PySem.Spec PyProof.Rows
noncomputable def bX(s:Stmt):Arguments:=match s with
 |.FunctionDef _ a _ _ _ _ _ _ _ _=>a
 |_=>{posonlyargs:=[],args:=[],vararg:=none,kwonlyargs:=[],kw_defaults:=[],kwarg:=none,defaults:=[]}
def bD(s:Stmt):List Stmt:=match s with
 |.FunctionDef _ _ b _ _ _ _ _ _ _=>b
 |_=>[]
def aJ(s:Stmt):Scope:=match s with
 |.FunctionDef _ _ _ _ _ _ sc _ _ _=>sc
 |_=>{kind:=.function,names:=[],isGenerator:=false,isCoroutine:=false}
abbrev dR:cN:=fun _ _ _ _ _ _=>False
abbrev E0:XK:=fun _ _ _=>False
theorem oP{X:Cx}:Passes dR X E0:=fun _ _ _ _ _ _ _ h=>h.elim
structure bJ(K:PySem.W.Frag)(x qual:Str)(st:Stmt)(f:Addr)(fd:FuncData):Prop where
 ex:∃(oc:Value) (od:Option Addr) (kV doc pm:Value) (an:Option Addr) (Cj ct:Value) (EN:Array (Option Value)),
   fd=PySem.W.fnOf x qual (bX st) (bD st) (aJ st) .none kV doc pm an Cj ct∧K.lookup f=some ⟨oc,od,.func fd,EN⟩∧PySem.W.codeIn K Cj qual=true
 kp:PySem.W.keepIn K (.ref f)=true
section
variable{P:Program}{w:World}{K:PySem.W.Frag}{mg:Str→Option Value}{base:Heap}
theorem bJ.ok{x qual:Str}{st:Stmt}{f:Addr}{fd:FuncData}{N ps:List Str}{k:Nat}{sp:Sp}(F:bJ K x qual st f fd)(S:bT N ps (aJ st))(len:∀vs H Q E,sp vs H Q E→vs.length=ps.length)
   (DQ:∀(Cj:Value) (A:Around) (outer:List Env) (s:Shared) (H:Hp) (vs:List V) (Q:VK) (E:XK),br k (A.deeper (envOfC qual (aJ st) s.heap.objs.size f Cj))→sp vs H Q E→
     ∃t,bu (fM dR P w K mg base N qual (aJ st) f Cj A outer s H E).eJ (bD st) t∧t {nx:=fun _ H'=>Q .aq H',rt:=Q} (start N vs) H):b8 P w K mg base dR (k+1) f fd ps sp:=by
 obtain⟨oc,od,kV,doc,pm,an,Cj,ct,EN,rfl,lk,Cs⟩:=F.ex;refine wB lk Cs S len fun A outer s H vs Q E hr Ed=>?_;obtain⟨t,h,q⟩:=DQ Cj A outer s H vs Q E hr Ed;exact⟨t,h.eJ,q⟩
theorem bJ.binds{x qual:Str}{st:Stmt}{f:Addr}{fd:FuncData}{ps:List Str}(F:bJ K x qual st f fd)
   (h:∀(kV doc pm:Value) (an:Option Addr) (Cj ct:Value) (us:List Value),us.length=ps.length→bindArgs (PySem.W.fnOf x qual (bX st) (bD st) (aJ st) .none kV doc pm an Cj ct) ⟨us,[]⟩=pure (ps.zip us)):Binds K fd ps []:=by
 obtain⟨oc,od,kV,doc,pm,an,Cj,ct,EN,rfl,lk,Cs⟩:=F.ex;exact .all (h kV doc pm an Cj ct)
theorem cw{x qual:Str}{st:Stmt}{f:Addr}{oc:Value}{od an:Option Addr}{EN:Array (Option Value)}{kV doc pm Cj ct:Value}(l:K.lookup f=some ⟨oc,od,.func (PySem.W.fnOf x qual (bX st) (bD st) (aJ st) .none kV doc pm an Cj ct),EN⟩)
   (c:PySem.W.codeIn K Cj qual=true) (k:PySem.W.keepIn K (.ref f)=true):bJ K x qual st f (PySem.W.fnOf x qual (bX st) (bD st) (aJ st) .none kV doc pm an Cj ct):=⟨⟨oc,od,kV,doc,pm,an,Cj,ct,EN,rfl,l,c⟩,k⟩
end
section
variable{X:Cx}
theorem pv(i:Nat){x:Str}{pos:Pos}(hN:X.N[i]? =some x:=by rfl)(hv:cz X.env.scope x:=by first|exact Or.inl rfl|exact Or.inr (Or.inl rfl)|exact Or.inr (Or.inr rfl))(hd:(x==("__debug__":Str))=false:=by decide)
   (Cs:(x==("__classdict__":Str))=false:=by decide):PE X (.Name x pos) (oM i):=tm hN hv hd Cs
end
def ae(H H':Hp):Prop:=∀b o,H b=some o→H' b=some o
theorem ae.refl(H:Hp):ae H H:=fun _ _ h=>h
theorem ae.trans{H H1 H2:Hp}(a:ae H H1)(b:ae H1 H2):ae H H2:=fun c o h=>b c o (a c o h)
theorem ae.free{H H':Hp}(e:ae H H'){l:Addr}(h:H' l=Option.none):H l=Option.none:=by
 cases q:H l with
 |none=>rfl
 | some o=>
   rw[e l o q]at h;cases h
theorem ae.seq{K:PySem.W.Frag}{H H':Hp}{a:Addr}{xs:List V}(e:ae H H')(h:aO K H a xs):aO K H' a xs:=by
 rcases h with(h|⟨o,h⟩)|h
 ·exact .inl (.inl (e _ _ h))
 ·exact .inl (.inr ⟨o,e _ _ h⟩)
 ·exact .inr h
end L2
namespace PL
open PySem PySem.Spec PySem.W
section
variable{prog:Program}{w:World}{A:Around}{E:Value→Shared→Prop}{h:Heap}{g:Array GenState}{d:Drawn}{t:Nat}{os:OsState}{a C:Addr}{o:Obj}{K:PySem.W.Frag}
end
end PL
namespace PL
open PySem
abbrev Ky:=Sum Int Str
inductive D where
 |aq|bl (b:Bool)|int (i:Int)|str (x:Str)
 |tup (xs:List D)|lst (xs:List D)|aV (ks:List Ky) (vs:List D)|bA (c:Str) (ns:List Str) (vs:List D)
 deriving Inhabited
inductive R(α:Type) where
 |ok (a:α)|exc (x:D)|bad
namespace R
def bind{α β:Type}:R α→(α→R β)→R β
 |.ok a,f=>f a
 |.exc x,_=>.exc x
 |.bad,_=>.bad
@[simp] theorem aY{α β:Type}(a:α)(f:α→R β):(R.ok a).bind f=f a:=rfl
@[simp] theorem B0{α β:Type}(x:D)(f:α→R β):(R.exc x).bind f=.exc x:=rfl
@[simp] theorem Bp{α β:Type}(f:α→R β):(R.bad:R α).bind f=.bad:=rfl
end R
inductive T where
 |d (x:D)|l (ts:List T)|m (ks:List Ky) (ts:List T)|tu (ts:List T)
 deriving Inhabited
def T.own:T→Bool
 |.d _=>false
 |.tu _=>false
 |_=>true
inductive Sp where
 |tr (t:T)|al (i:Nat) (p:List Nat)
 deriving Inhabited
inductive Slot where
 |un|sh (d:D)|ol (xs:List D)|od (ks:List Ky) (vs:List D)|on (x:Sp)
 deriving Inhabited
abbrev En:=List Slot
abbrev Ex:=En→R D
abbrev aF:=En→R Bool
abbrev bR:Nat:=16777216
mutual
@[simp] noncomputable def bo:D→D→Bool
 |.aq,.aq=>true
 |.bl a,.bl b=>a==b
 |.bl a,.int b=>(if a then 1 else 0)==b
 |.int a,.bl b=>a==(if b then 1 else 0)
 |.int a,.int b=>a==b
 |.str a,.str b=>decide (a=b)
 |.tup a,.tup b=>eP a b
 |.lst a,.lst b=>eP a b
 |_,_=>false
@[simp] noncomputable def eP:List D→List D→Bool
 |[],[]=>true
 |a::as,b::bs=>bo a b&&eP as bs
 |_,_=>false
end
@[simp] def flat:D→Bool
 |.aq=>true
 |.bl _=>true
 |.int _=>true
 |.str _=>true
 |_=>false
mutual
noncomputable def lay:D→Bool
 |.aq=>true
 |.bl _=>true
 |.int _=>true
 |.str x=>x.cps.all (· <0x110000)
 |.tup xs=>cg xs
 |.lst xs=>cg xs
 |_=>false
noncomputable def cg:List D→Bool
 |[]=>true
 |x::xs=>lay x&&cg xs
end
mutual
noncomputable def dep:D→Nat
 |.tup xs=>fX xs+1
 |.lst xs=>fX xs+1
 |_=>0
noncomputable def fX:List D→Nat
 |[]=>0
 |x::xs=>max (dep x) (fX xs)
end
@[simp] def oK:D→D→Bool
 |.aV _ _,.str _=>true
 |_,_=>false
@[simp] def lB:D→D→Bool
 |.tup _,.tup []=>true
 |_,_=>false
def cP(a b:D):Bool:=(flat a&&flat b)||lB a b||(lay a&&lay b&&decide (min (dep a) (dep b)≤60))
def cn(a b:D):Bool:=cP a b||oK a b
theorem j5{a b:D}(ha:flat a=true)(hb:flat b=true):cP a b=true:=by unfold cP;rw[ha,hb];rfl
theorem gg{a b:D}(ha:flat a=true)(hb:flat b=true):cn a b=true:=by unfold cn;rw[j5 ha hb];rfl
@[simp] theorem BG(a b:Bool):cP (.bl a) (.bl b)=true:=j5 rfl rfl
@[simp] theorem BV(a b:Int):cP (.int a) (.int b)=true:=j5 rfl rfl
@[simp] theorem BX(a b:Str):cP (.str a) (.str b)=true:=j5 rfl rfl
@[simp] theorem Bv(a:List Ky)(c:List D)(b:Str):cn (.aV a c) (.str b)=true:=by unfold cn;simp
@[simp] theorem BJ:cn .aq .aq=true:=gg rfl rfl
@[simp] theorem Bl(a b:Bool):cn (.bl a) (.bl b)=true:=gg rfl rfl
@[simp] theorem o9(a b:Int):cn (.int a) (.int b)=true:=gg rfl rfl
@[simp] theorem By(a b:Str):cn (.str a) (.str b)=true:=gg rfl rfl
@[simp] theorem BU(b:Str):cn .aq (.str b)=true:=gg rfl rfl
@[simp] theorem A8(a:Int)(b:Str):cn (.int a) (.str b)=true:=gg rfl rfl
@[simp] theorem Bj(a:Bool)(b:Str):cn (.bl a) (.str b)=true:=gg rfl rfl
@[simp] theorem BS(a:List D):cn (.tup a) (.tup [])=true:=by unfold cn cP;simp
@[simp] noncomputable def truth:D→R Bool
 |.aq=>.ok false
 |.bl b=>.ok b
 |.int i=>.ok (i != 0)
 |.str x=>if x.length≤bR then .ok (x.length != 0)else .bad
 |.tup xs=>.ok (!xs.isEmpty)
 |.lst xs=>.ok (!xs.isEmpty)
 |.aV _ _=>.bad
 |.bA _ _ _=>.bad
def dA(n:Nat)(i:Int):Option Nat:=if 0≤i then(if i<n then some i.toNat else none)else if -(n:Int)≤i then some (i+n).toNat else none
def aZ{α:Type}(xs:List α)(i:Int):Option α:=(dA xs.length i).bind fun j=>xs[j]?
def aA(n d:Nat):Option Int→Nat
 |none=>d
 |some v=>if v<0 then(v+(n:Int)).toNat else min v.toNat n
def cut{α:Type}(xs:List α)(lo hi:Option Int):List α:=(xs.drop (aA xs.length 0 lo)).take (aA xs.length xs.length hi - aA xs.length 0 lo)
def inR(j:Int):Bool:=decide (-4611686018427387904≤j)&&decide (j<4611686018427387904)
def gx(j:Int):Bool:=decide (0<j)&&decide (j<340282366920938463463374607431768211456)
def ib(j:Int):Bool:=decide (0≤j)&&decide (j≤1000)
def small(i:Int):Bool:=decide (-18446744073709551616<i)&&decide (i<18446744073709551616)
@[simp] noncomputable def bz:D→D→R D
 |.int i,.int j=>.ok (.int (i+j))
 |.str x,.str y=>if x.length+y.length≤bR then .ok (.str (x++y))else .bad
 |.lst x,.lst y=>if x.length+y.length≤bR then .ok (.lst (x++y))else .bad
 |.tup x,.tup y=>if x.isEmpty=false∧x.length+y.length≤bR then .ok (.tup (x++y))else .bad
 |_,_=>.bad
@[simp] def jx:D→D→R D
 |.int i,.int j=>.ok (.int (i - j))
 |_,_=>.bad
@[simp] def cF:D→D→R D
 |.int i,.int j=>if(small i||small j)=true then .ok (.int (i*j))else .bad
 |_,_=>.bad
@[simp] def Bb:D→D→R D
 |.lst x,.int j=>if 0≤j∧j<1000∧x.length≤1000 then .ok (.lst (List.replicate j.toNat x).flatten)else .bad
 |_,_=>.bad
@[simp] def oDiv:D→D→R D
 |.int i,.int j=>if gx j=true then .ok (.int (i / j))else .bad
 |_,_=>.bad
@[simp] def oMod:D→D→R D
 |.int i,.int j=>if 0<j then .ok (.int (i % j))else .bad
 |_,_=>.bad
@[simp] def bH:D→D→R D
 |.int i,.int j=>if(ib j&&small i)=true then .ok (.int (i ^ j.toNat))else .bad
 |_,_=>.bad
@[simp] def Bk:D→R D
 |.int i=>.ok (.int (-i))
 |_=>.bad
@[simp] def oEq(x y:D):R D:=if cn x y=true then .ok (.bl (bo x y))else .bad
@[simp] def dy(x y:D):R D:=if cP x y=true then .ok (.bl (!bo x y))else .bad
@[simp] def oLt:D→D→R D
 |.int i,.int j=>.ok (.bl (decide (i<j)))
 |_,_=>.bad
@[simp] def oLe:D→D→R D
 |.int i,.int j=>.ok (.bl (decide (i≤j)))
 |_,_=>.bad
@[simp] def Bu:D→D→R D
 |.int i,.int j=>.ok (.bl (decide (j<i)))
 |_,_=>.bad
@[simp] def fq:D→D→R D
 |.int i,.int j=>.ok (.bl (decide (j≤i)))
 |_,_=>.bad
@[simp] def pC:D→Bool
 |.aq=>true
 |_=>false
@[simp] def A9(b:Bool):D→Bool
 |.bl c=>b==c
 |_=>false
@[simp] def i5(d:D):R D:=.ok (.bl (pC d))
@[simp] def jB(d:D):R D:=.ok (.bl (!pC d))
@[simp] def Bs(b:Bool):D→R D
 |.bl c=>.ok (.bl (c==b))
 |_=>.bad
@[simp] def Bg(b:Bool):D→R D
 |.bl c=>.ok (.bl (!(c==b)))
 |_=>.bad
def keyOf:D→Option Ky
 |.int i=>some (.inl i)
 |.str x=>some (.inr x)
 |_=>none
def bK(k:Ky):List Ky→List D→Option D
 |a::ks,v::vs=>if a=k then some v else bK k ks vs
 |_,_=>none
@[simp] noncomputable def r9:D→D→R D
 |.str _,.str _=>.bad
 |x,.lst ys=>if flat x=true∧ys.all flat=true then .ok (.bl (ys.any fun y=>bo y x))else .bad
 |x,.tup ys=>if flat x=true∧ys.all flat=true then .ok (.bl (ys.any fun y=>bo y x))else .bad
 | x,.aV ks vs=>match keyOf x with
   |some k=>.ok (.bl (bK k ks vs).isSome)
   |none=>.bad
 |_,_=>.bad
@[simp] def iN:D→R D
 |.bl b=>.ok (.bl (!b))
 |_=>.bad
@[simp] def Bd(x y:D):R D:=(r9 x y).bind iN
@[simp] noncomputable def iq:D→D→R D
 | .lst xs,.int i=>match aZ xs i with
   |some v=>.ok v
   |none=>.bad
 | .tup xs,.int i=>match aZ xs i with
   |some v=>.ok v
   |none=>.bad
 | .str x,.int i=>if x.length≤bR then match aZ x.cps.toList i with
   |some c=>.ok (.str ⟨#[c]⟩)
   |none=>.bad else .bad
 |_,_=>.bad
@[simp] noncomputable def jV:D→D→R D
 | .aV ks vs,k=>match keyOf k with
   | some q=>match bK q ks vs with
     |some v=>.ok v
     |none=>.bad
   |none=>.bad
 |_,_=>.bad
@[simp] noncomputable def aD:D→D→R D
 |.lst xs,k=>iq (.lst xs) k
 |.tup xs,k=>iq (.tup xs) k
 |.str x,k=>iq (.str x) k
 |.aV ks vs,k=>jV (.aV ks vs) k
 |_,_=>.bad
@[simp] noncomputable def kR(lo hi:Option Int):D→R D
 |.lst xs=>.ok (.lst (cut xs lo hi))
 |.tup xs=>if aA xs.length 0 lo=0∧aA xs.length xs.length hi=xs.length then .bad else .ok (.tup (cut xs lo hi))
 |_=>.bad
@[simp] noncomputable def cD:D→R D
 |.lst xs=>.ok (.int xs.length)
 |.tup xs=>.ok (.int xs.length)
 |.str x=>if x.length≤bR then .ok (.int x.length)else .bad
 |_=>.bad
inductive Ty where
 |int|bool|str|tuple|list|dict
@[simp] noncomputable def dP:Ty→D→R D
 |.int,.int _=>.ok (.bl true)
 |.int,.bl _=>.ok (.bl true)
 |.bool,.bl _=>.ok (.bl true)
 |.str,.str _=>.ok (.bl true)
 |.tuple,.tup _=>.ok (.bl true)
 |.list,.lst _=>.ok (.bl true)
 |.dict,.aV _ _=>.ok (.bl true)
 |_,.bA _ _ _=>.bad
 |_,_=>.ok (.bl false)
@[simp] def BR:D→R D
 |.lst xs=>.ok (.lst xs)
 |.tup xs=>.ok (.lst xs)
 |_=>.bad
@[simp] def eE:D→R D
 |.lst xs=>.ok (.tup xs)
 |.tup xs=>.ok (.tup xs)
 |_=>.bad
def allB:List D→R D
 |[]=>.ok (.bl true)
 | .bl b::r=>(allB r).bind fun z=>match z with
   |.bl k=>.ok (.bl (b&&k))
   |_=>.bad
 |_=>.bad
@[simp] def m7:D→R D
 |.lst xs=>allB xs
 |_=>.bad
@[simp] def eZ:D→R D
 |.int i=>.ok (.int i)
 |.bl b=>.ok (.int (if b then 1 else 0))
 |_=>.bad
@[simp] def BD:D→R D
 |.int i=>if 0≤i∧i<10 ^ 100 then .ok (.str (Str.ofString (toString i)))else .bad
 |_=>.bad
@[simp] def kc:D→D→R D
 |.int i,.int j=>.ok (.int (if j<i then j else i))
 |_,_=>.bad
noncomputable def findS(x:List Nat):Nat→List Nat→Option Nat
 |k,[]=>if x=[]then some k else none
 |k,c::r=>if(c::r).take x.length=x then some k else findS x (k+1) r
@[simp] def Bw:D→D→R D
 | .str y,.str x=>.ok (.int (match findS x.cps.toList 0 y.cps.toList with
   |some k=>(k:Int)
   |none=> -1))
 |_,_=>.bad
def dW(x:D):Nat→List D→R D
 |_,[]=>.bad
 |k,y::r=>if bo y x=true then .ok (.int k)else dW x (k+1) r
@[simp] noncomputable def BI:D→D→R D
 |.tup ys,x=>if flat x=true∧ys.all flat=true then dW x 0 ys else .bad
 |.lst ys,x=>if flat x=true∧ys.all flat=true then dW x 0 ys else .bad
 |_,_=>.bad
def strsOf:List D→Option (List Str)
 |[]=>some []
 |.str x::r=>(strsOf r).map (x:: ·)
 |_=>none
@[simp] noncomputable def Bo:D→D→R D
 | .str x,.lst ys=>match strsOf ys with
   |some zs=>if(Str.join x zs).length≤bR then .ok (.str (Str.join x zs))else .bad
   |none=>.bad
 |_,_=>.bad
@[simp] def eT(e:D):D→D→R D
 | .aV ks vs,k=>match keyOf k with
   |some q=>.ok ((bK q ks vs).getD e)
   |none=>.bad
 |_,_=>.bad
@[simp] def aa(i:Nat):Ex:=fun ρ=>match ρ[i]? with
 |some (.sh d)=>.ok d
 |_=>.bad
@[simp] def eC(d:D):Ex:=fun _=>.ok d
@[simp] def e1(g:D→R D)(a:Ex):Ex:=fun ρ=>(a ρ).bind g
@[simp] def e2(g:D→D→R D)(a b:Ex):Ex:=fun ρ=>(a ρ).bind fun x=>(b ρ).bind fun y=>g x y
@[simp] def jq(a b:Ex):Ex:=fun ρ=>(a ρ).bind fun x=>match x with
 |.bl true=>b ρ
 |.bl false=>.ok (.bl false)
 |_=>.bad
@[simp] def BY(a b:Ex):Ex:=fun ρ=>(a ρ).bind fun x=>match x with
 |.bl true=>.ok (.bl true)
 |.bl false=>b ρ
 |_=>.bad
@[simp] def fK(c:aF)(a b:Ex):Ex:=fun ρ=>(c ρ).bind fun t=>if t=true then a ρ else b ρ
@[simp] def eList:List Ex→En→R (List D)
 |[],_=>.ok []
 |e::es,ρ=>(e ρ).bind fun x=>(eList es ρ).bind fun xs=>.ok (x::xs)
@[simp] def dQ(es:List Ex):Ex:=fun ρ=>(eList es ρ).bind fun xs=>.ok (.tup xs)
@[simp] def bh(es:List Ex):Ex:=fun ρ=>(eList es ρ).bind fun xs=>.ok (.lst xs)
@[simp] def aB(f:List D→R D)(es:List Ex):Ex:=fun ρ=>(eList es ρ).bind f
@[simp] noncomputable def kF(g h:D→D→R D)(a b c:Ex):Ex:=fun ρ=>(a ρ).bind fun x=>(b ρ).bind fun y=>(g x y).bind fun z=>match z with
 |.bl true=>(c ρ).bind fun w=>h y w
 |.bl false=>.ok (.bl false)
 |_=>.bad
@[simp] def gm(ks:List Ky)(es:List Ex):Ex:=fun ρ=>(eList es ρ).bind fun xs=>.ok (.aV ks xs)
@[simp] def jT:Option Ex→En→R (Option Int)
 |none,_=>.ok none
 | some e,ρ=>(e ρ).bind fun x=>match x with
   |.int i=>.ok (some i)
   |_=>.bad
@[simp] def iU(a:Ex)(lo hi:Option Ex):Ex:=fun ρ=>(a ρ).bind fun x=>(jT lo ρ).bind fun l=>(jT hi ρ).bind fun u=>kR l u x
@[simp] def tV(a:Ex):aF:=fun ρ=>(a ρ).bind truth
@[simp] def cK(a b:aF):aF:=fun ρ=>(a ρ).bind fun t=>if t=true then b ρ else .ok false
@[simp] def b4(a b:aF):aF:=fun ρ=>(a ρ).bind fun t=>if t=true then .ok true else b ρ
@[simp] def cf(a:aF):aF:=fun ρ=>(a ρ).bind fun t=>.ok (!t)
@[simp] def Bq(i:Nat):Ex:=fun ρ=>match ρ[i]? with
 |some (.ol xs)=>.ok (.int xs.length)
 |some (.od ks _)=>.ok (.int ks.length)
 |_=>.bad
@[simp] noncomputable def Bn(i:Nat)(e:Ex):Ex:=fun ρ=>(e ρ).bind fun x=>match ρ[i]? with
 |some (.ol xs)=>aD (.lst xs) x
 |some (.od ks vs)=>jV (.aV ks vs) x
 |_=>.bad
@[simp] def BW(i:Nat):Ex:=fun ρ=>match ρ[i]? with
 |some (.ol xs)=>.ok (.int xs.length)
 |_=>.bad
abbrev bg:=En→R (List D)
@[simp] def items:D→R (List D)
 |.lst xs=>.ok xs
 |.tup xs=>.ok xs
 |.str x=>.ok (x.cps.toList.map fun c=>.str ⟨#[c]⟩)
 |_=>.bad
@[simp] def d7(a:Ex):bg:=fun ρ=>(a ρ).bind items
def bF(i j:Int):List D:=(List.range (j - i).toNat).map fun(k:Nat)=>.int (i+(k:Int))
@[simp] def eW(a:Ex):bg:=fun ρ=>(a ρ).bind fun x=>match x with
 |.int j=>if inR j=true then .ok (bF 0 j)else .bad
 |_=>.bad
@[simp] noncomputable def gh(a b:Ex):bg:=fun ρ=>(a ρ).bind fun x=>(b ρ).bind fun y=>match x,y with
 |.int i,.int j=>if(inR i&&inR j)=true then .ok (bF i j)else .bad
 |_,_=>.bad
@[simp] def fE:List D→List D→List D
 |x::xs,y::ys=>.tup [x,y]::fE xs ys
 |_,_=>[]
@[simp] def j7(a b:Ex):bg:=fun ρ=>(a ρ).bind fun x=>(b ρ).bind fun y=>(items x).bind fun xs=>(items y).bind fun ys=>.ok (fE xs ys)
@[simp] def rh:Nat→List D→List D
 |_,[]=>[]
 |k,x::xs=>.tup [.int k,x]::rh (k+1) xs
@[simp] def Bt(a:Ex):bg:=fun ρ=>(a ρ).bind fun x=>(items x).bind fun xs=>.ok (rh 0 xs)
abbrev bj:=D→En→R En
@[simp] def aC(i:Nat):bj:=fun d ρ=>.ok (ρ.set i (.sh d))
@[simp] def cq:List Nat→List D→En→R En
 |[],[],ρ=>.ok ρ
 |i::is,d::ds,ρ=>cq is ds (ρ.set i (.sh d))
 |_,_,_=>.bad
@[simp] def dn(is:List Nat):bj:=fun d ρ=>match d with
 |.tup ds=>cq is ds ρ
 |_=>.bad
@[simp] def oJ:Option Slot→Slot
 |some (.sh d)=>.sh d
 |_=>.un
@[simp] def frees(ρ:En)(fv:List Nat):En:=fv.map fun i=>oJ ρ[i]?
noncomputable def cA(tg:bj)(cs:List aF)(el:Ex)(ρ:En):List D→R (List D)
 |[]=>.ok []
 | d::ds=>(tg d ρ).bind fun CJ=>(gG cs CJ).bind fun t=>
   if t=true then(el CJ).bind fun y=>(cA tg cs el ρ ds).bind fun ys=>.ok (y::ys)else cA tg cs el ρ ds
where gG:List aF→En→R Bool
 |[],_=>.ok true
 |c::cs,ρ=>(c ρ).bind fun t=>if t=true then gG cs ρ else .ok false
@[simp] noncomputable def cY(it:bg)(n:Nat)(fv:List Nat)(tg:bj)(cs:List aF)(el:Ex):Ex:=fun ρ=>(it ρ).bind fun ds=>
 if ds.length≤bR then(cA tg cs el (List.replicate n .un++frees ρ fv) ds).bind fun ys=>.ok (.lst ys)else .bad
inductive Fl where
 |next (ρ:En)|ret (d:D)|brk (ρ:En)|cont (ρ:En)|d8 (d:D)|eO (t:T)
abbrev Sm:=En→R Fl
@[simp] def cv:Sm:=fun ρ=>.ok (.next ρ)
@[simp] def oV(a b:Sm):Sm:=fun ρ=>(a ρ).bind fun f=>match f with
 |.next ρ'=>b ρ'
 |f=>.ok f
@[simp] def aL:List Sm→Sm
 |[]=>cv
 |a::r=>oV a (aL r)
@[simp] def b7(c:aF)(a b:Sm):Sm:=fun ρ=>(c ρ).bind fun t=>if t=true then a ρ else b ρ
@[simp] def aP(g:bj)(e:Ex):Sm:=fun ρ=>(e ρ).bind fun d=>(g d ρ).bind fun ρ'=>.ok (.next ρ')
@[simp] def bb(e:Ex):Sm:=fun ρ=>(e ρ).bind fun d=>.ok (.ret d)
@[simp] def BO:Sm:=fun _=>.ok (.ret .aq)
@[simp] def BH(e:Ex):Sm:=fun ρ=>(e ρ).bind fun _=>.ok (.next ρ)
@[simp] def lI:Sm:=fun _=>.bad
@[simp] def jd(i:Nat)(e:Ex):Sm:=fun ρ=>(e ρ).bind fun d=>match d with
 |.lst xs=>.ok (.next (ρ.set i (.ol xs)))
 |_=>.bad
@[simp] def lU(i:Nat)(e:Ex):Sm:=fun ρ=>(e ρ).bind fun d=>match d with
 |.aV ks vs=>.ok (.next (ρ.set i (.od ks vs)))
 |_=>.bad
@[simp] noncomputable def g6(i:Nat):Sm:=fun ρ=>match ρ[i]? with
 |some (.ol xs)=>.ok (.next (ρ.set i (.sh (.lst xs))))
 |some (.od ks vs)=>.ok (.next (ρ.set i (.sh (.aV ks vs))))
 |_=>.bad
@[simp] noncomputable def eS(i:Nat)(e:Ex):Sm:=fun ρ=>(e ρ).bind fun d=>match ρ[i]? with
 |some (.ol xs)=>if xs.length<bR then .ok (.next (ρ.set i (.ol (xs++[d]))))else .bad
 |_=>.bad
@[simp] noncomputable def BM(i:Nat)(k e:Ex):Sm:=fun ρ=>(e ρ).bind fun d=>(k ρ).bind fun q=>match ρ[i]?,q with
 | some (.ol xs),.int j=>match dA xs.length j with
   |some m=>.ok (.next (ρ.set i (.ol (xs.set m d))))
   |none=>.bad
 |_,_=>.bad
noncomputable def putK(k:Ky)(d:D):List Ky→List D→List Ky×List D
 |a::ks,v::vs=>if a=k then(a::ks,d::vs)else((a::(putK k d ks vs).1),(v::(putK k d ks vs).2))
 |_,_=>([k],[d])
@[simp] noncomputable def Bf(i:Nat)(k e:Ex):Sm:=fun ρ=>(e ρ).bind fun d=>(k ρ).bind fun q=>match ρ[i]?,keyOf q with
 |some (.od ks vs),some y=>if ks.length<1000 then .ok (.next (ρ.set i (.od (putK y d ks vs).1 (putK y d ks vs).2)))else .bad
 |_,_=>.bad
noncomputable def forL(tg:bj)(body:Sm):List D→En→R Fl
 |[],ρ=>.ok (.next ρ)
 | d::ds,ρ=>(tg d ρ).bind fun CJ=>(body CJ).bind fun f=>match f with
   |.next CY=>forL tg body ds CY
   |.cont CY=>forL tg body ds CY
   |.brk CY=>.ok (.next CY)
   |.ret d=>.ok (.ret d)
   |.d8 d=>.ok (.d8 d)
   |.eO t=>.ok (.eO t)
@[simp] def d3(it:bg)(tg:bj)(body:Sm):Sm:=fun ρ=>(it ρ).bind fun ds=>forL tg body ds ρ
@[simp] noncomputable def fn(n:Nat)(body:Sm):List D→R D:=fun ds=>(body (ds.map .sh++List.replicate (n - ds.length) .un)).bind fun f=>match f with
 |.ret d=>.ok d
 |.next _=>.ok .aq
 |_=>.bad
@[simp] noncomputable def BN(n:Nat)(body:Sm):List D→R D:=fun ds=>(body (ds.map .sh++List.replicate (n - ds.length) .un)).bind fun f=>match f with
 |.d8 (.lst xs)=>.ok (.lst xs)
 |_=>.bad
end PL
namespace PL
open PySem PySem.Spec
open L2 (V Hp HO Cx PE PT PW PA PS bu St VK TE TT TA TS TI Inv RelV Vals Rd aO aT upd ae Key XK Ends)
structure Md where
 K:PySem.W.Frag
 P:Program
 w:World
abbrev ai(X:Cx):Md:=⟨X.K,X.prog,X.w⟩
def eB(M:Md)(H:Hp)(F:Addr→Prop)(a:Addr)(xs:List V):Prop:=
 (¬F a∧Rd H a (.lst xs))∨∃(o:Obj) (y':Array Value) (n:Nat),M.K.lookup a=some o∧o.cls=.type "list"∧o.dict=none∧o.data=.seq y' n∧y'.size≤sizeLine∧Vals xs y'.toList
def dX(M:Md)(H:Hp)(F:Addr→Prop)(a:Addr)(xs:List V):Prop:=
 (¬F a∧Rd H a (.tup xs))∨∃(o:Obj) (y':Array Value) (n:Nat),M.K.lookup a=some o∧o.cls=.type "tuple"∧o.data=.seq y' n∧y'.size≤sizeLine∧Vals xs y'.toList
def g0(M:Md)(H:Hp)(F:Addr→Prop)(a:Addr)(kvs:List (Key×V)):Prop:=
 (¬F a∧∃ob,H a=some (.frz ob (.dK kvs)))∨∃(o:Obj) (es:Array DictEntry) (ep:Nat) (vs:List (Key×Value)),M.K.lookup a=some o∧o.ExactDict∧o.data=.dict es ep∧KeysOf (L2.bc M.P M.w) es∧Pairs (L2.bc M.P M.w) es.toList vs∧
   (vs.map (·.1)).Nodup∧L2.KV kvs vs∧kvs.length≤sizeLine∧(a==sysModules)=false
theorem eB.sq{M:Md}{H:Hp}{F:Addr→Prop}{a:Addr}{xs:List V}(h:eB M H F a xs):aO M.K H a xs:=h.elim (fun h=>.inl h.2) .inr
theorem dX.sq{M:Md}{H:Hp}{F:Addr→Prop}{a:Addr}{xs:List V}(h:dX M H F a xs):aT M.K H a xs:=h.elim (fun h=>.inl h.2) .inr
def yq(a C:Addr):HO:=.ext fun h=>∃o,h.get? a=some o∧o.cls=.ref C∧∃vs,o.data=.fields vs
mutual
noncomputable def Rep(M:Md)(H:Hp)(F:Addr→Prop):D→V→Prop
 |.aq,v=>v=.aq
 |.bl b,v=>v=.bl b
 |.int i,v=>v=.int i
 |.str x,v=>v=.str x
 |.tup ds,v=>∃a xs,v=.ref a∧dX M H F a xs∧ab M H F ds xs
 |.lst ds,v=>∃a xs,v=.ref a∧eB M H F a xs∧ab M H F ds xs
 |.aV ks ds,v=>∃a xs,v=.ref a∧g0 M H F a (ks.zip xs)∧ks.length=xs.length∧ab M H F ds xs
 |.bA c ns ds,v=>∃(a:Addr) (_u:Unit),v=.ref a∧¬F a∧((ns=[]∧∃C,H a=some (yq a C)∧PySem.W.nsIn M.K mainGlobals c=some (some (.ref C)))∨(ns≠[]∧∃o xs,H a=some (.frz o (.tup xs))∧o.dict=none∧ab M H F ds xs))
noncomputable def ab(M:Md)(H:Hp)(F:Addr→Prop):List D→List V→Prop
 |[],xs=>xs=[]
 |d::ds,xs=>∃x r,xs=x::r∧Rep M H F d x∧ab M H F ds r
end
def Mv(F:Addr→Prop)(H:Hp)(F':Addr→Prop)(H':Hp):Prop:=∀a o,¬F a→H a=some o→¬F' a∧H' a=some o
theorem Mv.same{F:Addr→Prop}{H H':Hp}(h:ae H H'):Mv F H F H':=fun a o n e=>⟨n,h a o e⟩
theorem Mv.trans{F F1 F2:Addr→Prop}{H H1 H2:Hp}(a:Mv F H F1 H1)(b:Mv F1 H1 F2 H2):Mv F H F2 H2:=fun c o n e=>b c o (a c o n e).1 (a c o n e).2
section
variable{M:Md}{H H':Hp}{F F':Addr→Prop}{a:Addr}{xs:List V}
theorem qa(m:Mv F H F' H'){u:HO}(n:¬F a)(h:Rd H a u):¬F' a∧Rd H' a u:=by
 rcases h with h|⟨o,h⟩
 ·exact⟨(m _ _ n h).1,.inl (m _ _ n h).2⟩
 ·exact⟨(m _ _ n h).1,.inr ⟨o,(m _ _ n h).2⟩⟩
theorem eB.mv(m:Mv F H F' H')(h:eB M H F a xs):eB M H' F' a xs:=by
 rcases h with⟨n,h⟩|h
 ·exact .inl (qa m n h)
 ·exact .inr h
theorem dX.mv(m:Mv F H F' H')(h:dX M H F a xs):dX M H' F' a xs:=by
 rcases h with⟨n,h⟩|h
 ·exact .inl (qa m n h)
 ·exact .inr h
theorem g0.mv{kvs:List (Key×V)}(m:Mv F H F' H')(h:g0 M H F a kvs):g0 M H' F' a kvs:=by
 rcases h with⟨n,ob,h⟩|h
 ·exact .inl ⟨(m _ _ n h).1,ob,(m _ _ n h).2⟩
 ·exact .inr h
mutual
theorem Rep.mv(m:Mv F H F' H'):∀ {d:D} {v:V},Rep M H F d v→Rep M H' F' d v
 |.aq,_,h=>by simp only[Rep]at h ⊢;exact h
 |.bl _,_,h=>by simp only[Rep]at h ⊢;exact h
 |.int _,_,h=>by simp only[Rep]at h ⊢;exact h
 |.str _,_,h=>by simp only[Rep]at h ⊢;exact h
 | .tup ds,_,h=>by
   simp only[Rep]at h ⊢;obtain⟨a,xs,e,t,r⟩:=h;exact⟨a,xs,e,t.mv m,ab.mv m r⟩
 | .lst ds,_,h=>by
   simp only[Rep]at h ⊢;obtain⟨a,xs,e,t,r⟩:=h;exact⟨a,xs,e,t.mv m,ab.mv m r⟩
 | .aV ks ds,_,h=>by
   simp only[Rep]at h ⊢;obtain⟨a,xs,e,t,l,r⟩:=h;exact⟨a,xs,e,t.mv m,l,ab.mv m r⟩
 | .bA _ _ _,_,h=>by
   simp only[Rep]at h ⊢;obtain⟨a,_,e,n,h⟩:=h;rcases h with⟨z,C,q,k⟩|⟨z,o,xs,q,hd,r⟩
   ·exact⟨a,(),e,(m _ _ n q).1,.inl ⟨z,C,(m _ _ n q).2,k⟩⟩
   ·exact⟨a,(),e,(m _ _ n q).1,.inr ⟨z,o,xs,(m _ _ n q).2,hd,ab.mv m r⟩⟩
theorem ab.mv(m:Mv F H F' H'):∀ {ds:List D} {xs:List V},ab M H F ds xs→ab M H' F' ds xs
 |[],_,h=>by simp only[ab]at h ⊢;exact h
 | d::ds,_,h=>by
   simp only[ab]at h ⊢;obtain⟨x,r,e,h1,h2⟩:=h;exact⟨x,r,e,Rep.mv m h1,ab.mv m h2⟩
end
theorem ab.length:∀ {ds:List D} {xs:List V},ab M H F ds xs→ds.length=xs.length
 |[],_,h=>by simp only[ab]at h;subst h;rfl
 | d::ds,_,h=>by
   simp only[ab]at h;obtain⟨x,r,rfl,_,h2⟩:=h;simp[ab.length h2]
theorem ab.get:∀ {ds:List D} {xs:List V} {i:Nat} {d:D},ab M H F ds xs→ds[i]? =some d→∃x,xs[i]? =some x∧Rep M H F d x
 |[],_,_,_,_,e=>by simp at e
 | d::ds,_,0,_,h,e=>by
   simp only[ab]at h;obtain⟨x,r,rfl,h1,_⟩:=h;simp at e;subst e;exact⟨x,rfl,h1⟩
 | d::ds,_,i+1,_,h,e=>by
   simp only[ab]at h;obtain⟨x,r,rfl,_,h2⟩:=h;obtain⟨y,e1,h3⟩:=ab.get h2 (by simpa using e)
   exact⟨y,by simpa using e1,h3⟩
theorem ab.append:∀ {ds es:List D} {xs ys:List V},ab M H F ds xs→ab M H F es ys→ab M H F (ds++es) (xs++ys)
 |[],_,_,_,h,g=>by simp only[ab]at h;subst h;exact g
 | d::ds,_,_,_,h,g=>by
   simp only[ab]at h;obtain⟨x,r,rfl,h1,h2⟩:=h;simp only[List.cons_append,ab];exact⟨x,_,rfl,h1,ab.append h2 g⟩
theorem ab.take:∀ {ds:List D} {xs:List V} (n:Nat),ab M H F ds xs→ab M H F (ds.take n) (xs.take n)
 |_,_,0,_=>by simp[ab]
 |[],_,n+1,h=>by simp only[ab]at h;subst h;simp[ab]
 | d::ds,_,n+1,h=>by
   simp only[ab]at h;obtain⟨x,r,rfl,h1,h2⟩:=h;simp only[List.take_succ_cons,ab];exact⟨x,_,rfl,h1,ab.take n h2⟩
theorem ab.drop:∀ {ds:List D} {xs:List V} (n:Nat),ab M H F ds xs→ab M H F (ds.drop n) (xs.drop n)
 |_,_,0,h=>h
 |[],_,n+1,h=>by simp only[ab]at h;subst h;simp[ab]
 | d::ds,_,n+1,h=>by
   simp only[ab]at h;obtain⟨x,r,rfl,h1,h2⟩:=h;exact ab.drop n h2
theorem ab.nil:ab M H F [] []:=by simp[ab]
theorem ab.cons{d:D}{x:V}{ds:List D}(h:Rep M H F d x)(t:ab M H F ds xs):ab M H F (d::ds) (x::xs):=by
 simp only[ab];exact⟨_,_,rfl,h,t⟩
theorem ab.set:∀ {ds:List D} {xs:List V} {d:D} {x:V} (i:Nat),Rep M H F d x→ab M H F ds xs→ab M H F (ds.set i d) (xs.set i x)
 |[],_,_,_,_,_,h=>by simp only[ab]at h;subst h;exact ab.nil
 | d::ds,_,_,_,0,g,h=>by
   simp only[ab]at h;obtain⟨y,r,rfl,_,h2⟩:=h;exact ab.cons g h2
 | d::ds,_,_,_,i+1,g,h=>by
   simp only[ab]at h;obtain⟨y,r,rfl,h1,h2⟩:=h;exact ab.cons h1 (ab.set i g h2)
end
def bq(ρ:En)(i:Nat):Prop:=(∃ds,ρ[i]? =some (.ol ds))∨∃ks ds,ρ[i]? =some (.od ks ds)
mutual
noncomputable def ah(M:Md)(H:Hp)(F:Addr→Prop):T→V→List Addr→Prop
 |.d x,v,as=>as=[]∧Rep M H F x v
 |.l ts,v,as=>∃a xs bs,v=.ref a∧as=a::bs∧F a∧H a=some (.lst xs)∧ag M H F ts xs bs
 |.m ks ts,v,as=>∃a xs bs,v=.ref a∧as=a::bs∧F a∧H a=some (.dK (ks.zip xs))∧ks.length=xs.length∧ag M H F ts xs bs
 |.tu ts,v,as=>∃a xs,v=.ref a∧¬F a∧H a=some (.tup xs)∧ag M H F ts xs as
noncomputable def ag(M:Md)(H:Hp)(F:Addr→Prop):List T→List V→List Addr→Prop
 |[],xs,as=>xs=[]∧as=[]
 |t::ts,xs,as=>∃x r bs cs,xs=x::r∧as=bs++cs∧ah M H F t x bs∧ag M H F ts r cs
end
mutual
theorem ah.mv{M:Md}{H H':Hp}{F F':Addr→Prop}(m:Mv F H F' H'):∀ {t:T} {v:V} {as:List Addr},(∀b∈as,∀u,F b→H b=some u→F' b∧H' b=some u)→ah M H F t v as→ah M H' F' t v as
 | .d x,v,as,_,h=>by
   simp only[ah]at h ⊢;exact⟨h.1,h.2.mv m⟩
 | .l ts,v,as,k,h=>by
   simp only[ah]at h ⊢;obtain⟨a,xs,bs,e1,rfl,f,e2,r⟩:=h;obtain⟨f',e'⟩:=k a List.mem_cons_self _ f e2;exact⟨a,xs,bs,e1,rfl,f',e',ag.mv m (fun b hb=>k b (List.mem_cons_of_mem _ hb)) r⟩
 | .m ks ts,v,as,k,h=>by
   simp only[ah]at h ⊢;obtain⟨a,xs,bs,e1,rfl,f,e2,l,r⟩:=h;obtain⟨f',e'⟩:=k a List.mem_cons_self _ f e2;exact⟨a,xs,bs,e1,rfl,f',e',l,ag.mv m (fun b hb=>k b (List.mem_cons_of_mem _ hb)) r⟩
 | .tu ts,v,as,k,h=>by
   simp only[ah]at h ⊢;obtain⟨a,xs,e1,f,e2,r⟩:=h;exact⟨a,xs,e1,(m _ _ f e2).1,(m _ _ f e2).2,ag.mv m k r⟩
theorem ag.mv{M:Md}{H H':Hp}{F F':Addr→Prop}(m:Mv F H F' H'):∀ {ts:List T} {xs:List V} {as:List Addr},(∀b∈as,∀u,F b→H b=some u→F' b∧H' b=some u)→ag M H F ts xs as→ag M H' F' ts xs as
 |[],xs,as,_,h=>by simp only[ag]at h ⊢;exact h
 | t::ts,xs,as,k,h=>by
   simp only[ag]at h ⊢;obtain⟨x,r,bs,cs,e1,rfl,h1,h2⟩:=h;exact⟨x,r,bs,cs,e1,rfl,ah.mv m (fun b hb=>k b (List.mem_append_left _ hb)) h1,ag.mv m (fun b hb=>k b (List.mem_append_right _ hb)) h2⟩
end
mutual
theorem ah.det{M:Md}{H H':Hp}{F F':Addr→Prop}(m:∀a xs,¬F a→H a=some (.tup xs)→∀ys,H' a=some (.tup ys)→xs=ys):∀ {t:T} {v:V} {as Cw:List Addr},ah M H F t v as→ah M H' F' t v Cw→(∀b∈as,∀u,F b→H b=some u→H' b=some u)→as=Cw
 | .d x,v,as,Cw,h,h',_=>by
   simp only[ah]at h h';rw[h.1,h'.1]
 | .l ts,v,as,Cw,h,h',k=>by
   simp only[ah]at h h';obtain⟨a,xs,bs,rfl,rfl,f,e2,r⟩:=h;obtain⟨a',Dm,Dy,e1,rfl,f',CQ,r'⟩:=h';cases e1;have e3:=k a List.mem_cons_self _ f e2;rw[CQ]at e3;cases e3;rw[ag.det m r r' fun b hb=>k b (List.mem_cons_of_mem _ hb)]
 | .m ks ts,v,as,Cw,h,h',k=>by
   simp only[ah]at h h';obtain⟨a,xs,bs,rfl,rfl,f,e2,l,r⟩:=h;obtain⟨a',Dm,Dy,e1,rfl,f',CQ,l',r'⟩:=h';cases e1;have e3:=k a List.mem_cons_self _ f e2;rw[CQ]at e3;have e4:ks.zip Dm=ks.zip xs:=by injection e3 with e3;injection e3
   have e5:Dm=xs:=by
     have h1:=congrArg (List.map Prod.snd) e4;rw[List.map_snd_zip (by omega),List.map_snd_zip (by omega)]at h1
     exact h1
   subst e5;rw[ag.det m r r' fun b hb=>k b (List.mem_cons_of_mem _ hb)]
 | .tu ts,v,as,Cw,h,h',k=>by
   simp only[ah]at h h';obtain⟨a,xs,rfl,f,e2,r⟩:=h;obtain⟨a',Dm,e1,f',CQ,r'⟩:=h';cases e1;have:=m a xs f e2 Dm CQ;subst this;exact ag.det m r r' k
theorem ag.det{M:Md}{H H':Hp}{F F':Addr→Prop}(m:∀a xs,¬F a→H a=some (.tup xs)→∀ys,H' a=some (.tup ys)→xs=ys):∀ {ts:List T} {xs:List V} {as Cw:List Addr},ag M H F ts xs as→ag M H' F' ts xs Cw→(∀b∈as,∀u,F b→H b=some u→H' b=some u)→as=Cw
 | [],xs,as,Cw,h,h',_=>by
   simp only[ag]at h h';rw[h.2,h'.2]
 | t::ts,xs,as,Cw,h,h',k=>by
   simp only[ag]at h h';obtain⟨x,r,bs,cs,rfl,rfl,h1,h2⟩:=h;obtain⟨x',r',Dy,DG,e1,rfl,Eu,Ea⟩:=h';cases e1;rw[ah.det m h1 Eu fun b hb=>k b (List.mem_append_left _ hb),ag.det m h2 Ea fun b hb=>k b (List.mem_append_right _ hb)]
end
theorem ah.iT{M:Md}{H:Hp}{F F':Addr→Prop}{t:T}{v:V}{as Cw:List Addr}(h:ah M H F t v as)(h':ah M H F' t v Cw):as=Cw:=
 ah.det (fun a xs _ e ys e'=>by rw[e]at e';injection e' with z;injection z) h h' fun _ _ _ _ hu=>hu
mutual
theorem ah.fs{M:Md}{H:Hp}{F:Addr→Prop}:∀ {t:T} {v:V} {as:List Addr},ah M H F t v as→∀b∈as,F b∧∃u,H b=some u
 | .d x,v,as,h,b,hb=>by
   simp only[ah]at h;rw[h.1]at hb;cases hb
 | .l ts,v,as,h,b,hb=>by
   simp only[ah]at h;obtain⟨a,xs,bs,rfl,rfl,f,e2,r⟩:=h;rcases List.mem_cons.mp hb with rfl|hb
   ·exact⟨f,_,e2⟩
   ·exact ag.fs r b hb
 | .m ks ts,v,as,h,b,hb=>by
   simp only[ah]at h;obtain⟨a,xs,bs,rfl,rfl,f,e2,l,r⟩:=h;rcases List.mem_cons.mp hb with rfl|hb
   ·exact⟨f,_,e2⟩
   ·exact ag.fs r b hb
 | .tu ts,v,as,h,b,hb=>by
   simp only[ah]at h;obtain⟨a,xs,rfl,f,e2,r⟩:=h;exact ag.fs r b hb
theorem ag.fs{M:Md}{H:Hp}{F:Addr→Prop}:∀ {ts:List T} {xs:List V} {as:List Addr},ag M H F ts xs as→∀b∈as,F b∧∃u,H b=some u
 | [],xs,as,h,b,hb=>by
   simp only[ag]at h;rw[h.2]at hb;cases hb
 | t::ts,xs,as,h,b,hb=>by
   simp only[ag]at h;obtain⟨x,r,bs,cs,rfl,rfl,h1,h2⟩:=h;rcases List.mem_append.mp hb with hb|hb
   ·exact ah.fs h1 b hb
   ·exact ag.fs h2 b hb
end
def az(H:Hp):T→V→List Nat→T→V→Prop
 |t,v,[],t',w=>t=t'∧v=w
 |.l ts,v,k::p,t',w=>∃a xs t1 x1,v=.ref a∧H a=some (.lst xs)∧ts[k]? =some t1∧xs[k]? =some x1∧az H t1 x1 p t' w
 |.m ks ts,v,k::p,t',w=>∃a xs t1 x1,v=.ref a∧H a=some (.dK (ks.zip xs))∧ks.length=xs.length∧ts[k]? =some t1∧xs[k]? =some x1∧az H t1 x1 p t' w
 |.d _,_,_::_,_,_=>False
 |.tu ts,v,k::p,t',w=>∃a xs t1 x1,v=.ref a∧H a=some (.tup xs)∧ts[k]? =some t1∧xs[k]? =some x1∧az H t1 x1 p t' w
theorem ag.get{M:Md}{H:Hp}{F:Addr→Prop}:∀ {ts:List T} {xs:List V} {as:List Addr} {k:Nat} {t:T} {x:V},ag M H F ts xs as→ts[k]? =some t→xs[k]? =some x→∃bs,ah M H F t x bs∧∀b∈bs,b∈as
 |[],_,_,_,_,_,_,e,_=>by simp at e
 | t::ts,xs,as,0,_,_,h,e,e'=>by
   simp only[ag]at h;obtain⟨x,r,bs,cs,rfl,rfl,h1,h2⟩:=h;cases e;cases e';exact⟨bs,h1,fun b hb=>List.mem_append_left _ hb⟩
 | t::ts,xs,as,k+1,_,_,h,e,e'=>by
   simp only[ag]at h;obtain⟨x,r,bs,cs,rfl,rfl,h1,h2⟩:=h;obtain⟨ds,h3,h4⟩:=ag.get h2 (by simpa using e) (by simpa using e')
   exact⟨ds,h3,fun b hb=>List.mem_append_right _ (h4 b hb)⟩
theorem az.mv{M:Md}{H H':Hp}{F:Addr→Prop}(m:∀a o,¬F a→H a=some o→H' a=some o):∀ {p:List Nat} {t:T} {v:V} {t':T} {w:V} {as:List Addr},ah M H F t v as→(∀b∈as,∀u,F b→H b=some u→H' b=some u)→az H t v p t' w→az H' t v p t' w
 | [],t,v,t',w,as,_,_,h=>by
   cases t<;>exact h
 | k::p,.l ts,v,t',w,as,r,hk,h=>by
   simp only[az]at h ⊢;simp only[ah]at r;obtain⟨a,xs,t1,x1,rfl,e,e1,e2,h⟩:=h;obtain⟨a',Dm,bs,ea,rfl,f,e',rs⟩:=r;cases ea;have e9:xs=Dm:=by rw[e']at e;injection e with e;injection e with e;exact e.symm
   subst e9;obtain⟨ds,r1,sub⟩:=rs.get e1 e2;exact⟨a,xs,t1,x1,rfl,hk a List.mem_cons_self _ f e',e1,e2,az.mv m r1 (fun b hb=>hk b (List.mem_cons_of_mem _ (sub b hb))) h⟩
 | k::p,.m ks ts,v,t',w,as,r,hk,h=>by
   simp only[az]at h ⊢;simp only[ah]at r;obtain⟨a,xs,t1,x1,rfl,e,l,e1,e2,h⟩:=h;obtain⟨a',Dm,bs,ea,rfl,f,e',l',rs⟩:=r;cases ea;rw[e']at e
   have e5:Dm=xs:=by
     have e4:ks.zip Dm=ks.zip xs:=by injection e with e;injection e
     have h1:=congrArg (List.map Prod.snd) e4;rw[List.map_snd_zip (by omega),List.map_snd_zip (by omega)]at h1
     exact h1
   subst e5;obtain⟨ds,r1,sub⟩:=rs.get e1 e2;exact⟨a,Dm,t1,x1,rfl,hk a List.mem_cons_self _ f e',l,e1,e2,az.mv m r1 (fun b hb=>hk b (List.mem_cons_of_mem _ (sub b hb))) h⟩
 |k::p,.d _,v,t',w,as,_,_,h=>h.elim
 | k::p,.tu ts,v,t',w,as,r,hk,h=>by
   simp only[az]at h ⊢;simp only[ah]at r;obtain⟨a,xs,t1,x1,rfl,e,e1,e2,h⟩:=h;obtain⟨a',Dm,ea,f,e',rs⟩:=r;cases ea;have e9:xs=Dm:=by rw[e']at e;injection e with e;injection e with e;exact e.symm
   subst e9;obtain⟨ds,r1,sub⟩:=rs.get e1 e2;exact⟨a,xs,t1,x1,rfl,m _ _ f e',e1,e2,az.mv m r1 (fun b hb=>hk b (sub b hb)) h⟩
def dC(M:Md)(H:Hp)(F:Addr→Prop)(σ:St)(ρ:En)(i:Nat)(b:Addr):Prop:=∃t v as,ρ[i]? =some (.on (.tr t))∧σ[i]? =some (some v)∧ah M H F t v as∧b∈as
def zW(M:Md)(H:Hp)(F:Addr→Prop)(σ:St)(ρ:En)(i:Nat):Sp→Prop
 |.tr t=>∃v as,σ[i]? =some (some v)∧ah M H F t v as∧as.Nodup
 |.al k p=>∀t,ρ[k]? =some (.on (.tr t))→∃v w t',σ[k]? =some (some v)∧σ[i]? =some (some w)∧az H t v p t' w∧t'.own=true
def da(M:Md)(H:Hp)(F:Addr→Prop)(σ:St)(ρ:En):Prop:=∀i x,ρ[i]? =some (.on x)→
 zW M H F σ ρ i x∧(∀b,dC M H F σ ρ i b→∀j,bq ρ j→σ[j]? ≠some (some (.ref b)))∧∀t,x=.tr t→∀j t',ρ[j]? =some (.on (.tr t'))→j=i
theorem da.no{M:Md}{H:Hp}{F:Addr→Prop}{σ:St}{ρ:En}(h:∀(i:Nat) x,ρ[i]? ≠some (.on x)):da M H F σ ρ:=fun i x e=>absurd e (h i x)
theorem da.back{M:Md}{H H':Hp}{F F':Addr→Prop}{σ B1:St}{ρ ρ':En}{i:Nat}{b:Addr}(r:da M H F σ ρ)(hr:∀x,ρ'[i]? =some (.on x)→ρ[i]? =some (.on x))(hs:B1[i]? =σ[i]?)
   (hk:∀a u,dC M H F σ ρ i a→F a→H a=some u→H' a=some u) (m:∀a o,¬F a→H a=some o→H' a=some o) (h:dC M H' F' B1 ρ' i b):dC M H F σ ρ i b:=by
 obtain⟨t,v,as,e,ev,tr,hb⟩:=h;have e0:=hr _ e;obtain⟨⟨v',Cw,Il,IZ,nd⟩,_,_⟩:=r i _ e0;rw[hs,Il]at ev;cases ev;have:=ah.det (fun a xs n e ys e'=>by rw[m a _ n e]at e';injection e' with z;injection z) IZ tr fun c hc u f hu=>hk c u ⟨t,v,Cw,e0,Il,IZ,hc⟩ f hu
 subst this;exact⟨t,v,Cw,e0,Il,IZ,hb⟩
theorem da.mv{M:Md}{H H':Hp}{F F':Addr→Prop}{σ B1:St}{ρ ρ':En}(r:da M H F σ ρ)(m:Mv F H F' H')(Eb:∀(j:Nat) x,ρ'[j]? =some (.on x)→ρ[j]? =some (.on x)∧B1[j]? =σ[j]?)
   (hk:∀(j:Nat) x b u,ρ'[j]? =some (.on x)→dC M H F σ ρ j b→F b→H b=some u→F' b∧H' b=some u)
   (ho:∀(j:Nat) x b,ρ'[j]? =some (.on x)→dC M H F σ ρ j b→∀k:Nat,bq ρ' k→B1[k]? ≠some (some (.ref b))):da M H' F' B1 ρ':=fun i x e=>by
 obtain⟨e0,es⟩:=Eb i x e;obtain⟨h1,h2,h3⟩:=r i x e0;refine⟨?_,fun b hb k ok=>?_,fun t ht j t' ej=>h3 t ht j t' (Eb j _ ej).1⟩
 · cases x with
   | tr t=>
     obtain⟨v,as,ev,tr,nd⟩:=h1;exact⟨v,as,by rw[es];exact ev,tr.mv m fun b hb u f hu=>hk i _ b u e ⟨t,v,as,e0,ev,tr,hb⟩ f hu,nd⟩
   | al k p=>
     intro t et;obtain⟨ek,MS⟩:=Eb k _ et;obtain⟨v,w,t',e1,e2,at',ow⟩:=h1 t ek;obtain⟨⟨v',as,Js,tr,_⟩,_,_⟩:=r k _ ek;rw[e1]at Js;cases Js;exact⟨v,w,t',by rw[MS];exact e1,by rw[es];exact e2,at'.mv (fun a o n e=>(m a o n e).2) tr fun b hb u f hu=>(hk k _ b u et ⟨t,v,as,ek,e1,tr,hb⟩ f hu).2,ow⟩
 ·refine ho i x b e (r.back (fun y ey=>(Eb i y ey).1) es (fun c u hc f hu=>(hk i x c u e hc f hu).2) (fun a o n e=>(m a o n e).2) hb) k ok
theorem da.f{M:Md}{H:Hp}{F:Addr→Prop}{σ:St}{ρ:En}{i:Nat}{b:Addr}(h:dC M H F σ ρ i b):F b∧∃u,H b=some u:=by
 obtain⟨t,v,as,e,ev,tr,hb⟩:=h;exact tr.fs b hb
structure aM(M:Md)(H:Hp)(F:Addr→Prop)(σ:St)(ρ:En):Prop where
 len:ρ.length=σ.length
 aN:∀a,F a→∃o,H a=some o
 sh:∀(i:Nat) d,ρ[i]? =some (.sh d)→∃v,σ[i]? =some (some v)∧Rep M H F d v
 ol:∀(i:Nat) ds,ρ[i]? =some (.ol ds)→∃a xs,σ[i]? =some (some (.ref a))∧F a∧H a=some (.lst xs)∧ab M H F ds xs
 od:∀(i:Nat) ks ds,ρ[i]? =some (.od ks ds)→∃a xs,σ[i]? =some (some (.ref a))∧F a∧H a=some (.dK (ks.zip xs))∧ks.length=xs.length∧ab M H F ds xs
 bO:∀(i j:Nat) a,bq ρ i→bq ρ j→σ[i]? =some (some (.ref a))→σ[j]? =some (some (.ref a))→i=j
 on:da M H F σ ρ
section
variable{M:Md}{H H':Hp}{F F':Addr→Prop}{σ:St}{ρ:En}
theorem aM.same(r:aM M H F σ ρ)(h:ae H H'):aM M H' F σ ρ where
 len:=r.len
 aN a f:=let⟨o,e⟩:=r.aN a f;⟨o,h _ _ e⟩
 sh i d e:=let⟨v,e1,q⟩:=r.sh i d e;⟨v,e1,q.mv (.same h)⟩
 ol i ds e:=let⟨a,xs,e1,f,e2,q⟩:=r.ol i ds e;⟨a,xs,e1,f,h _ _ e2,q.mv (.same h)⟩
 od i ks ds e:=let⟨a,xs,e1,f,e2,l,q⟩:=r.od i ks ds e;⟨a,xs,e1,f,h _ _ e2,l,q.mv (.same h)⟩
 bO:=r.bO
 on:=r.on.mv (.same h) (fun j B7 e=>⟨e,rfl⟩) (fun j B7 b u e hb f hu=>⟨f,h _ _ hu⟩) fun j B7 b e hb k ok=>(r.on j B7 e).2.1 b hb k ok
theorem get_set{α:Type}{l:List α}{i j:Nat}{x y:α}(h:(l.set i x)[j]? =some y):(i=j∧x=y∧i<l.length)∨(i≠j∧l[j]? =some y):=by
 by_cases e:i=j
 · subst e
   rw[List.getElem?_set_self']at h;cases q:l[i]? with
   |none=>rw[q]at h;cases h
   | some z=>
     rw[q]at h;obtain⟨hl,_⟩:=List.getElem?_eq_some_iff.mp q;simp at h;exact .inl ⟨rfl,h,hl⟩
 · rw[List.getElem?_set_ne e]at h
   exact .inr ⟨e,h⟩
theorem aM.kX{i:Nat}{d:D}{v:V}(r:aM M H F σ ρ)(h:Rep M H F d v):aM M H F (σ.set i (some v)) (ρ.set i (.sh d)) where
 len:=by simp[r.len]
 aN:=r.aN
 sh j e q:=by
   rcases get_set q with⟨rfl,hx,hl⟩|⟨B5,q⟩
   · cases hx
     exact⟨v,by rw[List.getElem?_set_self (by rw[←r.len];exact hl)],h⟩
   · obtain⟨w,e1,g⟩:=r.sh j e q
     exact⟨w,by rw[List.getElem?_set_ne B5];exact e1,g⟩
 ol j e q:=by
   rcases get_set q with⟨rfl,x,hl⟩|⟨B5,q⟩
   ·cases x
   · obtain⟨a,xs,e1,g⟩:=r.ol j e q
     exact⟨a,xs,by rw[List.getElem?_set_ne B5];exact e1,g⟩
 od j k e q:=by
   rcases get_set q with⟨rfl,x,hl⟩|⟨B5,q⟩
   ·cases x
   · obtain⟨a,xs,e1,g⟩:=r.od j k e q
     exact⟨a,xs,by rw[List.getElem?_set_ne B5];exact e1,g⟩
 bO j k a oj ok ej ek:=by
   have nj:i≠j:=by
     rintro rfl;rcases oj with⟨ds,q⟩|⟨ks,ds,q⟩
     · rcases get_set q with⟨_,x,_⟩|⟨B5,_⟩
       ·cases x
       ·exact B5 rfl
     · rcases get_set q with⟨_,x,_⟩|⟨B5,_⟩
       ·cases x
       ·exact B5 rfl
   have nk:i≠k:=by
     rintro rfl;rcases ok with⟨ds,q⟩|⟨ks,ds,q⟩
     · rcases get_set q with⟨_,x,_⟩|⟨B5,_⟩
       ·cases x
       ·exact B5 rfl
     · rcases get_set q with⟨_,x,_⟩|⟨B5,_⟩
       ·cases x
       ·exact B5 rfl
   rw[List.getElem?_set_ne nj]at ej;rw[List.getElem?_set_ne nk]at ek;refine r.bO j k a ?_ ?_ ej ek
   ·unfold bq at oj;simp only[List.getElem?_set_ne nj]at oj;exact oj
   ·unfold bq at ok;simp only[List.getElem?_set_ne nk]at ok;exact ok
 on := r.on.mv (fun _ _ n e=>⟨n,e⟩) (fun j B7 e=>by
     rcases get_set e with⟨_,x,_⟩|⟨B5,e⟩
     ·cases x
     ·exact⟨e,List.getElem?_set_ne B5⟩) (fun j B7 b u e hb f hu=>⟨f,hu⟩) fun j B7 b e hb k ok=>by
   have e0:ρ[j]? =some (.on B7):=by
     rcases get_set e with⟨_,x,_⟩|⟨B5,e⟩
     ·cases x
     ·exact e
   have nk:i≠k:=by
     rintro rfl;rcases ok with⟨ds,q⟩|⟨ks,ds,q⟩
     · rcases get_set q with⟨_,x,_⟩|⟨B5,_⟩
       ·cases x
       ·exact B5 rfl
     · rcases get_set q with⟨_,x,_⟩|⟨B5,_⟩
       ·cases x
       ·exact B5 rfl
   rw[List.getElem?_set_ne nk];refine(r.on j B7 e0).2.1 b hb k ?_;unfold bq at ok;simp only[List.getElem?_set_ne nk]at ok;exact ok
end
open L2 (aH dh aW R2 EP)
theorem ak{α β:Type}{x:R α}{f:α→R β}{b:β}:x.bind f=.ok b↔∃a,x=.ok a∧f a=.ok b:=by
 cases x with
 |ok a=>simp
 |exc y=>simp
 |bad=>simp
def tP(M:Md)(f:Ex):TE:=fun σ H Q=>∃ρ F d,aM M H F σ ρ∧f ρ=.ok d∧∀v H',ae H H'→Rep M H' F d v→Q v H'
def pW(M:Md)(c:aF):TT:=fun σ H Q=>∃ρ F b,aM M H F σ ρ∧c ρ=.ok b∧∀H',ae H H'→Q b H'
def lS(M:Md)(f:En→R (List D)):TA:=fun σ H Q=>∃ρ F ds,aM M H F σ ρ∧f ρ=.ok ds∧∀vs H',ae H H'→ab M H' F ds vs→Q vs H'
abbrev JE(X:Cx)(e:Expr)(f:Ex):Prop:=PE X e (tP (ai X) f)
abbrev JT(X:Cx)(e:Expr)(c:aF):Prop:=PT X e (pW (ai X) c)
abbrev JA(X:Cx)(es:List Expr)(f:En→R (List D)):Prop:=PA X es (lS (ai X) f)
theorem bx{X:Cx}{e:Expr}{t t':TE}(h:PE X e t')(hi:∀σ H Q,t σ H Q→t' σ H Q):PE X e t:=fun pins s σ H Q I q=>h pins s σ H Q I (hi σ H Q q)
theorem iR{X:Cx}{e:Expr}{t t':TT}(h:PT X e t')(hi:∀σ H Q,t σ H Q→t' σ H Q):PT X e t:=fun pins s σ H Q I q=>h pins s σ H Q I (hi σ H Q q)
theorem qb{X:Cx}{e:List Expr}{t t':TA}(h:PA X e t')(hi:∀σ H Q,t σ H Q→t' σ H Q):PA X e t:=fun pos pins s σ H Q I q=>h pos pins s σ H Q I (hi σ H Q q)
theorem ng{X:Cx}{e:Expr}{t t':TT}(h:PW X e t')(hi:∀σ H Q,t σ H Q→t' σ H Q):PW X e t:=fun wh pins s σ H Q I q=>h wh pins s σ H Q I (hi σ H Q q)
theorem ae.cQ{H:Hp}{p:Addr}(h:H p=none)(o:HO):ae H (upd H p o):=fun b u q=>by rw[L2.aE (L2.dH q h)];exact q
section
variable{X:Cx}{M:Md}{H H':Hp}{F:Addr→Prop}{σ:St}{ρ:En}{pos:Pos}
theorem An{i:Nat}{d:D}(h:aa i ρ=.ok d):ρ[i]? =some (.sh d):=by
 unfold aa at h;split at h
 ·rename_i e;cases h;exact e
 ·cases h
theorem sN(i:Nat){x:Str}(hN:X.N[i]? =some x:=by rfl)(hv:L2.cz X.env.scope x:=by first|exact Or.inl rfl|exact Or.inr (Or.inl rfl)|exact Or.inr (Or.inr rfl))(hd:(x==("__debug__":Str))=false:=by decide)
   (Cs:(x==("__classdict__":Str))=false:=by decide):JE X (.Name x pos) (aa i):=
 bx (L2.pv i hN hv hd Cs) fun σ H Q ⟨ρ,F,d,r,e,q⟩=>by
   obtain⟨v,e1,rv⟩:=r.sh i d (An e);exact⟨v,e1,q v H (ae.refl H) rv⟩
theorem ud{i:Int}{j:Nat}:JE X (.Constant (.int i) j pos) (eC (.int i)):=
 bx L2.zR fun σ H Q ⟨ρ,F,d,r,e,q⟩=>by cases e;exact q _ H (ae.refl H) (by simp[Rep])
theorem xZ{b:Bool}{j:Nat}:JE X (.Constant (.bool b) j pos) (eC (.bl b)):=
 bx L2.xO fun σ H Q ⟨ρ,F,d,r,e,q⟩=>by cases e;exact q _ H (ae.refl H) (by simp[Rep])
theorem z5{j:Nat}:JE X (.Constant .none j pos) (eC .aq):=
 bx L2.ug fun σ H Q ⟨ρ,F,d,r,e,q⟩=>by cases e;exact q _ H (ae.refl H) (by simp[Rep])
theorem yZ{x:Str}{j:Nat}:JE X (.Constant (.str x) j pos) (eC (.str x)):=
 bx L2.yw fun σ H Q ⟨ρ,F,d,r,e,q⟩=>by cases e;exact q _ H (ae.refl H) (by simp[Rep])
theorem sO{x:Str}{d:D}{v:V}{u:Value}(hg:L2.Gl X x)(hm:X.mg x=some u)(r:RelV v u)(hr:∀H F,Rep (ai X) H F d v)(hd:(x==("__debug__":Str))=false:=by decide):JE X (.Name x pos) (eC d):=
 bx (L2.ny hg hm r hd) fun σ H Q ⟨ρ,F,d',r,e,q⟩=>by cases e;exact q _ H (ae.refl H) (hr H F)
def bC(M:Md)(g:D→D→R D)(r:R2):Prop:=∀(F:Addr→Prop) (H:Hp) (x y:V) (a b d:D) (Q:VK),(∀p,F p→∃o,H p=some o)→Rep M H F a x→Rep M H F b y→g a b=.ok d→
 (∀v H',ae H H'→Rep M H' F d v→Q v H')→r x y H Q
def de(M:Md)(g:List D→R D)(r:List V→Hp→VK→Prop):Prop:=∀(F:Addr→Prop) (H:Hp) (xs:List V) (as:List D) (d:D) (Q:VK),(∀p,F p→∃o,H p=some o)→ab M H F as xs→g as=.ok d→
 (∀v H',ae H H'→Rep M H' F d v→Q v H')→r xs H Q
theorem j9{g:D→D→R D}{r:R2}(hg:bC M g r){fa fb:Ex}{Q:VK}(h:tP M (e2 g fa fb) σ H Q):L2.iS r (tP M fa) (tP M fb) σ H Q:=by
 obtain⟨ρ,F,d,hr,e,q⟩:=h;obtain⟨a,ea,e⟩:=ak.mp e;obtain⟨b,eb,e⟩:=ak.mp e;refine⟨ρ,F,a,hr,ea,fun x H1 s1 rx=>⟨ρ,F,b,hr.same s1,eb,fun y H2 s2 ry=>?_⟩⟩;exact hg F H2 x y a b d Q ((hr.same s1).same s2).aN (rx.mv (.same s2)) ry e fun v H3 s3 rv=>q v H3 (s1.trans (s2.trans s3)) rv
theorem uA{op:Operator}{g:D→D→R D}{r:R2}{a b:Expr}{fa fb:Ex}(ho:aH X (binaryOp op) r)(hg:bC (ai X) g r)(ha:JE X a fa)(hb:JE X b fb):JE X (.BinOp a op b pos) (e2 g fa fb):=
 bx (L2.rZ ho ha hb) fun σ H Q h=>j9 hg h
theorem tW{op:CmpOp}{g:D→D→R D}{r:R2}{a b:Expr}{fa fb:Ex}(ho:aH X (compareOp op) r)(hg:bC (ai X) g r)(ha:JE X a fa)(hb:JE X b fb)(hm:behindInMarks op b=false):JE X (.Compare a [op] [b] pos) (e2 g fa fb):=
 bx (L2.vR ho ha hb hm) fun σ H Q h=>j9 hg h
theorem ba{i:Int}{v:V}(h:Rep M H F (.int i) v):v=.int i:=by simpa only[Rep] using h
theorem dz{i:Bool}{v:V}(h:Rep M H F (.bl i) v):v=.bl i:=by simpa only[Rep] using h
theorem cM{i:Str}{v:V}(h:Rep M H F (.str i) v):v=.str i:=by simpa only[Rep] using h
theorem m9{v:V}(h:Rep M H F .aq v):v=.aq:=by simpa only[Rep] using h
theorem b0{i:Int}:Rep M H F (.int i) (.int i):=by simp only[Rep]
theorem dO{i:Bool}:Rep M H F (.bl i) (.bl i):=by simp only[Rep]
theorem iE{i:Str}:Rep M H F (.str i) (.str i):=by simp only[Rep]
theorem lu:Rep M H F .aq .aq:=by simp only[Rep]
theorem kL{i:Int}(h:small i=true): -(2 ^ 64)<i∧i<2 ^ 64:=by
 unfold small at h;rw[Bool.and_eq_true,decide_eq_true_eq,decide_eq_true_eq]at h;exact⟨h.1,h.2⟩
theorem v9:bC M jx (L2.cV fun i j=>.int (i - j)):=by
 intro F H x y a b d Q tr ra rb e q;unfold jx at e;split at e
 · cases e
   exact⟨_,_,ba ra,ba rb,q _ _ (ae.refl _) b0⟩
 ·cases e
theorem mz:bC M oLt (L2.cV fun i j=>.bl (decide (i<j))):=by
 intro F H x y a b d Q tr ra rb e q;unfold oLt at e;split at e
 · cases e
   exact⟨_,_,ba ra,ba rb,q _ _ (ae.refl _) dO⟩
 ·cases e
theorem qd:bC M oLe (L2.cV fun i j=>.bl (decide (i≤j))):=by
 intro F H x y a b d Q tr ra rb e q;unfold oLe at e;split at e
 · cases e
   exact⟨_,_,ba ra,ba rb,q _ _ (ae.refl _) dO⟩
 ·cases e
theorem kZ:bC M fq (L2.cV fun i j=>.bl (decide (j≤i))):=by
 intro F H x y a b d Q tr ra rb e q;unfold fq at e;split at e
 · cases e
   exact⟨_,_,ba ra,ba rb,q _ _ (ae.refl _) dO⟩
 ·cases e
theorem bW:bC M oMod (L2.rI (fun _ j=>0<j) fun i j=>.int (i % j)):=by
 intro F H x y a b d Q tr ra rb e q;unfold oMod at e;split at e
 · split at e
   · cases e
     exact⟨_,_,ba ra,ba rb,by assumption,q _ _ (ae.refl _) b0⟩
   ·cases e
 ·cases e
theorem cE:bC M bH (L2.rI L2.nO fun i j=>.int (i ^ j.toNat)):=by
 intro F H x y a b d Q tr ra rb e q;unfold bH at e;split at e
 · split at e
   · rename_i i j h
     cases e;rw[Bool.and_eq_true]at h;have h3:=kL h.2;have h4:=h.1;unfold ib at h4;rw[Bool.and_eq_true,decide_eq_true_eq,decide_eq_true_eq]at h4;exact⟨_,_,ba ra,ba rb,⟨h4.1,by omega,by omega⟩,q _ _ (ae.refl _) b0⟩
   ·cases e
 ·cases e
def pb(i j:Int):Prop:=0<j∧j<340282366920938463463374607431768211456
theorem dM : aH X (binaryOp .FloorDiv) (L2.rI pb fun i j => .int (i / j)):=by
 refine L2.jG fun i j t u s Q E c h=>?_;have e:i / j=i.fdiv j:=(Int.fdiv_eq_ediv_of_nonneg _ (Int.le_of_lt c.1)).symm;rw[e]at h;refine PyProof.Rows.floordiv_int (by have:=c.1;omega) h (Or.inl ?_)
 refine PyProof.noPylong_of_log2 ?_;have h0:j.natAbs≠0:=by have:=c.1;omega
 have h1 : j.natAbs.log2 < 128 := (Nat.log2_lt h0).mpr (by have:=c.2;have h2:(340282366920938463463374607431768211456:Nat)=2 ^ 128:=by decide
                                                           have:=c.1;omega)
 omega
theorem dB:bC M oDiv (L2.rI pb fun i j=>.int (i / j)):=by
 intro F H x y a b d Q tr ra rb e q;unfold oDiv at e;split at e
 · split at e
   · rename_i h
     cases e;unfold gx at h;rw[Bool.and_eq_true,decide_eq_true_eq,decide_eq_true_eq]at h;exact⟨_,_,ba ra,ba rb,h,q _ _ (ae.refl _) b0⟩
   ·cases e
 ·cases e
end
section
variable{X:Cx}{M:Md}{H H':Hp}{F:Addr→Prop}{σ:L2.St}{ρ:En}{pos:Pos}{pins:List (Addr×Obj)}{s:Shared}
theorem kj{a:Addr}{xs:List V}(I:Inv X pins σ H s)(h:eB (ai X) H F a xs):∃(y':List Value) (n:Nat) (sl:Array (Option Value)),Vals xs y'∧s.heap.get? a=some {cls:=.type "list",data:=.seq y'.toArray n,slots:=sl}∧xs.length≤sizeLine:=by
 rcases h with⟨_,h⟩|⟨o,y',n,hk,h1,h2,h3,hz,r⟩
 · obtain⟨z,y',n,r,e⟩:=h.ok I.au
   exact⟨y',n, #[],r,e,z⟩
 · obtain⟨c,dd,dt,sl⟩:=o
   simp only at h1 h2 h3;subst h1 h2 h3;refine⟨y'.toList,n,sl,r,by simpa using I.bS a _ hk,?_⟩
   have e:=r.length;simp only[Array.length_toList]at e;omega
theorem v8(l:Addr)(items:Array Value)(n:Nat)(sl:Array (Option Value))(b:Addr)(Dg:Array Value)(n2:Nat)(ED:Array (Option Value))(Nl:items.size+Dg.size≤sizeLine):
   Meets (Builtin.«list.__add__» ⟨[.ref l,.ref b],[]⟩) (fun _ R s=>s.heap.get? l=some {cls:=.type "list",dict:=none,data:=.seq items n,slots:=sl}∧s.heap.get? b=some {cls:=.type "list",dict:=none,data:=.seq Dg n2,slots:=ED}∧R (.ok (.ret (Value.ref s.heap.objs.size))) {s with heap:=s.heap.push {cls:=Value.type "list",data:=Data.seq (items++Dg)},toks:=s.toks}):=
 .of_wp fun prog w A R s h=>by obtain⟨hp,g,d,tk,os⟩:=s;obtain⟨hl,hb,h⟩:=h;have f1:=AutoSeq1.idx_int;have f2:=AutoSeq1.sub_tuple_tuple;have f3:=AutoSeq1.sub_list_list;have f4:=AutoSeq1.sub_tuple_list;have f5:=AutoSeq1.sub_list_tuple;wp_walk using AutoSeq1.wpAny_loadPart' hl,AutoSeq1.wpAny_loadPart' hb;exact⟨_,rfl,h⟩
theorem iz{a:Addr}{xs:List V}(I:Inv X pins σ H s)(h:dX (ai X) H F a xs):∃y':List Value,Vals xs y'∧PyProof.Rows.IsTup s.heap a y'.toArray∧xs.length≤sizeLine:=I.tuple h.sq
noncomputable def qy(M:Md):R2:=fun x y H Q=>∃F l b xs zs,x=.ref l∧y=.ref b∧eB M H F l xs∧eB M H F b zs∧xs.length+zs.length≤sizeLine∧∀p,H p=none→Q (.ref p) (upd H p (.lst (xs++zs)))
theorem Aj:aH X (binaryOp .Add) (qy (ai X)):=by
 intro pins s σ H x y v u Q I rx ry h;obtain⟨F,l,b,xs,zs,rfl,rfl,hH,hB,hz,q⟩:=h;cases rx;cases ry;obtain⟨y',n,sl,r,e,z⟩:=kj I hH;obtain⟨DP,n2,ED,r2,e2,z2⟩:=kj I hB;have h1:=r.length;have h2:=r2.length;refine concat_meets ⟨_,e,rfl⟩ ⟨_,e2,rfl⟩ noFill_list_add seq_list_add PySem.F.slot_list_add PySem.F.entry_list_add (PySem.F.args_list_add_2 _ _) (v8 l y'.toArray n sl b DP.toArray n2 ED (by rw[List.size_toArray,List.size_toArray];omega)) ⟨e,e2,?_⟩
 have ea:y'.toArray++DP.toArray=(y'++DP).toArray:=by simp
 rw[ea];exact⟨.ref _,_,I.rY (t':=s.toks) (r.append r2) (by rw[List.length_append];omega),rfl,q _ I.fresh⟩
noncomputable def qZ(M:Md):R2:=fun x y H Q=>(L2.cV fun i j=>.int (i+j)) x y H Q∨(∃i j,x=.str i∧y=.str j∧i.length+j.length≤sizeLine∧Q (.str (i++j)) H)∨qy M x y H Q∨L2.rg M.K x y H Q
theorem cb:aH X (binaryOp .Add) (qZ (ai X)):=L2.aH.or L2.cb (L2.aH.or L2.yW (L2.aH.or Aj L2.z7))
theorem mf{p:Addr}(tr:∀p,F p→∃o,H p=some o)(h:H p=none):¬F p:=fun f=>by obtain⟨o,e⟩:=tr p f;rw[h]at e;cases e
theorem ke{p:Addr}{ds:List D}{xs:List V}(tr:∀p,F p→∃o,H p=some o)(h:H p=none)(r:ab M H F ds xs):Rep M (upd H p (.lst xs)) F (.lst ds) (.ref p):=by
 simp only[Rep];exact⟨p,xs,rfl,.inl ⟨mf tr h,.inl L2.b6⟩,r.mv (.same (ae.cQ h _))⟩
theorem i8{p:Addr}{ds:List D}{xs:List V}(tr:∀p,F p→∃o,H p=some o)(h:H p=none)(r:ab M H F ds xs):Rep M (upd H p (.tup xs)) F (.tup ds) (.ref p):=by
 simp only[Rep];exact⟨p,xs,rfl,.inl ⟨mf tr h,.inl L2.b6⟩,r.mv (.same (ae.cQ h _))⟩
theorem cy:bC M bz (qZ M):=by
 intro F H x y a b d Q tr ra rb e q;unfold bz at e;split at e
 · cases e
   exact .inl ⟨_,_,ba ra,ba rb,q _ _ (ae.refl _) b0⟩
 · split at e
   · cases e
     exact .inr (.inl ⟨_,_,cM ra,cM rb,by assumption,q _ _ (ae.refl _) iE⟩)
   ·cases e
 · split at e
   · rename_i hz
     cases e;simp only[Rep]at ra rb;obtain⟨l,xs,rfl,h1,r1⟩:=ra;obtain⟨m,zs,rfl,h2,r2⟩:=rb;refine .inr (.inr (.inl ⟨F,l,m,xs,zs,rfl,rfl,h1,h2,by rw[←r1.length, ←r2.length];exact hz,fun p hp=>q _ _ (ae.cQ hp _) (ke tr hp (r1.append r2))⟩))
   ·cases e
 · split at e
   · rename_i hz
     cases e;simp only[Rep]at ra rb;obtain⟨l,xs,rfl,h1,r1⟩:=ra;obtain⟨m,zs,rfl,h2,r2⟩:=rb;have l1:=r1.length;have l2:=r2.length;refine .inr (.inr (.inr ⟨l,m,xs,zs,rfl,rfl,h1.sq,h2.sq,?_,by rw[←l1, ←l2];exact hz.2,fun e0=>?_,fun _ p hp=>q _ _ (ae.cQ hp _) (i8 tr hp (r1.append r2))⟩))
     · intro e0
       subst e0;have:=hz.1;rename_i as bs;cases as with
       |nil=>cases this
       |cons _ _=>simp at l1
     · subst e0
       rename_i as bs;cases bs with
       |cons _ _=>simp at l2
       | nil=>
         refine q _ _ (ae.refl _) ?_;rw[List.append_nil];simp only[Rep];exact⟨l,xs,rfl,h1,r1⟩
   ·cases e
 ·cases e
theorem zU{op:BoolOp}{a:Expr}{fa:Ex}(h:JE X a fa):JE X (.BoolOp op [a] pos) fa:=L2.v7 h
theorem yR{a b:Expr}{rest:List Expr}{fa fb:Ex}(ha:JE X a fa)(hb:JE X (.BoolOp .And (b::rest) pos) fb):JE X (.BoolOp .And (a::b::rest) pos) (jq fa fb):=
 bx (L2.Ap ha hb) fun σ H Q ⟨ρ,F,d,hr,e,q⟩=>by
   obtain⟨a,ea,e⟩:=ak.mp e;refine⟨ρ,F,a,hr,ea,fun x H1 s1 rx=>?_⟩;split at e
   ·exact⟨true,dz rx,by rw[if_pos rfl];exact⟨ρ,F,d,hr.same s1,e,fun v H2 s2 rv=>q v H2 (s1.trans s2) rv⟩⟩
   · cases e
     exact⟨false,dz rx,by rw[if_neg (by decide)];exact q _ _ s1 dO⟩
   ·cases e
theorem sC{op DS:CmpOp}{g g':D→D→R D}{r r':R2}{a b c:Expr}{fa fb fc:Ex}(ho:aH X (compareOp op) r)(C9:aH X (compareOp DS) r')(hg:bC (ai X) g r)(Ie:bC (ai X) g' r')
   (ha:JE X a fa) (hb:JE X b fb) (hc:JE X c fc) (hm:lastMarks [op,DS] [b,c]=false:=by with_unfolding_all rfl):JE X (.Compare a [op,DS] [b,c] pos) (kF g g' fa fb fc):=
 bx (L2.A1 ho C9 ha hb hc hm) fun σ H Q ⟨ρ,F,d,hr,e,q⟩=>by
   obtain⟨a,ea,e⟩:=ak.mp e;obtain⟨b,eb,e⟩:=ak.mp e;obtain⟨z,ez,e⟩:=ak.mp e;refine⟨ρ,F,a,hr,ea,fun x H1 s1 rx=>⟨ρ,F,b,hr.same s1,eb,fun y H2 s2 ry=>?_⟩⟩;refine hg F H2 x y a b z _ ((hr.same s1).same s2).aN (rx.mv (.same s2)) ry ez fun v H3 s3 rv=>?_;split at e
   · obtain⟨w,ew,e⟩:=ak.mp e
     refine⟨true,dz rv,?_⟩;rw[if_pos rfl];refine⟨ρ,F,w,((hr.same s1).same s2).same s3,ew,fun u H4 s4 ru=>?_⟩;exact Ie F H4 y u b w d Q ((((hr.same s1).same s2).same s3).same s4).aN (ry.mv (.same (s3.trans s4))) ru e fun v H5 s5 rv=>q v H5 (s1.trans (s2.trans (s3.trans (s4.trans s5)))) rv
   · cases e
     exact⟨false,dz rv,by rw[if_neg (by decide)];exact q _ _ (s1.trans (s2.trans s3)) dO⟩
   ·cases e
theorem Ao{a:D}{x:V}{t:Bool}(r:Rep M H F a x)(e:truth a=.ok t):L2.kG M.K x H t:=by
 cases a with
 |aq=>cases e;cases m9 r;rfl
 |bl b=>cases e;cases dz r;rfl
 |int i=>cases e;cases ba r;rfl
 | str z=>
   unfold truth at e;dsimp only at e;split at e
   · rename_i hz
     cases e;cases cM r;refine⟨hz,?_⟩;rw[Bool.eq_iff_iff];simp
   ·cases e
 | tup ds=>
   cases e;simp only[Rep]at r;obtain⟨p,xs,rfl,h,rs⟩:=r;refine .inr (.inl ⟨xs,h.sq,?_⟩);have:=rs.length;cases ds<;>cases xs<;>simp at this ⊢
 | lst ds=>
   cases e;simp only[Rep]at r;obtain⟨p,xs,rfl,h,rs⟩:=r;refine .inl ⟨xs,h.sq,?_⟩;have:=rs.length;cases ds<;>cases xs<;>simp at this ⊢
 |aV ks ds=>cases e
 |bA _ _ _=>cases e
theorem si{a:Expr}{fa:Ex}(ha:JE X a fa)(he:∀whole,isTrue a X.env whole=(do let v ←whole;standAt a.pos;holding [v] (truthy v)):=by intro _;rfl):JT X a (tV fa):=
 iR (L2.yl ha he) fun σ H Q ⟨ρ,F,b,hr,e,q⟩=>by
   obtain⟨a,ea,e⟩:=ak.mp e;exact⟨ρ,F,a,hr,ea,fun x H1 s1 rx=>⟨b,Ao rx e,q H1 s1⟩⟩
def gZ(g:D→D→R D):Prop:=∀a b d,g a b=.ok d→∃k,d=.bl k
theorem zL{op:CmpOp}{g:D→D→R D}{r:R2}{a b:Expr}{fa fb:Ex}(ho:aH X (compareOp op) r)(hg:bC (ai X) g r)(hB:gZ g)(ha:JE X a fa)(hb:JE X b fb)(hm:behindInMarks op b=false):JT X (.Compare a [op] [b] pos) (tV (e2 g fa fb)):=
 iR (L2.tL ho ha hb hm) fun σ H Q ⟨ρ,F,t,hr,e,q⟩=>by
   obtain⟨d,ed,e⟩:=ak.mp e;refine j9 hg ⟨ρ,F,d,hr,ed,fun v H1 s1 rv=>?_⟩;obtain⟨a,ea,ed⟩:=ak.mp ed;obtain⟨b,eb,ed⟩:=ak.mp ed;obtain⟨k,rfl⟩:=hB _ _ _ ed;cases e;exact⟨_,dz rv,q H1 s1⟩
theorem y0{j:Nat}{p2:Pos}{a:Expr}{fa:Ex}(ha:JE X a fa):JT X (.Compare a [.Is] [.Constant .none j p2] pos) (tV (e1 i5 fa)):=
 iR (L2.o7 (L2.zk ha)) fun σ H Q ⟨ρ,F,t,hr,e,q⟩=>by
   obtain⟨d,ed,e⟩:=ak.mp e;obtain⟨a,ea,ed⟩:=ak.mp ed;refine⟨ρ,F,a,hr,ea,fun x H1 s1 rx=>⟨t,?_,q H1 s1⟩⟩;cases ed;cases e;cases a<;>simp only[Rep]at rx
   all_goals first
     |(subst rx;rfl)
     |(obtain⟨p,xs,rfl,_⟩:=rx;rfl)
theorem tT{j:Nat}{p2:Pos}{a:Expr}{fa:Ex}(ha:JE X a fa):JT X (.Compare a [.IsNot] [.Constant .none j p2] pos) (tV (e1 jB fa)):=
 iR (L2.o7 (L2.yX ha)) fun σ H Q ⟨ρ,F,t,hr,e,q⟩=>by
   obtain⟨d,ed,e⟩:=ak.mp e;obtain⟨a,ea,ed⟩:=ak.mp ed;refine⟨ρ,F,a,hr,ea,fun x H1 s1 rx=>⟨t,?_,q H1 s1⟩⟩;cases ed;cases e;cases a<;>simp only[Rep]at rx
   all_goals first
     |(subst rx;rfl)
     |(obtain⟨p,xs,rfl,_⟩:=rx;rfl)
theorem y4{a:Expr}{c:aF}(ha:JT X a c):JT X (.UnaryOp .Not a pos) (cf c):=
 iR (L2.AO ha) fun σ H Q ⟨ρ,F,t,hr,e,q⟩=>by
   obtain⟨b,eb,e⟩:=ak.mp e;cases e;exact⟨ρ,F,b,hr,eb,fun H1 s1=>q H1 s1⟩
abbrev JW(X:Cx)(e:Expr)(c:aF):Prop:=PW X e (pW (ai X) c)
theorem v5{a:Expr}{c:aF}(ha:JT X a c):JW X (.BoolOp .And [a] pos) c:=L2.xa ha
theorem so{a:Expr}{c:aF}(ha:JT X a c):JW X (.BoolOp .Or [a] pos) c:=L2.Ad ha
theorem uE{a b:Expr}{rest:List Expr}{c c':aF}(ha:JT X a c)(hb:JW X (.BoolOp .And (b::rest) pos) c'):JW X (.BoolOp .And (a::b::rest) pos) (cK c c'):=
 ng (L2.vL ha hb) fun σ H Q ⟨ρ,F,t,hr,e,q⟩=>by
   obtain⟨b,eb,e⟩:=ak.mp e;refine⟨ρ,F,b,hr,eb,fun H1 s1=>?_⟩;split at e
   ·rename_i h;rw[if_pos h];exact⟨ρ,F,t,hr.same s1,e,fun H2 s2=>q H2 (s1.trans s2)⟩
   ·rename_i h;rw[if_neg h];cases e;exact q H1 s1
theorem wX{a b:Expr}{rest:List Expr}{c c':aF}(ha:JT X a c)(hb:JW X (.BoolOp .Or (b::rest) pos) c'):JW X (.BoolOp .Or (a::b::rest) pos) (b4 c c'):=
 ng (L2.tf ha hb) fun σ H Q ⟨ρ,F,t,hr,e,q⟩=>by
   obtain⟨b,eb,e⟩:=ak.mp e;refine⟨ρ,F,b,hr,eb,fun H1 s1=>?_⟩;split at e
   ·rename_i h;rw[if_pos h];cases e;exact q H1 s1
   ·rename_i h;rw[if_neg h];exact⟨ρ,F,t,hr.same s1,e,fun H2 s2=>q H2 (s1.trans s2)⟩
theorem wA{e:Expr}{c:aF}(h:JW X e c):JT X e c:=L2.PW.pt h
theorem wd{a:Expr}{fa:Ex}(ha:JE X a fa):JE X (.UnaryOp .Not a pos) (e1 iN fa):=
 bx (L2.AS ha) fun σ H Q ⟨ρ,F,d,hr,e,q⟩=>by
   obtain⟨a,ea,e⟩:=ak.mp e;refine⟨ρ,F,a,hr,ea,fun x H1 s1 rx=>?_⟩;unfold iN at e;split at e
   ·cases e;exact⟨_,dz rx,q _ _ s1 dO⟩
   ·cases e
theorem uD{c a b:Expr}{fc:aF}{fa fb:Ex}(hc:JT X c fc)(ha:JE X a fa)(hb:JE X b fb):JE X (.IfExp c a b pos) (fK fc fa fb):=
 bx (L2.z9 hc ha hb) fun σ H Q ⟨ρ,F,d,hr,e,q⟩=>by
   obtain⟨t,et,e⟩:=ak.mp e;refine⟨ρ,F,t,hr,et,fun H1 s1=>?_⟩;split at e
   ·rename_i h;rw[if_pos h];exact⟨ρ,F,d,hr.same s1,e,fun v H2 s2 rv=>q v H2 (s1.trans s2) rv⟩
   ·rename_i h;rw[if_neg h];exact⟨ρ,F,d,hr.same s1,e,fun v H2 s2 rv=>q v H2 (s1.trans s2) rv⟩
theorem fS:JA X [] (eList []):=qb L2.mZ fun σ H Q ⟨ρ,F,ds,hr,e,q⟩=>by cases e;exact q [] H (ae.refl H) ab.nil
theorem dJ{e:Expr}{es:List Expr}{f:Ex}{fs:List Ex}(ha:JE X e f)(hr:JA X es (eList fs))(hs:starEach (e::es) X.env=(false,eval e X.env)::starEach es X.env:=by rfl):JA X (e::es) (eList (f::fs)):=
 qb (L2.kb ha hr hs) fun σ H Q ⟨ρ,F,ds,hr,e,q⟩=>by
   obtain⟨a,ea,e⟩:=ak.mp e;obtain⟨as,Ii,e⟩:=ak.mp e;cases e;exact⟨ρ,F,a,hr,ea,fun x H1 s1 rx=>⟨ρ,F,as,hr.same s1,Ii,fun xs H2 s2 rs=>q _ H2 (s1.trans s2) (ab.cons (rx.mv (.same s2)) rs)⟩⟩
theorem ij:∀ {fs:List Ex} {ρ:En} {ds:List D},eList fs ρ=.ok ds→ds.length=fs.length
 |[],_,_,h=>by cases h;rfl
 | f::fs,_,_,h=>by
   obtain⟨a,_,h⟩:=ak.mp h;obtain⟨as,h2,h⟩:=ak.mp h;cases h;simp[ij h2]
theorem yu{es:List Expr}{fs:List Ex}{k:Nat}(h:JA X es (eList fs))(hl:fs.length≤1000:=by decide):JE X (.Tuple es k pos) (dQ fs):=
 bx (L2.zh h) fun σ H Q ⟨ρ,F,d,hr,e,q⟩=>by
   obtain⟨as,ea,e⟩:=ak.mp e;cases e;refine⟨ρ,F,as,hr,ea,fun xs H1 s1 rs=>⟨?_,fun p hp=>q _ _ (s1.trans (ae.cQ hp _)) (i8 (hr.same s1).aN hp rs)⟩⟩;rw[←rs.length,ij ea];exact Nat.le_trans hl (by decide)
theorem x9{es:List Expr}{fs:List Ex}(h:JA X es (eList fs))(hl:fs.length≤1000:=by decide):JE X (.List es pos) (bh fs):=
 bx (L2.qY h) fun σ H Q ⟨ρ,F,d,hr,e,q⟩=>by
   obtain⟨as,ea,e⟩:=ak.mp e;cases e;refine⟨ρ,F,as,hr,ea,fun xs H1 s1 rs=>⟨?_,fun p hp=>q _ _ (s1.trans (ae.cQ hp _)) (ke (hr.same s1).aN hp rs)⟩⟩;rw[←rs.length,ij ea];exact Nat.le_trans hl (by decide)
theorem lQ{pins:List (Addr×Obj)}{s:Shared}{p:Addr}{kvs:List (Key×V)}(I:Inv X pins σ H s)(e:H p=some (.dK kvs)):∃ob,Inv X pins σ (upd H p (.frz ob (.dK kvs))) s:=by
 obtain⟨z,y,vs,r,ob,es,ep,eo,c⟩:=I.au p _ e;exact⟨ob,I.write (h':=s.heap) (t':=s.toks) (by rw[e];trivial) (.inl rfl) (fun _ _ _ q=>q) ⟨ob,eo⟩ ⟨eo,z,y,vs,r,ob,es,ep,eo,c⟩⟩
theorem zT{e:Expr}{t t':TE}(h:PE X e t')(hi:∀σ H Q,t σ H Q→t' σ H fun v H'=>∃p kvs,v=.ref p∧H' p=some (.dK kvs)∧∀ob,Q v (upd H' p (.frz ob (.dK kvs)))):PE X e t:=by
 intro pins s σ H Q I q;refine L2.ao (h pins s σ H _ I (hi σ H Q q)) fun u s1 ⟨x,H1,I1,rx,p,kvs,ex,e1,q1⟩=>?_;obtain⟨ob,I2⟩:=lQ I1 e1;exact⟨x,_,I2,rx,q1 ob⟩
end
section
variable{X:Cx}{M:Md}{H H':Hp}{F:Addr→Prop}{σ:L2.St}{ρ:En}{pos:Pos}{pins:List (Addr×Obj)}{s:Shared}
theorem qx{α β:Type}{xs:List α}{ys:List β}{i:Int}{x:α}(hl:xs.length=ys.length)(h:aZ xs i=some x):∃j y,dA ys.length i=some j∧xs[j]? =some x∧ys[j]? =some y∧aZ ys i=some y:=by
 unfold aZ at h ⊢;rw[hl]at h;cases e:dA ys.length i with
 |none=>rw[e]at h;cases h
 | some j=>
   rw[e]at h;have hx:xs[j]? =some x:=h;obtain⟨hj,_⟩:=List.getElem?_eq_some_iff.mp hx;have hy:j<ys.length:=by omega
   exact⟨j,ys[j],rfl,hx,List.getElem?_eq_getElem hy,by simp[hy]⟩
theorem lJ:bC M iq (L2.lN M.K):=by
 intro F H x y a b d Q tr ra rb e q;unfold iq at e;split at e
 · split at e
   · rename_i xs i _ v hv
     cases e;simp only[Rep]at ra;obtain⟨p,ys,rfl,h,rs⟩:=ra;obtain⟨j,y,_,h1,h2,h3⟩:=qx rs.length hv;obtain⟨z,hz,rz⟩:=rs.get h1;rw[h2]at hz;cases hz;exact .inl ⟨p,ys,_,y,rfl,ba rb,h.sq,h3,q _ _ (ae.refl _) rz⟩
   ·cases e
 · split at e
   · rename_i xs i _ v hv
     cases e;simp only[Rep]at ra;obtain⟨p,ys,rfl,h,rs⟩:=ra;obtain⟨j,y,_,h1,h2,h3⟩:=qx rs.length hv;obtain⟨z,hz,rz⟩:=rs.get h1;rw[h2]at hz;cases hz;exact .inr (.inl ⟨p,ys,_,y,rfl,ba rb,h.sq,h3,q _ _ (ae.refl _) rz⟩)
   ·cases e
 · split at e
   · split at e
     · rename_i hz _ c hc
       cases e;exact .inr (.inr ⟨_,_,c,cM ra,ba rb,hz,hc,q _ _ (ae.refl _) iE⟩)
     ·cases e
   ·cases e
 ·cases e
theorem kP(n d:Nat)(o:Option Int):HT.aA n d o=aA n d o:=by cases o<;>rfl
theorem pG(xs:List V)(lo hi:Option Int):L2.ft xs lo hi=cut xs lo hi:=by unfold L2.ft cut;simp only[kP]
theorem ab.cut{ds:List D}{xs:List V}(lo hi:Option Int)(r:ab M H F ds xs):ab M H F (cut ds lo hi) (PL.cut xs lo hi):=by
 unfold PL.cut;rw[r.length];exact(r.drop _).take _
def AW(M:Md)(f:En→R (Option Int)):L2.TO:=fun σ H Q=>∃ρ F o,aM M H F σ ρ∧f ρ=.ok o∧∀H',ae H H'→Q o H'
abbrev JO(X:Cx)(e:Option Expr)(f:Option Ex):Prop:=L2.PO X e (AW (ai X) (jT f))
theorem xo:JO X none none:=fun pins s σ H Q I ⟨ρ,F,o,hr,e,q⟩=>by
 cases e;exact L2.vX pins s σ H Q I (q H (ae.refl H))
theorem yb{e:Expr}{f:Ex}(h:JE X e f):JO X (some e) (some f):=fun pins s σ H Q I ⟨ρ,F,o,hr,e,q⟩=>by
 obtain⟨a,ea,e⟩:=ak.mp e;refine L2.A7 h pins s σ H Q I ⟨ρ,F,a,hr,ea,fun x H1 s1 rx=>?_⟩;split at e
 ·cases e;exact⟨_,ba rx,q H1 s1⟩
 ·cases e
theorem vT{a:Expr}{lo hi:Option Expr}{fa:Ex}{fl fh:Option Ex}{p2:Pos}(ha:JE X a fa)(hl:JO X lo fl)(hh:JO X hi fh):JE X (.Subscript a (.Slice lo hi none p2) pos) (iU fa fl fh):=
 bx (L2.xr (L2.fH.or L2.xg L2.xC) ha hl hh) fun σ H Q ⟨ρ,F,d,hr,e,q⟩=>by
   obtain⟨a,ea,e⟩:=ak.mp e;obtain⟨l,el,e⟩:=ak.mp e;obtain⟨h,eh,e⟩:=ak.mp e;refine⟨ρ,F,a,hr,ea,fun x H1 s1 rx=>⟨ρ,F,l,hr.same s1,el,fun H2 s2=>⟨ρ,F,h,(hr.same s1).same s2,eh,fun H3 s3=>?_⟩⟩⟩;have GN:=rx.mv (.same (s2.trans s3));have tr:=(((hr.same s1).same s2).same s3).aN;have F5:=s1.trans (s2.trans s3);unfold kR at e;split at e
   · cases e
     simp only[Rep]at GN;obtain⟨p,xs,rfl,h1,rs⟩:=GN;refine .inl ⟨p,xs,rfl,h1.sq,fun b hb=>?_⟩;rw[pG];exact q _ _ (F5.trans (ae.cQ hb _)) (ke tr hb (rs.cut _ _))
   · split at e
     ·cases e
     · rename_i hw
       cases e;simp only[Rep]at GN;obtain⟨p,xs,rfl,h1,rs⟩:=GN;refine .inr ⟨p,xs,rfl,h1.sq,?_,fun b hb=>?_⟩
       ·rw[kP,kP, ←rs.length];exact hw
       · rw[pG]
         exact q _ _ (F5.trans (ae.cQ hb _)) (i8 tr hb (rs.cut _ _))
   ·cases e
theorem lX{g:List D→R D}{r:List V→Hp→VK→Prop}(hg:de M g r){fs:List Ex}{Q:VK}(h:tP M (aB g fs) σ H Q):L2.nc r (lS M (eList fs)) σ H Q:=by
 obtain⟨ρ,F,d,hr,e,q⟩:=h;obtain⟨as,ea,e⟩:=ak.mp e;exact⟨ρ,F,as,hr,ea,fun xs H1 s1 rs=>hg F H1 xs as d Q (hr.same s1).aN rs e fun v H2 s2 rv=>q v H2 (s1.trans s2) rv⟩
@[simp] def g1(g:D→R D):List D→R D
 |[a]=>g a
 |_=>.bad
@[simp] def g2(g:D→D→R D):List D→R D
 |[a,b]=>g a b
 |_=>.bad
theorem qt(g:D→R D)(f:Ex):e1 g f=aB (g1 g) [f]:=by
 funext ρ;show(f ρ).bind g=((f ρ).bind fun x=>R.bind (R.ok []) fun xs=>R.ok (x::xs)).bind (g1 g);cases f ρ<;>rfl
theorem Al(g:D→D→R D)(f f':Ex):e2 g f f'=aB (g2 g) [f,f']:=by
 funext ρ;show(f ρ).bind _=((f ρ).bind fun x=>((f' ρ).bind fun y=>R.bind (R.ok []) fun ys=>R.ok (y::ys)).bind fun xs=>R.ok (x::xs)).bind (g2 g);cases f ρ with
 |ok a=>cases f' ρ<;>rfl
 |_=>rfl
theorem ab.one{d:D}{xs:List V}(r:ab M H F [d] xs):∃x,xs=[x]∧Rep M H F d x:=by
 simp only[ab]at r;obtain⟨x,t,rfl,h,rfl⟩:=r;exact⟨x,rfl,h⟩
theorem ab.two{d e:D}{xs:List V}(r:ab M H F [d,e] xs):∃x y,xs=[x,y]∧Rep M H F d x∧Rep M H F e y:=by
 simp only[ab]at r;obtain⟨x,t,rfl,h,y,u,rfl,h2,rfl⟩:=r;exact⟨x,y,rfl,h,h2⟩
theorem vD{g:D→R D}{r:List V→Hp→VK→Prop}{x:Str}{id:String}{a:Expr}{fa:Ex}{p:Pos}(hc:aW X (.builtin id) r)(hg:de (ai X) (g1 g) r)(DR:L2.Gl X x)(hm:X.mg x=none)(hv:bootBuiltins x=some (.builtin id))(ha:JE X a fa)
   (hs:starEach [a] X.env=(false,eval a X.env)::starEach [] X.env:=by rfl) (hn:x≠"__name__":=by decide) (CI:(x==("__debug__":Str))=false:=by decide):JE X (.Call (.Name x p) [a] [] pos) (e1 g fa):=by
 rw[qt];exact bx (L2.kq hc DR hm hv (dJ ha fS hs) hn CI hs) fun σ H Q h=>lX hg h
theorem ze{g:D→D→R D}{r:List V→Hp→VK→Prop}{x:Str}{id:String}{a b:Expr}{fa fb:Ex}{p:Pos}(hc:aW X (.builtin id) r)(hg:de (ai X) (g2 g) r)(DR:L2.Gl X x)(hm:X.mg x=none)(hv:bootBuiltins x=some (.builtin id))(ha:JE X a fa)(hb:JE X b fb)
   (hs:starEach [a,b] X.env=(false,eval a X.env)::starEach [b] X.env:=by rfl) (Cm:starEach [b] X.env=(false,eval b X.env)::starEach [] X.env:=by rfl) (hn:x≠"__name__":=by decide) (CI:(x==("__debug__":Str))=false:=by decide):JE X (.Call (.Name x p) [a,b] [] pos) (e2 g fa fb):=by
 rw[Al];exact bx (L2.kq hc DR hm hv (dJ ha (dJ hb fS Cm) hs) hn CI hs (by rw[Cm];rfl)) fun σ H Q h=>lX hg h
theorem xi{g:D→R D}{r:List V→Hp→VK→Prop}{x:Str}{T:String}{a:Expr}{fa:Ex}{p:Pos}(hc:aW X (.type T) r)(hg:de (ai X) (g1 g) r)(DR:L2.Gl X x)(hm:X.mg x=none)(hv:bootBuiltins x=some (.type T))(ha:JE X a fa)
   (hs:starEach [a] X.env=(false,eval a X.env)::starEach [] X.env:=by rfl) (hn:x≠"__name__":=by decide) (CI:(x==("__debug__":Str))=false:=by decide):JE X (.Call (.Name x p) [a] [] pos) (e1 g fa):=by
 rw[qt];exact bx (L2.y1 hc DR hm hv (dJ ha fS hs) hn CI hs) fun σ H Q h=>lX hg h
def qO(M:Md):List V→Hp→VK→Prop:=fun xs H Q=>(∃p ys,xs=[.ref p]∧(aO M.K H p ys∨aT M.K H p ys)∧Q (.int ys.length) H)∨(∃z,xs=[.str z]∧z.length≤sizeLine∧Q (.int z.length) H)
theorem g9:aW X (.builtin "len") (qO (ai X)):=L2.aW.or L2.wV L2.wu
theorem g8:de M (g1 cD) (qO M):=by
 intro F H xs as d Q tr rs e q;unfold g1 at e;split at e
 · obtain⟨x,rfl,r⟩:=rs.one
   unfold cD at e;split at e
   · cases e
     simp only[Rep]at r;obtain⟨p,ys,rfl,h,rs⟩:=r;exact .inl ⟨p,ys,rfl,.inl h.sq,q _ _ (ae.refl _) (by rw[←rs.length];exact b0)⟩
   · cases e
     simp only[Rep]at r;obtain⟨p,ys,rfl,h,rs⟩:=r;exact .inl ⟨p,ys,rfl,.inr h.sq,q _ _ (ae.refl _) (by rw[←rs.length];exact b0)⟩
   · split at e
     · cases e
       exact .inr ⟨_,by rw[cM r],by assumption,q _ _ (ae.refl _) b0⟩
     ·cases e
   ·cases e
 ·cases e
theorem pF:de M (g1 eZ) (fun xs H Q=>(∃i,xs=[.int i]∧Q (.int i) H)∨∃k,xs=[.bl k]∧Q (.int (if k then 1 else 0)) H):=by
 intro F H xs as d Q tr rs e q;unfold g1 at e;split at e
 · obtain⟨x,rfl,r⟩:=rs.one
   unfold eZ at e;split at e
   ·cases e;exact .inl ⟨_,by rw[ba r],q _ _ (ae.refl _) b0⟩
   ·cases e;exact .inr ⟨_,by rw[dz r],q _ _ (ae.refl _) b0⟩
   ·cases e
 ·cases e
theorem lL:de M (g1 eE) (fun xs H Q=>∃p ys,xs=[.ref p]∧((aO M.K H p ys∧∀l,H l=none→Q (.ref l) (upd H l (.tup ys)))∨(aT M.K H p ys∧Q (.ref p) H))):=by
 intro F H xs as d Q tr rs e q;unfold g1 at e;split at e
 · obtain⟨x,rfl,r⟩:=rs.one
   unfold eE at e;split at e
   · cases e
     simp only[Rep]at r;obtain⟨p,ys,rfl,h,rs⟩:=r;exact⟨p,ys,rfl,.inl ⟨h.sq,fun l hl=>q _ _ (ae.cQ hl _) (i8 tr hl rs)⟩⟩
   · cases e
     have r':=r;simp only[Rep]at r;obtain⟨p,ys,rfl,h,rs⟩:=r;exact⟨p,ys,rfl,.inr ⟨h.sq,q _ _ (ae.refl _) r'⟩⟩
   ·cases e
 ·cases e
theorem uQ:de M (g2 kc) (fun xs H Q=>∃i j,xs=[.int i,.int j]∧Q (.int (if j<i then j else i)) H):=by
 intro F H xs as d Q tr rs e q;unfold g2 at e;split at e
 · obtain⟨x,y,rfl,r,r2⟩:=rs.two
   unfold kc at e;split at e
   ·cases e;exact⟨_,_,by rw[ba r,ba r2],q _ _ (ae.refl _) b0⟩
   ·cases e
 ·cases e
end
section
variable{X:Cx}{M:Md}{H H':Hp}{F:Addr→Prop}{σ:L2.St}{ρ:En}{pos:Pos}{pins:List (Addr×Obj)}{s:Shared}
mutual
noncomputable def pyd:D→PyData
 |.aq=>.none
 |.bl b=>.bool b
 |.int i=>.int i
 |.str x=>.str x
 |.tup xs=>.tuple (cG xs)
 |.lst xs=>.list (cG xs)
 |.aV _ _=>.dict []
 |.bA _ _ _=>.dict []
noncomputable def cG:List D→List PyData
 |[]=>[]
 |x::xs=>pyd x::cG xs
end
mutual
theorem mR:∀(a b:D),lay a=true→lay b=true→PyData.eqv (pyd a) (pyd b)=bo a b
 |.aq,b,_,hb=>by cases b<;>first|rfl|(simp[lay]at hb)
 |.bl _,b,_,hb=>by cases b<;>first|rfl|(simp[lay]at hb)
 |.int _,b,_,hb=>by cases b<;>first|rfl|(simp[lay]at hb)
 | .str x,b,_,hb=>by
   cases b with
   |str y=>show(x==y)=decide (x=y);rw[Bool.eq_iff_iff,beq_iff_eq,decide_eq_true_eq]
   |_=>first|rfl|(simp[lay]at hb)
 | .tup xs,b,ha,hb=>by
   cases b with
   |tup ys=>simp only[lay]at ha hb;exact md xs ys ha hb
   |_=>first|rfl|(simp[lay]at hb)
 | .lst xs,b,ha,hb=>by
   cases b with
   |lst ys=>simp only[lay]at ha hb;exact md xs ys ha hb
   |_=>first|rfl|(simp[lay]at hb)
 |.aV _ _,_,ha,_=>by simp[lay]at ha
 |.bA _ _ _,_,ha,_=>by simp[lay]at ha
theorem md:∀(a b:List D),cg a=true→cg b=true→PyData.eqvAll (cG a) (cG b)=eP a b
 |[],[],_,_=>rfl
 |[],_::_,_,_=>rfl
 |_::_,[],_,_=>rfl
 | x::xs,y::ys,ha,hb=>by
   simp only[cg,Bool.and_eq_true]at ha hb;show(PyData.eqv (pyd x) (pyd y)&&PyData.eqvAll (cG xs) (cG ys))=(bo x y&&eP xs ys);rw[mR x y ha.1 hb.1,md xs ys ha.2 hb.2]
end
mutual
theorem iC:∀a:D,lay a=true→(pyd a).canLay0=true
 |.aq,_=>rfl
 |.bl _,_=>rfl
 |.int _,_=>rfl
 |.str x,h=>by simp only[lay]at h;exact h
 |.tup xs,h=>by simp only[lay]at h;exact lg xs h
 |.lst xs,h=>by simp only[lay]at h;exact lg xs h
 |.aV _ _,h=>by simp[lay]at h
 |.bA _ _ _,h=>by simp[lay]at h
theorem lg:∀a:List D,cg a=true→PyData.canLayAll0 (cG a)=true
 |[],_=>rfl
 | x::xs,h=>by
   simp only[cg,Bool.and_eq_true]at h;show((pyd x).canLay0&&PyData.canLayAll0 (cG xs))=true;rw[iC x h.1,lg xs h.2];rfl
end
mutual
theorem jh:∀a:D,lay a=true→(pyd a).depth=dep a
 |.aq,_=>rfl
 |.bl _,_=>rfl
 |.int _,_=>rfl
 |.str _,_=>rfl
 |.tup xs,h=>by simp only[lay]at h;show PyData.depthAll (cG xs)+1=_;rw[lr xs h];simp only[dep]
 |.lst xs,h=>by simp only[lay]at h;show PyData.depthAll (cG xs)+1=_;rw[lr xs h];simp only[dep]
 |.aV _ _,h=>by simp[lay]at h
 |.bA _ _ _,h=>by simp[lay]at h
theorem lr:∀a:List D,cg a=true→PyData.depthAll (cG a)=fX a
 |[],_=>rfl
 | x::xs,h=>by
   simp only[cg,Bool.and_eq_true]at h;show max (pyd x).depth (PyData.depthAll (cG xs))=_;rw[jh x h.1,lr xs h.2];simp only[fX]
end
mutual
theorem ja(I:Inv X pins σ H s):∀ {a:D} {x:V} {u:Value},lay a=true→Rep (ai X) H F a x→RelV x u→∃as,Reads s.heap u (pyd a) as
 |.aq,_,_,_,r,rx=>by cases m9 r;cases rx;exact⟨_,.none⟩
 |.bl b,_,_,_,r,rx=>by cases dz r;cases rx;exact⟨_,.bool b⟩
 |.int i,_,_,_,r,rx=>by cases ba r;obtain⟨t,rfl⟩:=rx;exact⟨_,.int i t⟩
 |.str z,_,_,_,r,rx=>by cases cM r;obtain⟨t,rfl⟩:=rx;exact⟨_,.str z t⟩
 | .tup ds,_,_,h,r,rx=>by
   simp only[lay]at h;simp only[Rep]at r;obtain⟨p,xs,rfl,t,rs⟩:=r;cases rx;obtain⟨y',rv,⟨o,e,c,n,d⟩,_⟩:=iz I t;obtain⟨as,ra⟩:=mV I h rs rv;exact⟨_,.tuple e c d (by simpa using ra)⟩
 | .lst ds,_,_,h,r,rx=>by
   simp only[lay]at h;simp only[Rep]at r;obtain⟨p,xs,rfl,t,rs⟩:=r;cases rx;obtain⟨y',n,sl,rv,e,_⟩:=kj I t;obtain⟨as,ra⟩:=mV I h rs rv;exact⟨_,.list e rfl rfl (by simpa using ra)⟩
 |.aV _ _,_,_,h,_,_=>by simp[lay]at h
 |.bA _ _ _,_,_,h,_,_=>by simp[lay]at h
theorem mV(I:Inv X pins σ H s):∀ {as:List D} {xs:List V} {us:List Value},cg as=true→ab (ai X) H F as xs→Vals xs us→∃bs,ReadsAll s.heap us (cG as) bs
 |[],_,_,_,r,rv=>by simp only[ab]at r;subst r;cases rv;exact⟨_,.nil⟩
 | a::as,_,_,h,r,rv=>by
   simp only[cg,Bool.and_eq_true]at h;simp only[ab]at r;obtain⟨x,t,rfl,r1,r2⟩:=r;cases rv with
   | cons q w=>
     obtain⟨bs,h1⟩:=ja I h.1 r1 q;obtain⟨cs,h2⟩:=mV I h.2 r2 w;exact⟨_,.cons h1 h2⟩
end
theorem wQ(l:Addr)(es:Array DictEntry)(n:Nat)(dd:Option Addr)(sl:Array (Option Value))(b:Str)(u:Tok):
   Meets (Builtin.«dict.__eq__» ⟨[.ref l,.str b u],[]⟩) (fun _ R s=>s.heap.get? l=some {cls:=.type "dict",dict:=dd,data:=.dict es n,slots:=sl}∧R (.ok (.ret .notImplemented)) s):=
 .of_wp fun prog w A R s h=>by obtain⟨hp,g,d,tk,os⟩:=s;obtain⟨hl,h⟩:=h;have f1:=F.sub_str_dict;wp_walk;exact⟨_,rfl,h⟩
theorem yn(b:Str)(u:Tok)(l:Addr)(es:Array DictEntry)(n:Nat)(dd:Option Addr)(sl:Array (Option Value)):
   Meets (Builtin.«str.__eq__» ⟨[.str b u,.ref l],[]⟩) (fun _ R s=>s.heap.get? l=some {cls:=.type "dict",dict:=dd,data:=.dict es n,slots:=sl}∧R (.ok (.ret .notImplemented)) s):=
 .of_wp fun prog w A R s h=>by obtain⟨hp,g,d,tk,os⟩:=s;obtain⟨hl,h⟩:=h;wp_walk using AutoSeq1.wpAny_loadPart' hl,wpAny_load hl;exact⟨_,rfl,h⟩
theorem vK{A:Around}{l:Addr}{o:Obj}{es:Array DictEntry}{n:Nat}(b:Str)(u:Tok)(ho:s.heap.get? l=some o)(hc:o.cls=.type "dict")(hd:o.data=.dict es n)(hu:A.units<cLine):SeqAt.RcAt A s (.ref l) (.str b u) false:=fun prog w E Q h=>by
 obtain⟨cls,dd,data,sl⟩:=o;simp only at hc hd;subst hc hd
 exact SeqAt.rc_eq_decline_or (k:=false) ⟨_,ho,rfl⟩ (typeIs_str s b u) (by decide) F.sub_str_dict F.slot_dict_eq F.slot_str_eq_refl
   (fun _ hq=>call_meets F.slot_dict_eq ⟨_,ho,rfl⟩ F.entry_dict_eq (F.args_dict_eq_2 _ _) (wQ l es n dd sl b u) ⟨ho,hq⟩)
   (fun _ hq=>call_meets F.slot_str_eq_refl (typeIs_str s b u) F.entry_str_eq (F.args_str_eq_2 _ _) (yn b u l es n dd sl) ⟨ho,hq⟩)
   (fun _ hq=>wpAny_of_eq (rfl:isSame (.ref l) (.str b u)=pure false) hq) (.inr hu) h
theorem j8{a:Addr}{kvs:List (Key×V)}(I:Inv X pins σ H s)(h:g0 (ai X) H F a kvs):kvs.length≤sizeLine∧(a==sysModules)=false∧∃vs,L2.KV kvs vs∧s.heap.DictOf (L2.bc X.prog X.w) a vs:=by
 rcases h with⟨_,ob,h⟩|⟨o,es,ep,vs,h1,h2,h3,h4,h5,h6,h7,h8,h9⟩
 ·exact L2.mQ I.au (.inr ⟨ob,h⟩)
 ·exact⟨h8,h9,vs,h7,o,es,ep,I.bS a o h1,h2,h3,h4,h5,h6⟩
def oN(M:Md):R2:=fun x y H Q=>∃F a b,Rep M H F a x∧Rep M H F b y∧cn a b=true∧Q (.bl (bo a b)) H
def pL(M:Md):R2:=fun x y H Q=>∃F a b,Rep M H F a x∧Rep M H F b y∧cP a b=true∧Q (.bl (!bo a b)) H
theorem str_beq(a b:Str):(a==b)=decide (a=b):=by rw[Bool.eq_iff_iff,beq_iff_eq,decide_eq_true_eq]
theorem Ae{A:Around}{a b:D}{x y:V}{u v:Value}(fa:flat a=true)(fb:flat b=true)(ra:Rep M H F a x)(rb:Rep M H F b y)(rx:RelV x u)(ry:RelV y v):SeqAt.RcAt A s u v (bo a b):=by
 cases a<;>(try cases fa)<;>cases b<;>(try cases fb)<;>simp only[Rep]at ra rb<;>subst ra<;>subst rb
 ·cases rx;cases ry;exact SeqAt.RcAt.none_none
 ·cases rx;cases ry;exact SeqAt.RcAt.none_bool _
 ·cases rx;obtain⟨t,rfl⟩:=ry;exact SeqAt.RcAt.none_int _ _
 ·cases rx;obtain⟨t,rfl⟩:=ry;exact SeqAt.RcAt.none_str _ _
 ·cases rx;cases ry;exact SeqAt.RcAt.bool_none _
 ·cases rx;cases ry;exact SeqAt.RcAt.bool_bool _ _
 ·cases rx;obtain⟨t,rfl⟩:=ry;exact SeqAt.RcAt.bool_int _ _ _
 ·cases rx;obtain⟨t,rfl⟩:=ry;exact SeqAt.RcAt.bool_str _ _ _
 ·obtain⟨t,rfl⟩:=rx;cases ry;exact SeqAt.RcAt.int_none _ _
 ·obtain⟨t,rfl⟩:=rx;cases ry;exact SeqAt.RcAt.int_bool _ _ _
 ·obtain⟨t,rfl⟩:=rx;obtain⟨t,rfl⟩:=ry;exact SeqAt.RcAt.int_int _ _ _ _
 ·obtain⟨t,rfl⟩:=rx;obtain⟨t,rfl⟩:=ry;exact SeqAt.RcAt.int_str _ _ _ _
 ·obtain⟨t,rfl⟩:=rx;cases ry;exact SeqAt.RcAt.str_none _ _
 ·obtain⟨t,rfl⟩:=rx;cases ry;exact SeqAt.RcAt.str_bool _ _ _
 ·obtain⟨t,rfl⟩:=rx;obtain⟨t,rfl⟩:=ry;exact SeqAt.RcAt.str_int _ _ _ _
 ·obtain⟨t,rfl⟩:=rx;obtain⟨t,rfl⟩:=ry;simp only[bo];rw[←str_beq];exact SeqAt.RcAt.str_str _ _ _ _
theorem xX{A:Around}{a b:D}{x y:V}{u v:Value}(fa:flat a=true)(fb:flat b=true)(ra:Rep M H F a x)(rb:Rep M H F b y)(rx:RelV x u)(ry:RelV y v):SeqAt.RcNeAt A s u v (!bo a b):=by
 cases a<;>(try cases fa)<;>cases b<;>(try cases fb)<;>simp only[Rep]at ra rb<;>subst ra<;>subst rb
 ·cases rx;cases ry;exact SeqAt.RcNeAt.none_none
 ·cases rx;cases ry;exact SeqAt.RcNeAt.none_bool _
 ·cases rx;obtain⟨t,rfl⟩:=ry;exact SeqAt.RcNeAt.none_int _ _
 ·cases rx;obtain⟨t,rfl⟩:=ry;exact SeqAt.RcNeAt.none_str _ _
 ·cases rx;cases ry;exact SeqAt.RcNeAt.bool_none _
 ·cases rx;cases ry;exact SeqAt.RcNeAt.bool_bool _ _
 ·cases rx;obtain⟨t,rfl⟩:=ry;exact SeqAt.RcNeAt.bool_int _ _ _
 ·cases rx;obtain⟨t,rfl⟩:=ry;exact SeqAt.RcNeAt.bool_str _ _ _
 ·obtain⟨t,rfl⟩:=rx;cases ry;exact SeqAt.RcNeAt.int_none _ _
 ·obtain⟨t,rfl⟩:=rx;cases ry;exact SeqAt.RcNeAt.int_bool _ _ _
 ·obtain⟨t,rfl⟩:=rx;obtain⟨t,rfl⟩:=ry;exact SeqAt.RcNeAt.int_int _ _ _ _
 ·obtain⟨t,rfl⟩:=rx;obtain⟨t,rfl⟩:=ry;exact SeqAt.RcNeAt.int_str _ _ _ _
 ·obtain⟨t,rfl⟩:=rx;cases ry;exact SeqAt.RcNeAt.str_none _ _
 ·obtain⟨t,rfl⟩:=rx;cases ry;exact SeqAt.RcNeAt.str_bool _ _ _
 ·obtain⟨t,rfl⟩:=rx;obtain⟨t,rfl⟩:=ry;exact SeqAt.RcNeAt.str_int _ _ _ _
 ·obtain⟨t,rfl⟩:=rx;obtain⟨t,rfl⟩:=ry;simp only[bo];rw[←str_beq];exact SeqAt.RcNeAt.str_str _ _ _ _
theorem rV(ds:List D):((List.range (min ds.length 0)).all (fun _=>true)&&(ds.length==0))=bo (.tup ds) (.tup []):=by
 cases ds<;>simp
theorem rC{A:Around}{ds:List D}{x y:V}{u v:Value}(I:Inv X pins σ H s)(hu:A.units<cLine)(ra:Rep (ai X) H F (.tup ds) x)(rb:Rep (ai X) H F (.tup []) y)(rx:RelV x u)(ry:RelV y v):
   SeqAt.RcAt A s u v (bo (.tup ds) (.tup []))∧SeqAt.RcNeAt A s u v (!bo (.tup ds) (.tup [])):=by
 simp only[Rep]at ra rb;obtain⟨p,xs,rfl,h,rs⟩:=ra;obtain⟨p2,NR,rfl,h2,DI⟩:=rb;cases rx;cases ry;simp only[ab]at DI;subst DI;obtain⟨y',rv,⟨o,e,c,n,d⟩,_⟩:=iz I h;obtain⟨DP,GK,⟨o2,e2,c2,n2,d2⟩,_⟩:=iz I h2;cases GK;have hl:y'.toArray.size=ds.length:=by rw[List.size_toArray, ←rv.length, ←rs.length]
 have z1:=SeqAt.RcAt.tuples (A:=A) (s:=s) (e:=fun _=>true) (l:=p) (b:=p2) ⟨o,e,c,n,d⟩ ⟨o2,e2,c2,n2,d2⟩ hu (fun j _ h2=>by simp at h2)
 have z2:=SeqAt.RcNeAt.tuples (A:=A) (s:=s) (e:=fun _=>true) (l:=p) (b:=p2) ⟨o,e,c,n,d⟩ ⟨o2,e2,c2,n2,d2⟩ hu (fun j _ h2=>by simp at h2)
 rw[←rV];rw[hl]at z1 z2;exact⟨z1,z2⟩
theorem j1(hu:X.A.units+64<cLine):aH X (compareOp .NotEq) (pL (ai X)):=by
 intro pins s σ H x y v u Q I rx ry h;obtain⟨F,a,b,ra,rb,ok,q⟩:=h;have fin:EP X pins σ Q (.bool (!bo a b)) s:=⟨.bl _,H,I,rfl,q⟩;unfold cP at ok;rw[Bool.or_eq_true,Bool.or_eq_true,Bool.and_eq_true]at ok;rcases ok with(⟨fa,fb⟩|t)|l
 ·exact xX fa fb ra rb rx ry _ _ _ _ fin
 · unfold lB at t
   split at t
   ·exact(rC I (by omega) ra rb rx ry).2 _ _ _ _ fin
   ·cases t
 · rw[Bool.and_eq_true,Bool.and_eq_true,decide_eq_true_eq]at l
   obtain⟨⟨la,lb⟩,hd⟩:=l;obtain⟨as,h1⟩:=ja I la ra rx;obtain⟨bs,h2⟩:=ja I lb rb ry;refine SeqAt.compareNe_reads h1 h2 (iC a la) (iC b lb) (by rw[jh a la,jh b lb];omega) ?_
   rw[mR a b la lb];exact fin
theorem du(hu:X.A.units+64<cLine):aH X (compareOp .Eq) (oN (ai X)):=by
 intro pins s σ H x y v u Q I rx ry h;obtain⟨F,a,b,ra,rb,ok,q⟩:=h;have fin:EP X pins σ Q (.bool (bo a b)) s:=⟨.bl _,H,I,rfl,q⟩;unfold cn at ok;rw[Bool.or_eq_true]at ok;rcases ok with ok|dc
 · unfold cP at ok
   rw[Bool.or_eq_true,Bool.or_eq_true,Bool.and_eq_true]at ok;rcases ok with(⟨fa,fb⟩|t)|l
   ·exact Ae fa fb ra rb rx ry _ _ _ _ fin
   · unfold lB at t
     split at t
     ·exact(rC I (by omega) ra rb rx ry).1 _ _ _ _ fin
     ·cases t
   · rw[Bool.and_eq_true,Bool.and_eq_true,decide_eq_true_eq]at l
     obtain⟨⟨la,lb⟩,hd⟩:=l;obtain⟨as,h1⟩:=ja I la ra rx;obtain⟨bs,h2⟩:=ja I lb rb ry;refine SeqAt.compareEq_reads h1 h2 (iC a la) (iC b lb) (by rw[jh a la,jh b lb];omega) ?_
     rw[mR a b la lb];exact fin
 · unfold oK at dc
   split at dc
   · cases cM rb
     obtain⟨t,rfl⟩:=ry;simp only[Rep]at ra;obtain⟨p,xs,rfl,h,_⟩:=ra;cases rx;obtain⟨_,_,vs,_,o,es,ep,e1,e2,e3,_⟩:=j8 I h;exact vK _ t e1 e2.1 e3 (by omega) _ _ _ _ fin
   ·cases dc
theorem dj:bC M oEq (oN M):=by
 intro F H x y a b d Q tr ra rb e q;unfold oEq at e;split at e
 ·cases e;exact⟨F,a,b,ra,rb,by assumption,q _ _ (ae.refl _) dO⟩
 ·cases e
theorem kz:bC M dy (pL M):=by
 intro F H x y a b d Q tr ra rb e q;unfold dy at e;split at e
 ·cases e;exact⟨F,a,b,ra,rb,by assumption,q _ _ (ae.refl _) dO⟩
 ·cases e
theorem fu:gZ oEq:=fun a b d h=>by unfold oEq at h;split at h<;>cases h;exact⟨_,rfl⟩
theorem kn:gZ dy:=fun a b d h=>by unfold dy at h;split at h<;>cases h;exact⟨_,rfl⟩
theorem uR:gZ oLt:=fun a b d h=>by unfold oLt at h;split at h<;>cases h;exact⟨_,rfl⟩
theorem m8:gZ fq:=fun a b d h=>by unfold fq at h;split at h<;>cases h;exact⟨_,rfl⟩
theorem u0:bootBuiltins "isinstance"=some (.builtin "isinstance"):=by decide+kernel
theorem fI:bootBuiltins "len"=some (.builtin "len"):=by decide+kernel
theorem xS:bootBuiltins "min"=some (.builtin "min"):=by decide+kernel
theorem AN:bootBuiltins "all"=some (.builtin "all"):=by decide+kernel
theorem lA:bootBuiltins "int"=some (.type "int"):=by decide+kernel
theorem zC:bootBuiltins "bool"=some (.type "bool"):=by decide+kernel
theorem zm:bootBuiltins "str"=some (.type "str"):=by decide+kernel
theorem sT:bootBuiltins "list"=some (.type "list"):=by decide+kernel
theorem kB:bootBuiltins "tuple"=some (.type "tuple"):=by decide+kernel
def ji:Ty→String
 |.int=>"int"|.bool=>"bool"|.str=>"str"|.tuple=>"tuple"|.list=>"list"|.dict=>"dict"
theorem yI:aW X (.builtin "isinstance") (fun xs H Q=>∃F d x b ty,xs=[x,.ty (ji ty)]∧Rep (ai X) H F d x∧dP ty d=.ok (.bl b)∧(∀c ns vs,d≠.bA c ns vs)∧Q (.bl b) H):=by
 intro pins s σ H xs us Q I r h;obtain⟨F,d,x,b,ty,rfl,rd,e,ne,q⟩:=h;obtain⟨u,w,rfl,ru,Dx⟩:=L2.vals2 r;cases (show w=Value.type (ji ty)from Dx)
 have fin:∀tk,EP X pins σ Q (.bool b) {s with toks:=tk}:=fun tk=>⟨.bl _,H,I.tok tk,rfl,q⟩;cases d with
 |aq=>cases m9 rd;cases ru;cases ty<;>cases e<;>exact PySem.W.kia_one PySem.W.kitx_none I.bS True.intro rfl (fun z=>nomatch z) fin
 |bl y=>cases dz rd;cases ru;cases ty<;>cases e<;>exact PySem.W.kia_one PySem.W.kitx_bool I.bS True.intro rfl (fun z=>nomatch z) fin
 |int i=>cases ba rd;obtain⟨t,rfl⟩:=ru;cases ty<;>cases e<;>exact PySem.W.kia_one PySem.W.kitx_int I.bS True.intro rfl (fun z=>nomatch z) fin
 |str z=>cases cM rd;obtain⟨t,rfl⟩:=ru;cases ty<;>cases e<;>exact PySem.W.kia_one PySem.W.kitx_str I.bS True.intro rfl (fun z=>nomatch z) fin
 | tup ds=>
   simp only[Rep]at rd;obtain⟨p,xs,rfl,h,_⟩:=rd;cases ru;obtain⟨y',_,⟨o,h1,h2,_⟩,_⟩:=iz I h;cases ty<;>cases e<;>exact PySem.W.kia_one PySem.W.kitx_tuple I.bS ⟨o,h1,h2⟩ rfl (fun z=>nomatch z) fin
 | lst ds=>
   simp only[Rep]at rd;obtain⟨p,xs,rfl,h,_⟩:=rd;cases ru;obtain⟨y',n,sl,_,h1,_⟩:=kj I h;cases ty<;>cases e<;>exact PySem.W.kia_one PySem.W.kitx_list I.bS ⟨_,h1,rfl⟩ rfl (fun z=>nomatch z) fin
 | aV ks ds=>
   simp only[Rep]at rd;obtain⟨p,xs,rfl,h,_⟩:=rd;cases ru;obtain⟨_,_,vs,_,o,es,ep,e1,e2,e3,_⟩:=j8 I h;cases ty<;>cases e<;>exact PySem.W.kia_one PySem.W.kitx_dict I.bS ⟨o,e1,e2.1⟩ rfl (fun z=>nomatch z) fin
 |bA c ns vs=>exact absurd rfl (ne _ _ _)
theorem xH{ty:Ty}{d r:D}(h:dP ty d=.ok r):∃b,r=.bl b:=by
 unfold dP at h;split at h<;>cases h<;>exact⟨_,rfl⟩
theorem xP(ty:Ty){a:Expr}{fa:Ex}{p p2:Pos}{T:Str}(ha:JE X a fa)(hg:L2.Gl X "isinstance")(hm:X.mg "isinstance"=none)(Ha:L2.Gl X T)(G2:X.mg T=none)(Ic:bootBuiltins T=some (.type (ji ty)))
   (hs:starEach [a,.Name T p2] X.env=(false,eval a X.env)::starEach [.Name T p2] X.env:=by rfl) (Cm:starEach [.Name T p2] X.env=(false,eval (.Name T p2) X.env)::starEach [] X.env:=by rfl)
   (Ho:T≠"__name__":=by decide) (Hv:(T==("__debug__":Str))=false:=by decide):JE X (.Call (.Name "isinstance" p) [a,.Name T p2] [] pos) (e1 (dP ty) fa):=
 bx (L2.kq yI hg hm u0 (L2.kb ha (L2.kb (L2.vM (v:=.ty (ji ty)) Ha G2 Ic rfl Ho Hv) L2.mZ Cm) hs) (by decide) (by decide) hs (by rw[Cm];rfl)) fun σ H Q ⟨ρ,F,d,hr,e,q⟩=>by
   obtain⟨a,ea,e⟩:=ak.mp e;obtain⟨b,rfl⟩:=xH e;refine⟨ρ,F,a,hr,ea,fun x H1 s1 rx=>⟨F,a,x,b,ty,rfl,rx,e,?_,q _ _ s1 dO⟩⟩;intro c ns vs h;subst h;cases ty<;>cases e
end
open L2 (PG b5 TG)
structure Gf where
 g:Hp
 f:Addr→Prop
 p:Option V
instance:CoeFun Gf (fun _=>Addr→Prop):=⟨Gf.f⟩
def Pin(F0:Gf)(σ:L2.St)(ρ:En):Prop:=∀w,F0.p=some w→∀t,ρ[0]? =some (.on (.tr t))→σ[0]? =some (some w)
theorem Pin.set{F0:Gf}{σ:L2.St}{ρ:En}{i:Nat}{s:Slot}{v:Option V}(h:Pin F0 σ ρ)(hs:∀t,s≠.on (.tr t)):Pin F0 (σ.set i v) (ρ.set i s):=fun w hw t e=>by
 rcases get_set e with⟨_,x,_⟩|⟨B5,e⟩
 ·exact absurd x (hs t)
 ·rw[List.getElem?_set_ne B5];exact h w hw t e
theorem Pin.lO{F0:Gf}{σ:L2.St}{ρ:En}{i:Nat}{s:Slot}(h:Pin F0 σ ρ)(hs:∀t,s≠.on (.tr t)):Pin F0 σ (ρ.set i s):=fun w hw t e=>by
 rcases get_set e with⟨_,x,_⟩|⟨B5,e⟩
 ·exact absurd x (hs t)
 ·exact h w hw t e
structure aK(M:Md)(G:Hp)(F0:Gf)(H:Hp)(F:Addr→Prop)(σ:L2.St)(ρ:En):Prop where
 rs:aM M H F σ ρ
 sm:ae G H
 sub:∀a,F0 a→F a
 eu:∀a,F0 a→∃o,G a=some o
 own:∀(i:Nat) a,bq ρ i→σ[i]? =some (some (.ref a))→G a=none
 fG:∀(i:Nat) B7 b,ρ[i]? =some (.on B7)→dC M H F σ ρ i b→G b=none
 pin:Pin F0 σ ρ
def jn(M:Md)(G:Hp)(F0:Gf)(H:Hp)(F:Addr→Prop)(D:Ends):Fl→Prop
 |.next ρ'=>∀B1 H' F',Mv F H F' H'→aK M G F0 H' F' B1 ρ'→D.nx B1 H'
 |.brk ρ'=>∀B1 H' F',Mv F H F' H'→aK M G F0 H' F' B1 ρ'→D.bk B1 H'
 |.cont ρ'=>∀B1 H' F',Mv F H F' H'→aK M G F0 H' F' B1 ρ'→D.ct B1 H'
 |.ret d=>∀v H' F',Mv F H F' H'→ae G H'→(∀a,F0 a→F' a)→Rep M H' F' d v→D.rt v H'
 |.d8 d=>∀p H' F' xs ds,d=.lst ds→Mv F H F' H'→ae G H'→(∀a,F0 a→F' a)→H' p=none→ab M H' F' ds xs→D.rt (.ref p) (upd H' p (.lst xs))
 |.eO t=>∀v H' F1 F2 as,Mv F H F1 H'→ae G H'→(∀a,F0 a→F1 a)→(∀b∈as,G b=none)→as.Nodup→(∀b,F2 b↔F1 b∨b∈as)→ah M H' F2 t v as→D.rt v H'
def eV(M:Md)(G:Hp)(F0:Gf)(f:Sm):TS:=fun D σ H=>∃ρ F fl,aK M G F0 H F σ ρ∧f ρ=.ok fl∧jn M G F0 H F D fl
abbrev JS(X:Cx)(st:Stmt)(f:Sm):Prop:=∀F0:Gf,PS X st (eV (ai X) F0.g F0 f)
abbrev cS(X:Cx)(LZ:List Stmt)(f:Sm):Prop:=∀F0:Gf,bu X LZ (eV (ai X) F0.g F0 f)
theorem fj{X:Cx}{e:Stmt}{t t':TS}(h:PS X e t')(hi:∀D σ H,t D σ H→t' D σ H):PS X e t:=fun pins s σ H Q I q=>h pins s σ H Q I (hi Q σ H q)
theorem qV{X:Cx}{e:List Stmt}{t t':TS}(h:bu X e t')(hi:∀D σ H,t D σ H→t' D σ H):bu X e t:=fun pins s σ H Q I q=>h pins s σ H Q I (hi Q σ H q)
theorem Mv.refl{F:Addr→Prop}{H:Hp}:Mv F H F H:=fun _ _ n e=>⟨n,e⟩
section
variable{X:Cx}{M:Md}{G H H':Hp}{F0:Gf}{F F':Addr→Prop}{σ:L2.St}{ρ:En}{pos:Pos}{DE:Ends}
theorem aK.same(r:aK M G F0 H F σ ρ)(h:ae H H'):aK M G F0 H' F σ ρ:=⟨r.rs.same h,r.sm.trans h,r.sub,r.eu,r.own,fun i B7 b e hb=>r.fG i B7 b e (r.rs.on.back (fun _ e=>e) rfl (fun a u _ _ hu=>h _ _ hu) (fun a o _ e=>h _ _ e) hb),r.pin⟩
theorem jn.mv(m:Mv F H F' H'):∀ {fl:Fl},jn M G F0 H F DE fl→jn M G F0 H' F' DE fl
 |.next _,h=>fun B1 H2 F2 m2 r=>h B1 H2 F2 (m.trans m2) r
 |.brk _,h=>fun B1 H2 F2 m2 r=>h B1 H2 F2 (m.trans m2) r
 |.cont _,h=>fun B1 H2 F2 m2 r=>h B1 H2 F2 (m.trans m2) r
 |.ret _,h=>fun B1 H2 F2 m2 a b r=>h B1 H2 F2 (m.trans m2) a b r
 |.d8 _,h=>fun p H2 F2 xs ds e m2 a b c r=>h p H2 F2 xs ds e (m.trans m2) a b c r
 |.eO _,h=>fun v H2 F1 F2 as m2 a b c d e r=>h v H2 F1 F2 as (m.trans m2) a b c d e r
theorem nE:cS X [] (aL []):=fun F0=>qV L2.rT fun D σ H ⟨ρ,F,fl,r,e,q⟩=>by
 cases e;exact q σ H F Mv.refl r
theorem vE:cS X [] cv:=nE
theorem zZ{f g:Sm}{t u:TS}(hf:∀D σ H,eV M G F0 f D σ H→t D σ H)(hg:∀D σ H,eV M G F0 g D σ H→u D σ H)(D:Ends)(σ:L2.St)(H:Hp)(h:eV M G F0 (oV f g) D σ H):L2.qf t u D σ H:=by
 obtain⟨ρ,F,fl,r,e,q⟩:=h;obtain⟨f1,e1,e⟩:=ak.mp e;refine hf _ _ _ ⟨ρ,F,f1,r,e1,?_⟩;cases f1 with
 |next CJ=>exact fun GB H1 F1 m1 r1=>hg D GB H1 ⟨CJ,F1,fl,r1,e,q.mv m1⟩
 |ret d=>cases e;exact q
 |brk d=>cases e;exact q
 |cont d=>cases e;exact q
 |d8 d=>cases e;exact q
 |eO d=>cases e;exact q
theorem xN{st:Stmt}{rest:List Stmt}{f:Sm}{fs:List Sm}(h1:JS X st f)(h2:cS X rest (aL fs)):cS X (st::rest) (aL (f::fs)):=fun F0=>
 qV (L2.tK (h1 F0) (h2 F0)) fun D σ H h=>zZ (fun _ _ _ h=>h) (fun _ _ _ h=>h) D σ H h
theorem u9{st:Stmt}{f:Sm}(h:JS X st f):cS X [st] f:=fun F0=>L2.sI (h F0)
theorem uq{c:Expr}{a b:List Stmt}{fc:aF}{fa fb:Sm}(hc:JT X c fc)(ha:cS X a fa)(hb:cS X b fb):JS X (.If c a b pos) (b7 fc fa fb):=fun F0=>
 fj (L2.ya hc (ha F0) (hb F0)) fun D σ H ⟨ρ,F,fl,r,e,q⟩=>by
   obtain⟨t,et,e⟩:=ak.mp e;refine⟨ρ,F,t,r.rs,et,fun H1 s1=>?_⟩;split at e
   ·rename_i h;rw[if_pos h];exact⟨ρ,F,fl,r.same s1,e,q.mv (.same s1)⟩
   ·rename_i h;rw[if_neg h];exact⟨ρ,F,fl,r.same s1,e,q.mv (.same s1)⟩
theorem AY{a:Expr}{fa:Ex}(ha:JE X a fa):JS X (.Return (some a) pos) (bb fa):=fun F0=>
 fj (L2.zE ha) fun D σ H ⟨ρ,F,fl,r,e,q⟩=>by
   obtain⟨d,ed,e⟩:=ak.mp e;cases e;exact⟨ρ,F,d,r.rs,ed,fun v H1 s1 rv=>q v H1 F (.same s1) (r.sm.trans s1) r.sub rv⟩
theorem zq{st:Stmt}:JS X st lI:=fun F0=>fj L2.w8 fun D σ H ⟨ρ,F,fl,r,e,q⟩=>by cases e
def mN(M:Md)(G:Hp)(F0:Gf)(g:bj):TG:=fun v σ H Q=>∃ρ F d ρ',aK M G F0 H F σ ρ∧Rep M H F d v∧g d ρ=.ok ρ'∧∀B1,aK M G F0 H F B1 ρ'→Q B1 H
noncomputable def kO(M:Md)(G:Hp)(F0:Gf)(g:List D→En→R En):L2.d6:=fun vs σ H Q=>∃ρ F ds ρ',aK M G F0 H F σ ρ∧ab M H F ds vs∧g ds ρ=.ok ρ'∧∀B1,aK M G F0 H F B1 ρ'→Q B1 H
abbrev JG(X:Cx)(e:Expr)(g:bj):Prop:=∀F0,PG X e (mN (ai X) F0.g F0 g)
abbrev iD(X:Cx)(es:List Expr)(g:List D→En→R En):Prop:=∀F0,b5 X es (kO (ai X) F0.g F0 g)
theorem nI{X:Cx}{e:Expr}{t t':TG}(h:PG X e t')(hi:∀v σ H Q,t v σ H Q→t' v σ H Q):PG X e t:=fun pins s σ H x u Q I rx q=>h pins s σ H x u Q I rx (hi x σ H Q q)
theorem qF{X:Cx}{e:List Expr}{t t':L2.d6}(h:b5 X e t')(hi:∀v σ H Q,t v σ H Q→t' v σ H Q):b5 X e t:=fun pins s σ H x u Q I rx q=>h pins s σ H x u Q I rx (hi x σ H Q q)
theorem bq.dS{ρ:En}{i j:Nat}{d:D}(h:bq (ρ.set i (.sh d)) j):i≠j∧bq ρ j:=by
 rcases h with⟨ds,q⟩|⟨ks,ds,q⟩
 · rcases get_set q with⟨_,x,_⟩|⟨B5,q⟩
   ·cases x
   ·exact⟨B5,.inl ⟨ds,q⟩⟩
 · rcases get_set q with⟨_,x,_⟩|⟨B5,q⟩
   ·cases x
   ·exact⟨B5,.inr ⟨ks,ds,q⟩⟩
theorem aK.kX{i:Nat}{d:D}{v:V}(r:aK M G F0 H F σ ρ)(h:Rep M H F d v):aK M G F0 H F (σ.set i (some v)) (ρ.set i (.sh d)) where
 rs:=r.rs.kX h
 sm:=r.sm
 sub:=r.sub
 eu:=r.eu
 own j a o e:=by
   obtain⟨ne,o⟩:=o.dS;rw[List.getElem?_set_ne ne]at e;exact r.own j a o e
 fG j B7 b e hb:=by
   rcases get_set e with⟨_,x,_⟩|⟨B5,e⟩
   ·cases x
   ·exact r.fG j B7 b e (r.rs.on.back (fun y ey=>by rw[List.getElem?_set_ne B5]at ey;exact ey) (List.getElem?_set_ne B5) (fun a u _ _ hu=>hu) (fun _ _ _ e=>e) hb)
 pin:=r.pin.set fun _ h=>nomatch h
theorem xB(i:Nat){x:Str}(hN:X.N.Nodup)(hi:X.N[i]? =some x:=by rfl)(hx:L2.Loc X.env.scope x:=by exact Or.inl rfl)(hf:X.fn x=true∨X.env.scope.names.lookup x=some .local:=by first|exact .inl rfl|exact .inr rfl):JG X (.Name x pos) (aC i):=fun F0=>
 nI (L2.tF hN hi hx hf) fun v σ H Q ⟨ρ,F,d,ρ',r,rv,e,q⟩=>by
   cases e;exact q _ (r.kX rv)
theorem tS:iD X [] (cq []):=fun F0=>
 qF L2.xQ fun vs σ H Q ⟨ρ,F,ds,ρ',r,rv,e,q⟩=>by
   cases ds with
   |nil=>cases e;simp only[ab]at rv;exact⟨rv,q _ r⟩
   |cons _ _=>cases e
theorem uF{is:List Nat}{i:Nat}{t:TG}{u:L2.d6}(ht:∀v σ H Q,mN M G F0 (aC i) v σ H Q→t v σ H Q)(hu:∀v σ H Q,kO M G F0 (cq is) v σ H Q→u v σ H Q)(vs:List V)(σ:L2.St)(H:Hp)(Q:L2.St→Hp→Prop)
   (h:kO M G F0 (cq (i::is)) vs σ H Q):L2.ql t u vs σ H Q:=by
 obtain⟨ρ,F,ds,ρ',r,rv,e,q⟩:=h;cases ds with
 |nil=>cases e
 | cons d ds=>
   simp only[ab]at rv;obtain⟨x,xs,rfl,rx,KJ⟩:=rv;refine⟨x,xs,rfl,ht _ _ _ _ ⟨ρ,F,d,_,r,rx,rfl,fun GB r1=>hu _ _ _ _ ⟨_,F,ds,ρ',r1,KJ,e,q⟩⟩⟩
theorem wz(i:Nat){is:List Nat}{e:Expr}{es:List Expr}(h1:JG X e (aC i))(h2:iD X es (cq is))(hs:(assignEach (e::es) X.env).map (·.2)=assign e X.env::(assignEach es X.env).map (·.2):=by rfl):iD X (e::es) (cq (i::is)):=fun F0=>
 qF (L2.y3 (h1 F0) (h2 F0) hs) fun vs σ H Q h=>uF (fun _ _ _ _ h=>h) (fun _ _ _ _ h=>h) vs σ H Q h
theorem rM:∀ {is:List Nat} {ds:List D} {ρ ρ':En},cq is ds ρ=.ok ρ'→ds.length=is.length
 |[],[],_,_,_=>rfl
 |_::_,_::_,_,_,h=>by simp only[cq]at h;simp[rM h]
 |[],_::_,_,_,h=>by cases h
 |_::_,[],_,_,h=>by cases h
theorem vq{is:List Nat}{es:List Expr}{k:Nat}(hc:X.calm=true)(h:iD X es (cq is))(hn:(assignEach es X.env).length=is.length:=by rfl)(D5:(assignEach es X.env).findIdx? (·.1)=none:=by rfl):JG X (.Tuple es k pos) (dn is):=fun F0=>
 nI (L2.Ax hc (h F0) hn D5) fun v σ H Q ⟨ρ,F,d,ρ',r,rv,e,q⟩=>by
   unfold dn at e;split at e
   · rename_i ds
     simp only[Rep]at rv;obtain⟨a,xs,rfl,h1,rs⟩:=rv;exact⟨a,xs,rfl,h1.sq,by rw[←rs.length];exact rM e,ρ,F,ds,ρ',r,rs,e,q⟩
   ·cases e
theorem xl{tg e:Expr}{fa:Ex}{g:bj}(ha:JE X e fa)(hg:JG X tg g)(hs:swapsWithSole [tg] e pos.line X.env=pure false:=by rfl)(hw:swappedStores [tg] e X.env=pure none:=by rfl)(h1:(assignEach [tg] X.env).map (·.2)=[assign tg X.env]:=by rfl):JS X (.Assign [tg] e pos) (aP g fa):=fun F0=>
 fj (L2.zg ha (hg F0) hs hw h1) fun D σ H ⟨ρ,F,fl,r,e,q⟩=>by
   obtain⟨d,ed,e⟩:=ak.mp e;obtain⟨ρ',eg,e⟩:=ak.mp e;cases e;exact⟨ρ,F,d,r.rs,ed,fun v H1 s1 rv=>⟨ρ,F,d,ρ',r.same s1,rv,eg,fun B1 r'=>q B1 H1 F (.same s1) r'⟩⟩
def Gives(M:Md)(J:L2.It)(H1:Hp)(F1:Addr→Prop)(ds:List D):Prop:=∀H F,Mv F1 H1 F H→(∀p,F p→∃o,H p=some o)→
 (∀i d,ds[i]? =some d→J.go i H∧∀x H',J.ip i H x H'→ae H H'∧Rep M H' F d x)∧J.stop ds.length H
def AK(M:Md)(f:En→R (List D)):TI:=fun σ H Rr=>∃ρ F ds,aM M H F σ ρ∧f ρ=.ok ds∧∀J H',ae H H'→Gives M J H' F ds→Rr J H'
abbrev JI(X:Cx)(tg e:Expr)(f:bg):Prop:=L2.PI X tg e (AK (ai X) f)
theorem jZ{X:Cx}{tg e:Expr}{t t':TI}(h:L2.PI X tg e t')(hi:∀σ H Q,t σ H Q→t' σ H Q):L2.PI X tg e t:=fun pins s σ H Q I q=>h pins s σ H Q I (hi σ H Q q)
theorem zy{J:L2.It}{tg:bj}{body:Sm}{g:TG}{tb:TS}(hg:∀v σ H Q,mN M G F0 tg v σ H Q→g v σ H Q)(hb:∀D σ H,eV M G F0 body D σ H→tb D σ H)
   {H1:Hp} {F1:Addr→Prop} {ds:List D} (gv:Gives M J H1 F1 ds) {ρ:En} (r:aK M G F0 H1 F1 σ ρ) {fl:Fl} (e:forL tg body ds ρ=.ok fl) (q:jn M G F0 H1 F1 DE fl):
   ∃W:Nat→Nat→L2.St→Hp→Prop,(∃m,W 0 m σ H1)∧∀i m σ H,W i m σ H→
     (J.stop i H∧DE.nx σ H)∨(J.go i H∧∃N:L2.St→Hp→Prop,(∀B1 H',N B1 H'→∃m',m'<m∧W (i+1) m' B1 H')∧∀x H',J.ip i H x H'→g x σ H' fun Gw H2=>tb {DE with nx:=N,ct:=N,bk:=DE.nx} Gw H2):=by
 refine⟨fun i m σ H=>m=ds.length - i∧i≤ds.length∧∃ρ F,Mv F1 H1 F H∧aK M G F0 H F σ ρ∧forL tg body (ds.drop i) ρ=.ok fl,⟨ds.length,by simp,Nat.zero_le _,ρ,F1,Mv.refl,r,e⟩,?_⟩
 rintro i m σ H ⟨rfl,hi,ρ,F,mv,r,e⟩;obtain⟨g1,g2⟩:=gv H F mv r.rs.aN;by_cases Cv:i<ds.length
 · refine .inr ⟨(g1 i ds[i] (by simp[Cv])).1,fun B1 H'=>i+1≤ds.length∧∃ρ F,Mv F1 H1 F H'∧aK M G F0 H' F B1 ρ∧forL tg body (ds.drop (i+1)) ρ=.ok fl,fun B1 H' p'=>⟨ds.length - (i+1),by omega,rfl,p'.1,p'.2⟩,fun x H' y=>?_⟩
   obtain⟨s1,rx⟩:=(g1 i ds[i] (by simp[Cv])).2 x H' y
   rw[List.drop_eq_getElem_cons Cv]at e;unfold forL at e;obtain⟨CJ,e1,e⟩:=ak.mp e;obtain⟨f,e2,e⟩:=ak.mp e;refine hg _ _ _ _ ⟨ρ,F,ds[i],CJ,r.same s1,rx,e1,fun Gw r2=>hb _ _ _ ⟨CJ,F,f,r2,e2,?_⟩⟩;have EH:Mv F1 H1 F H':=mv.trans (.same s1);cases f with
   |next CY=>exact fun Ek H3 F3 m3 r3=>⟨Cv,CY,F3,EH.trans m3,r3,e⟩
   |cont CY=>exact fun Ek H3 F3 m3 r3=>⟨Cv,CY,F3,EH.trans m3,r3,e⟩
   |brk CY=>cases e;exact fun Ek H3 F3 m3 r3=>q Ek H3 F3 (EH.trans m3) r3
   |ret d=>cases e;exact fun v H3 F3 m3 a b rv=>q v H3 F3 (EH.trans m3) a b rv
   |d8 d=>cases e;exact fun p H3 F3 xs ds e m3 a b c rv=>q p H3 F3 xs ds e (EH.trans m3) a b c rv
   |eO d=>cases e;exact fun v H3 F3 F4 as m3 a b c d e rv=>q v H3 F3 F4 as (EH.trans m3) a b c d e rv
 · have ei:i=ds.length:=by omega
   subst ei;rw[List.drop_length]at e;cases e;exact .inl ⟨g2,q σ H F mv r⟩
theorem zX{tg iter:Expr}{body:List Stmt}{it:bg}{g:bj}{f:Sm}(hp:PassesOwn (model X.prog X.w) X.A X.env X.xe)(hc:X.calm=true)(hi:JI X tg iter it)(hg:JG X tg g)(hb:cS X body f)
   (hs:∀x,foldedSetIterable iter X.env x=pure x:=by intro _;rfl):JS X (.For tg iter body [] pos) (d3 it g f):=fun F0=>
 fj (L2.rW hp hc hi (hg F0) (hb F0) hs) fun D σ H ⟨ρ,F,fl,r,e,q⟩=>by
   obtain⟨ds,ed,e⟩:=ak.mp e;exact⟨ρ,F,ds,r.rs,ed,fun J H1 s1 gv=>zy (fun _ _ _ _ h=>h) (fun _ _ _ h=>h) gv (r.same s1) e (q.mv (.same s1))⟩
theorem yo{a:Addr}{xs:List V}{ds:List D}(h:eB M H F a xs)(rs:ab M H F ds xs):Gives M (L2.i7 M.K a) H F ds:=by
 intro H' F' mv tr;have h':=h.mv mv;have Fs:=rs.mv mv;refine⟨fun i d hd=>?_,?_⟩
 · obtain⟨x,hx,rx⟩:=Fs.get hd
   refine⟨⟨xs,x,h'.sq,hx⟩,fun y H2 hy=>?_⟩;obtain⟨rfl,hy⟩:=hy;have:=hy xs h'.sq;rw[hx]at this;cases this;exact⟨ae.refl _,rx⟩
 ·exact⟨xs,h'.sq,by rw[rs.length];exact Nat.le_refl _⟩
theorem xh{a:Addr}{xs:List V}{ds:List D}(h:dX M H F a xs)(rs:ab M H F ds xs):Gives M (L2.iW M.K a) H F ds:=by
 intro H' F' mv tr;have h':=h.mv mv;have Fs:=rs.mv mv;refine⟨fun i d hd=>?_,?_⟩
 · obtain⟨x,hx,rx⟩:=Fs.get hd
   refine⟨⟨xs,x,h'.sq,hx⟩,fun y H2 hy=>?_⟩;obtain⟨rfl,hy⟩:=hy;have:=hy xs h'.sq;rw[hx]at this;cases this;exact⟨ae.refl _,rx⟩
 ·exact⟨xs,h'.sq,by rw[rs.length];exact Nat.le_refl _⟩
theorem pH{lo hi:Int}:Gives M (L2.bg lo (hi - lo).toNat) H F (bF lo hi):=by
 intro H' F' mv tr;refine⟨fun i d hd=>?_,?_⟩
 · unfold bF at hd
   rw[List.getElem?_map]at hd;cases e:(List.range (hi - lo).toNat)[i]? with
   |none=>rw[e]at hd;cases hd
   | some k=>
     rw[e]at hd;obtain⟨Cv,hk⟩:=List.getElem?_eq_some_iff.mp e;simp at hk Cv hd;subst hk hd;refine⟨show i<(hi - lo).toNat by omega,fun y H2 hy=>?_⟩
     obtain⟨rfl,rfl⟩:=hy;exact⟨ae.refl _,b0⟩
 · show(hi - lo).toNat≤(bF lo hi).length
   unfold bF;simp
@[simp] def BF:D→R (List D)
 |.tup xs=>.ok xs
 |_=>.bad
theorem mr{j:Int}(h:inR j=true): -(2 ^ 62)≤j∧j<2 ^ 62:=by
 unfold inR at h;rw[Bool.and_eq_true,decide_eq_true_eq,decide_eq_true_eq]at h;exact⟨by omega,by omega⟩
theorem wU{tg a:Expr}{fa:Ex}{p:Pos}(hg:L2.Gl X "range")(hm:X.mg "range"=none)(ha:JE X a fa)(hs:starEach [a] X.env=(false,eval a X.env)::starEach [] X.env:=by rfl):JI X tg (.Call (.Name "range" p) [a] [] pos) (eW fa):=
 jZ (L2.wK hg hm (dJ ha fS hs) hs) fun σ H Q ⟨ρ,F,ds,r,e,q⟩=>by
   obtain⟨d,ed,e⟩:=ak.mp e;refine⟨ρ,F,[d],r,by show(fa ρ).bind _=_;rw[ed];rfl,fun vs H1 s1 rv=>?_⟩
   obtain⟨x,rfl,rx⟩:=rv.one;split at e
   · split at e
     · rename_i j hj
       cases e;have hj:=mr hj;have:=q (L2.bg 0 j.toNat) H1 s1 (by have:=pH (M:=ai X) (H:=H1) (F:=F) (lo:=0) (hi:=j);rwa[Int.sub_zero]at this)
       exact⟨j,by rw[ba rx],hj.1,hj.2,this⟩
     ·cases e
   ·cases e
theorem xG{tg a b:Expr}{fa fb:Ex}{p:Pos}(hg:L2.Gl X "range")(hm:X.mg "range"=none)(ha:JE X a fa)(hb:JE X b fb)(hs:starEach [a,b] X.env=(false,eval a X.env)::starEach [b] X.env:=by rfl)(Cm:starEach [b] X.env=(false,eval b X.env)::starEach [] X.env:=by rfl):
   JI X tg (.Call (.Name "range" p) [a,b] [] pos) (gh fa fb):=
 jZ (L2.yG hg hm (dJ ha (dJ hb fS Cm) hs) (by rw[hs,Cm];rfl) Cm) fun σ H Q ⟨ρ,F,ds,r,e,q⟩=>by
   obtain⟨d,ed,e⟩:=ak.mp e;obtain⟨d2,Hu,e⟩:=ak.mp e;refine⟨ρ,F,[d,d2],r,by show(fa ρ).bind _=_;rw[ed];show((fb ρ).bind _).bind _=_;rw[Hu];rfl,fun vs H1 s1 rv=>?_⟩
   obtain⟨x,y,rfl,rx,ry⟩:=rv.two;split at e
   · split at e
     · rename_i i j _ hj
       cases e;rw[Bool.and_eq_true]at hj;have h1:=mr hj.1;have h2:=mr hj.2;exact⟨i,j,by rw[ba rx,ba ry],⟨h1.1,h1.2,h2.1,h2.2⟩,q _ H1 s1 pH⟩
     ·cases e
   ·cases e
noncomputable def eU(M:Md)(m:List D→R D)(n:Nat):L2.Sp:=fun vs H Q _=>∃F ds d,(∀p,F p→∃o,H p=some o)∧ab M H F ds vs∧ds.length=n∧m ds=.ok d∧∀v H',ae H H'→Rep M H' F d v→Q v H'
theorem Rep.sub(hs:∀a,F a→F' a){d:D}{v:V}(h:Rep M H F' d v):Rep M H F d v:=h.mv fun a o n e=>⟨fun f=>n (hs a f),e⟩
theorem vY{N:List Str}{n:Nat}{ds:List D}{vs:List V}(tr:∀p,F p→∃o,G p=some o)(rs:ab M G F ds vs)(hl:ds.length=n)(hn:n≤N.length):aK M G ⟨G,F,none⟩ G F (L2.start N vs) (ds.map Slot.sh++List.replicate (N.length - ds.length) .un):=by
 have Np:=rs.length
 have no:∀i,¬bq (ds.map Slot.sh++List.replicate (N.length - ds.length) .un) i:=by
   intro i hi
   have:∀s,(ds.map Slot.sh++List.replicate (N.length - ds.length) Slot.un)[i]? =some s→(∃d,s=.sh d)∨s=.un:=by
     intro s hs;rw[List.getElem?_append]at hs;split at hs
     · rw[List.getElem?_map]at hs
       cases e1:ds[i]? with
       |none=>rw[e1]at hs;cases hs
       |some d'=>rw[e1]at hs;cases hs;exact .inl ⟨_,rfl⟩
     · rw[List.getElem?_replicate]at hs
       split at hs<;>cases hs;exact .inr rfl
   rcases hi with⟨x,hx⟩|⟨k,x,hx⟩
   ·rcases this _ hx with⟨_,h⟩|h<;>cases h
   ·rcases this _ hx with⟨_,h⟩|h<;>cases h
 have aq:∀(i:Nat) B7,(ds.map Slot.sh++List.replicate (N.length - ds.length) Slot.un)[i]? ≠some (.on B7):=by
   intro i B7 hs;rw[List.getElem?_append]at hs;split at hs
   · rw[List.getElem?_map]at hs
     cases e1:ds[i]? with
     |none=>rw[e1]at hs;cases hs
     |some d'=>rw[e1]at hs;cases hs
   · rw[List.getElem?_replicate]at hs
     split at hs<;>cases hs
 refine⟨⟨?_,tr,?_,?_,?_,?_,.no aq⟩,ae.refl _,fun _ h=>h,tr,?_,fun i B7 b e=>absurd e (aq i B7),fun w hw=>nomatch hw⟩
 ·unfold L2.start;simp[Np]
 · intro i d hd
   rw[List.getElem?_append]at hd;split at hd
   · rw[List.getElem?_map]at hd
     cases e1:ds[i]? with
     |none=>rw[e1]at hd;cases hd
     | some d'=>
       rw[e1]at hd;cases hd;obtain⟨v,ev,rv⟩:=rs.get e1;refine⟨v,?_,rv⟩;unfold L2.start;rw[List.getElem?_append_left (by obtain⟨h,_⟩:=List.getElem?_eq_some_iff.mp ev;simpa using h),List.getElem?_map,ev];rfl
   · rw[List.getElem?_replicate]at hd
     split at hd<;>cases hd
 · intro i d hd
   rw[List.getElem?_append]at hd;split at hd
   · rw[List.getElem?_map]at hd
     cases e1:ds[i]? with
     |none=>rw[e1]at hd;cases hd
     |some d'=>rw[e1]at hd;cases hd
   · rw[List.getElem?_replicate]at hd
     split at hd<;>cases hd
 · intro i k d hd
   rw[List.getElem?_append]at hd;split at hd
   · rw[List.getElem?_map]at hd
     cases e1:ds[i]? with
     |none=>rw[e1]at hd;cases hd
     |some d'=>rw[e1]at hd;cases hd
   · rw[List.getElem?_replicate]at hd
     split at hd<;>cases hd
 · intro i j a oi
   exact absurd oi (no i)
 · intro i a oi
   exact absurd oi (no i)
theorem A4{N:List Str}{n:Nat}{body:Sm}{vs:List V}{Q:VK}{E:XK}{t:TS}(ht:∀(F0:Gf) D σ H,eV M F0.g F0 body D σ H→t D σ H)(h:eU M (fn N.length body) n vs G Q E)(hn:n≤N.length):t {nx:=fun _ H'=>Q .aq H',rt:=Q} (L2.start N vs) G:=by
 obtain⟨F,ds,d,tr,rs,hl,e,q⟩:=h;obtain⟨f,ef,e⟩:=ak.mp e;refine ht ⟨G,F,none⟩ _ _ _ ⟨_,F,f,vY tr rs hl hn,ef,?_⟩;cases f with
 |next ρ'=>cases e;exact fun B1 H' F' mv r'=>q _ _ r'.sm lu
 |ret d'=>cases e;exact fun v H' F' mv sm sub rv=>q _ _ sm (rv.sub sub)
 |brk _=>cases e
 |cont _=>cases e
 |d8 _=>cases e
 |eO _=>cases e
theorem ab.sub(hs:∀a,F a→F' a){d:List D}{v:List V}(h:ab M H F' d v):ab M H F d v:=h.mv fun a o n e=>⟨fun f=>n (hs a f),e⟩
end
section
variable{X:Cx}{M:Md}{G H H':Hp}{F0:Gf}{F F':Addr→Prop}{σ:L2.St}{ρ:En}{pos:Pos}{DE:Ends}
def Own(M:Md)(H:Hp)(F:Addr→Prop)(s:Slot)(o:HO):Prop:=
 (∃ds xs,s=.ol ds∧o=.lst xs∧ab M H F ds xs)∨∃ks ds xs,s=.od ks ds∧o=.dK (ks.zip xs)∧ks.length=xs.length∧ab M H F ds xs
theorem Own.oa{s:Slot}{o:HO}(h:Own M H F s o):∀t,s≠.on (.tr t):=fun t e=>by
 rcases h with⟨ds,xs,rfl,_⟩|⟨ks,ds,xs,rfl,_⟩<;>cases e
theorem Own.mv{s:Slot}{o:HO}(m:Mv F H F' H')(h:Own M H F s o):Own M H' F' s o:=by
 rcases h with⟨ds,xs,e1,e2,r⟩|⟨ks,ds,xs,e1,e2,l,r⟩
 ·exact .inl ⟨ds,xs,e1,e2,r.mv m⟩
 ·exact .inr ⟨ks,ds,xs,e1,e2,l,r.mv m⟩
theorem aM.ownAt(r:aM M H F σ ρ){i:Nat}(o:bq ρ i):∃a s u,ρ[i]? =some s∧σ[i]? =some (some (.ref a))∧F a∧H a=some u∧Own M H F s u:=by
 rcases o with⟨ds,q⟩|⟨ks,ds,q⟩
 · obtain⟨a,xs,h1,h2,h3,h4⟩:=r.ol i ds q
   exact⟨a,_,_,q,h1,h2,h3,.inl ⟨ds,xs,rfl,rfl,h4⟩⟩
 · obtain⟨a,xs,h1,h2,h3,h4,h5⟩:=r.od i ks ds q
   exact⟨a,_,_,q,h1,h2,h3,.inr ⟨ks,ds,xs,rfl,rfl,h4,h5⟩⟩
theorem hV{i j:Nat}{s:Slot}(h:bq (ρ.set i s) j):j=i∨(i≠j∧bq ρ j):=by
 rcases h with⟨ds,q⟩|⟨ks,ds,q⟩
 · rcases get_set q with⟨h,_,_⟩|⟨B5,q⟩
   ·exact .inl h.symm
   ·exact .inr ⟨B5,.inl ⟨ds,q⟩⟩
 · rcases get_set q with⟨h,_,_⟩|⟨B5,q⟩
   ·exact .inl h.symm
   ·exact .inr ⟨B5,.inr ⟨ks,ds,q⟩⟩
theorem aM.put{i:Nat}{a:Addr}{s:Slot}{o:HO}(r:aM M H F σ ρ)(mv:Mv F H F' H')(hF:∀b,F b→F' b)(ha:F' a)(ho:H' a=some o)(hk:∀b u,F b→b≠a→H b=some u→H' b=some u)(K7:∀b,F' b→F b∨b=a)
   (hn:∀j,j≠i→bq ρ j→σ[j]? ≠some (some (.ref a))) (Ko:∀(j:Nat) B7 b,j≠i→ρ[j]? =some (.on B7)→dC M H F σ ρ j b→b≠a) (own:Own M H' F' s o):aM M H' F' (σ.set i (some (.ref a))) (ρ.set i s) where
 len:=by simp[r.len]
 aN b f:=by
   by_cases e:b=a
   ·subst e;exact⟨o,ho⟩
   · rcases K7 b f with f|f
     · obtain⟨u,hu⟩:=r.aN b f
       exact⟨u,hk b u f e hu⟩
     ·exact absurd f e
 sh j d q:=by
   rcases get_set q with⟨rfl,hx,hl⟩|⟨B5,q⟩
   ·rcases own with⟨ds,xs,rfl,_⟩|⟨ks,ds,xs,rfl,_⟩<;>cases hx
   · obtain⟨w,e1,g⟩:=r.sh j d q
     exact⟨w,by rw[List.getElem?_set_ne B5];exact e1,g.mv mv⟩
 ol j d q:=by
   rcases get_set q with⟨rfl,x,hl⟩|⟨B5,q⟩
   · rcases own with⟨ds,xs,rfl,rfl,rs⟩|⟨ks,ds,xs,rfl,_⟩
     · cases x
       exact⟨a,xs,by rw[List.getElem?_set_self (by rw[←r.len];exact hl)],ha,ho,rs⟩
     ·cases x
   · obtain⟨b,xs,e1,f,e2,g⟩:=r.ol j d q
     refine⟨b,xs,by rw[List.getElem?_set_ne B5];exact e1,hF _ f,hk _ _ f ?_ e2,g.mv mv⟩
     rintro rfl;exact hn j (Ne.symm B5) (.inl ⟨_,q⟩) e1
 od j k d q:=by
   rcases get_set q with⟨rfl,x,hl⟩|⟨B5,q⟩
   · rcases own with⟨ds,xs,rfl,_⟩|⟨ks,ds,xs,rfl,rfl,l,rs⟩
     ·cases x
     · cases x
       exact⟨a,xs,by rw[List.getElem?_set_self (by rw[←r.len];exact hl)],ha,ho,l,rs⟩
   · obtain⟨b,xs,e1,f,e2,l,g⟩:=r.od j k d q
     refine⟨b,xs,by rw[List.getElem?_set_ne B5];exact e1,hF _ f,hk _ _ f ?_ e2,l,g.mv mv⟩
     rintro rfl;exact hn j (Ne.symm B5) (.inr ⟨_,_,q⟩) e1
 bO j k b oj ok ej ek:=by
   have self:∀c,(σ.set i (some (.ref a)))[i]? =some (some (.ref c))→c=a:=fun c h=>by
     rw[List.getElem?_set_self']at h;cases hq:σ[i]? with
     |none=>rw[hq]at h;cases h
     |some z=>rw[hq]at h;cases h;rfl
   rcases hV oj with hj|⟨nj,oj⟩
   · rcases hV ok with Dv|⟨nk,ok⟩
     ·rw[hj,Dv]
     · rw[hj]at ej
       rw[List.getElem?_set_ne nk]at ek;cases self _ ej;exact absurd ek (hn k (Ne.symm nk) ok)
   · rw[List.getElem?_set_ne nj]at ej
     rcases hV ok with Dv|⟨nk,ok⟩
     · rw[Dv]at ek
       cases self _ ek;exact absurd ej (hn j (Ne.symm nj) oj)
     · rw[List.getElem?_set_ne nk]at ek
       exact r.bO j k b oj ok ej ek
 on:=by
   have old:∀(j:Nat) B7,(ρ.set i s)[j]? =some (.on B7)→i≠j∧ρ[j]? =some (.on B7):=fun j B7 e=>by
     rcases get_set e with⟨_,x,_⟩|⟨B5,e⟩
     ·rcases own with⟨ds,xs,rfl,_⟩|⟨ks,ds,xs,rfl,_⟩<;>cases x
     ·exact⟨B5,e⟩
   refine r.on.mv mv (fun j B7 e=>⟨(old j B7 e).2,List.getElem?_set_ne (old j B7 e).1⟩) (fun j B7 b u e hb f hu=>⟨hF b f,hk b u f (Ko j B7 b (Ne.symm (old j B7 e).1) (old j B7 e).2 hb) hu⟩) fun j B7 b e hb k ok=>?_;obtain⟨B5,e0⟩:=old j B7 e;rcases hV ok with rfl|⟨nk,ok⟩
   · intro h
     rw[List.getElem?_set_self']at h;cases hq:σ[k]? with
     |none=>rw[hq]at h;cases h
     |some z=>rw[hq]at h;cases h;exact Ko j B7 _ (Ne.symm B5) e0 hb rfl
   · rw[List.getElem?_set_ne nk]
     exact(r.on j B7 e0).2.1 b hb k ok
theorem aK.new{i:Nat}{p:Addr}{s:Slot}{o:HO}(r:aK M G F0 H F σ ρ)(hp:H p=none)(own:Own M H F s o):
   Mv F H (fun b=>F b∨b=p) (upd H p o)∧aK M G F0 (upd H p o) (fun b=>F b∨b=p) (σ.set i (some (.ref p))) (ρ.set i s):=by
 have ne:∀b u,H b=some u→b≠p:=fun b u e z=>by subst z;rw[hp]at e;cases e
 have mv:Mv F H (fun b=>F b∨b=p) (upd H p o):=fun b u n e=>⟨fun h=>h.elim n (ne b u e),by rw[L2.aE (ne b u e)];exact e⟩
 have hG:G p=none:=r.sm.free hp
 refine⟨mv,⟨r.rs.put mv (fun _ h=>.inl h) (.inr rfl) L2.b6 (fun b u _ n e=>by rw[L2.aE n];exact e) (fun _ h=>h) (fun j _ oj e=>?_) (fun j B7 b _ e hb z=>by
     obtain⟨_,xs,hx⟩:=da.f hb;exact ne b _ hx z) (own.mv mv),fun b u e=>by rw[L2.aE (ne b u (r.sm b u e))];exact r.sm b u e,fun b h=>.inl (r.sub b h),r.eu,fun j a oj e=>?_,fun j B7 b e hb=>?_,r.pin.set own.oa⟩⟩
 · obtain⟨a,_,u,_,e1,_,e2,_⟩:=r.rs.ownAt oj
   rw[e1]at e;cases e;exact ne _ _ e2 rfl
 · rcases hV oj with rfl|⟨nj,oj⟩
   · rw[List.getElem?_set]at e
     split at e
     · split at e
       ·cases e;exact hG
       ·cases e
     ·rename_i h;exact absurd rfl h
   · rw[List.getElem?_set_ne nj]at e
     exact r.own j a oj e
 · rcases get_set e with⟨_,x,_⟩|⟨B5,e⟩
   ·rcases own with⟨ds,xs,rfl,_⟩|⟨ks,ds,xs,rfl,_⟩<;>cases x
   ·exact r.fG j B7 b e (r.rs.on.back (fun y ey=>by rw[List.getElem?_set_ne B5]at ey;exact ey) (List.getElem?_set_ne B5) (fun a u _ _ hu=>by rw[L2.aE (ne a u hu)];exact hu) (fun a u _ hu=>by rw[L2.aE (ne a u hu)];exact hu) hb)
theorem aK.chg{i:Nat}{a:Addr}{s:Slot}{o:HO}(r:aK M G F0 H F σ ρ)(oi:bq ρ i)(ei:σ[i]? =some (some (.ref a)))(own:Own M H F s o):
   Mv F H F (upd H a o)∧aK M G F0 (upd H a o) F σ (ρ.set i s):=by
 obtain⟨a',_,u,_,e1,fa,e2,_⟩:=r.rs.ownAt oi;rw[ei]at e1;cases e1;have mv:Mv F H F (upd H a o):=fun b v n e=>⟨n,by rw[L2.aE (fun z=>by subst z;exact n fa)];exact e⟩
 have hG:=r.own i a oi ei
 have hs:σ.set i (some (.ref a))=σ:=by
   obtain⟨hl,h⟩:=List.getElem?_eq_some_iff.mp ei;rw[←h];exact List.set_getElem_self hl
 have key:=r.rs.put (i:=i) mv (fun _ h=>h) fa L2.b6 (fun b u _ n e=>by rw[L2.aE n];exact e) (fun _ h=>.inl h) (fun j nj oj e=>nj (r.rs.bO j i a oj oi e ei)) (fun j B7 b _ e hb z=>by subst z;exact(r.rs.on j B7 e).2.1 _ hb i oi ei) (own.mv mv)
 rw[hs]at key;refine⟨mv,⟨key,fun b u e=>by rw[L2.aE (fun z=>by subst z;rw[hG]at e;cases e)];exact r.sm b u e,r.sub,r.eu,fun j b oj e=>?_,fun j B7 b e hb=>?_,r.pin.lO own.oa⟩⟩
 · rcases hV oj with rfl|⟨nj,oj⟩
   ·rw[ei]at e;cases e;exact hG
   ·exact r.own j b oj e
 · rcases get_set e with⟨_,x,_⟩|⟨B5,e⟩
   ·rcases own with⟨ds,xs,rfl,_⟩|⟨ks,ds,xs,rfl,_⟩<;>cases x
   · refine r.fG j B7 b e (r.rs.on.back (fun y ey=>by rw[List.getElem?_set_ne B5]at ey;exact ey) rfl (fun c u hc _ hu=>?_) (fun a' u n hu=>(mv a' u n hu).2) hb)
     rw[L2.aE (fun z=>by subst z;exact(r.rs.on j B7 e).2.1 _ hc i oi ei)];exact hu
theorem pk{i:Nat}{a:Addr}{d:D}(r:da M H F σ ρ)(oi:bq ρ i)(ei:σ[i]? =some (some (.ref a)))(mv:Mv F H F' H)(hF:∀b,F b→b≠a→F' b):da M H F' σ (ρ.set i (.sh d)):=by
 have old:∀(j:Nat) B7,(ρ.set i (.sh d))[j]? =some (.on B7)→ρ[j]? =some (.on B7):=fun j B7 e=>by
   rcases get_set e with⟨_,x,_⟩|⟨B5,e⟩
   ·cases x
   ·exact e
 refine r.mv mv (fun j B7 e=>⟨old j B7 e,rfl⟩) (fun j B7 b u e hb f hu=>⟨hF b f fun z=>?_,hu⟩) fun j B7 b e hb k ok=>(r j B7 (old j B7 e)).2.1 b hb k ok.dS.2;subst z;exact(r j B7 (old j B7 e)).2.1 _ hb i oi ei
theorem aK.A5{i:Nat}{a:Addr}{s:Slot}{d:D}(r:aK M G F0 H F σ ρ)(oi:bq ρ i)(es:ρ[i]? =some s)(ei:σ[i]? =some (some (.ref a)))(hd:∃ds,s=.ol ds∧d=.lst ds):
   ∃F',(F'=fun b=>F b∧b≠a)∧Mv F H F' H∧aK M G F0 H F' σ (ρ.set i (.sh d)):=by
 obtain⟨a',s',u,Ec,e1,fa,e2,ow⟩:=r.rs.ownAt oi;rw[ei]at e1;cases e1;rw[es]at Ec;cases Ec;have hG:=r.own i a oi ei;have mv:Mv F H (fun b=>F b∧b≠a) H:=fun b v n e=>⟨fun h=>n h.1,e⟩
 have E5:Rep M H (fun b=>F b∧b≠a) d (.ref a):=by
   obtain⟨ds,rfl,rfl⟩:=hd;rcases ow with⟨FK,xs,h1,rfl,rs⟩|⟨ks,ds,xs,h1,_⟩
   · cases h1
     simp only[Rep];exact⟨a,xs,rfl,.inl ⟨fun h=>h.2 rfl,.inl e2⟩,rs.mv mv⟩
   ·cases h1
 refine⟨fun b=>F b∧b≠a,rfl,mv,⟨⟨by simp[r.rs.len],fun b h=>r.rs.aN b h.1,?_,?_,?_,?_,?_⟩,r.sm,fun b h=>⟨r.sub b h,fun z=>by subst z;obtain⟨o,e⟩:=r.eu _ h;rw[hG]at e;cases e⟩,r.eu,?_,?_,r.pin.lO fun _ h=>nomatch h⟩⟩
 · intro j e q
   rcases get_set q with⟨rfl,hx,hl⟩|⟨B5,q⟩
   · cases hx
     exact⟨_,ei,E5⟩
   · obtain⟨w,e1,g⟩:=r.rs.sh j e q
     exact⟨w,e1,g.mv mv⟩
 · intro j e q
   rcases get_set q with⟨rfl,x,hl⟩|⟨B5,q⟩
   ·cases x
   · obtain⟨b,xs,e1,f,e3,g⟩:=r.rs.ol j e q
     exact⟨b,xs,e1,⟨f,fun z=>by subst z;exact B5 (r.rs.bO i j _ oi (.inl ⟨_,q⟩) ei e1)⟩,e3,g.mv mv⟩
 · intro j k e q
   rcases get_set q with⟨rfl,x,hl⟩|⟨B5,q⟩
   ·cases x
   · obtain⟨b,xs,e1,f,e3,l,g⟩:=r.rs.od j k e q
     exact⟨b,xs,e1,⟨f,fun z=>by subst z;exact B5 (r.rs.bO i j _ oi (.inr ⟨_,_,q⟩) ei e1)⟩,e3,l,g.mv mv⟩
 · intro j k b oj ok ej ek
   exact r.rs.bO j k b oj.dS.2 ok.dS.2 ej ek
 ·exact pk r.rs.on oi ei mv (fun b f n=>⟨f,n⟩)
 · intro j b oj e
   exact r.own j b oj.dS.2 e
 · intro j B7 b e hb
   rcases get_set e with⟨_,x,_⟩|⟨B5,e⟩
   ·cases x
   ·exact r.fG j B7 b e (r.rs.on.back (fun y ey=>by rw[List.getElem?_set_ne B5]at ey;exact ey) rfl (fun c u _ _ hu=>hu) (fun _ _ _ e=>e) hb)
theorem aK.frz{i:Nat}{a:Addr}{s:Slot}{u:HO}{d:D}(r:aK M G F0 H F σ ρ)(oi:bq ρ i)(es:ρ[i]? =some s)(ei:σ[i]? =some (some (.ref a)))(hd:∃ds,s=.ol ds∧d=.lst ds):
   ∃F',Mv F H F' H∧aK M G F0 H F' σ (ρ.set i (.sh d)):=let⟨F',_,m,h⟩:=r.A5 oi es ei hd;⟨F',m,h⟩
theorem aK.vB{i:Nat}{ks:List Ky}{ds:List D}(r:aK M G F0 H F σ ρ)(es:ρ[i]? =some (.od ks ds)):∃a kvs,H a=some (.dK kvs)∧∀ob,∃F',(F'=fun b=>F b∧b≠a)∧Mv F H F' (upd H a (.frz ob (.dK kvs)))∧aK M G F0 (upd H a (.frz ob (.dK kvs))) F' σ (ρ.set i (.sh (.aV ks ds))):=by
 have oi:bq ρ i:=.inr ⟨_,_,es⟩;obtain⟨a,xs,ei,fa,e2,hl,rs⟩:=r.rs.od i ks ds es;refine⟨a,ks.zip xs,e2,fun ob=>?_⟩;have hG:=r.own i a oi ei;have ne:∀b,¬F b→b≠a:=fun b n z=>by subst z;exact n fa
 have mv:Mv F H (fun b=>F b∧b≠a) (upd H a (.frz ob (.dK (ks.zip xs)))):=fun b v n e=>⟨fun h=>n h.1,by rw[L2.aE (ne b n)];exact e⟩
 refine⟨fun b=>F b∧b≠a,rfl,mv,⟨⟨by simp[r.rs.len],fun b h=>?_,?_,?_,?_,?_,?_⟩,fun b u e=>by rw[L2.aE (fun z=>by subst z;rw[hG]at e;cases e)];exact r.sm b u e,fun b h=>⟨r.sub b h,fun z=>by subst z;obtain⟨o,e⟩:=r.eu _ h;rw[hG]at e;cases e⟩,r.eu,?_,?_,r.pin.lO fun _ h=>nomatch h⟩⟩
 · obtain⟨o,e⟩:=r.rs.aN b h.1
   exact⟨o,by rw[L2.aE h.2];exact e⟩
 · intro j e q
   rcases get_set q with⟨rfl,hx,hl⟩|⟨B5,q⟩
   · cases hx
     refine⟨_,ei,?_⟩;simp only[Rep];exact⟨a,xs,rfl,.inl ⟨fun h=>h.2 rfl,ob,L2.b6⟩,by assumption,rs.mv mv⟩
   · obtain⟨w,e1,g⟩:=r.rs.sh j e q
     exact⟨w,e1,g.mv mv⟩
 · intro j e q
   rcases get_set q with⟨rfl,x,hl⟩|⟨B5,q⟩
   ·cases x
   · obtain⟨b,ys,e1,f,e3,g⟩:=r.rs.ol j e q
     have hb:b≠a:=fun z=>by subst z;exact B5 (r.rs.bO i j _ oi (.inl ⟨_,q⟩) ei e1)
     exact⟨b,ys,e1,⟨f,hb⟩,by rw[L2.aE hb];exact e3,g.mv mv⟩
 · intro j k e q
   rcases get_set q with⟨rfl,x,hl⟩|⟨B5,q⟩
   ·cases x
   · obtain⟨b,ys,e1,f,e3,l,g⟩:=r.rs.od j k e q
     have hb:b≠a:=fun z=>by subst z;exact B5 (r.rs.bO i j _ oi (.inr ⟨_,_,q⟩) ei e1)
     exact⟨b,ys,e1,⟨f,hb⟩,by rw[L2.aE hb];exact e3,l,g.mv mv⟩
 · intro j k b oj ok ej ek
   exact r.rs.bO j k b oj.dS.2 ok.dS.2 ej ek
 · have old:∀(j:Nat) B7,(ρ.set i (.sh (.aV ks ds)))[j]? =some (.on B7)→ρ[j]? =some (.on B7):=fun j B7 e=>by
     rcases get_set e with⟨_,x,_⟩|⟨B5,e⟩
     ·cases x
     ·exact e
   refine r.rs.on.mv mv (fun j B7 e=>⟨old j B7 e,rfl⟩) (fun j B7 b u e hb f hu=>?_) fun j B7 b e hb k ok=>(r.rs.on j B7 (old j B7 e)).2.1 b hb k ok.dS.2;have Kb:b≠a:=fun z=>by subst z;exact(r.rs.on j B7 (old j B7 e)).2.1 _ hb i oi ei
   exact⟨⟨f,Kb⟩,by rw[L2.aE Kb];exact hu⟩
 · intro j b oj e
   exact r.own j b oj.dS.2 e
 · intro j B7 b e hb
   rcases get_set e with⟨_,x,_⟩|⟨B5,e⟩
   ·cases x
   · refine r.fG j B7 b e (r.rs.on.back (fun y ey=>by rw[List.getElem?_set_ne B5]at ey;exact ey) rfl (fun c u hc _ hu=>?_) (fun a' u n hu=>(mv a' u n hu).2) hb)
     rw[L2.aE (fun z=>by subst z;exact(r.rs.on j B7 e).2.1 _ hc i oi ei)];exact hu
theorem wc(i:Nat){rest:List Stmt}{fs:List Sm}(h:cS X rest (aL fs)):cS X rest (aL (g6 i::fs)):=fun F0 pins s σ H D I ⟨ρ,F,fl,r,e,q⟩=>by
 obtain⟨f1,e1,e⟩:=ak.mp e;unfold g6 at e1;split at e1
 · rename_i xs q1
   cases e1;have oi:bq ρ i:=.inl ⟨_,q1⟩;obtain⟨a,_,_,_,ea,_⟩:=r.rs.ownAt oi;obtain⟨F',mv,r'⟩:=r.frz (u:=.lst []) oi q1 ea ⟨_,rfl,rfl⟩;exact h F0 pins s σ H D I ⟨_,F',fl,r',e,q.mv mv⟩
 · rename_i ks vs q1
   cases e1;obtain⟨a,kvs,ha,k⟩:=r.vB q1;obtain⟨ob,I'⟩:=lQ I ha;obtain⟨F',_,mv,r'⟩:=k ob;exact h F0 pins s σ _ D I' ⟨_,F',fl,r',e,q.mv mv⟩
 ·cases e1
def we(M:Md)(f:Ex):TE:=fun σ H Q=>∃ρ F ds,aM M H F σ ρ∧f ρ=.ok (.lst ds)∧∀p H' xs,ae H H'→H' p=none→ab M H' F ds xs→Q (.ref p) (upd H' p (.lst xs))
abbrev JF(X:Cx)(e:Expr)(f:Ex):Prop:=PE X e (we (ai X) f)
theorem zH{es:List Expr}{fs:List Ex}(h:JA X es (eList fs))(hl:fs.length≤1000:=by decide):JF X (.List es pos) (bh fs):=
 bx (L2.qY h) fun σ H Q ⟨ρ,F,d,hr,e,q⟩=>by
   obtain⟨as,ea,e⟩:=ak.mp e;cases e;refine⟨ρ,F,_,hr,ea,fun xs H1 s1 rs=>⟨?_,fun p hp=>q p H1 xs s1 hp rs⟩⟩;rw[←rs.length,ij ea];exact Nat.le_trans hl (by decide)
theorem yY(i:Nat){x:Str}{e:Expr}{f:Ex}{p2:Pos}(hN:X.N.Nodup)(he:JF X e f)(hi:X.N[i]? =some x:=by rfl)(hx:L2.Loc X.env.scope x:=by exact Or.inl rfl)(hf:X.fn x=true∨X.env.scope.names.lookup x=some .local:=by first|exact .inl rfl|exact .inr rfl)
   (hs:swapsWith e (some (.Name x p2)) pos.line X.env=pure false:=by rfl):JS X (.Assign [.Name x p2] e pos) (jd i f):=fun F0=>
 fj (L2.oB hN hi hx he hs hf) fun D σ H ⟨ρ,F,fl,r,e,q⟩=>by
   obtain⟨d,ed,e⟩:=ak.mp e;split at e
   · cases e
     refine⟨ρ,F,_,r.rs,ed,fun p H1 xs s1 hp rs=>?_⟩;obtain⟨mv,r'⟩:=(r.same s1).new (i:=i) (s:=.ol _) hp (.inl ⟨_,xs,rfl,rfl,rs⟩);exact q _ _ _ (Mv.trans (.same s1) mv) r'
   ·cases e
theorem Aq(i:Nat){x:Str}{e:Expr}{f:Ex}{p2 apos A':Pos}(he:JE X e f)(hN:X.N[i]? =some x:=by rfl)(hv:L2.cz X.env.scope x:=by first|exact Or.inl rfl|exact Or.inr (Or.inl rfl)|exact Or.inr (Or.inr rfl))(hd:(x==("__debug__":Str))=false:=by decide)
   (Cs:(x==("__classdict__":Str))=false:=by decide) (CH:attributeBase (.Name x p2) "append" X.env (eval (.Name x p2) X.env)=eval (.Name x p2) X.env:=by rfl)
   (DU:((backTo A' (starEach [e] X.env)).all (fun x=> !x.1)&&(backToKw A' (keywordEach [] X.env)).all (fun x=>x.1.isSome)
     &&decide (([e]:List Expr).length+([]:List Keyword).length+(if([]:List Keyword).isEmpty then 0 else 1)<30))=true:=by rfl)
   (CG:(apos.endLine==A'.line)=true:=by rfl) (hs:starEach [e] X.env=(false,eval e X.env)::starEach [] X.env:=by rfl)
   (IS:swapsWith (.Call (.Attribute (.Name x p2) "append" apos) [e] [] A') none pos.line X.env=pure false:=by rfl):
   JS X (.Expr (.Call (.Attribute (.Name x p2) "append" apos) [e] [] A') pos) (eS i f):=fun F0=>
 fj (L2.y9 (L2.Az PySem.F.plainAttrs_list PySem.F.slot_list_append PySem.F.type_list_append L2.ro (L2.pv i hN hv hd Cs) (dJ he fS hs) CH DU CG hs) IS) fun D σ H ⟨ρ,F,fl,r,e,q⟩=>by
   obtain⟨d,ed,e⟩:=ak.mp e;split at e
   · rename_i xs q1
     split at e
     · rename_i Cv
       cases e;have oi:bq ρ i:=.inl ⟨_,q1⟩;obtain⟨a,ys,ea,fa,ha,rs⟩:=r.rs.ol i _ q1;refine⟨_,ea,.inl ⟨rfl,ys,aO.of ha⟩,ρ,F,[d],r.rs,by show(f ρ).bind _=_;rw[ed];rfl,fun vs H1 s1 rv=>?_⟩
       obtain⟨y,rfl,ry⟩:=rv.one;have r1:=r.same s1;refine⟨a,ys,y,rfl,rfl,s1 _ _ ha,by rw[←rs.length];exact Cv,?_⟩
       obtain⟨mv,r'⟩:=r1.chg (s:=.ol (xs++[d])) oi ea (.inl ⟨_,ys++[y],rfl,rfl,(rs.mv (.same s1)).append (ab.cons ry ab.nil)⟩);exact q _ _ _ (Mv.trans (.same s1) mv) r'
     ·cases e
   ·cases e
structure Df(P:Program)(w:World)(K:PySem.W.Frag)(mg:Str→Option Value)(base:Heap)(x:Str)(k n:Nat)(m:List D→R D):Prop where
 ex:∃f fd ps,L2.b8 P w K mg base L2.dR k f fd ps (eU ⟨K,P,w⟩ m n)∧L2.Binds K fd ps []∧PySem.W.keepIn K (.ref f)=true∧mg x=some (.ref f)
theorem ti{m:List D→R D}{n:Nat}{fs:List Ex}{Q:VK}{E:XK}(hn:fs.length=n)(h:tP M (aB m fs) σ H Q):L2.kN (eU M m n) [] E (lS M (eList fs)) σ H Q:=by
 obtain⟨ρ,F,d,hr,e,q⟩:=h;obtain⟨ds,Kk,e⟩:=ak.mp e;refine⟨ρ,F,ds,hr,Kk,fun vs H1 s1 rs=>?_⟩;show eU M m n (vs++[]) H1 Q E;rw[List.append_nil];exact⟨F,ds,d,(hr.same s1).aN,rs,by rw[ij Kk];exact hn,e,fun v H2 s2 rv=>q v H2 (s1.trans s2) rv⟩
theorem xV{x:Str}{k j n:Nat}{m:List D→R D}{e:Expr}{es:List Expr}{fs:List Ex}{p:Pos}(d:Df X.prog X.w X.K X.mg X.base x k n m)(hr:L2.br j X.A)(hg:L2.Gl X x)(ha:JA X (e::es) (eList fs))(hk:k≤j:=by decide)(hn:fs.length=n:=by rfl)
   (CI:(x==("__debug__":Str))=false:=by decide) (he:starEach (e::es) X.env=(false,eval e X.env)::starEach es X.env:=by rfl) (CU:(backTo pos (starEach es X.env)).any (·.1)=false:=by rfl):JE X (.Call (.Name x p) (e::es) [] pos) (aB m fs):=by
 obtain⟨f,fd,ps,h1,h2,h3,h4⟩:=d.ex;exact bx (L2.wM h1 (hr.mono hk) hg h4 h3 h2 .nil L2.oP ha CI he CU) fun σ H Q h=>ti hn h
theorem uM{x:Str}{k j:Nat}{m:List D→R D}{p:Pos}(d:Df X.prog X.w X.K X.mg X.base x k 0 m)(hr:L2.br j X.A)(hg:L2.Gl X x)(hk:k≤j:=by decide)(CI:(x==("__debug__":Str))=false:=by decide):JE X (.Call (.Name x p) [] [] pos) (aB m []):=by
 obtain⟨f,fd,ps,h1,h2,h3,h4⟩:=d.ex;refine bx (L2.y8 h1 (hr.mono hk) hg h4 h3 h2 .nil L2.oP CI) fun σ H Q ⟨ρ,F,d,hr,e,q⟩=>?_;exact⟨F,[],d,hr.aN,ab.nil,rfl,e,q⟩
theorem qS{P:Program}{w:World}{K:PySem.W.Frag}{mg:Str→Option Value}{base:Heap}{x qual:Str}{st:Stmt}{f:Addr}{fd:FuncData}{N ps:List Str}{k n:Nat}{body:Sm}(Fu:L2.bJ K x qual st f fd)(S:L2.bT N ps (L2.aJ st))
   (h:∀(Cj:Value) (A:Around) (outer:List Env) (s:Shared) (H:Hp) (E:XK),L2.br k (A.deeper (PyProof.Rows.envOfC qual (L2.aJ st) s.heap.objs.size f Cj))→cS (L2.fM L2.dR P w K mg base N qual (L2.aJ st) f Cj A outer s H E).eJ (L2.bD st) body)
   (hn:ps.length=n:=by rfl):L2.b8 P w K mg base L2.dR (k+1) f fd ps (eU ⟨K,P,w⟩ (fn N.length body) n):=by
 refine Fu.ok S (fun vs H Q E h=>?_) (fun Cj A outer s H vs Q E hr Ed=>?_)
 · obtain⟨F,ds,d,_,rs,hl,_⟩:=h
   rw[←rs.length,hl,hn]
 · refine⟨fun D σ H'=>∃F0:Gf,eV ⟨K,P,w⟩ F0.g F0 body D σ H',fun pins s' σ H' D I ⟨F0,q⟩=>h Cj A outer s H E hr F0 pins s' σ H' D I q,?_⟩
   refine A4 (G:=H) (t:=fun D σ H'=>∃F0:Gf,eV ⟨K,P,w⟩ F0.g F0 body D σ H') (fun F0 D σ H' h=>⟨F0,h⟩) Ed ?_;have:=congrArg List.length S.pre;rw[List.length_take]at this;omega
theorem cC{P:Program}{w:World}{K:PySem.W.Frag}{mg:Str→Option Value}{base:Heap}{x qual:Str}{st:Stmt}{f:Addr}{fd:FuncData}{N ps:List Str}{k n:Nat}{body:Sm}(Fu:L2.bJ K x qual st f fd)(hm:mg x=some (.ref f))(S:L2.bT N ps (L2.aJ st))(hb:L2.Binds K fd ps [])
   (h:∀(Cj:Value) (A:Around) (outer:List Env) (s:Shared) (H:Hp) (E:XK),L2.br k (A.deeper (PyProof.Rows.envOfC qual (L2.aJ st) s.heap.objs.size f Cj))→cS (L2.fM L2.dR P w K mg base N qual (L2.aJ st) f Cj A outer s H E).eJ (L2.bD st) body)
   (hn:ps.length=n:=by rfl):Df P w K mg base x (k+1) n (fn N.length body):=⟨f,fd,ps,qS Fu S h hn,hb,Fu.kp,hm⟩
end
open L2 (It Turn bM)
section
variable{X:Cx}{M:Md}{G H H':Hp}{F0:Gf}{F F':Addr→Prop}{σ:L2.St}{ρ:En}{pos:Pos}{DE:Ends}
theorem ee:bC M cF (L2.rI L2.jF fun i j=>.int (i*j)):=by
 intro F H x y a b d Q tr ra rb e q;unfold cF at e;split at e
 · split at e
   · rename_i h
     cases e;rw[Bool.or_eq_true]at h;exact⟨_,_,ba ra,ba rb,h.elim (fun h=>.inl (kL h)) (fun h=>.inr (kL h)),q _ _ (ae.refl _) b0⟩
   ·cases e
 ·cases e
def gJ(x:Str):It:=⟨fun i _=>i<x.cps.size,fun i H v H'=>H'=H∧∃c,x.cps[i]? =some c∧v=.str ⟨#[c]⟩,fun i _=>x.cps.size≤i⟩
theorem yf{P:Program}{w:World}{K:PySem.W.Frag}{tg:Expr}(x:Str)(t:Tok)(it:Addr):Turn P w K tg (gJ x) [it] it (fun i h=>h.IsStrIter it "str_ascii_iterator" x t i) where
 mem:=by simp
 obj:=fun i h st b hb=>by
   have e:b=it:=by simpa using hb
   subst e;obtain⟨o,e,c,d⟩:=st;exact⟨o,e,fun v z=>by rw[d]at z;cases z⟩
 keep:=fun i h h' st k=>let⟨o,e,r⟩:=st;⟨o,k it (by simp) o e,r⟩
 item:=by
   intro X hP hw hK hc i pins s σ H E I hf st hg;subst hP hw hK;obtain⟨f0,f1,f2,f3,f4,f5⟩:=hf it (by simp)
   have hg:i<x.cps.size:=hg;refine wpAny_pyNext_ascii_item st (c:=x.cps[i]) (by simp[hg]) fun h' C2 sb=>?_
   have I1:Inv X pins σ H {s with heap:=h',toks:=s.toks+1}:=I.turned (t':=s.toks+1) (fun b o hb e=>(sb.2 b hb).trans e) f0 f1 f3 f4 f5;obtain⟨o,e,c,d⟩:=id C2;exact⟨_,rfl,L2.iY (s:={s with heap:=h',toks:=s.toks+1}) e c d (by decide) ⟨.str ⟨#[x.cps[i]]⟩,H,I1,⟨_,rfl⟩,⟨rfl,_,by simp[hg],rfl⟩,C2,fun b hb=>(hf b hb).1⟩⟩
 done:=by
   intro X hP hw hK hc i pins s σ H E I hf st hg;subst hP hw hK;have hg:x.cps.size≤i:=hg;obtain⟨f0,f1,f2,f3,f4,f5⟩:=hf it (by simp)
   exact wpAny_pyNext_ascii_end (I.ok.hd hc) st (by simp[hg]) fun h' eb=>⟨rfl,I.turned (t':=s.toks) (fun b o hb e=>eb b o hb e) f0 f1 f3 f4 f5⟩
 self:=fun _ _ _ _ _ st h=>wpAny_pyIter_striter_ascii st h
theorem wq{P:Program}{w:World}{K:PySem.W.Frag}{tg:Expr}(x:Str)(t:Tok)(it:Addr):Turn P w K tg (gJ x) [it] it (fun i h=>h.IsStrIter it "str_iterator" x t i) where
 mem:=by simp
 obj:=fun i h st b hb=>by
   have e:b=it:=by simpa using hb
   subst e;obtain⟨o,e,c,d⟩:=st;exact⟨o,e,fun v z=>by rw[d]at z;cases z⟩
 keep:=fun i h h' st k=>let⟨o,e,r⟩:=st;⟨o,k it (by simp) o e,r⟩
 item:=by
   intro X hP hw hK hc i pins s σ H E I hf st hg;subst hP hw hK;obtain⟨f0,f1,f2,f3,f4,f5⟩:=hf it (by simp)
   have hg:i<x.cps.size:=hg;refine wpAny_pyNext_wide_item st (c:=x.cps[i]) (by simp[hg]) fun h' C2 sb=>?_
   have I1:Inv X pins σ H {s with heap:=h',toks:=s.toks+1}:=I.turned (t':=s.toks+1) (fun b o hb e=>(sb.2 b hb).trans e) f0 f1 f3 f4 f5;obtain⟨o,e,c,d⟩:=id C2;exact⟨_,rfl,L2.iY (s:={s with heap:=h',toks:=s.toks+1}) e c d (by decide) ⟨.str ⟨#[x.cps[i]]⟩,H,I1,⟨_,rfl⟩,⟨rfl,_,by simp[hg],rfl⟩,C2,fun b hb=>(hf b hb).1⟩⟩
 done:=by
   intro X hP hw hK hc i pins s σ H E I hf st hg;subst hP hw hK;have hg:x.cps.size≤i:=hg;obtain⟨f0,f1,f2,f3,f4,f5⟩:=hf it (by simp)
   exact wpAny_pyNext_wide_end (I.ok.hd hc) st (by simp[hg]) fun h' eb=>⟨rfl,I.turned (t':=s.toks) (fun b o hb e=>eb b o hb e) f0 f1 f3 f4 f5⟩
 self:=fun _ _ _ _ _ st h=>wpAny_pyIter_striter_wide st h
def sH(K:PySem.W.Frag)(tl:TE):TI:=fun σ H R=>tl σ H fun x H1=>(∃a,x=.ref a∧(∃xs,aO K H1 a xs)∧R (L2.i7 K a) H1)∨(∃a,x=.ref a∧(∃xs,aT K H1 a xs)∧R (L2.iW K a) H1)∨∃z,x=.str z∧R (gJ z) H1
theorem w6{tg:Expr}{pins:List (Addr×Obj)}{R:It→Hp→Prop}{s1:Shared}{x:V}{v:Value}(I1:Inv X pins σ H s1)(r1:RelV x v)
   (q1:(∃a,x=.ref a∧(∃xs,aO X.K H a xs)∧R (L2.i7 X.K a) H)∨(∃a,x=.ref a∧(∃xs,aT X.K H a xs)∧R (L2.iW X.K a) H)∨∃z,x=.str z∧R (gJ z) H):
   wpAny (model X.prog X.w) X.A (pyIter v) (L2.lz X pins σ tg R) X.xe s1:=by
 have fp:∀b∈[s1.heap.objs.size],bM X pins H b:=fun b hb=>by
   have e:b=s1.heap.objs.size:=by simpa using hb
   subst e;exact I1.iB (Nat.le_refl _) (I1.au.fresh (Nat.le_refl _))
 rcases q1 with⟨a,rfl,⟨xs,hq⟩,q⟩|⟨a,rfl,⟨xs,hq⟩,q⟩|⟨z,rfl,q⟩
 · cases r1
   obtain⟨y',rv,p,hz⟩:=I1.list hq;refine wpAny_pyIter_list p.isList ?_;exact⟨s1.heap.objs.size,[s1.heap.objs.size],_,_,H,rfl,I1.kept (t':=s1.toks) fun b o e=>Heap.get?_push_of_some _ e,L2.tN a _,⟨_,Heap.get?_push_size _ rfl,rfl,rfl⟩,fp,q⟩
 · cases r1
   obtain⟨y',rv,p,hz⟩:=I1.tuple hq;refine wpAny_pyIter_tuple (show s1.heap.IsTuple a y'.toArray from p) ?_
   exact⟨s1.heap.objs.size,[s1.heap.objs.size],_,_,H,rfl,I1.kept (t':=s1.toks) fun b o e=>Heap.get?_push_of_some _ e,L2.u7 a _,⟨_,Heap.get?_push_size _ rfl,rfl,rfl⟩,fp,q⟩
 · obtain⟨t,rfl⟩:=r1
   cases ha:z.cps.all (· <128)
   · refine wpAny_pyIter_wide ha ?_
     exact⟨s1.heap.objs.size,[s1.heap.objs.size],_,_,H,rfl,I1.kept (t':=s1.toks) fun b o e=>Heap.get?_push_of_some _ e,wq z t _,⟨_,Heap.get?_push_size _ rfl,rfl,rfl⟩,fp,q⟩
   · refine wpAny_pyIter_ascii ha ?_
     exact⟨s1.heap.objs.size,[s1.heap.objs.size],_,_,H,rfl,I1.kept (t':=s1.toks) fun b o e=>Heap.get?_push_of_some _ e,yf z t _,⟨_,Heap.get?_push_size _ rfl,rfl,rfl⟩,fp,q⟩
theorem AQ{tg l:Expr}{tl:TE}(hl:PE X l tl):L2.PI X tg l (sH X.K tl):=fun pins s σ H R I h=>
 L2.ao (hl pins s σ H _ I h) fun v s1 ⟨x,H1,I1,r1,q1⟩=>w6 I1 r1 q1
theorem x6{x:Str}:Gives M (gJ x) H F (x.cps.toList.map fun c=>.str ⟨#[c]⟩):=by
 intro H' F' mv tr;refine⟨fun i d hd=>?_,?_⟩
 · rw[List.getElem?_map]at hd
   cases e:x.cps.toList[i]? with
   |none=>rw[e]at hd;cases hd
   | some c=>
     rw[e]at hd;cases hd;have e':x.cps[i]? =some c:=by simpa using e
     refine⟨show i<x.cps.size from(Array.getElem?_eq_some_iff.mp e').1,fun y H2 hy=>?_⟩
     obtain⟨rfl,c',C7,rfl⟩:=hy;rw[e']at C7;cases C7;exact⟨ae.refl _,iE⟩
 · show x.cps.size≤_
   simp
theorem tO{K:PySem.W.Frag}{d:D}{ds:List D}{x:V}{R:It→Hp→Prop}(e:items d=.ok ds)(rv:Rep M H F d x)(q:∀J,Gives M J H F ds→R J H):
   (∃a,x=.ref a∧(∃xs,aO M.K H a xs)∧R (L2.i7 M.K a) H)∨(∃a,x=.ref a∧(∃xs,aT M.K H a xs)∧R (L2.iW M.K a) H)∨∃z,x=.str z∧R (gJ z) H:=by
 unfold items at e;split at e
 · cases e
   simp only[Rep]at rv;obtain⟨a,xs,rfl,h,rs⟩:=rv;exact .inl ⟨a,rfl,⟨xs,h.sq⟩,q _ (yo h rs)⟩
 · cases e
   simp only[Rep]at rv;obtain⟨a,xs,rfl,h,rs⟩:=rv;exact .inr (.inl ⟨a,rfl,⟨xs,h.sq⟩,q _ (xh h rs)⟩)
 · cases e
   exact .inr (.inr ⟨_,cM rv,q _ x6⟩)
 ·cases e
theorem AU{tg l:Expr}{fa:Ex}(ha:JE X l fa):JI X tg l (d7 fa):=
 jZ (AQ ha) fun σ H Q ⟨ρ,F,ds,r,e,q⟩=>by
   obtain⟨d,ed,e⟩:=ak.mp e;exact⟨ρ,F,d,r,ed,fun v H1 s1 rv=>tO (K:=X.K) (M:=ai X) e rv fun J g=>q J H1 s1 g⟩
end
structure gE(P:Program)(w:World)(K:PySem.W.Frag)(mg:Str→Option Value)(x:Str)(d:D):Prop where
 ex:∃v u,mg x=some u∧RelV v u∧∀H F,Rep ⟨K,P,w⟩ H F d v
theorem uP{X:Cx}{pos:Pos}{x:Str}{d:D}(g:gE X.prog X.w X.K X.mg x d)(hg:L2.Gl X x)(hd:(x==("__debug__":Str))=false:=by decide):JE X (.Name x pos) (eC d):=by
 obtain⟨v,u,h1,h2,h3⟩:=g.ex;exact sO hg h1 h2 h3 hd
def eQ:Expr→Bool
 |.Starred .. =>false
 |_=>true
theorem bf{e:Expr}{es:List Expr}{env:Env}(h:eQ e=true):starEach (e::es) env=(false,eval e env)::starEach es env:=by cases e<;>first|rfl|cases h
theorem oX{pos:Pos}{env:Env}:∀ {es:List Expr},es.all eQ=true→(backTo pos (starEach es env)).any (·.1)=false
 |[],_=>rfl
 | e::es,h=>by
   rw[List.all_cons,Bool.and_eq_true]at h;rw[bf h.1];show(false||(backTo pos (starEach es env)).any (·.1))=false
   rw[Bool.false_or];exact oX h.2
theorem ou{pos:Pos}{env:Env}:∀ {es:List Expr},es.all eQ=true→(backTo pos (starEach es env)).all (fun x=> !x.1)=true
 |[],_=>rfl
 | e::es,h=>by
   rw[List.all_cons,Bool.and_eq_true]at h;rw[bf h.1];show(true&&(backTo pos (starEach es env)).all (fun x=> !x.1))=true;rw[Bool.true_and];exact ou h.2
theorem mM{A':Pos}{env:Env}{e:Expr}{es:List Expr}(h:(e::es).all eQ=true)(hl:(e::es).length<30):((backTo A' (starEach (e::es) env)).all (fun x=> !x.1)&&(backToKw A' (keywordEach [] env)).all (fun x=>x.1.isSome)
     &&decide ((e::es).length+([]:List Keyword).length+(if([]:List Keyword).isEmpty then 0 else 1)<30))=true:=by
 rw[ou h,Bool.true_and];show(true&&decide ((e::es).length+0+0<30))=true;rw[Bool.true_and,decide_eq_true_eq];exact hl
def qU:Expr→Bool
 |.ListComp .. =>false
 |.SetComp .. =>false
 |.DictComp .. =>false
 |_=>true
theorem jc{e:Expr}{t:Option Expr}{l:Nat}{env:Env}(h:qU e=true):swapsWith e t l env=pure false:=by cases e<;>first|rfl|cases h
theorem tQ{e tg:Expr}{l:Nat}{env:Env}(h:qU e=true):swapsWithSole [tg] e l env=pure false:=jc h
def sA:Expr→Bool
 |.Tuple .. =>false
 |_=>true
theorem uU{e tg:Expr}{env:Env}(h:sA e=true):swappedStores [tg] e env=pure none:=by
 cases tg<;>first|rfl|(cases e<;>first|rfl|cases h)
def se:Expr→Bool
 |.Tuple .. =>false
 |.List .. =>false
 |_=>true
theorem vI{e tg:Expr}{env:Env}(h:se tg=true):swappedStores [tg] e env=pure none:=by
 cases tg<;>first|rfl|cases h
theorem qH{e:Expr}{es:List Expr}{env:Env}(h:eQ e=true):(assignEach (e::es) env).map (·.2)=assign e env::(assignEach es env).map (·.2):=by cases e<;>first|rfl|cases h
theorem ko{env:Env}:∀ {es:List Expr},(assignEach es env).length=es.length
 |[]=>rfl
 | e::es=>by
   have:=ko (env:=env) (es:=es);cases e<;>(show(assignEach es env).length+1=_;rw[this];rfl)
theorem rD{env:Env}:∀ {es:List Expr},es.all eQ=true→(assignEach es env).findIdx? (·.1)=none
 |[],_=>rfl
 | e::es,h=>by
   rw[List.all_cons,Bool.and_eq_true]at h;have ih:=rD (env:=env) h.2
   have:∃t,assignEach (e::es) env=(false,t)::assignEach es env:=by
     have h1:=h.1;cases e<;>first|exact⟨_,rfl⟩|cases h1
   obtain⟨t,e1⟩:=this;rw[e1,List.findIdx?_cons,ih];rfl
def xf:Expr→Bool
 |.Set .. =>false
 |_=>true
theorem nA{e:Expr}{env:Env}(h:xf e=true):∀x,foldedSetIterable e env x=pure x:=by intro x;cases e<;>first|rfl|cases h
def plainT:Expr→Bool
 |.UnaryOp .Not _ _=>false
 |.BoolOp .. =>false
 |.IfExp .. =>false
 |.Compare .. =>false
 |_=>true
theorem vn{e:Expr}{env:Env}(h:plainT e=true):∀whole,isTrue e env whole=(do let v ←whole;standAt e.pos;holding [v] (truthy v)):=by
 intro w;cases e with
 |UnaryOp op _ _=>cases op<;>first|rfl|cases h
 |_=>first|rfl|cases h
theorem js{x:Str}{p:Pos}{a:Str}{env:Env}{w:Sem Value}:attributeBase (.Name x p) a env w=w:=rfl
def zO:Expr→Bool
 |.Slice .. =>false
 |_=>true
theorem tH{b:Expr}(h:zO b=true):L2.j2 b:=by intro o i;cases b<;>first|rfl|cases h
theorem walk{l:PySem.W.OpenLaw}{q:Program}{loose:List Str}{XP:(Str→Option Value)→Heap→Prop}{YP:World→Heap→Prop}{d:DefRec}{K:Params→PySem.W.Frag}{k:Nat}{x:Str}{m:List D→R D}(hn:l.most=some 63)(F6:d.params.defaults=[])(hr:L2.br k PySem.callerA)
   (hY:∀(w:World) (h:Heap),YP w h→(K w.params).In h)
   (F:∀(w:World) (mg:Str→Option Value) (fa:Addr) (h:Heap),(K w.params).In h→h.Ns mainGlobals mg→mg d.name=some (.ref fa)→
     ∃fd:FuncData,(∀(s:Shared) (u:Value),BindsTo s fd ⟨[u],[]⟩ [(x,u)])∧∀base:Heap,(K w.params).In base→base.Ns mainGlobals mg→L2.b8 l.prog w (K w.params) mg base L2.dR k fa fd [x] (eU ⟨K w.params,l.prog,w⟩ m 1))
   (hT:∀ns:List Int,ns.length≤63→m [.lst (ns.map .int)]=.ok (.bl true)):
   PySem.W.WalkO q loose XP YP l.row.toRowW d [] (fun f vs=>PySem.call f vs):=
 L2.yO (n:=63) (k:=k) (x:=x) (CX:=fun _=>L2.dR) (sp:=fun w=>eU ⟨K w.params,l.prog,w⟩ m 1) hn (by decide) F6 hr hY F (fun w H a ns hl _ hS=>by
   refine⟨fun _=>False,[.lst (ns.map .int)],.bl true,fun p h=>h.elim,ab.cons ?_ ab.nil,rfl,hT ns hl,fun v H' _ rv=>dz rv⟩
   have FN:∀(ns:List Int) (M:Md) (H:Hp),ab M H (fun _=>False) (ns.map D.int) (ns.map V.int):=by
     intro ns M H
     induction ns with
     |nil=>exact ab.nil
     |cons n r ih=>exact ab.cons b0 ih
   simp only[Rep];refine⟨a,ns.map V.int,rfl,?_,FN ns _ H⟩;rcases hS with h|h
   ·exact .inl ⟨fun h=>h,h⟩
   ·exact .inr h) fun _ _ _ _ _ z=>z
open L2 (Un)
section
variable{prog:Program}{w:World}{A:Around}{R:Result→Shared→Prop}{s:Shared}
theorem y2{elt target iter:Expr}{ifs:List Expr}{scope:Scope}{pos:Pos}{it acc:Value}{env:Env}(I:Nat→Shared→Prop)
   (turn:∀n s,I n s→wpAny (model prog w) A (pyNext it) (fun r B2=>match r with
     |none=>R (.ok .next) B2
     |some v=>wpAny (model prog w) A (letOwnedTupleGo target it v) (fun _ EL=>wpAny (model prog w) A (assign target env v) (fun _ CP=>
         wpAny (model prog w) A (forIn ifs true fun c r=>if r=true then do let ok ←isTrue c env (eval c env);pure (ForInStep.yield ok)else pure (ForInStep.yield r)) (fun ok EZ=>
           if ok=true then wpAny (model prog w) A (eval elt env) (fun x Gh=>
             wpAny (model prog w) A (call (.builtin "list.append") [acc,x]) (fun _ FL=>∃m,m<n∧I m FL) (notedBy (model prog w) A env fun e s'=>R (.error e) s') Gh) (notedBy (model prog w) A env fun e s'=>R (.error e) s') EZ
           else ∃m,m<n∧I m EZ) (notedBy (model prog w) A env fun e s'=>R (.error e) s') CP) (notedBy (model prog w) A env fun e s'=>R (.error e) s') EL) (notedBy (model prog w) A env fun e s'=>R (.error e) s') B2) (notedBy (model prog w) A env fun e s'=>R (.error e) s') s)
   (n:Nat) (h:I n s):codeAny (model prog w) A (.compLoop (.ListComp elt [⟨target,iter,ifs,0⟩] scope pos) 0 it acc env) R s:=by
 refine codeAny_loop rfl I (fun n s hI=>?_) n h;show wpAny _ A ((compTurn (.ListComp elt [⟨target,iter,ifs,0⟩] scope pos) 0 it acc env).onRaise (fun x=>do noteFrame x env;theTreesLotGoes x)) _ _ s
 refine wpAny_noted ?_;rw[compTurn_list];refine wpAny_bind (wpAny_standAt (wpAny_bind (wpAny_mono (turn n s hI) (fun r B2 Dc=>?_) fun _ _ h'=>h')));cases r with
 |none=>exact wpAny_pure Dc
 | some v=>
   refine wpAny_bind (wpAny_mono Dc (fun _ EL FZ=>?_) fun _ _ h'=>h');refine wpAny_bind (wpAny_mono FZ (fun _ CP HD=>wpAny_bind (wpAny_mono HD (fun ok EZ FC=>?_) fun _ _ h'=>h')) fun _ _ h'=>h');cases ok with
   |false=>exact wpAny_pure ⟨rfl,FC⟩
   | true=>
     exact wpAny_bind (wpAny_bind (wpAny_mono FC (fun x Gh G5=>wpAny_bind (wpAny_mono G5 (fun _ FL GX=>wpAny_pure (wpAny_pure ⟨rfl,GX⟩)) fun _ _ h'=>h')) fun _ _ h'=>h'))
end
noncomputable def cT(X:Cx)(scope:Scope)(cl:List (Str×Addr))(C:Addr)(N:List Str)(s:Shared)(H:Hp)(fp:List Addr):Cx where
 prog:=X.prog
 w:=X.w
 K:=X.K
 mg:=X.mg
 base:=X.base
 A:=X.A
 N:=N
 bE:=s
 jb:=H
 env:=compEnvC scope cl C X.env
 outer:=X.stack
 stack:=X.stack
 ex:=fp
 fn:=fun x=>decide ((x,NameKind.cell)∈scope.names)
 calm:=X.calm
 pn:=[]
 xe:=X.xe
abbrev iJ(X:Cx)(ifs:List Expr)(cs:List aF):Prop:=Paired (fun e c=>JT X e c) ifs cs
theorem qu{X:Cx}{M:Md}(hM:M=ai X){pins:List (Addr×Obj)}{σ:L2.St}{ρ:En}{F:Addr→Prop}{E:Value→Shared→Prop}(hE:∀e s,X.xe e s→E e s):
   ∀ {ifs:List Expr} {cs:List aF},iJ X ifs cs→∀ {s:Shared} {H:Hp} {t:Bool} {Q:Bool→Hp→Prop},Inv X pins σ H s→aM M H F σ ρ→cA.gG cs ρ=.ok t→(∀H',ae H H'→Q t H')→
     wpAny (model X.prog X.w) X.A (forIn ifs true fun c r=>if r=true then do let ok ←isTrue c X.env (eval c X.env);pure (ForInStep.yield ok)else pure (ForInStep.yield r)) (fun ok s'=>∃H',Inv X pins σ H' s'∧Q ok H') E s
 | [],_,.nil,s,H,t,Q,I,r,e,q=>by
   cases e;exact wpAny_tests_nil ⟨H,I,q H (ae.refl H)⟩
 | c::ifs,_,.cons h hs,s,H,t,Q,I,r,e,q=>by
   unfold cA.gG at e;obtain⟨b,eb,e⟩:=ak.mp e;rw[List.forIn_cons];simp only[if_true];refine wpAny_bind (wpAny_bind (wpAny_mono (h pins s σ H (fun b' H'=>b'=b∧ae H H') I ⟨ρ,F,b,hM▸r,eb,fun H' s'=>⟨rfl,s'⟩⟩) (fun b' s1 h1=>wpAny_pure ?_) hE));obtain⟨H1,I1,rfl,E9⟩:=h1;dsimp only;cases b' with
   | true=>
     rw[if_pos rfl]at e;exact qu hM hE hs I1 (r.same E9) e fun H2 s2=>q H2 (E9.trans s2)
   | false=>
     rw[if_neg (by decide)]at e
     cases e
     have pass:∀(l:List Expr) (s:Shared),(∃H',Inv X pins σ H' s∧Q false H')→wpAny (model X.prog X.w) X.A (forIn l false fun c r=>if r=true then do let ok ←isTrue c X.env (eval c X.env);pure (ForInStep.yield ok)else pure (ForInStep.yield r)) (fun ok s'=>∃H',Inv X pins σ H' s'∧Q ok H') E s:=by
       intro l
       induction l with
       |nil=>intro s h;exact wpAny_pure h
       | cons a l ih=>
         intro s h;rw[List.forIn_cons];exact wpAny_bind (wpAny_pure (ih s h))
     exact pass ifs _ ⟨H1,I1,q H1 E9⟩
theorem kW{env:Env}:∀(names:List (Str×NameKind)) (cs:List (Str×Addr)),(∀y∈names,y.2=.free→∃c,env.cells.lookup y.1=some c)→(∀x c,cs.lookup x=some c→env.cells.lookup x=some c)→
   ∃cl,(forIn names cs fun(x:Str×NameKind) r=>(if(x.2==.free)=true then do let c ←cellOf env x.1;pure (ForInStep.yield ((x.1,c)::r))else pure (ForInStep.yield r):Sem (ForInStep (List (Str×Addr)))))=(pure cl:Sem _)∧
     (∀x c,cl.lookup x=some c→env.cells.lookup x=some c)∧(∀x,(∃c,cs.lookup x=some c)∨(x,NameKind.free)∈names→∃c,cl.lookup x=some c)
 |[],cs,_,hc=>⟨cs,rfl,hc,fun x h=>h.elim (fun h=>h) fun h=>nomatch h⟩
 | (n,k)::names,cs,hn,hc=>by
   rw[List.forIn_cons];by_cases hk:k=.free
   · subst hk
     obtain⟨c,ec⟩:=hn _ List.mem_cons_self rfl
     obtain⟨cl,e,h1,h2⟩:=kW names ((n,c)::cs) (fun y hy=>hn y (List.mem_cons_of_mem _ hy)) (fun x d h=>by
       rw[List.lookup_cons]at h;cases hx:x==n with
       |true=>rw[hx]at h;cases h;rw[beq_iff_eq.mp hx];exact ec
       |false=>rw[hx]at h;exact hc x d h)
     refine⟨cl,?_,h1,fun x h=>h2 x ?_⟩
     · have:cellOf env n=pure c:=by unfold cellOf;rw[show List.lookup n env.cells=some c from ec]
       simp only[beq_self_eq_true,if_true,this];exact e
     · rcases h with⟨d,h⟩|h
       · left
         rw[List.lookup_cons];cases x==n with
         |true=>exact⟨c,rfl⟩
         |false=>exact⟨d,h⟩
       · rcases List.mem_cons.mp h with h|h
         · cases h
           left;rw[List.lookup_cons,beq_self_eq_true];exact⟨c,rfl⟩
         ·exact .inr h
   · obtain⟨cl,e,h1,h2⟩:=kW names cs (fun y hy=>hn y (List.mem_cons_of_mem _ hy)) hc
     refine⟨cl,?_,h1,fun x h=>h2 x (h.imp (fun h=>h) fun h=>?_)⟩
     · have:(k==NameKind.free)=false:=by cases k<;>first|rfl|exact absurd rfl hk
       simp only[this,Bool.false_eq_true,if_false];exact e
     · rcases List.mem_cons.mp h with h|h
       ·cases h;exact absurd rfl hk
       ·exact h
theorem y6{scope:Scope}{env:Env}(hn:∀y∈scope.names,y.2=.free→∃c,env.cells.lookup y.1=some c):
   ∃cl,closureFor scope env=pure cl∧(∀x c,cl.lookup x=some c→env.cells.lookup x=some c)∧∀x,(x,NameKind.free)∈scope.names→∃c,cl.lookup x=some c:=by
 obtain⟨cl,e,h1,h2⟩:=kW scope.names [] hn (fun x c h=>nomatch h)
 refine⟨cl,?_,h1,fun x h=>h2 x (.inr h)⟩;unfold closureFor
 have:∀(l:List (Str×NameKind)) (cs:List (Str×Addr)),(forIn l cs fun(x:Str×NameKind) (r:List (Str×Addr))=>(match x with|(name,kind)=>do
     if(kind==.free)=true then
       let c ←cellOf env name
       pure (ForInStep.yield ((name,c)::r))
     else pure (ForInStep.yield r):Sem (ForInStep (List (Str×Addr)))))=forIn l cs fun(x:Str×NameKind) r=>(if(x.2==.free)=true then do let c ←cellOf env x.1;pure (ForInStep.yield ((x.1,c)::r))else pure (ForInStep.yield r):Sem (ForInStep (List (Str×Addr)))):=fun _ _=>rfl
 show(forIn scope.names [] _ >>= fun r=>pure r)=_
 first
   |(rw[show(forIn scope.names ([]:List (Str×Addr)) _:Sem (List (Str×Addr)))=pure cl from e];rfl)
   |(erw [e];rfl)
theorem lK{M:Model}{A:Around}{E:Value→Shared→Prop}{Q:List (Str×Addr)→Shared→Prop}:∀(names:List (Str×NameKind)) {s:Shared} {cells:List (Str×Addr)},(∀x c,cells.lookup x=some c→c<s.heap.objs.size)→(∀x y c,cells.lookup x=some c→cells.lookup y=some c→x=y)→
   (∀(h':Heap) (B4:List (Str×Addr)),(∀b o,s.heap.get? b=some o→h'.get? b=some o)→(∀x y c,B4.lookup x=some c→B4.lookup y=some c→x=y)→
     (∀x c,B4.lookup x=some c→cells.lookup x=some c∨(s.heap.objs.size≤c∧h'.IsCell c none))→(∀x,(x,NameKind.cell)∈names→∃c,B4.lookup x=some c∧s.heap.objs.size≤c)→(∀x c,cells.lookup x=some c→(x,NameKind.cell)∉names→B4.lookup x=some c)→Q B4 {s with heap:=h'})→
   wpAny M A (forIn names cells fun(x:Str×NameKind) (r:List (Str×Addr))=>(match x with|(name,kind)=>if(kind==NameKind.cell)=true then do let a ←alloc {cls:=Value.type "cell",data:=Data.cell none};pure (ForInStep.yield ((name,a)::r))else pure (ForInStep.yield r):Sem (ForInStep (List (Str×Addr))))) Q E s
 | [],s,cells,_,inj,k=>by
   exact wpAny_pure (k s.heap cells (fun _ _ e=>e) inj (fun _ _ e=>.inl e) (fun _ h=>nomatch h) (fun _ _ e _=>e))
 | (n,kd)::names,s,cells,lt,inj,k=>by
   rw[List.forIn_cons];by_cases hk:kd=.cell
   · subst hk
     simp only[beq_self_eq_true,if_true];refine wpAny_bind (wpAny_bind (wpAny_alloc (wpAny_pure ?_)));dsimp only;refine lK names (fun x c h=>?_) (fun x y c hx hy=>?_) fun h' B4 keep D6 h2 h3 h4=>?_
     · rw[Heap.size_push]
       rw[List.lookup_cons]at h;cases hx:x==n with
       |true=>rw[hx]at h;cases h;exact Nat.lt_succ_self _
       |false=>rw[hx]at h;exact Nat.lt_succ_of_lt (lt x c h)
     · rw[List.lookup_cons]at hx hy
       cases ex:x==n with
       | true=>
         cases ey:y==n with
         |true=>rw[beq_iff_eq.mp ex,beq_iff_eq.mp ey]
         | false=>
           rw[ex]at hx;rw[ey]at hy;cases hx;exact absurd (lt y _ hy) (Nat.lt_irrefl _)
       | false=>
         rw[ex]at hx;cases ey:y==n with
         |true=>rw[ey]at hy;cases hy;exact absurd (lt x _ hx) (Nat.lt_irrefl _)
         |false=>rw[ey]at hy;exact inj x y c hx hy
     · have old:∀b o,s.heap.get? b=some o→h'.get? b=some o:=fun b o e=>keep b o (Heap.get?_push_of_some _ e)
       have new:h'.IsCell s.heap.objs.size none:=⟨_,keep _ _ (Heap.get?_push_size _ rfl),rfl⟩;refine k h' B4 old D6 (fun x c h=>?_) (fun x hx=>?_) (fun x c h hx=>?_)
       · rcases h2 x c h with h|⟨h5,h6⟩
         · rw[List.lookup_cons]at h
           cases ex:x==n with
           |true=>rw[ex]at h;cases h;exact .inr ⟨Nat.le_refl _,new⟩
           |false=>rw[ex]at h;exact .inl h
         · rw[Heap.size_push]at h5
           exact .inr ⟨by omega,h6⟩
       · by_cases hm:(x,NameKind.cell)∈names
         · obtain⟨c,h5,h6⟩:=h3 x hm
           rw[Heap.size_push]at h6;exact⟨c,h5,by omega⟩
         · have My:x=n:=by
             rcases List.mem_cons.mp hx with e|e
             ·exact(Prod.mk.inj e).1
             ·exact absurd e hm
           subst My;exact⟨s.heap.objs.size,h4 x _ (by rw[List.lookup_cons,beq_self_eq_true]) hm,Nat.le_refl _⟩
       · refine h4 x c ?_ fun hm=>hx (List.mem_cons_of_mem _ hm)
         rw[List.lookup_cons];cases ex:x==n with
         |true=>exact absurd (by rw[beq_iff_eq.mp ex];exact List.mem_cons_self) hx
         |false=>exact h
   · have DJ:(kd==NameKind.cell)=false:=by cases kd<;>first|rfl|exact absurd rfl hk
     simp only[DJ,Bool.false_eq_true,if_false];refine wpAny_bind (wpAny_pure ?_);dsimp only;refine lK names lt inj fun h' B4 keep D6 h2 h3 h4=>k h' B4 keep D6 h2 (fun x hx=>?_) (fun x c h hx=>h4 x c h fun hm=>hx (List.mem_cons_of_mem _ hm));rcases List.mem_cons.mp hx with e|e
     ·exact absurd (Prod.mk.inj e).2.symm hk
     ·exact h3 x e
theorem xE{M:Model}{A:Around}{E:Value→Shared→Prop}{Q:Env→Shared→Prop}{s:Shared}{scope:Scope}{cl:List (Str×Addr)}{env:Env}(lt:∀x c,cl.lookup x=some c→c<s.heap.objs.size)(inj:∀x y c,cl.lookup x=some c→cl.lookup y=some c→x=y)
   (k:∀(h':Heap) (B4:List (Str×Addr)),(∀b o,s.heap.get? b=some o→h'.get? b=some o)→(h'.Ns s.heap.objs.size fun _=>none)→(∀x y c,B4.lookup x=some c→B4.lookup y=some c→x=y)→
     (∀x c,B4.lookup x=some c→cl.lookup x=some c∨(s.heap.objs.size+1≤c∧h'.IsCell c none))→(∀x,(x,NameKind.cell)∈scope.names→∃c,B4.lookup x=some c∧s.heap.objs.size+1≤c)→(∀x c,cl.lookup x=some c→(x,NameKind.cell)∉scope.names→B4.lookup x=some c)→
     Q {scope:=scope,locals:=s.heap.objs.size,globals:=env.globals,cells:=B4,qual:=env.qual,func:=none,code:=env.code,frame:=env.frame,builtins:=env.builtins} {s with heap:=h'}):
   wpAny M A (newFunctionEnv scope env.globals cl [] env.qual none Value.none (some env)) Q E s:=by
 unfold newFunctionEnv;refine wpAny_bind (wpAny_alloc ?_);dsimp only;refine wpAny_bind (wpAny_mono (lK (Q:=fun B4 s'=>Q {scope:=scope,locals:=s.heap.objs.size,globals:=env.globals,cells:=B4,qual:=env.qual,func:=none,code:=env.code,frame:=env.frame,builtins:=env.builtins} s') scope.names (fun x c h=>by rw[Heap.size_push];exact Nat.lt_succ_of_lt (lt x c h)) inj fun h' B4 keep D6 h2 h3 h4=>?_) (fun B4 s' hq=>?_) fun _ _ h=>h)
 · refine k h' B4 (fun b o e=>keep b o (Heap.get?_push_of_some _ e)) ?_ D6 (fun x c h=>?_) (fun x hx=>?_) h4
   · obtain⟨o,es,ep,h1,h2,h3,h4⟩:=Heap.Ns.new s.heap (Value.type "dict")
     exact⟨o,es,ep,keep _ _ h1,h2,h3,h4⟩
   · rcases h2 x c h with h|⟨h5,h6⟩
     ·exact .inl h
     ·rw[Heap.size_push]at h5;exact .inr ⟨h5,h6⟩
   · obtain⟨c,h5,h6⟩:=h3 x hx
     rw[Heap.size_push]at h6;exact⟨c,h5,h6⟩
 ·exact wpAny_pure hq
set_option maxHeartbeats 1000000
abbrev Xt:=En→R T
def xD(e:Ex):Xt:=fun ρ=>(e ρ).bind fun d=>.ok (.d d)
def vp(M:Md)(f:Xt):TE:=fun σ H Q=>∃ρ F t,aM M H F σ ρ∧f ρ=.ok t∧∀v H' F' as,ae H H'→(∀b∈as,H b=none)→as.Nodup→(∀b,F' b↔F b∨b∈as)→ah M H' F' t v as→Q v H'
abbrev JX(X:Cx)(e:Expr)(f:Xt):Prop:=PE X e (vp (ai X) f)
noncomputable def fQ(tg:bj)(cs:List aF)(el:Xt)(ρ:En):List D→R (List T)
 |[]=>.ok []
 | d::ds=>(tg d ρ).bind fun CJ=>(cA.gG cs CJ).bind fun t=>
   if t=true then(el CJ).bind fun y=>(fQ tg cs el ρ ds).bind fun ys=>.ok (y::ys)else fQ tg cs el ρ ds
noncomputable def qp(it:bg)(n:Nat)(fv:List Nat)(tg:bj)(cs:List aF)(el:Xt):En→R (List T):=fun ρ=>(it ρ).bind fun ds=>
 if ds.length≤bR then fQ tg cs el (List.replicate n .un++frees ρ fv) ds else .bad
theorem mJ{tg:bj}{cs:List aF}{el:Ex}{ρ:En}:∀ {ds ys:List D},cA tg cs el ρ ds=.ok ys→fQ tg cs (xD el) ρ ds=.ok (ys.map .d)
 |[],_,h=>by cases h;rfl
 | d::ds,ys,h=>by
   unfold cA at h;obtain⟨CJ,e1,h⟩:=ak.mp h;obtain⟨t,e2,h⟩:=ak.mp h;unfold fQ;rw[e1,R.aY,e2,R.aY];cases t with
   | true=>
     rw[if_pos rfl]at h ⊢;obtain⟨y,e3,h⟩:=ak.mp h;obtain⟨zs,e4,h⟩:=ak.mp h;cases h;show((el CJ).bind fun d=>R.ok (T.d d)).bind _=_;rw[e3,R.aY,R.aY,mJ e4];rfl
   | false=>
     rw[if_neg (by decide)]at h ⊢
     exact mJ h
section
variable{M:Md}{H H':Hp}{F F':Addr→Prop}{as:List Addr}{σ:L2.St}{ρ:En}
theorem aM.wide(r:aM M H F σ ρ)(s1:ae H H')(hn:∀b∈as,H b=none)(hF:∀b,F' b↔F b∨b∈as)(ht:∀b∈as,∃u,H' b=some u):Mv F H F' H'∧aM M H' F' σ ρ:=by
 have mv:Mv F H F' H':=fun b o n e=>⟨fun f=>((hF b).mp f).elim n (fun hb=>by rw[hn b hb]at e;cases e),s1 _ _ e⟩
 refine⟨mv,⟨r.len,fun a f=>?_,fun i d e=>?_,fun i ds e=>?_,fun i ks ds e=>?_,r.bO,?_⟩⟩
 · rcases(hF a).mp f with f|f
   ·obtain⟨o,e⟩:=r.aN a f;exact⟨o,s1 _ _ e⟩
   ·exact ht a f
 ·obtain⟨v,e1,q⟩:=r.sh i d e;exact⟨v,e1,q.mv mv⟩
 ·obtain⟨a,xs,e1,f,e2,q⟩:=r.ol i ds e;exact⟨a,xs,e1,(hF a).mpr (.inl f),s1 _ _ e2,q.mv mv⟩
 ·obtain⟨a,xs,e1,f,e2,l,q⟩:=r.od i ks ds e;exact⟨a,xs,e1,(hF a).mpr (.inl f),s1 _ _ e2,l,q.mv mv⟩
 ·exact r.on.mv mv (fun j x e=>⟨e,rfl⟩) (fun j x b u e hb f hu=>⟨(hF b).mpr (.inl f),s1 _ _ hu⟩) fun j x b e hb k ok=>(r.on j x e).2.1 b hb k ok
theorem uH{X:Cx}{e:Expr}{f:Ex}(h:JE X e f):JX X e (xD f):=
 bx h fun σ H Q ⟨ρ,F,t,hr,e,q⟩=>by
   obtain⟨d,ed,e⟩:=ak.mp e;cases e;exact⟨ρ,F,d,hr,ed,fun v H1 s1 rv=>q v H1 F [] s1 (fun _ hb=>nomatch hb) List.nodup_nil (fun b=>by simp) (by rw[ah];exact⟨rfl,rv⟩)⟩
theorem lE:∀ {vs:List D} {xs:List V} {as:List Addr},ag M H F (vs.map .d) xs as↔as=[]∧ab M H F vs xs
 |[],xs,as=>by simp only[List.map_nil,ag,ab];exact And.comm
 | v::vs,xs,as=>by
   simp only[List.map_cons,ag,ab,ah];constructor
   · rintro⟨x,r,bs,cs,rfl,rfl,⟨rfl,h1⟩,h2⟩
     obtain⟨rfl,h3⟩:=lE.mp h2;exact⟨rfl,x,r,rfl,h1,h3⟩
   · rintro⟨rfl,x,r,rfl,h1,h2⟩
     exact⟨x,r,[],[],rfl,rfl,⟨rfl,h1⟩,lE.mpr ⟨rfl,h2⟩⟩
theorem ag.append:∀ {ts us:List T} {xs ys:List V} {as bs:List Addr},ag M H F ts xs as→ag M H F us ys bs→ag M H F (ts++us) (xs++ys) (as++bs)
 | [],_,_,_,_,_,h,g=>by
   simp only[ag]at h;obtain⟨rfl,rfl⟩:=h;exact g
 | t::ts,_,_,_,_,_,h,g=>by
   simp only[ag]at h;obtain⟨x,r,bs,cs,rfl,rfl,h1,h2⟩:=h;rw[List.cons_append,List.cons_append,List.append_assoc];simp only[ag];exact⟨x,_,bs,_,rfl,rfl,h1,h2.append g⟩
theorem ag.len:∀ {ts:List T} {xs:List V} {as:List Addr},ag M H F ts xs as→ts.length=xs.length
 |[],xs,as,h=>by simp only[ag]at h;rw[h.1];rfl
 | t::ts,xs,as,h=>by
   simp only[ag]at h;obtain⟨x,r,bs,cs,rfl,rfl,h1,h2⟩:=h;simp[ag.len h2]
end
section
variable{X:Cx}{M:Md}{G H H':Hp}{F0:Gf}{F F':Addr→Prop}{σ:L2.St}{ρ:En}{pos:Pos}
def gO(n:Nat)(tg:bj):Prop:=∀d ρ ρ',tg d ρ=.ok ρ'→ρ'.length=ρ.length∧∀j:Nat,n≤j→ρ'[j]? =ρ[j]?
theorem sZ{n i:Nat}(h:i<n):gO n (aC i):=fun d ρ ρ' e=>by
 cases e;exact⟨by simp,fun j hj=>List.getElem?_set_ne (by omega)⟩
theorem ri{n:Nat}:∀ {is:List Nat} {ds:List D} {ρ ρ':En},is.all (· <n)=true→cq is ds ρ=.ok ρ'→ρ'.length=ρ.length∧∀j:Nat,n≤j→ρ'[j]? =ρ[j]?
 |[],[],_,_,_,e=>by cases e;exact⟨rfl,fun _ _=>rfl⟩
 | i::is,d::ds,ρ,ρ',h,e=>by
   rw[List.all_cons,Bool.and_eq_true,decide_eq_true_eq]at h;simp only[cq]at e;obtain⟨h1,h2⟩:=ri h.2 e;exact⟨by rw[h1];simp,fun j hj=>by rw[h2 j hj];exact List.getElem?_set_ne (by omega)⟩
 |[],_::_,_,_,_,e=>by cases e
 |_::_,[],_,_,_,e=>by cases e
theorem tX{n:Nat}{is:List Nat}(h:is.all (· <n)=true):gO n (dn is):=fun d ρ ρ' e=>by
 unfold dn at e;split at e
 ·exact ri h e
 ·cases e
theorem aM.less{ρ':En}(r:aM M H F σ ρ)(hl:ρ'.length=ρ.length)(h:∀(j:Nat) s,ρ'[j]? =some s→s=.un∨((∃d,s=.sh d)∧ρ[j]? =some s)):aM M H F σ ρ' where
 len:=by rw[hl,r.len]
 aN:=r.aN
 sh i d e:=by
   rcases h i _ e with z|⟨_,z⟩
   ·cases z
   ·exact r.sh i d z
 ol i d e:=by
   rcases h i _ e with z|⟨⟨_,z⟩,_⟩<;>cases z
 od i k d e:=by
   rcases h i _ e with z|⟨⟨_,z⟩,_⟩<;>cases z
 bO i j a oi:=by
   rcases oi with⟨_,e⟩|⟨_,_,e⟩
   ·rcases h i _ e with z|⟨⟨_,z⟩,_⟩<;>cases z
   ·rcases h i _ e with z|⟨⟨_,z⟩,_⟩<;>cases z
 on:=.no fun i B7 e=>by rcases h i _ e with z|⟨⟨_,z⟩,_⟩<;>cases z
theorem fJ{ρ:En}(h:∀(j:Nat) s,ρ[j]? =some s→s=.un∨∃d,s=.sh d){i:Nat}(o:bq ρ i):False:=by
 rcases o with⟨_,e⟩|⟨_,_,e⟩
 ·rcases h i _ e with z|⟨_,z⟩<;>cases z
 ·rcases h i _ e with z|⟨_,z⟩<;>cases z
def ent(n:Nat)(ρ:En)(fv:List Nat):En:=List.replicate n .un++frees ρ fv
theorem gj{n:Nat}{fv:List Nat}{j:Nat}{s:Slot}(h:(ent n ρ fv)[j]? =some s):s=.un∨((∃d,s=.sh d)∧n≤j∧∃i,fv[j - n]? =some i∧ρ[i]? =some s):=by
 unfold ent at h;rw[List.getElem?_append,List.length_replicate]at h;split at h
 · rename_i hn
   rw[List.getElem?_replicate,if_pos hn]at h;cases h;exact .inl rfl
 · rename_i hn
   unfold frees at h;rw[List.getElem?_map]at h;cases e:fv[j - n]? with
   |none=>rw[e]at h;cases h
   | some i=>
     rw[e]at h;have hs:oJ ρ[i]? =s:=by simpa using h
     subst hs;cases Eb:ρ[i]? with
     |none=>exact .inl rfl
     | some z=>
       cases z with
       |sh d=>exact .inr ⟨⟨d,rfl⟩,by omega,i,rfl,Eb⟩
       |_=>exact .inl rfl
def stC(n:Nat)(σ:L2.St)(fv:List Nat):L2.St:=List.replicate n none++fv.map fun i=>(σ[i]?).getD none
theorem wb{n:Nat}{fv:List Nat}(r:aM M H F σ ρ):aM M H F (stC n σ fv) (ent n ρ fv) where
 len:=by unfold stC ent frees;simp
 aN:=r.aN
 sh j d e:=by
   rcases gj e with z|⟨_,hn,i,hi,z⟩
   ·cases z
   · obtain⟨v,ev,rv⟩:=r.sh i d z
     refine⟨v,?_,rv⟩;unfold stC;rw[List.getElem?_append_right (by simpa using hn),List.length_replicate,List.getElem?_map,hi]
     simp[ev]
 ol j d e:=by rcases gj e with z|⟨⟨_,z⟩,_⟩<;>cases z
 od j k d e:=by rcases gj e with z|⟨⟨_,z⟩,_⟩<;>cases z
 bO j k a oj:=by
   exact(fJ (fun j s e=>(gj e).imp (fun h=>h) fun h=>h.1) oj).elim
 on:=.no fun j B7 e=>by rcases gj e with z|⟨⟨_,z⟩,_⟩<;>cases z
theorem mP{scope:Scope}{env:Env}:∀ {names:List (Str×NameKind)} {x:Str} {k:NameKind},(names.map fun(n,k)=>if(k==NameKind.free&&env.scope.kind==.function&&env.kindOf n==some .cell)then(n,NameKind.cell)else(n,k)).lookup x=some k→
   (k=.cell∨k=.free)→(x,NameKind.free)∈names∨(x,NameKind.cell)∈names
 |[],_,_,h,_=>by simp at h
 | (n,q)::r,x,k,h,hk=>by
   have ih:=@mP scope env r x k;have h':List.lookup x ((if(q==NameKind.free&&env.scope.kind==.function&&env.kindOf n==some .cell)=true then(n,NameKind.cell)else(n,q))::r.map fun(n,k)=>if(k==NameKind.free&&env.scope.kind==.function&&env.kindOf n==some .cell)then(n,NameKind.cell)else(n,k))=some k:=h
   cases hx:x==n with
   | true=>
     have:=beq_iff_eq.mp hx;subst this;by_cases hcnd:(q==NameKind.free&&env.scope.kind==.function&&env.kindOf x==some .cell)=true
     · have:q=.free:=by
         rw[Bool.and_eq_true,Bool.and_eq_true]at hcnd;have:=hcnd.1.1;cases q<;>first|rfl|cases this
       subst this;exact .inl List.mem_cons_self
     · rw[if_neg hcnd,List.lookup_cons,beq_self_eq_true]at h'
       cases h';rcases hk with rfl|rfl
       ·exact .inr List.mem_cons_self
       ·exact .inl List.mem_cons_self
   | false=>
     refine(ih ?_ hk).imp (List.mem_cons_of_mem _) (List.mem_cons_of_mem _);by_cases hcnd:(q==NameKind.free&&env.scope.kind==.function&&env.kindOf n==some .cell)=true
     ·rw[if_pos hcnd,List.lookup_cons,hx]at h';exact h'
     ·rw[if_neg hcnd,List.lookup_cons,hx]at h';exact h'
theorem lR{env:Env}:∀ {names:List (Str×NameKind)} {x:Str},names.lookup x=some .free→(names.map fun(n,k)=>if(k==NameKind.free&&env.scope.kind==.function&&env.kindOf n==some .cell)then(n,NameKind.cell)else(n,k)).lookup x=some .cell∨
   (names.map fun(n,k)=>if(k==NameKind.free&&env.scope.kind==.function&&env.kindOf n==some .cell)then(n,NameKind.cell)else(n,k)).lookup x=some .free
 |[],_,h=>by simp at h
 | (n,q)::r,x,h=>by
   show List.lookup x ((if(q==NameKind.free&&env.scope.kind==.function&&env.kindOf n==some .cell)=true then(n,NameKind.cell)else(n,q))::r.map fun(n,k)=>if(k==NameKind.free&&env.scope.kind==.function&&env.kindOf n==some .cell)then(n,NameKind.cell)else(n,k))=_∨
     List.lookup x ((if(q==NameKind.free&&env.scope.kind==.function&&env.kindOf n==some .cell)=true then(n,NameKind.cell)else(n,q))::r.map fun(n,k)=>if(k==NameKind.free&&env.scope.kind==.function&&env.kindOf n==some .cell)then(n,NameKind.cell)else(n,k))=_
   rw[List.lookup_cons]at h;by_cases hcnd:(q==NameKind.free&&env.scope.kind==.function&&env.kindOf n==some .cell)=true
   · rw[if_pos hcnd,List.lookup_cons]
     cases hx:x==n with
     |true=>exact .inl rfl
     |false=>rw[hx]at h;exact lR h
   · rw[if_neg hcnd,List.lookup_cons]
     cases hx:x==n with
     |true=>rw[hx]at h;exact .inr h
     |false=>rw[hx]at h;exact lR h
structure jl(X:Cx)(scope:Scope)(tn fv:List Str)(Cq:List Nat):Prop where
 kind:scope.kind=.function
 cells:∀y∈scope.names,y.2=.cell→scope.names.lookup y.1=some .cell
 names:∀y∈scope.names,y.2=.local→scope.names.lookup y.1=some .local
 free:∀y∈scope.names,y.2=.free→X.env.scope.names.lookup y.1=some .cell
 ni:∀y∈scope.names,y.2=.free→scope.names.lookup y.1=some .free
 AE:∀(j:Nat) i,Cq[j]? =some i→∃x,fv[j]? =some x∧X.N[i]? =some x∧(x,NameKind.free)∈scope.names
 len:fv.length=Cq.length
theorem vm (tn fv:List Str) (Cq:List Nat) {elt iter target:Expr} {ifs:List Expr} {scope:Scope} {it:bg} {tg:bj} {cs:List aF} {el:Xt} (Eg:∀e s,¬X.xe e s) (hc:X.calm=true) (ok:jl X scope tn fv Cq) (hi:JI X target iter it) (low:gO tn.length tg)
   (ht:∀cl C s H fp,JG (cT X scope cl C (tn++fv) s H fp) target tg) (Ei:∀cl C s H fp,iJ (cT X scope cl C (tn++fv) s H fp) ifs cs) (E6:∀cl C s H fp,JX (cT X scope cl C (tn++fv) s H fp) elt el)
   (hs:∀x,foldedSetIterable iter X.env x=pure x) {use:Option (Value→Sem Unit)} {Qc:Value→Shared→Prop} {pins:List (Addr×Obj)} {s:Shared} {all:List T} {p1:Pos} (I:Inv X pins σ H s) (hr:aM (ai X) H F σ ρ) (e:qp it tn.length Cq tg cs el ρ=.ok all)
   (Dn:∀D C s4 H' vs Hq bs F2 f,(∃m,s4.heap.Ns C m)→Inv X pins σ H' s4→bM X pins H' C→ae H Hq→Hq D=none→(∀b∈bs,H b=none)→bs.Nodup→(∀b,F2 b↔F b∨b∈bs)→ag (ai X) Hq F2 all vs bs→upd Hq D (.lst vs)=H'→compPost (model X.prog X.w) X.A X.xe use Qc (.ref D) C (.ok f) s4):
   wpAny (model X.prog X.w) X.A (comprehension (.ListComp elt [⟨target,iter,ifs,0⟩] scope pos) scope X.env p1 (newList []) false (eval iter X.env) use) Qc X.xe s:=by
 obtain⟨ds,ed,e⟩:=ak.mp e
 have hlen:ds.length≤sizeLine:=by
   by_cases h:ds.length≤bR
   ·exact h
   ·rw[if_neg h]at e;cases e
 rw[if_pos (show ds.length≤bR from hlen)]at e
 have ey:fQ tg cs el (ent tn.length ρ Cq) ds=.ok all:=e;obtain⟨cl,FA,CA,F9⟩:=y6 (scope:=scope) (env:=X.env) (fun y hy hf=>I.ok.has y.1 (.inl (ok.free y hy hf)));refine wpAny_comprehension_free (gs:=[]) rfl hs FA ok.kind ok.names ?_;refine L2.ao (hi pins s σ H _ I ⟨ρ,F,ds,hr,ed,fun J H' sm gv=>(⟨sm,gv⟩:ae H H'∧Gives (ai X) J H' F ds)⟩) fun v s1 h1=>L2.ao h1 fun IV s2 h2=>?_;obtain⟨K8,fp,J9,J,H2,rfl,I2,T,Du,f2,bG,gv⟩:=h2;have r2:=hr.same bG;have LQ:∀x c,cl.lookup x=some c→c<s2.heap.objs.size:=fun x c h=>let⟨v,cc⟩:=I2.cell x c (CA x c h);cc.lt
 refine wpAny_newObj_type (xE (fun x c h=>by show c<(Heap.push _ _).objs.size;rw[Heap.size_push];exact Nat.lt_succ_of_lt (LQ x c h)) (fun x y c hx hy=>I2.ok.inj x y c (CA x c hx) (CA y c hy)) fun Dc cells C3 CO HG Dd DA Gm=>?_)
 dsimp only at CO C3 Dd DA ⊢;generalize hD:s2.heap.objs.size=D at CO C3 Dd DA ⊢;generalize hP:s2.heap.push {cls:=.type "list",dict:=none,data:=.seq ([]:List Value).toArray}=HP at CO C3 Dd DA ⊢;have hC:HP.objs.size=D+1:=by rw[←hP,Heap.size_push,hD]
 generalize NW:HP.objs.size=C at CO Dd DA hC ⊢;have GD:∀b,b<s2.heap.objs.size→b≠C∧b≠D:=fun b hb=>by rw[hD]at hb;exact⟨by omega,by omega⟩
 have old:∀b o,s2.heap.get? b=some o→Dc.get? b=some o:=fun b o e=>C3 b o (hP▸Heap.get?_push_of_some _ e);have Ls:D≠C:=by omega
 have Ep:Dc.get? D=some {cls:=.type "list",data:=.seq ([]:List Value).toArray}:=C3 _ _ (hP▸(by rw[←hD];exact Heap.get?_push_size _ rfl))
 have nD:H2 D=none:=I2.au.fresh (Nat.le_of_eq hD);have nC:H2 C=none:=I2.au.fresh (by omega)
 have EU:ae H2 (upd H2 D (.lst [])):=ae.cQ nD _
 let X':Cx:=cT X scope cells C (tn++fv) s2 H2 fp
 have dZ:∀x c,cells.lookup x=some c→∀b∈fp,c≠b:=fun x c hx b hb=>by
   rcases Dd x c hx with h|⟨h,_⟩
   ·exact(f2 b hb).2.2.2.2.1 x c (CA x c h)
   · obtain⟨o,ho,_⟩:=T.obj _ _ Du b hb
     have:=Heap.lt_size ho;rw[hD]at this;exact Nat.ne_of_gt (Nat.lt_of_lt_of_le this (by omega))
 have Mj:X'.Ok:=by
   have II:=I2.ok.mod;refine⟨II,ok.kind,I2.ok.glob,I2.ok.blt,(show s2.heap.objs.size≤C by rw[hD];omega),HG,fun x hx=>?_,fun x c hf hx=>?_,fun h=>I2.ok.hd h,I2.ok.frames,.inl rfl,fun b hb=>?_,fun b o hb=>I2.bs b o hb,Nat.le_trans I2.ok.fA I2.sz,fun b o hb hx=>?_,fun b hb hf=>?_,I2.stack,I2.pQ⟩
   · have CK:(relabel scope X.env).names.lookup x=some .cell∨(relabel scope X.env).names.lookup x=some .free:=hx
     have Na:(x,NameKind.free)∈scope.names∨(x,NameKind.cell)∈scope.names:=by
       rcases CK with h|h
       ·exact mP (scope:=scope) h (.inl rfl)
       ·exact mP (scope:=scope) h (.inr rfl)
     by_cases hm:(x,NameKind.cell)∈scope.names
     · obtain⟨c,h5,_⟩:=DA x hm
       exact⟨c,h5⟩
     · obtain⟨c,h5⟩:=F9 x (Na.resolve_right hm)
       exact⟨c,Gm x c h5 hm⟩
   · have hf:decide ((x,NameKind.cell)∈scope.names)=true:=hf
     obtain⟨c',h5,h6⟩:=DA x (of_decide_eq_true hf);have hx:cells.lookup x=some c:=hx;rw[hx]at h5;cases h5;show s2.heap.objs.size≤c;rw[hD];omega
   · obtain⟨o,ho,_⟩:=T.obj _ _ Du b hb
     exact⟨(GD b (Heap.lt_size ho)).1,fun x c hx=>dZ x c hx b hb⟩
   · obtain⟨_,_,_,h4,_⟩:=f2 b hx
     rcases h4 with h4|h4
     ·exact I2.ok.iZ b o hb h4
     ·exact absurd (Nat.lt_of_lt_of_le (Heap.lt_size hb) (Nat.le_trans I2.ok.fA h4)) (Nat.lt_irrefl _)
   · obtain⟨_,h1,h2,_⟩:=f2 b hb
     exact(List.mem_cons.mp (I2.jL b hf)).elim h1 h2
 have G7:∀ {H':Hp},(∀b∈fp,H' b=none)→∀b∈fp,bM X' [] H' b:=fun hn b hb=>by
   obtain⟨o,ho,_⟩:=T.obj _ _ Du b hb;refine⟨hn b hb,(GD b (Heap.lt_size ho)).1,fun hf=>?_,.inl hb,fun x c hx=>dZ x c hx b hb,fun p hp=>nomatch hp⟩
   obtain⟨_,h1,h2,_⟩:=f2 b hb;exact(List.mem_cons.mp (I2.jL b hf)).elim h1 h2
 have I3:Inv X' [] (stC tn.length σ Cq) (upd H2 D (.lst [])) {s2 with heap:=Dc}:=by
   refine⟨Mj,rfl,I2.bare,Un.laid old (Nat.le_of_eq hD) nD,⟨_,CO,fun i x v hx hv NT=>?_⟩,fun x c hx=>?_,?_,fun x c hx=>?_,fun p hp=>(nomatch hp),I2.au.laid old (Nat.le_of_eq hD) ⟨Nat.zero_le _,[],0,.nil,Ep⟩,?_⟩
   · have hx:(tn++fv)[i]? =some x:=hx
     by_cases hn:i<tn.length
     · unfold stC at hv
       rw[List.getElem?_append_left (by simpa using hn),List.getElem?_replicate,if_pos hn]at hv
       cases hv
     · have Et:tn.length≤i:=by omega
       rw[List.getElem?_append_right Et]at hx;unfold stC at hv;rw[List.getElem?_append_right (by simpa using Et),List.length_replicate,List.getElem?_map]at hv
       cases ei:Cq[i - tn.length]? with
       |none=>rw[ei]at hv;cases hv
       | some k=>
         rw[ei]at hv;obtain⟨x',CK,hN,hf⟩:=ok.AE _ _ ei;rw[hx]at CK;cases CK
         have HL:σ[k]? =some (some v):=by
           have GG:(σ[k]?).getD none=some v:=by simpa using hv
           cases ek:σ[k]? with
           |none=>rw[ek]at GG;cases GG
           |some z=>rw[ek]at GG;exact congrArg some GG
         obtain⟨m,hm,hl⟩:=I2.loc;have C6:X.env.scope.names.lookup x=some .cell:=ok.free _ hf rfl;obtain⟨u,ru,lk⟩:=hl k x v hN HL (.inr (.inl C6));refine⟨u,ru,.inr ⟨?_,?_⟩⟩
         ·exact lR (env:=X.env) (ok.ni _ hf rfl)
         · rcases lk with⟨h1,_⟩|⟨_,c,GL,cc⟩
           ·rw[show X.env.kindOf x=X.env.scope.names.lookup x from rfl,C6]at h1;cases h1
           · obtain⟨c',C7⟩:=F9 x hf
             have:=CA x c' C7;rw[GL]at this;cases this;refine⟨c,Gm x c C7 fun hm=>?_,cc.keeps old⟩;have h1:=ok.cells _ hm rfl;have h2:=ok.ni _ hf rfl;dsimp only at h1 h2;rw[h1]at h2;cases h2
   · rcases Dd x c hx with hx|⟨_,cc⟩
     · obtain⟨v,cc⟩:=I2.cell x c (CA x c hx)
       exact⟨v,cc.keeps old⟩
     ·exact⟨_,cc⟩
   · show upd H2 D (.lst []) C=none
     rw[L2.aE (Ne.symm Ls)];exact nC
   · show upd H2 D (.lst []) c=none
     rcases Dd x c hx with hx|⟨Nl,_⟩
     · have h0:=I2.eM x c (CA x c hx)
       obtain⟨v,cc⟩:=I2.cell x c (CA x c hx);rw[L2.aE (GD c cc.lt).2];exact h0
     ·rw[L2.aE (Nat.ne_of_gt (by omega))];exact I2.au.fresh (by omega)
   · show(stC tn.length σ Cq).length=(tn++fv).length
     unfold stC;simp[ok.len]
 have hM:ai X'=ai X:=rfl;have Cr:∀(j:Nat) z,(ent tn.length ρ Cq)[j]? =some z→z=.un∨∃d,z=.sh d:=fun j z h=>(gj h).imp (fun h=>h) fun h=>h.1;have Dj:∀(j:Nat) B7,(ent tn.length ρ Cq)[j]? ≠some (.on B7):=fun j B7 e=>by rcases Cr j _ e with z|⟨_,z⟩<;>cases z
 have JB:∀ {Gp:Hp} {F':Addr→Prop} {bs:List Addr},(∀b,F' b↔F b∨b=D∨b∈bs)→(∀b∈bs,H2 b=none)→ae H2 Gp→Mv F H2 F' Gp:=fun hF hb sm b o n e=>⟨fun h=>((hF b).mp h).elim n (fun z=>z.elim (fun z=>by subst z;rw[nD]at e;cases e) fun z=>by rw[hb b z]at e;cases e),sm b o e⟩
 have r3:aM (ai X) (upd H2 D (.lst [])) (fun b=>F b∨b=D∨b∈([]:List Addr)) (stC tn.length σ Cq) (ent tn.length ρ Cq):=by
   have r0:=(wb (n:=tn.length) (fv:=Cq) r2)
   exact⟨r0.len,fun b f=>by
       by_cases hb:b=D
       ·subst hb;exact⟨_,L2.b6⟩
       · obtain⟨o,ho⟩:=r0.aN b (f.resolve_right fun z=>z.elim hb fun z=>nomatch z)
         exact⟨o,EU _ _ ho⟩,fun i d e=>let⟨v,h1,h2⟩:=r0.sh i d e;⟨v,h1,h2.mv (JB (bs:=[]) (fun _=>Iff.rfl) (fun _ z=>nomatch z) EU)⟩,fun i d e=>(fJ Cr (.inl ⟨_,e⟩)).elim,fun i k d e=>(fJ Cr (.inr ⟨_,_,e⟩)).elim,fun i j a o=>(fJ Cr o).elim,.no Dj⟩
 let R0:Result→Shared→Prop:=compPost (model X.prog X.w) X.A X.xe use Qc (.ref D) C
 have loop:codeAny (model X.prog X.w) X.A (.compLoop (.ListComp elt [⟨target,iter,ifs,0⟩] scope pos) 0 (.ref K8) (.ref D) X'.env) R0 {s2 with heap:=Dc}:=by
   refine y2 (fun n s'=>∃i B1 H' vs as bs F',n=ds.length - i∧i≤ds.length∧Inv X' [] B1 H' s'∧J9 i s'.heap∧(∀b∈fp,H' b=none)∧ae H2 H'∧H' D=some (.lst vs)∧vs.length≤i∧((∀b,F' b↔F b∨b=D∨b∈bs)∧(∀b∈bs,H2 b=none∧b≠D)∧bs.Nodup)∧ag (ai X) H' F' as vs bs∧
       aM (ai X) H' F' B1 (ent tn.length ρ Cq)∧∃rest,fQ tg cs el (ent tn.length ρ Cq) (ds.drop i)=.ok rest∧as++rest=all) ?_ ds.length
     ⟨0,_,_,[],[],[],_,rfl,Nat.zero_le _,I3,T.keep _ _ _ Du fun b _ o e=>old b o e,fun b hb=>?_,EU,L2.b6,Nat.zero_le _,⟨fun _=>Iff.rfl,fun _ z=>(nomatch z),List.nodup_nil⟩,by rw[ag];exact⟨rfl,rfl⟩,r3,all,ey,rfl⟩
   · rintro n s' ⟨i,B1,H',vs,as,bs,F',rfl,NZ,I',C2,J6,Gy,eD,ND,⟨hF,Fh,Im⟩,GP,rS,rest,Ci,Es⟩
     obtain⟨g1,g2⟩:=gv H' F' (JB hF (fun b hb=>(Fh b hb).1) Gy) rS.aN;by_cases Cv:i<ds.length
     · obtain ⟨go,gy⟩:=g1 i ds[i] (by simp[Cv])
       refine L2.ao (T.item X' rfl rfl rfl hc i [] s' B1 H' _ I' (G7 J6) C2 go) fun r s4 ⟨u,Fe,h4⟩=>?_;subst Fe;refine L2.ao h4 fun _ s5 ⟨x,H5,I5,r5,y5,E8,IP⟩=>?_;obtain⟨EB,rx⟩:=gy x H5 y5;rw[List.drop_eq_getElem_cons Cv]at Ci;unfold fQ at Ci;obtain⟨CJ,eg,Ci⟩:=ak.mp Ci;obtain⟨t,et,Ci⟩:=ak.mp Ci;have Nc:=rS.same EB;have rG:aK (ai X) H2 ⟨H2,fun _=>False,none⟩ H5 F' B1 (ent tn.length ρ Cq):=⟨Nc,Gy.trans EB,fun _ h=>h.elim,fun _ h=>h.elim,fun j a o=>(fJ Cr o).elim,fun j B7 _ e=>absurd e (Dj j B7),fun w hw=>nomatch hw⟩
       have HN:Inv X' ([]++L2.gL fp s5.heap) B1 H5 s5:=I5.pinned (G7 IP) (T.obj _ _ E8);refine wpAny_mono (ht cells C s2 H2 fp ⟨H2,fun _=>False,none⟩ _ s5 B1 H5 x u (fun Dz H6=>H6=H5∧aK (ai X) H2 ⟨H2,fun _=>False,none⟩ H5 F' Dz CJ) HN r5 ⟨ent tn.length ρ Cq,F',ds[i],CJ,rG,rx,eg,fun Dz r6=>⟨rfl,r6⟩⟩) (fun _ s6 ⟨Dz,H6,I6,h6,r6⟩=>?_) (fun e s f=>(Eg e s f).elim);subst h6;refine wpAny_mono (qu (X:=X') (M:=ai X) (E:=X.xe) rfl (fun _ _ h=>h) (Ei cells C s2 H2 fp) (Q:=fun b H7=>b=t∧ae H6 H7) I6 r6.rs et (fun H7 s7=>⟨rfl,s7⟩)) (fun b s7 ⟨H7,I7,hb,Ef⟩=>?_) (fun e s f=>(Eg e s f).elim);subst hb;have HJ:ae H2 H7:=(Gy.trans EB).trans Ef;have D7:H7 D=some (.lst vs):=Ef _ _ (EB _ _ eD);have Fv:=low _ _ _ eg
       have back:∀ {Gp:Hp} {Jp:Addr→Prop},aM (ai X) Gp Jp Dz CJ→aM (ai X) Gp Jp Dz (ent tn.length ρ Cq):=fun r=>r.less Fv.1.symm fun j z hz=>by
         rcases gj hz with h|⟨h,hn,_⟩
         ·exact .inl h
         ·exact .inr ⟨h,by rw[Fv.2 j hn];exact hz⟩
       have again:∀ {s8:Shared} {H8:Hp},Inv X' ([]++L2.gL fp s5.heap) Dz H8 s8→Inv X' [] Dz H8 s8∧J9 (i+1) s8.heap∧∀b∈fp,H8 b=none:=fun {s8 H8} I8=>by
         refine⟨I8.j6,T.keep _ _ _ E8 fun b hb o e=>(I8.pin (b,o) (List.mem_append_right _ (List.mem_append_right _ (L2.kg hb e)))).1,fun b hb=>?_⟩;obtain⟨o,e,d⟩:=T.obj _ _ E8 b hb;exact(I8.pin (b,o) (List.mem_append_right _ (List.mem_append_right _ (L2.kg hb e)))).2.1
       cases b with
       | false=>
         rw[if_neg (by decide)]at Ci
         rw[if_neg (by decide)]
         obtain⟨a1,a2,a3⟩:=again I7;exact⟨ds.length - (i+1),by omega,i+1,Dz,H7,vs,as,bs,F',rfl,Cv,a1,a2,a3,HJ,D7,by omega,⟨hF,Fh,Im⟩,GP.mv (.same (EB.trans Ef)) (fun b _ u f hu=>⟨f,Ef _ _ (EB _ _ hu)⟩),back (r6.rs.same Ef),rest,Ci,Es⟩
       | true=>
         rw[if_pos rfl]at Ci;rw[if_pos rfl];obtain⟨y,Nf,Ci⟩:=ak.mp Ci;obtain⟨L4,E7,Ci⟩:=ak.mp Ci;cases Ci;refine wpAny_mono (E6 cells C s2 H2 fp _ s7 Dz H7 (fun v H8=>∃F8 Ds,ae H7 H8∧(∀b∈Ds,H7 b=none)∧Ds.Nodup∧(∀b,F8 b↔F' b∨b∈Ds)∧ah (ai X) H8 F8 y v Ds) I7 ⟨CJ,F',y,r6.rs.same Ef,Nf,fun v H8 F8 Ds s8 h1 h2 h3 h4=>⟨F8,Ds,s8,h1,h2,h3,h4⟩⟩) (fun u2 s8 ⟨v,H8,I8,Lp,F8,Ds,FP,Gq,MT,FU,Gn⟩=>?_) (fun e s f=>(Eg e s f).elim);have D8:H8 D=some (.lst vs):=FP _ _ D7;refine wpAny_mono (L2.ro (X:=X') _ s8 Dz H8 (.ref D) [v] (.ref D) [u2] (fun _ H9=>H9=upd H8 D (.lst (vs++[v]))) I8 rfl (.cons Lp .nil) ⟨D,vs,v,rfl,rfl,D8,by omega,rfl⟩) (fun _ s9 ⟨_,H9,I9,_,h9⟩=>?_) (fun e s f=>(Eg e s f).elim)
         subst h9;obtain⟨a1,a2,a3⟩:=again I9;have JY:D∉Ds:=fun h=>by rw[Gq D h]at D7;cases D7
         have fD:F8 D:=(FU D).mpr (.inl ((hF D).mpr (.inr (.inl rfl))));have Ig:Mv F8 H8 F8 (upd H8 D (.lst (vs++[v]))):=fun b o n e=>⟨n,by rw[L2.aE (fun z=>by subst z;exact n fD)];exact e⟩
         have Lu:Mv F' H' F8 H8:=fun b o n e=>by
           have e7:=Ef _ _ (EB _ _ e);exact⟨fun f=>((FU b).mp f).elim n (fun hb=>by rw[Gq b hb]at e7;cases e7),FP _ _ e7⟩
         have Me:Mv F' H' F8 (upd H8 D (.lst (vs++[v]))):=Mv.trans Lu Ig
         have apart:∀a∈bs,∀b∈Ds,a≠b:=fun a ha b hb z=>by
           subst z;obtain⟨_,u,hu⟩:=GP.fs a ha;have:=Ef _ _ (EB _ _ hu);rw[Gq a hb]at this;cases this
         have FY:∀b∈bs,∀u,F' b→H' b=some u→F8 b∧upd H8 D (.lst (vs++[v])) b=some u:=fun b hb u f hu=>⟨(FU b).mpr (.inl f),by rw[L2.aE (Fh b hb).2];exact FP _ _ (Ef _ _ (EB _ _ hu))⟩
         have Gj:∀b∈Ds,∀u,F8 b→H8 b=some u→F8 b∧upd H8 D (.lst (vs++[v])) b=some u:=fun b hb u f hu=>⟨f,by rw[L2.aE (fun z=>by subst z;exact JY hb)];exact hu⟩
         have r8:=back ((r6.rs.same Ef).wide FP Gq FU (fun b hb=>(Gn.fs b hb).2)).2;refine⟨ds.length - (i+1),by omega,i+1,Dz,_,vs++[v],as++[y],bs++Ds,F8,rfl,Cv,a1,a2,a3,fun b o e=>?_,L2.b6,by simp;omega,⟨fun b=>?_,fun b hb=>?_,List.nodup_append.mpr ⟨Im,MT,apart⟩⟩,ag.append (GP.mv Me FY) ?_,?_,L4,E7,by rw[List.append_assoc];exact Es⟩
         ·rw[L2.aE (fun z=>by subst z;rw[nD]at e;cases e)];exact FP _ _ (HJ _ _ e)
         ·rw[FU b,hF b,List.mem_append,or_assoc,or_assoc]
         · rcases List.mem_append.mp hb with hb|hb
           ·exact Fh b hb
           ·exact⟨HJ.free (Gq b hb),fun z=>by subst z;exact JY hb⟩
         · rw[show Ds=Ds++[] by simp]
           simp only[ag];exact⟨v,[],Ds,[],rfl,rfl,Gn.mv Ig Gj,rfl,rfl⟩
         · exact⟨r8.len,fun b f=>by
             by_cases hb:b=D
             ·subst hb;exact⟨_,L2.b6⟩
             · obtain⟨o,ho⟩:=r8.aN b f
               exact⟨o,by rw[L2.aE hb];exact ho⟩,fun i d e=>let⟨v,h1,h2⟩:=r8.sh i d e;⟨v,h1,h2.mv Ig⟩,fun i d e=>(fJ Cr (.inl ⟨_,e⟩)).elim,fun i k d e=>(fJ Cr (.inr ⟨_,_,e⟩)).elim,fun i j a o=>(fJ Cr o).elim,.no Dj⟩
     · have ei:i=ds.length:=by omega
       subst ei;rw[List.drop_length]at Ci;cases Ci;rw[List.append_nil]at Es;subst Es;refine L2.ao (T.done X' rfl rfl rfl hc _ [] s' B1 H' _ I' (G7 J6) C2 g2) fun r s4 ⟨Fe,I4⟩=>?_;subst Fe;obtain⟨m,hm,_⟩:=I4.loc;have C4:H' C=none:=I4.free;have u4:Un (L2.bQ X.stack) fp H2 H' s2.heap s4.heap:=I4.base
       have I5:Inv X pins σ H' s4:=I2.kQ (s':=s4) (ch:=fp) I4.os u4 I4.au I4.bare fun b hb=>by
         obtain⟨_,a1,a2,a3,a4,a5⟩:=f2 b hb;exact⟨a3,a1,a4,a5⟩
       have fC:bM X pins H' C:=I2.iB (by omega) C4
       have hH:∃Hq:Hp,ae H Hq∧Hq D=none∧ag (ai X) Hq (fun b=>F b∨b∈bs) as vs bs∧upd Hq D (.lst vs)=H':=by
         refine⟨fun b=>if b=D then none else H' b,fun b o e=>?_,by simp,?_,?_⟩
         · have hb:b≠D:=fun z=>by subst z;have:=bG _ _ e;rw[nD]at this;cases this
           simp only[if_neg hb];exact Gy _ _ (bG _ _ e)
         · refine GP.mv (fun b o n e=>⟨fun f=>n ((hF b).mpr (f.imp id .inr)),?_⟩) fun b hb u f hu=>⟨.inr hb,?_⟩
           · have hb:b≠D:=fun z=>n ((hF b).mpr (.inr (.inl z)))
             simp only[if_neg hb];exact e
           · simp only[if_neg (Fh b hb).2]
             exact hu
         · funext b
           unfold upd;by_cases hb:b=D
           ·simp only[if_pos hb];rw[hb];exact eD.symm
           ·simp only[if_neg hb]
       obtain⟨Hq,q1,q2,q3,q4⟩:=hH;exact Dn D C s4 H' vs Hq bs _ _ ⟨m,hm⟩ I5 fC q1 q2 (fun b hb=>bG.free (Fh b hb).1) Im (fun _=>Iff.rfl) q3 q4
   · show upd H2 D (.lst []) b=none
     obtain⟨o,ho,_⟩:=T.obj _ _ Du b hb;rw[L2.aE (GD b (Heap.lt_size ho)).2];exact(f2 b hb).1
 exact codeAny_compStart_list loop (T.self _ 0 _ _ _ (T.keep _ _ _ Du fun b _ o e=>old b o e) loop)
theorem Ah(tn fv:List Str)(Cq:List Nat){elt iter target:Expr}{ifs:List Expr}{scope:Scope}{it:bg}{tg:bj}{cs:List aF}{el:Ex}(Eg:∀e s,¬X.xe e s)(hc:X.calm=true)(ok:jl X scope tn fv Cq)(hi:JI X target iter it)(low:gO tn.length tg)
   (ht:∀cl C s H fp,JG (cT X scope cl C (tn++fv) s H fp) target tg) (Ei:∀cl C s H fp,iJ (cT X scope cl C (tn++fv) s H fp) ifs cs) (E6:∀cl C s H fp,JE (cT X scope cl C (tn++fv) s H fp) elt el)
   (hs:∀x,foldedSetIterable iter X.env x=pure x) {use:Option (Value→Sem Unit)} {Qc:Value→Shared→Prop} {pins:List (Addr×Obj)} {s:Shared} {all:List D} {p1:Pos} (I:Inv X pins σ H s) (hr:aM (ai X) H F σ ρ) (e:cY it tn.length Cq tg cs el ρ=.ok (.lst all))
   (Dn:∀D C s4 H' vs Hq f,(∃m,s4.heap.Ns C m)→Inv X pins σ H' s4→bM X pins H' C→ae H Hq→Hq D=none→ab (ai X) Hq F all vs→upd Hq D (.lst vs)=H'→compPost (model X.prog X.w) X.A X.xe use Qc (.ref D) C (.ok f) s4):
   wpAny (model X.prog X.w) X.A (comprehension (.ListComp elt [⟨target,iter,ifs,0⟩] scope pos) scope X.env p1 (newList []) false (eval iter X.env) use) Qc X.xe s:=by
 obtain⟨ds,ed,e⟩:=ak.mp e
 have hlen:ds.length≤bR:=by
   by_cases h:ds.length≤bR
   ·exact h
   ·rw[if_neg h]at e;cases e
 rw[if_pos hlen]at e;obtain⟨ys,ey,e⟩:=ak.mp e;cases e;refine vm (all:=all.map .d) (el:=xD el) tn fv Cq Eg hc ok hi low ht Ei (fun cl C s H fp=>uH (E6 cl C s H fp)) hs I hr (by unfold qp;rw[ed,R.aY,if_pos hlen];exact mJ ey) fun D C s4 H' vs Hq bs F2 f hm I5 fC q1 q2 q3 q4 q5 q6 q7=>?_
 obtain⟨rfl,rs⟩:=lE.mp q6;exact Dn D C s4 H' vs Hq f hm I5 fC q1 q2 (rs.mv fun b o n e=>⟨fun h=>n ((q5 b).mpr (.inl h)),e⟩) q7
theorem sf(tn fv:List Str)(Cq:List Nat){elt iter target:Expr}{ifs:List Expr}{scope:Scope}{it:bg}{tg:bj}{cs:List aF}{el:Ex}(Eg:∀e s,¬X.xe e s)(hc:X.calm=true)(ok:jl X scope tn fv Cq)(hi:JI X target iter it)(low:gO tn.length tg)
   (ht:∀cl C s H fp,JG (cT X scope cl C (tn++fv) s H fp) target tg) (Ei:∀cl C s H fp,iJ (cT X scope cl C (tn++fv) s H fp) ifs cs) (E6:∀cl C s H fp,JE (cT X scope cl C (tn++fv) s H fp) elt el)
   (hs:∀x,foldedSetIterable iter X.env x=pure x):JF X (.ListComp elt [⟨target,iter,ifs,0⟩] scope pos) (cY it tn.length Cq tg cs el):=by
 intro pins s σ H Q I ⟨ρ,F,all,hr,e,q⟩;show wpAny _ _ (comprehension (.ListComp elt [⟨target,iter,ifs,0⟩] scope pos) scope X.env _ (newList []) false (eval iter X.env) none) _ _ s;refine Ah tn fv Cq Eg hc ok hi low ht Ei E6 hs I hr e fun D C s4 H' vs Hq f hm I5 fC q1 q2 q3 q4=>?_;obtain⟨m,hm⟩:=hm;refine⟨m,hm,fun h' C5=>⟨.ref D,H',I5.turned (t':=s4.toks) (fun b o n e=>by rw[C5.2 b n];exact e) fC.1 fC.2.1 fC.2.2.2.1 fC.2.2.2.2.1 fC.2.2.2.2.2,rfl,?_⟩⟩
 rw[←q4];exact q D Hq vs q1 q2 q3
end
section
variable{X:Cx}{M:Md}{G H H':Hp}{F0:Gf}{F F':Addr→Prop}{σ:L2.St}{ρ:En}{pos:Pos}{pins:List (Addr×Obj)}{s:Shared}
theorem ve{e:Expr}{f:Ex}(h:JF X e f)(hl:∀ρ d,f ρ=.ok d→∃ds,d=.lst ds):JE X e f:=
 bx h fun σ H Q ⟨ρ,F,d,hr,e,q⟩=>by
   obtain⟨ds,rfl⟩:=hl _ _ e;exact⟨ρ,F,ds,hr,e,fun p H' xs sm hp rs=>q _ _ (sm.trans (ae.cQ hp _)) (ke (hr.same sm).aN hp rs)⟩
theorem ux{it:bg}{n:Nat}{fv:List Nat}{tg:bj}{cs:List aF}{el:Ex}(ρ:En)(d:D)(h:cY it n fv tg cs el ρ=.ok d):∃ds,d=.lst ds:=by
 obtain⟨ds,_,h⟩:=ak.mp h;split at h
 · obtain⟨ys,_,h⟩:=ak.mp h
   cases h;exact⟨_,rfl⟩
 ·cases h
noncomputable def nN(Gx:Scope)(N0:List Str)(scope:Scope)(fv:List Str)(Cq:List Nat):Bool:=
 decide (scope.kind=.function)&&scope.names.all (fun y=>(decide (y.2≠.cell)||decide (scope.names.lookup y.1=some .cell))&&(decide (y.2≠.local)||decide (scope.names.lookup y.1=some .local))&&(decide (y.2≠.free)||(decide (Gx.names.lookup y.1=some .cell)&&decide (scope.names.lookup y.1=some .free))))
   &&decide (fv.length=Cq.length)&&(Cq.zip fv).all (fun p=>decide (N0[p.1]? =some p.2)&&decide ((p.2,NameKind.free)∈scope.names))
theorem mY{scope:Scope}{tn fv:List Str}{Cq:List Nat}(Gx:Scope)(N0:List Str)(h1:X.env.scope=Gx)(h2:X.N=N0)(h:nN Gx N0 scope fv Cq=true):jl X scope tn fv Cq:=by
 subst h1 h2;unfold nN at h;rw[Bool.and_eq_true,Bool.and_eq_true,Bool.and_eq_true,decide_eq_true_eq,decide_eq_true_eq,List.all_eq_true,List.all_eq_true]at h;obtain⟨⟨⟨hk,hn⟩,hl⟩,hf⟩:=h
 have Et:∀y∈scope.names,(y.2≠.cell∨scope.names.lookup y.1=some .cell)∧(y.2≠.local∨scope.names.lookup y.1=some .local)∧(y.2≠.free∨(X.env.scope.names.lookup y.1=some .cell∧scope.names.lookup y.1=some .free)):=fun y hy=>by
   have:=hn y hy;simp only[Bool.and_eq_true,Bool.or_eq_true,decide_eq_true_eq]at this;exact⟨this.1.1,this.1.2,this.2⟩
 refine⟨hk,fun y hy hl=>(Et y hy).1.resolve_left (fun h=>h hl),fun y hy hl=>(Et y hy).2.1.resolve_left (fun h=>h hl),fun y hy hl=>((Et y hy).2.2.resolve_left (fun h=>h hl)).1,fun y hy hl=>((Et y hy).2.2.resolve_left (fun h=>h hl)).2,fun j i hj=>?_,hl⟩;obtain⟨NL,_⟩:=List.getElem?_eq_some_iff.mp hj;have hx:fv[j]? =some (fv[j]'(by omega)):=List.getElem?_eq_getElem (by omega)
 have hm:(i,fv[j]'(by omega))∈Cq.zip fv:=by
   refine List.mem_iff_getElem?.mpr ⟨j,?_⟩;rw[List.getElem?_zip_eq_some];exact⟨hj,hx⟩
 have:=hf _ hm;simp only[Bool.and_eq_true,decide_eq_true_eq]at this;exact⟨_,hx,this.1,this.2⟩
theorem ll{d:D}{v:V}(f:flat d=true)(r:Rep M H F d v):L2.gw v=true:=by
 cases d<;>first|(simp only[Rep]at r;subst r;rfl)|(cases f)
theorem nL:∀ {ds:List D} {vs:List V},ds.all flat=true→ab M H F ds vs→vs.all L2.gw=true
 |[],_,_,r=>by simp only[ab]at r;subst r;rfl
 | d::ds,_,f,r=>by
   rw[List.all_cons,Bool.and_eq_true]at f;simp only[ab]at r;obtain⟨x,t,rfl,r1,r2⟩:=r;rw[List.all_cons,ll f.1 r1,nL f.2 r2];rfl
theorem uY{a b:D}{x y:V}(fa:flat a=true)(fb:flat b=true)(ra:Rep M H F a x)(rb:Rep M H F b y):L2.fL x y=bo a b:=by
 cases a<;>(try cases fa)<;>cases b<;>(try cases fb)<;>simp only[Rep]at ra rb<;>subst ra<;>subst rb<;>first|rfl|(simp only[L2.fL,bo];exact str_beq _ _)
theorem oz{ks:List Ky}{xs:List V}{ds:List D}:∀(k:Ky),ks.length=xs.length→ab M H F ds xs→(bK k ks ds=none→L2.b3 (ks.zip xs) k=none)∧∀d,bK k ks ds=some d→∃v,L2.b3 (ks.zip xs) k=some v∧Rep M H F d v:=by
 induction ks generalizing xs ds with
 | nil=>
   intro k hl r;cases xs with
   |nil=>exact⟨fun _=>rfl,fun d h=>by simp[bK]at h⟩
   |cons _ _=>simp at hl
 | cons a ks ih=>
   intro k hl r;cases xs with
   |nil=>simp at hl
   | cons x xs=>
     cases ds with
     |nil=>simp only[ab]at r;cases r
     | cons d0 ds=>
       simp only[ab]at r;obtain⟨x',t,e,r1,r2⟩:=r;cases e;have ih:=ih (xs:=xs) (ds:=ds) k (by simpa using hl) r2
       have hz:(a::ks).zip (x::xs)=(a,x)::ks.zip xs:=rfl;rw[hz];by_cases hk:a=k
       · subst hk
         have h1:L2.b3 ((a,x)::ks.zip xs) a=some x:=by simp[L2.b3]
         refine⟨fun h=>by simp[bK]at h,fun d h=>⟨x,h1,?_⟩⟩
         simp[bK]at h;subst h;exact r1
       · have h1:L2.b3 ((a,x)::ks.zip xs) k=L2.b3 (ks.zip xs) k:=by simp[L2.b3,hk]
         rw[h1];refine⟨fun h=>ih.1 (by simpa[bK,hk] using h),fun d h=>ih.2 d (by simpa[bK,hk] using h)⟩
theorem je{d:D}{k:Ky}{v:V}(h:keyOf d=some k)(r:Rep M H F d v):v=L2.kV k:=by
 cases d with
 |int i=>cases h;exact ba r
 |str x=>cases h;exact cM r
 |_=>cases h
theorem pd{a:Addr}{ks:List Ky}{ds:List D}{xs:List V}(I:Inv X pins σ H s)(h:g0 (ai X) H F a (ks.zip xs))(hl:ks.length=xs.length)(rs:ab (ai X) H F ds xs)(k:Ky):
   ∃vs,s.heap.DictOf (L2.bc X.prog X.w) a vs∧(a==sysModules)=false∧(bK k ks ds=none→valueAt vs k=none)∧∀d,bK k ks ds=some d→∃v u,valueAt vs k=some u∧RelV v u∧Rep (ai X) H F d v:=by
 obtain⟨z,hd,vs,rel,dd⟩:=j8 I h;obtain⟨f1,f2⟩:=oz (M:=ai X) (H:=H) (F:=F) k hl rs;refine⟨vs,dd,hd,fun hn=>?_,fun d MW=>?_⟩
 ·exact L2.cu.none_of (by rw[←f1 hn];exact L2.KV.val rel k)
 · obtain⟨v,hv,rv⟩:=f2 d MW
   obtain⟨u,hu,ru⟩:=L2.cu.some_of (v:=v) (o:=valueAt vs k) (by rw[←hv];exact L2.KV.val rel k)
   exact⟨v,u,hu,ru,rv⟩
def pJ(M:Md):R2:=fun x y H Q=>L2.lN M.K x y H Q∨∃F a b d,Rep M H F a x∧Rep M H F b y∧jV a b=.ok d∧∀v,Rep M H F d v→Q v H
theorem xK:L2.dD X (pJ (ai X)):=by
 refine L2.dD.or L2.wY ?_;intro value slice pins s σ H x y v u Q I rx ry h hs;obtain⟨F,a,b,d,ra,rb,e,q⟩:=h;unfold jV at e;split at e
 · rename_i ks vs
   split at e
   · rename_i k hk
     split at e
     · rename_i d' hf
       cases e;simp only[Rep]at ra;obtain⟨p,xs,rfl,h1,hl,rs⟩:=ra;cases rx;cases je hk rb;obtain⟨ws,dd,hd,f1,f2⟩:=pd I h1 hl rs k;obtain⟨w,w',hw,Dx,rd⟩:=f2 _ hf;exact PyProof.Rows.tail_any dd.typeIs PySem.F.slot_dict_getitem.lookup (wpAny_getItem_of (L2.gi ry) dd.mapOf hw ⟨w,H,I.tok _,Dx,q w rd⟩) hs
     ·cases e
   ·cases e
 ·cases e
theorem y7:bC M aD (pJ M):=by
 intro F H x y a b d Q tr ra rb e q;cases a with
 |lst xs=>exact .inl (lJ F H x y _ b d Q tr ra rb e q)
 |tup xs=>exact .inl (lJ F H x y _ b d Q tr ra rb e q)
 |str z=>exact .inl (lJ F H x y _ b d Q tr ra rb e q)
 |aV ks vs=>exact .inr ⟨F,_,b,d,ra,rb,e,fun v rv=>q v H (ae.refl H) rv⟩
 |_=>cases e
theorem yc{a b:Expr}{fa fb:Ex}(ha:JE X a fa)(hb:JE X b fb)(hs:L2.j2 b:=by exact fun _ _=>rfl):JE X (.Subscript a b pos) (e2 aD fa fb):=
 bx (L2.sW xK ha hb hs) fun σ H Q h=>j9 y7 h
end
section
variable{X:Cx}{M:Md}{G H H':Hp}{F0:Gf}{F F':Addr→Prop}{σ:L2.St}{ρ:En}{pos:Pos}{pins:List (Addr×Obj)}{s:Shared}
theorem qP:∀ {ds:List D} {d:D},allB ds=.ok d→∃bs:List Bool,ds=bs.map D.bl∧d=.bl (bs.all id)
 |[],d,h=>by cases h;exact⟨[],rfl,rfl⟩
 | x::ds,d,h=>by
   cases x with
   | bl b=>
     obtain⟨z,hz,h⟩:=ak.mp h;obtain⟨bs,rfl,rfl⟩:=qP hz;cases h;exact⟨b::bs,rfl,rfl⟩
   |_=>cases h
theorem qQ:∀ {bs:List Bool} {xs:List V},ab M H F (bs.map D.bl) xs→xs=bs.map V.bl
 |[],_,r=>by simpa[ab] using r
 | b::bs,_,r=>by
   simp only[List.map_cons,ab]at r;obtain⟨x,t,rfl,h1,h2⟩:=r;rw[qQ h2,dz h1];rfl
theorem oA:∀ {bs:List Bool} {us:List Value},Vals (bs.map V.bl) us→us=bs.map Value.bool
 |[],_,.nil=>rfl
 |b::bs,_,.cons r t=>by cases r;rw[oA t];rfl
theorem all_range(bs:List Bool):((List.range bs.length).drop 0).all (fun i=>bs.getD i false)=bs.all id:=by
 rw[List.drop_zero]
 induction bs with
 |nil=>rfl
 | cons b bs ih=>
   rw[List.length_cons,List.range_succ_eq_map,List.all_cons,List.all_map,List.all_cons, ←ih];rfl
theorem yz(hc:X.calm=true):aW X (.builtin "all") (fun xs H Q=>∃(F:Addr→Prop) (p:Addr) (bs:List Bool),xs=[.ref p]∧Rep (ai X) H F (.lst (bs.map D.bl)) (.ref p)∧Q (.bl (bs.all id)) H):=by
 intro pins s σ H xs us Q I r h;obtain⟨F,p,bs,rfl,rp,q⟩:=h;obtain⟨u,rfl,ru⟩:=L2.vals1 r;cases ru;simp only[Rep]at rp;obtain⟨p',xs,e,hl,rs⟩:=rp;cases e;obtain⟨y',rv,pl,hz⟩:=I.list hl.sq;cases qQ rs;cases oA rv;have hh:X.A.in1.in1.handled=none:=I.ok.hd hc;have Cv:p<s.heap.objs.size:=by obtain⟨o,n,e,_⟩:=pl;exact Heap.lt_size e
 refine call_function_tree PySem.F.kind_all PySem.F.plain_all PySem.F.entry_all (PySem.F.args_all1 _) ?_;show wpAny _ _ (pyIter (.ref p) >>= _) _ _ s;refine wpAny_bind (wpAny_pyIter_list pl.isList (wpAny_pure ⟨plainId_quiet PySem.F.plain_all_loop _,?_⟩));have hsz:((bs.map Value.bool).toArray).size=bs.length:=by simp
 have W:=Walks.list (prog:=X.prog) (w:=X.w) (A:=X.A.in1) (I.ok.hd hc) s.heap.objs.size p (Nat.ne_of_lt Cv) (bs.map Value.bool).toArray;rw[hsz]at W;refine codeAny_all_loop (A:=X.A) W (fun i=>bs.getD i false) (fun i v s' Q' E' hP hQ=>?_) (bs.length - 0) 0 _ rfl (Nat.zero_le _) ⟨⟨_,Heap.get?_push_size _ rfl,rfl,rfl⟩,Heap.IsList.push pl.isList _⟩ (fun h' tk hk=>?_)
 · have hP:(bs.map Value.bool).toArray[i]? =some v:=hP
   have hQ:Q' (bs.getD i false) s':=hQ
   have:∃b,v=.bool b∧bs.getD i false=b:=by
     rw[List.getElem?_toArray,List.getElem?_map]at hP;cases e:bs[i]? with
     |none=>rw[e]at hP;cases hP
     |some b=>rw[e]at hP;cases hP;exact⟨b,rfl,by simp[e]⟩
   obtain⟨b,rfl,hb⟩:=this;rw[hb]at hQ;exact wpAny_truthy_bool hQ
 · show EP X pins σ Q _ _
   rw[all_range];have I1:Inv X pins σ H {s with heap:=s.heap.push {cls:=.type "list_iterator",data:=.fields #[.ref p,.int 0 0]} }:=I.kept (t':=s.toks) fun b o e=>Heap.get?_push_of_some _ e;have fp:=I.iB (H':=H) (b:=s.heap.objs.size) (Nat.le_refl _) (I.au.fresh (Nat.le_refl _));obtain⟨f0,f1,f2,f3,f4,f5⟩:=fp;exact⟨.bl _,H,I1.turned (it:=s.heap.objs.size) (t':=tk) (fun b o hb e=>hk b o (by simpa using hb) e) f0 f1 f3 f4 f5,rfl,q⟩
theorem sr:de M (g1 m7) (fun xs H Q=>∃(F:Addr→Prop) (p:Addr) (bs:List Bool),xs=[.ref p]∧Rep M H F (.lst (bs.map D.bl)) (.ref p)∧Q (.bl (bs.all id)) H):=by
 intro F H xs as d Q tr rs e q;unfold g1 at e;split at e
 · obtain⟨x,rfl,r⟩:=rs.one
   unfold m7 at e;split at e
   · obtain⟨bs,rfl,rfl⟩:=qP e
     have r':=r;simp only[Rep]at r;obtain⟨p,ys,rfl,_⟩:=r;exact⟨F,p,bs,rfl,r',q _ _ (ae.refl _) dO⟩
   ·cases e
 ·cases e
theorem lG{o e:Expr}{apos A':Pos}{m:Str}(hb:attributeBase o m X.env (eval o X.env)=eval o X.env)(hn:eQ e=true)(hl:(apos.endLine==A'.line)=true):L2.M1 X o m apos e A':=
 ⟨hb,mM (by simp[hn]) (show 1<30 by decide),hl,by rw[bf hn];rfl⟩
theorem zA{o e:Expr}{fo fe:Ex}{apos A':Pos}(ho:JE X o fo)(he:JE X e fe)(m:L2.M1 X o "get" apos e A'):JE X (.Call (.Attribute o "get" apos) [e] [] A') (e2 (eT .aq) fo fe):=by
 intro pins s σ H Q I ⟨ρ,F,d,hr,e,q⟩;obtain⟨a,ea,e⟩:=ak.mp e;obtain⟨b,eb,e⟩:=ak.mp e;refine wpAny_Call_method m.base m.iX m.line PySem.F.plainAttrs_dict PySem.F.slot_dict_get PySem.F.type_dict_get (L2.ao (ho pins s σ H _ I ⟨ρ,F,a,hr,ea,fun v H1 s1 rv=>(⟨s1,rv⟩:ae H H1∧Rep (ai X) H1 F a v)⟩) fun u s1 ⟨x,H1,I1,rx,Fi,ra⟩=>?_);cases a with
 | aV ks vs=>
   cases hk:keyOf b with
   |none=>simp only[eT,hk]at e;cases e
   | some k=>
     simp only[eT,hk]at e;cases e;have NQ:=ra;simp only[Rep]at ra;obtain⟨p,xs,rfl,h1,hl,rs⟩:=ra;cases rx;obtain⟨_,_,ws,_,o',es,ep,e1,e2,e3,_⟩:=j8 I1 h1;refine⟨⟨o',e1,e2.1⟩,fun c hc=>by cases hc;exact⟨o',e1,e2.2.1⟩,?_⟩
     rw[m.trees];refine Calls.callWith_builtin rfl (Calls.evalArgs_plain (Calls.spliced_cons (L2.ao (he pins s1 σ H1 _ I1 ⟨ρ,F,b,hr.same Fi,eb,fun v H2 s2 rv=>(⟨s2,rv⟩:ae H1 H2∧Rep (ai X) H2 F b v)⟩) fun iv s2 ⟨y,H2,I2,ry,bG,rb⟩=>Calls.spliced_nil ?_)));have h2:=h1.mv (M:=ai X) (F':=F) (.same bG);have DI:=rs.mv (M:=ai X) (F':=F) (.same bG);cases je hk rb;obtain⟨ws,dd,hd,f1,f2⟩:=pd I2 h2 hl DI k;refine call_meetsIn PySem.F.slot_dict_get dd.typeIs PySem.F.entry_dict_get (PySem.F.args_dict_get_2 _ _) (meets_dict_get (L2.bc X.prog X.w) p (L2.gi ry) hd) ⟨_,dd.mapOf,?_⟩;cases hf:bK k ks vs with
     | none=>
       rw[f1 hf];rw[hf]at q;exact⟨.aq,H2,I2.tok _,rfl,q _ _ (Fi.trans bG) lu⟩
     | some d'=>
       obtain⟨v,w,hw,Dx,rd⟩:=f2 d' hf;rw[hw];rw[hf]at q;exact⟨v,H2,I2.tok _,Dx,q _ _ (Fi.trans bG) rd⟩
 |_=>cases e
end
section
variable{prog:Program}{w:World}{A:Around}{E:Value→Shared→Prop}{s:Shared}
theorem Ac{it t:Addr}{i:Nat}{items:Array Value}{x:Value}{Q:Value→Shared→Prop}(hit:s.heap.IsTupleIter it t i)(ht:s.heap.IsTuple t items)(hx:items[i]? =some x)
   (hQ:∀h',h'.IsTupleIter it t (i+1)→Heap.SameBut it s.heap h'→Q x {s with heap:=h'}):wpAny (model prog w) A (Builtin.SmallTypes.nextOf (.ref it)) Q E s:=by
 obtain⟨oi,EK,Jt,Em⟩:=id hit;obtain⟨ot,HS,_,nt,Gd⟩:=ht;unfold Builtin.SmallTypes.nextOf;refine wpAny_bind (wpAny_callSpecial?_slot (name:=Str.ofString "__next__") hit.typeIs PySem.F.slot_tuple_iterator_next (wpAny_call_entry PySem.F.slot_tuple_iterator_next hit.typeIs PySem.F.entry_tuple_iterator_next ?_ (PySem.F.args_tuple_iterator_next_1 _)));show wpAny _ _ (PySem.field (.ref it) 0 >>= _) _ _ s;refine wpAny_bind (wpAny_field EK Em (x:=.ref t) rfl ?_);show wpAny _ _ (if(Value.ref t==Value.none)=true then _ else _) _ _ s;rw[if_neg (show ¬((Value.ref t==Value.none)=true)from Bool.false_ne_true)]
 show wpAny _ _ (PySem.field (.ref it) 1 >>= _) _ _ s;refine wpAny_bind (wpAny_field EK Em (x:=.int i 0) rfl ?_);show wpAny _ _ (seqItems? (.ref t) >>= _) _ _ s;refine wpAny_bind (wpAny_seqItems HS Gd ?_);simp only[Int.toNat_natCast,hx];exact wpAny_bind (wpAny_setField EK Em (by simp) (wpAny_pure ⟨x,rfl,wpAny_pure (hQ _ ⟨_,Heap.get?_update_self _ EK (Obj.isFreed_of_fields (Obj.data_mapFields Em _)),(Obj.cls_mapFields ..).trans Jt,by rw[Obj.data_mapFields Em];simp[rawInt]⟩ (Heap.SameBut.update ..))⟩))
theorem AH{it t:Addr}{i:Nat}{items:Array Value}{Q:Value→Shared→Prop}(hh:A.handled=none)(hit:s.heap.IsTupleIter it t i)(ht:s.heap.IsTuple t items)(hx:items[i]? =none)
   (hE:∀h' e,Heap.ExtBut it s.heap h'→(∃o,h'.get? e=some o∧o.cls=.type "StopIteration")→E (.ref e) {s with heap:=h'}):wpAny (model prog w) A (Builtin.SmallTypes.nextOf (.ref it)) Q E s:=by
 obtain⟨oi,EK,Jt,Em⟩:=id hit;obtain⟨ot,HS,_,nt,Gd⟩:=ht;unfold Builtin.SmallTypes.nextOf;refine wpAny_bind (wpAny_callSpecial?_slot (name:=Str.ofString "__next__") hit.typeIs PySem.F.slot_tuple_iterator_next (wpAny_call_entry PySem.F.slot_tuple_iterator_next hit.typeIs PySem.F.entry_tuple_iterator_next ?_ (PySem.F.args_tuple_iterator_next_1 _)));show wpAny _ _ (PySem.field (.ref it) 0 >>= _) _ _ s;refine wpAny_bind (wpAny_field EK Em (x:=.ref t) rfl ?_);show wpAny _ _ (if(Value.ref t==Value.none)=true then _ else _) _ _ s;rw[if_neg (show ¬((Value.ref t==Value.none)=true)from Bool.false_ne_true)]
 show wpAny _ _ (PySem.field (.ref it) 1 >>= _) _ _ s;refine wpAny_bind (wpAny_field EK Em (x:=.int i 0) rfl ?_);show wpAny _ _ (seqItems? (.ref t) >>= _) _ _ s;refine wpAny_bind (wpAny_seqItems HS Gd ?_);simp only[Int.toNat_natCast,hx];refine wpAny_bind (wpAny_rule (wpAny_bind (wpAny_setField EK Em (by simp) ?_)))
 show wpAny _ _ (newExc (.type "StopIteration") [] >>= _) _ _ _;refine wpAny_bind ?_;simp only[newExc,newTuple];refine wpAny_bind (wpAny_newObj_type (wpAny_bind (m:=firstArgMember _ _) (wpAny_of_eq (a:=Value.none) (by first|rfl|(simp only[firstArgMember];rfl)) (wpAny_newObj_type ?_ (by size_fits)))) (by size_fits))
 simp only[raiseNew];refine wpAny_bind (wpAny_handled ?_)
 first|rw[show A.in1.handled=none from hh]|rw[hh]
 exact wpAny_bind (wpAny_pure (wpAny_throw (hE _ _ (((Heap.SameBut.update ..).extBut.push _).push _) ⟨_,Heap.get?_push_size _ rfl,rfl⟩)))
end
theorem Ay{prog:Program}{w:World}{A:Around}(hh:A.handled=none)(it l:Addr)(B5:l≠it)(items:Array Value):
   Draws prog w A it [it,l] items.size (fun i v=>items[i]? =some v) (fun i h=>h.IsTupleIter it l i∧h.IsTuple l items) where
 live _ _ st:=let⟨o,ho,_⟩:=st.1;⟨o,ho⟩
 frame _ _ _ st hk:=⟨let⟨o,ho,r⟩:=st.1;⟨o,hk it (by simp) o ho,r⟩,let⟨o,ho,r⟩:=st.2;⟨o,hk l (by simp) o ho,r⟩⟩
 item i s Q E hi st hQ:=Ac st.1 st.2 (x:=items[i]) (by simp[hi]) fun h' Hd J5=>hQ _ h' s.toks (by simp[hi]) ⟨Hd,let⟨o,ho,r⟩:=st.2;⟨o,J5.extBut l o B5 ho,r⟩⟩ J5
 done s Q E st hE:=AH hh st.1 st.2 (by simp) hE
structure jC(z TI TO i1 i2:Addr)(f1 f2:List Addr):Prop where
 TIz:TI≠z
 TOz:TO≠z
 i1z:i1≠z
 i2z:i2≠z
 TITO:TI≠TO
 TIi1:TI≠i1
 TIi2:TI≠i2
 TOi1:TO≠i1
 TOi2:TO≠i2
 i12:i1≠i2
 jN:z∉f1
 pe:TO∉f1
 x3:i2∉f1
 lP:z∉f2
 lC:TO∉f2
 p0:i1∉f2
section
variable{prog:Program}{w:World}{A:Around}{E:Value→Shared→Prop}{s:Shared}{z TI TO i1 i2:Addr}{f1 f2:List Addr}{n1 n2 k:Nat}{P1 P2:Nat→Value→Prop}{S1 S2:Nat→Heap→Prop}{a b:Value}
theorem fr_but{prog:Program}{w:World}{A:Around}{it:Addr}{fp:List Addr}{n:Nat}{P:Nat→Value→Prop}{St:Nat→Heap→Prop}(D:Draws prog w A it fp n P St){i:Nat}{c:Addr}{h h':Heap}(st:St i h)(hc:c∉fp)(hs:Heap.SameBut c h h'):St i h':=
 D.frame i h h' st fun b hb o e=>hs.extBut b o (fun q=>hc (by rw[←q];exact hb)) e
theorem A6(D1:Draws prog w A i1 f1 n1 P1 S1)(D2:Draws prog w A i2 f2 n2 P2 S2)(ap:jC z TI TO i1 i2 f1 f2)(hz:IsZip s.heap z TI TO .none)(DB:IsPair s.heap TI (.ref i1) (.ref i2))(DK:IsPair s.heap TO a b)
   (bf:S1 k s.heap) (Du:S2 k s.heap) (h1:k<n1) (h2:k<n2) {Q:Value→Shared→Prop}
   (hQ:∀x y h' tk,P1 k x→P2 k y→IsZip h' z TI TO (rawInt s.heap.objs.size)→IsPair h' TO x y→S1 (k+1) h'→S2 (k+1) h'→IsPair h' s.heap.objs.size x y→
     (∀c o,c≠z→c≠TO→c≠i1→c≠i2→s.heap.get? c=some o→h'.get? c=some o)→Q (.ref s.heap.objs.size) {s with heap:=h',toks:=tk}):
   wpAny (model prog w) A (Builtin.«zip.__next__» ⟨[.ref z],[]⟩) (fun fin s'=>∃v,fin=.done (.ret v)∧Q v s') E s:=by
 show wpAny _ _ (PySem.field (.ref z) 2 >>= _) _ _ _;refine wpAny_bind (wpAny_field hz rfl (x:=.bool false) rfl ?_);show wpAny _ _ (PySem.field (.ref z) 3 >>= _) _ _ _;refine wpAny_bind (wpAny_field hz rfl (x:=.ref TI) rfl (wpAny_bind (wpAny_seqItems DB rfl ?_)));show wpAny _ _ (Builtin.SmallTypes.ownedTupleIsFree (.ref z) >>= _) _ _ _;refine wpAny_bind ?_;unfold Builtin.SmallTypes.ownedTupleIsFree;refine wpAny_bind (wpAny_field hz rfl (x:=.none) rfl (wpAny_pure ?_));simp only[if_true];refine wpAny_bind (wpAny_rule (wpAny_bind (wpAny_field hz rfl (x:=.ref TO) rfl (wpAny_bind (wpAny_setField_rec hz (by simp) fun ha EE DN=>?_)))))
 replace EE:IsZip ha z TI TO .ellipsis:=EE
 refine wpAny_bind ?_;simp only[List.zipIdx_cons,List.zipIdx_nil,List.forIn_cons,List.forIn_nil];refine wpAny_bind (wpAny_bind (wpAny_onRaise ?_));show wpAny _ _ (Builtin.SmallTypes.nextOf (.ref i1) >>= _) _ _ _;refine wpAny_bind (D1.item k _ _ _ h1 (fr_but D1 bf ap.jN DN) fun x hb tb px JZ C5=>wpAny_pure ?_);have D4:IsPair hb TO a b:=C5.extBut _ _ ap.TOi1 (DN.extBut _ _ ap.TOz DK);refine wpAny_bind (wpAny_seqItems D4 rfl (wpAny_bind (wpAny_updateSeq_pair D4 fun hc Eo DL=>?_)))
 replace Eo:IsPair hc TO x b:=Eo
 refine wpAny_bind (wpAny_letGo (wpAny_pure (wpAny_bind (wpAny_bind (wpAny_onRaise ?_)))));show wpAny _ _ (Builtin.SmallTypes.nextOf (.ref i2) >>= _) _ _ _;refine wpAny_bind (D2.item k _ _ _ h2 (fr_but D2 (fr_but D2 (fr_but D2 Du ap.lP DN) ap.p0 C5) ap.lC DL) fun y hd td py HM EG=>wpAny_pure ?_);have FE:IsPair hd TO x b:=EG.extBut _ _ ap.TOi2 Eo;refine wpAny_bind (wpAny_seqItems FE rfl (wpAny_bind (wpAny_updateSeq_pair FE fun he Ew Ge=>?_)))
 replace Ew:IsPair he TO x y:=Ew
 refine wpAny_bind (wpAny_letGo (wpAny_pure (wpAny_pure (wpAny_bind (wpAny_seqItems Ew rfl (wpAny_bind (wpAny_newTuple ?_)))))));have hsz:he.objs.size=s.heap.objs.size:=by rw[Ge.1,EG.1,DL.1,C5.1,DN.1]
 have JM:IsZip he z TI TO .ellipsis:=Ge.extBut _ _ ap.TOz.symm (EG.extBut _ _ ap.i2z.symm (DL.extBut _ _ ap.TOz.symm (C5.extBut _ _ ap.i1z.symm EE)));have Mb:∀c o,c≠z→c≠TO→c≠i1→c≠i2→s.heap.get? c=some o→he.get? c=some o:=fun c o c1 c2 c3 c4 e=>Ge.extBut _ _ c2 (EG.extBut _ _ c4 (DL.extBut _ _ c2 (C5.extBut _ _ c3 (DN.extBut _ _ c1 e))));have Lq:S1 (k+1) he:=fr_but D1 (fr_but D1 (fr_but D1 JZ ap.pe DL) ap.x3 EG) ap.pe Ge;have MP:S2 (k+1) he:=fr_but D2 HM ap.lC Ge;have El:z<he.objs.size:=Heap.lt_size JM;show wpAny _ _ (Builtin.SmallTypes.ownedTupleHandOut (.ref z) (.ref he.objs.size) >>= _) _ _ _;refine wpAny_bind ?_;unfold Builtin.SmallTypes.ownedTupleHandOut;have Ml:IsZip (he.push {cls:=.type "tuple",data:=.seq #[x,y]}) z TI TO .ellipsis:=Heap.get?_push_of_some _ JM;refine wpAny_bind (wpAny_setField_rec Ml (by simp) fun hg IE Kh=>?_)
 replace IE:IsZip hg z TI TO (rawInt he.objs.size):=IE
 refine wpAny_setField_rec IE (by simp) fun hi Gu GJ=>?_
 replace Gu:IsZip hi z TI TO (rawInt he.objs.size):=Gu
 have up:∀c o,c≠z→he.get? c=some o→hi.get? c=some o:=fun c o c1 e=>GJ.extBut _ _ c1 (Kh.extBut _ _ c1 (Heap.get?_push_of_some _ e));have Jx:IsPair hi he.objs.size x y:=GJ.extBut _ _ (Nat.ne_of_gt El) (Kh.extBut _ _ (Nat.ne_of_gt El) (Heap.get?_push_size _ rfl));rw[hsz]at Gu Jx;refine wpAny_pure ⟨_,rfl,?_⟩;show Q (.ref he.objs.size) _;rw[hsz]
 exact hQ x y hi td px py Gu (up _ _ ap.TOz Ew) (D1.frame _ _ _ Lq fun c C7 o e=>up c o (fun q=>ap.jN (by rw[←q];exact C7)) e) (D2.frame _ _ _ MP fun c C7 o e=>up c o (fun q=>ap.lP (by rw[←q];exact C7)) e) Jx
   fun c o c1 c2 c3 c4 e=>up c o c1 (Mb c o c1 c2 c3 c4 e)
theorem vj(D1:Draws prog w A i1 f1 n1 P1 S1)(D2:Draws prog w A i2 f2 n2 P2 S2)(ap:jC z TI TO i1 i2 f1 f2)(hz:IsZip s.heap z TI TO .none)(DB:IsPair s.heap TI (.ref i1) (.ref i2))(DK:IsPair s.heap TO a b)
   (bf:S1 k s.heap) (Du:S2 k s.heap) (Dn:k=n1∨(k<n1∧k=n2)) {Q:Fin→Shared→Prop}
   (hE:∀h' tk e,(∀c o,c≠z→c≠TO→c≠i1→c≠i2→s.heap.get? c=some o→h'.get? c=some o)→(∃o,h'.get? e=some o∧o.cls=.type "StopIteration")→E (.ref e) {s with heap:=h',toks:=tk}):
   wpAny (model prog w) A (Builtin.«zip.__next__» ⟨[.ref z],[]⟩) Q E s:=by
 show wpAny _ _ (PySem.field (.ref z) 2 >>= _) _ _ _;refine wpAny_bind (wpAny_field hz rfl (x:=.bool false) rfl ?_);show wpAny _ _ (PySem.field (.ref z) 3 >>= _) _ _ _;refine wpAny_bind (wpAny_field hz rfl (x:=.ref TI) rfl (wpAny_bind (wpAny_seqItems DB rfl ?_)));show wpAny _ _ (Builtin.SmallTypes.ownedTupleIsFree (.ref z) >>= _) _ _ _;refine wpAny_bind ?_;unfold Builtin.SmallTypes.ownedTupleIsFree;refine wpAny_bind (wpAny_field hz rfl (x:=.none) rfl (wpAny_pure ?_));simp only[if_true];refine wpAny_bind (wpAny_rule (wpAny_bind (wpAny_field hz rfl (x:=.ref TO) rfl (wpAny_bind (wpAny_setField_rec hz (by simp) fun ha EE DN=>?_)))))
 replace EE:IsZip ha z TI TO .ellipsis:=EE
 refine wpAny_bind ?_;simp only[List.zipIdx_cons,List.zipIdx_nil,List.forIn_cons,List.forIn_nil];refine wpAny_bind (wpAny_bind (wpAny_onRaise ?_));show wpAny _ _ (Builtin.SmallTypes.nextOf (.ref i1) >>= _) _ _ _;rcases Dn with rfl|⟨h1,rfl⟩
 · refine wpAny_bind (D1.done _ _ _ (fr_but D1 bf ap.jN DN) fun hb e C5 he=>?_)
   obtain⟨oe,EO,EV⟩:=he;have J7:IsZip hb z TI TO .ellipsis:=C5 _ _ ap.i1z.symm EE;have Jg:e≠z:=fun x=>by subst x;rw[J7]at EO;cases EO;simp at EV
   exact wpAny_setField_rec J7 (by simp) fun hc _ DL=>hE hc _ e (fun c o c1 _ c3 _ x=>DL.extBut _ _ c1 (C5 _ _ c3 (DN.extBut _ _ c1 x))) ⟨oe,DL.extBut _ _ Jg EO,EV⟩
 · refine wpAny_bind (D1.item k _ _ _ h1 (fr_but D1 bf ap.jN DN) fun x hb tb px JZ C5=>wpAny_pure ?_)
   have D4:IsPair hb TO a b:=C5.extBut _ _ ap.TOi1 (DN.extBut _ _ ap.TOz DK);refine wpAny_bind (wpAny_seqItems D4 rfl (wpAny_bind (wpAny_updateSeq_pair D4 fun hc Eo DL=>?_)));refine wpAny_bind (wpAny_letGo (wpAny_pure (wpAny_bind (wpAny_bind (wpAny_onRaise ?_)))));show wpAny _ _ (Builtin.SmallTypes.nextOf (.ref i2) >>= _) _ _ _;refine wpAny_bind (D2.done _ _ _ (fr_but D2 (fr_but D2 (fr_but D2 Du ap.lP DN) ap.p0 C5) ap.lC DL) fun hd e EG he=>?_);obtain⟨oe,EO,EV⟩:=he;have Ka:IsZip hd z TI TO .ellipsis:=EG _ _ ap.i2z.symm (DL.extBut _ _ ap.TOz.symm (C5.extBut _ _ ap.i1z.symm EE));have Jg:e≠z:=fun x=>by subst x;rw[Ka]at EO;cases EO;simp at EV
   exact wpAny_setField_rec Ka (by simp) fun hf _ Jj=>hE hf _ e (fun c o c1 c2 c3 c4 x=>Jj.extBut _ _ c1 (EG _ _ c4 (DL.extBut _ _ c2 (C5.extBut _ _ c3 (DN.extBut _ _ c1 x))))) ⟨oe,Jj.extBut _ _ Jg EO,EV⟩
end
inductive Sd where
 |l (a:Addr)|t (a:Addr)|s (z:Str)
def Sd.at(K:PySem.W.Frag)(H:Hp):Sd→List V→Prop
 |.l a,xs=>aO K H a xs
 |.t a,xs=>aT K H a xs
 |.s z,xs=>xs=z.cps.toList.map fun c=>.str ⟨#[c]⟩
def Sd.val:Sd→Tok→Value
 |.l a,_=>.ref a
 |.t a,_=>.ref a
 |.s z,tk=>.str z tk
noncomputable def Sd.obj:Sd→Tok→Obj
 |.l a,_=>{cls:=.type "list_iterator",data:=.fields #[.ref a,.int 0 0]}
 |.t a,_=>{cls:=.type "tuple_iterator",data:=.fields #[.ref a,.int 0 0]}
 |.s z,tk=>{cls:=.type (if z.cps.all (· <128)then "str_ascii_iterator" else "str_iterator"),data:=.fields #[.str z tk,.int 0 0]}
def Sd.fU(it:Addr)(i:Nat)(h:Heap)(tk:Tok):Sd→Prop
 |.l a=>h.IsListIter it a i
 |.t a=>h.IsTupleIter it a i
 |.s z=>h.IsStrIter it (if z.cps.all (· <128)then "str_ascii_iterator" else "str_iterator") z tk i
section
variable{X:Cx}{pins:List (Addr×Obj)}{σ:L2.St}{H:Hp}{s:Shared}{d:Sd}{xs:List V}
theorem Sd.inj(I:Inv X pins σ H s){ys:List V}(h:d.at X.K H xs)(h':d.at X.K H ys):xs=ys:=by
 cases d with
 |l a=>exact I.nY h h'
 |t a=>exact I.ph h h'
 |s z=>exact h.trans h'.symm
theorem Sd.draws{it:Addr}{tk:Tok}{A:Around}(I:Inv X pins σ H s)(hh:A.handled=none)(h:d.at X.K H xs)(hn:H it=none)(hK:X.K.lookup it=none):
   ∃(fp:List Addr) (P:Nat→Value→Prop) (St:Nat→Heap→Prop),Draws X.prog X.w A it fp xs.length P St∧(∀i x,P i x→∃v,xs[i]? =some v∧RelV v x)∧(∀i h',St i h'→d.fU it i h' tk)∧(∀i,d.fU it i s.heap tk→St i s.heap)∧
     (∀c∈fp,c=it∨(H c≠none∨∃o,X.K.lookup c=some o)):=by
 have nl:∀a:Addr,(H a≠none∨∃o,X.K.lookup a=some o)→a≠it:=fun a h z=>by
   subst z;rcases h with h|⟨o,h⟩
   ·exact h hn
   ·rw[hK]at h;cases h
 cases d with
 | l a=>
   obtain⟨y',rv,pl,hz⟩:=I.list h
   have tr:H a≠none∨∃o,X.K.lookup a=some o:=by
     rcases h with(h|⟨o,h⟩)|⟨o,_,_,h,_⟩
     ·exact .inl (by rw[h];simp)
     ·exact .inl (by rw[h];simp)
     ·exact .inr ⟨o,h⟩
   have D:=Draws.list (prog:=X.prog) (w:=X.w) (A:=A) hh it a (nl a tr) y'.toArray;rw[List.size_toArray, ←rv.length]at D;refine⟨_,_,_,D,fun i x hx=>?_,fun i h' st=>st.1,fun i st=>⟨st,pl.isList⟩,fun c hc=>?_⟩
   · have hx:y'[i]? =some x:=by simpa using hx
     have hi:i<xs.length:=by rw[rv.length];exact(List.getElem?_eq_some_iff.mp hx).1
     obtain⟨u,hu,ru⟩:=rv.get (List.getElem?_eq_getElem hi);rw[hx]at hu;cases hu;exact⟨_,List.getElem?_eq_getElem hi,ru⟩
   · simp only[List.mem_cons,List.not_mem_nil,or_false]at hc
     rcases hc with rfl|rfl
     ·exact .inl rfl
     ·exact .inr tr
 | t a=>
   obtain⟨y',rv,pl,hz⟩:=I.tuple h
   have tr:H a≠none∨∃o,X.K.lookup a=some o:=by
     rcases h with(h|⟨o,h⟩)|⟨o,_,_,h,_⟩
     ·exact .inl (by rw[h];simp)
     ·exact .inl (by rw[h];simp)
     ·exact .inr ⟨o,h⟩
   have D:=Ay (prog:=X.prog) (w:=X.w) (A:=A) hh it a (nl a tr) y'.toArray;rw[List.size_toArray, ←rv.length]at D;refine⟨_,_,_,D,fun i x hx=>?_,fun i h' st=>st.1,fun i st=>⟨st,pl⟩,fun c hc=>?_⟩
   · have hx:y'[i]? =some x:=by simpa using hx
     have hi:i<xs.length:=by rw[rv.length];exact(List.getElem?_eq_some_iff.mp hx).1
     obtain⟨u,hu,ru⟩:=rv.get (List.getElem?_eq_getElem hi);rw[hx]at hu;cases hu;exact⟨_,List.getElem?_eq_getElem hi,ru⟩
   · simp only[List.mem_cons,List.not_mem_nil,or_false]at hc
     rcases hc with rfl|rfl
     ·exact .inl rfl
     ·exact .inr tr
 | s z=>
   have h:xs=z.cps.toList.map fun c=>.str ⟨#[c]⟩:=h;subst h
   have key:∀(i:Nat) (x:Value),(∃c u,z.cps[i]? =some c∧x=.str ⟨#[c]⟩ u)→∃v,(z.cps.toList.map fun c=>V.str ⟨#[c]⟩)[i]? =some v∧RelV v x:=by
     rintro i x ⟨c,u,hc,rfl⟩;exact⟨.str ⟨#[c]⟩,by simp[hc],⟨u,rfl⟩⟩
   cases ha:z.cps.all (· <128)with
   | true=>
     have D:=Draws.strAscii (prog:=X.prog) (w:=X.w) (A:=A) hh it z tk;refine⟨_,_,_,by simpa using D,key,fun i h' st=>?_,fun i st=>?_,fun c hc=>.inl (by simpa using hc)⟩
     · show h'.IsStrIter it (if z.cps.all (· <128)then "str_ascii_iterator" else "str_iterator") z tk i
       rw[ha];exact st
     · have st:s.heap.IsStrIter it (if z.cps.all (· <128)then "str_ascii_iterator" else "str_iterator") z tk i:=st
       rw[ha]at st;exact st
   | false=>
     have D:=Draws.strWide (prog:=X.prog) (w:=X.w) (A:=A) hh it z tk;refine⟨_,_,_,by simpa using D,key,fun i h' st=>?_,fun i st=>?_,fun c hc=>.inl (by simpa using hc)⟩
     · show h'.IsStrIter it (if z.cps.all (· <128)then "str_ascii_iterator" else "str_iterator") z tk i
       rw[ha];exact st
     · have st:s.heap.IsStrIter it (if z.cps.all (· <128)then "str_ascii_iterator" else "str_iterator") z tk i:=st
       rw[ha]at st;exact st
end
theorem Sd.km{d:Sd}{it:Addr}{i:Nat}{h h':Heap}{t:Tok}(st:d.fU it i h t)(k:∀o,h.get? it=some o→h'.get? it=some o):d.fU it i h' t:=by
 cases d with
 |l a=>obtain⟨o,e,r⟩:=st;exact⟨o,k o e,r⟩
 |t a=>obtain⟨o,e,r⟩:=st;exact⟨o,k o e,r⟩
 |s z=>obtain⟨o,e,r⟩:=st;exact⟨o,k o e,r⟩
theorem Sd.jP{d:Sd}{it:Addr}{i:Nat}{h:Heap}{t:Tok}(st:d.fU it i h t):∃o,h.get? it=some o∧∀v,o.data≠.cell v:=by
 cases d with
 |l a=>obtain⟨o,e,c,r⟩:=st;exact⟨o,e,fun v z=>by rw[r]at z;cases z⟩
 |t a=>obtain⟨o,e,c,r⟩:=st;exact⟨o,e,fun v z=>by rw[r]at z;cases z⟩
 |s z=>obtain⟨o,e,c,r⟩:=st;exact⟨o,e,fun v z=>by rw[r]at z;cases z⟩
noncomputable def mX(K:PySem.W.Frag)(d e:Sd):It where
 go i H:=∃xs ys,d.at K H xs∧e.at K H ys∧i<xs.length∧i<ys.length
 ip i H v H':=∃t x y,v=.ref t∧H t=none∧(∀xs,d.at K H xs→xs[i]? =some x)∧(∀ys,e.at K H ys→ys[i]? =some y)∧H'=upd H t (.tup [x,y])
 stop i H:=∃xs ys,d.at K H xs∧e.at K H ys∧(i=xs.length∨(i<xs.length∧i=ys.length))
def yi(d e:Sd)(td te:Tok)(z TI TO i1 i2:Addr)(i:Nat)(h:Heap):Prop:=
 IsZip h z TI TO .none∧IsPair h TI (.ref i1) (.ref i2)∧(∃a b,IsPair h TO a b)∧d.fU i1 i h td∧e.fU i2 i h te
theorem uy{P:Program}{w:World}{K:PySem.W.Frag}{elts:List Expr}{k:Nat}{tp:Pos}(d e:Sd)(td te:Tok)(z TI TO i1 i2:Addr)(ne:[z,TI,TO,i1,i2].Nodup)(hK:∀b∈[z,TI,TO,i1,i2],K.lookup b=none):
   Turn P w K (.Tuple elts k tp) (mX K d e) [z,TI,TO,i1,i2] z (yi d e td te z TI TO i1 i2) where
 mem:=by simp
 obj i h st b hb:=by
   obtain⟨hz,DB,⟨a,b',DK⟩,h1,h2⟩:=st;simp only[List.mem_cons,List.not_mem_nil,or_false]at hb;rcases hb with rfl|rfl|rfl|rfl|rfl
   ·exact⟨_,hz,fun v q=>by cases q⟩
   ·exact⟨_,DB,fun v q=>by cases q⟩
   ·exact⟨_,DK,fun v q=>by cases q⟩
   ·exact Sd.jP h1
   ·exact Sd.jP h2
 keep i h h' st kk:=by
   obtain⟨hz,DB,⟨a,b',DK⟩,h1,h2⟩:=st;exact⟨kk z (by simp) _ hz,kk TI (by simp) _ DB,⟨a,b',kk TO (by simp) _ DK⟩,Sd.km h1 fun o q=>kk i1 (by simp) o q,Sd.km h2 fun o q=>kk i2 (by simp) o q⟩
 item := by
   intro X hP hw IH hc i pins s σ H E I hf st hg;subst hP hw IH;obtain⟨xs,ys,ax,ay,hx,hy⟩:=hg;obtain⟨hz,DB,⟨a,b,DK⟩,h1,h2⟩:=st;have hh:X.A.in1.handled=none:=I.ok.hd hc;have un:∀b∈[z,TI,TO,i1,i2],H b=none:=fun b hb=>(hf b hb).1;obtain⟨f1,P1,S1,D1,p1,s1,E9,q1⟩:=Sd.draws (it:=i1) (tk:=td) (A:=X.A.in1) I hh ax (un i1 (by simp)) (hK i1 (by simp))
   obtain⟨f2,P2,S2,D2,p2,s2,Jf,q2⟩:=Sd.draws (it:=i2) (tk:=te) (A:=X.A.in1) I hh ay (un i2 (by simp)) (hK i2 (by simp))
   have out:∀ {fp:List Addr} {it:Addr},(∀c∈fp,c=it∨(H c≠none∨∃o,X.K.lookup c=some o))→∀b∈[z,TI,TO,i1,i2],b≠it→b∉fp:=fun q b hb B5 hm=>by
     rcases q b hm with h|h|⟨o,h⟩
     ·exact B5 h
     ·exact h (un b hb)
     ·rw[hK b hb]at h;cases h
   simp only[List.nodup_cons,List.mem_cons,List.not_mem_nil,or_false,not_or,List.nodup_nil,and_true,not_false_eq_true]at ne;obtain⟨⟨n1,n2,n3,n4⟩,⟨n5,n6,n7⟩,⟨n8,n9⟩,ES⟩:=ne;have ap:jC z TI TO i1 i2 f1 f2:=⟨Ne.symm n1,Ne.symm n2,Ne.symm n3,Ne.symm n4,n5,n6,n7,n8,n9,ES,out q1 z (by simp) n3,out q1 TO (by simp) n8,out q1 i2 (by simp) (Ne.symm ES),out q2 z (by simp) n4,out q2 TO (by simp) n9,out q2 i1 (by simp) ES⟩
   have hT:s.TypeIs (.ref z) "zip":=⟨_,hz,rfl⟩;unfold pyNext;refine wpAny_bind (wpAny_attempt (wpAny_callSpecial?_slot (name:=Str.ofString "__next__") hT PySem.F.slot_zip_next (wpAny_call_entry PySem.F.slot_zip_next hT PySem.F.entry_zip_next (A6 D1 D2 ap hz DB DK (E9 i h1) (Jf i h2) hx hy fun x y h' tk px py Hm HC bf Du hp hk=>wpAny_pure ?_) (PySem.F.args_zip_next_1 _))));obtain⟨v1,e1,r1⟩:=p1 i x px;obtain⟨v2,e2,r2⟩:=p2 i y py;refine⟨_,rfl,wpAny_letOwnedTupleGo_zip Hm fun Ea DO Cm=>?_⟩;have El:z<s.heap.objs.size:=Heap.lt_size hz;have Tz:s.heap.objs.size≠z:=Nat.ne_of_gt El;have Dv:∀c o,c≠z→c≠TO→c≠i1→c≠i2→s.heap.get? c=some o→Ea.get? c=some o:=fun c o c1 c2 c3 c4 q=>Cm.extBut _ _ c1 (hk c o c1 c2 c3 c4 q);have DC:IsPair Ea s.heap.objs.size x y:=Cm.extBut _ _ Tz hp;have nT:H s.heap.objs.size=none:=I.au.fresh (Nat.le_refl _);have aN:∀c u,H c=some u→c≠z∧c≠TO∧c≠i1∧c≠i2:=fun c u q=>by refine⟨?_,?_,?_,?_⟩<;>(intro w;rw[w,un _ (by simp)]at q;cases q)
   have Dw:∀c,c∉[z,TO,i1,i2]→c≠z∧c≠TO∧c≠i1∧c≠i2:=fun c C7=>by simpa[not_or] using C7
   have u:Un (L2.bQ X.stack) [z,TO,i1,i2] H (upd H s.heap.objs.size (.tup [v1,v2])) s.heap Ea:=
     ⟨fun b o q n Ir CK=>let m:=Dw b CK;Dv b o m.1 m.2.1 m.2.2.1 m.2.2.2 q,fun b o q n Ir CK=>let m:=Dw b CK;⟨o.slots,Dv b o m.1 m.2.1 m.2.2.1 m.2.2.2 q⟩,fun b o q n CK=>by rw[L2.aE (Nat.ne_of_lt (Heap.lt_size q))];exact n,
       fun b o q CK=>let m:=Dw b CK;⟨o,Dv b o m.1 m.2.1 m.2.2.1 m.2.2.2 q⟩,fun b zs q=>by rw[L2.aE (L2.dH q nT)];exact q,fun b o zs q=>by rw[L2.aE (L2.dH q nT)];exact q,fun b ps q=>⟨#[],by rw[L2.aE (L2.dH q nT),q];simp⟩⟩
   have au:L2.aU X.prog X.w (upd H s.heap.objs.size (.tup [v1,v2])) Ea:=fun b ob q=>by
     by_cases hb:b=s.heap.objs.size
     · subst hb
       rw[L2.b6]at q;cases q;exact⟨show 2≤sizeLine by decide,[x,y],.cons r1 (.cons r2 .nil),⟨_,DC,rfl,_,rfl⟩⟩
     · rw[L2.aE hb]at q
       refine(I.au b ob q).fB (fun c v E2 w=>?_) (fun c w=>by rw[L2.aE (L2.dH w nT)];exact w) fun c zs w=>by rw[L2.aE (L2.dH w nT)];exact w
       have tc:∃u,H c=some u:=by
         rcases E2 with rfl|E2
         ·exact⟨_,q⟩
         ·exact⟨_,E2⟩
       obtain⟨u',Iy⟩:=tc;have m:=aN c u' Iy;exact Dv c v m.1 m.2.1 m.2.2.1 m.2.2.2 w
   have I2:Inv X pins σ (upd H s.heap.objs.size (.tup [v1,v2])) {s with heap:=Ea,toks:=tk}:=I.kQ (s':={s with heap:=Ea,toks:=tk}) (ch:=[z,TO,i1,i2]) rfl u au I.bare fun b hb=>by
     have C8:b∈[z,TI,TO,i1,i2]:=by
       simp only[List.mem_cons,List.not_mem_nil,or_false]at hb ⊢;rcases hb with h|h|h|h<;>simp[h]
     obtain⟨_,a1,a2,a3,a4,a5⟩:=hf b C8;exact⟨a3,a1,a4,a5⟩
   have K2:∀b∈[z,TI,TO,i1,i2],b≠s.heap.objs.size:=fun b hb=>by
     have:∃o,s.heap.get? b=some o:=by
       simp only[List.mem_cons,List.not_mem_nil,or_false]at hb;rcases hb with rfl|rfl|rfl|rfl|rfl
       ·exact⟨_,hz⟩
       ·exact⟨_,DB⟩
       ·exact⟨_,DK⟩
       ·exact let⟨o,q,_⟩:=Sd.jP h1;⟨o,q⟩
       ·exact let⟨o,q,_⟩:=Sd.jP h2;⟨o,q⟩
     obtain⟨o,q⟩:=this;exact Nat.ne_of_lt (Heap.lt_size q)
   refine⟨.ref s.heap.objs.size,_,I2,rfl,⟨_,v1,v2,rfl,nT,fun Dm CK=>by rw[Sd.inj I CK ax];exact e1,fun NB Lc=>by rw[Sd.inj I Lc ay];exact e2,rfl⟩,⟨DO,?_,⟨_,_,Cm.extBut _ _ (Ne.symm n2) HC⟩,Sd.km (s1 _ _ bf) fun o q=>Cm.extBut _ _ (Ne.symm n3) q,Sd.km (s2 _ _ Du) fun o q=>Cm.extBut _ _ (Ne.symm n4) q⟩,fun b hb=>?_⟩
   ·exact Dv TI _ (Ne.symm n1) n5 n6 n7 DB
   · show upd H _ _ b=none
     rw[L2.aE (K2 b hb)];exact un b hb
 done := by
   intro X hP hw IH hc i pins s σ H E I hf st hg;subst hP hw IH;obtain⟨xs,ys,ax,ay,Dn⟩:=hg;obtain⟨hz,DB,⟨a,b,DK⟩,h1,h2⟩:=st;have hh:X.A.in1.handled=none:=I.ok.hd hc;have un:∀b∈[z,TI,TO,i1,i2],H b=none:=fun b hb=>(hf b hb).1;obtain⟨f1,P1,S1,D1,p1,s1,E9,q1⟩:=Sd.draws (it:=i1) (tk:=td) (A:=X.A.in1) I hh ax (un i1 (by simp)) (hK i1 (by simp))
   obtain⟨f2,P2,S2,D2,p2,s2,Jf,q2⟩:=Sd.draws (it:=i2) (tk:=te) (A:=X.A.in1) I hh ay (un i2 (by simp)) (hK i2 (by simp))
   have out:∀ {fp:List Addr} {it:Addr},(∀c∈fp,c=it∨(H c≠none∨∃o,X.K.lookup c=some o))→∀b∈[z,TI,TO,i1,i2],b≠it→b∉fp:=fun q b hb B5 hm=>by
     rcases q b hm with h|h|⟨o,h⟩
     ·exact B5 h
     ·exact h (un b hb)
     ·rw[hK b hb]at h;cases h
   simp only[List.nodup_cons,List.mem_cons,List.not_mem_nil,or_false,not_or,List.nodup_nil,and_true,not_false_eq_true]at ne;obtain⟨⟨n1,n2,n3,n4⟩,⟨n5,n6,n7⟩,⟨n8,n9⟩,ES⟩:=ne;have ap:jC z TI TO i1 i2 f1 f2:=⟨Ne.symm n1,Ne.symm n2,Ne.symm n3,Ne.symm n4,n5,n6,n7,n8,n9,ES,out q1 z (by simp) n3,out q1 TO (by simp) n8,out q1 i2 (by simp) (Ne.symm ES),out q2 z (by simp) n4,out q2 TO (by simp) n9,out q2 i1 (by simp) ES⟩
   have hT:s.TypeIs (.ref z) "zip":=⟨_,hz,rfl⟩;unfold pyNext;refine wpAny_bind (wpAny_attempt (wpAny_callSpecial?_slot (name:=Str.ofString "__next__") hT PySem.F.slot_zip_next (wpAny_call_entry PySem.F.slot_zip_next hT PySem.F.entry_zip_next (vj D1 D2 ap hz DB DK (E9 i h1) (Jf i h2) Dn fun h' tk e' hk he=>?_) (PySem.F.args_zip_next_1 _))));obtain⟨o,ho,EV⟩:=he;refine wpAny_bind (wpAny_isInstance (T:="StopIteration") (b:=true) ⟨o,ho,EV⟩ isSubtype_stop (wpAny_pure ⟨rfl,?_⟩));have Dw:∀c,c∉[z,TO,i1,i2]→c≠z∧c≠TO∧c≠i1∧c≠i2:=fun c C7=>by simpa[not_or] using C7
   have aN:∀c u,H c=some u→c≠z∧c≠TO∧c≠i1∧c≠i2:=fun c u q=>by refine⟨?_,?_,?_,?_⟩<;>(intro w;rw[w,un _ (by simp)]at q;cases q)
   have u:Un (L2.bQ X.stack) [z,TO,i1,i2] H H s.heap h':=
     ⟨fun b o q n Ir CK=>let m:=Dw b CK;hk b o m.1 m.2.1 m.2.2.1 m.2.2.2 q,fun b o q n Ir CK=>let m:=Dw b CK;⟨o.slots,hk b o m.1 m.2.1 m.2.2.1 m.2.2.2 q⟩,fun b o q n CK=>n,
       fun b o q CK=>let m:=Dw b CK;⟨o,hk b o m.1 m.2.1 m.2.2.1 m.2.2.2 q⟩,fun b zs q=>q,fun b o zs q=>q,fun b ps q=>⟨#[],by rw[q];simp⟩⟩
   exact I.kQ (s':={s with heap:=h',toks:=tk}) (ch:=[z,TO,i1,i2]) rfl u (fun b ob q=>(I.au b ob q).fB (fun c v E2 w=>by
       have tc:∃u,H c=some u:=by
         rcases E2 with rfl|E2
         ·exact⟨_,q⟩
         ·exact⟨_,E2⟩
       obtain⟨u',Iy⟩:=tc;have m:=aN c u' Iy;exact hk c v m.1 m.2.1 m.2.2.1 m.2.2.2 w) (fun _ w=>w) fun _ _ w=>w) I.bare fun b hb=>by
     have C8:b∈[z,TI,TO,i1,i2]:=by
       simp only[List.mem_cons,List.not_mem_nil,or_false]at hb ⊢;rcases hb with h|h|h|h<;>simp[h]
     obtain⟨_,a1,a2,a3,a4,a5⟩:=hf b C8;exact⟨a3,a1,a4,a5⟩
 self _ _ _ _ _ st h:=wpAny_pyIter_zip st.1 h
def Sd.is(h:Heap):Sd→Prop
 |.l a=>∃xs,h.IsList a xs
 |.t a=>∃xs,h.IsTuple a xs
 |.s _=>True
theorem Sd.zr{h:Heap}{d:Sd}(o:Obj)(x:d.is h):d.is (h.push o):=by
 cases d with
 |l a=>obtain⟨xs,ob,e,r⟩:=x;exact⟨xs,ob,Heap.get?_push_of_some _ e,r⟩
 |t a=>obtain⟨xs,ob,e,r⟩:=x;exact⟨xs,ob,Heap.get?_push_of_some _ e,r⟩
 |s z=>trivial
theorem Sd.iter{prog:Program}{w:World}{A:Around}{E:Value→Shared→Prop}{s:Shared}{d:Sd}{tk:Tok}{Q:Value→Shared→Prop}(x:d.is s.heap)(h:Q (.ref s.heap.objs.size) {s with heap:=s.heap.push (d.obj tk)}):
   wpAny (model prog w) A (pyIter (d.val tk)) Q E s:=by
 cases d with
 |l a=>obtain⟨xs,x⟩:=x;exact wpAny_pyIter_list x h
 |t a=>obtain⟨xs,x⟩:=x;exact wpAny_pyIter_tuple x h
 | s z=>
   have h:Q (.ref s.heap.objs.size) {s with heap:=s.heap.push {cls:=.type (if z.cps.all (· <128)then "str_ascii_iterator" else "str_iterator"),data:=.fields #[.str z tk,.int 0 0]} }:=h
   cases ha:z.cps.all (· <128)with
   |true=>rw[ha]at h;exact wpAny_pyIter_ascii ha h
   |false=>rw[ha]at h;exact wpAny_pyIter_wide ha h
abbrev kr(h:Heap)(d:Sd)(td:Tok):Heap:=h.push (d.obj td)
abbrev jK(h:Heap)(d e:Sd)(td te:Tok):Heap:=(kr h d td).push (e.obj te)
abbrev jE(h:Heap)(d e:Sd)(td te:Tok):Heap:=(jK h d e td te).push {cls:=.type "tuple",data:=.seq #[.ref h.objs.size,.ref (kr h d td).objs.size]}
abbrev kC(h:Heap)(d e:Sd)(td te:Tok):Heap:=(jE h d e td te).push {cls:=.type "tuple",data:=.seq #[.none,.none]}
noncomputable abbrev fW(h:Heap)(d e:Sd)(td te:Tok):Heap:=(kC h d e td te).push {cls:=.type "zip",data:=.fields #[.none,.bool false,.bool false,.ref (jK h d e td te).objs.size,.ref (jE h d e td te).objs.size]}
theorem yT(d e:Sd)(td te:Tok):Meets (Builtin.«zip.__new__» ⟨[.type "zip",d.val td,e.val te],[]⟩) (fun _ R s=>d.is s.heap∧e.is s.heap∧R (.ok (.ret (.ref (kC s.heap d e td te).objs.size))) {s with heap:=fW s.heap d e td te}):=
 .of_wp fun prog w A R s h=>by
   obtain⟨hp,g,dr,tk,os⟩:=s;obtain⟨h1,h2,h⟩:=h;have CA:=sub_zip;have a1:d.is (Shared.heap ⟨hp,g,dr,tk,os⟩):=h1;have a2:e.is (Shared.heap ⟨hp.push (d.obj td),g,dr,tk,os⟩):=Sd.zr _ h2
   wp_walk using Sd.iter a1,Sd.iter a2
   exact⟨_,rfl,h⟩
section
variable{X:Cx}{M:Md}{G H H':Hp}{F0:Gf}{F F':Addr→Prop}{σ:L2.St}{ρ:En}{pos:Pos}{pins:List (Addr×Obj)}{s:Shared}
theorem Sd.oH{d:Sd}{xs:List V}(I:Inv X pins σ H s)(h:d.at X.K H xs):d.is s.heap:=by
 cases d with
 |l a=>obtain⟨y',_,pl,_⟩:=I.list h;exact⟨_,pl.isList⟩
 |t a=>obtain⟨y',_,pl,_⟩:=I.tuple h;exact⟨_,pl⟩
 |s z=>trivial
def AI(K:PySem.W.Frag)(ta:TA):TI:=fun σ H R=>ta σ H fun vs H1=>∃(x y:V) (d e:Sd) (xs ys:List V),vs=[x,y]∧(∀u,RelV x u→∃tk,u=d.val tk)∧(∀u,RelV y u→∃tk,u=e.val tk)∧d.at K H1 xs∧e.at K H1 ys∧R (mX K d e) H1
theorem AX:bootBuiltins "zip"=some (.type "zip"):=by decide+kernel
theorem vA{elts:List Expr}{k:Nat}{tp:Pos}{a b:Expr}{ta:TA}{p:Pos}(hg:L2.Gl X "zip")(hm:X.mg "zip"=none)(ha:PA X [a,b] ta)(hs:starEach [a,b] X.env=(false,eval a X.env)::starEach [b] X.env)(Cm:starEach [b] X.env=(false,eval b X.env)::starEach [] X.env):
   L2.PI X (.Tuple elts k tp) (.Call (.Name "zip" p) [a,b] [] pos) (AI X.K ta):=by
 intro pins s σ H R I h;refine PyProof.Rows.Call_ (L2.eN I hg hm AX (PyProof.Rows.callWith_type1 (L2.ao (ha pos pins s σ H _ I h) fun us s1 ⟨vs,H1,I1,r1,q1⟩=>?_) hs (by rw[Cm];rfl)))
 obtain⟨x,y,d,e,xs,ys,rfl,hx,hy,ax,ay,q⟩:=q1;obtain⟨u1,u2,rfl,Nq,K3⟩:=L2.vals2 r1;obtain⟨td,rfl⟩:=hx u1 Nq;obtain⟨te,rfl⟩:=hy u2 K3;refine callType_new PySem.F.called_zip (by decide) (PySem.F.typeCall_zip_2 _ _) (PySem.F.newCall_zip_2 _ _) (fun obj=>PySem.F.args_object_init_3 obj _ _) PySem.F.entry_zip_new (yT d e td te) ⟨Sd.oH I1 ax,Sd.oH I1 ay,?_⟩
 have z1:(kr s1.heap d td).objs.size=s1.heap.objs.size+1:=Heap.size_push ..;have z2:(jK s1.heap d e td te).objs.size=s1.heap.objs.size+2:=by rw[Heap.size_push,z1]
 have z3:(jE s1.heap d e td te).objs.size=s1.heap.objs.size+3:=by rw[Heap.size_push,z2]
 have z4:(kC s1.heap d e td te).objs.size=s1.heap.objs.size+4:=by rw[Heap.size_push,z3]
 have nf:∀(d:Sd) tk,(d.obj tk).isFreed=false:=fun d tk=>by cases d<;>rfl
 have g5:(fW s1.heap d e td te).get? (kC s1.heap d e td te).objs.size=some _:=Heap.get?_push_size _ rfl;have g4:(fW s1.heap d e td te).get? (jE s1.heap d e td te).objs.size=some _:=Heap.get?_push_of_some _ (Heap.get?_push_size _ rfl);have g3:(fW s1.heap d e td te).get? (jK s1.heap d e td te).objs.size=some _:=Heap.get?_push_of_some _ (Heap.get?_push_of_some _ (Heap.get?_push_size _ rfl));have g2:(fW s1.heap d e td te).get? (kr s1.heap d td).objs.size=some (e.obj te):=Heap.get?_push_of_some _ (Heap.get?_push_of_some _ (Heap.get?_push_of_some _ (Heap.get?_push_size _ (nf e te))));have g1:(fW s1.heap d e td te).get? s1.heap.objs.size=some (d.obj td):=Heap.get?_push_of_some _ (Heap.get?_push_of_some _ (Heap.get?_push_of_some _ (Heap.get?_push_of_some _ (Heap.get?_push_size _ (nf d td)))));have old:∀c o,s1.heap.get? c=some o→(fW s1.heap d e td te).get? c=some o:=fun c o x=>Heap.get?_push_of_some _ (Heap.get?_push_of_some _ (Heap.get?_push_of_some _ (Heap.get?_push_of_some _ (Heap.get?_push_of_some _ x))));rw[z2,z3,z4]at g5;rw[z1,z2]at g3;rw[z3]at g4;rw[z1]at g2;show _∧_;rw[z4];refine⟨⟨_,g5,rfl⟩,wpAny_pyIter_zip g5 ?_⟩;have I2:Inv X pins σ H1 {s1 with heap:=fW s1.heap d e td te}:=I1.kept (t':=s1.toks) old
 have hK:∀b,s1.heap.objs.size≤b→X.K.lookup b=none:=fun b hb=>by
   cases q:X.K.lookup b with
   |none=>rfl
   |some o=>exact absurd (Nat.lt_of_lt_of_le (Heap.lt_size (I1.bS b o q)) hb) (Nat.lt_irrefl _)
 have F7:∀ {d:Sd} {it:Addr} {tk:Tok} {h:Heap},h.get? it=some (d.obj tk)→d.fU it 0 h tk:=fun {d it tk h} q=>by
   cases d with
   |l a=>exact⟨_,q,rfl,rfl⟩
   |t a=>exact⟨_,q,rfl,rfl⟩
   |s z=>exact⟨_,q,rfl,rfl⟩
 refine⟨s1.heap.objs.size+4,[s1.heap.objs.size+4,s1.heap.objs.size+2,s1.heap.objs.size+3,s1.heap.objs.size,s1.heap.objs.size+1],_,_,H1,rfl,I2,uy d e td te _ _ _ _ _ ?_ ?_,⟨g5,g3,⟨_,_,g4⟩,F7 g1,F7 g2⟩,fun b hb=>?_,q⟩
 ·simp
 · intro b hb
   refine hK b ?_;simp only[List.mem_cons,List.not_mem_nil,or_false]at hb;rcases hb with rfl|rfl|rfl|rfl|rfl<;>omega
 · have C8:s1.heap.objs.size≤b:=by
     simp only[List.mem_cons,List.not_mem_nil,or_false]at hb;rcases hb with rfl|rfl|rfl|rfl|rfl<;>omega
   exact I1.iB C8 (I1.au.fresh C8)
theorem ov{d:D}{ds:List D}{x:V}(e:items d=.ok ds)(r:Rep M H F d x):∃(q:Sd) (xs:List V),(∀u,RelV x u→∃tk,u=q.val tk)∧ab M H F ds xs∧∀H' F',Mv F H F' H'→q.at M.K H' xs:=by
 unfold items at e;split at e
 · cases e
   simp only[Rep]at r;obtain⟨a,xs,rfl,h,rs⟩:=r;exact⟨.l a,xs,fun u ru=>⟨0,ru⟩,rs,fun H' F' m=>(h.mv m).sq⟩
 · cases e
   simp only[Rep]at r;obtain⟨a,xs,rfl,h,rs⟩:=r;exact⟨.t a,xs,fun u ru=>⟨0,ru⟩,rs,fun H' F' m=>(h.mv m).sq⟩
 · rename_i z
   cases e;cases cM r;refine⟨.s z,z.cps.toList.map fun c=>.str ⟨#[c]⟩,fun u ⟨tk,ru⟩=>⟨tk,ru⟩,?_,fun _ _ _=>rfl⟩;generalize z.cps.toList=l
   induction l with
   |nil=>exact ab.nil
   |cons c l ih=>exact ab.cons iE ih
 ·cases e
theorem m4:∀ {xs ys:List D},(fE xs ys).length=min xs.length ys.length
 |[],_=>by simp
 |_::_,[]=>by simp
 |x::xs,y::ys=>by simp[m4 (xs:=xs) (ys:=ys)]
theorem pE:∀ {xs ys:List D} {i:Nat} {d:D},(fE xs ys)[i]? =some d→∃x y,d=.tup [x,y]∧xs[i]? =some x∧ys[i]? =some y
 |[],_,_,_,h=>by simp at h
 |_::_,[],_,_,h=>by simp at h
 |x::xs,y::ys,0,d,h=>by simp at h;exact⟨x,y,h.symm,rfl,rfl⟩
 | x::xs,y::ys,i+1,d,h=>by
   have h:(fE xs ys)[i]? =some d:=by simpa using h
   obtain⟨a,b,h1,h2,h3⟩:=pE h;exact⟨a,b,h1,by simpa using h2,by simpa using h3⟩
theorem yJ{q r:Sd}{xs ys:List V}{ds es:List D}(h1:∀H' F',Mv F H F' H'→q.at M.K H' xs)(h2:∀H' F',Mv F H F' H'→r.at M.K H' ys)(rs:ab M H F ds xs)(ss:ab M H F es ys)
   (Lw:∀H' F' zs,Mv F H F' H'→q.at M.K H' zs→True):Gives M (mX M.K q r) H F (fE ds es):=by
 intro H' F' mv tr;have a1:=h1 H' F' mv;have a2:=h2 H' F' mv;have Fs:=rs.mv mv;have Ni:=ss.mv mv;refine⟨fun i d hd=>?_,?_⟩
 · obtain⟨x,y,rfl,hx,hy⟩:=pE hd
   obtain⟨vx,ex,rx⟩:=Fs.get hx;obtain⟨vy,ey,ry⟩:=Ni.get hy;refine⟨⟨xs,ys,a1,a2,(List.getElem?_eq_some_iff.mp ex).1,(List.getElem?_eq_some_iff.mp ey).1⟩,fun v H2 hv=>?_⟩;obtain⟨t,wx,wy,rfl,ht,g1,g2,rfl⟩:=hv;have q1:=g1 xs a1;have q2:=g2 ys a2;rw[ex]at q1;rw[ey]at q2;cases q1;cases q2;exact⟨ae.cQ ht _,i8 tr ht (ab.cons rx (ab.cons ry ab.nil))⟩
 · refine⟨xs,ys,a1,a2,?_⟩
   rw[m4,rs.length,ss.length];omega
theorem xJ{elts:List Expr}{k:Nat}{tp:Pos}{a b:Expr}{fa fb:Ex}{p:Pos}(hg:L2.Gl X "zip")(hm:X.mg "zip"=none)(ha:JE X a fa)(hb:JE X b fb)(hs:starEach [a,b] X.env=(false,eval a X.env)::starEach [b] X.env)(Cm:starEach [b] X.env=(false,eval b X.env)::starEach [] X.env):
   JI X (.Tuple elts k tp) (.Call (.Name "zip" p) [a,b] [] pos) (j7 fa fb):=
 jZ (vA hg hm (dJ ha (dJ hb fS Cm) hs) hs Cm) fun σ H Q ⟨ρ,F,ds,r,e,q⟩=>by
   obtain⟨d1,LB,e⟩:=ak.mp e;obtain⟨d2,Hu,e⟩:=ak.mp e;obtain⟨xs,LC,e⟩:=ak.mp e;obtain⟨ys,Nr,e⟩:=ak.mp e;cases e;refine⟨ρ,F,[d1,d2],r,by show(fa ρ).bind _=_;rw[LB];show((fb ρ).bind _).bind _=_;rw[Hu];rfl,fun vs H1 s1 rv=>?_⟩
   obtain⟨x,y,rfl,rx,ry⟩:=rv.two;obtain⟨K1,vx,u1,LI,J4⟩:=ov LC rx;obtain⟨HM,vy,u2,KW,at2⟩:=ov Nr ry;exact⟨x,y,K1,HM,vx,vy,rfl,u1,u2,J4 H1 F Mv.refl,at2 H1 F Mv.refl,q _ H1 s1 (yJ (M:=ai X) J4 at2 LI KW fun _ _ _ _ _=>trivial)⟩
end
def kM:D→Value→Prop
 |.aq,u=>u=.none
 |.bl b,u=>u=.bool b
 |.int i,u=>∃t,u=.int i t
 |.str x,u=>∃t,u=.str x t
 |_,_=>False
theorem qN{d:D}{u:Value}(h:kM d u):∃v,RelV v u∧∀(M:Md) H F,Rep M H F d v:=by
 cases d with
 |aq=>exact⟨.aq,h,fun _ _ _=>lu⟩
 |bl b=>exact⟨.bl b,h,fun _ _ _=>dO⟩
 |int i=>exact⟨.int i,h,fun _ _ _=>b0⟩
 |str x=>exact⟨.str x,h,fun _ _ _=>iE⟩
 |_=>exact h.elim
def jU:List D→List Value→Prop
 |[],us=>us=[]
 |d::ds,us=>∃u r,us=u::r∧kM d u∧jU ds r
theorem p6:∀ {ds:List D} {us:List Value},jU ds us→∃xs,Vals xs us∧∀(M:Md) H F,ab M H F ds xs
 |[],_,h=>by cases h;exact⟨[],.nil,fun _ _ _=>ab.nil⟩
 | d::ds,_,h=>by
   obtain⟨u,r,rfl,h1,h2⟩:=h;obtain⟨v,rv,hv⟩:=qN h1;obtain⟨xs,rs,hs⟩:=p6 h2;exact⟨v::xs,.cons rv rs,fun M H F=>ab.cons (hv M H F) (hs M H F)⟩
def DM(w:World):List DictEntry→List Ky→List D→Prop
 |[],ks,ds=>ks=[]∧ds=[]
 |e::es,ks,ds=>∃s t k' d FK,e.key=.str s t∧ks=.inr s::k'∧ds=d::FK∧e.hash=PyData.keyHash w.params s∧kM d e.val∧DM w es k' FK
theorem oC{P:Program}{w:World}:∀ {es:List DictEntry} {ks:List Ky} {ds:List D},DM w es ks ds→∃(xs:List V) (vs:List (Key×Value)),Pairs (L2.bc P w) es vs∧L2.KV (ks.zip xs) vs∧vs.map (·.1)=ks∧ks.length=xs.length∧(∀(M:Md) H F,ab M H F ds xs)∧
   ∀e∈es,∃k,(L2.bc P w).is k e.key=true∧e.hash=(L2.bc P w).hash k
 | [],_,_,h=>by
   obtain⟨rfl,rfl⟩:=h;exact⟨[],[],.nil,.nil,rfl,rfl,fun _ _ _=>ab.nil,fun e he=>nomatch he⟩
 | e::es,_,_,h=>by
   obtain⟨s,t,k',d,FK,hk,rfl,rfl,hh,hf,hr⟩:=h;obtain⟨xs,vs,h1,h2,h3,h4,h5,h6⟩:=oC (P:=P) hr;obtain⟨v,rv,hv⟩:=qN hf;refine⟨v::xs,(.inr s,e.val)::vs,.cons (by rw[hk];exact L2.lM P w s t) rfl h1,.cons ⟨rfl,rv⟩ h2,by simp[h3],by simp[h4],fun M H F=>ab.cons (hv M H F) (h5 M H F),fun e' he=>?_⟩
   rcases List.mem_cons.mp he with rfl|he
   ·exact⟨.inr s,by rw[hk];exact L2.lM P w s t,hh⟩
   ·exact h6 e' he
section
variable{P:Program}{w:World}{K:PySem.W.Frag}{h:Heap}{mg:Str→Option Value}{x:Str}
theorem ua{a:Addr}{es:Array DictEntry}{ep:Nat}{ks:List Ky}{ds:List D}(X:K.In h)(G:h.Ns mainGlobals mg)(e1:PySem.W.nsIn K mainGlobals x=some (some (.ref a)))(e2:K.lookup a=some {cls:=.type "dict",data:=.dict es ep})
   (hm:DM w es.toList ks ds) (hn:ks.Nodup) (hl:ks.length≤1000) (ne:(a==sysModules)=false):gE P w K mg x (.aV ks ds):=by
 obtain⟨xs,vs,h1,h2,h3,h4,h5,h6⟩:=oC (P:=P) hm;refine⟨.ref a,.ref a,PySem.W.mg_of X G e1,rfl,fun H F=>?_⟩;simp only[Rep];refine⟨a,xs,rfl,.inr ⟨_,es,ep,vs,e2,⟨rfl,rfl,rfl⟩,rfl,fun e he=>h6 e (by simpa using he),h1,by rw[h3];exact hn,h2,?_,ne⟩,h4,h5 _ H F⟩
 rw[List.length_zip, ←h4,Nat.min_self];exact Nat.le_trans hl (by decide)
theorem t9{a:Addr}{y':Array Value}{n:Nat}{ds:List D}(X:K.In h)(G:h.Ns mainGlobals mg)(e1:PySem.W.nsIn K mainGlobals x=some (some (.ref a)))(e2:K.lookup a=some {cls:=.type "tuple",data:=.seq y' n})
   (hm:jU ds y'.toList) (hl:y'.size≤1000):gE P w K mg x (.tup ds):=by
 obtain⟨xs,h1,h2⟩:=p6 hm;refine⟨.ref a,.ref a,PySem.W.mg_of X G e1,rfl,fun H F=>?_⟩;simp only[Rep];exact⟨a,xs,rfl,.inr ⟨_,y',n,e2,rfl,rfl,Nat.le_trans hl (by decide),h1⟩,h2 _ H F⟩
end
end PL
namespace PL
open PySem
@[simp] def kh:D→D→R D
 |.str y,.str x=>.ok (.int (Txt.find y x))
 |_,_=>.bad
@[simp] def ky:D→D→R D
 |.tup ys,x=>if flat x=true∧ys.all flat=true then dW x 0 ys else .bad
 |_,_=>.bad
end PL
set_option maxHeartbeats 1000000
namespace PL
open PySem PySem.Spec
open L2 (V Hp HO Cx PE PT PW PA PS bu PG b5 VK TE TT TA TS TI TG Inv RelV Vals Rd aO aT upd ae Key XK Ends aH dh aW R2 EP It Turn bM Un)
section
variable{X:Cx}{M:Md}{G H H':Hp}{F0:Gf}{F F':Addr→Prop}{σ:L2.St}{ρ:En}{pos:Pos}{pins:List (Addr×Obj)}{s:Shared}
theorem tw{o e:Expr}{fo fe:Ex}{apos A':Pos}(ho:JE X o fo)(he:JE X e fe)(m:L2.M1 X o "find" apos e A'):JE X (.Call (.Attribute o "find" apos) [e] [] A') (e2 kh fo fe):=by
 intro pins s σ H Q I ⟨ρ,F,d,hr,e,q⟩;obtain⟨a,ea,e⟩:=ak.mp e;obtain⟨b,eb,e⟩:=ak.mp e;refine wpAny_Call_method m.base m.iX m.line PySem.F.plainAttrs_str PySem.F.slot_str_find PySem.F.type_str_find (L2.ao (ho pins s σ H _ I ⟨ρ,F,a,hr,ea,fun v H1 s1 rv=>(⟨s1,rv⟩:ae H H1∧Rep (ai X) H1 F a v)⟩) fun u s1 ⟨x,H1,I1,rx,Fi,ra⟩=>?_);cases a with
 | str y=>
   cases b with
   | str z=>
     cases e;cases cM ra;obtain⟨t,rfl⟩:=rx;refine⟨typeIs_str s1 y t,(fun _ e=>nomatch e),?_⟩
     rw[m.trees];refine Calls.callWith_builtin rfl (Calls.evalArgs_plain (Calls.spliced_cons (L2.ao (he pins s1 σ H1 _ I1 ⟨ρ,F,.str z,hr.same Fi,eb,fun v H2 s2 rv=>(⟨s2,rv⟩:ae H1 H2∧Rep (ai X) H2 F (.str z) v)⟩) fun iv s2 ⟨w,H2,I2,Dx,bG,rb⟩=>Calls.spliced_nil ?_)));cases cM rb;obtain⟨t',rfl⟩:=Dx;exact SC.find ⟨.int _,H2,I2.tok _,⟨_,rfl⟩,q _ _ (Fi.trans bG) b0⟩
   |_=>cases e
 |_=>cases e
theorem aM.fresh{p:Addr}{o:HO}(r:aM M H F σ ρ)(hp:H p=none):aM M (upd H p o) (fun b=>F b∨b=p) σ ρ:=by
 have ne:∀b u,H b=some u→b≠p:=fun b u e z=>by subst z;rw[hp]at e;cases e
 have mv:Mv F H (fun b=>F b∨b=p) (upd H p o):=fun b u n e=>⟨fun h=>h.elim n (ne b u e),by rw[L2.aE (ne b u e)];exact e⟩
 have sm:ae H (upd H p o):=ae.cQ hp _
 exact⟨r.len,fun b f=>by
   by_cases hb:b=p
   ·subst hb;exact⟨_,L2.b6⟩
   ·obtain⟨u,hu⟩:=r.aN b (f.resolve_right hb);exact⟨u,sm _ _ hu⟩,
   fun i d e=>let⟨v,h1,h2⟩:=r.sh i d e;⟨v,h1,h2.mv mv⟩,
   fun i ds e=>let⟨a,xs,e1,f,e2,q⟩:=r.ol i ds e;⟨a,xs,e1,.inl f,sm _ _ e2,q.mv mv⟩,
   fun i ks ds e=>let⟨a,xs,e1,f,e2,l,q⟩:=r.od i ks ds e;⟨a,xs,e1,.inl f,sm _ _ e2,l,q.mv mv⟩,
   r.bO,r.on.mv mv (fun j B7 e=>⟨e,rfl⟩) (fun j B7 b u e hb f hu=>⟨.inl f,sm _ _ hu⟩) fun j B7 b e hb k ok=>(r.on j B7 e).2.1 b hb k ok⟩
def JP(X:Cx)(pos:Pos)(keys:List (Option Expr))(values:List Expr)(ks:List Ky)(fs:List Ex):Prop:=
 ∃Dq,L2.iu X pos keys values Dq∧∀(F:Addr→Prop) (σ:L2.St) (H:Hp) (ρ:En) (ds:List D) (Q:List (V×V)→Hp→Prop),aM (ai X) H F σ ρ→eList fs ρ=.ok ds→
   (∀xs H',ae H H'→ab (ai X) H' F ds xs→Q ((ks.zip xs).map fun kv=>(L2.kV kv.1,kv.2)) H')→L2.kA Dq σ H Q
theorem sE:JP X pos [] [] [] []:=⟨[],L2.Ab,fun F σ H ρ ds Q r e q=>by cases e;exact q [] H (ae.refl H) ab.nil⟩
theorem vP{k v:Expr}{z:Str}{f:Ex}{keys:List (Option Expr)}{values:List Expr}{ks:List Ky}{fs:List Ex}(hk:JE X k (eC (.str z)))(hv:JE X v f)(hr:JP X pos keys values ks fs):JP X pos (some k::keys) (v::values) (.inr z::ks) (f::fs):=by
 obtain⟨Dq,h,g⟩:=hr;refine⟨_,L2.vQ hk hv h,fun F σ H ρ ds Q r e q=>?_⟩;obtain⟨a,ea,e⟩:=ak.mp e;obtain⟨as,Ii,e⟩:=ak.mp e;cases e;refine⟨ρ,F,.str z,r,rfl,fun x H1 s1 rx=>⟨ρ,F,a,r.same s1,ea,fun y H2 s2 ry=>g F σ H2 ρ as _ ((r.same s1).same s2) Ii fun xs H3 s3 rs=>?_⟩⟩;cases cM rx;exact q (y::xs) H3 ((s1.trans s2).trans s3) (ab.cons (ry.mv (.same s3)) rs)
theorem vF{kvs:List (Key×V)}{k:Key}{v:V}(h:k∉kvs.map (·.1)):L2.putK kvs k v=kvs++[(k,v)]:=by
 unfold L2.putK;rw[if_neg];intro h1;rw[List.any_eq_true]at h1;obtain⟨kv,hm,hk⟩:=h1;exact h (List.mem_map.mpr ⟨kv,hm,by simpa using hk⟩)
theorem oR:∀ {more kvs:List (Key×V)},(kvs.map (·.1)++more.map (·.1)).Nodup→L2.fR kvs more=kvs++more
 |[],kvs,_=>by show kvs=_;rw[List.append_nil]
 | p::r,kvs,h=>by
   show L2.fR (L2.putK kvs p.1 p.2) r=_
   have hp:p.1∉kvs.map (·.1):=fun hm=>by
     rw[List.map_cons,List.nodup_append]at h;exact h.2.2 _ hm _ List.mem_cons_self rfl
   rw[vF hp,oR (by simpa using h),List.append_assoc]
   rfl
theorem AR{keys:List (Option Expr)}{values:List Expr}{ks:List Ky}{fs:List Ex}(h:JP X pos keys values ks fs)(CV:keys.all (·.isSome)=true)(hl:keys.length=values.length)(h0:keys≠[])(Gs:keys.length≤15)(hk:ks.length=fs.length)(Fn:ks.length≤15)(hn:ks.Nodup):JE X (.Dict keys values pos) (gm ks fs):=by
 obtain⟨Dq,hp,g⟩:=h;refine zT (L2.Aw hp CV hl h0 Gs) fun σ H Q ⟨ρ,F,d,hr,e,q⟩=>?_;obtain⟨as,ea,e⟩:=ak.mp e;cases e;intro p hp;have Mc:=hr.fresh (o:=.dK []) hp;refine g _ σ _ ρ as _ Mc ea fun xs H2 s2 rs=>?_;have Mt:ks.length=xs.length:=by rw[←rs.length,ij ea,hk]
 have e2:H2 p=some (.dK []):=s2 _ _ L2.b6
 have hm:L2.fR [] (ks.zip xs)=ks.zip xs:=by
   rw[oR (by simp only[List.map_nil,List.nil_append];rw[show(ks.zip xs).map (·.1)=ks from by rw[List.map_fst_zip];omega];exact hn)]
   rfl
 refine⟨e2,ks.zip xs,rfl,by rw[List.length_zip];omega,?_⟩
 rw[hm];refine⟨p,ks.zip xs,rfl,L2.b6,fun ob=>?_⟩;rw[L2.AL]
 have sm:ae H (upd H2 p (.frz ob (.dK (ks.zip xs)))):=fun b u e=>by
   have ne:b≠p:=fun z=>by subst z;rw[hp]at e;cases e
   rw[L2.aE ne];exact s2 _ _ (by rw[L2.aE ne];exact e)
 have nF:¬F p:=mf hr.aN hp;have mv:Mv (fun b=>F b∨b=p) H2 F (upd H2 p (.frz ob (.dK (ks.zip xs)))):=fun b u n e=>⟨fun h=>n (.inl h),by rw[L2.aE (fun z=>n (.inr z))];exact e⟩
 refine q _ _ sm ?_;simp only[Rep];exact⟨p,xs,rfl,.inl ⟨nF,ob,L2.b6⟩,Mt,rs.mv mv⟩
end
theorem nP{x:D}:∀ {ys:List D} {k:Nat} {d:D},dW x k ys=.ok d→∃j,d=.int ((k+j:Nat):Int)∧j<ys.length∧∀m y,ys[m]? =some y→(m=j→bo y x=true)∧(m<j→bo y x=false)
 |[],_,_,h=>by cases h
 | y::ys,k,d,h=>by
   unfold dW at h;split at h
   · rename_i he
     cases h;refine⟨0,by simp,by simp,fun m z hz=>⟨fun hm=>?_,fun hm=>by omega⟩⟩
     subst hm;simp at hz;subst hz;exact he
   · rename_i he
     obtain⟨j,rfl,hj,hh⟩:=nP h;refine⟨j+1,by congr 2;omega,by simp;omega,fun m z hz=>?_⟩
     cases m with
     |zero=>simp at hz;subst hz;exact⟨fun h=>by omega,fun _=>by simpa using he⟩
     | succ m=>
       have:=hh m z (by simpa using hz)
       exact⟨fun h=>this.1 (by omega),fun h=>this.2 (by omega)⟩
theorem zM(p:Addr)(y':Array Value)(o:Obj)(n:Nat)(x:Value)(e:Value→Bool)(j:Nat)(hj:j<y'.size)(hh:∀m y,y'[m]? =some y→(m=j→e y=true)∧(m<j→e y=false)):
   Meets (Builtin.«tuple.index» {pos:=[.ref p,x]}) fun A R s=>s.heap.get? p=some o∧o.data=.seq y' n∧(∀y,y∈y'→SeqAt.EqAt A.in1 s y x (e y))∧R (.ok (.ret (.int j s.toks))) {s with toks:=s.toks+1}:=by
 refine Meets.of_wp fun prog w A R s ⟨h,hd,heq,hR⟩=>?_;unfold Builtin.«tuple.index»;refine wpAny_bind ?_;show wpAny _ _ (pure (Value.ref p,[x])) _ _ _;refine wpAny_pure ?_;refine wpAny_bind (wpAny_tupleItemsOf h hd ?_);dsimp only;refine wpAny_bind (wpAny_pure (wpAny_bind (wpAny_pure (wpAny_bind ?_))));rw[Std.Legacy.Range.forIn_eq_forIn_range'];refine wpAny_forIn_list _ (fun l b s'=>s'=s∧∃k,l=List.range' k (y'.size - k)∧k≤j) _ ?_ ?_ _ _ ⟨rfl,0,by simp[Std.Legacy.Range.size],Nat.zero_le _⟩
 · rintro i rest b s' ⟨rfl,k,hl,hk⟩
   have e1:y'.size - k=(y'.size - (k+1))+1:=by omega
   rw[e1,List.range'_succ]at hl;cases hl;have hy:y'[i]? =some y'[i]:=Array.getElem?_eq_getElem (by omega)
   rw[hy];dsimp only;refine wpAny_bind (heq y'[i] (Array.getElem_mem _) prog w _ _ ?_);by_cases Hh:i=j
   · have:e y'[i]=true:=(hh i _ hy).1 Hh
     rw[this,if_pos rfl];subst Hh;refine wpAny_bind (wpAny_bind (wpAny_mkInt (wpAny_pure (wpAny_pure ?_))));exact wpAny_pure ⟨_,rfl,hR⟩
   · have:e y'[i]=false:=(hh i _ hy).2 (by omega)
     rw[this,if_neg (by decide)]
     exact wpAny_pure ⟨rfl,i+1,rfl,by omega⟩
 · rintro b s' ⟨rfl,k,hl,hk⟩
   have:(List.range' k (y'.size - k)).length=0:=by rw[←hl];rfl
   rw[List.length_range']at this;omega
section
variable{X:Cx}{M:Md}{G H H':Hp}{F0:Gf}{F F':Addr→Prop}{σ:L2.St}{ρ:En}{pos:Pos}{pins:List (Addr×Obj)}{s:Shared}
theorem pP:∀ {ds:List D} {vs:List V} {us:List Value} {b:D} {y:V},ds.all flat=true→flat b=true→ab M H F ds vs→Rep M H F b y→Vals vs us→us.length=ds.length∧∀(m:Nat) d u,ds[m]? =some d→us[m]? =some u→L2.jO y u=bo d b
 | [],_,_,_,_,_,_,r,_,v=>by
   simp only[ab]at r;subst r;cases v;exact⟨rfl,fun m d u h=>by simp at h⟩
 | d::ds,_,_,b,y,f,fb,r,rb,v=>by
   rw[List.all_cons,Bool.and_eq_true]at f;simp only[ab]at r;obtain⟨x,t,rfl,r1,r2⟩:=r;cases v with
   | cons rv rvs=>
     obtain⟨h1,h2⟩:=pP f.2 fb r2 rb rvs;refine⟨by simp[h1],fun m d' u hd hu=>?_⟩
     cases m with
     | zero=>
       simp at hd hu;subst hd hu;rw[L2.qI rv (ll f.1 r1),uY f.1 fb r1 rb]
     |succ m=>exact h2 m d' u (by simpa using hd) (by simpa using hu)
theorem yr{f e:Expr}{as:List Expr}{ks:List Keyword}{p:Pos}{a:Str}{env:Env}{w:Sem Value}:attributeBase (.Call f (e::as) ks p) a env w=w:=by cases f<;>rfl
structure ik(P:Program)(w:World)(K:PySem.W.Frag)(mg:Str→Option Value)(x:Str)(d:D):Prop where
 gl:gE P w K mg x d
 pl:∃a o,mg x=some (.ref a)∧K.lookup a=some o∧o.cls=.type "tuple"∧o.dict=none
theorem uN{P:Program}{w:World}{K:PySem.W.Frag}{h:Heap}{mg:Str→Option Value}{x:Str}{a:Addr}{y':Array Value}{n:Nat}{ds:List D}(X:K.In h)(G:h.Ns mainGlobals mg)(e1:PySem.W.nsIn K mainGlobals x=some (some (.ref a)))(e2:K.lookup a=some {cls:=.type "tuple",data:=.seq y' n})
   (hm:jU ds y'.toList) (hl:y'.size≤1000):ik P w K mg x (.tup ds):=
 ⟨t9 X G e1 e2 hm hl,a,_,PySem.W.mg_of X G e1,e2,rfl,rfl⟩
theorem yg{x:Str}{c:D}{D9:Pos}{e:Expr}{fe:Ex}{apos A':Pos}(g:ik X.prog X.w X.K X.mg x c)(hg:L2.Gl X x)(hd:(x==("__debug__":Str))=false)(he:JE X e fe)(m:L2.M1 X (.Name x D9) "index" apos e A'):JE X (.Call (.Attribute (.Name x D9) "index" apos) [e] [] A') (e2 ky (eC c) fe):=by
 intro pins s σ H Q I ⟨ρ,F,d,hr,e,q⟩;obtain⟨c',ec,e⟩:=ak.mp e;cases ec;obtain⟨b,eb,e⟩:=ak.mp e;obtain⟨a,o,h1,h2,h3,h4⟩:=g.pl;obtain⟨v,u,g1,g2,g3⟩:=g.gl.ex;rw[h1]at g1;cases g1;refine wpAny_Call_method m.base m.iX m.line PySem.F.plainAttrs_tuple PySem.F.slot_tuple_index PySem.F.type_tuple_index (L2.ao (L2.ny hg h1 g2 hd pins s σ H (fun v' H'=>v'=v∧H'=H) I ⟨rfl,rfl⟩) fun u s1 ⟨x',H1,I1,rx,ex,eH⟩=>?_);subst ex eH;cases c with
 | tup ys=>
   replace e:(if flat b=true∧ys.all flat=true then dW b 0 ys else .bad)=.ok d:=e
   by_cases hf:flat b=true∧ys.all flat=true
   · rw[if_pos hf]at e
     obtain⟨fb,fs⟩:=hf;obtain⟨j,rfl,hj,hh⟩:=nP e;have ra:=g3 H1 F;simp only[Rep]at ra;obtain⟨p,xs,rfl,hp,rs⟩:=ra;cases g2;cases rx;have EM:s1.TypeIs (.ref a) "tuple":=⟨o,I1.bS a o h2,h3⟩;refine⟨EM,(fun a' e'=>by cases e';exact⟨o,I1.bS a o h2,h4⟩),?_⟩
     rw[m.trees];refine Calls.callWith_builtin rfl (Calls.evalArgs_plain (Calls.spliced_cons (L2.ao (he pins s1 σ H1 _ I1 ⟨ρ,F,b,hr,eb,fun v H2 s2 rv=>(⟨s2,rv⟩:ae H1 H2∧Rep (ai X) H2 F b v)⟩) fun iv s2 ⟨y,H2,I2,ry,bG,rb⟩=>Calls.spliced_nil ?_)));have DC:=hp.mv (M:=ai X) (F':=F) (.same bG);have DI:=rs.mv (M:=ai X) (F':=F) (.same bG);obtain⟨y',r2,⟨o2,i1,i2,n,i3⟩,hz⟩:=I2.tuple DC.sq;obtain⟨hl,heq⟩:=pP fs fb DI rb r2;have Cm:s2.TypeIs (.ref a) "tuple":=⟨o,I2.bS a o h2,h3⟩;refine call_meetsIn PySem.F.slot_tuple_index Cm PySem.F.entry_tuple_index (PySem.F.args_tuple_index_2 _ _) ((zM a y'.toArray o2 n iv (L2.jO y) j (by simp;omega) ?_).inModel X.prog X.w) ⟨i1,i3,fun z hz=>L2.oZ ry (ll fb rb) r2 (nL fs DI) z (by simpa using hz),?_⟩
     · intro k z hk
       have DJ:y'[k]? =some z:=by simpa using hk
       have Cv:k<y'.length:=by
         obtain⟨h,_⟩:=List.getElem?_eq_some_iff.mp DJ;exact h
       have hd:ys[k]? =some (ys[k]'(by omega)):=List.getElem?_eq_getElem (by omega)
       rw[heq k _ z hd DJ];exact hh k _ hd
     · refine⟨.int _,H2,I2.tok _,⟨_,rfl⟩,?_⟩
       have:=q (.int ((0+j:Nat):Int)) H2 bG b0;simpa using this
   ·rw[if_neg hf]at e;cases e
 |_=>cases e
end
section
variable{X:Cx}{M:Md}{G H H':Hp}{F0:Gf}{F F':Addr→Prop}{σ:L2.St}{ρ:En}{pos:Pos}{pins:List (Addr×Obj)}{s:Shared}
end
section
variable{X:Cx}{M:Md}{G H H':Hp}{F0:Gf}{F F':Addr→Prop}{σ:L2.St}{ρ:En}{pos:Pos}{pins:List (Addr×Obj)}{s:Shared}
end
def lW(i:Int):Bool:=decide (i.natAbs.log2<100000)
@[simp] def Br:D→D→R D
 |.int i,.int j=>if(lW i&&lW j)=true then .ok (.int (i*j))else .bad
 |_,_=>.bad
@[simp] def BL:D→D→R D
 |.int i,.int j=>if 0<j∧j.natAbs.log2<9000 then .ok (.int (i / j))else .bad
 |_,_=>.bad
@[simp] def Bm:D→D→R D
 |.int i,.int j=>if 0≤j∧j≤1000∧lW i=true then .ok (.int (i ^ j.toNat))else .bad
 |_,_=>.bad
@[simp] def Bc:D→D→R D
 |.int i,.int j=>.ok (.int (if j>i then j else i))
 |_,_=>.bad
def frz(i:Nat)(ρ:En):En:=match ρ[i]? with
 |some (.ol xs)=>ρ.set i (.sh (.lst xs))
 |_=>ρ
mutual
noncomputable def qT:D→Bool
 |.aq=>true
 |.bl _=>true
 |.int _=>true
 |.str _=>true
 |.tup xs=>oQ xs
 |_=>false
noncomputable def oQ:List D→Bool
 |[]=>true
 |x::xs=>qT x&&oQ xs
end
@[simp] def BB(i:Nat)(f:Ex):Ex:=fun ρ=>(f (frz i ρ)).bind fun d=>if qT d=true then .ok d else .bad
@[simp] def BE(i:Nat)(f:aF):aF:=fun ρ=>f (frz i ρ)
section
variable{X:Cx}{M:Md}{G H H':Hp}{F0:Gf}{F F':Addr→Prop}{σ:L2.St}{ρ:En}{pos:Pos}{pins:List (Addr×Obj)}{s:Shared}
theorem aM.frz(r:aM M H F σ ρ)(i:Nat):∃F',(∀b,F b→F' b∨∃u,H b=some u∧((∃xs,u=.lst xs)∨∃kvs,u=.dK kvs))∧aM M H F' σ (frz i ρ):=by
 by_cases ol:∃ds,ρ[i]? =some (.ol ds)
 · obtain⟨ds,q0⟩:=ol
   have oi:bq ρ i:=.inl ⟨_,q0⟩;obtain⟨a,xs,ei,fa,e2,rs⟩:=r.ol i ds q0;have mv:Mv F H (fun b=>F b∧b≠a) H:=fun b v n e=>⟨fun h=>n h.1,e⟩
   have E5:Rep M H (fun b=>F b∧b≠a) (.lst ds) (.ref a):=by
     simp only[Rep];exact⟨a,xs,rfl,.inl ⟨fun h=>h.2 rfl,.inl e2⟩,rs.mv mv⟩
   refine⟨fun b=>F b∧b≠a,fun b h=>?_,?_⟩
   · by_cases hb:b=a
     · subst hb
       exact .inr ⟨_,e2,.inl ⟨_,rfl⟩⟩
     ·exact .inl ⟨h,hb⟩
   unfold PL.frz;rw[q0];refine⟨by simp[r.len],fun b h=>r.aN b h.1,?_,?_,?_,?_,pk r.on oi ei mv (fun b f n=>⟨f,n⟩)⟩
   · intro j e q
     rcases get_set q with⟨rfl,hx,hl⟩|⟨B5,q⟩
     · cases hx
       exact⟨_,ei,E5⟩
     · obtain⟨w,e1,g⟩:=r.sh j e q
       exact⟨w,e1,g.mv mv⟩
   · intro j e q
     rcases get_set q with⟨rfl,x,hl⟩|⟨B5,q⟩
     ·cases x
     · obtain⟨b,xs,e1,f,e3,g⟩:=r.ol j e q
       exact⟨b,xs,e1,⟨f,fun z=>by subst z;exact B5 (r.bO i j _ oi (.inl ⟨_,q⟩) ei e1)⟩,e3,g.mv mv⟩
   · intro j k e q
     rcases get_set q with⟨rfl,x,hl⟩|⟨B5,q⟩
     ·cases x
     · obtain⟨b,xs,e1,f,e3,l,g⟩:=r.od j k e q
       exact⟨b,xs,e1,⟨f,fun z=>by subst z;exact B5 (r.bO i j _ oi (.inr ⟨_,_,q⟩) ei e1)⟩,e3,l,g.mv mv⟩
   · intro j k b oj ok ej ek
     exact r.bO j k b oj.dS.2 ok.dS.2 ej ek
 · refine⟨F,fun _ h=>.inl h,?_⟩
   unfold PL.frz;cases q:ρ[i]? with
   |none=>exact r
   | some s=>
     cases s with
     |ol xs=>exact absurd ⟨_,q⟩ ol
     |_=>exact r
def Out(F F':Addr→Prop)(H:Hp):Prop:=∀b,F b→F' b∨∃u,H b=some u∧((∃xs,u=.lst xs)∨∃kvs,u=.dK kvs)
theorem Out.tup{a:Addr}{xs:List V}(o:Out F F' H)(h:dX M H F' a xs):dX M H F a xs:=by
 rcases h with⟨n,h⟩|h
 · refine .inl ⟨fun f=>?_,h⟩
   rcases o a f with f'|⟨u,hu,z⟩
   ·exact n f'
   · rcases h with h|⟨ob,h⟩
     ·rw[hu]at h;cases h;rcases z with⟨_,z⟩|⟨_,z⟩<;>cases z
     ·rw[hu]at h;cases h;rcases z with⟨_,z⟩|⟨_,z⟩<;>cases z
 ·exact .inr h
theorem Out.same(o:Out F F' H)(s:ae H H'):Out F F' H':=fun b f=>(o b f).imp (fun h=>h) fun⟨u,hu,z⟩=>⟨u,s _ _ hu,z⟩
end
section
variable{X:Cx}{M:Md}{G H H':Hp}{F0:Gf}{F F':Addr→Prop}{σ:L2.St}{ρ:En}{pos:Pos}{pins:List (Addr×Obj)}{s:Shared}
end
def intsOf:List D→Option (List Int)
 |[]=>some []
 |.int i::r=>(intsOf r).map (i:: ·)
 |_=>none
@[simp] noncomputable def BP:D→R D
 | .lst xs=>match intsOf xs with
   |some ns=>.ok (.int ns.sum)
   |none=>.bad
 | .tup xs=>match intsOf xs with
   |some ns=>.ok (.int ns.sum)
   |none=>.bad
 |_=>.bad
def p8:List D→Option (List Bool)
 |[]=>some []
 |.bl i::r=>(p8 r).map (i:: ·)
 |_=>none
@[simp] def Ba:D→R D
 | .lst xs=>match p8 xs with
   |some ns=>.ok (.bl (ns.any id))
   |none=>.bad
 |_=>.bad
def unlike(ns:List Int):Nat:=(PyProof.Rows.firstMet (fun i=>ns.getD i 0) ns.length).length
@[simp] noncomputable def Bz:D→R D
 | .lst xs=>match intsOf xs with
   |some ns=>if ns.length≤4000 then .ok (.int (unlike ns))else .bad
   |none=>.bad
 |_=>.bad
@[simp] noncomputable def BK:D→D→R D
 |.tup x,.int j=>if 1<j∧j<1000∧x.length≤1000∧x.isEmpty=false then .ok (.tup (List.replicate j.toNat x).flatten)else .bad
 |_,_=>.bad
@[simp] def BZ:D→D→R D
 |.int i,.int j=>if inR i=true∧inR j=true∧j - i≤16777216 then .ok (.lst (bF i j))else .bad
 |_,_=>.bad
section
variable{X:Cx}{M:Md}{G H H':Hp}{F0:Gf}{F F':Addr→Prop}{σ:L2.St}{ρ:En}{pos:Pos}{pins:List (Addr×Obj)}{s:Shared}
theorem vo:bootBuiltins "set"=some (.type "set"):=by with_unfolding_all rfl
end
section
variable{X:Cx}{M:Md}{G H H':Hp}{F0:Gf}{F F':Addr→Prop}{σ:L2.St}{ρ:En}{pos:Pos}{pins:List (Addr×Obj)}{s:Shared}
theorem ab.erase:∀ {ds:List D} {xs:List V} (k:Nat),ab M H F ds xs→ab M H F (ds.eraseIdx k) (xs.eraseIdx k)
 |[],_,k,h=>by simp only[ab]at h;subst h;exact ab.nil
 | d::ds,_,0,h=>by
   simp only[ab]at h;obtain⟨y,r,rfl,_,h2⟩:=h;exact h2
 | d::ds,_,k+1,h=>by
   simp only[ab]at h;obtain⟨y,r,rfl,h1,h2⟩:=h;exact ab.cons h1 (ab.erase k h2)
end
section
variable{prog:Program}{w:World}{A:Around}{E:Value→Shared→Prop}{s:Shared}{e it:Addr}{fp:List Addr}{n i:Nat}{c:Int}{P:Nat→Value→Prop}{St:Nat→Heap→Prop}{old:Value}
end
section
variable{X:Cx}{M:Md}{G H H':Hp}{F0:Gf}{F F':Addr→Prop}{σ:L2.St}{ρ:En}{pos:Pos}{pins:List (Addr×Obj)}{s:Shared}
def qA:Int→List D→List D
 |_,[]=>[]
 |k,x::xs=>.tup [.int k,x]::qA (k+1) xs
@[simp] def BC(c:Int)(a:Ex):bg:=fun ρ=>(a ρ).bind fun x=>(items x).bind fun xs=>.ok (qA c xs)
end
section
variable{prog:Program}{w:World}{A:Around}{E:Value→Shared→Prop}{s:Shared}
end
section
variable{X:Cx}{M:Md}{G H H':Hp}{F0:Gf}{F F':Addr→Prop}{σ:L2.St}{ρ:En}{pos:Pos}{pins:List (Addr×Obj)}{s:Shared}
end
end PL
namespace PL
open PySem PySem.Spec PySem.W
open L2 (V Hp HO Cx PE PT PW PA PS bu PG b5 VK TE TT TA TS TI TG Inv RelV Vals Rd aO aT upd ae Key XK Ends aH dh aW R2 EP It Turn bM Un aU bL bQ)
theorem vC{P:Program}{w:World}{H:Hp}{h:Heap}{a:Addr}{o:HO}(x:bL P w H h a o):∃ob,h.get? a=some ob:=by
 cases o with
 |lst xs=>obtain⟨_,_,_,_,e⟩:=x;exact⟨_,e⟩
 |tup xs=>obtain⟨_,_,_,ob,e,_⟩:=x;exact⟨_,e⟩
 |dK kvs=>obtain⟨_,_,_,_,o,_,_,e,_⟩:=x;exact⟨_,e⟩
 |dT kvs=>obtain⟨_,_,_,_,o,_,_,e,_⟩:=x;exact⟨_,e⟩
 |set S n=>obtain⟨o,_,_,_,e,_⟩:=x;exact⟨_,e⟩
 |ins C dx fs=>obtain⟨_,_,_,e,_⟩:=x;exact⟨_,e⟩
 |own y=>obtain⟨_,e⟩:=x;exact⟨_,e⟩
 |xd fs=>obtain⟨_,⟨_,_,_,e,_⟩,_⟩:=x;exact⟨_,e⟩
 |jQ lo hi=>obtain⟨_,_,_,e⟩:=x;exact⟨_,e⟩
 |frz ob u=>obtain⟨e,_⟩:=x;exact⟨_,e⟩
 |fO ps=>exact⟨_,show h.get? a=some _ from x⟩
 |met f y=>exact⟨_,show h.get? a=some _ from x⟩
 |ext φ=>obtain⟨_,⟨_,e⟩,_⟩:=x;exact⟨_,e⟩
theorem sg{P:Program}{w:World}{H:Hp}{h h':Heap}(x:aU P w H h)(k:∀b o,H b≠none→h.get? b=some o→h'.get? b=some o):aU P w H h':=fun a o e=>
 (x a o e).fB (fun b u hb q=>k b u (by rcases hb with rfl|hb<;>simp_all) q) (fun _ q=>q) fun _ _ q=>q
section
variable{P:Program}{w:World}{K:PySem.W.Frag}{mg:Str→Option Value}{base:Heap}{N:List Str}{qual:Str}{scope:Scope}{f:Addr}{Cj:Value}{A:Around}{outer:List Env}{s:Shared}{H:Hp}{E:XK}
noncomputable def rz(n:Nat)(c:Str)(t:aF):List D→R D:=fun ds=>match t (ds.map Slot.sh++List.replicate (n - ds.length) .un)with
 |.ok true=>.exc (.bA c [] [])
 |_=>.bad
end
section
variable{M:Model}{A:Around}{E:Value→Shared→Prop}{K:PySem.W.Frag}{h:Heap}{g:Array GenState}{d:Drawn}{t:Nat}{os:OsState}{e C U:Addr}{oe:Obj}
end
section
variable{X:Cx}{pins:List (Addr×Obj)}{σ:L2.St}{H:Hp}{s:Shared}
end
structure jg(P:Program)(w:World)(C:Addr)(l:List Env)(H1 H':Hp)(h1:Heap)(a t:Addr)(B:Heap)(h:Heap):Prop where
 un:Un (bQ l) [] H1 H' h1 h
 au:aU P w H' h
 fl:Heap.FlyingW B l a (.ref C) (.ref t) h
 i4:∀b o,h.get? b=some o→(H' b≠none∨((∃o',h1.get? b=some o')∧b∉bQ l))→B.get? b=some o
section
variable{P:Program}{w:World}{C:Addr}{l:List Env}{H1 H':Hp}{h1 h h5:Heap}{a t:Addr}{B:Heap}
theorem jg.step(x:jg P w C l H1 H' h1 a t B h)(st:B.StaysIn h5)(sm:h.UpToSlots h5):Un (bQ l) [] H1 H' h1 h5∧aU P w H' h5∧∀b o,h5.get? b=some o→(H' b≠none∨((∃o',h1.get? b=some o')∧b∉bQ l))→B.get? b=some o:=by
 have sl:∀b o,h.get? b=some o→b∈bQ l→∃sl,h5.get? b=some {o with slots:=sl}:=fun b o e hb=>by
   obtain⟨_,o',C9,Nh⟩:=x.fl.2.2.1.mem hb;rw[e]at C9;cases C9;exact sm b o e Nh
 refine⟨⟨fun b o e n hb CK=>st _ _ (x.i4 b o (x.un.keep b o e n hb CK) (.inr ⟨⟨o,e⟩,hb⟩)),fun b o e n hb CK=>?_,x.un.free,fun b o e CK=>?_,x.un.cO,x.un.cH,x.un.cR⟩,sg x.au fun b o hb q=>st _ _ (x.i4 b o q (.inl hb)),fun b o eo hc=>?_⟩
 · obtain⟨s2,e2⟩:=x.un.slot b o e n hb CK
   obtain⟨s3,e3⟩:=sl b _ e2 hb;exact⟨s3,e3⟩
 · obtain⟨o',e'⟩:=x.un.there b o e CK
   by_cases hb:b∈bQ l
   · obtain⟨s3,e3⟩:=sl b _ e' hb
     exact⟨_,e3⟩
   ·exact⟨o',st _ _ (x.i4 b o' e' (.inr ⟨⟨o,e⟩,hb⟩))⟩
 · rcases hc with hb|⟨⟨o',e'⟩,hb⟩
   · cases q:H' b with
     |none=>exact absurd q hb
     | some u=>
       obtain⟨ob,z⟩:=vC (x.au _ _ q);have z2:=x.i4 b ob z (.inl hb);have z3:=st _ _ z2;rw[z3]at eo;cases eo;exact z2
   · obtain⟨o2,e2⟩:=x.un.there b o' e' (by intro z;cases z)
     have z2:=x.i4 b o2 e2 (.inr ⟨⟨o',e'⟩,hb⟩);have z3:=st _ _ z2;rw[z3]at eo;cases eo;exact z2
theorem jg.on(x:jg P w C l H1 H' h1 a t B h)(f5:Heap.FlyingW B l a (.ref C) (.ref t) h5)(sm:h.UpToSlots h5):jg P w C l H1 H' h1 a t B h5:=
 let⟨u,k,c⟩:=x.step f5.1 sm
 ⟨u,k,f5,c⟩
end
section
variable{X:Cx}{pins:List (Addr×Obj)}{σ:L2.St}{H:Hp}{s:Shared}{a:Addr}
end
section
variable{X:Cx}
end
section
variable{X:Cx}{pos:Pos}
end
end PL
namespace PL
open PySem PySem.Spec
open L2 (V Hp HO Cx PE PT PW PA PS bu PG b5 VK TE TT TA TS TI TG Inv RelV Vals Rd aO aT upd ae Key XK Ends aH dh aW R2 EP It Turn bM Un ft)
abbrev dT(xs:List D):D:=.bA ⟨#[]⟩ [⟨#[116]⟩] xs
@[simp] def xb:D→R D
 |.tup xs=>.ok (dT xs)
 |_=>.bad
@[simp] def Be:D→R D
 |.bA _ (_::_) xs=>.ok (.tup xs)
 |_=>.bad
@[simp] def Bi:D→D→R D
 | .bA _ (_::_) xs,.int k=>match intsOf xs with
   |some ns=>.ok (.int (ns.count k:Nat))
   |none=>.bad
 |_,_=>.bad
@[simp] def BA(a:Ex)(lo hi:Option Ex):Ex:=e1 xb (iU a lo hi)
section
variable{X:Cx}{M:Md}{G H H':Hp}{F0:Gf}{F F':Addr→Prop}{σ:L2.St}{ρ:En}{pos:Pos}{pins:List (Addr×Obj)}{s:Shared}
end
section
variable{X:Cx}{M:Md}
end
section
variable{X:Cx}{M:Md}{G H H':Hp}{F0:Gf}{F F':Addr→Prop}{σ:L2.St}{ρ:En}{pos:Pos}{pins:List (Addr×Obj)}{s:Shared}
@[simp] def Bh(a:Ex):bg:=fun ρ=>(a ρ).bind fun x=>match x with
 |.lst xs=>.ok xs.reverse
 |_=>.bad
end
end PL
set_option maxHeartbeats 2000000
namespace PL
open PySem PySem.Spec PySem.W
section
variable{prog:Program}{w:World}{A:Around}{E:Value→Shared→Prop}{s:Shared}
def iF(h:Heap)(a l:Addr)(i:Int):Prop:=∃o,h.get? a=some o∧o.cls=.type "reversed"∧o.data=.fields #[.ref l,rawInt i]
theorem iF.typeIs{a l:Addr}{i:Int}(x:iF s.heap a l i):s.TypeIs (.ref a) "reversed":=let⟨o,ho,hc,_⟩:=x;⟨o,ho,hc⟩
theorem iF.at{h h':Heap}{a l:Addr}{i:Int}(x:iF h a l i)(e:∀o,h.get? a=some o→h'.get? a=some o):iF h' a l i:=let⟨o,ho,r⟩:=x;⟨o,e _ ho,r⟩
end
section
open L2 (V Hp HO Cx PE PT PW PA PS bu PG b5 VK TE TT TA TS TI TG Inv RelV Vals Rd aO aT upd ae Key XK Ends aH dh aW R2 EP It Turn bM Un)
variable{X:Cx}{M:Md}{G H H':Hp}{F0:Gf}{F F':Addr→Prop}{σ:L2.St}{ρ:En}{pos:Pos}{pins:List (Addr×Obj)}{s:Shared}
@[simp] def Bx(a:Ex):bg:=fun ρ=>(a ρ).bind fun x=>match x with
 |.lst xs=>.ok xs.reverse
 |.tup xs=>.ok xs.reverse
 |_=>.bad
end
end PL
namespace PL
open PySem PySem.Spec
open PyProof.Rows (assign_Tuple)
open L2 (V Hp HO Cx PE PT PW PA PS bu PG b5 VK TE TT TA TS TI TG Inv RelV Vals Rd aO aT upd ae Key XK Ends aH dh aW R2 EP)
section
variable{prog:Program}{w:World}{A:Around}{E:Value→Shared→Prop}{s:Shared}
end
section
variable{X:Cx}{M:Md}{G H H':Hp}{F0:Gf}{F F':Addr→Prop}{σ:L2.St}{ρ:En}{pos:Pos}{DE:Ends}
end
end PL
set_option maxHeartbeats 1000000
namespace PL
open PySem PySem.Spec
open L2 (V Hp HO Cx PE PT PW PA PS bu PG b5 VK TE TT TA TS TI TG Inv RelV Vals Rd aO aT upd ae Key XK Ends aH dh aW R2 EP It Turn bM Un)
section
variable{X:Cx}{M:Md}{G H H':Hp}{F0:Gf}{F F':Addr→Prop}{σ:L2.St}{ρ:En}{pos:Pos}{pins:List (Addr×Obj)}{s:Shared}
def isNone:Value→Bool
 |.none=>true
 |_=>false
end
section
variable{X:Cx}{M:Md}{G H H':Hp}{F0:Gf}{F F':Addr→Prop}{σ:L2.St}{ρ:En}{pos:Pos}{pins:List (Addr×Obj)}{s:Shared}
theorem xI{kvs:List (Key×V)}{vs:List (Key×Value)}(h:L2.KV kvs vs):kvs.length=vs.length:=by
 unfold L2.KV at h
 induction h with
 |nil=>rfl
 |cons _ _ ih=>simp[ih]
end
noncomputable def putL(k:Ky)(d:D)(ks:List Ky)(vs:List D):List Ky×List D:=if(ks.any fun a=>decide (a=k))=true then(ks,List.zipWith (fun a v=>if a=k then d else v) ks vs)else(ks++[k],vs++[d])
noncomputable def j4(i:Nat)(k e:Ex):Sm:=fun ρ=>(e ρ).bind fun d=>(k ρ).bind fun q=>match ρ[i]?,keyOf q with
 |some (.od ks vs),some y=>if ks.length<1000 then .ok (.next (ρ.set i (.od (putL y d ks vs).1 (putL y d ks vs).2)))else .bad
 |_,_=>.bad
def jk(i:Nat):Ex:=fun ρ=>match ρ[i]? with
 |some (.od ks _)=>.ok (.int ks.length)
 |_=>.bad
section
variable{X:Cx}{M:Md}{G H H':Hp}{F0:Gf}{F F':Addr→Prop}{σ:L2.St}{ρ:En}{pos:Pos}{pins:List (Addr×Obj)}{s:Shared}
theorem zS(i:Nat){x:Str}{p1 p2:Pos}(hN:X.N.Nodup)(hi:X.N[i]? =some x:=by rfl)(hx:L2.Loc X.env.scope x:=by exact Or.inl rfl)(hf:X.fn x=true∨X.env.scope.names.lookup x=some .local:=by first|exact .inl rfl|exact .inr rfl)
   (hs:swapsWith (.Dict [] [] p1) (some (.Name x p2)) pos.line X.env=pure false:=by rfl):JS X (.Assign [.Name x p2] (.Dict [] [] p1) pos) (lU i (gm [] [])):=fun F0=>
 fj (L2.oB hN hi hx L2.wa hs hf) fun D σ H ⟨ρ,F,fl,r,e,q⟩=>by
   obtain⟨d,ed,e⟩:=ak.mp e;cases ed;cases e;intro p hp;obtain⟨mv,r'⟩:=r.new (i:=i) (s:=.od [] []) hp (.inr ⟨[],[],[],rfl,rfl,rfl,ab.nil⟩);exact q _ _ _ mv r'
theorem zJ{ks:List Ky}{xs:List V}(k:Ky)(v:V)(hl:ks.length=xs.length):
   L2.putK (ks.zip xs) k v=(if(ks.any fun a=>decide (a=k))=true then ks.zip (List.zipWith (fun a x=>if a=k then v else x) ks xs)else(ks++[k]).zip (xs++[v])):=by
 have IF:∀ {ks:List Ky} {xs:List V},ks.length=xs.length→((ks.zip xs).any fun kv=>decide (kv.1=k))=(ks.any fun a=>decide (a=k)):=by
   intro ks
   induction ks with
   |nil=>intro xs _;simp
   | cons a ks ih=>
     intro xs hl;cases xs with
     |nil=>simp at hl
     |cons x xs=>rw[List.zip_cons_cons,List.any_cons,List.any_cons,ih (by simpa using hl)]
 unfold L2.putK;rw[IF hl];by_cases h:(ks.any fun a=>decide (a=k))=true
 · rw[if_pos h,if_pos h]
   have e:∀ {ks:List Ky} {xs:List V},ks.length=xs.length→(ks.zip xs).map (fun kv=>if kv.1=k then(kv.1,v)else kv)=ks.zip (List.zipWith (fun a x=>if a=k then v else x) ks xs):=by
     intro ks
     induction ks with
     |nil=>intro xs _;simp
     | cons a ks ih=>
       intro xs hl;cases xs with
       |nil=>simp at hl
       | cons x xs=>
         rw[List.zip_cons_cons,List.map_cons,ih (by simpa using hl),List.zipWith_cons_cons,List.zip_cons_cons]
         by_cases h:a=k
         ·simp[h]
         ·simp[h]
   exact e hl
 · rw[if_neg h,if_neg h,List.zip_append hl]
   rfl
theorem oq{k:Ky}{d:D}{v:V}(rd:Rep M H F d v):∀ {ks:List Ky} {ds:List D} {xs:List V},ab M H F ds xs→ab M H F (List.zipWith (fun a y=>if a=k then d else y) ks ds) (List.zipWith (fun a x=>if a=k then v else x) ks xs)
 |[],_,_,_=>by simpa using ab.nil
 | a::ks,[],xs,r=>by
   simp only[ab]at r;subst r;simpa using ab.nil
 | a::ks,y::ds,xs,r=>by
   simp only[ab]at r;obtain⟨x,Dm,rfl,r1,r2⟩:=r;rw[List.zipWith_cons_cons,List.zipWith_cons_cons];refine ab.cons ?_ (oq rd r2);by_cases h:a=k
   ·rw[if_pos h,if_pos h];exact rd
   ·rw[if_neg h,if_neg h];exact r1
theorem zF(i:Nat){x:Str}{e k:Expr}{f g:Ex}{p2 p3:Pos}(hu:X.A.units+64<cLine)(hk:JE X k g)(he:JE X e f)(hN:X.N[i]? =some x:=by rfl)(hv:L2.cz X.env.scope x:=by first|exact Or.inl rfl|exact Or.inr (Or.inl rfl)|exact Or.inr (Or.inr rfl))(hd:(x==("__debug__":Str))=false:=by decide)
   (Cs:(x==("__classdict__":Str))=false:=by decide) (hs:swapsWith e (some (.Subscript (.Name x p2) k p3)) pos.line X.env=pure false:=by rfl):
   JS X (.Assign [.Subscript (.Name x p2) k p3] e pos) (j4 i g f):=fun F0=>
 fj (L2.zQ (by omega) (L2.pv i hN hv hd Cs) hk he hs) fun D σ H ⟨ρ,F,fl,r,e,q⟩=>by
   obtain⟨d,ed,e⟩:=ak.mp e;obtain⟨y,ey,e⟩:=ak.mp e
   have ⟨ks,vs,z,q1,hk,e9⟩:∃ks vs z,ρ[i]? =some (.od ks vs)∧keyOf y=some z∧(if ks.length<1000 then R.ok (Fl.next (ρ.set i (.od (putL z d ks vs).1 (putL z d ks vs).2)))else .bad)=.ok fl:=by
     cases hq:ρ[i]? with
     |none=>rw[hq]at e;cases e
     | some s=>
       rw[hq]at e;cases s with
       | od ks vs=>
         cases hz:keyOf y with
         |none=>rw[hz]at e;cases e
         |some z=>rw[hz]at e;exact⟨ks,vs,z,rfl,rfl,e⟩
       |_=>cases e
   by_cases Cv:ks.length<1000
   · rw[if_pos Cv]at e9
     cases e9;have oi:bq ρ i:=.inr ⟨_,_,q1⟩;obtain⟨a,xs,ea,fa,ha,hl,rs⟩:=r.rs.od i _ _ q1;refine⟨ρ,F,d,r.rs,ed,fun v H1 s1 rv=>⟨_,ea,ρ,F,y,(r.same s1).rs,ey,fun w H2 s2 Dx=>?_⟩⟩;have r2:=(r.same s1).same s2;have KL:=s2 _ _ (s1 _ _ ha);cases je hk Dx;have GK:=rv.mv (M:=ai X) (F':=F) (.same s2);have DI:=rs.mv (M:=ai X) (F':=F) (.same (s1.trans s2))
     have Kg:(ks.zip xs).length<sizeLine:=by
       have:(sizeLine:Nat)=16777216:=sizeLine_eq;rw[List.length_zip];omega
     refine⟨a,_,rfl,L2.gp.k KL Kg,?_⟩;rw[zJ z v hl];unfold putL at q;by_cases hm:(ks.any fun a=>decide (a=z))=true
     · rw[if_pos hm]at q ⊢
       obtain⟨mv,r'⟩:=r2.chg (s:=.od ks (List.zipWith (fun a y=>if a=z then d else y) ks vs)) oi ea (.inr ⟨_,_,_,rfl,rfl,by rw[List.length_zipWith];omega,oq GK DI⟩)
       exact q _ _ _ (Mv.trans (.same (s1.trans s2)) mv) r'
     · rw[if_neg hm]at q ⊢
       obtain⟨mv,r'⟩:=r2.chg (s:=.od (ks++[z]) (vs++[d])) oi ea (.inr ⟨_,_,_,rfl,rfl,by rw[List.length_append,List.length_append,hl];rfl,DI.append (ab.cons GK ab.nil)⟩)
       exact q _ _ _ (Mv.trans (.same (s1.trans s2)) mv) r'
   ·rw[if_neg Cv]at e9;cases e9
theorem AA:aW X (.builtin "len") (fun xs H Q=>∃p kvs,xs=[.ref p]∧Rd H p (.dK kvs)∧Q (.int kvs.length) H):=by
 intro pins s σ H xs us Q I r h;obtain⟨p,kvs,rfl,hd,q⟩:=h;obtain⟨u,rfl,ru⟩:=L2.vals1 r;cases ru;exact L2.Aa I hd fun t s' I'=>⟨.int _,H,I',⟨t,rfl⟩,q⟩
theorem zi(i:Nat){x:Str}{p p2:Pos}(hg:L2.Gl X "len")(hm:X.mg "len"=none)(hN:X.N[i]? =some x:=by rfl)(hv:L2.cz X.env.scope x:=by first|exact Or.inl rfl|exact Or.inr (Or.inl rfl)|exact Or.inr (Or.inr rfl))(hd:(x==("__debug__":Str))=false:=by decide)
   (Cs:(x==("__classdict__":Str))=false:=by decide) (hs:starEach [.Name x p2] X.env=(false,eval (.Name x p2) X.env)::starEach [] X.env:=by rfl):JE X (.Call (.Name "len" p) [.Name x p2] [] pos) (jk i):=
 bx (L2.kq AA hg hm fI (L2.kb (L2.pv i hN hv hd Cs) L2.mZ hs) (by decide) (by decide) hs) fun σ H Q ⟨ρ,F,d,hr,e,q⟩=>by
   unfold jk at e;split at e
   · rename_i ks vs q1
     cases e;obtain⟨a,xs,ea,fa,ha,hl,rs⟩:=hr.od i _ _ q1;refine⟨_,ea,a,_,rfl,.inl ha,q _ _ (ae.refl _) ?_⟩;rw[List.length_zip,show min ks.length xs.length=ks.length by omega];exact b0
   ·cases e
end
section
variable{X:Cx}{M:Md}{G H H':Hp}{F0:Gf}{F F':Addr→Prop}{σ:L2.St}{ρ:En}{pos:Pos}{pins:List (Addr×Obj)}{s:Shared}
end
section
variable{X:Cx}{M:Md}{G H H':Hp}{F0:Gf}{F F':Addr→Prop}{σ:L2.St}{ρ:En}{pos:Pos}{pins:List (Addr×Obj)}{s:Shared}
end
section
variable{X:Cx}{M:Md}{G H H':Hp}{F0:Gf}{F F':Addr→Prop}{σ:L2.St}{ρ:En}{pos:Pos}{pins:List (Addr×Obj)}{s:Shared}
end
section
variable{X:Cx}{M:Md}{G H H':Hp}{F0:Gf}{F F':Addr→Prop}{σ:L2.St}{ρ:En}{pos:Pos}{pins:List (Addr×Obj)}{s:Shared}
theorem part_of{v:Value}{lo:Option Int}(h:IsPart v lo):∃l:Option (Int×Tok),v=partValue l∧l.map (·.1)=lo:=by
 cases h with
 |none=>exact⟨none,rfl,rfl⟩
 |int i t=>exact⟨some (i,t),rfl,rfl⟩
end
section
variable{X:Cx}{M:Md}{G H H':Hp}{F0:Gf}{F F':Addr→Prop}{σ:L2.St}{ρ:En}{pos:Pos}{pins:List (Addr×Obj)}{s:Shared}
theorem uh{o e f:Expr}{apos A':Pos}{m:Str}(hb:attributeBase o m X.env (eval o X.env)=eval o X.env)(hn:eQ e=true)(EI:eQ f=true)(hl:(apos.endLine==A'.line)=true):L2.M2 X o m apos e f A':=
 ⟨hb,mM (by simp[hn,EI]) (show 2<30 by decide),hl,by rw[bf hn,bf EI];rfl⟩
end
section
variable{X:Cx}{M:Md}{G H H':Hp}{F0:Gf}{F F':Addr→Prop}{σ:L2.St}{ρ:En}{pos:Pos}{pins:List (Addr×Obj)}{s:Shared}
end
section
variable{X:Cx}{M:Md}{G H H':Hp}{F0:Gf}{F F':Addr→Prop}{σ:L2.St}{ρ:En}{pos:Pos}{pins:List (Addr×Obj)}{s:Shared}
def lh(M:Md)(G:Hp)(F0:Gf)(H:Hp)(F:Addr→Prop)(i:Nat)(v:Option (Option V))(D:Ends):Fl→Prop
 |.next ρ'=>∀B1 H' F',Mv F H F' H'→aK M G F0 H' F' B1 ρ'→B1[i]? =v→D.nx B1 H'
 |.brk ρ'=>∀B1 H' F',Mv F H F' H'→aK M G F0 H' F' B1 ρ'→B1[i]? =v→D.bk B1 H'
 |.cont ρ'=>∀B1 H' F',Mv F H F' H'→aK M G F0 H' F' B1 ρ'→B1[i]? =v→D.ct B1 H'
 |.ret d=>∀v H' F',Mv F H F' H'→ae G H'→(∀a,F0 a→F' a)→Rep M H' F' d v→D.rt v H'
 |.d8 _=>False
 |.eO _=>False
theorem lh.mv{i:Nat}{v:Option (Option V)}{DE:Ends}(m:Mv F H F' H'):∀ {fl:Fl},lh M G F0 H F i v DE fl→lh M G F0 H' F' i v DE fl
 |.next _,h=>fun B1 H2 F2 m2 r=>h B1 H2 F2 (m.trans m2) r
 |.brk _,h=>fun B1 H2 F2 m2 r=>h B1 H2 F2 (m.trans m2) r
 |.cont _,h=>fun B1 H2 F2 m2 r=>h B1 H2 F2 (m.trans m2) r
 |.ret _,h=>fun B1 H2 F2 m2 a b r=>h B1 H2 F2 (m.trans m2) a b r
 |.d8 _,h=>h
 |.eO _,h=>h
end
end PL
namespace PySem
section
variable{prog:Program}{w:World}{A:Around}{R:Result→Shared→Prop}{I ax:Addr}
end
end PySem
namespace PL
open PySem PySem.Spec
open L2 (V Hp HO Cx PE PT PW PA PS bu PG b5 VK TE TT TA TS TI TG Inv RelV Vals Rd aO aT upd ae Key XK Ends aH dh aW R2 EP It Turn bM Un)
section
variable{X:Cx}{M:Md}{G H H':Hp}{F0:Gf}{F F':Addr→Prop}{σ:L2.St}{ρ:En}{pos:Pos}{pins:List (Addr×Obj)}{s:Shared}
end
end PL
namespace PySem
namespace F
end F
section
variable{prog:Program}{w:World}{A:Around}{E:Value→Shared→Prop}{s:Shared}{a:Addr}{o:Obj}{ep:Nat}{t:SetTable}
end
end PySem
namespace PL
open PySem PySem.Spec
open L2 (V Hp HO Cx PE PT PW PA PS bu PG b5 VK TE TT TA TS TI TG Inv RelV Vals Rd aO aT upd ae Key XK Ends aH dh aW R2 EP It Turn bM Un)
section
variable{X:Cx}{M:Md}{G H H':Hp}{F0:Gf}{F F':Addr→Prop}{σ:L2.St}{ρ:En}{pos:Pos}{pins:List (Addr×Obj)}{s:Shared}
end
noncomputable def T.at:T→List Nat→Option T
 |t,[]=>some t
 | .l ts,k::p=>match ts[k]? with
   |some t=>T.at t p
   |none=>none
 | .m _ ts,k::p=>match ts[k]? with
   |some t=>T.at t p
   |none=>none
 | .tu ts,k::p=>match ts[k]? with
   |some t=>T.at t p
   |none=>none
 |.d _,_::_=>none
noncomputable def T.put(n:T):T→List Nat→T
 |_,[]=>n
 | .l ts,k::p=>match ts[k]? with
   |some t=>.l (ts.set k (T.put n t p))
   |none=>.l ts
 | .m ks ts,k::p=>match ts[k]? with
   |some t=>.m ks (ts.set k (T.put n t p))
   |none=>.m ks ts
 | .tu ts,k::p=>match ts[k]? with
   |some t=>.tu (ts.set k (T.put n t p))
   |none=>.tu ts
 |.d x,_::_=>.d x
section
variable{X:Cx}{M:Md}{G H H':Hp}{F0:Gf}{F F':Addr→Prop}{σ:L2.St}{ρ:En}{pos:Pos}{pins:List (Addr×Obj)}{s:Shared}
mutual
theorem ah.less(hs:∀a,F' a→F a):∀ {t:T} {v:V} {as:List Addr},(∀b∈as,F' b)→ah M H F t v as→ah M H F' t v as
 | .d x,v,as,_,h=>by
   simp only[ah]at h ⊢;exact⟨h.1,h.2.sub hs⟩
 | .l ts,v,as,k,h=>by
   simp only[ah]at h ⊢;obtain⟨a,xs,bs,e1,rfl,f,e2,r⟩:=h;exact⟨a,xs,bs,e1,rfl,k a List.mem_cons_self,e2,ag.less hs (fun b hb=>k b (List.mem_cons_of_mem _ hb)) r⟩
 | .m ks ts,v,as,k,h=>by
   simp only[ah]at h ⊢;obtain⟨a,xs,bs,e1,rfl,f,e2,l,r⟩:=h;exact⟨a,xs,bs,e1,rfl,k a List.mem_cons_self,e2,l,ag.less hs (fun b hb=>k b (List.mem_cons_of_mem _ hb)) r⟩
 | .tu ts,v,as,k,h=>by
   simp only[ah]at h ⊢;obtain⟨a,xs,e1,f,e2,r⟩:=h;exact⟨a,xs,e1,fun z=>f (hs a z),e2,ag.less hs k r⟩
theorem ag.less(hs:∀a,F' a→F a):∀ {ts:List T} {xs:List V} {as:List Addr},(∀b∈as,F' b)→ag M H F ts xs as→ag M H F' ts xs as
 |[],xs,as,_,h=>by simp only[ag]at h ⊢;exact h
 | t::ts,xs,as,k,h=>by
   simp only[ag]at h ⊢;obtain⟨x,r,bs,cs,e1,rfl,h1,h2⟩:=h;exact⟨x,r,bs,cs,e1,rfl,ah.less hs (fun b hb=>k b (List.mem_append_left _ hb)) h1,ag.less hs (fun b hb=>k b (List.mem_append_right _ hb)) h2⟩
end
theorem ag.part:∀ {ts:List T} {xs:List V} {as:List Addr} {k:Nat} {t:T},ag M H F ts xs as→ts[k]? =some t→∃x bs,xs[k]? =some x∧ah M H F t x bs∧bs.Sublist as
 |[],_,_,_,_,_,e=>by simp at e
 | t::ts,xs,as,0,_,h,e=>by
   simp only[ag]at h;obtain⟨x,r,bs,cs,rfl,rfl,h1,h2⟩:=h;cases e;exact⟨x,bs,rfl,h1,List.sublist_append_left _ _⟩
 | t::ts,xs,as,k+1,_,h,e=>by
   simp only[ag]at h;obtain⟨x,r,bs,cs,rfl,rfl,h1,h2⟩:=h;obtain⟨y,ds,h3,h4,h5⟩:=ag.part h2 (by simpa using e)
   exact⟨y,ds,by simpa using h3,h4,h5.trans (List.sublist_append_right _ _)⟩
theorem ag.chg{H2:Hp}{F2:Addr→Prop}{N:List Addr}{c:Addr}{t':T}{x:V}(m:Mv F H F2 H2)(hk:∀b u,b≠c→H b=some u→H2 b=some u)(Io:∀b,F b→F2 b):∀ {j:Nat} {ts:List T} {xs:List V} {as:List Addr} {t:T},ag M H F ts xs as→as.Nodup→ts[j]? =some t→xs[j]? =some x→
   (∀bs,ah M H F t x bs→bs.Nodup→c∈bs∧∃Dy,ah M H2 F2 t' x Dy∧Dy.Nodup∧(∀b∈Dy,b∈bs∨(b∈N∧H b=none))∧∀b∈N,b∈Dy)→
   c∈as∧∃Cw,ag M H2 F2 (ts.set j t') xs Cw∧Cw.Nodup∧(∀b∈Cw,b∈as∨(b∈N∧H b=none))∧∀b∈N,b∈Cw
 |j,[],_,_,_,_,_,e,_,_=>by simp at e
 | 0,t::ts,xs,as,_,h,nd,e,ex,k=>by
   simp only[ag]at h;obtain⟨y,r,bs,cs,rfl,rfl,h1,h2⟩:=h;cases e;cases ex;have Ck:=List.nodup_append.mp nd;obtain⟨hc,Dy,k1,k2,k3,k4⟩:=k bs h1 Ck.1;refine⟨List.mem_append_left _ hc,Dy++cs,?_,List.nodup_append.mpr ⟨k2,Ck.2.1,fun a ha b hb z=>?_⟩,fun b hb=>?_,fun b hb=>List.mem_append_left _ (k4 b hb)⟩
   · rw[List.set_cons_zero]
     simp only[ag];refine⟨_,r,Dy,cs,rfl,rfl,k1,h2.mv m fun b hb u f hu=>⟨Io b f,hk b u (fun z=>?_) hu⟩⟩;subst z;exact Ck.2.2 b hc b hb rfl
   · subst z
     rcases k3 a ha with h|⟨_,h⟩
     ·exact Ck.2.2 a h a hb rfl
     · obtain⟨_,u,hu⟩:=h2.fs a hb
       rw[h]at hu;cases hu
   · rcases List.mem_append.mp hb with hb|hb
     ·exact(k3 b hb).imp (List.mem_append_left _) id
     ·exact .inl (List.mem_append_right _ hb)
 | j+1,t::ts,xs,as,_,h,nd,e,ex,k=>by
   simp only[ag]at h;obtain⟨y,r,bs,cs,rfl,rfl,h1,h2⟩:=h;have Ck:=List.nodup_append.mp nd;obtain⟨hc,DG,k1,k2,k3,k4⟩:=ag.chg m hk Io h2 Ck.2.1 (by simpa using e) (by simpa using ex) k
   refine⟨List.mem_append_right _ hc,bs++DG,?_,List.nodup_append.mpr ⟨Ck.1,k2,fun a ha b hb z=>?_⟩,fun b hb=>?_,fun b hb=>List.mem_append_right _ (k4 b hb)⟩
   · rw[List.set_cons_succ]
     simp only[ag];refine⟨y,r,bs,DG,rfl,rfl,h1.mv m fun b hb u f hu=>⟨Io b f,hk b u (fun z=>?_) hu⟩,k1⟩;subst z;exact Ck.2.2 b hb b hc rfl
   · subst z
     rcases k3 a hb with h|⟨_,h⟩
     ·exact Ck.2.2 a ha a h rfl
     · obtain⟨_,u,hu⟩:=h1.fs a ha
       rw[h]at hu;cases hu
   · rcases List.mem_append.mp hb with hb|hb
     ·exact .inl (List.mem_append_left _ hb)
     ·exact(k3 b hb).imp (List.mem_append_right _) id
theorem zip_inj{ks:List Ky}{xs ys:List V}(l1:ks.length=xs.length)(l2:ks.length=ys.length)(h:ks.zip xs=ks.zip ys):xs=ys:=by
 have h1:=congrArg (List.map Prod.snd) h;rw[List.map_snd_zip (by omega),List.map_snd_zip (by omega)]at h1
 exact h1
structure fZ(M:Md)(H H2:Hp)(F F2:Addr→Prop)(c:Addr)(n0 n1:T)(DT Di:List Addr):Prop where
 old:ah M H F n0 (.ref c) DT
 mem:c∈DT
 new:ah M H2 F2 n1 (.ref c) Di
 nd:Di.Nodup
 out:∀b u,b≠c→H b=some u→H2 b=some u
 fs:∀b,F2 b↔F b∨b∈Di
 gN:∀b∈Di,b∈DT∨H b=none
theorem fZ.fc{H2:Hp}{F2:Addr→Prop}{c:Addr}{n0 n1:T}{DT Di:List Addr}(C:fZ M H H2 F F2 c n0 n1 DT Di):F c:=(C.old.fs c C.mem).1
theorem fZ.mv{H2:Hp}{F2:Addr→Prop}{c:Addr}{n0 n1:T}{DT Di:List Addr}(C:fZ M H H2 F F2 c n0 n1 DT Di):Mv F H F2 H2:=fun b o n e=>
 ⟨fun f=>((C.fs b).mp f).elim n fun hb=>(C.gN b hb).elim (fun h=>n (C.old.fs b h).1) (fun h=>by rw[h]at e;cases e),C.out b o (fun z=>by subst z;exact n C.fc) e⟩
theorem ah.put{H2:Hp}{F2:Addr→Prop}{n0 n1:T}{c:Addr}{DT Di:List Addr}(C:fZ M H H2 F F2 c n0 n1 DT Di):∀ {p:List Nat} {t:T} {v:V} {as:List Addr},ah M H F t v as→as.Nodup→az H t v p n0 (.ref c)→
   c∈as∧∃Gz,ah M H2 F2 (T.put n1 t p) v Gz∧Gz.Nodup∧(∀b∈Gz,b∈as∨(b∈Di∧H b=none))∧∀b∈Di,b∈Gz
 | [],t,v,as,h,nd,e=>by
   have e':t=n0∧v=.ref c:=by cases t<;>exact e
   obtain⟨rfl,rfl⟩:=e';have:=ah.iT C.old h;subst this;have ep:T.put n1 t []=n1:=by cases t<;>rfl
   rw[ep];exact⟨C.mem,Di,C.new,C.nd,fun b hb=>(C.gN b hb).imp id fun h=>⟨hb,h⟩,fun b hb=>hb⟩
 | k::p,.l ts,v,as,h,nd,e=>by
   simp only[az]at e;simp only[ah]at h;obtain⟨a,xs,t1,x1,rfl,e2,et,ex,e⟩:=e;obtain⟨a',ys,bs,ea,rfl,f,CQ,r⟩:=h;cases ea;have e9:xs=ys:=by rw[CQ]at e2;injection e2 with e2;injection e2 with e2;exact e2.symm
   subst e9;have Ck:=List.nodup_cons.mp nd;obtain⟨hc,Cw,k1,k2,k3,k4⟩:=ag.chg (t':=T.put n1 t1 p) C.mv C.out (fun b f=>(C.fs b).mpr (.inl f)) r Ck.2 et ex fun Dy C8 Gi=>ah.put C C8 Gi e;have EA:a≠c:=fun z=>by subst z;exact Ck.1 hc
   refine⟨List.mem_cons_of_mem _ hc,a::Cw,?_,List.nodup_cons.mpr ⟨fun ha=>?_,k2⟩,fun b hb=>?_,fun b hb=>List.mem_cons_of_mem _ (k4 b hb)⟩
   · show ah M _ _ (match ts[k]? with|some t=>T.l (ts.set k (T.put n1 t p))|none=>T.l ts) _ _
     rw[et];simp only[ah];exact⟨a,_,Cw,rfl,rfl,(C.fs a).mpr (.inl f),C.out a _ EA CQ,k1⟩
   · rcases k3 a ha with h|⟨_,h⟩
     ·exact Ck.1 h
     ·rw[h]at CQ;cases CQ
   · rcases List.mem_cons.mp hb with rfl|hb
     ·exact .inl List.mem_cons_self
     ·exact(k3 b hb).imp (List.mem_cons_of_mem _) id
 | k::p,.m ks0 ts,v,as,h,nd,e=>by
   simp only[az]at e;simp only[ah]at h;obtain⟨a,xs,t1,x1,rfl,e2,l1,et,ex,e⟩:=e;obtain⟨a',ys,bs,ea,rfl,f,CQ,l2,r⟩:=h;cases ea;have e9:xs=ys:=zip_inj l1 l2 (by rw[CQ]at e2;injection e2 with z;injection z with z;exact z.symm)
   subst e9;have Ck:=List.nodup_cons.mp nd;obtain⟨hc,Cw,k1,k2,k3,k4⟩:=ag.chg (t':=T.put n1 t1 p) C.mv C.out (fun b f=>(C.fs b).mpr (.inl f)) r Ck.2 et ex fun Dy C8 Gi=>ah.put C C8 Gi e;have EA:a≠c:=fun z=>by subst z;exact Ck.1 hc
   refine⟨List.mem_cons_of_mem _ hc,a::Cw,?_,List.nodup_cons.mpr ⟨fun ha=>?_,k2⟩,fun b hb=>?_,fun b hb=>List.mem_cons_of_mem _ (k4 b hb)⟩
   · show ah M _ _ (match ts[k]? with|some t=>T.m ks0 (ts.set k (T.put n1 t p))|none=>T.m ks0 ts) _ _
     rw[et];simp only[ah];exact⟨a,xs,Cw,rfl,rfl,(C.fs a).mpr (.inl f),C.out a _ EA CQ,l1,k1⟩
   · rcases k3 a ha with h|⟨_,h⟩
     ·exact Ck.1 h
     ·rw[h]at CQ;cases CQ
   · rcases List.mem_cons.mp hb with rfl|hb
     ·exact .inl List.mem_cons_self
     ·exact(k3 b hb).imp (List.mem_cons_of_mem _) id
 | k::p,.tu ts,v,as,h,nd,e=>by
   simp only[az]at e;simp only[ah]at h;obtain⟨a,xs,t1,x1,rfl,e2,et,ex,e⟩:=e;obtain⟨a',ys,ea,f,CQ,r⟩:=h;cases ea;have e9:xs=ys:=by rw[CQ]at e2;injection e2 with e2;injection e2 with e2;exact e2.symm
   subst e9;obtain⟨hc,Cw,k1,k2,k3,k4⟩:=ag.chg (t':=T.put n1 t1 p) C.mv C.out (fun b f=>(C.fs b).mpr (.inl f)) r nd et ex fun Dy C8 Gi=>ah.put C C8 Gi e;refine⟨hc,Cw,?_,k2,k3,k4⟩;show ah M _ _ (match ts[k]? with|some t=>T.tu (ts.set k (T.put n1 t p))|none=>T.tu ts) _ _
   rw[et];simp only[ah];exact⟨a,_,rfl,(C.mv _ _ f CQ).1,(C.mv _ _ f CQ).2,k1⟩
 |k::p,.d _,v,as,h,nd,e=>e.elim
end
section
variable{X:Cx}{M:Md}{G H H':Hp}{F0:Gf}{F F':Addr→Prop}{σ:L2.St}{ρ:En}{pos:Pos}{pins:List (Addr×Obj)}{s:Shared}
theorem T.uI{n:T}(hn:n.own=true):∀ {t:T} {p:List Nat},t.own=true→(T.put n t p).own=true
 |t,[],_=>by cases t<;>exact hn
 |.l ts,k::p,_=>by unfold T.put;split<;>rfl
 |.m ks ts,k::p,_=>by unfold T.put;split<;>rfl
 |.d x,k::p,h=>by cases h
 |.tu ts,k::p,h=>by cases h
theorem az.part:∀ {p:List Nat} {t:T} {v:V} {t1:T} {w:V} {as:List Addr},ah M H F t v as→az H t v p t1 w→∃bs,ah M H F t1 w bs∧bs.Sublist as
 | [],t,v,t1,w,as,tr,h=>by
   have e':t=t1∧v=w:=by cases t<;>exact h
   obtain⟨rfl,rfl⟩:=e';exact⟨as,tr,List.Sublist.refl _⟩
 | k::p,.l ts,v,t1,w,as,tr,h=>by
   simp only[az]at h;simp only[ah]at tr;obtain⟨a,xs,tp,xp,rfl,e2,CF,exp,h⟩:=h;obtain⟨a2,ys,bs,DW,rfl,f,CS,r⟩:=tr;cases DW;have e9:xs=ys:=by rw[CS]at e2;injection e2 with z;injection z with z;exact z.symm
   subst e9;obtain⟨FX,dp,Ct,rp,Cz⟩:=r.part CF;rw[exp]at Ct;cases Ct;obtain⟨cs,h1,h2⟩:=az.part rp h;exact⟨cs,h1,(h2.trans Cz).trans (List.sublist_cons_self _ _)⟩
 | k::p,.m ks0 ts,v,t1,w,as,tr,h=>by
   simp only[az]at h;simp only[ah]at tr;obtain⟨a,xs,tp,xp,rfl,e2,l1,CF,exp,h⟩:=h;obtain⟨a2,ys,bs,DW,rfl,f,CS,l2,r⟩:=tr;cases DW;have e9:xs=ys:=zip_inj l1 l2 (by rw[CS]at e2;injection e2 with z;injection z with z;exact z.symm)
   subst e9;obtain⟨FX,dp,Ct,rp,Cz⟩:=r.part CF;rw[exp]at Ct;cases Ct;obtain⟨cs,h1,h2⟩:=az.part rp h;exact⟨cs,h1,(h2.trans Cz).trans (List.sublist_cons_self _ _)⟩
 | k::p,.tu ts,v,t1,w,as,tr,h=>by
   simp only[az]at h;simp only[ah]at tr;obtain⟨a,xs,tp,xp,rfl,e2,CF,exp,h⟩:=h;obtain⟨a2,ys,DW,f,CS,r⟩:=tr;cases DW;have e9:xs=ys:=by rw[CS]at e2;injection e2 with z;injection z with z;exact z.symm
   subst e9;obtain⟨FX,dp,Ct,rp,Cz⟩:=r.part CF;rw[exp]at Ct;cases Ct;obtain⟨cs,h1,h2⟩:=az.part rp h;exact⟨cs,h1,h2.trans Cz⟩
 |k::p,.d _,v,t1,w,as,tr,h=>h.elim
theorem ag.apart:∀ {ts:List T} {xs:List V} {as:List Addr} {j k:Nat} {tj tk:T} {xj xk:V} {bs cs:List Addr},ag M H F ts xs as→as.Nodup→j≠k→ts[j]? =some tj→ts[k]? =some tk→xs[j]? =some xj→xs[k]? =some xk→ah M H F tj xj bs→ah M H F tk xk cs→∀b∈bs,b∉cs
 |[],_,_,_,_,_,_,_,_,_,_,_,_,_,e,_,_,_,_,_=>by simp at e
 | t::ts,xs,as,j,k,tj,tk,xj,xk,bs,cs,h,nd,B5,ej,ek,IM,HB,rj,rk=>by
   simp only[ag]at h;obtain⟨x,r,b1,c1,rfl,rfl,h1,h2⟩:=h;have Ck:=List.nodup_append.mp nd;cases j with
   | zero=>
     cases k with
     |zero=>exact absurd rfl B5
     | succ k=>
       cases ej;cases IM;have:=ah.iT h1 rj;subst this;obtain⟨y,ds,ey,ry,sub⟩:=h2.part (k:=k) (by simpa using ek)
       have E7:r[k]? =some xk:=by simpa using HB
       rw[ey]at E7;cases E7;have:=ah.iT ry rk;subst this;exact fun b hb hc=>Ck.2.2 b hb b (sub.subset hc) rfl
   | succ j=>
     cases k with
     | zero=>
       cases ek;cases HB;have:=ah.iT h1 rk;subst this;obtain⟨y,ds,ey,ry,sub⟩:=h2.part (k:=j) (by simpa using ej)
       have E7:r[j]? =some xj:=by simpa using IM
       rw[ey]at E7;cases E7;have:=ah.iT ry rj;subst this;exact fun b hb hc=>Ck.2.2 b hc b (sub.subset hb) rfl
     |succ k=>exact ag.apart (j:=j) (k:=k) h2 Ck.2.1 (by omega) (by simpa using ej) (by simpa using ek) (by simpa using IM) (by simpa using HB) rj rk
theorem lY{α:Type}{l:List α}{k:Nat}{a b:α}(h:l[k]? =some a):(l.set k b)[k]? =some b:=by
 rw[List.getElem?_set_self (List.getElem?_eq_some_iff.mp h).1]
def below:List Nat→List Nat→Bool
 |[],_::_=>true
 |k::p,j::q=>decide (k=j)&&below p q
 |_,_=>false
theorem az.gN:∀ {p q:List Nat} {t:T} {v:V} {n0 t1:T} {x w:V},az H t v p n0 x→az H t v q t1 w→below p q=true→∃k r,az H n0 x (k::r) t1 w
 |[],[],_,_,_,_,_,_,_,_,hb=>by cases hb
 | [],k::r,t,v,n0,t1,x,w,hp,hq,_=>by
   have e':t=n0∧v=x:=by cases t<;>exact hp
   obtain⟨rfl,rfl⟩:=e';exact⟨k,r,hq⟩
 |k::p,[],_,_,_,_,_,_,_,_,hb=>by cases hb
 | k::p,k'::q,.l ts,v,n0,t1,x,w,hp,hq,hb=>by
   unfold below at hb;rw[Bool.and_eq_true,decide_eq_true_eq]at hb;obtain⟨rfl,hb⟩:=hb;simp only[az]at hp hq;obtain⟨a,xs,tp,xp,rfl,e2,CF,exp,hp⟩:=hp;obtain⟨a1,DV,tq,xq,D0,C0,CL,CM,hq⟩:=hq;cases D0;have e8:DV=xs:=by rw[e2]at C0;injection C0 with z;injection z with z;exact z.symm
   subst e8;rw[CF]at CL;cases CL;rw[exp]at CM;cases CM;exact az.gN hp hq hb
 | k::p,k'::q,.m ks ts,v,n0,t1,x,w,hp,hq,hb=>by
   unfold below at hb;rw[Bool.and_eq_true,decide_eq_true_eq]at hb;obtain⟨rfl,hb⟩:=hb;simp only[az]at hp hq;obtain⟨a,xs,tp,xp,rfl,e2,l1,CF,exp,hp⟩:=hp;obtain⟨a1,DV,tq,xq,D0,C0,l2,CL,CM,hq⟩:=hq;cases D0;have e8:DV=xs:=zip_inj l2 l1 (by rw[e2]at C0;injection C0 with z;injection z with z;exact z.symm)
   subst e8;rw[CF]at CL;cases CL;rw[exp]at CM;cases CM;exact az.gN hp hq hb
 | k::p,k'::q,.tu ts,v,n0,t1,x,w,hp,hq,hb=>by
   unfold below at hb;rw[Bool.and_eq_true,decide_eq_true_eq]at hb;obtain⟨rfl,hb⟩:=hb;simp only[az]at hp hq;obtain⟨a,xs,tp,xp,rfl,e2,CF,exp,hp⟩:=hp;obtain⟨a1,DV,tq,xq,D0,C0,CL,CM,hq⟩:=hq;cases D0;have e8:DV=xs:=by rw[e2]at C0;injection C0 with z;injection z with z;exact z.symm
   subst e8;rw[CF]at CL;cases CL;rw[exp]at CM;cases CM;exact az.gN hp hq hb
 |k::p,k'::q,.d _,v,n0,t1,x,w,hp,hq,hb=>hp.elim
theorem az.put{H2:Hp}{F2:Addr→Prop}{n0 n1:T}{c:Addr}{DT Di:List Addr}(C:fZ M H H2 F F2 c n0 n1 DT Di)(o1:n1.own=true):∀ {q:List Nat} {p:List Nat} {t:T} {v:V} {t1:T} {w:V} {as:List Addr},ah M H F t v as→as.Nodup→az H t v p n0 (.ref c)→az H t v q t1 w→t1.own=true→below p q=false→
   ∃t2,t2.own=true∧az H2 (T.put n1 t p) v q t2 w
 | [],p,t,v,t1,w,as,tr,nd,hp,hq,ho,_=>by
   have e':t=t1∧v=w:=by cases t<;>exact hq
   obtain⟨rfl,rfl⟩:=e';refine⟨T.put n1 t p,T.uI o1 ho,?_⟩;generalize T.put n1 t p=t2;cases t2<;>exact⟨rfl,rfl⟩
 |k'::q,[],t,v,t1,w,as,tr,nd,hp,hq,ho,hb=>by cases hb
 | k'::q,k::p,.l ts,v,t1,w,as,tr,nd,hp,hq,ho,hb=>by
   simp only[az]at hp hq;simp only[ah]at tr;obtain⟨a,xs,tp,xp,rfl,e2,CF,exp,hp⟩:=hp;obtain⟨a1,DV,tq,xq,D0,C0,CL,CM,hq⟩:=hq;obtain⟨a2,ys,bs,DW,rfl,f,CS,r⟩:=tr;cases D0;cases DW;have e8:DV=ys:=by rw[CS]at C0;injection C0 with z;injection z with z;exact z.symm
   have e9:xs=ys:=by rw[CS]at e2;injection e2 with z;injection z with z;exact z.symm
   subst e8 e9;have Ck:=List.nodup_cons.mp nd;obtain⟨FX,dp,Ct,rp,Cz⟩:=r.part CF;rw[exp]at Ct;cases Ct;obtain⟨hc,_⟩:=ah.put C rp (Ck.2.sublist Cz) hp;have EA:a≠c:=fun z=>by subst z;exact Ck.1 (Cz.subset hc)
   show ∃t2,t2.own=true∧az _ (match ts[k]? with|some t=>T.l (ts.set k (T.put n1 t p))|none=>T.l ts) _ _ t2 w
   rw[CF];by_cases Dl:k=k'
   · subst Dl
     rw[CF]at CL;cases CL;rw[exp]at CM;cases CM;obtain⟨t2,o2,h2⟩:=az.put C o1 rp (Ck.2.sublist Cz) hp hq ho (by simpa[below] using hb)
     refine⟨t2,o2,?_⟩;simp only[az];exact⟨a,_,_,_,rfl,C.out a _ EA CS,lY CF,exp,h2⟩
   · obtain⟨JR,dq,C1,rq,FH⟩:=r.part CL
     rw[CM]at C1;cases C1;refine⟨t1,ho,?_⟩;simp only[az];refine⟨a,_,tq,xq,rfl,C.out a _ EA CS,by rw[List.getElem?_set_ne Dl];exact CL,CM,hq.mv (fun a o n e=>(C.mv a o n e).2) rq fun b hb u fb hu=>C.out b u (fun z=>?_) hu⟩
     subst z;exact ag.apart r Ck.2 Dl CF CL exp CM rp rq _ hc hb
 | k'::q,k::p,.m ks0 ts,v,t1,w,as,tr,nd,hp,hq,ho,hb=>by
   simp only[az]at hp hq;simp only[ah]at tr;obtain⟨a,xs,tp,xp,rfl,e2,l0,CF,exp,hp⟩:=hp;obtain⟨a1,DV,tq,xq,D0,C0,l1,CL,CM,hq⟩:=hq;obtain⟨a2,ys,bs,DW,rfl,f,CS,l2,r⟩:=tr;cases D0;cases DW;have e8:DV=ys:=zip_inj l1 l2 (by rw[CS]at C0;injection C0 with z;injection z with z;exact z.symm)
   have e9:xs=ys:=zip_inj l0 l2 (by rw[CS]at e2;injection e2 with z;injection z with z;exact z.symm)
   subst e8 e9;have Ck:=List.nodup_cons.mp nd;obtain⟨FX,dp,Ct,rp,Cz⟩:=r.part CF;rw[exp]at Ct;cases Ct;obtain⟨hc,_⟩:=ah.put C rp (Ck.2.sublist Cz) hp;have EA:a≠c:=fun z=>by subst z;exact Ck.1 (Cz.subset hc)
   show ∃t2,t2.own=true∧az _ (match ts[k]? with|some t=>T.m ks0 (ts.set k (T.put n1 t p))|none=>T.m ks0 ts) _ _ t2 w
   rw[CF];by_cases Dl:k=k'
   · subst Dl
     rw[CF]at CL;cases CL;rw[exp]at CM;cases CM;obtain⟨t2,o2,h2⟩:=az.put C o1 rp (Ck.2.sublist Cz) hp hq ho (by simpa[below] using hb)
     refine⟨t2,o2,?_⟩;simp only[az];exact⟨a,_,_,_,rfl,C.out a _ EA CS,l2,lY CF,exp,h2⟩
   · obtain⟨JR,dq,C1,rq,FH⟩:=r.part CL
     rw[CM]at C1;cases C1;refine⟨t1,ho,?_⟩;simp only[az];refine⟨a,_,tq,xq,rfl,C.out a _ EA CS,l2,by rw[List.getElem?_set_ne Dl];exact CL,CM,hq.mv (fun a o n e=>(C.mv a o n e).2) rq fun b hb u fb hu=>C.out b u (fun z=>?_) hu⟩
     subst z;exact ag.apart r Ck.2 Dl CF CL exp CM rp rq _ hc hb
 | k'::q,k::p,.tu ts,v,t1,w,as,tr,nd,hp,hq,ho,hb=>by
   simp only[az]at hp hq;simp only[ah]at tr;obtain⟨a,xs,tp,xp,rfl,e2,CF,exp,hp⟩:=hp;obtain⟨a1,DV,tq,xq,D0,C0,CL,CM,hq⟩:=hq;obtain⟨a2,ys,DW,f,CS,r⟩:=tr;cases D0;cases DW;have e8:DV=ys:=by rw[CS]at C0;injection C0 with z;injection z with z;exact z.symm
   have e9:xs=ys:=by rw[CS]at e2;injection e2 with z;injection z with z;exact z.symm
   subst e8 e9;obtain⟨FX,dp,Ct,rp,Cz⟩:=r.part CF;rw[exp]at Ct;cases Ct;obtain⟨hc,_⟩:=ah.put C rp (nd.sublist Cz) hp;show ∃t2,t2.own=true∧az _ (match ts[k]? with|some t=>T.tu (ts.set k (T.put n1 t p))|none=>T.tu ts) _ _ t2 w
   rw[CF];by_cases Dl:k=k'
   · subst Dl
     rw[CF]at CL;cases CL;rw[exp]at CM;cases CM;obtain⟨t2,o2,h2⟩:=az.put C o1 rp (nd.sublist Cz) hp hq ho (by simpa[below] using hb)
     refine⟨t2,o2,?_⟩;simp only[az];exact⟨a,_,_,_,rfl,(C.mv _ _ f CS).2,lY CF,exp,h2⟩
   · obtain⟨JR,dq,C1,rq,FH⟩:=r.part CL
     rw[CM]at C1;cases C1;refine⟨t1,ho,?_⟩;simp only[az];refine⟨a,_,tq,xq,rfl,(C.mv _ _ f CS).2,by rw[List.getElem?_set_ne Dl];exact CL,CM,hq.mv (fun a o n e=>(C.mv a o n e).2) rq fun b hb u fb hu=>C.out b u (fun z=>?_) hu⟩
     subst z;exact ag.apart r nd Dl CF CL exp CM rp rq _ hc hb
 |k'::q,k::p,.d _,v,t1,w,as,tr,nd,hp,hq,ho,_=>hp.elim
theorem aK.un{ρ':En}(r:aK M G F0 H F σ ρ)(hl:ρ'.length=ρ.length)(h:∀(j:Nat) s,ρ'[j]? =some s→s=.un∨ρ[j]? =some s):aK M G F0 H F σ ρ':=by
 have ow:∀j,bq ρ' j→bq ρ j:=fun j o=>by
   rcases o with⟨ds,e⟩|⟨ks,ds,e⟩
   · rcases h j _ e with z|z
     ·cases z
     ·exact .inl ⟨_,z⟩
   · rcases h j _ e with z|z
     ·cases z
     ·exact .inr ⟨_,_,z⟩
 have on:∀(j:Nat) x,ρ'[j]? =some (.on x)→ρ[j]? =some (.on x):=fun j x e=>(h j _ e).resolve_left fun z=>nomatch z
 have at':∀(j:Nat) b,dC M H F σ ρ' j b→dC M H F σ ρ j b:=fun j b ⟨t,v,as,e,z⟩=>⟨t,v,as,on j _ e,z⟩;refine⟨⟨by rw[hl,r.rs.len],r.rs.aN,fun i d e=>?_,fun i d e=>?_,fun i k d e=>?_,fun i j a oi oj=>r.rs.bO i j a (ow i oi) (ow j oj),fun i x e=>?_⟩,r.sm,r.sub,r.eu,fun i a o=>r.own i a (ow i o),fun i x b e hb=>r.fG i x b (on i x e) (at' i b hb),fun w hw t e=>r.pin w hw t (on 0 _ e)⟩
 ·exact r.rs.sh i d ((h i _ e).resolve_left fun z=>nomatch z)
 ·exact r.rs.ol i d ((h i _ e).resolve_left fun z=>nomatch z)
 ·exact r.rs.od i k d ((h i _ e).resolve_left fun z=>nomatch z)
 · obtain⟨h1,h2,h3⟩:=r.rs.on i x (on i x e)
   refine⟨?_,fun b hb k ok=>h2 b (at' i b hb) k (ow k ok),fun t ht j t' ej=>h3 t ht j t' (on j _ ej)⟩;cases x with
   |tr t=>exact h1
   |al k p=>exact fun t et=>h1 t (on k _ et)
def kI(i:Nat)(p:List Nat)(ρ:En):En:=ρ.map fun s=>match s with
 |.on (.al k q)=>if k=i∧below p q=true then .un else s
 |s=>s
def jX(i:Nat)(p:List Nat)(s:Slot):Slot:=match s with
 |.on (.al k q)=>if k=i∧below p q=true then .un else s
 |s=>s
theorem wg{i:Nat}{p:List Nat}:∀(z:Slot),jX i p z=.un∨(jX i p z=z∧∀q,z=.on (.al i q)→below p q=false)
 |.un=>.inl rfl
 |.sh _=>.inr ⟨rfl,fun _ h=>nomatch h⟩
 |.ol _=>.inr ⟨rfl,fun _ h=>nomatch h⟩
 |.od _ _=>.inr ⟨rfl,fun _ h=>nomatch h⟩
 |.on (.tr _)=>.inr ⟨rfl,fun _ h=>nomatch h⟩
 | .on (.al k q)=>by
   by_cases hc:k=i∧below p q=true
   ·exact .inl (if_pos hc)
   · refine .inr ⟨if_neg hc,fun q' hq=>?_⟩
     injection hq with hq;injection hq with h1 h2;subst h1 h2;cases hb:below p q with
     |false=>rfl
     |true=>exact absurd ⟨rfl,hb⟩ hc
theorem zp{i:Nat}{p:List Nat}{j:Nat}{s:Slot}(h:(kI i p ρ)[j]? =some s):s=.un∨(ρ[j]? =some s∧∀q,s=.on (.al i q)→below p q=false):=by
 have h:(ρ.map (jX i p))[j]? =some s:=h;rw[List.getElem?_map]at h;cases e:ρ[j]? with
 |none=>rw[e]at h;cases h
 | some z=>
   rw[e]at h;have h:jX i p z=s:=Option.some.inj h;rcases wg (i:=i) (p:=p) z with h1|⟨h1,h2⟩
   ·exact .inl (h.symm.trans h1)
   ·rw[h1]at h;subst h;exact .inr ⟨rfl,h2⟩
theorem aK.drop(i:Nat)(p:List Nat)(r:aK M G F0 H F σ ρ):aK M G F0 H F σ (kI i p ρ):=r.un (by unfold kI;simp) fun j s h=>(zp h).imp id And.left
end
section
variable{X:Cx}{M:Md}{G H H':Hp}{F0:Gf}{F F':Addr→Prop}{σ:L2.St}{ρ:En}{pos:Pos}{pins:List (Addr×Obj)}{s:Shared}{as:List Addr}
end
def yP:List T→Option (List D)
 |[]=>some []
 |.d x::r=>(yP r).map (x:: ·)
 |_::_=>none
section
variable{X:Cx}{M:Md}{G H H':Hp}{F0:Gf}{F F':Addr→Prop}{σ:L2.St}{ρ:En}{pos:Pos}{pins:List (Addr×Obj)}{s:Shared}{as:List Addr}
theorem az.snoc{n0:T}{x:V}{m:Nat}{t1:T}{x1:V}(h1:az H n0 x [m] t1 x1):∀ {p:List Nat} {t:T} {v:V},az H t v p n0 x→az H t v (p++[m]) t1 x1
 | [],t,v,h=>by
   have e':t=n0∧v=x:=by cases t<;>exact h
   obtain⟨rfl,rfl⟩:=e';exact h1
 | k::p,.l us,v,h=>by
   show az H (.l us) v (k::(p++[m])) t1 x1;simp only[az]at h ⊢;obtain⟨b,ys,t2,x2,Eu,h2,h3,h4,h⟩:=h;exact⟨b,ys,t2,x2,Eu,h2,h3,h4,az.snoc h1 h⟩
 | k::p,.m ks us,v,h=>by
   show az H (.m ks us) v (k::(p++[m])) t1 x1;simp only[az]at h ⊢;obtain⟨b,ys,t2,x2,Eu,h2,h0,h3,h4,h⟩:=h;exact⟨b,ys,t2,x2,Eu,h2,h0,h3,h4,az.snoc h1 h⟩
 | k::p,.tu us,v,h=>by
   show az H (.tu us) v (k::(p++[m])) t1 x1;simp only[az]at h ⊢;obtain⟨b,ys,t2,x2,Eu,h2,h3,h4,h⟩:=h;exact⟨b,ys,t2,x2,Eu,h2,h3,h4,az.snoc h1 h⟩
 |k::p,.d _,v,h=>h.elim
theorem az.same{t:T}{v w:V}{p:List Nat}{t1:T}{i:Nat}(r:aM M H F σ ρ)(e1:ρ[i]? =some (.on (.tr t)))(e2:σ[i]? =some (some v))(s1:ae H H')(h:az H t v p t1 w):az H' t v p t1 w:=by
 obtain⟨⟨v',as,ev,tr,_⟩,_,_⟩:=r.on i _ e1;rw[e2]at ev;cases ev;exact h.mv (fun _ _ _ e=>s1 _ _ e) tr fun b hb u f hu=>s1 _ _ hu
end
section
variable{X:Cx}{M:Md}{G H H':Hp}{F0:Gf}{F F':Addr→Prop}{σ:L2.St}{ρ:En}{pos:Pos}{pins:List (Addr×Obj)}{s:Shared}{as:List Addr}
def jt(H H':Hp)(b:Addr):Prop:=(H' b=H b∧∃xs,H b=some (.lst xs))∨∃ob kvs,H b=some (.dK kvs)∧H' b=some (.frz ob (.dK kvs))
mutual
theorem ah.frz:∀ {t:T} {H:Hp} {v:V} {as:List Addr},Inv X pins σ H s→ah M H F t v as→as.Nodup→∃H',Inv X pins σ H' s∧(∀b,b∉as→H' b=H b)∧∀b∈as,jt H H' b
 | .d x,H,v,as,I,h,_=>by
   simp only[ah]at h;exact⟨H,I,fun _ _=>rfl,fun b hb=>by rw[h.1]at hb;cases hb⟩
 | .l ts,H,v,as,I,h,nd=>by
   simp only[ah]at h;obtain⟨a,xs,bs,rfl,rfl,f,e2,r⟩:=h;have Ck:=List.nodup_cons.mp nd;obtain⟨H1,I1,h1,k1⟩:=ag.frz I r Ck.2;refine⟨H1,I1,fun b hb=>h1 b fun DD=>hb (List.mem_cons_of_mem _ DD),fun b hb=>?_⟩;rcases List.mem_cons.mp hb with rfl|hb
   ·exact .inl ⟨h1 b Ck.1,_,e2⟩
   ·exact k1 b hb
 | .m ks ts,H,v,as,I,h,nd=>by
   simp only[ah]at h;obtain⟨a,xs,bs,rfl,rfl,f,e2,l,r⟩:=h;have Ck:=List.nodup_cons.mp nd;obtain⟨H1,I1,h1,k1⟩:=ag.frz I r Ck.2;have ha:H1 a=some (.dK (ks.zip xs)):=by rw[h1 a Ck.1];exact e2
   obtain⟨ob,I2⟩:=lQ I1 ha;refine⟨_,I2,fun b hb=>?_,fun b hb=>?_⟩
   · have C8:b≠a:=fun z=>by subst z;exact hb List.mem_cons_self
     rw[L2.aE C8];exact h1 b fun DD=>hb (List.mem_cons_of_mem _ DD)
   · rcases List.mem_cons.mp hb with h9|h9
     ·subst h9;exact .inr ⟨ob,_,e2,L2.b6⟩
     · have C8:b≠a:=fun z=>Ck.1 (z▸h9)
       unfold jt;rw[L2.aE C8];exact k1 b h9
 | .tu ts,H,v,as,I,h,nd=>by
   simp only[ah]at h;obtain⟨a,xs,rfl,f,e2,r⟩:=h;exact ag.frz I r nd
theorem ag.frz:∀ {ts:List T} {H:Hp} {xs:List V} {as:List Addr},Inv X pins σ H s→ag M H F ts xs as→as.Nodup→∃H',Inv X pins σ H' s∧(∀b,b∉as→H' b=H b)∧∀b∈as,jt H H' b
 | [],H,xs,as,I,h,_=>by
   simp only[ag]at h;exact⟨H,I,fun _ _=>rfl,fun b hb=>by rw[h.2]at hb;cases hb⟩
 | t::ts,H,xs,as,I,h,nd=>by
   simp only[ag]at h;obtain⟨x,r,bs,cs,rfl,rfl,h1,h2⟩:=h;have Ck:=List.nodup_append.mp nd;obtain⟨H1,I1,o1,k1⟩:=ah.frz I h1 Ck.1;have Lm:=h1.fs;have EH:Mv F H F H1:=fun b o n e=>⟨n,by rw[o1 b fun hb=>n (Lm b hb).1];exact e⟩
   have Ea:ag M H1 F ts r cs:=ag.mv EH (fun b hb u f hu=>⟨f,by rw[o1 b fun DD=>Ck.2.2 b DD b hb rfl];exact hu⟩) h2
   obtain⟨H2,I2,o2,k2⟩:=ag.frz I1 Ea Ck.2.1;refine⟨H2,I2,fun b hb=>?_,fun b hb=>?_⟩
   ·rw[o2 b fun DD=>hb (List.mem_append_right _ DD),o1 b fun DD=>hb (List.mem_append_left _ DD)]
   · rcases List.mem_append.mp hb with hb|hb
     · have:=k1 b hb
       unfold jt at this ⊢;rw[o2 b fun DD=>Ck.2.2 b hb b DD rfl];exact this
     · have:=k2 b hb
       unfold jt at this ⊢;rw[o1 b fun DD=>Ck.2.2 b DD b hb rfl]at this;exact this
end
end
section
variable{X:Cx}{M:Md}{G H H':Hp}{F0:Gf}{F F':Addr→Prop}{σ:L2.St}{ρ:En}{pos:Pos}{pins:List (Addr×Obj)}{s:Shared}
end
end PL
namespace PL
open PySem PySem.Spec
end PL
namespace PL
open PySem PySem.Spec
open L2 (V Hp HO Cx PE PT PW PA PS bu PG b5 VK TE TT TA TS TI TG Inv RelV Vals Rd aO aT upd ae Key XK Ends aH dh aW R2 EP It Turn bM Un)
section
variable{X:Cx}{M:Md}{G H H':Hp}{F0:Gf}{F F':Addr→Prop}{σ:L2.St}{ρ:En}{pos:Pos}{pins:List (Addr×Obj)}{s:Shared}{as:List Addr}
end
section
variable{X:Cx}{M:Md}{G H H':Hp}{F0:Gf}{F F':Addr→Prop}{σ:L2.St}{ρ:En}{pos:Pos}{pins:List (Addr×Obj)}{s:Shared}{as:List Addr}
end
section
variable{X:Cx}{M:Md}{G H H':Hp}{F0:Gf}{F F':Addr→Prop}{σ:L2.St}{ρ:En}{pos:Pos}{pins:List (Addr×Obj)}{s:Shared}{as:List Addr}
theorem fZ.of{n0 n1:T}{c:Addr}{cs DG:List Addr}{o:HO}(h0:ah M H F n0 (.ref c) (c::cs))(nd:(c::cs).Nodup)(sub:DG.Sublist cs)(h1:ah M (upd H c o) F n1 (.ref c) (c::DG)):fZ M H (upd H c o) F F c n0 n1 (c::cs) (c::DG):=
 have s2:(c::DG).Sublist (c::cs):=List.Sublist.cons₂ c sub
 ⟨h0,List.mem_cons_self,h1,nd.sublist s2,fun b u n e=>by rw[L2.aE n];exact e,fun b=>⟨.inl,fun h=>h.elim id fun hb=>(h0.fs b (s2.subset hb)).1⟩,fun b hb=>.inl (s2.subset hb)⟩
end
section
variable{X:Cx}{M:Md}{G H H':Hp}{F0:Gf}{F F':Addr→Prop}{σ:L2.St}{ρ:En}{pos:Pos}{pins:List (Addr×Obj)}{s:Shared}{as:List Addr}
end
section
variable{X:Cx}{M:Md}{G H H':Hp}{F0:Gf}{F F':Addr→Prop}{σ:L2.St}{ρ:En}{pos:Pos}{pins:List (Addr×Obj)}{s:Shared}{as:List Addr}
end
section
variable{X:Cx}{M:Md}{G H H':Hp}{F0:Gf}{F F':Addr→Prop}{σ:L2.St}{ρ:En}{pos:Pos}{pins:List (Addr×Obj)}{s:Shared}{as:List Addr}
end
section
variable{X:Cx}{M:Md}{G H H':Hp}{F0:Gf}{F F':Addr→Prop}{σ:L2.St}{ρ:En}{pos:Pos}{pins:List (Addr×Obj)}{s:Shared}{as:List Addr}
end
section
variable{X:Cx}{M:Md}{G H H':Hp}{F0:Gf}{F F':Addr→Prop}{σ:L2.St}{ρ:En}{pos:Pos}{pins:List (Addr×Obj)}{s:Shared}
theorem u6{kvs:List (Key×V)}{vs:List (Key×Value)}(h:L2.KV kvs vs):∀ {i:Nat} {p:Key×Value},vs[i]? =some p→∃q,kvs[i]? =some q∧RelV q.2 p.2:=by
 unfold L2.KV at h
 induction h with
 |nil=>intro i p e;simp at e
 | cons hd _ ih=>
   intro i p e;cases i with
   |zero=>simp at e;subst e;exact⟨_,rfl,hd.2⟩
   |succ i=>simpa using ih (i:=i) (by simpa using e)
end
section
variable{X:Cx}{M:Md}{G H H':Hp}{F0:Gf}{F F':Addr→Prop}{σ:L2.St}{ρ:En}{pos:Pos}{pins:List (Addr×Obj)}{s:Shared}
end
def df{α:Type}(z:Ky):List Ky→List α→List Ky×List α
 |k::ks,t::ts=>if k=z then df z ks ts else(k::(df z ks ts).1,t::(df z ks ts).2)
 |_,_=>([],[])
section
variable{X:Cx}{M:Md}{G H H':Hp}{F0:Gf}{F F':Addr→Prop}{σ:L2.St}{ρ:En}{pos:Pos}{pins:List (Addr×Obj)}{s:Shared}{as:List Addr}
theorem ag.pop{z:Ky}:∀ {ks:List Ky} {ts:List T} {xs:List V} {as:List Addr},ag M H F ts xs as→∃Cw,ag M H F (df z ks ts).2 (df z ks xs).2 Cw∧Cw.Sublist as
 |[],ts,xs,as,h=>⟨[],by simp[df,ag],List.nil_sublist _⟩
 | a::ks,[],xs,as,h=>by
   simp only[ag]at h;obtain⟨rfl,rfl⟩:=h;exact⟨[],by simp[df,ag],List.Sublist.refl _⟩
 | a::ks,t::ts,xs,as,h=>by
   simp only[ag]at h;obtain⟨x,r,bs,cs,rfl,rfl,h1,h2⟩:=h;obtain⟨DG,k1,k2⟩:=ag.pop (z:=z) (ks:=ks) h2;unfold df;by_cases hz:a=z
   · rw[if_pos hz,if_pos hz]
     exact⟨DG,k1,k2.trans (List.sublist_append_right _ _)⟩
   · rw[if_neg hz,if_neg hz]
     refine⟨bs++DG,?_,List.Sublist.append (List.Sublist.refl _) k2⟩;simp only[ag];exact⟨x,_,bs,DG,rfl,rfl,h1,k1⟩
theorem ab.pop{z:Ky}:∀ {ks:List Ky} {ds:List D} {xs:List V},ab M H F ds xs→ab M H F (df z ks ds).2 (df z ks xs).2
 |[],_,_,_=>by simp only[df];exact ab.nil
 |_::_,[],xs,h=>by simp only[ab]at h;subst h;exact ab.nil
 | k::ks,d::ds,xs,h=>by
   simp only[ab]at h;obtain⟨x,r,rfl,h1,h2⟩:=h;have ih:=ab.pop (z:=z) (ks:=ks) h2;unfold df;by_cases hz:k=z
   ·rw[if_pos hz,if_pos hz];exact ih
   ·rw[if_neg hz,if_neg hz];exact ab.cons h1 ih
end
section
variable{X:Cx}{M:Md}{G H H':Hp}{F0:Gf}{F F':Addr→Prop}{σ:L2.St}{ρ:En}{pos:Pos}{pins:List (Addr×Obj)}{s:Shared}{as:List Addr}
def without(H:Hp)(as:List Addr):Hp:=fun b=>if b∈as then none else H b
end
section
variable{X:Cx}{M:Md}{G H H':Hp}{F0:Gf}{F F':Addr→Prop}{σ:L2.St}{ρ:En}{pos:Pos}{pins:List (Addr×Obj)}{s:Shared}{as:List Addr}
end
section
variable{X:Cx}{M:Md}{G H H':Hp}{F0:Gf}{F F':Addr→Prop}{σ:L2.St}{ρ:En}{pos:Pos}{pins:List (Addr×Obj)}{s:Shared}{as:List Addr}
end
section
variable{X:Cx}{M:Md}{G H H':Hp}{F0:Gf}{F F':Addr→Prop}{σ:L2.St}{ρ:En}{pos:Pos}{pins:List (Addr×Obj)}{s:Shared}{as:List Addr}
end
end PL
namespace PL
open PySem PySem.Spec
def mL(m i:Nat):Nat:=(i*5+1) % (m+1)
def jr(m:Nat):Nat→Nat→Nat
 |0,i=>i
 |k+1,i=>jr m k (mL m i)
def gf(m:Nat):Nat→Nat→Nat→Nat
 |0,_,a=>a
 |n+1,i,a=>gf m n (mL m i) (a|||2 ^ i)
theorem qM{m j:Nat}:∀ {n i a:Nat},(gf m n i a).testBit j=true→a.testBit j=true∨∃k,k<n∧jr m k i=j
 |0,i,a,h=>.inl h
 | n+1,i,a,h=>by
   rcases qM (n:=n) h with h|⟨k,hk,e⟩
   · rw[Nat.testBit_or,Bool.or_eq_true]at h
     rcases h with h|h
     ·exact .inl h
     · rw[Nat.testBit_two_pow]at h
       exact .inr ⟨0,by omega,of_decide_eq_true h⟩
   ·exact .inr ⟨k+1,by omega,e⟩
def cW(m:Nat):Prop:=m=7∨m=31∨m=127
theorem sv{m i:Nat}(hm:cW m)(hi:i≤m):gf m (m+1) i 0=2 ^ (m+1) - 1:=by
 have h7:(List.range 8).all (fun i=>gf 7 8 i 0==2 ^ 8 - 1)=true:=by decide+kernel
 have MM:(List.range 32).all (fun i=>gf 31 32 i 0==2 ^ 32 - 1)=true:=by decide+kernel
 have HE:(List.range 128).all (fun i=>gf 127 128 i 0==2 ^ 128 - 1)=true:=by decide+kernel
 rcases hm with rfl|rfl|rfl
 ·exact eq_of_beq (List.all_eq_true.mp h7 i (List.mem_range.mpr (by omega)))
 ·exact eq_of_beq (List.all_eq_true.mp MM i (List.mem_range.mpr (by omega)))
 ·exact eq_of_beq (List.all_eq_true.mp HE i (List.mem_range.mpr (by omega)))
theorem qE{m i j:Nat}(hm:cW m)(hi:i≤m)(hj:j≤m):∃k,k≤m∧jr m k i=j:=by
 have h:(gf m (m+1) i 0).testBit j=true:=by
   rw[sv hm hi,Nat.testBit_two_pow_sub_one];exact decide_eq_true (by omega)
 rcases qM h with h|⟨k,hk,e⟩
 ·simp at h
 ·exact⟨k,by omega,e⟩
def bY(m:Nat):Nat→Nat→Nat→Nat×Nat
 |0,i,q=>(i,q)
 |k+1,i,q=>bY m k (SetTable.leap m i q).1 (SetTable.leap m i q).2
theorem me{m:Nat}:∀ {k i q:Nat},(bY m k i q).2=q / 32 ^ k
 |0,i,q=>by simp[bY]
 | k+1,i,q=>by
   show(bY m k _ (q / 32)).2=_;rw[me,Nat.div_div_eq_div_mul,Nat.pow_succ,Nat.mul_comm]
theorem lZ{m:Nat}:∀ {k i:Nat},bY m k i 0=(jr m k i,0)
 |0,i=>rfl
 | k+1,i=>by
   show bY m k ((i*5+1+0 / 32) % (m+1)) (0 / 32)=(jr m k (mL m i),0);rw[Nat.zero_div];exact lZ
theorem mj{m:Nat}:∀ {a b i q:Nat},bY m (a+b) i q=bY m b (bY m a i q).1 (bY m a i q).2
 |0,b,i,q=>by rw[Nat.zero_add];rfl
 | a+1,b,i,q=>by
   rw[show a+1+b=(a+b)+1 by omega]
   show bY m (a+b) _ _=bY m b (bY m a _ _).1 (bY m a _ _).2;exact mj
theorem mC{m:Nat}:∀ {k i q:Nat},i≤m→(bY m k i q).1≤m
 |0,i,q,h=>h
 |k+1,i,q,h=>mC (k:=k) (Nat.lt_succ_iff.mp (Nat.mod_lt _ (Nat.succ_pos _)))
def bt(t:SetTable):Nat→SetTable.Probe→SetTable.Probe
 |0,p=>p
 |n+1,p=>bt t n (t.advance p)
theorem ml{t:SetTable}:∀ {a b:Nat} {p:SetTable.Probe},bt t (a+b) p=bt t b (bt t a p)
 |0,b,p=>by rw[Nat.zero_add];rfl
 | a+1,b,p=>by
   rw[show a+1+b=(a+b)+1 by omega]
   show bt t (a+b) _=bt t b (bt t a _);exact ml
def jy(m i q:Nat)(d:Option Nat):SetTable.Probe:={j:=i,more:=SetTable.runEnd m i - i,i:=i,perturb:=q,dummy:=d}
theorem nR{t:SetTable}:∀ {n:Nat} {p:SetTable.Probe},p.more=n→bt t (n+1) p=jy t.mask (SetTable.leap t.mask p.i p.perturb).1 (SetTable.leap t.mask p.i p.perturb).2 p.dummy
 | 0,p,h=>by
   show t.advance p=_;unfold SetTable.advance;rw[if_neg (by omega)]
   rfl
 | n+1,p,h=>by
   show bt t (n+1) (t.advance p)=_
   have e:t.advance p={p with j:=p.j+1,more:=n}:=by
     unfold SetTable.advance;rw[if_pos (by omega),h]
     rfl
   rw[e,nR (n:=n) rfl]
theorem xn(m i:Nat):SetTable.runEnd m i - i≤9:=by
 unfold SetTable.runEnd;split<;>omega
theorem nu{t:SetTable}{d:Option Nat}:∀ {k i q:Nat},∃n,n≤10*k∧bt t n (jy t.mask i q d)=jy t.mask (bY t.mask k i q).1 (bY t.mask k i q).2 d
 |0,i,q=>⟨0,Nat.le_refl _,rfl⟩
 | k+1,i,q=>by
   obtain⟨n,hn,e⟩:=nu (t:=t) (d:=d) (k:=k) (i:=(SetTable.leap t.mask i q).1) (q:=(SetTable.leap t.mask i q).2);have h9:=xn t.mask i;refine⟨(SetTable.runEnd t.mask i - i+1)+n,by omega,?_⟩
   rw[ml,nR (n:=SetTable.runEnd t.mask i - i) rfl];exact e
theorem AV{t:SetTable}{h:Int}{j:Nat}(hm:cW t.mask)(hj:j≤t.mask):∃n,n<10*SetTable.turns t.mask∧(bt t n (t.probeStart h)).j=j:=by
 have hb:SetTable.bits h<2 ^ 64:=by
   unfold SetTable.bits;have h1:=Int.emod_lt_of_pos h (show(0:Int)<2 ^ 64 by decide)
   have h2:=Int.emod_nonneg h (show(2 ^ 64:Int)≠0 by decide)
   omega
 have hi:SetTable.bits h % (t.mask+1)≤t.mask:=Nat.lt_succ_iff.mp (Nat.mod_lt _ (Nat.succ_pos _))
 have hq:(bY t.mask 13 (SetTable.bits h % (t.mask+1)) (SetTable.bits h)).2=0:=by
   rw[me];exact Nat.div_eq_of_lt (Nat.lt_trans hb (by decide))
 obtain⟨k,hk,e⟩:=qE hm (mC (m:=t.mask) (k:=13) (q:=SetTable.bits h) hi) hj;obtain⟨n,hn,en⟩:=nu (t:=t) (d:=none) (k:=13+k) (i:=SetTable.bits h % (t.mask+1)) (q:=SetTable.bits h);refine⟨n,by unfold SetTable.turns;omega,?_⟩
 have e0:t.probeStart h=jy t.mask (SetTable.bits h % (t.mask+1)) (SetTable.bits h) none:=rfl;rw[e0,en,mj,hq,lZ];exact e
theorem sub_len{α:Type} [DecidableEq α]:∀ {l1 l2:List α},l1.Nodup→(∀x∈l1,x∈l2)→l1.length≤l2.length
 |[],l2,_,_=>Nat.zero_le _
 | a::l1,l2,nd,h=>by
   have nd:=List.nodup_cons.mp nd;have ha:=h a List.mem_cons_self;have ih:=sub_len (l1:=l1) (l2:=l2.erase a) nd.2 fun x hx=>(List.mem_erase_of_ne (fun z=>by subst z;exact nd.1 hx)).mpr (h x (List.mem_cons_of_mem _ hx))
   rw[List.length_erase_of_mem ha]at ih;have:0<l2.length:=List.length_pos_of_mem ha;simp only[List.length_cons];omega
theorem pw{t:SetTable}(hd:t.dummies= #[])(j:Nat):t.slot j≠.dummy:=by
 unfold SetTable.slot;rw[hd];dsimp only;split
 ·exact fun h=>nomatch h
 · rw[show SetTable.has #[] j=false by simp[SetTable.has]]
   exact fun h=>nomatch h
theorem qC{t:SetTable}{j i:Nat}(h:t.slot j=.live i):t.place[i]? =some j:=by
 unfold SetTable.slot at h;dsimp only at h;split at h
 · rename_i e
   cases h;exact eq_of_beq e
 ·split at h<;>cases h
theorem zo{t:SetTable}(hd:t.dummies= #[])(hn:t.place.size≤t.mask):∃j,j≤t.mask∧t.slot j=.empty:=by
 apply Classical.byContradiction;intro no
 have CV:∀j∈List.range (t.mask+1),j∈t.place.toList:=fun j hj=>by
   have hj:=List.mem_range.mp hj;cases e:t.slot j with
   |empty=>exact absurd ⟨j,by omega,e⟩ no
   |dummy=>exact absurd e (pw hd j)
   |live i=>exact Array.mem_toList_iff.mpr (Array.mem_of_getElem? (qC e))
 have:=sub_len List.nodup_range CV;rw[List.length_range,Array.length_toList]at this;omega
theorem Ag(t:SetTable)(p:SetTable.Probe):(t.advance p).dummy=p.dummy:=by
 unfold SetTable.advance;split<;>rfl
theorem qr{t:SetTable}{hashAt:Nat→Int}{h:Int}(hd:t.dummies= #[]):∀ {fuel n:Nat} {p:SetTable.Probe},n<fuel→p.dummy=none→t.slot (bt t n p).j=.empty→
   (∃j,SetTable.probe.go t hashAt h fuel p=some (.empty j none))∨∃k i,k<n∧t.slot (bt t k p).j=.live i∧SetTable.probe.go t hashAt h fuel p=some (.candidate (bt t k p).j i (bt t (k+1) p))∧(bt t (k+1) p).dummy=none
 |0,n,p,hn,_,_=>by omega
 | fuel+1,n,p,hn,hp,he=>by
   unfold SetTable.probe.go;cases e:t.slot p.j with
   |empty=>exact .inl ⟨p.j,by rw[hp]⟩
   |dummy=>exact absurd e (pw hd p.j)
   | live i=>
     cases n with
     |zero=>rw[show bt t 0 p=p from rfl,e]at he;cases he
     | succ n=>
       have Jz:(t.advance p).dummy=none:=by rw[Ag];exact hp
       dsimp only;by_cases hh:(hashAt i==h)=true
       · rw[if_pos hh]
         exact .inr ⟨0,i,Nat.succ_pos _,e,rfl,Jz⟩
       · rw[if_neg hh]
         rcases qr (hashAt:=hashAt) (h:=h) hd (fuel:=fuel) (n:=n) (p:=t.advance p) (by omega) Jz he with h1|⟨k,i',hk,h1,h2,h3⟩
         ·exact .inl h1
         ·exact .inr ⟨k+1,i',by omega,h1,h2,h3⟩
theorem nB{m j0:Nat}{owner:Array (Option Nat)}(h0:owner.getD j0 (some 0)=none):∀ {n fuel i q:Nat},n<fuel→(bY m n i q).1=j0→∃j,SetTable.layClean.free m owner fuel i q=some j∧owner.getD j (some 0)=none
 |n,0,i,q,hn,_=>by omega
 | n,fuel+1,i,q,hn,e=>by
   unfold SetTable.layClean.free;cases hf:(List.range (SetTable.runEnd m i+1 - i)).find? fun k=>(owner.getD (i+k) (some 0)).isNone with
   | some k=>
     have:=List.find?_some hf;exact⟨i+k,rfl,by simpa using this⟩
   | none=>
     cases n with
     | zero=>
       exfalso;have e:i=j0:=e;subst e;have:=List.find?_eq_none.mp hf 0 (List.mem_range.mpr (by unfold SetTable.runEnd;split<;>omega))
       rw[Nat.add_zero,h0]at this;exact this rfl
     |succ n=>exact nB h0 (n:=n) (fuel:=fuel) (by omega) e
theorem uX{m:Nat}{owner:Array (Option Nat)}{h:Int}(hm:cW m)(hz:owner.size=m+1)(h0:∃j,j≤m∧owner.getD j (some 0)=none):
   ∃j,SetTable.layClean.free m owner (SetTable.turns m) (SetTable.bits h % (m+1)) (SetTable.bits h)=some j∧owner.getD j (some 0)=none:=by
 obtain⟨j0,hj,e0⟩:=h0
 have hb:SetTable.bits h<2 ^ 64:=by
   unfold SetTable.bits;have h1:=Int.emod_lt_of_pos h (show(0:Int)<2 ^ 64 by decide)
   have h2:=Int.emod_nonneg h (show(2 ^ 64:Int)≠0 by decide)
   omega
 have hi:SetTable.bits h % (m+1)≤m:=Nat.lt_succ_iff.mp (Nat.mod_lt _ (Nat.succ_pos _))
 have hq:(bY m 13 (SetTable.bits h % (m+1)) (SetTable.bits h)).2=0:=by
   rw[me];exact Nat.div_eq_of_lt (Nat.lt_trans hb (by decide))
 obtain⟨k,hk,e⟩:=qE hm (mC (m:=m) (k:=13) (q:=SetTable.bits h) hi) hj;refine nB e0 (n:=13+k) (by unfold SetTable.turns;omega) ?_
 rw[mj,hq,lZ];exact e
def fz(m c:Nat)(owner:Array (Option Nat)):Prop:=owner.size=m+1∧owner.toList.countP Option.isSome=c∧∀k,some k∈owner.toList→k<c
theorem fz.room{m c:Nat}{owner:Array (Option Nat)}(h:fz m c owner)(hc:c≤m):∃j,j≤m∧owner.getD j (some 0)=none:=by
 obtain⟨hz,hn,_⟩:=h;apply Classical.byContradiction;intro no
 have:owner.toList.countP Option.isSome=owner.toList.length:=List.countP_eq_length.mpr fun x hx=>by
   obtain⟨j,hj,e⟩:=List.getElem_of_mem hx;have Hb:j<owner.size:=by simpa using hj
   cases x with
   |some _=>rfl
   |none=>exact absurd ⟨j,by omega,by rw[Array.getD_eq_getD_getElem?,Array.getElem?_eq_getElem Hb, ←Array.getElem_toList,e];rfl⟩ no
 rw[hn,Array.length_toList]at this;omega
theorem fz.set{m c j:Nat}{owner:Array (Option Nat)}(h:fz m c owner)(e:owner.getD j (some 0)=none):fz m (c+1) (owner.setIfInBounds j (some c)):=by
 obtain⟨hz,hn,hk⟩:=h
 have hj:j<owner.size:=by
   apply Classical.byContradiction;intro z;rw[Array.getD_eq_getD_getElem?,Array.getElem?_eq_none (by omega)]at e
   cases e
 have ej:owner.toList[j]'(by simpa using hj)=none:=by
   rw[Array.getD_eq_getD_getElem?,Array.getElem?_eq_getElem hj]at e;rw[Array.getElem_toList];exact e
 refine⟨by simpa using hz,?_,fun k DJ=>?_⟩
 · rw[Array.toList_setIfInBounds,List.countP_set (by simpa using hj),ej,hn]
   rfl
 · rw[Array.toList_setIfInBounds]at DJ
   rcases List.mem_or_eq_of_mem_set DJ with h|h
   ·have:=hk k h;omega
   ·cases h;omega
noncomputable def ir(m:Nat)(acc:Option (Array (Option Nat)×Nat))(h:Int):Option (Array (Option Nat)×Nat):=do
 let(owner,k) ←acc
 let j ←SetTable.layClean.free m owner (SetTable.turns m) (SetTable.bits h % (m+1)) (SetTable.bits h)
 pure (owner.setIfInBounds j (some k),k+1)
theorem pz{m:Nat}(hm:cW m):∀ {hs:List Int} {c:Nat} {owner:Array (Option Nat)},fz m c owner→c+hs.length≤m+1→∃o2,hs.foldl (ir m) (some (owner,c))=some (o2,c+hs.length)∧fz m (c+hs.length) o2
 |[],c,owner,h,_=>⟨owner,rfl,h⟩
 | x::hs,c,owner,h,hl=>by
   simp only[List.length_cons]at hl;obtain⟨j,e,hj⟩:=uX (h:=x) hm h.1 (h.room (by omega))
   obtain⟨o2,e2,h2⟩:=pz hm (hs:=hs) (h.set hj) (by omega)
   refine⟨o2,?_,?_⟩
   · rw[List.foldl_cons]
     have:ir m (some (owner,c)) x=some (owner.setIfInBounds j (some c),c+1):=by
       unfold ir;show(SetTable.layClean.free m owner (SetTable.turns m) (SetTable.bits x % (m+1)) (SetTable.bits x) >>= fun j=>pure (owner.setIfInBounds j (some c),c+1))=_;rw[e];rfl
     rw[this,e2,List.length_cons];simp only[Option.some.injEq,Prod.mk.injEq,true_and];omega
   · rw[List.length_cons,show c+(hs.length+1)=c+1+hs.length by omega]
     exact h2
theorem ye{m:Nat}{hs:Array Int}(hm:cW m)(hl:hs.size≤m):∃o2,SetTable.layClean m hs=some o2∧fz m hs.size o2:=by
 have h0:fz m 0 (Array.replicate (m+1) none):=⟨by simp,by simp[List.countP_replicate],fun k hk=>by simp at hk⟩
 obtain⟨o2,e,h⟩:=pz hm (hs:=hs.toList) h0 (by simp;omega)
 rw[Nat.zero_add,Array.length_toList]at h e;refine⟨o2,?_,h⟩;unfold SetTable.layClean;have e':hs.foldl (ir m) (some (Array.replicate (m+1) none,0))=some (o2,hs.size):=by rw[←Array.foldl_toList];exact e
 show(hs.foldl (ir m) (some (Array.replicate (m+1) none,0))).map _=_;rw[e'];rfl
theorem zc{m f mv:Nat}{led plain:Bool}{hs:Array Int}(hm:cW m)(hl:hs.size≤m):∃t order,SetTable.laid m f mv led plain hs=some (t,order)∧t.mask=m∧t.dummies= #[]∧t.place.size=hs.size∧order.size=hs.size∧∀k∈order.toList,k<hs.size:=by
 obtain⟨o2,e,hz,hn,hk⟩:=ye hm hl
 have hlen:((List.range (m+1)).filterMap fun j=>(o2.getD j none).map (j,·)).length=hs.size:=by
   rw[List.length_filterMap_eq_countP, ←hn]
   have:o2.toList=(List.range (m+1)).map fun j=>o2.getD j none:=by
     refine List.ext_getElem (by simp[hz]) fun i h1 h2=>?_
     have Eu:i<o2.size:=by simpa using h1
     rw[List.getElem_map,List.getElem_range,Array.getD_eq_getD_getElem?,Array.getElem?_eq_getElem Eu,Array.getElem_toList];rfl
   rw[this,List.countP_map];congr 1;funext j;simp
 refine⟨_,_,by unfold SetTable.laid;rw[e];rfl,rfl,rfl,by simpa using hlen,by simpa using hlen,fun k DJ=>?_⟩
 simp only[List.mem_map,List.mem_filterMap,Option.map_eq_some_iff]at DJ;obtain⟨⟨j,k'⟩,⟨j',_,K5,e3,e4⟩,e5⟩:=DJ
 have e7:some K5∈o2.toList:=by
   rw[Array.getD_eq_getD_getElem?]at e3;cases e6:o2[j']? with
   |none=>rw[e6]at e3;cases e3
   |some x=>rw[e6]at e3;cases e3;exact Array.mem_toList_iff.mpr (Array.mem_of_getElem? e6)
 cases e4;cases e5;exact hk _ e7
section
variable{prog:Program}{w:World}{A:Around}{E:Value→Shared→Prop}{s:Shared}{knd:KeyKind prog w L2.Key}
theorem AG(d:Nat){v:Value}(h:carriedByValue v=true):ofAClassStatement d v=pure false:=by
 cases v with
 |ref a=>simp[carriedByValue]at h
 |_=>first|rfl|(unfold ofAClassStatement;rfl)
theorem o8{ks:List L2.Key}{a:Addr}{Q:Bool→Shared→Prop}(hk:IsTupleKey knd s.heap ks a)(h:Q false s):wpAny (model prog w) A (ofAClassStatement 8 (.ref a)) Q E s:=by
 have hT:=hk.typeIs;obtain⟨o,items,n,ho,_,hd,hi⟩:=hk;unfold ofAClassStatement;refine wpAny_bind (wpAny_typeOf hT ?_);dsimp only;rw[if_pos (by decide)]
 refine wpAny_bind (wpAny_pure ?_);rw[if_neg (by decide)]
 refine wpAny_bind (wpAny_seqItems ho hd ?_);dsimp only;refine wpAny_bind ?_;rw[←Array.forIn_toList];refine wpAny_forIn_list _ (fun rest r s'=>r.1=none∧s'=s∧∀v∈rest,carriedByValue v=true) _ ?_ ?_ _ _ ⟨rfl,rfl,hi.byValue⟩
 · rintro v rest r s' ⟨hr,rfl,hv⟩
   rw[AG _ (hv v List.mem_cons_self)];refine wpAny_bind (wpAny_pure ?_);rw[if_neg (by decide)]
   exact wpAny_pure ⟨rfl,rfl,fun u hu=>hv u (List.mem_cons_of_mem _ hu)⟩
 · rintro⟨r1,r2⟩ s' ⟨hr,rfl,_⟩
   cases hr;exact wpAny_pure h
theorem sQ{kx:List L2.Key}{x:Addr}{ys:List Value}{Q:Bool→Shared→Prop}(hk:IsTupleKey knd s.heap kx x)(hy:∀v∈ys,∃b ks,v=.ref b∧IsTupleKey knd s.heap ks b)(h:Q false s):wpAny (model prog w) A (searchCouldBeSeen (.ref x) ys) Q E s:=by
 unfold searchCouldBeSeen;refine wpAny_bind ?_;refine wpAny_forIn_list _ (fun rest r s'=>r.1=none∧s'=s∧∀v∈rest,∃b ks,v=.ref b∧IsTupleKey knd s.heap ks b) _ ?_ ?_ _ _ ⟨rfl,rfl,hy⟩
 · rintro v rest r s' ⟨hr,rfl,hv⟩
   obtain⟨b,ks,rfl,hb⟩:=hv v List.mem_cons_self;have done:∀u∈rest,∃b ks,u=.ref b∧IsTupleKey knd s'.heap ks b:=fun u hu=>hv u (List.mem_cons_of_mem _ hu);dsimp only;split
   ·exact wpAny_pure ⟨rfl,rfl,done⟩
   · refine wpAny_bind (wpAny_eqIsQuiet_tuple hk ?_)
     rw[if_neg (by decide)]
     refine wpAny_bind (wpAny_eqIsQuiet_tuple hb ?_);rw[if_neg (by decide)]
     refine wpAny_bind (o8 hk ?_);rw[if_neg (by decide)]
     refine wpAny_bind (o8 hb ?_);rw[if_neg (by decide)]
     exact wpAny_pure ⟨rfl,rfl,done⟩
 · rintro⟨r1,r2⟩ s' ⟨hr,rfl,_⟩
   cases hr;exact wpAny_pure h
theorem uB{t:SetTable}(hm:cW t.mask):t.gaveWay=false:=by
 unfold SetTable.gaveWay;rcases hm with h|h|h<;>rw[h]<;>rfl
theorem yK{t:SetTable}{hashAt:Nat→Int}{h:Int}{n:Nat}{p:SetTable.Probe}{r:Option SetTable.Met}(hX:t.probe hashAt h p=r)(hd:t.dummies= #[])(hn:n<10*SetTable.turns t.mask)(hp:p.dummy=none)(he:t.slot (bt t n p).j=.empty):
   (∃j,r=some (.empty j none))∨∃k i,k<n∧t.slot (bt t k p).j=.live i∧r=some (.candidate (bt t k p).j i (bt t (k+1) p))∧(bt t (k+1) p).dummy=none:=by
 subst hX;exact qr hd hn hp he
theorem qo{a x:Addr}{kx:List L2.Key}{hx:Int}{o:Obj}{es:Array (Int×Value)}{ep:Nat}{t:SetTable}{Q:SetFound→Shared→Prop}(hu:A.units<cLine)(ho:s.heap.get? a=some o)(hd:o.data=.set es ep t)(hf:t.fits es.size=true)
   (EC:t.dummies= #[]) (hm:cW t.mask) (hk:IsTupleKey knd s.heap kx x) (Ff:∀e∈es.toList,∃b ks,e.2=.ref b∧IsTupleKey knd s.heap ks b∧ks≠kx) (hq:∀j,Q (.free j false) s):
   ∀ {fuel n:Nat} {st:Option SetTable.Probe},n<fuel→n<10*SetTable.turns t.mask→(st.getD (t.probeStart hx)).dummy=none→t.slot (bt t n (st.getD (t.probeStart hx))).j=.empty→
     wpAny (model prog w) A (setSearchFrom a (.ref x) hx true fuel st) Q E s
 |0,n,p,h,_,_,_=>by omega
 | fuel+1,n,p,hn,EI,hp,he=>by
   unfold setSearchFrom;refine wpAny_bind (wpAny_setState_of ho hd hf ?_);dsimp only;rw[if_neg (by rw[uB hm];decide)]
   generalize hX:t.probe _ hx (p.getD (t.probeStart hx))=r;rcases yK hX EC EI hp he with⟨j,rfl⟩|⟨k,i,NM,hl,rfl,K4⟩
   ·exact wpAny_pure (hq j)
   · dsimp only
     have CU:=qC hl
     have Cv:i<es.size:=by
       obtain⟨h1,_⟩:=Array.getElem?_eq_some_iff.mp CU;simp only[SetTable.fits,Bool.and_eq_true,beq_iff_eq]at hf;omega
     obtain⟨b,ks,eb,hb,B5⟩:=Ff es[i] (Array.getElem_mem_toList Cv);have hi:es[i]? =some (es[i].1,.ref b):=by rw[Array.getElem?_eq_getElem Cv, ←eb]
     have next:wpAny (model prog w) A (setSearchFrom a (.ref x) hx true fuel (some (bt t (k+1) (p.getD (t.probeStart hx))))) Q E s:=by
       refine qo hu ho hd hf EC hm hk Ff hq (n:=n - (k+1)) (by omega) (by omega) K4 ?_
       show t.slot (bt t (n - (k+1)) (bt t (k+1) (p.getD (t.probeStart hx)))).j=_;rw[←ml,show k+1+(n - (k+1))=n by omega]
       exact he
     have Kv:t.sameMemory t.moves t.mask=some true:=by unfold SetTable.sameMemory;simp
     by_cases hled:(!t.led)=true
     · rw[if_pos hled]
       refine wpAny_bind (sQ hk (fun v hv=>?_) ?_)
       · obtain⟨e,Jm,rfl⟩:=List.mem_map.mp hv
         obtain⟨b,ks,h1,h2,_⟩:=Ff e (by simp at Jm;simpa using Jm.1)
         exact⟨b,ks,h1,h2⟩
       · rw[if_neg (by decide),hi]
         dsimp only;refine wpAny_bind (wpAny_holding (wpAny_eqBool_tuple hu hb hk ?_));refine wpAny_bind (wpAny_setState_of ho hd hf ?_);dsimp only;rw[decide_eq_false B5,if_neg (by decide),Kv]
         dsimp only;rw[if_pos rfl,hl];dsimp only;rw[hi];dsimp only;refine wpAny_bind (wpAny_isSame_ref_self ?_);rw[if_pos rfl];refine wpAny_bind (wpAny_pure ?_);exact next
     · rw[if_neg hled,hi]
       dsimp only;refine wpAny_bind (wpAny_holding (wpAny_eqBool_tuple hu hb hk ?_));refine wpAny_bind (wpAny_setState_of ho hd hf ?_);dsimp only;rw[decide_eq_false B5,if_neg (by decide),Kv]
       dsimp only;rw[if_pos rfl,hl];dsimp only;rw[hi];dsimp only;refine wpAny_bind (wpAny_isSame_ref_self ?_);rw[if_pos rfl];refine wpAny_bind (wpAny_pure ?_);exact next
end
section
variable{prog:Program}{w:World}{A:Around}{E:Value→Shared→Prop}{s:Shared}{knd:KeyKind prog w L2.Key}
theorem yD(d:Nat){v:Value}(h:carriedByValue v=true):∃b,hashByValue d v=pure b:=by
 cases v with
 |ref a=>simp[carriedByValue]at h
 |_=>exact⟨_,by unfold hashByValue;rfl⟩
theorem zu{ks:List L2.Key}{a:Addr}{Q:Bool→Shared→Prop}(hk:IsTupleKey knd s.heap ks a)(h:∀b,Q b s):wpAny (model prog w) A (hashByValue 8 (.ref a)) Q E s:=by
 have hT:=hk.typeIs;obtain⟨o,items,n,ho,_,hd,hi⟩:=hk;unfold hashByValue;refine wpAny_bind (wpAny_specialOf hT F.slot_tuple_hash.lookup ?_);dsimp only;refine wpAny_bind (wpAny_seqItems ho hd ?_);refine wpAny_bind ?_;rw[←Array.forIn_toList];refine wpAny_forIn_list _ (fun rest r s'=>r.1=none∧s'=s∧∀v∈rest,carriedByValue v=true) _ ?_ ?_ _ _ ⟨rfl,rfl,hi.byValue⟩
 · rintro v rest r s' ⟨hr,rfl,hv⟩
   obtain⟨b,eb⟩:=yD 7 (hv v List.mem_cons_self);rw[eb];refine wpAny_bind (wpAny_pure ?_);cases b with
   |false=>rw[if_pos (by decide)];exact wpAny_pure (wpAny_pure (h false))
   |true=>rw[if_neg (by decide)];exact wpAny_pure ⟨rfl,rfl,fun u hu=>hv u (List.mem_cons_of_mem _ hu)⟩
 · rintro⟨r1,r2⟩ s' ⟨hr,rfl,_⟩
   cases hr;exact wpAny_pure (h true)
def dG(knd:KeyKind prog w L2.Key)(B:Nat)(h:Heap)(a:Addr)(S:List (List L2.Key))(n:Nat):Prop:=
 ∃o es ep t,h.get? a=some o∧o.ExactSet∧o.data=.set es ep t∧es.size=n∧t.place.size=n∧t.dummies= #[]∧cW t.mask∧n*5<t.mask*3∧∀e∈es.toList,∃b ks,e.2=.ref b∧IsTupleKey knd h ks b∧ks∈S∧b<B
theorem mF{h h':Heap}{ks:List L2.Key}{a b:Addr}{o:Obj}{es:Array (Int×Value)}{ep:Nat}{t:SetTable}(x:IsTupleKey knd h ks b)(ho:h.get? a=some o)(hd:o.data=.set es ep t)(hs:Heap.SameBut a h h'):IsTupleKey knd h' ks b:=by
 obtain⟨ob,items,n,Gb,c,d,i⟩:=x;refine⟨ob,items,n,?_,c,d,i⟩;rw[hs.2 b fun z=>?_]
 ·exact Gb
 · subst z
   rw[ho]at Gb;cases Gb;rw[hd]at d;cases d
theorem su{a:Addr}{o:Obj}{es:Array (Int×Value)}{ep m wanted:Nat}{t:SetTable}{Q:Unit→Shared→Prop}(ho:s.heap.get? a=some o)(hd:o.data=.set es ep t)(hf:t.fits es.size=true)(hw:SetTable.sizeAbove wanted=m+1)(hm:cW m)(hl:es.size≤m)
   (h:∀h' Ec t',Heap.SameBut a s.heap h'→h'.get? a=some {o with data:=.set Ec (ep+1) t'}→Ec.size=es.size→t'.mask=m→t'.dummies= #[]→t'.place.size=es.size→(∀e∈Ec.toList,e∈es.toList)→Q () {s with heap:=h'}):
   wpAny (model prog w) A (setRelay a wanted) Q E s:=by
 have NU:m+1≤sizeLine:=by rw[sizeLine_eq];rcases hm with rfl|rfl|rfl<;>decide
 obtain⟨t',order,e1,e2,e3,e4,e5,e6⟩:=zc (m:=m) (f:=t.finger) (mv:=t.movedTo m) (led:=t.led) (plain:=t.plain) (hs:=es.map (·.1)) hm (by simpa using hl)
 have hz:(es.map (·.1)).size=es.size:=by simp
 rw[hz]at e4 e5 e6
 have er:t.relaid (es.map (·.1)) wanted=some (t',order):=by
   unfold SetTable.relaid;rw[hw];exact e1
 have hsz:(order.filterMap (es[·]?)).size=es.size:=by
   rw[←Array.length_toList,Array.toList_filterMap,List.length_filterMap_eq_countP, ←e5, ←Array.length_toList];exact List.countP_eq_length.mpr fun k hk=>by rw[Array.getElem?_eq_getElem (e6 k hk)];rfl
 unfold setRelay;refine wpAny_bind (wpAny_setState_of ho hd hf ?_);dsimp only;rw[if_neg (by rw[hw];omega),er]
 refine wpAny_bind (wpAny_of_eq (a:=(order.filterMap (es[·]?),t')) ?_ ?_)
 · show(if((order.filterMap (es[·]?)).size != es.size)=true then _ else pure (order.filterMap (es[·]?),t'))=_
   rw[if_neg (by rw[hsz];simp)]
 · refine wpAny_storeSet_of ho hd ?_ (by rw[hsz];omega)
   refine h _ _ _ (Heap.SameBut.update _ a _) ?_ hsz e2 e3 e4 fun e he=>?_
   ·rw[Heap.get?_update_self _ ho (by rw[putSet_of _ _ hd];rfl),putSet_of _ _ hd]
   · rw[Array.toList_filterMap]at he
     obtain⟨k,_,ek⟩:=List.mem_filterMap.mp he;exact Array.mem_toList_iff.mpr (Array.mem_of_getElem? ek)
theorem zD{a x:Addr}{B:Nat}{kx:List L2.Key}{hx:Int}{S:List (List L2.Key)}{n:Nat}{Q:Bool→Shared→Prop}(hu:A.units<cLine)(hS:dG knd B s.heap a S n)(hn:n<63)(ME:x<B)(hk:IsTupleKey knd s.heap kx x)(B5:kx∉S)
   (h:∀h',Heap.SameBut a s.heap h'→dG knd B h' a (kx::S) (n+1)→Q true {s with heap:=h'}):wpAny (model prog w) A (setAddHashed a (.ref x) hx) Q E s:=by
 obtain⟨o,es,ep,t,ho,hex,hd,hz,G3,EC,hm,GZ,Ff⟩:=hS;have Cv:n<t.mask:=by omega
 have hf:t.fits es.size=true:=by
   simp only[SetTable.fits,SetTable.fill,Bool.and_eq_true,beq_iff_eq,decide_eq_true_eq,EC,G3,hz,Array.size_empty,true_and];omega
 unfold setAddHashed;refine wpAny_holding ?_;unfold setAddHashedIn;refine wpAny_bind (wpAny_setState_of ho hd hf ?_);dsimp only;rw[if_neg (by unfold byScan Value.scannable;simp)]
 obtain⟨j0,Ny,e0⟩:=zo EC (by omega)
 obtain⟨m0,MH,e1⟩:=AV (h:=hx) hm Ny;have N1:10*SetTable.turns t.mask<100000:=by unfold SetTable.turns;rcases hm with h|h|h<;>rw[h]<;>decide
 refine wpAny_bind (qo (knd:=knd) hu ho hd hf EC hm hk (fun e he=>?_) (fun j=>?_) (n:=m0) (st:=none) (by omega) MH rfl (by show t.slot (bt t m0 (t.probeStart hx)).j=_;rw[e1];exact e0))
 · obtain⟨b,ks,h1,h2,h3,_⟩:=Ff e he
   exact⟨b,ks,h1,h2,fun z=>B5 (z▸h3)⟩
 · dsimp only
   refine wpAny_bind (wpAny_setState_of ho hd hf ?_);dsimp only
   have Cy:(t.put j).1.place.size=n+1∧(t.put j).1.dummies= #[]∧(t.put j).1.mask=t.mask:=by
     unfold SetTable.put;dsimp only;refine⟨?_,?_,rfl⟩
     · have:=(SetTable.insertAt_perm t.place (SetTable.below t.place j) j).length_eq
       simp only[Array.length_toList,Array.size_push]at this;omega
     ·rw[EC,if_neg (by simp[SetTable.has])]
   have Hx:∀p,(SetTable.insertAt es p (hx,Value.ref x)).size=n+1:=fun p=>by
     have:=(SetTable.insertAt_perm es p (hx,Value.ref x)).length_eq;simp only[Array.length_toList,Array.size_push]at this;omega
   have Hj:∀p,∀e∈(SetTable.insertAt es p (hx,Value.ref x)).toList,e∈es.toList∨e=(hx,Value.ref x):=fun p e he=>by
     have:=(SetTable.insertAt_perm es p (hx,Value.ref x)).mem_iff.mp he;simpa using this
   generalize hP:t.put j=P at Cy;obtain⟨t1,p⟩:=P;dsimp only at Cy ⊢
   have fin:∀t2:SetTable,t2.place.size=n+1→t2.dummies= #[]→t2.mask=t.mask→
       wpAny (model prog w) A (storeSet a (SetTable.insertAt es p (hx,Value.ref x)) t2 >>= fun _=>if(!false&&t2.tooFull)=true then(setRelay a (SetTable.grown (es.size+1)) >>= fun _=>pure true)else pure true) Q E s:=by
     intro t2 DC hd2 Ey;have DO:=Hx p;refine wpAny_bind (wpAny_storeSet_of ho hd ?_ (by rw[DO,sizeLine_eq];omega))
     have sb:Heap.SameBut a s.heap (s.heap.update a (Obj.putSet (SetTable.insertAt es p (hx,Value.ref x)) t2)):=Heap.SameBut.update _ a _
     have Ej:(s.heap.update a (Obj.putSet (SetTable.insertAt es p (hx,Value.ref x)) t2)).get? a=some {o with data:=.set (SetTable.insertAt es p (hx,Value.ref x)) (ep+1) t2}:=by
       rw[Heap.get?_update_self _ ho (by rw[putSet_of _ _ hd];rfl),putSet_of _ _ hd]
     generalize hH:s.heap.update a (Obj.putSet (SetTable.insertAt es p (hx,Value.ref x)) t2)=h2 at sb Ej
     have FD:∀e∈(SetTable.insertAt es p (hx,Value.ref x)).toList,∃b ks,e.2=.ref b∧IsTupleKey knd h2 ks b∧ks∈kx::S∧b<B:=fun e he=>by
       rcases Hj p e he with he|rfl
       · obtain⟨b,ks,g1,g2,g3,g4⟩:=Ff e he
         exact⟨b,ks,g1,mF g2 ho hd sb,List.mem_cons_of_mem _ g3,g4⟩
       ·exact⟨x,kx,rfl,mF hk ho hd sb,List.mem_cons_self,ME⟩
     have DZ:t2.fits (SetTable.insertAt es p (hx,Value.ref x)).size=true:=by
       simp only[SetTable.fits,SetTable.fill,Bool.and_eq_true,beq_iff_eq,decide_eq_true_eq,hd2,DC,DO,Array.size_empty,true_and,Ey];omega
     by_cases htf:(!false&&t2.tooFull)=true
     · rw[if_pos htf]
       have Hr:(n+1)*5≥t.mask*3:=by
         simp only[SetTable.tooFull,SetTable.fill,hd2,DC,Ey,Array.size_empty,Bool.not_false,Bool.true_and,decide_eq_true_eq]at htf;omega
       obtain⟨m',hw,Kq,M9,Fe⟩:∃m',SetTable.sizeAbove (SetTable.grown (es.size+1))=m'+1∧cW m'∧n+1≤m'∧(n+1)*5<m'*3:=by
         rcases hm with hm|hm|hm
         · have:n=4:=by omega
           subst this;refine⟨31,?_,.inr (.inl rfl),by decide,by decide⟩
           rw[hz];decide
         · have:n=18:=by omega
           subst this;refine⟨127,?_,.inr (.inr rfl),by decide,by decide⟩
           rw[hz];decide
         ·omega
       refine wpAny_bind (su (s:={s with heap:=h2}) Ej rfl DZ hw Kq (by rw[DO];exact M9) fun h3 Nm t3 JQ K0 g1 g2 g3 g4 g5=>wpAny_pure (h h3 (sb.trans JQ) ?_))
       refine⟨_,Nm,_,t3,K0,hex,rfl,by rw[g1,DO],by rw[g4,DO],g3,by rw[g2];exact Kq,by rw[g2];exact Fe,fun e he=>?_⟩
       obtain⟨b,ks,k1,k2,k3⟩:=FD e (g5 e he);exact⟨b,ks,k1,mF k2 Ej rfl JQ,k3⟩
     · rw[if_neg htf]
       have Hr:¬(n+1)*5≥t.mask*3:=by
         simp only[SetTable.tooFull,SetTable.fill,hd2,DC,Ey,Array.size_empty,Bool.not_false,Bool.true_and,decide_eq_true_eq]at htf;omega
       exact wpAny_pure (h h2 sb ⟨_,_,_,t2,Ej,hex,rfl,DO,DC,hd2,by rw[Ey];exact hm,by rw[Ey];omega,FD⟩)
   by_cases CU:t1.plain=true
   · rw[if_pos CU]
     refine wpAny_bind (zu hk fun b=>?_);cases b with
     |true=>exact fin t1 Cy.1 Cy.2.1 Cy.2.2
     |false=>exact fin {t1 with plain:=false} Cy.1 Cy.2.1 Cy.2.2
   · rw[if_neg CU]
     refine wpAny_bind (wpAny_pure ?_);exact fin t1 Cy.1 Cy.2.1 Cy.2.2
end
set_option maxHeartbeats 3200000
def fP{α:Type}(kf:Nat→α):Nat→List α
 |0=>[]
 |i+1=>kf i::fP kf i
theorem om{α:Type}{kf:Nat→α}:∀ {i:Nat} {x:α},x∈fP kf i→∃j,j<i∧x=kf j
 |0,x,h=>nomatch h
 | i+1,x,h=>by
   rcases List.mem_cons.mp h with rfl|h
   ·exact⟨i,by omega,rfl⟩
   · obtain⟨j,hj,e⟩:=om h
     exact⟨j,by omega,e⟩
section
variable{prog:Program}{w:World}{A:Around}{E:Value→Shared→Prop}{s:Shared}{knd:KeyKind prog w L2.Key}{R:Result→Shared→Prop}{I:Addr}{fp wr:List Addr}{G:Array GenState→Array GenState→Prop}{n:Nat}{P:Nat→Value→Prop}{St:Nat→Shared→Prop}
theorem i6{h h':Heap}{ks:List L2.Key}{b:Addr}(x:IsTupleKey knd h ks b)(hb:∀o,h.get? b=some o→h'.get? b=some o):IsTupleKey knd h' ks b:=by
 obtain⟨ob,items,n,Gb,c,d,i⟩:=x;exact⟨ob,items,n,hb ob Gb,c,d,i⟩
theorem dG.at'{h h':Heap}{a:Addr}{B:Nat}{S:List (List L2.Key)}{n:Nat}(x:dG knd B h a S n)(ha:∀o,h.get? a=some o→h'.get? a=some o)(hk:∀b,b<B→∀o,h.get? b=some o→h'.get? b=some o):dG knd B h' a S n:=by
 obtain⟨o,es,ep,t,ho,r1,r2,r3,r4,r5,r6,r7,r8⟩:=x;refine⟨o,es,ep,t,ha o ho,r1,r2,r3,r4,r5,r6,r7,fun e he=>?_⟩;obtain⟨b,ks,h1,h2,h3,h4⟩:=r8 e he;exact⟨b,ks,h1,i6 h2 (hk b h4),h3,h4⟩
theorem sF(W:WalksS prog w A.in1 I fp wr G n P St)(hu:A.in1.units<cLine)(S:Addr)(GH:S∉fp){B:Nat}(hB:∀b∈S::wr,B≤b)(kf:Nat→List L2.Key)(ad:Nat→Addr)(FR:∀i,i<n→ad i<B)
   (Hs:∀i v,P i v→v=.ref (ad i)) (hn:n≤63) (ER:∀i j,i<j→j<n→kf j≠kf i):
   ∀(k i:Nat) (s:Shared),n - i=k→i≤n→St i s→dG knd B s.heap S (fP kf i) i→(∀j,j<n→IsTupleKey knd s.heap (kf j) (ad j))→
     (∀s',Moved (S::wr) G s s'→dG knd B s'.heap S (fP kf n) n→R (.ok (.ret .none)) s')→codeAny (model prog w) A (.builtin "set.update.loop" ⟨[.ref S,.ref I],[]⟩) R s:=by
 have Kp:S∉wr:=fun h=>GH (W.sub _ h);have CA:∀b∈wr,b∈S::wr:=fun b hb=>List.mem_cons_of_mem _ hb;have EW:∀b,b<B→b∉S::wr:=fun b hb hm=>absurd (hB b hm) (by omega)
 intro k
 induction k with
 | zero=>
   intro i s hk hi D5 hS FT hR;have e:i=n:=by omega
   subst e;refine codeAny_builtin PyProof.Rows.F.entry_set_update_loop ?_;rw[Around.under_plainId PyProof.Rows.F.plain_set_update_loop _];show wpAny _ A.in1 (pyNext (.ref I) >>= _) _ _ s;refine wpAny_bind (W.done s _ _ D5 fun s' hm=>?_);show wpAny _ A.in1 (ret Value.none) _ _ s';exact wpAny_pure (hR s' (hm.mono CA) (hS.at' (fun o e=>hm.heap S o Kp e) fun b hb o e=>hm.heap b o (fun z=>EW b hb (CA b z)) e))
 | succ k ih=>
   intro i s hk hi D5 hS FT hR;have Cv:i<n:=by omega
   refine codeAny_builtin PyProof.Rows.F.entry_set_update_loop ?_;rw[Around.under_plainId PyProof.Rows.F.plain_set_update_loop _];show wpAny _ A.in1 (pyNext (.ref I) >>= _) _ _ s;refine wpAny_bind (W.item i s _ _ Cv D5 fun v s' hP I0 hm=>?_);cases Hs i v hP;have low:∀b,b<B→∀o,s.heap.get? b=some o→s'.heap.get? b=some o:=fun b hb o e=>hm.heap b o (fun z=>EW b hb (CA b z)) e;have EX:dG knd B s'.heap S (fP kf i) i:=hS.at' (fun o e=>hm.heap S o Kp e) low;have D':∀j,j<n→IsTupleKey knd s'.heap (kf j) (ad j):=fun j hj=>i6 (FT j hj) (low _ (FR j hj));show wpAny _ A.in1 (holding [Value.ref (ad i)] (setAdd S (.ref (ad i))) >>= _) _ _ s';refine wpAny_bind (wpAny_holding ?_);unfold setAdd;refine wpAny_holding (wpAny_bind (wpAny_pyHash_tuple hu (D' i Cv) ?_));refine zD (s:={s' with toks:=s'.toks+((kf i).length+1)}) hu EX (by omega) (FR i Cv) (D' i Cv) (fun hm=>?_) fun h' C5 KO=>?_
   · obtain⟨j,hj,e⟩:=om hm
     exact ER j i hj Cv e
   · have IX:∀b,b≠S→∀o,s'.heap.get? b=some o→h'.get? b=some o:=fun b hb o e=>by rw[C5.2 b hb];exact e
     have MC:∀b,b<B→b≠S:=fun b hb z=>EW b hb (z▸List.mem_cons_self);refine wpAny_pure ⟨plainId_quiet PyProof.Rows.F.plain_set_update_loop _,ih (i+1) _ (by omega) Cv (W.frame _ s' _ _ I0 (Nat.le_add_right _ _) fun b hb o e=>IX b (fun z=>GH (z▸hb)) o e) KO (fun j hj=>i6 (D' j hj) (IX _ (MC _ (FR j hj)))) fun FF Jd Iz=>?_⟩
     exact hR FF (Moved.trans W.gtrans ((hm.mono CA).then_heap (Nat.le_add_right _ _) fun b o hb e=>IX b (fun z=>hb (z▸List.mem_cons_self)) o e) Jd) Iz
end
abbrev dI(led:Bool):Obj:={cls:=.type "set",dict:=none,data:=.set #[] 0 (.fresh 0 0 led)}
section
variable{prog:Program}{w:World}{A:Around}{E:Value→Shared→Prop}{s:Shared}{knd:KeyKind prog w L2.Key}
theorem sX{B:Nat}{h:Heap}{a:Addr}{led:Bool}{kf:Nat→List L2.Key}(e:h.get? a=some (dI led)):dG knd B h a (fP kf 0) 0:=
 ⟨_, #[],0,_,e,⟨rfl,rfl,rfl⟩,rfl,rfl,rfl,rfl,.inl rfl,(by show 0*5<7*3;decide),fun e he=>by simp at he⟩
theorem xA{l:Addr}{items:Array Value}{kf:Nat→List L2.Key}{ad:Nat→Addr}{Q:Value→Shared→Prop}(hu:A.units+64<cLine)(hh:A.handled=none)(hl:s.heap.IsList l items)(hit:∀(i:Nat) (v:Value),items[i]? =some v→v=.ref (ad i))
   (Jn:∀j,j<items.size→IsTupleKey knd s.heap (kf j) (ad j)) (hn:items.size≤63) (ER:∀i j,i<j→j<items.size→kf j≠kf i)
   (h:∀(h':Heap) (tk:Nat),dG knd s.heap.objs.size h' s.heap.objs.size (fP kf items.size) items.size→(∀b o,b<s.heap.objs.size→s.heap.get? b=some o→h'.get? b=some o)→Q (.ref s.heap.objs.size) {s with heap:=h',toks:=tk}):
   wpAny (model prog w) A (call (.type "set") [.ref l]) Q E s:=by
 obtain⟨c,tl,LJ⟩:=F.called_set.mro;have Jl:=F.called_set.made;have CA:=F.called_set.sub;refine wpAny_call (codeAny_of_tree ?_);show wpAny _ _ (callAny (.type "set") _) _ _ _;refine wpAny_pure ⟨Code.quiet_builtin _ (by decide+kernel),codeAny_builtin F.entry_type_call ?_⟩
 rw[Around.under_plain (weight_type_call_type "set" [.ref l] []) rfl];have h1:=F.called_set.notType;have h2:=F.called_set.canCreate;have NI:=F.typeCall_set_1 (.ref l)
 repeat (any_goals (first|assumption|wp_step))
 refine codeAny_mono (code_set_new_1 (.ref l) (E:=E) (Q₁:=fun obj B2=>∃led:Bool,obj=.ref s.heap.objs.size∧B2={s with heap:=s.heap.push (dI led)}) fun led=>⟨led,rfl,rfl⟩) fun r B2 hr=>?_;cases r with
 |error e=>exact hr
 | ok fl=>
   cases fl with
   | ret obj=>
     obtain⟨led,rfl,rfl⟩:=hr;have hS:(s.heap.push (dI led)).get? s.heap.objs.size=some (dI led):=Heap.get?_push_size _ rfl;have hT:Shared.TypeIs {s with heap:=s.heap.push (dI led)} (.ref s.heap.objs.size) "set":=⟨_,hS,rfl⟩;have NN:=F.called_set.init.lookup;have NC:=F.called_set.init.bind (.ref s.heap.objs.size)
     repeat (any_goals (first|assumption|wp_step))
     refine codeAny_mono (codeAny_call_builtin (R:=wants (fun r CP=>r=.none∧∃h' tk,CP={s with heap:=h',toks:=tk}∧dG knd s.heap.objs.size h' s.heap.objs.size (fP kf items.size) items.size∧(∀b o,b<s.heap.objs.size→s.heap.get? b=some o→h'.get? b=some o)) E) F.called_set.init.plain F.entry_set_init (check_set_init_1 hT ?_)) fun HV CP DY=>?_
     · obtain⟨ol,Kt,J3,nl,Kd⟩:=hl
       obtain⟨M6,Fp,Kf,ET⟩:=ol;simp only at J3 Kd;subst J3;subst Kd;have Hw:(s.heap.push (dI led)).get? l=some {cls:=.type "list",dict:=Fp,data:=.seq items nl,slots:=ET}:=Heap.get?_push_of_some _ Kt;have Mw:=F.sub_list_set;have L':=F.sub_list_frozenset;have B5:(Value.type "list"==Value.type "dict")=false:=by decide
       have Jy:(s.heap.push (dI led)).IsList l items:=⟨_,Hw,rfl,nl,rfl⟩;unfold Builtin.«set.__init__» noKeywords Builtin.Frozenset.updateFrom;generalize Ma:pyIter=PI
       wp_walk
       subst Ma;refine wpAny_pyIter_list Jy ?_;refine wpAny_bind (wpAny_runValue ?_);have Kc:l<s.heap.objs.size:=Heap.lt_size Kt;have Ln:A.in1.in1.in1.handled=none:=by simp[hh]
       have hz:(s.heap.push (dI led)).objs.size=s.heap.objs.size+1:=Heap.size_push ..;have G0:l≠(s.heap.push (dI led)).objs.size:=by rw[hz];exact Nat.ne_of_lt (Nat.lt_succ_of_lt Kc)
       have GH:s.heap.objs.size∉[(s.heap.push (dI led)).objs.size,l]:=by
         rw[hz];simp only[List.mem_cons,List.not_mem_nil,or_false,not_or];exact⟨Nat.ne_of_lt (Nat.lt_succ_self _),Nat.ne_of_gt Kc⟩
       have old:∀b o,s.heap.get? b=some o→((s.heap.push (dI led)).push {cls:=.type "list_iterator",data:=.fields #[.ref l,.int 0 0]}).get? b=some o:=fun b o e=>Heap.get?_push_of_some _ (Heap.get?_push_of_some _ e);have Mm:A.in1.in1.in1.units<cLine:=by simp only[Around.in1_units];omega
       refine sF (knd:=knd) ((Walks.list Ln _ l G0 items).toS) Mm s.heap.objs.size GH (B:=s.heap.objs.size) (fun b hb=>?hB) kf ad (fun i hi=>?FR) (fun i v hv=>hit i v hv) hn ER (items.size - 0) 0 _ (by omega) (Nat.zero_le _)
         ⟨⟨_,Heap.get?_push_size _ rfl,rfl,rfl⟩,(Jy.push _)⟩ (sX (Heap.get?_push_of_some _ hS)) (fun j hj=>i6 (Jn j hj) (old _)) ?hR
       case hB=>
         rcases List.mem_cons.mp hb with rfl|hb
         ·exact Nat.le_refl _
         ·rw[List.mem_singleton.mp hb,hz];exact Nat.le_succ _
       case FR=>
         obtain⟨o,_,_,ho,_⟩:=Jn i hi;exact Heap.lt_size ho
       case hR=>
         intro s' hm EX;obtain⟨h',g',d',M7,He⟩:=s';have eg:g'=s.gens:=hm.gens;have ed:d'=s.drawn:=hm.drawn;have eo:He=s.os:=hm.os;subst eg;subst ed;subst eo;show wpAny _ _ _ _ _ _;refine wpAny_pure ?_;show wpAny _ _ (ret Value.none) _ _ _;refine wpAny_pure ⟨rfl,h',M7,rfl,EX,fun b o hb e=>hm.heap b o (fun z=>?_) (old b o e)⟩;rcases List.mem_cons.mp z with rfl|z
         ·exact Nat.lt_irrefl _ hb
         ·rw[List.mem_singleton.mp z,hz]at hb;omega
     · cases HV with
       |error e=>exact DY
       | ok fl₂=>
         cases fl₂ with
         | ret r=>
           obtain⟨rfl,h',tk,rfl,EX,DJ⟩:=DY
           repeat (any_goals (first|assumption|wp_step))
           exact h _ _ EX DJ
         |_=>exact DY.elim
   |_=>exact hr.elim
end
end PL
namespace PL
open PySem PySem.Spec
open L2 (V Hp HO Cx PE PT PW PA PS bu PG b5 VK TE TT TA TS TI TG Inv RelV Vals Rd aO aT upd ae Key XK Ends aH dh aW R2 EP It Turn bM Un)
def cJ:List D→Option (List Ky)
 |[]=>some []
 | d::ds=>match keyOf d,cJ ds with
   |some z,some r=>some (z::r)
   |_,_=>none
noncomputable def fw:List D→Option (List (List Ky))
 |[]=>some []
 | .tup ds::r=>match cJ ds,fw r with
   |some z,some k=>some (z::k)
   |_,_=>none
 |_::_=>none
noncomputable def gR(i:Nat):Ex:=fun ρ=>match ρ[i]? with
 | some (.od ks vs)=>match fw vs with
   |some kk=>if kk.Nodup∧kk.length≤63 then .ok (.int kk.length)else .bad
   |none=>.bad
 |_=>.bad
section
variable{X:Cx}{M:Md}{G H H':Hp}{F0:Gf}{F F':Addr→Prop}{σ:L2.St}{ρ:En}{pos:Pos}{pins:List (Addr×Obj)}{s:Shared}
theorem pD:∀ {ds:List D} {kl:List Ky} {xs:List V} {y':List Value},cJ ds=some kl→ab M H F ds xs→Vals xs y'→ItemsAre (L2.bc M.P M.w) kl y'
 | [],kl,xs,y',h,r,v=>by
   cases h;simp only[ab]at r;subst r;cases v;exact .nil
 | d::ds,kl,xs,y',h,r,v=>by
   unfold cJ at h;split at h
   · rename_i z k hz hk
     cases h;simp only[ab]at r;obtain⟨x,t,rfl,r1,r2⟩:=r;cases v with
     | cons q w=>
       cases je hz r1;exact .cons (L2.gi q) (pD hk r2 w)
   ·cases h
theorem pB:∀ {ds:List D} {kk:List (List Ky)},fw ds=some kk→ds.length=kk.length
 |[],kk,h=>by cases h;rfl
 | .tup ds::r,kk,h=>by
   unfold fw at h;split at h
   · rename_i z k hz hk
     cases h;simp[pB hk]
   ·cases h
 |.aq::_,_,h=>by cases h
 |.bl _::_,_,h=>by cases h
 |.int _::_,_,h=>by cases h
 |.str _::_,_,h=>by cases h
 |.lst _::_,_,h=>by cases h
 |.aV _ _::_,_,h=>by cases h
 |.bA _ _ _::_,_,h=>by cases h
theorem rF(I:Inv X pins σ H s):∀ {ds:List D} {kk:List (List Ky)} {xs:List V},fw ds=some kk→ab (ai X) H F ds xs→∀j,j<kk.length→∃p,xs[j]? =some (.ref p)∧IsTupleKey (L2.bc X.prog X.w) s.heap (kk.getD j []) p
 |[],kk,xs,h,_,j,hj=>by cases h;simp at hj
 | .tup ds::r,kk,xs,h,rs,j,hj=>by
   unfold fw at h;split at h
   · rename_i z k hz hk
     cases h;simp only[ab]at rs;obtain⟨x,t,rfl,r1,r2⟩:=rs;cases j with
     | zero=>
       simp only[Rep]at r1;obtain⟨p,ys,rfl,tp,ry⟩:=r1;obtain⟨y',rv,⟨o,e,c,n,d⟩,_⟩:=iz I tp;exact⟨p,rfl,o,_,n,e,c,d,pD (M:=ai X) hz ry (by simpa using rv)⟩
     | succ j=>
       obtain⟨p,h1,h2⟩:=rF I hk r2 j (by simpa using hj)
       exact⟨p,by simpa using h1,by simpa using h2⟩
   ·cases h
 |.aq::_,_,_,h,_,_,_=>by cases h
 |.bl _::_,_,_,h,_,_,_=>by cases h
 |.int _::_,_,_,h,_,_,_=>by cases h
 |.str _::_,_,_,h,_,_,_=>by cases h
 |.lst _::_,_,_,h,_,_,_=>by cases h
 |.aV _ _::_,_,_,h,_,_,_=>by cases h
 |.bA _ _ _::_,_,_,h,_,_,_=>by cases h
theorem yE (i:Nat) {x:Str} {p p2 p3 p4 CZ CN apos A':Pos} (hu:X.A.units+64<cLine) (hc:X.calm=true) (hg:L2.Gl X "len") (hm:X.mg "len"=none) (Iu:L2.Gl X "set") (Ey:X.mg "set"=none) (HQ:L2.Gl X "list") (G6:X.mg "list"=none)
   (hN:X.N[i]? =some x) (hv:L2.cz X.env.scope x) (hd:(x==("__debug__":Str))=false) (Cs:(x==("__classdict__":Str))=false)
   (CH:attributeBase (.Name x p4) "values" X.env (eval (.Name x p4) X.env)=eval (.Name x p4) X.env) (CG:(apos.endLine==A'.line)=true)
   (EM:starEach [.Call (.Name "set" p2) [.Call (.Name "list" p3) [.Call (.Attribute (.Name x p4) "values" apos) [] [] A'] [] CN] [] CZ] X.env=(false,eval (.Call (.Name "set" p2) [.Call (.Name "list" p3) [.Call (.Attribute (.Name x p4) "values" apos) [] [] A'] [] CN] [] CZ) X.env)::starEach [] X.env)
   (Cm:starEach [.Call (.Name "list" p3) [.Call (.Attribute (.Name x p4) "values" apos) [] [] A'] [] CN] X.env=(false,eval (.Call (.Name "list" p3) [.Call (.Attribute (.Name x p4) "values" apos) [] [] A'] [] CN) X.env)::starEach [] X.env)
   (Gv:starEach [.Call (.Attribute (.Name x p4) "values" apos) [] [] A'] X.env=(false,eval (.Call (.Attribute (.Name x p4) "values" apos) [] [] A') X.env)::starEach [] X.env):
   JE X (.Call (.Name "len" p) [.Call (.Name "set" p2) [.Call (.Name "list" p3) [.Call (.Attribute (.Name x p4) "values" apos) [] [] A'] [] CN] [] CZ] [] pos) (gR i):=by
 intro pins s σ H Q I ⟨ρ,F,d,hr,e,q⟩;unfold gR at e;split at e
 · rename_i ks vs Eb
   split at e
   · rename_i kk Dl
     split at e
     · rename_i hnd
       cases e;obtain⟨a,xs,ea,fa,ha,hl,rs⟩:=hr.od i _ _ Eb;refine wpAny_Call_Name_kw (L2.eN I hg hm fI ?_ (by decide) (by decide))
       refine PyProof.Rows.callWith_builtin1 ?_ EM (by rfl)
       rw[EM];show wpAny _ _ (spliced ((false,eval _ X.env)::backTo pos (starEach [] X.env))) _ _ s;refine Calls.spliced_cons (wpAny_Call_Name_kw (L2.eN I Iu Ey vo (PyProof.Rows.callWith_type1 ?_ Cm (by rfl)) (by decide) (by decide)))
       rw[Cm];show wpAny _ _ (spliced ((false,eval _ X.env)::backTo CZ (starEach [] X.env))) _ _ s;refine Calls.spliced_cons (wpAny_Call_Name_kw (L2.eN I HQ G6 sT (PyProof.Rows.callWith_type1 ?_ Gv (by rfl)) (by decide) (by decide)))
       rw[Gv];show wpAny _ _ (spliced ((false,eval _ X.env)::backTo CN (starEach [] X.env))) _ _ s;refine Calls.spliced_cons (wpAny_Call_method0_late CH CG (L2.ao ((L2.pv i hN hv hd Cs) pins s σ H (fun x' H'=>x'=V.ref a∧H'=H) I ⟨_,ea,rfl,rfl⟩) fun u s1 ⟨x1,H1,I1,r1,e1,e2⟩=>?_));subst e1 e2;cases r1;obtain⟨hz,Fd,ws,rel,dd⟩:=L2.jo I1.au ha;obtain⟨ep,dat⟩:=dd.dictAt;have hlen:=xI rel;have NO:xs.length=kk.length:=by rw[←rs.length,pB Dl]
       have Kg:(ks.zip xs).length=kk.length:=by rw[List.length_zip];omega
       have key:=rF I1 Dl rs;have hh:X.A.handled=none:=I.ok.hd hc;have GQ:s1.TypeIs (.ref a) "dict":=let⟨o,_,ho,c,_⟩:=dat;⟨o,ho,c.1⟩
       have H0:∀b,Value.ref a=.ref b→∃ob,s1.heap.get? b=some ob∧ob.dict=none:=fun b e=>by cases e;exact let⟨o,_,ho,c,_⟩:=dat;⟨o,ho,c.2.1⟩
       refine⟨"dict","dict.values",PySem.F.plainAttrs_dict,PySem.F.slot_dict_values,PySem.F.type_dict_values,GQ,H0,Calls.callWith_builtin rfl (PySem.evalArgs_none ?_)⟩;refine call_meetsIn PySem.F.slot_dict_values GQ PySem.F.entry_dict_values (PySem.F.args_dict_values_1 _) (meets_dict_values (L2.bc X.prog X.w) a Fd) ⟨⟨ws,dat.dictOf⟩,?_⟩;have Jw:(s1.heap.push {cls:=.type "dict_values",data:=.fields #[.ref a]}).IsValuesView s1.heap.objs.size a:=⟨_,Heap.get?_push_size _ rfl,rfl,rfl⟩;have FW:=dat.push {cls:=.type "dict_values",data:=.fields #[.ref a]};have Ez:∀b o,s1.heap.get? b=some o→(s1.heap.push {cls:=.type "dict_values",data:=.fields #[.ref a]}).get? b=some o:=fun b o e=>Heap.get?_push_of_some _ e;generalize s1.heap.push {cls:=.type "dict_values",data:=.fields #[.ref a]}=h2 at Jw FW Ez;refine Calls.spliced_nil ?_;refine PySem.W.kdl_call (s:={s1 with heap:=h2}) (PySem.W.kdl_values (knd:=L2.bc X.prog X.w) (kvs:=ws) (ep:=ep)) hh ⟨Jw,FW⟩ (by omega) fun h3 tk acc c' hk EX Ep=>?_
       refine Calls.spliced_nil ?_;have hsz:acc.size=kk.length:=by rw[Ep.1];omega
       refine xA (knd:=L2.bc X.prog X.w) (s:={s1 with heap:=h3,toks:=tk}) (items:=acc) (kf:=fun j=>kk.getD j []) (ad:=fun j=>match xs[j]? with|some (.ref p)=>p|_=>0) hu hh ⟨_,EX,rfl,c',rfl⟩ (fun j v hj=>?_) (fun j hj=>?_) (by omega) (fun i j Hh hj=>?_) fun h4 HR D5 LY=>?_
       · obtain⟨k,Dv⟩:=Ep.2 j v hj
         obtain⟨qq,g1,g2⟩:=u6 rel Dv
         have Hb:j<kk.length:=by
           obtain⟨Cv,_⟩:=Array.getElem?_eq_some_iff.mp hj;omega
         obtain⟨p,g3,_⟩:=key j Hb;obtain⟨N2,Kz⟩:=List.getElem?_eq_some_iff.mp g1;obtain⟨Jo,DC⟩:=List.getElem?_eq_some_iff.mp g3;have:qq.2=V.ref p:=by rw[←Kz,List.getElem_zip,DC]
         rw[this]at g2;cases g2;rw[g3]
       · obtain⟨p,g3,g4⟩:=key j (by omega)
         rw[g3];exact i6 g4 fun o e=>hk _ _ (Ez _ _ e)
       · have hi:i<kk.length:=by omega
         have Lv:j<kk.length:=by omega
         intro z;simp only[List.getD_eq_getElem?_getD,List.getElem?_eq_getElem hi,List.getElem?_eq_getElem Lv,Option.getD_some]at z;exact absurd ((List.getElem_inj hnd.1).mp z) (by omega)
       · refine Calls.spliced_nil ?_
         obtain⟨o,es,GA,t,ho,hex,Gd,DO,G3,EC,NK,GZ,_⟩:=D5
         have LD:t.fits es.size=true:=by
           simp only[SetTable.fits,SetTable.fill,Bool.and_eq_true,beq_iff_eq,decide_eq_true_eq,EC,G3,DO,Array.size_empty,true_and];omega
         refine call_len_set (s:={s1 with heap:=h4,toks:=HR}) ho hex Gd LD (by omega) ?_
         have I5:Inv X pins σ H1 {s1 with heap:=h4,toks:=HR+1+1}:=I1.kept (t':=HR+1+1) fun b o e=>LY b o (Heap.lt_size (hk b o (Ez b o e))) (hk b o (Ez b o e));rw[DO,hsz];exact⟨.int kk.length,H1,I5,⟨_,rfl⟩,q _ _ (ae.refl _) b0⟩
     ·cases e
   ·cases e
 ·cases e
end
def iy(i:Nat)(b c:Ex):Ex:=fun ρ=>(b ρ).bind fun y=>(c ρ).bind fun z=>match ρ[i]? with
 |some (.od ks vs)=>eT z (.aV ks vs) y
 |_=>.bad
section
variable{X:Cx}{M:Md}{G H H':Hp}{F0:Gf}{F F':Addr→Prop}{σ:L2.St}{ρ:En}{pos:Pos}{pins:List (Addr×Obj)}{s:Shared}
theorem sR(i:Nat){x:Str}{e f:Expr}{fe ff:Ex}{p2 apos A':Pos}(he:JE X e fe)(hf:JE X f ff)(hN:X.N[i]? =some x)(hv:L2.cz X.env.scope x)(hd:(x==("__debug__":Str))=false)(Cs:(x==("__classdict__":Str))=false)
   (m:L2.M2 X (.Name x p2) "get" apos e f A'):JE X (.Call (.Attribute (.Name x p2) "get" apos) [e,f] [] A') (iy i fe ff):=by
 intro pins s σ H Q I ⟨ρ,F,d,hr,e,q⟩;obtain⟨b,eb,e⟩:=ak.mp e;obtain⟨c,ec,e⟩:=ak.mp e;split at e
 · rename_i ks vs Eb
   obtain⟨p,xs,ea,fa,ha,hl,rs⟩:=hr.od i _ _ Eb;refine wpAny_Call_method m.base m.iX m.line PySem.F.plainAttrs_dict PySem.F.slot_dict_get PySem.F.type_dict_get (L2.ao ((L2.pv i hN hv hd Cs) pins s σ H (fun x' H'=>x'=V.ref p∧H'=H) I ⟨_,ea,rfl,rfl⟩) fun u s1 ⟨x,H1,I1,rx,e1,e2⟩=>?_);subst e1 e2;cases hk:keyOf b with
   |none=>simp only[eT,hk]at e;cases e
   | some k=>
     simp only[eT,hk]at e;cases e;cases rx;obtain⟨_,_,ws,_,o',es,ep,e1,e2,e3,_⟩:=L2.jo I1.au ha;refine⟨⟨o',e1,e2.1⟩,fun c hc=>by cases hc;exact⟨o',e1,e2.2.1⟩,?_⟩
     rw[m.trees];refine Calls.callWith_builtin rfl (Calls.evalArgs_plain (Calls.spliced_cons (L2.ao (he pins s1 σ H1 _ I1 ⟨ρ,F,b,hr,eb,fun v H2 s2 rv=>(⟨s2,rv⟩:ae H1 H2∧Rep (ai X) H2 F b v)⟩) fun iv s2 ⟨y,H2,I2,ry,bG,rb⟩=>Calls.spliced_cons (L2.ao (hf pins s2 σ H2 _ I2 ⟨ρ,F,c,hr.same bG,ec,fun v H3 s3 rv=>(⟨s3,rv⟩:ae H2 H3∧Rep (ai X) H3 F c v)⟩) fun iw s3 ⟨z,H3,I3,rz,GF,rc⟩=>Calls.spliced_nil ?_))));have DI:=rs.mv (M:=ai X) (F':=F) (.same (bG.trans GF));cases je hk rb;obtain⟨_,Fd,J0,rel,dd⟩:=L2.jo I3.au (GF _ _ (bG _ _ ha));obtain⟨f1,f2⟩:=oz (M:=ai X) (H:=H3) (F:=F) k hl DI;refine call_meetsIn PySem.F.slot_dict_get dd.typeIs PySem.F.entry_dict_get (PySem.F.args_dict_get_3 _ _ _) (meets_dict_get_default (knd:=L2.bc X.prog X.w) (d:=p) (L2.gi ry) Fd iw) ⟨_,dd.mapOf,?_⟩;cases hfk:bK k ks vs with
     | none=>
       rw[L2.cu.none_of (o:=valueAt J0 k) (by rw[←f1 hfk];exact L2.KV.val rel k)]
       rw[hfk]at q;exact⟨z,H3,I3.tok _,rz,q _ _ (bG.trans GF) rc⟩
     | some d'=>
       obtain⟨v,HL,rv⟩:=f2 d' hfk;obtain⟨u,hu,ru⟩:=L2.cu.some_of (v:=v) (o:=valueAt J0 k) (by rw[←HL];exact L2.KV.val rel k)
       rw[hu];rw[hfk]at q;exact⟨v,H3,I3.tok _,ru,q _ _ (bG.trans GF) rv⟩
 ·cases e
end
end PL
namespace PL
namespace dY
open PySem
abbrev S(x:String):D:=.str (Str.ofString x)
noncomputable def dN:D:=(.tup [(S "put"),(S "high"),(S "copy"),(S "add"),(S "less"),(S "times"),(S "cut"),(S "rest"),(S "under"),(S "same"),(S "load"),(S "store"),(S "jump"),(S "if"),(S "call")])
noncomputable def kE:D:=(.aV [(.inr (Str.ofString "put")),(.inr (Str.ofString "high")),(.inr (Str.ofString "copy")),(.inr (Str.ofString "add")),(.inr (Str.ofString "less")),(.inr (Str.ofString "times")),(.inr (Str.ofString "cut")),(.inr (Str.ofString "rest")),(.inr (Str.ofString "under")),(.inr (Str.ofString "same")),(.inr (Str.ofString "load")),(.inr (Str.ofString "store")),(.inr (Str.ofString "jump")),(.inr (Str.ofString "if")),(.inr (Str.ofString "call"))] [(S "an"),(S "an"),(S "ab"),(S "abc"),(S "abc"),(S "abc"),(S "abc"),(S "abc"),(S "abc"),(S "abc"),(S "abn"),(S "abn"),(S "n"),(S "an"),(S "")])
noncomputable def fN:List D→R D:=fn 2 (aL [aP (aC 0) (bh [eC (S "add"),eC (S "less"),eC (S "times"),eC (S "cut"),eC (S "rest"),eC (S "under"),eC (S "same")]),aP (aC 1) (e2 bz (bh [dQ [eC (S "put"),eC (S "an")],dQ [eC (S "high"),eC (S "an")],dQ [eC (S "copy"),eC (S "ab")]]) (cY (d7 (aa 0)) 1 [] (aC 0) [] (dQ [aa 0,eC (S "abc")]))),bb (e2 bz (aa 1) (bh [dQ [eC (S "load"),eC (S "abn")],dQ [eC (S "store"),eC (S "abn")],dQ [eC (S "jump"),eC (S "n")],dQ [eC (S "if"),eC (S "an")],dQ [eC (S "call"),eC (S "")]]))])
noncomputable def gA:Sm:=aL [aP (aC 6) (e2 aD (bh [eC (.int 8),eC (.int 65536)]) (e1 eZ (e2 oEq (e2 aD (aa 3) (aa 5)) (eC (S "n"))))),aP (aC 7) (e2 oMod (e2 aD (aa 1) (aa 5)) (aa 6)),b7 (cK (tV (e2 oEq (e2 oMod (e2 aD (aa 1) (eC (.int 4))) (eC (.int 5))) (eC (.int 1)))) (tV (e2 oEq (aa 5) (e2 oMod (e2 aD (aa 1) (eC (.int 5))) (eC (.int 3)))))) (aP (aC 7) (e2 aD (bh [eC (.int 0),e2 jx (aa 6) (eC (.int 1))]) (e2 oMod (e2 oDiv (e2 aD (aa 1) (eC (.int 4))) (eC (.int 5))) (eC (.int 2))))) (cv),eS 4 (aa 7)]
noncomputable def fV:List D→R D:=fn 8 (aL [aP (dn [2,3]) (e2 aD (aB fN []) (aa 0)),jd 4 (bh []),d3 (eW (e1 cD (aa 3))) (aC 5) gA,g6 4,bb (e1 eE (e2 bz (bh [aa 2]) (aa 4)))])
def b9:List D→R D:=fn 1 (bb (e2 (eT .aq) (eC kE) (aa 0)))
def ig:List D→R D:=fn 1 (bb (jq (e1 (dP .int) (aa 0)) (e1 iN (e1 (dP .bool) (aa 0)))))
def iQ:List D→R D:=fn 1 (bb (fK (tV (e2 oEq (aa 0) (eC (S "n")))) (e2 bH (eC (.int 2)) (eC (.int 16))) (eC (.int 8))))
def gn:List D→R D:=fn 2 (bb (jq (aB ig [aa 1]) (kF oLe oLt (eC (.int 0)) (aa 1) (aB iQ [aa 0]))))
noncomputable def di:List D→R D:=fn 2 (aL [b7 (b4 (cf (tV (e1 (dP .tuple) (aa 0)))) (b4 (tV (e2 oEq (e1 cD (aa 0)) (eC (.int 0)))) (cf (tV (e1 (dP .str) (e2 aD (aa 0) (eC (.int 0)))))))) (bb (eC (.bl false))) (cv),aP (aC 1) (aB b9 [e2 aD (aa 0) (eC (.int 0))]),b7 (b4 (tV (e1 i5 (aa 1))) (tV (e2 dy (e1 cD (aa 0)) (e2 bz (eC (.int 1)) (e1 cD (aa 1)))))) (bb (eC (.bl false))) (cv),bb (e1 m7 (cY (j7 (aa 1) (iU (aa 0) (some (eC (.int 1))) none)) 2 [] (dn [0,1]) [] (aB gn [aa 0,aa 1])))])
noncomputable def gb:List D→R D:=fn 3 (aL [aP (aC 2) (e2 kh (aB b9 [e2 aD (aa 0) (eC (.int 0))]) (aa 1)),bb (fK (tV (e2 oLt (aa 2) (eC (.int 0)))) (eC (.int 0)) (e2 aD (aa 0) (e2 bz (eC (.int 1)) (aa 2))))])
noncomputable def cU:List D→R D:=fn 2 (aL [b7 (cf (tV (aB di [aa 0]))) (lI) (cv),aP (aC 1) (e2 cF (e2 ky (eC dN) (e2 aD (aa 0) (eC (.int 0)))) (e2 bH (eC (.int 2)) (eC (.int 25)))),aP (aC 1) (e2 bz (e2 bz (aa 1) (e2 cF (aB gb [aa 0,eC (S "a")]) (e2 bH (eC (.int 2)) (eC (.int 22))))) (e2 cF (aB gb [aa 0,eC (S "b")]) (e2 bH (eC (.int 2)) (eC (.int 19))))),bb (e2 bz (e2 bz (aa 1) (e2 cF (aB gb [aa 0,eC (S "c")]) (e2 bH (eC (.int 2)) (eC (.int 16))))) (aB gb [aa 0,eC (S "n")]))])
def dF:List D→R D:=fn 1 (bb (jq (aB ig [aa 0]) (kF oLe oLt (eC (.int 0)) (aa 0) (e2 bH (eC (.int 2)) (eC (.int 32))))))
noncomputable def eI:List D→R D:=fn 2 (aL [b7 (tV (e2 oEq (aa 1) (eC (S "a")))) (bb (e2 oMod (e2 oDiv (aa 0) (e2 bH (eC (.int 2)) (eC (.int 22)))) (eC (.int 8)))) (cv),b7 (tV (e2 oEq (aa 1) (eC (S "b")))) (bb (e2 oMod (e2 oDiv (aa 0) (e2 bH (eC (.int 2)) (eC (.int 19)))) (eC (.int 8)))) (cv),b7 (tV (e2 oEq (aa 1) (eC (S "c")))) (bb (e2 oMod (e2 oDiv (aa 0) (e2 bH (eC (.int 2)) (eC (.int 16)))) (eC (.int 8)))) (cv),bb (e2 oMod (aa 0) (e2 bH (eC (.int 2)) (eC (.int 16))))])
noncomputable def dv:List D→R D:=fn 3 (aL [b7 (b4 (cf (tV (aB dF [aa 0]))) (tV (e2 fq (e2 oDiv (aa 0) (e2 bH (eC (.int 2)) (eC (.int 25)))) (e1 cD (eC dN))))) (bb (eC .aq)) (cv),aP (aC 1) (e2 aD (eC dN) (e2 oDiv (aa 0) (e2 bH (eC (.int 2)) (eC (.int 25))))),aP (aC 2) (e1 eE (e2 bz (bh [aa 1]) (cY (d7 (aB b9 [aa 1])) 1 [0] (aC 0) [] (aB eI [aa 1,aa 0])))),bb (fK (tV (e2 oEq (aB cU [aa 2]) (aa 0))) (aa 2) (eC .aq))])
noncomputable def gD:Sm:=b7 (cK (tV (aa 2)) (cK (tV (e2 fq (aa 0) (e2 bH (eC (.int 10)) (eC (.int 18))))) (tV (e2 fq (aa 4) (eC (.int 4294967296)))))) (aL [eS 3 (e2 oMod (aa 4) (eC (.int 4294967296))),aP (aC 4) (e2 oDiv (aa 4) (eC (.int 4294967296)))]) (aL [aP (aC 5) (e2 oMod (e2 cF (e2 bz (e2 bz (aa 5) (e2 cF (aa 6) (aa 6))) (eC (.int 1))) (eC (.int 69621))) (eC (.int 2147483647))),eS 3 (e2 aD (bh [aa 5,e2 oMod (e2 cF (aa 5) (aa 5)) (eC (.int 4294967296))]) (e2 oMod (aa 5) (eC (.int 2))))])
noncomputable def gQ:List D→R D:=fn 7 (aL [jd 3 (bh []),aP (aC 4) (e2 oDiv (aa 0) (eC (.int 16))),aP (aC 5) (e2 oMod (e2 cF (e2 bz (e2 oMod (e2 oDiv (aa 0) (eC (.int 16))) (e2 bH (eC (.int 10)) (eC (.int 30)))) (eC (.int 1))) (e2 bz (eC (.int 48271)) (e2 cF (e2 cF (eC (.int 7919)) (aa 1)) (aa 1)))) (eC (.int 2147483629))),d3 (eW (eC (.int 6))) (aC 6) gD,g6 3,bb (aa 3)])
noncomputable def fT:Sm:=aL [aP (aC 5) (e2 aD (gm [(.inr (Str.ofString "a")),(.inr (Str.ofString "b")),(.inr (Str.ofString "c")),(.inr (Str.ofString "n"))] [eC (.int 4194304),eC (.int 524288),eC (.int 65536),eC (.int 1)]) (aa 4)),eS 3 (e2 oMod (e2 oDiv (aa 0) (aa 5)) (e2 aD (bh [eC (.int 8),eC (.int 65536)]) (e1 eZ (e2 oEq (aa 4) (eC (S "n"))))))]
noncomputable def ie:List D→R D:=fn 6 (aL [aP (dn [1,2]) (e2 aD (aB fN []) (e2 oMod (e2 oMod (e2 oDiv (aa 0) (eC (.int 33554432))) (eC (.int 16))) (eC (.int 15)))),jd 3 (bh []),d3 (d7 (aa 2)) (aC 4) fT,g6 3,bb (e1 eE (e2 bz (bh [aa 1]) (aa 3)))])
noncomputable def gT:Sm:=aL [aP (aC 4) (aB fV [e2 oMod (e2 oMod (e2 aD (aa 0) (aa 3)) (eC (.int 16))) (eC (.int 15)),aB gQ [e2 aD (aa 0) (aa 3),aa 3,aa 1]]),aP (aC 5) (aB cU [aa 4]),b7 (b4 (cf (tV (aB di [aa 4]))) (b4 (cf (tV (aB dF [aa 5]))) (b4 (tV (e2 dy (aB dv [aa 5]) (aa 4))) (tV (e2 dy (iy 2 (aa 5) (aa 4)) (aa 4)))))) (bb (eC (.bl false))) (cv),j4 2 (aa 5) (aa 4),aP (aC 5) (e2 oMod (e2 aD (aa 0) (aa 3)) (eC (.int 4294967296))),aP (aC 6) (aB dv [aa 5]),b7 (cK (tV (e1 i5 (aa 6))) (tV (e2 oEq (aB cU [aB ie [aa 5]]) (aa 5)))) (bb (eC (.bl false))) (cv),b7 (cK (tV (e1 jB (aa 6))) (b4 (cf (tV (aB di [aa 6]))) (tV (e2 dy (aB cU [aa 6]) (aa 5))))) (bb (eC (.bl false))) (cv)]
noncomputable def iK:List D→R D:=fn 7 (aL [aP (aC 1) (eC (.bl true)),lU 2 (gm [] []),d3 (gh (eC (.int 1)) (e2 kc (e1 cD (aa 0)) (eC (.int 61)))) (aC 3) gT,bb (e2 oEq (gR 2) (jk 2))])
end dY
end PL
set_option maxRecDepth 1000
namespace PL
open PySem
theorem kJ{tg:bj}{body:Sm}(P:Nat→En→Prop):∀ {ds:List D} (n:Nat),(∀i d,ds[i]? =some d→∀ρ,P (n+i) ρ→∃CJ,tg d ρ=.ok CJ∧∃CY,body CJ=.ok (.next CY)∧P (n+i+1) CY)→
   ∀ {ρ:En},P n ρ→∃ρ',forL tg body ds ρ=.ok (.next ρ')∧P (n+ds.length) ρ'
 |[],n,_,ρ,h=>⟨ρ,rfl,h⟩
 | d::ds,n,hs,ρ,h=>by
   obtain⟨CJ,e1,CY,e2,h2⟩:=hs 0 d rfl ρ h
   obtain⟨ρ',e,h'⟩:=kJ (ds:=ds) P (n+1) (fun i d hd ρ hp=>by
     have:=hs (i+1) d (by simpa using hd) ρ (by rw[show n+(i+1)=n+1+i by omega];exact hp)
     rw[show n+1+i+1=n+(i+1)+1 by omega];exact this) h2
   refine⟨ρ',by simp[forL,e1,e2,e],?_⟩
   rw[List.length_cons,show n+(ds.length+1)=n+1+ds.length by omega];exact h'
theorem pR{a b:Int}{i:Nat}{d:D}(h:(bF a b)[i]? =some d):d=.int (a+i)∧(i:Int)<b - a:=by
 unfold bF at h;rw[List.getElem?_map]at h;cases e:(List.range (b - a).toNat)[i]? with
 |none=>rw[e]at h;cases h
 | some k=>
   rw[e]at h;obtain⟨Cv,hk⟩:=List.getElem?_eq_some_iff.mp e;simp at hk Cv h;subst hk;exact⟨h.symm,by omega⟩
theorem sd(a b:Int):(bF a b).length=(b - a).toNat:=by simp[bF]
theorem yy{a b:Int}{d:D}(h:d∈bF a b):∃k:Int,d=.int k∧a≤k∧k<b:=by
 unfold bF at h;obtain⟨k,hk,e⟩:=List.mem_map.mp h;have:=List.mem_range.mp hk;exact⟨a+k,e.symm,by omega,by omega⟩
theorem iP{α:Type}{xs:List α}{j:Nat}(h:j<xs.length):aZ xs (j:Int)=some xs[j]:=by
 unfold aZ dA;rw[if_pos (by omega),if_pos (by omega)]
 simp[h]
theorem nJ{α:Type}{xs:List α}{i:Int}(h0:0≤i)(h:i<xs.length):aZ xs i=some (xs[i.toNat]'(by omega)):=by
 unfold aZ dA;rw[if_pos h0,if_pos h];have:i.toNat<xs.length:=by omega
 simp[this]
theorem jD{xs:List Int}{i:Int}(h0:0≤i)(h:i<xs.length):∃x,x∈xs∧aZ (xs.map D.int) i=some (.int x):=by
 refine⟨xs[i.toNat]'(by omega),List.getElem_mem _,?_⟩
 rw[nJ h0 (by simpa using h)]
 simp
theorem qX{i:Int}(h1: -1000000<i)(h2:i<1000000):inR i=true:=by
 unfold inR;rw[decide_eq_true (show -4611686018427387904≤i by omega),decide_eq_true (show i<4611686018427387904 by omega)];rfl
theorem iL{i:Int}(h1:0≤i)(h2:i<18446744073709551616):small i=true:=by
 unfold small;rw[decide_eq_true (show -18446744073709551616<i by omega),decide_eq_true h2];rfl
theorem nW{α:Type}{a b:α}{i:Int}(h:i=0∨i=1):aZ [a,b] i=some (if i=0 then a else b):=by
 rcases h with h|h<;>subst h<;>rfl
theorem ix{c:aF}{a b:Sm}{ρ:En}(h:c ρ=.ok true):b7 c a b ρ=a ρ:=by simp[h]
theorem sj{c:aF}{a b:Sm}{ρ:En}(h:c ρ=.ok false):b7 c a b ρ=b ρ:=by simp[h]
theorem uC{c:aF}{a b:Ex}{ρ:En}(h:c ρ=.ok true):fK c a b ρ=a ρ:=by simp[h]
theorem q9{c:aF}{a b:Ex}{ρ:En}(h:c ρ=.ok false):fK c a b ρ=b ρ:=by simp[h]
theorem aQ{a:Sm}{r:List Sm}{ρ ρ':En}(h:a ρ=.ok (.next ρ')):aL (a::r) ρ=aL r ρ':=by
 show(a ρ).bind _=_;rw[h];rfl
theorem dU{a:Sm}{r:List Sm}{ρ:En}{d:D}(h:a ρ=.ok (.ret d)):aL (a::r) ρ=.ok (.ret d):=by
 show(a ρ).bind _=_;rw[h];rfl
theorem jJ{ρ:En}:aL [] ρ=.ok (.next ρ):=rfl
theorem d9{c:aF}{a:Sm}{ρ:En}(h:c ρ=.ok false):b7 c a cv ρ=.ok (.next ρ):=by simp[h]
theorem fk{n:Nat}{b:Sm}{ds:List D}{d:D}(h:b (ds.map .sh++List.replicate (n - ds.length) .un)=.ok (.ret d)):fn n b ds=.ok d:=by
 unfold fn;rw[h];rfl
theorem sY{a:Ex}{ρ:En}{L:Int}(h:a ρ=.ok (.int L))(h2:inR L=true):eW a ρ=.ok (bF 0 L):=by
 simp[h,h2]
theorem vk{a b:Ex}{ρ:En}{I L:Int}(h:a ρ=.ok (.int I))(h':b ρ=.ok (.int L))(h1:inR I=true)(h2:inR L=true):gh a b ρ=.ok (bF I L):=by
 simp[h,h',h1,h2]
end PL
set_option maxRecDepth 2000
set_option maxHeartbeats 400000
namespace PL
namespace dY
open PySem
theorem vb:gx 16=true:=by decide
theorem vz:gx 4294967296=true:=by decide
theorem qL:ib 18=true:=by decide
theorem vv:ib 30=true:=by decide
theorem xY:inR 6=true:=by decide
def Words(xs:List Int):Prop:=∀x∈xs,0≤x∧x<4294967296
theorem Words.snoc{xs:List Int}{x:Int}(h:Words xs)(h0:0≤x)(h1:x<4294967296):Words (xs++[x]):=by
 intro y hy;rcases List.mem_append.mp hy with h'|h'
 ·exact h y h'
 ·rw[List.mem_singleton.mp h'];exact⟨h0,h1⟩
theorem vd:(10:Int) ^ 30=1000000000000000000000000000000:=by decide
theorem pq:(10:Int) ^ 18=1000000000000000000:=by decide
theorem sL(dr i:Int):∃z:Int,(dr+i*i+1)*69621 % 2147483647=z∧0≤z∧z<4294967296∧small z=true∧(z % 2=0∨z % 2=1):=by
 have h0:0≤(dr+i*i+1)*69621 % 2147483647:=Int.emod_nonneg _ (by decide)
 have h1:(dr+i*i+1)*69621 % 2147483647<2147483647:=Int.emod_lt_of_pos _ (by decide)
 generalize (dr+i*i+1)*69621 % 2147483647=z at h0 h1;exact⟨z,rfl,h0,Int.lt_trans h1 (by decide),iL h0 (Int.lt_trans h1 (by decide)),by omega⟩
theorem yp(c k dg dr:Int)(f:Bool)(xs:List Int)(i:Int)(LW:0≤i)(hi:i<6)(hl:xs.length<16777216):
   ∃IW IJ x:Int,gD [.sh (.int c),.sh (.int k),.sh (.bl f),.ol (xs.map .int),.sh (.int dg),.sh (.int dr),.sh (.int i)]
     =.ok (.next [.sh (.int c),.sh (.int k),.sh (.bl f),.ol ((xs++[x]).map .int),.sh (.int IW),.sh (.int IJ),.sh (.int i)])∧0≤x∧x<4294967296:=by
 have Kx:small 10=true:=by decide
 by_cases hc:f=true∧1000000000000000000≤c∧4294967296≤dg
 · obtain⟨hf,K',GO⟩:=hc
   refine⟨dg / 4294967296,dr,dg % 4294967296,?_,Int.emod_nonneg _ (by decide),Int.emod_lt_of_pos _ (by decide)⟩
   rw[gD,ix]
   ·simp[hl,vz]
   ·simp[hf,pq,K',GO,Kx,qL]
 · obtain⟨z,hz,Lk,Nv,hsz,h2⟩:=sL dr i
   have GJ:small i=true:=iL LW (Int.lt_trans hi (by decide))
   have s6:small 69621=true:=by decide
   refine⟨dg,z,if z % 2=0 then z else z*z % 4294967296,?_,?_,?_⟩
   · rw[gD,sj]
     ·simp[hl,GJ,s6,hz,hsz,nW h2,apply_ite D.int]
     · cases f<;>simp[pq,Kx,qL]at hc ⊢
       exact hc
   · split
     ·exact Lk
     ·exact Int.emod_nonneg _ (by decide)
   · split
     ·exact Nv
     ·exact Int.emod_lt_of_pos _ (by decide)
theorem ui(c k:Int)(f:Bool)(hk:0≤k)(Dv:k≤1000):∃xs:List Int,gQ [.int c,.int k,.bl f]=.ok (.lst (xs.map .int))∧xs.length=6∧Words xs:=by
 have Dl:0≤7919*k*k∧7919*k*k≤7919000000:=by
   have h1:0≤k*k:=Int.mul_nonneg hk hk;have h2:k*k≤1000*1000:=Int.mul_le_mul Dv Dv hk (by omega)
   rw[Int.mul_assoc];omega
 have Lo:small k=true:=iL (by omega) (by omega)
 have EM:small (7919*k)=true:=iL (by omega) (by omega)
 have Cm:small (48271+7919*k*k)=true:=iL (by omega) (by omega)
 obtain⟨ρ',eL,xs,dg,dr,s6,rfl,hl,hw⟩:=kJ (tg:=aC 6) (body:=gD)
     (fun n ρ=>∃(xs:List Int) (dg dr:Int) (s6:Slot),ρ=[.sh (.int c),.sh (.int k),.sh (.bl f),.ol (xs.map .int),.sh (.int dg),.sh (.int dr),s6]∧xs.length=n∧Words xs)
     (ds:=bF 0 6) 0 (by
       intro i d hd ρ hp;obtain⟨xs,dg,dr,s6,rfl,hlen,hw⟩:=hp;obtain⟨rfl,hi⟩:=pR hd;obtain⟨IW,IJ,x,e,h0,h1⟩:=yp c k dg dr f xs (0+i) (by omega) (by omega) (by omega)
       refine⟨_,rfl,_,e,xs++[x],IW,IJ,_,rfl,by simp[hlen],hw.snoc h0 h1⟩)
     (ρ:=[.sh (.int c),.sh (.int k),.sh (.bl f),.ol [],.sh (.int (c / 16)),.sh (.int ((c / 16 % 1000000000000000000000000000000+1)*(48271+7919*k*k) % 2147483629)),.un])
     ⟨[],_,_,_,rfl,rfl,(by intro x hx;cases hx)⟩
 refine⟨xs,?_,hl,hw⟩;have s1:small 10=true:=by decide
 have s2:small 7919=true:=by decide
 simp[gQ,vd,s1,s2,Lo,EM,Cm,vb,vv,xY,eL]
abbrev Sx(x:String):Str:=Str.ofString x
noncomputable def av:List (Str×Str):=[(Sx "put",Sx "an"),(Sx "high",Sx "an"),(Sx "copy",Sx "ab"),(Sx "add",Sx "abc"),(Sx "less",Sx "abc"),(Sx "times",Sx "abc"),(Sx "cut",Sx "abc"),(Sx "rest",Sx "abc"),(Sx "under",Sx "abc"),(Sx "same",Sx "abc"),
 (Sx "load",Sx "abn"),(Sx "store",Sx "abn"),(Sx "jump",Sx "n"),(Sx "if",Sx "an"),(Sx "call",Sx "")]
def i9(p:Str×Str):D:=.tup [.str p.1,.str p.2]
theorem rL:fN []=.ok (.lst (av.map i9)):=by rfl
def most(c:Nat):Int:=if c=110 then 65536 else 8
theorem jA(c:Nat):0<most c∧most c≤65536:=by unfold most;split<;>decide
theorem lj(c d:Nat):decide ((⟨#[c]⟩:Str)=⟨#[d]⟩)=decide (c=d):=by
 by_cases h:c=d
 ·subst h;simp
 · have:¬(⟨#[c]⟩:Str)=⟨#[d]⟩:=by intro e;injection e with e;simp at e;exact h e
   rw[decide_eq_false this,decide_eq_false h]
theorem mG:Str.ofString "n"=⟨#[110]⟩:=by rfl
theorem qv(c:Nat):aZ [D.int 8,D.int 65536] (if c=110 then 1 else 0)=some (.int (most c)):=by
 unfold most;by_cases h:c=110<;>simp[h]<;>rfl
theorem d5:gx 5=true:=by decide
theorem sy{w k x4 x5 xk:Int}{xs ps:List Int}{n f:Str}{s6 s7:Slot}{c:Nat}(hf:f.length≤16777216)(hc:aZ f.cps.toList k=some c)
   (hk:aZ (xs.map D.int) k=some (.int xk)) (h4:aZ (xs.map D.int) 4=some (.int x4)) (h5:aZ (xs.map D.int) 5=some (.int x5)) (hl:ps.length<16777216):
   ∃(p:Int) (t6 t7:Slot),gA [.sh (.int w),.sh (.lst (xs.map .int)),.sh (.str n),.sh (.str f),.ol (ps.map .int),.sh (.int k),s6,s7]
     =.ok (.next [.sh (.int w),.sh (.lst (xs.map .int)),.sh (.str n),.sh (.str f),.ol ((ps++[p]).map .int),.sh (.int k),t6,t7])∧0≤p∧p<most c:=by
 have hm:=jA c
 have q1:(aP (aC 6) (e2 aD (bh [eC (.int 8),eC (.int 65536)]) (e1 eZ (e2 oEq (e2 aD (aa 3) (aa 5)) (eC (S "n"))))))
     [.sh (.int w),.sh (.lst (xs.map .int)),.sh (.str n),.sh (.str f),.ol (ps.map .int),.sh (.int k),s6,s7]
     =.ok (.next [.sh (.int w),.sh (.lst (xs.map .int)),.sh (.str n),.sh (.str f),.ol (ps.map .int),.sh (.int k),.sh (.int (most c)),s7]):=by
   simp[hf,hc,S,mG,-Str.mk.injEq,lj,qv]
 have q2:(aP (aC 7) (e2 oMod (e2 aD (aa 1) (aa 5)) (aa 6)))
     [.sh (.int w),.sh (.lst (xs.map .int)),.sh (.str n),.sh (.str f),.ol (ps.map .int),.sh (.int k),.sh (.int (most c)),s7]
     =.ok (.next [.sh (.int w),.sh (.lst (xs.map .int)),.sh (.str n),.sh (.str f),.ol (ps.map .int),.sh (.int k),.sh (.int (most c)),.sh (.int (xk % most c))]):=by
   simp[hk,hm.1]
 have q3:∃p:Int,(b7 (cK (tV (e2 oEq (e2 oMod (e2 aD (aa 1) (eC (.int 4))) (eC (.int 5))) (eC (.int 1)))) (tV (e2 oEq (aa 5) (e2 oMod (e2 aD (aa 1) (eC (.int 5))) (eC (.int 3)))))) (aP (aC 7) (e2 aD (bh [eC (.int 0),e2 jx (aa 6) (eC (.int 1))]) (e2 oMod (e2 oDiv (e2 aD (aa 1) (eC (.int 4))) (eC (.int 5))) (eC (.int 2))))) (cv))
     [.sh (.int w),.sh (.lst (xs.map .int)),.sh (.str n),.sh (.str f),.ol (ps.map .int),.sh (.int k),.sh (.int (most c)),.sh (.int (xk % most c))]
     =.ok (.next [.sh (.int w),.sh (.lst (xs.map .int)),.sh (.str n),.sh (.str f),.ol (ps.map .int),.sh (.int k),.sh (.int (most c)),.sh (.int p)])∧0≤p∧p<most c:=by
   by_cases h:x4 % 5=1∧k=x5 % 3
   · have h2:x4 / 5 % 2=0∨x4 / 5 % 2=1:=by omega
     refine⟨if x4 / 5 % 2=0 then 0 else most c - 1,?_,?_,?_⟩
     · rw[ix]
       ·simp[h4,nW h2,apply_ite D.int,d5]
       ·simp[h4,h5,h.1,h.2]
     ·split<;>omega
     ·split<;>omega
   · refine⟨xk % most c,?_,Int.emod_nonneg _ (by omega),Int.emod_lt_of_pos _ hm.1⟩
     rw[d9];simp[h4,h5];by_cases h1:x4 % 5=1
     ·simp[h1]at h ⊢;exact h
     ·simp[h1]
 obtain⟨p,q3,KN,Jo⟩:=q3;refine⟨p,.sh (.int (most c)),.sh (.int p),?_,KN,Jo⟩;rw[gA,aQ q1,aQ q2,aQ q3,aQ (ρ':=[.sh (.int w),.sh (.lst (xs.map .int)),.sh (.str n),.sh (.str f),.ol ((ps++[p]).map .int),.sh (.int k),.sh (.int (most c)),.sh (.int p)]),jJ];simp[hl]
def Good:List Nat→List Int→Prop
 |[],[]=>True
 |c::cs,p::ps=>(0≤p∧p<most c)∧Good cs ps
 |_,_=>False
theorem Good.snoc:∀ {cs:List Nat} {ps:List Int} {c:Nat} {p:Int},Good cs ps→0≤p→p<most c→Good (cs++[c]) (ps++[p])
 |[],[],_,_,_,h0,h1=>⟨⟨h0,h1⟩,trivial⟩
 |c::cs,p::ps,_,_,h,h0,h1=>⟨h.1,Good.snoc h.2 h0 h1⟩
 |[],_::_,_,_,h,_,_=>h.elim
 |_::_,[],_,_,h,_,_=>h.elim
theorem Good.length:∀ {cs:List Nat} {ps:List Int},Good cs ps→ps.length=cs.length
 |[],[],_=>rfl
 |_::_,_::_,h=>by simp[Good.length h.2]
 |[],_::_,h=>h.elim
 |_::_,[],h=>h.elim
theorem lx{n f:Str}(h:(n,f)∈av):f.length≤3∧n.length≤5:=by
 have:∀p∈av,p.2.length≤3∧p.1.length≤5:=by decide
 exact this _ h
theorem uu{w:Int}{xs:List Int}{n f:Str}(hn:aZ av w=some (n,f))(hm:(n,f)∈av)(hl:xs.length=6):
   ∃ps:List Int,fV [.int w,.lst (xs.map .int)]=.ok (.tup (.str n::ps.map .int))∧Good f.cps.toList ps:=by
 obtain⟨hf,_⟩:=lx hm;have h4:=jD (xs:=xs) (i:=4) (by decide) (by omega)
 have h5:=jD (xs:=xs) (i:=5) (by decide) (by omega)
 obtain⟨x4,_,h4⟩:=h4;obtain⟨x5,_,h5⟩:=h5
 obtain⟨ρ',eL,ps,s5,s6,s7,rfl,hg⟩:=kJ (tg:=aC 5) (body:=gA)
   (fun i ρ=>∃(ps:List Int) (s5 s6 s7:Slot),ρ=[.sh (.int w),.sh (.lst (xs.map .int)),.sh (.str n),.sh (.str f),.ol (ps.map .int),s5,s6,s7]∧Good (f.cps.toList.take i) ps)
   (ds:=bF 0 f.length) 0 (by
     intro i d hd ρ hp;obtain⟨ps,s5,s6,s7,rfl,hg⟩:=hp;obtain⟨rfl,hi⟩:=pR hd;have J8:i<f.cps.toList.length:=by simp;unfold Str.length at hi;omega
     have NG:i<3:=by omega
     obtain⟨xk,_,hk⟩:=jD (xs:=xs) (i:=0+(i:Int)) (by omega) (by omega)
     have hc:aZ f.cps.toList (0+(i:Int))=some f.cps.toList[i]:=by rw[Int.zero_add];exact iP J8
     have CU:=hg.length;rw[List.length_take]at CU;obtain⟨p,t6,t7,e,h0,h1⟩:=sy (w:=w) (n:=n) (s6:=s6) (s7:=s7) (ps:=ps) (by omega) hc hk h4 h5 (by omega)
     refine⟨_,rfl,_,e,ps++[p],_,t6,t7,rfl,?_⟩;rw[Nat.zero_add]at hg ⊢;rw[List.take_succ_eq_append_getElem J8];exact hg.snoc h0 h1)
   (ρ:=[.sh (.int w),.sh (.lst (xs.map .int)),.sh (.str n),.sh (.str f),.ol [],.un,.un,.un]) ⟨[],_,_,_,rfl,by simp[Good]⟩
 refine⟨ps,?_,?_⟩
 · have CU:=hg.length
   have hz:ps.length≤3:=by rw[CU,List.length_take];unfold Str.length at hf;simp at hf ⊢;omega
   have Nt:aZ (av.map i9) w=some (.tup [.str n,.str f]):=by
     unfold aZ at hn ⊢;rw[List.length_map];cases e:dA av.length w with
     |none=>rw[e]at hn;cases hn
     |some j=>rw[e]at hn;simp only[Option.bind_some]at hn ⊢;rw[List.getElem?_map,hn];rfl
   have DZ:f.length≤16777216:=by omega
   have Ip:inR ((f.length:Nat):Int)=true:=qX (by omega) (by omega)
   have DO:ps.length<16777216:=by omega
   have NY:1+ps.length≤16777216:=by omega
   have a1:(aP (dn [2,3]) (e2 aD (aB fN []) (aa 0))) [.sh (.int w),.sh (.lst (xs.map .int)),.un,.un,.un,.un,.un,.un]
       =.ok (.next [.sh (.int w),.sh (.lst (xs.map .int)),.sh (.str n),.sh (.str f),.un,.un,.un,.un]):=by simp[rL,Nt]
   have a3:(d3 (eW (e1 cD (aa 3))) (aC 5) gA) [.sh (.int w),.sh (.lst (xs.map .int)),.sh (.str n),.sh (.str f),.ol [],.un,.un,.un]
       =.ok (.next [.sh (.int w),.sh (.lst (xs.map .int)),.sh (.str n),.sh (.str f),.ol (ps.map .int),s5,s6,s7]):=by
     rw[←eL]
     have z:(eW (e1 cD (aa 3))) [.sh (.int w),.sh (.lst (xs.map .int)),.sh (.str n),.sh (.str f),.ol [],.un,.un,.un]=.ok (bF 0 f.length):=by
       exact sY (by simp[DZ]) Ip
     simp only[d3,z,R.aY]
   have a5:(bb (e1 eE (e2 bz (bh [aa 2]) (aa 4)))) [.sh (.int w),.sh (.lst (xs.map .int)),.sh (.str n),.sh (.str f),.sh (.lst (ps.map .int)),s5,s6,s7]
       =.ok (.ret (.tup (.str n::ps.map .int))):=by
     have z:[D.str n].length+(ps.map D.int).length≤bR:=by simp;omega
     simp only[bb,e1,e2,bh,eList,aa,List.getElem?_cons_succ,List.getElem?_cons_zero,R.aY,bz,z,if_true,eE,List.cons_append,List.nil_append]
   rw[fV];refine fk ?_;show aL _ [.sh (.int w),.sh (.lst (xs.map .int)),.un,.un,.un,.un,.un,.un]=_;rw[aQ a1,aQ (ρ':=[.sh (.int w),.sh (.lst (xs.map .int)),.sh (.str n),.sh (.str f),.ol [],.un,.un,.un]) rfl,aQ a3,aQ (ρ':=[.sh (.int w),.sh (.lst (xs.map .int)),.sh (.str n),.sh (.str f),.sh (.lst (ps.map .int)),s5,s6,s7]) rfl,dU a5]
 · have:(0+(bF 0 (f.length:Int)).length)=f.cps.toList.length:=by rw[sd];unfold Str.length;simp
   rw[this,List.take_length]at hg;exact hg
def gz(c:Nat):D→Bool
 |.int i=>decide (0≤i)&&decide (i<most c)
 |_=>false
def cX:List Nat→List D→Bool
 |[],[]=>true
 |c::cs,p::ps=>gz c p&&cX cs ps
 |_,_=>false
def cm(n:Str):List (Str×Str)→Option Str
 |[]=>none
 |p::r=>if p.1=n then some p.2 else cm n r
def iO:D→Bool
 | .tup (.str n::ps)=>match cm n av with
   |some f=>cX f.cps.toList ps
   |none=>false
 |_=>false
def nx:D→Bool
 |.bA _ _ _=>false
 |_=>true
def nr:D→Bool
 |.bA _ _ _=>false
 |.tup xs=>xs.all nx
 |_=>true
theorem lF(d:D)(hd:nx d=true:=by rfl):ig [d]=.ok (.bl (match d with|.int _=>true|_=>false)):=by
 cases d<;>first|rfl|cases hd
theorem yC(c:Nat):iQ [.str ⟨#[c]⟩]=.ok (.int (most c)):=by
 have s2:small 2=true:=by decide
 have Nk:ib 16=true:=by decide
 unfold most;by_cases h:c=110<;>simp[iQ,S,mG,-Str.mk.injEq,lj,h,s2,Nk]
theorem zB(c:Nat)(p:D)(hd:nx p=true):gn [.str ⟨#[c]⟩,p]=.ok (.bl (gz c p)):=by
 cases p with
 | int i=>
   simp[gn,lF _ hd,yC,gz];by_cases h:0≤i<;>simp[h]
 |bA _ _ _=>cases hd
 |_=>simp[gn,lF _ hd,gz]
theorem nZ:∀(cs:List Nat) (ps:List D),cs.length=ps.length→ps.all nx=true→
   ∃bs:List D,cA (dn [0,1]) [] (aB gn [aa 0,aa 1]) [.un,.un] (fE (cs.map fun c=>.str ⟨#[c]⟩) ps)=.ok bs∧allB bs=.ok (.bl (cX cs ps))
 |[],[],_,_=>⟨[],rfl,rfl⟩
 | c::cs,p::ps,h,hp=>by
   have DC:nx p=true∧ps.all nx=true:=by simpa using hp
   obtain⟨bs,e1,e2⟩:=nZ cs ps (by simpa using h) DC.2
   refine⟨.bl (gz c p)::bs,?_,?_⟩
   ·simp[cA,cA.gG,zB c p DC.1,e1]
   · simp only[allB,cX]
     cases gz c p<;>simp[e2]
 |[],_::_,h,_=>by simp at h
 |_::_,[],h,_=>by simp at h
theorem nS:∀ {cs:List Nat} {ps:List D},cs.length≠ps.length→cX cs ps=false
 |[],[],h=>absurd rfl h
 |c::cs,p::ps,h=>by simp only[cX];rw[nS (by simpa using h),Bool.and_false]
 |[],_::_,_=>rfl
 |_::_,[],_=>rfl
theorem oY(n:Str):∀l:List (Str×Str),bK (.inr n) (l.map fun p=>.inr p.1) (l.map fun p=>.str p.2)=(cm n l).map .str
 |[]=>rfl
 | p::r=>by
   simp only[List.map_cons,bK,cm];by_cases h:p.1=n
   ·simp[h]
   · have:¬(Sum.inr p.1:Ky)=Sum.inr n:=fun e=>h (Sum.inr.inj e)
     rw[if_neg this,if_neg h,oY n r]
theorem yH:kE=.aV (av.map fun p=>.inr p.1) (av.map fun p=>.str p.2):=by rfl
theorem pV(n:Str):b9 [.str n]=.ok (match cm n av with|some f=>.str f|none=>.aq):=by
 have h:=oY n av;rw[b9,yH];simp only[fn,bb,e2,eC,aa,R.aY,List.map_cons,List.map_nil,List.cons_append,List.getElem?_cons_zero,eT,keyOf,h];cases cm n av<;>rfl
theorem uJ{n f:Str}(h:cm n av=some f):f.length≤3:=by
 have key:∀l:List (Str×Str),(∀p∈l,p.2.length≤3)→cm n l=some f→f.length≤3:=by
   intro l
   induction l with
   |nil=>intro _ h;cases h
   | cons p r ih=>
     intro hl h;simp only[cm]at h;split at h
     ·cases h;exact hl p (List.mem_cons_self ..)
     ·exact ih (fun q hq=>hl q (List.mem_cons_of_mem _ hq)) h
 exact key av (by decide) h
theorem ki{α:Type}(x:α)(xs:List α):aZ (x::xs) 0=some x:=iP (xs:=x::xs) (j:=0) (by simp)
theorem qc{n d:Nat}{v:Int}(h:0≤v):aA n d (some v)=min v.toNat n:=if_neg (by omega)
theorem vG(xs:List D)(x:D):cut (x::xs) (some 1) none=xs:=by
 have h1:aA (xs.length+1) 0 (some 1)=1:=by rw[qc (by decide)];simp
 unfold cut;simp[h1,aA]
theorem Av(xs:List D)(x:D):¬(aA (x::xs).length 0 (some 1)=0∧aA (x::xs).length (x::xs).length none=(x::xs).length):=by
 have h1:aA (xs.length+1) 0 (some 1)=1:=by rw[qc (by decide)];simp
 rw[List.length_cons,h1];rintro⟨h,_⟩;cases h
theorem qJ (d:D) (hd:nr d=true):di [d]=.ok (.bl (iO d)):=by
 cases d with
 | tup xs=>
   cases xs with
   |nil=>rfl
   | cons x ps=>
     have hl:((ps.length:Int)+1==0)=false:=by rw[beq_eq_false_iff_ne];omega
     have a0:=ki x ps;have hx:nx x=true∧ps.all nx=true:=by have:List.all (x::ps) nx=true:=hd;simpa using this
     have c1:(b4 (cf (tV (e1 (dP .tuple) (aa 0)))) (b4 (tV (e2 oEq (e1 cD (aa 0)) (eC (.int 0)))) (cf (tV (e1 (dP .str) (e2 aD (aa 0) (eC (.int 0)))))))) [.sh (.tup (x::ps)),.un]=.ok (match x with|.str _=>false|_=>true):=by
       cases x<;>first|(have:=hx.1;cases this;done)|simp[ki,hl]
     cases x with
     | str n=>
       have c2:(aP (aC 1) (aB b9 [e2 aD (aa 0) (eC (.int 0))])) [.sh (.tup (.str n::ps)),.un]=.ok (.next [.sh (.tup (.str n::ps)),.sh (match cm n av with|some f=>.str f|none=>.aq)]):=by
         simp[a0,pV]
       rw[di];refine fk ?_;show aL _ [.sh (.tup (.str n::ps)),.un]=_;rw[aQ (ρ':=[.sh (.tup (.str n::ps)),.un]) (d9 c1),aQ c2];simp only[iO];cases hs:cm n av with
       |none=>rw[dU];simp
       | some f=>
         have hf:=uJ hs;have DZ:f.length≤bR:=by show _≤16777216;omega
         by_cases hlen:ps.length=f.length
         · obtain⟨bs,e1,e2⟩:=nZ f.cps.toList ps (by rw[hlen];unfold Str.length;simp) hx.2
           rw[aQ (ρ':=[.sh (.tup (.str n::ps)),.sh (.str f)]),dU (d:=.bl (cX f.cps.toList ps))]
           · have ht:=Av ps (.str n)
             simp only[bb,PL.e1,cY,j7,aa,List.getElem?_cons_succ,List.getElem?_cons_zero,R.aY,iU,jT,eC,kR];rw[if_neg ht,vG];simp only[R.aY,items,frees,List.map_nil,List.append_nil,List.replicate];have hz:(fE (f.cps.toList.map fun c=>D.str ⟨#[c]⟩) ps).length≤bR:=by rw[m4,hlen];exact Nat.le_trans (Nat.min_le_right _ _) DZ
             rw[if_pos hz,e1];simp[e2]
           · rw[d9]
             have:((ps.length:Int)+1==1+(f.length:Int))=true:=by rw[hlen];simp;omega
             simp[DZ,this]
         · rw[dU (d:=.bl false)]
           · show _=R.ok (Fl.ret (D.bl (cX f.cps.toList ps)))
             rw[nS];intro e;apply hlen;rw[←e];unfold Str.length;simp
           · have:((ps.length:Int)+1==1+(f.length:Int))=false:=by rw[beq_eq_false_iff_ne];omega
             rw[ix]
             ·rfl
             ·simp[DZ,this]
     |bA _ _ _=>have:=hx.1;cases this
     | _=>
       rw[di];refine fk ?_;show aL _ [.sh (.tup (_::ps)),.un]=_;exact dU (by rw[ix c1];rfl)
 |bA _ _ _=>cases hd
 |_=>rfl
def bp(c:Nat):Int:=if c=97 then 4194304 else if c=98 then 524288 else if c=99 then 65536 else 1
def fY(c:Nat):Prop:=c=97∨c=98∨c=99∨c=110
def val:List Nat→List Int→Int
 |c::cs,p::ps=>p*bp c+val cs ps
 |_,_=>0
theorem pT{n f:Str}(h:(n,f)∈av):∀c∈f.cps.toList,fY c:=by
 have:∀p∈av,∀c∈p.2.cps.toList,c=97∨c=98∨c=99∨c=110:=by decide+kernel
 exact this _ h
noncomputable def lV:Ex:=gm [(.inr (Str.ofString "a")),(.inr (Str.ofString "b")),(.inr (Str.ofString "c")),(.inr (Str.ofString "n"))] [eC (.int 4194304),eC (.int 524288),eC (.int 65536),eC (.int 1)]
theorem wW{c:Nat}(h:fY c):aD (.aV [(.inr (Str.ofString "a")),(.inr (Str.ofString "b")),(.inr (Str.ofString "c")),(.inr (Str.ofString "n"))] [.int 4194304,.int 524288,.int 65536,.int 1]) (.str ⟨#[c]⟩)=.ok (.int (bp c)):=by
 rcases h with rfl|rfl|rfl|rfl<;>rfl
theorem xw(ρ:En):lV ρ=.ok (.aV [(.inr (Str.ofString "a")),(.inr (Str.ofString "b")),(.inr (Str.ofString "c")),(.inr (Str.ofString "n"))] [.int 4194304,.int 524288,.int 65536,.int 1]):=rfl
theorem names_nodup:(av.map (·.1)).Nodup:=by decide+kernel
theorem wC{i:Nat}{n f:Str}(h:av[i]? =some (n,f)):aZ (av.map i9) (i:Int)=some (.tup [.str n,.str f]):=by
 obtain⟨hi,e⟩:=List.getElem?_eq_some_iff.mp h;rw[iP (by simpa using hi)]
 simp[e,i9]
theorem uc{i u:Int}(h:small u=true):cF (.int i) (.int u)=.ok (.int (i*u)):=by
 show(if _ then _ else _)=_
 rw[if_pos];rw[h];simp
theorem bV{o:D→D→R D}{a b:Ex}{ρ:En}{x y d:D}(ha:a ρ=.ok x)(hb:b ρ=.ok y)(h:o x y=.ok d):e2 o a b ρ=.ok d:=by
 show(a ρ).bind _=_;rw[ha,R.aY];show(b ρ).bind _=_;rw[hb,R.aY,h]
theorem ku{a b:Ex}{ρ:En}{i u:Int}(ha:a ρ=.ok (.int i))(hb:b ρ=.ok (.int u))(h:small u=true):e2 cF a b ρ=.ok (.int (i*u)):=bV ha hb (uc h)
theorem iH{a b:Ex}{ρ:En}{i u:Int}(ha:a ρ=.ok (.int i))(hb:b ρ=.ok (.int u)):e2 bz a b ρ=.ok (.int (i+u)):=bV ha hb rfl
theorem kD{a b:Ex}{ρ:En}{i u:Int}(ha:a ρ=.ok (.int i))(hb:b ρ=.ok (.int u))(h:gx u=true):e2 oDiv a b ρ=.ok (.int (i / u)):=bV ha hb (if_pos h)
theorem hU{a b:Ex}{ρ:En}{i u:Int}(ha:a ρ=.ok (.int i))(hb:b ρ=.ok (.int u))(h:0<u):e2 oMod a b ρ=.ok (.int (i % u)):=bV ha hb (if_pos h)
theorem cZ{i:Nat}{a:Ex}{ρ:En}{d:D}(h:a ρ=.ok d):aP (aC i) a ρ=(aC i d ρ).bind fun ρ'=>.ok (.next ρ'):=by
 show(a ρ).bind _=_;rw[h,R.aY]
def pt(w:Int)(c:Nat):Int:=w / bp c % most c
def aS(c:Nat):D:=.str ⟨#[c]⟩
theorem xt(c:Nat):gx (bp c)=true:=by unfold bp;split;decide;split;decide;split<;>decide
def gr(j:Nat)(cs:List Nat)(w:Int):Int:=j*33554432+val cs (cs.map (pt w))
def rowOf(n:Str)(cs:List Nat)(w:Int):D:=.tup (.str n::(cs.map (pt w)).map .int)
theorem yV:ib 32=true:=by decide
theorem bG:small 2=true:=by decide
theorem tE:(2:Int) ^ 32=4294967296:=by decide
theorem pY{n:Int}(h0:0≤n)(h1:n<4294967296):dF [.int n]=.ok (.bl true):=by
 have e:dF [.int n]=.ok (.bl (decide (0≤n)&&decide (n<4294967296))):=by
   simp[dF,lF (.int n) rfl,yV,bG,tE];by_cases h:0≤n<;>simp[h]
 rw[e,decide_eq_true h0,decide_eq_true h1];rfl
theorem Af{w:Int}{c:Nat}(h:fY c):eI [.int w,aS c]=.ok (.int (pt w c)):=by
 rcases h with rfl|rfl|rfl|rfl
 ·rfl
 ·rfl
 ·rfl
 · have e:eI [.int w,aS 110]=.ok (.int (w % 65536)):=rfl
   have z:pt w 110=w % 65536:=by
     show w / 1 % 65536=_;rw[Int.ediv_one]
   rw[e,z]
theorem qz{n f:Str}(h:(n,f)∈av):b9 [.str n]=.ok (.str f):=by
 have:∀p∈av,cm p.1 av=some p.2:=by decide+kernel
 rw[pV,this _ h]
theorem oh{w:Int}:∀(cs:List Nat),(∀c∈cs,fY c)→cA (aC 0) [] (aB eI [aa 1,aa 0]) [.un,.sh (.int w)] (cs.map aS)=.ok ((cs.map (pt w)).map .int)
 |[],_=>rfl
 | c::cs,h=>by
   have ih:=oh (w:=w) cs fun d hd=>h d (List.mem_cons_of_mem _ hd);have e:=Af (w:=w) (h c List.mem_cons_self);simp only[List.map_cons,cA,cA.gG,aC,R.aY,if_true,List.set_cons_zero];show((eI [.int w,aS c]).bind _)=_;rw[e,R.aY,ih];rfl
def eG(c:Nat):Nat→List Nat→Int
 |_,[]=> -1
 |k,a::cs=>if a=c then(k:Int)else eG c (k+1) cs
def bP(c:Nat):List Nat→List Int→Int
 |a::cs,p::ps=>if a=c then p else bP c cs ps
 |_,_=>0
theorem o3{c:Nat}:∀ {cs:List Nat} {ps:List Int} {k:Nat},cs.length=ps.length→(eG c k cs= -1∧bP c cs ps=0)∨∃i:Nat,eG c k cs=((k+i:Nat):Int)∧ps[i]? =some (bP c cs ps)
 |[],[],k,_=>.inl ⟨rfl,rfl⟩
 | a::cs,p::ps,k,h=>by
   by_cases ha:a=c
   ·exact .inr ⟨0,by simp[eG,ha],by simp[bP,ha]⟩
   · rcases o3 (c:=c) (k:=k+1) (cs:=cs) (ps:=ps) (by simpa using h)with⟨h1,h2⟩|⟨i,h1,h2⟩
     ·exact .inl ⟨by simp[eG,ha,h1],by simp[bP,ha,h2]⟩
     ·exact .inr ⟨i+1,by simp only[eG,ha,if_false,h1];congr 1;omega,by simpa[bP,ha] using h2⟩
 |[],_::_,_,h=>by simp at h
 |_::_,[],_,h=>by simp at h
theorem w4{n f:Str}(h:(n,f)∈av){c:Nat}(hc:fY c):Txt.find f ⟨#[c]⟩=eG c 0 f.cps.toList:=by
 have:∀p∈av,∀c∈[97,98,99,110],Txt.find p.2 ⟨#[c]⟩=eG c 0 p.2.cps.toList:=by decide+kernel
 exact this _ h c (by rcases hc with rfl|rfl|rfl|rfl<;>simp)
theorem gP{xs:List D}{i:Int}{d:D}(h:aZ xs i=some d):aD (.tup xs) (.int i)=.ok d:=by simp[h]
theorem jI{n f:Str}(h:(n,f)∈av){c:Nat}(hc:fY c){ps:List Int}(hl:f.cps.toList.length=ps.length):gb [.tup (.str n::ps.map .int),aS c]=.ok (.int (bP c f.cps.toList ps)):=by
 have a0:=ki (.str n) (ps.map D.int);generalize hT:D.tup (.str n::ps.map .int)=T
 have h0:(aB b9 [e2 aD (aa 0) (eC (.int 0))]) [.sh T,.sh (aS c),.un]=.ok (.str f):=by
   have e:(e2 aD (aa 0) (eC (.int 0))) [.sh T,.sh (aS c),.un]=.ok (.str n):=by rw[←hT];exact bV rfl rfl (gP a0)
   show(eList [e2 aD (aa 0) (eC (.int 0))] _).bind _=_
   have e':eList [e2 aD (aa 0) (eC (.int 0))] [.sh T,.sh (aS c),.un]=.ok [.str n]:=by
     show((e2 aD (aa 0) (eC (.int 0))) _).bind _=_;rw[e];rfl
   rw[e',R.aY,qz h]
 have h1:(aP (aC 2) (e2 kh (aB b9 [e2 aD (aa 0) (eC (.int 0))]) (aa 1))) [.sh T,.sh (aS c),.un]=.ok (.next [.sh T,.sh (aS c),.sh (.int (eG c 0 f.cps.toList))]):=by
   rw[cZ (bV (d:=.int (eG c 0 f.cps.toList)) h0 rfl (by rw[←w4 h hc];rfl))];rfl
 rw[gb];refine fk ?_;show aL _ [.sh T,.sh (aS c),.un]=_;rw[aQ h1];refine dU ?_;rcases o3 (c:=c) (k:=0) hl with⟨g1,g2⟩|⟨i,g1,g2⟩
 ·rw[g1,g2];rfl
 · rw[g1,Nat.zero_add]
   have c1:(tV (e2 oLt (aa 2) (eC (.int 0)))) [.sh T,.sh (aS c),.sh (.int (i:Int))]=.ok false:=by
     show(.ok (decide ((i:Int)<0)):R Bool)=_;rw[decide_eq_false (by omega)]
   have c2:(e2 aD (aa 0) (e2 bz (eC (.int 1)) (aa 2))) [.sh T,.sh (aS c),.sh (.int (i:Int))]=.ok (.int (bP c f.cps.toList ps)):=by
     obtain⟨hi,ei⟩:=List.getElem?_eq_some_iff.mp g2
     have ha:aZ (.str n::ps.map D.int) (1+(i:Int))=some (.int (bP c f.cps.toList ps)):=by
       have:(1+(i:Int))=((i+1:Nat):Int):=by omega
       rw[this,iP (by simp;omega)]
       simp[ei]
     rw[←hT];exact bV rfl (iH rfl rfl) (gP ha)
   show((fK _ _ _) _).bind _=_;rw[q9 c1,c2];rfl
theorem vV{n f:Str}(h:(n,f)∈av){ps:List Int}(hl:f.cps.toList.length=ps.length)(b:Int):
   b+bP 97 f.cps.toList ps*4194304+bP 98 f.cps.toList ps*524288+(bP 99 f.cps.toList ps*65536)+bP 110 f.cps.toList ps=b+val f.cps.toList ps:=by
 have:∀p∈av,p.2.cps.toList=[97,110]∨p.2.cps.toList=[97,98]∨p.2.cps.toList=[97,98,99]∨p.2.cps.toList=[97,98,110]∨p.2.cps.toList=[110]∨p.2.cps.toList=[]:=by decide+kernel
 have h:=this _ h;simp only at h;rcases h with h|h|h|h|h|h<;>rw[h]at hl ⊢
 · match ps,hl with
   |[a,b],_=>simp[bP,val,bp];omega
 · match ps,hl with
   |[a,b],_=>simp[bP,val,bp];omega
 · match ps,hl with
   |[a,b,c],_=>simp[bP,val,bp];omega
 · match ps,hl with
   |[a,b,c],_=>simp[bP,val,bp];omega
 · match ps,hl with
   |[a],_=>simp[bP,val,bp]
 · match ps,hl with
   |[],_=>simp[bP,val]
theorem nV:∀(l:List (Str×Str)) (k j:Nat) (n f:Str),(l.map (·.1)).Nodup→l[j]? =some (n,f)→dW (.str n) k (l.map fun p=>.str p.1)=.ok (.int ((k+j:Nat):Int))
 |[],_,_,_,_,_,h=>by simp at h
 | p::l,k,0,n,f,_,h=>by
   simp at h;subst h;simp[dW]
 | p::l,k,j+1,n,f,hn,h=>by
   rw[List.map_cons,List.nodup_cons]at hn;have B5:¬p.1=n:=fun e=>hn.1 (by rw[e];exact List.mem_map.mpr ⟨(n,f),List.mem_of_getElem? (by simpa using h),rfl⟩)
   have ih:=nV l (k+1) j n f hn.2 (by simpa using h)
   simp only[List.map_cons,dW,bo,decide_eq_true_eq,B5,if_false];rw[ih];congr 3;omega
theorem qg:dN=.tup (av.map fun p=>.str p.1):=by rfl
theorem Good.parts:∀ {cs:List Nat} {ps:List Int},Good cs ps→cX cs (ps.map .int)=true
 |[],[],_=>rfl
 | c::cs,p::ps,h=>by
   simp only[List.map_cons,cX,gz];rw[decide_eq_true h.1.1,decide_eq_true h.1.2,Good.parts h.2];rfl
 |[],_::_,h=>h.elim
 |_::_,[],h=>h.elim
theorem mH(w:Int):∀cs:List Nat,Good cs (cs.map (pt w))
 |[]=>True.intro
 |c::cs=>⟨⟨Int.emod_nonneg _ (by have:=(jA c).1;omega),Int.emod_lt_of_pos _ (jA c).1⟩,mH w cs⟩
theorem cL{f:List D→R D}{a:Ex}{ρ:En}{x d:D}(ha:a ρ=.ok x)(h:f [x]=.ok d):aB f [a] ρ=.ok d:=by
 show(eList [a] ρ).bind f=_;have:eList [a] ρ=.ok [x]:=by show(a ρ).bind _=_;rw[ha];rfl
 rw[this,R.aY,h]
theorem jf{f:List D→R D}{a b:Ex}{ρ:En}{x y d:D}(ha:a ρ=.ok x)(hb:b ρ=.ok y)(h:f [x,y]=.ok d):aB f [a,b] ρ=.ok d:=by
 show(eList [a,b] ρ).bind f=_
 have:eList [a,b] ρ=.ok [x,y]:=by
   show(a ρ).bind _=_;rw[ha,R.aY];show((b ρ).bind _).bind _=_;rw[hb];rfl
 rw[this,R.aY,h]
theorem cx{a:Ex}{ρ:En}{b:Bool}(ha:a ρ=.ok (.bl b)):tV a ρ=.ok b:=by
 show(a ρ).bind _=_;rw[ha];rfl
theorem iA{t:aF}{ρ:En}{b:Bool}(h:t ρ=.ok b):cf t ρ=.ok (!b):=by
 show(t ρ).bind _=_;rw[h];rfl
theorem iM{t u:aF}{ρ:En}{b c:Bool}(h:t ρ=.ok b)(h':u ρ=.ok c):b4 t u ρ=.ok (b||c):=by
 show(t ρ).bind _=_;rw[h,R.aY];cases b
 ·exact h'
 ·rfl
theorem jz{a:Ex}{ρ:En}{d:D}(h:a ρ=.ok d):bb a ρ=.ok (.ret d):=by
 show(a ρ).bind _=_;rw[h];rfl
theorem pO(n:Str)(ps:List Int):nr (.tup (.str n::ps.map .int))=true:=by
 show(nx (.str n)&&List.all (ps.map D.int) nx)=true;rw[List.all_map,show nx (.str n)=true from rfl,Bool.true_and,List.all_eq_true];exact fun _ _=>rfl
theorem rf{j:Nat}{n f:Str}(hj:av[j]? =some (n,f)){ps:List Int}(hg:Good f.cps.toList ps):cU [.tup (.str n::ps.map .int)]=.ok (.int (j*33554432+val f.cps.toList ps)):=by
 have hm:(n,f)∈av:=List.mem_of_getElem? hj;have hl:f.cps.toList.length=ps.length:=hg.length.symm
 have hr:di [.tup (.str n::ps.map .int)]=.ok (.bl true):=by
   have:∀p∈av,cm p.1 av=some p.2:=by decide+kernel
   rw[qJ _ (pO n ps)];have e:iO (.tup (.str n::ps.map .int))=(match cm n av with|some f=>cX f.cps.toList (ps.map .int)|none=>false):=rfl
   rw[e,this _ hm];show R.ok (D.bl (cX f.cps.toList (ps.map .int)))=_;rw[hg.parts]
 have ha:=jI hm (c:=97) (.inl rfl) hl;have hb:=jI hm (c:=98) (.inr (.inl rfl)) hl;have hc:=jI hm (c:=99) (.inr (.inr (.inl rfl))) hl;have hn:=jI hm (c:=110) (.inr (.inr (.inr rfl))) hl;have a0:=ki (.str n) (ps.map D.int)
 have hi:ky dN (.str n)=.ok (.int j):=by
   rw[qg];show(if flat (.str n)=true∧(av.map fun p=>D.str p.1).all flat=true then dW (.str n) 0 (av.map fun p=>D.str p.1)else R.bad)=_
   rw[if_pos ⟨rfl,by rfl⟩,nV av 0 j n f names_nodup hj,Nat.zero_add]
 generalize hT:D.tup (.str n::ps.map .int)=T at*;have h0:(e2 aD (aa 0) (eC (.int 0))) [.sh T,.un]=.ok (.str n):=by rw[←hT];exact bV rfl rfl (gP a0)
 rw[←vV hm hl];generalize KS:(j:Int)*33554432=b;rw[cU];refine fk ?_;show aL _ [.sh T,.un]=_;rw[aQ (ρ':=[.sh T,.un]) (d9 (iA (cx (cL rfl hr))))]
 rw[aQ (ρ':=[.sh T,.sh (.int b)]) (by
   rw[cZ (d:=.int b) (by rw[←KS];exact ku (bV rfl h0 hi) (show(e2 bH (eC (.int 2)) (eC (.int 25))) _=.ok (.int 33554432)from rfl) (by decide))];rfl)]
 rw[aQ (ρ':=[.sh T,.sh (.int (b+bP 97 f.cps.toList ps*4194304+bP 98 f.cps.toList ps*524288))]) (by
   rw[cZ (iH (iH (i:=b) rfl (ku (jf (y:=aS 97) rfl rfl ha) (show(e2 bH (eC (.int 2)) (eC (.int 22))) _=.ok (.int 4194304)from rfl) (by decide))) (ku (jf (y:=aS 98) rfl rfl hb) (show(e2 bH (eC (.int 2)) (eC (.int 19))) _=.ok (.int 524288)from rfl) (by decide)))];rfl)]
 exact dU (jz (iH (iH rfl (ku (jf (y:=aS 99) rfl rfl hc) (show(e2 bH (eC (.int 2)) (eC (.int 16))) _=.ok (.int 65536)from rfl) (by decide))) (jf (y:=aS 110) rfl rfl hn)))
theorem oU{w:Int}(h0:0≤w)(h1:w<4294967296):(b4 (cf (tV (aB dF [aa 0]))) (tV (e2 fq (e2 oDiv (aa 0) (e2 bH (eC (.int 2)) (eC (.int 25)))) (e1 cD (eC dN))))) [.sh (.int w),.un,.un]=.ok (decide (15≤w / 33554432)):=by
 have e:=iM (iA (cx (cL (f:=dF) (a:=aa 0) (ρ:=[.sh (.int w),.un,.un]) rfl (pY h0 h1)))) (cx (bV (o:=fq) (kD (a:=aa 0) (b:=e2 bH (eC (.int 2)) (eC (.int 25))) (u:=33554432) rfl rfl (by decide)) (show(e1 cD (eC dN)) [.sh (.int w),.un,.un]=.ok (.int 15)from rfl) rfl))
 exact e
theorem wF{w:Int}(h0:0≤w)(h1:w<4294967296)(h:14<w / 33554432):dv [.int w]=.ok .aq:=by
 rw[dv];refine fk ?_;show aL _ [.sh (.int w),.un,.un]=_;refine dU ?_;rw[ix (by rw[oU h0 h1,decide_eq_true (by omega)])]
 rfl
theorem nX{w:Int}{j:Nat}{n f:Str}(h0:0≤w)(h1:w<4294967296)(hj:av[j]? =some (n,f))(hk:w / 33554432=j):dv [.int w]=.ok (if gr j f.cps.toList w=w then rowOf n f.cps.toList w else .aq):=by
 obtain⟨FI,_⟩:=List.getElem?_eq_some_iff.mp hj;have FI:j<15:=FI;have hm:(n,f)∈av:=List.mem_of_getElem? hj;obtain⟨Ip,Mp⟩:=lx hm;have DZ:f.length≤16777216:=by omega
 have GZ:f.length=f.cps.toList.length:=by unfold Str.length;simp
 have hc:=rf hj (mH w f.cps.toList)
 have hn:aZ (av.map fun p=>D.str p.1) (j:Int)=some (.str n):=by
   obtain⟨hi,e⟩:=List.getElem?_eq_some_iff.mp hj;rw[iP (by simpa using hi)]
   simp[e]
 rw[dv];refine fk ?_;show aL _ [.sh (.int w),.un,.un]=_;rw[aQ (ρ':=[.sh (.int w),.un,.un]) (d9 (by rw[oU h0 h1,decide_eq_false (by omega)]))]
 have q1:(e2 aD (eC dN) (e2 oDiv (aa 0) (e2 bH (eC (.int 2)) (eC (.int 25))))) [.sh (.int w),.un,.un]=.ok (.str n):=by
   rw[qg];exact bV rfl (kD (u:=33554432) rfl rfl (by decide)) (by rw[hk];exact gP hn)
 rw[aQ (ρ':=[.sh (.int w),.sh (.str n),.un]) (by rw[cZ q1];rfl)]
 have q2:(cY (d7 (aB b9 [aa 1])) 1 [0] (aC 0) [] (aB eI [aa 1,aa 0])) [.sh (.int w),.sh (.str n),.un]=.ok (.lst ((f.cps.toList.map (pt w)).map .int)):=by
   have z:(d7 (aB b9 [aa 1])) [.sh (.int w),.sh (.str n),.un]=.ok (f.cps.toList.map aS):=by
     show((aB b9 [aa 1]) _).bind _=_;rw[cL (x:=.str n) rfl (qz hm),R.aY];simp[items,DZ,aS]
   have hz:(f.cps.toList.map aS).length≤bR:=by show _≤16777216;rw[List.length_map];omega
   have e:=oh (w:=w) f.cps.toList (pT hm);show((d7 (aB b9 [aa 1])) _).bind _=_;rw[z,R.aY,if_pos hz];show(cA (aC 0) [] (aB eI [aa 1,aa 0]) [.un,.sh (.int w)] _).bind _=_;rw[e];rfl
 have q3:(e1 eE (e2 bz (bh [aa 1]) (cY (d7 (aB b9 [aa 1])) 1 [0] (aC 0) [] (aB eI [aa 1,aa 0])))) [.sh (.int w),.sh (.str n),.un]=.ok (rowOf n f.cps.toList w):=by
   have z:[D.str n].length+((f.cps.toList.map (pt w)).map D.int).length≤bR:=by show 1+_≤16777216;rw[List.length_map,List.length_map];omega
   have e:=bV (o:=bz) (a:=bh [aa 1]) (x:=.lst [.str n]) (d:=.lst (.str n::(f.cps.toList.map (pt w)).map .int)) rfl q2 (by show(if _ then _ else _)=_;rw[if_pos z];rfl)
   show((e2 bz _ _) _).bind _=_;rw[e];rfl
 rw[aQ (ρ':=[.sh (.int w),.sh (.str n),.sh (rowOf n f.cps.toList w)]) (by rw[cZ q3];rfl)]
 have c:(tV (e2 oEq (aB cU [aa 2]) (aa 0))) [.sh (.int w),.sh (.str n),.sh (rowOf n f.cps.toList w)]=.ok (decide (gr j f.cps.toList w=w)):=by
   refine cx (bV (x:=.int (gr j f.cps.toList w)) (y:=.int w) (cL rfl hc) rfl ?_);unfold oEq;rw[o9,if_pos rfl];rfl
 refine dU (jz ?_);by_cases hv:gr j f.cps.toList w=w
 ·rw[if_pos hv,uC (by rw[c,decide_eq_true hv])];rfl
 ·rw[if_neg hv,q9 (by rw[c,decide_eq_false hv])];rfl
theorem uL:∀ws:List Int,eP (ws.map D.int) (ws.map D.int)=true
 |[]=>rfl
 |w::ws=>by show((w==w)&&eP (ws.map D.int) (ws.map D.int))=true;rw[uL ws,beq_self_eq_true];rfl
theorem qW:∀ws:List Int,cg (ws.map D.int)=true
 |[]=>rfl
 |w::ws=>by show(true&&cg (ws.map D.int))=true;rw[qW ws];rfl
theorem p5:∀ws:List Int,fX (ws.map D.int)=0
 |[]=>rfl
 |w::ws=>by show max 0 (fX (ws.map D.int))=0;rw[p5 ws];rfl
theorem vW{n f:Str}(h:(n,f)∈av):lay (.str n)=true:=by
 have:∀p∈av,(p.1.cps.all (· <0x110000))=true:=by decide+kernel
 exact this _ h
theorem oo{n f:Str}(h:(n,f)∈av){ps:List Int}(hg:Good f.cps.toList ps):0≤val f.cps.toList ps∧val f.cps.toList ps<33554432:=by
 have:∀p∈av,p.2.cps.toList=[97,110]∨p.2.cps.toList=[97,98]∨p.2.cps.toList=[97,98,99]∨p.2.cps.toList=[97,98,110]∨p.2.cps.toList=[110]∨p.2.cps.toList=[]:=by decide+kernel
 have h:=this _ h;simp only at h;have hl:=hg.length;rcases h with h|h|h|h|h|h<;>rw[h]at hl hg ⊢
 · match ps,hl,hg with
   |[a,b],_,hg=>simp[Good,most]at hg;simp[val,bp];omega
 · match ps,hl,hg with
   |[a,b],_,hg=>simp[Good,most]at hg;simp[val,bp];omega
 · match ps,hl,hg with
   |[a,b,c],_,hg=>simp[Good,most]at hg;simp[val,bp];omega
 · match ps,hl,hg with
   |[a,b,c],_,hg=>simp[Good,most]at hg;simp[val,bp];omega
 · match ps,hl,hg with
   |[a],_,hg=>simp[Good,most]at hg;simp[val,bp];omega
 · match ps,hl,hg with
   |[],_,hg=>simp[val]
theorem yN(w:Int)(h0:0≤w)(h1:w<15){xs:List Int}(hl:xs.length=6):
   ∃(j:Nat) (n f:Str) (ps:List Int),av[j]? =some (n,f)∧fV [.int w,.lst (xs.map .int)]=.ok (.tup (.str n::ps.map .int))∧Good f.cps.toList ps:=by
 have ha:=nJ (xs:=av) h0 (by simpa[av] using h1)
 have hg:av[w.toNat]? =some (av[w.toNat]'(by simp[av];omega)):=List.getElem?_eq_getElem _
 have hm:av[w.toNat]'(by simp[av];omega)∈av:=List.getElem_mem _
 generalize av[w.toNat]'(by simp[av];omega)=p at ha hm hg
 obtain⟨n,f⟩:=p;obtain⟨ps,e,g⟩:=uu ha hm hl;exact⟨w.toNat,n,f,ps,hg,e,g⟩
theorem uS{n f:Str}(h:(n,f)∈av){ps:List Int}(hg:Good f.cps.toList ps)(j:Nat):f.cps.toList.map (pt ((j:Int)*33554432+val f.cps.toList ps))=ps:=by
 have:∀p∈av,p.2.cps.toList=[97,110]∨p.2.cps.toList=[97,98]∨p.2.cps.toList=[97,98,99]∨p.2.cps.toList=[97,98,110]∨p.2.cps.toList=[110]∨p.2.cps.toList=[]:=by decide+kernel
 have h:=this _ h;simp only at h;have hl:=hg.length;rcases h with h|h|h|h|h|h<;>rw[h]at hl hg ⊢
 · match ps,hl,hg with
   |[a,b],_,hg=>simp[Good,most]at hg;simp[val,bp,pt,most];omega
 · match ps,hl,hg with
   |[a,b],_,hg=>simp[Good,most]at hg;simp[val,bp,pt,most];omega
 · match ps,hl,hg with
   |[a,b,c],_,hg=>simp[Good,most]at hg;simp[val,bp,pt,most];omega
 · match ps,hl,hg with
   |[a,b,c],_,hg=>simp[Good,most]at hg;simp[val,bp,pt,most];omega
 · match ps,hl,hg with
   |[a],_,hg=>simp[Good,most]at hg;simp[val,bp,pt,most];omega
 · match ps,hl,hg with
   |[],_,hg=>simp
structure Row(r:D)(v:Int):Prop where
 ex:∃(j:Nat) (n f:Str) (ps:List Int),av[j]? =some (n,f)∧r=.tup (.str n::ps.map .int)∧Good f.cps.toList ps∧v=(j:Int)*33554432+val f.cps.toList ps
theorem oI{j:Nat}{n f:Str}(hj:av[j]? =some (n,f)):j<15:=(List.getElem?_eq_some_iff.mp hj).1
theorem Row.bd{r:D}{v:Int}(h:Row r v):0≤v∧v<503316480:=by
 obtain⟨j,n,f,ps,hj,_,hg,rfl⟩:=h.ex;have h1:=oo (List.mem_of_getElem? hj) hg;have h2:=oI hj;omega
theorem Row.coded{r:D}{v:Int}(h:Row r v):cU [r]=.ok (.int v):=by
 obtain⟨j,n,f,ps,hj,rfl,hg,rfl⟩:=h.ex;exact rf hj hg
theorem Row.rO{r:D}{v:Int}(h:Row r v):di [r]=.ok (.bl true):=by
 obtain⟨j,n,f,ps,hj,rfl,hg,rfl⟩:=h.ex;have hm:=List.mem_of_getElem? hj
 have hs:cm n av=some f:=by
   have:∀p∈av,cm p.1 av=some p.2:=by decide+kernel
   exact this _ hm
 rw[qJ _ (pO n ps)]
 have:iO (.tup (.str n::ps.map .int))=true:=by
   unfold iO;simp only[hs];exact hg.parts
 rw[this]
theorem Row.decoded{r:D}{v:Int}(h:Row r v):dv [.int v]=.ok r:=by
 have hb:=h.bd;obtain⟨j,n,f,ps,hj,rfl,hg,rfl⟩:=h.ex;have hm:=List.mem_of_getElem? hj;have h1:=oo hm hg;have h2:=oI hj;have hp:=uS hm hg j;rw[nX (by omega) (by omega) hj (by omega)]
 unfold gr rowOf;rw[hp,if_pos rfl]
theorem Row.inj{r r':D}{v:Int}(h:Row r v)(h':Row r' v):r=r':=by
 have:=h.decoded.symm.trans h'.decoded;injection this
theorem Row.tM{r:D}{v v':Int}(h:Row r v)(h':Row r v'):v=v':=by
 have:=h.coded.symm.trans h'.coded;injection this with this;injection this
theorem jM{w:Int}{j:Nat}{n f:Str}(hj:av[j]? =some (n,f)):Row (rowOf n f.cps.toList w) (gr j f.cps.toList w):=⟨j,n,f,_,hj,rfl,mH w _,rfl⟩
theorem sx{w:Int}{y z:D}{xs:List D}{s5:Slot}{c:Nat}(hl:fY c)(hx:xs.length<16777216):
   fT [.sh (.int w),.sh y,.sh z,.ol xs,.sh (aS c),s5]=.ok (.next [.sh (.int w),.sh y,.sh z,.ol (xs++[.int (pt w c)]),.sh (aS c),.sh (.int (bp c))]):=by
 have q1:(aP (aC 5) (e2 aD lV (aa 4))) [.sh (.int w),.sh y,.sh z,.ol xs,.sh (aS c),s5]=.ok (.next [.sh (.int w),.sh y,.sh z,.ol xs,.sh (aS c),.sh (.int (bp c))]):=by
   rw[cZ (bV (xw _) rfl (wW hl))];rfl
 have hm:(e2 aD (bh [eC (.int 8),eC (.int 65536)]) (e1 eZ (e2 oEq (aa 4) (eC (S "n"))))) [.sh (.int w),.sh y,.sh z,.ol xs,.sh (aS c),.sh (.int (bp c))]=.ok (.int (most c)):=by
   simp[aS,S,mG,-Str.mk.injEq,lj,qv]
 have hp:(e2 oMod (e2 oDiv (aa 0) (aa 5)) (e2 aD (bh [eC (.int 8),eC (.int 65536)]) (e1 eZ (e2 oEq (aa 4) (eC (S "n")))))) [.sh (.int w),.sh y,.sh z,.ol xs,.sh (aS c),.sh (.int (bp c))]=.ok (.int (pt w c)):=
   hU (kD rfl rfl (xt c)) hm (jA c).1
 show aL [aP (aC 5) (e2 aD lV (aa 4)),eS 3 (e2 oMod (e2 oDiv (aa 0) (aa 5)) (e2 aD (bh [eC (.int 8),eC (.int 65536)]) (e1 eZ (e2 oEq (aa 4) (eC (S "n"))))))] _=_;rw[aQ q1]
 have q2:(eS 3 (e2 oMod (e2 oDiv (aa 0) (aa 5)) (e2 aD (bh [eC (.int 8),eC (.int 65536)]) (e1 eZ (e2 oEq (aa 4) (eC (S "n"))))))) [.sh (.int w),.sh y,.sh z,.ol xs,.sh (aS c),.sh (.int (bp c))]=.ok (.next [.sh (.int w),.sh y,.sh z,.ol (xs++[.int (pt w c)]),.sh (aS c),.sh (.int (bp c))]):=by
   unfold eS;rw[hp,R.aY];show(if xs.length<bR then _ else _)=_
   rw[if_pos hx];rfl
 rw[aQ q2,jJ]
theorem pK{w:Int}{y z:D}:∀(cs:List Nat) (xs:List D) (s4 s5:Slot),(∀c∈cs,fY c)→xs.length+cs.length<16777216→
   ∃t4 t5,forL (aC 4) fT (cs.map aS) [.sh (.int w),.sh y,.sh z,.ol xs,s4,s5]=.ok (.next [.sh (.int w),.sh y,.sh z,.ol (xs++(cs.map (pt w)).map .int),t4,t5])
 |[],xs,s4,s5,_,_=>⟨s4,s5,by simp[forL]⟩
 | c::cs,xs,s4,s5,hl,hx=>by
   rw[List.length_cons]at hx;obtain⟨t4,t5,ih⟩:=pK (w:=w) (y:=y) (z:=z) cs (xs++[.int (pt w c)]) (.sh (aS c)) (.sh (.int (bp c))) (fun d hd=>hl d (List.mem_cons_of_mem _ hd)) (by simp;omega)
   refine⟨t4,t5,?_⟩;have e:=sx (w:=w) (y:=y) (z:=z) (s5:=s5) (hl c List.mem_cons_self) (xs:=xs) (by omega)
   have e2:forL (aC 4) fT ((c::cs).map aS) [.sh (.int w),.sh y,.sh z,.ol xs,s4,s5]=forL (aC 4) fT (cs.map aS) [.sh (.int w),.sh y,.sh z,.ol (xs++[.int (pt w c)]),.sh (aS c),.sh (.int (bp c))]:=by
     rw[List.map_cons,forL];show(fT [.sh (.int w),.sh y,.sh z,.ol xs,.sh (aS c),s5]).bind _=_;rw[e];rfl
   rw[e2,ih];simp
theorem rN{w:Int}{j:Nat}{n f:Str}(hj:av[j]? =some (n,f))(hk:w / 33554432 % 16 % 15=j):ie [.int w]=.ok (rowOf n f.cps.toList w):=by
 have hm:(n,f)∈av:=List.mem_of_getElem? hj;obtain⟨Ip,Mp⟩:=lx hm;have DZ:f.length≤16777216:=by omega
 have GZ:f.length=f.cps.toList.length:=by unfold Str.length;simp
 obtain⟨t4,t5,hL⟩:=pK (w:=w) (y:=.str n) (z:=.str f) f.cps.toList [] .un .un (pT hm) (by rw[List.length_nil];omega)
 have qi:(e2 oMod (e2 oMod (e2 oDiv (aa 0) (eC (.int 33554432))) (eC (.int 16))) (eC (.int 15))) [.sh (.int w),.un,.un,.un,.un,.un]=.ok (.int j):=by
   rw[←hk];exact hU (hU (kD rfl rfl (by decide)) rfl (by decide)) rfl (by decide)
 have q0:(e2 aD (aB fN []) (e2 oMod (e2 oMod (e2 oDiv (aa 0) (eC (.int 33554432))) (eC (.int 16))) (eC (.int 15)))) [.sh (.int w),.un,.un,.un,.un,.un]=.ok (.tup [.str n,.str f]):=
   bV (x:=.lst (av.map i9)) rL qi (by simp[wC hj])
 rw[ie];refine fk ?_;show aL _ [.sh (.int w),.un,.un,.un,.un,.un]=_
 rw[aQ (ρ':=[.sh (.int w),.sh (.str n),.sh (.str f),.un,.un,.un]) (by
   show((e2 aD _ _) _).bind _=_;rw[q0];rfl)]
 rw[aQ (ρ':=[.sh (.int w),.sh (.str n),.sh (.str f),.ol [],.un,.un]) rfl];have z:(d7 (aa 2)) [.sh (.int w),.sh (.str n),.sh (.str f),.ol [],.un,.un]=.ok (f.cps.toList.map aS):=by simp[DZ,aS]
 rw[aQ (by simp only[d3,z,R.aY];exact hL)]
 rw[List.nil_append];rw[aQ (ρ':=[.sh (.int w),.sh (.str n),.sh (.str f),.sh (.lst ((f.cps.toList.map (pt w)).map .int)),t4,t5]) rfl]
 have q:(e1 eE (e2 bz (bh [aa 1]) (aa 3))) [.sh (.int w),.sh (.str n),.sh (.str f),.sh (.lst ((f.cps.toList.map (pt w)).map .int)),t4,t5]=.ok (rowOf n f.cps.toList w):=by
   have z:[D.str n].length+((f.cps.toList.map (pt w)).map D.int).length≤bR:=by show 1+_≤16777216;rw[List.length_map,List.length_map];omega
   simp only[e1,e2,bh,eList,aa,List.getElem?_cons_succ,List.getElem?_cons_zero,R.aY,bz,z,if_true,eE,List.cons_append,List.nil_append,rowOf]
 exact dU (jz q)
theorem nM{j:Nat}(h:j<15):∃n f,av[j]? =some (n,f):=⟨(av[j]'h).1,(av[j]'h).2,List.getElem?_eq_getElem h⟩
theorem t8{w:Int}(h0:0≤w)(h1:w<4294967296):(∃r,dv [.int w]=.ok r∧Row r w)∨(dv [.int w]=.ok .aq∧∃r v,ie [.int w]=.ok r∧Row r v∧v≠w):=by
 by_cases hb:14<w / 33554432
 · obtain⟨n,f,hj⟩:=nM (j:=(w / 33554432 % 16 % 15).toNat) (by omega)
   refine .inr ⟨wF h0 h1 hb,_,_,rN hj (by omega),jM hj,fun e=>?_⟩
   have:=(jM (w:=w) hj).bd;omega
 · obtain⟨n,f,hj⟩:=nM (j:=(w / 33554432).toNat) (by omega)
   have hd:=nX h0 h1 hj (by omega)
   by_cases hv:gr (w / 33554432).toNat f.cps.toList w=w
   · rw[if_pos hv]at hd
     refine .inl ⟨_,hd,?_⟩;have:=jM (w:=w) hj;rw[hv]at this;exact this
   · rw[if_neg hv]at hd
     exact .inr ⟨hd,_,_,rN hj (by omega),jM hj,hv⟩
end dY
end PL
set_option maxRecDepth 100000
namespace PL
open PySem PySem.Spec
open L2 (V Hp HO Cx PE PT PW PA PS bu PG b5 VK TE TT TA TS TI TG Inv RelV Vals Rd aO aT upd ae Key XK Ends aH dh aW R2 EP It Turn bM)
structure XE(X:Cx)(e:Expr)(f:Ex):Prop where
 out:JE X e f
structure XF(X:Cx)(e:Expr)(f:Ex):Prop where
 out:JF X e f
structure XT(X:Cx)(e:Expr)(f:aF):Prop where
 out:JT X e f
structure XW(X:Cx)(e:Expr)(f:aF):Prop where
 out:JW X e f
structure XA(X:Cx)(e:List Expr)(f:En→R (List D)):Prop where
 out:JA X e f
structure XO(X:Cx)(e:Option Expr)(f:Option Ex):Prop where
 out:JO X e f
structure XS(X:Cx)(e:Stmt)(f:Sm):Prop where
 out:JS X e f
structure eA(X:Cx)(e:List Stmt)(f:Sm):Prop where
 out:cS X e f
structure XG(X:Cx)(e:Expr)(f:bj):Prop where
 out:JG X e f
structure jW(X:Cx)(e:List Expr)(f:List D→En→R En):Prop where
 out:iD X e f
structure qk(X:Cx)(e:List Expr)(f:List aF):Prop where
 out:iJ X e f
structure XP(X:Cx)(pos:Pos)(keys:List (Option Expr))(values:List Expr)(ks:List Ky)(fs:List Ex):Prop where
 out:JP X pos keys values ks fs
structure XI(X:Cx)(tg e:Expr)(f:bg):Prop where
 out:JI X tg e f
theorem af{X:L2.Cx}{pos:Pos}(i:Nat){x:Str}(hN:X.N[i]? =some x:=by rfl)(hv:L2.cz X.env.scope x:=by first|exact Or.inl rfl|exact Or.inr (Or.inl rfl)|exact Or.inr (Or.inr rfl))(hd:(x==("__debug__":Str))=false:=by decide)(Cs:(x==("__classdict__":Str))=false:=by decide):XE X (.Name x pos) (aa i):=⟨sN i hN hv hd Cs⟩
theorem aj{X:L2.Cx}{pos:Pos}{i:Int}{j:Nat}:XE X (.Constant (.int i) j pos) (eC (.int i)):=⟨ud ⟩
theorem hZ{X:L2.Cx}{pos:Pos}{b:Bool}{j:Nat}:XE X (.Constant (.bool b) j pos) (eC (.bl b)):=⟨xZ ⟩
theorem oF{X:L2.Cx}{pos:Pos}{j:Nat}:XE X (.Constant .none j pos) (eC .aq):=⟨z5 ⟩
theorem aR{X:L2.Cx}{pos:Pos}{x:Str}{j:Nat}:XE X (.Constant (.str x) j pos) (eC (.str x)):=⟨yZ ⟩
theorem aw{X:L2.Cx}{pos:Pos}{op:Operator}{g:D→D→R D}{r:R2}{a b:Expr}{fa fb:Ex}(ho:aH X (binaryOp op) r)(hg:bC (ai X) g r)(ha:XE X a fa)(hb:XE X b fb):XE X (.BinOp a op b pos) (e2 g fa fb):=⟨uA ho hg ha.out hb.out⟩
theorem my{X:L2.Cx}{pos:Pos}{op:CmpOp}{g:D→D→R D}{r:R2}{a b:Expr}{fa fb:Ex}(ho:aH X (compareOp op) r)(hg:bC (ai X) g r)(ha:XE X a fa)(hb:XE X b fb)(hm:behindInMarks op b=false:=by exact L2.nv _):XE X (.Compare a [op] [b] pos) (e2 g fa fb):=⟨tW ho hg ha.out hb.out hm⟩
theorem mh{X:L2.Cx}{pos:Pos}{op:BoolOp}{a:Expr}{fa:Ex}(h:XE X a fa):XE X (.BoolOp op [a] pos) fa:=⟨zU h.out⟩
theorem mE{X:L2.Cx}{pos:Pos}{a b:Expr}{rest:List Expr}{fa fb:Ex}(ha:XE X a fa)(hb:XE X (.BoolOp .And (b::rest) pos) fb):XE X (.BoolOp .And (a::b::rest) pos) (jq fa fb):=⟨yR ha.out hb.out⟩
theorem pS{X:L2.Cx}{pos:Pos}{op DS:CmpOp}{g g':D→D→R D}{r r':R2}{a b c:Expr}{fa fb fc:Ex}(ho:aH X (compareOp op) r)(C9:aH X (compareOp DS) r')(hg:bC (ai X) g r)(Ie:bC (ai X) g' r')(ha:XE X a fa)(hb:XE X b fb)(hc:XE X c fc)(hm:lastMarks [op,DS] [b,c]=false:=by with_unfolding_all rfl):XE X (.Compare a [op,DS] [b,c] pos) (kF g g' fa fb fc):=⟨sC ho C9 hg Ie ha.out hb.out hc.out hm⟩
theorem gc{X:L2.Cx}{a:Expr}{fa:Ex}(ha:XE X a fa)(he:∀whole,isTrue a X.env whole=(do let v ←whole;standAt a.pos;holding [v] (truthy v)):=by exact vn (by rfl)):XT X a (tV fa):=⟨si ha.out he⟩
theorem ck{X:L2.Cx}{pos:Pos}{op:CmpOp}{g:D→D→R D}{r:R2}{a b:Expr}{fa fb:Ex}(ho:aH X (compareOp op) r)(hg:bC (ai X) g r)(hB:gZ g)(ha:XE X a fa)(hb:XE X b fb)(hm:behindInMarks op b=false:=by exact L2.nv _):XT X (.Compare a [op] [b] pos) (tV (e2 g fa fb)):=⟨zL ho hg hB ha.out hb.out hm⟩
theorem qm{X:L2.Cx}{pos:Pos}{j:Nat}{p2:Pos}{a:Expr}{fa:Ex}(ha:XE X a fa):XT X (.Compare a [.Is] [.Constant .none j p2] pos) (tV (e1 i5 fa)):=⟨y0 ha.out⟩
theorem uk{X:L2.Cx}{pos:Pos}{j:Nat}{p2:Pos}{a:Expr}{fa:Ex}(ha:XE X a fa):XT X (.Compare a [.IsNot] [.Constant .none j p2] pos) (tV (e1 jB fa)):=⟨tT ha.out⟩
theorem gd{X:L2.Cx}{pos:Pos}{a:Expr}{c:aF}(ha:XT X a c):XT X (.UnaryOp .Not a pos) (cf c):=⟨y4 ha.out⟩
theorem j3{X:L2.Cx}{pos:Pos}{a:Expr}{c:aF}(ha:XT X a c):XW X (.BoolOp .And [a] pos) c:=⟨v5 ha.out⟩
theorem iG{X:L2.Cx}{pos:Pos}{a:Expr}{c:aF}(ha:XT X a c):XW X (.BoolOp .Or [a] pos) c:=⟨so ha.out⟩
theorem iV{X:L2.Cx}{pos:Pos}{a b:Expr}{rest:List Expr}{c c':aF}(ha:XT X a c)(hb:XW X (.BoolOp .And (b::rest) pos) c'):XW X (.BoolOp .And (a::b::rest) pos) (cK c c'):=⟨uE ha.out hb.out⟩
theorem fF{X:L2.Cx}{pos:Pos}{a b:Expr}{rest:List Expr}{c c':aF}(ha:XT X a c)(hb:XW X (.BoolOp .Or (b::rest) pos) c'):XW X (.BoolOp .Or (a::b::rest) pos) (b4 c c'):=⟨wX ha.out hb.out⟩
theorem fg{X:L2.Cx}{e:Expr}{c:aF}(h:XW X e c):XT X e c:=⟨wA h.out⟩
theorem AD{X:L2.Cx}{pos:Pos}{a:Expr}{fa:Ex}(ha:XE X a fa):XE X (.UnaryOp .Not a pos) (e1 iN fa):=⟨wd ha.out⟩
theorem kK{X:L2.Cx}{pos:Pos}{c a b:Expr}{fc:aF}{fa fb:Ex}(hc:XT X c fc)(ha:XE X a fa)(hb:XE X b fb):XE X (.IfExp c a b pos) (fK fc fa fb):=⟨uD hc.out ha.out hb.out⟩
theorem aI{X:L2.Cx}:XA X [] (eList []):=⟨fS ⟩
theorem ar{X:L2.Cx}{e:Expr}{es:List Expr}{f:Ex}{fs:List Ex}(ha:XE X e f)(hr:XA X es (eList fs))(hs:starEach (e::es) X.env=(false,eval e X.env)::starEach es X.env:=by exact bf (by rfl)):XA X (e::es) (eList (f::fs)):=⟨dJ ha.out hr.out hs⟩
theorem fm{X:L2.Cx}{pos:Pos}{es:List Expr}{fs:List Ex}{k:Nat}(h:XA X es (eList fs))(hl:fs.length≤1000:=by decide):XE X (.Tuple es k pos) (dQ fs):=⟨yu h.out hl⟩
theorem eK{X:L2.Cx}{pos:Pos}{es:List Expr}{fs:List Ex}(h:XA X es (eList fs))(hl:fs.length≤1000:=by decide):XE X (.List es pos) (bh fs):=⟨x9 h.out hl⟩
theorem yL{X:L2.Cx}:XO X none none:=⟨xo ⟩
theorem ue{X:L2.Cx}{e:Expr}{f:Ex}(h:XE X e f):XO X (some e) (some f):=⟨yb h.out⟩
theorem yQ{X:L2.Cx}{pos:Pos}{a:Expr}{lo hi:Option Expr}{fa:Ex}{fl fh:Option Ex}{p2:Pos}(ha:XE X a fa)(hl:XO X lo fl)(hh:XO X hi fh):XE X (.Subscript a (.Slice lo hi none p2) pos) (iU fa fl fh):=⟨vT ha.out hl.out hh.out⟩
theorem gF{X:L2.Cx}{pos:Pos}{g:D→R D}{r:List V→Hp→VK→Prop}{x:Str}{id:String}{a:Expr}{fa:Ex}{p:Pos}(hc:aW X (.builtin id) r)(hg:de (ai X) (g1 g) r)(hm:X.mg x=none)(hv:bootBuiltins x=some (.builtin id))(ha:XE X a fa)(DR:L2.Gl X x:=by rfl)(hs:starEach [a] X.env=(false,eval a X.env)::starEach [] X.env:=by exact bf (by rfl))(hn:x≠"__name__":=by decide)(CI:(x==("__debug__":Str))=false:=by decide):XE X (.Call (.Name x p) [a] [] pos) (e1 g fa):=⟨vD hc hg DR hm hv ha.out hs hn CI⟩
theorem A0{X:L2.Cx}{pos:Pos}{g:D→D→R D}{r:List V→Hp→VK→Prop}{x:Str}{id:String}{a b:Expr}{fa fb:Ex}{p:Pos}(hc:aW X (.builtin id) r)(hg:de (ai X) (g2 g) r)(hm:X.mg x=none)(hv:bootBuiltins x=some (.builtin id))(ha:XE X a fa)(hb:XE X b fb)(DR:L2.Gl X x:=by rfl)(hs:starEach [a,b] X.env=(false,eval a X.env)::starEach [b] X.env:=by exact bf (by rfl))(Cm:starEach [b] X.env=(false,eval b X.env)::starEach [] X.env:=by exact bf (by rfl))(hn:x≠"__name__":=by decide)(CI:(x==("__debug__":Str))=false:=by decide):XE X (.Call (.Name x p) [a,b] [] pos) (e2 g fa fb):=⟨ze hc hg DR hm hv ha.out hb.out hs Cm hn CI⟩
theorem i0{X:L2.Cx}{pos:Pos}{g:D→R D}{r:List V→Hp→VK→Prop}{x:Str}{T:String}{a:Expr}{fa:Ex}{p:Pos}(hc:aW X (.type T) r)(hg:de (ai X) (g1 g) r)(hm:X.mg x=none)(hv:bootBuiltins x=some (.type T))(ha:XE X a fa)(DR:L2.Gl X x:=by rfl)(hs:starEach [a] X.env=(false,eval a X.env)::starEach [] X.env:=by exact bf (by rfl))(hn:x≠"__name__":=by decide)(CI:(x==("__debug__":Str))=false:=by decide):XE X (.Call (.Name x p) [a] [] pos) (e1 g fa):=⟨xi hc hg DR hm hv ha.out hs hn CI⟩
theorem jR{X:L2.Cx}{pos:Pos}(ty:Ty){a:Expr}{fa:Ex}{p p2:Pos}{T:Str}(ha:XE X a fa)(hm:X.mg "isinstance"=none)(G2:X.mg T=none)(Ic:bootBuiltins T=some (.type (ji ty)))(hg:L2.Gl X "isinstance":=by rfl)(Ha:L2.Gl X T:=by rfl)(hs:starEach [a,.Name T p2] X.env=(false,eval a X.env)::starEach [.Name T p2] X.env:=by exact bf (by rfl))(Cm:starEach [.Name T p2] X.env=(false,eval (.Name T p2) X.env)::starEach [] X.env:=by exact bf (by rfl))(Ho:T≠"__name__":=by decide)(Hv:(T==("__debug__":Str))=false:=by decide):XE X (.Call (.Name "isinstance" p) [a,.Name T p2] [] pos) (e1 (dP ty) fa):=⟨xP ty ha.out hg hm Ha G2 Ic hs Cm Ho Hv⟩
theorem cB{X:L2.Cx}:eA X [] (aL []):=⟨nE ⟩
theorem dE{X:L2.Cx}:eA X [] cv:=⟨vE ⟩
theorem aG{X:L2.Cx}{st:Stmt}{rest:List Stmt}{f:Sm}{fs:List Sm}(h1:XS X st f)(h2:eA X rest (aL fs)):eA X (st::rest) (aL (f::fs)):=⟨xN h1.out h2.out⟩
theorem cj{X:L2.Cx}{st:Stmt}{f:Sm}(h:XS X st f):eA X [st] f:=⟨u9 h.out⟩
theorem dk{X:L2.Cx}{pos:Pos}{c:Expr}{a b:List Stmt}{fc:aF}{fa fb:Sm}(hc:XT X c fc)(ha:eA X a fa)(hb:eA X b fb):XS X (.If c a b pos) (b7 fc fa fb):=⟨uq hc.out ha.out hb.out⟩
theorem bB{X:L2.Cx}{pos:Pos}{a:Expr}{fa:Ex}(ha:XE X a fa):XS X (.Return (some a) pos) (bb fa):=⟨AY ha.out⟩
theorem Am{X:L2.Cx}{st:Stmt}:XS X st lI:=⟨zq ⟩
theorem aX{X:L2.Cx}{pos:Pos}(i:Nat){x:Str}(hN:X.N.Nodup)(hi:X.N[i]? =some x:=by rfl)(hx:L2.Loc X.env.scope x:=by exact Or.inl rfl)(hf:X.fn x=true∨X.env.scope.names.lookup x=some .local:=by first|exact .inl rfl|exact .inr rfl):XG X (.Name x pos) (aC i):=⟨xB i hN hi hx hf⟩
theorem mi{X:L2.Cx}:jW X [] (cq []):=⟨tS ⟩
theorem gX{X:L2.Cx}(i:Nat){is:List Nat}{e:Expr}{es:List Expr}(h1:XG X e (aC i))(h2:jW X es (cq is))(hs:(assignEach (e::es) X.env).map (·.2)=assign e X.env::(assignEach es X.env).map (·.2):=by exact qH (by rfl)):jW X (e::es) (cq (i::is)):=⟨wz i h1.out h2.out hs⟩
theorem lq{X:L2.Cx}{pos:Pos}{is:List Nat}{es:List Expr}{k:Nat}(h:jW X es (cq is))(hn:(assignEach es X.env).length=is.length)(hc:X.calm=true:=by rfl)(D5:(assignEach es X.env).findIdx? (·.1)=none:=by exact rD (by rfl)):XG X (.Tuple es k pos) (dn is):=⟨vq hc h.out hn D5⟩
theorem bI{X:L2.Cx}{pos:Pos}{tg e:Expr}{fa:Ex}{g:bj}(ha:XE X e fa)(hg:XG X tg g)(hs:swapsWithSole [tg] e pos.line X.env=pure false:=by exact tQ (by rfl))(hw:swappedStores [tg] e X.env=pure none:=by first|exact vI (by rfl)|exact uU (by rfl))(h1:(assignEach [tg] X.env).map (·.2)=[assign tg X.env]:=by exact qH (by rfl)):XS X (.Assign [tg] e pos) (aP g fa):=⟨xl ha.out hg.out hs hw h1⟩
theorem jS{X:L2.Cx}{pos:Pos}{tg iter:Expr}{body:List Stmt}{it:bg}{g:bj}{f:Sm}(hi:XI X tg iter it)(hg:XG X tg g)(hb:eA X body f)(hp:PassesOwn (model X.prog X.w) X.A X.env X.xe:=by exact PassesOwn.never)(hc:X.calm=true:=by exact rfl)(hs:∀x,foldedSetIterable iter X.env x=pure x:=by exact nA (by rfl)):XS X (.For tg iter body [] pos) (d3 it g f):=⟨zX hp hc hi.out hg.out hb.out hs⟩
theorem oy{X:L2.Cx}{pos:Pos}{tg a:Expr}{fa:Ex}{p:Pos}(hm:X.mg "range"=none)(ha:XE X a fa)(hg:L2.Gl X "range":=by rfl)(hs:starEach [a] X.env=(false,eval a X.env)::starEach [] X.env:=by exact bf (by rfl)):XI X tg (.Call (.Name "range" p) [a] [] pos) (eW fa):=⟨wU hg hm ha.out hs⟩
theorem vO{X:L2.Cx}{pos:Pos}{tg a b:Expr}{fa fb:Ex}{p:Pos}(hm:X.mg "range"=none)(ha:XE X a fa)(hb:XE X b fb)(hg:L2.Gl X "range":=by rfl)(hs:starEach [a,b] X.env=(false,eval a X.env)::starEach [b] X.env:=by exact bf (by rfl))(Cm:starEach [b] X.env=(false,eval b X.env)::starEach [] X.env:=by exact bf (by rfl)):XI X tg (.Call (.Name "range" p) [a,b] [] pos) (gh fa fb):=⟨xG hg hm ha.out hb.out hs Cm⟩
theorem mI{X:L2.Cx}(i:Nat){rest:List Stmt}{fs:List Sm}(h:eA X rest (aL fs)):eA X rest (aL (g6 i::fs)):=⟨wc i h.out⟩
theorem m5{X:L2.Cx}{pos:Pos}{es:List Expr}{fs:List Ex}(h:XA X es (eList fs))(hl:fs.length≤1000:=by decide):XF X (.List es pos) (bh fs):=⟨zH h.out hl⟩
theorem ly{X:L2.Cx}{pos:Pos}(i:Nat){x:Str}{e:Expr}{f:Ex}{p2:Pos}(hN:X.N.Nodup)(he:XF X e f)(hi:X.N[i]? =some x:=by rfl)(hx:L2.Loc X.env.scope x:=by exact Or.inl rfl)(hf:X.fn x=true∨X.env.scope.names.lookup x=some .local:=by exact .inl rfl)(hs:swapsWith e (some (.Name x p2)) pos.line X.env=pure false:=by exact jc (by rfl)):XS X (.Assign [.Name x p2] e pos) (jd i f):=⟨yY i hN he.out hi hx hf hs⟩
theorem ka{X:L2.Cx}{pos:Pos}(i:Nat){x:Str}{e:Expr}{f:Ex}{p2 apos A':Pos}(he:XE X e f)(hN:X.N[i]? =some x:=by rfl)(hv:L2.cz X.env.scope x:=by exact Or.inl rfl)(hd:(x==("__debug__":Str))=false:=by decide)(Cs:(x==("__classdict__":Str))=false:=by decide)(CH:attributeBase (.Name x p2) "append" X.env (eval (.Name x p2) X.env)=eval (.Name x p2) X.env:=by exact js)(DU:((backTo A' (starEach [e] X.env)).all (fun x=> !x.1)&&(backToKw A' (keywordEach [] X.env)).all (fun x=>x.1.isSome)&&decide (([e]:List Expr).length+([]:List Keyword).length+(if([]:List Keyword).isEmpty then 0 else 1)<30))=true:=by exact mM (by rfl) (by decide))(CG:(apos.endLine==A'.line)=true:=by rfl)(hs:starEach [e] X.env=(false,eval e X.env)::starEach [] X.env:=by exact bf (by rfl))(IS:swapsWith (.Call (.Attribute (.Name x p2) "append" apos) [e] [] A') none pos.line X.env=pure false:=by exact jc (by rfl)):XS X (.Expr (.Call (.Attribute (.Name x p2) "append" apos) [e] [] A') pos) (eS i f):=⟨Aq i he.out hN hv hd Cs CH DU CG hs IS⟩
theorem bw{X:L2.Cx}{pos:Pos}{x:Str}{k j n:Nat}{m:List D→R D}{e:Expr}{es:List Expr}{fs:List Ex}{p:Pos}(d:Df X.prog X.w X.K X.mg X.base x k n m)(hr:L2.br j X.A)(ha:XA X (e::es) (eList fs))(hg:L2.Gl X x:=by rfl)(hk:k≤j:=by decide)(hn:fs.length=n:=by rfl)(CI:(x==("__debug__":Str))=false:=by decide)(he:starEach (e::es) X.env=(false,eval e X.env)::starEach es X.env:=by exact bf (by rfl))(CU:(backTo pos (starEach es X.env)).any (·.1)=false:=by exact oX (by rfl)):XE X (.Call (.Name x p) (e::es) [] pos) (aB m fs):=⟨xV d hr hg ha.out hk hn CI he CU⟩
theorem o4{X:L2.Cx}{pos:Pos}{x:Str}{k j:Nat}{m:List D→R D}{p:Pos}(d:Df X.prog X.w X.K X.mg X.base x k 0 m)(hr:L2.br j X.A)(hg:L2.Gl X x:=by rfl)(hk:k≤j:=by decide)(CI:(x==("__debug__":Str))=false:=by decide):XE X (.Call (.Name x p) [] [] pos) (aB m []):=⟨uM d hr hg hk CI⟩
theorem lp{X:L2.Cx}{tg l:Expr}{fa:Ex}(ha:XE X l fa):XI X tg l (d7 fa):=⟨AU ha.out⟩
theorem kH{X:Cx}{pos:Pos}{x:Str}{d:D}(g:gE X.prog X.w X.K X.mg x d)(hg:L2.Gl X x:=by rfl)(hd:(x==("__debug__":Str))=false:=by decide):XE X (.Name x pos) (eC d):=⟨uP g hg hd⟩
theorem bN{X:L2.Cx}{pos:Pos}{a b:Expr}{fa fb:Ex}(ha:XE X a fa)(hb:XE X b fb)(hs:L2.j2 b:=by exact tH (by rfl)):XE X (.Subscript a b pos) (e2 aD fa fb):=⟨yc ha.out hb.out hs⟩
theorem zw{X:L2.Cx}{o e:Expr}{fo fe:Ex}{apos A':Pos}(ho:XE X o fo)(he:XE X e fe)(m:L2.M1 X o "get" apos e A':=by exact lG js (by rfl) (by rfl)):XE X (.Call (.Attribute o "get" apos) [e] [] A') (e2 (eT .aq) fo fe):=⟨zA ho.out he.out m⟩
theorem uv{X:L2.Cx}{pos:Pos}{elts:List Expr}{k:Nat}{tp:Pos}{a b:Expr}{fa fb:Ex}{p:Pos}(hm:X.mg "zip"=none)(ha:XE X a fa)(hb:XE X b fb)(hg:L2.Gl X "zip":=by rfl)(hs:starEach [a,b] X.env=(false,eval a X.env)::starEach [b] X.env:=by exact bf (by rfl))(Cm:starEach [b] X.env=(false,eval b X.env)::starEach [] X.env:=by exact bf (by rfl)):XI X (.Tuple elts k tp) (.Call (.Name "zip" p) [a,b] [] pos) (j7 fa fb):=⟨xJ hg hm ha.out hb.out hs Cm⟩
theorem uO{X:L2.Cx}{o e:Expr}{fo fe:Ex}{apos A':Pos}(ho:XE X o fo)(he:XE X e fe)(m:L2.M1 X o "find" apos e A':=by exact lG yr (by rfl) (by rfl)):XE X (.Call (.Attribute o "find" apos) [e] [] A') (e2 kh fo fe):=⟨tw ho.out he.out m⟩
theorem zx{X:L2.Cx}{pos:Pos}:XP X pos [] [] [] []:=⟨sE ⟩
theorem jw{X:L2.Cx}{pos:Pos}{k v:Expr}{z:Str}{f:Ex}{keys:List (Option Expr)}{values:List Expr}{ks:List Ky}{fs:List Ex}(hk:XE X k (eC (.str z)))(hv:XE X v f)(hr:XP X pos keys values ks fs):XP X pos (some k::keys) (v::values) (.inr z::ks) (f::fs):=⟨vP hk.out hv.out hr.out⟩
theorem wm{X:L2.Cx}{pos:Pos}{keys:List (Option Expr)}{values:List Expr}{ks:List Ky}{fs:List Ex}(h:XP X pos keys values ks fs)(CV:keys.all (·.isSome)=true:=by rfl)(hl:keys.length=values.length:=by rfl)(h0:keys≠[]:=by simp)(Gs:keys.length≤15:=by decide)(hk:ks.length=fs.length:=by rfl)(Fn:ks.length≤15:=by decide)(hn:ks.Nodup:=by decide+kernel):XE X (.Dict keys values pos) (gm ks fs):=⟨AR h.out CV hl h0 Gs hk Fn hn⟩
theorem xy{X:L2.Cx}{x:Str}{c:D}{D9:Pos}{e:Expr}{fe:Ex}{apos A':Pos}(g:ik X.prog X.w X.K X.mg x c)(he:XE X e fe)(hg:L2.Gl X x:=by rfl)(hd:(x==("__debug__":Str))=false:=by decide)(m:L2.M1 X (.Name x D9) "index" apos e A':=by exact lG js (by rfl) (by rfl)):XE X (.Call (.Attribute (.Name x D9) "index" apos) [e] [] A') (e2 ky (eC c) fe):=⟨yg g hg hd he.out m⟩
theorem A3{X:L2.Cx}{pos:Pos}(i:Nat){x:Str}{p1 p2:Pos}(hN:X.N.Nodup)(hi:X.N[i]? =some x:=by rfl)(hx:L2.Loc X.env.scope x:=by exact Or.inl rfl)(hf:X.fn x=true∨X.env.scope.names.lookup x=some .local:=by exact .inl rfl)(hs:swapsWith (.Dict [] [] p1) (some (.Name x p2)) pos.line X.env=pure false:=by exact jc (by rfl)):XS X (.Assign [.Name x p2] (.Dict [] [] p1) pos) (lU i (gm [] [])):=⟨zS i hN hi hx hf hs⟩
theorem tJ{X:L2.Cx}{pos:Pos}(i:Nat){x:Str}{e k:Expr}{f g:Ex}{p2 p3:Pos}(hu:X.A.units+64<cLine)(hk:XE X k g)(he:XE X e f)(hN:X.N[i]? =some x:=by rfl)(hv:L2.cz X.env.scope x:=by exact Or.inl rfl)(hd:(x==("__debug__":Str))=false:=by decide)(Cs:(x==("__classdict__":Str))=false:=by decide)(hs:swapsWith e (some (.Subscript (.Name x p2) k p3)) pos.line X.env=pure false:=by exact jc (by rfl)):XS X (.Assign [.Subscript (.Name x p2) k p3] e pos) (j4 i g f):=⟨zF i hu hk.out he.out hN hv hd Cs hs⟩
theorem uw{X:L2.Cx}{pos:Pos}(i:Nat){x:Str}{p p2:Pos}(hm:X.mg "len"=none)(hg:L2.Gl X "len":=by rfl)(hN:X.N[i]? =some x:=by rfl)(hv:L2.cz X.env.scope x:=by exact Or.inl rfl)(hd:(x==("__debug__":Str))=false:=by decide)(Cs:(x==("__classdict__":Str))=false:=by decide)(hs:starEach [.Name x p2] X.env=(false,eval (.Name x p2) X.env)::starEach [] X.env:=by exact bf (by rfl)):XE X (.Call (.Name "len" p) [.Name x p2] [] pos) (jk i):=⟨zi i hg hm hN hv hd Cs hs⟩
theorem xc{X:L2.Cx}{pos:Pos}(i:Nat){x:Str}{p p2 p3 p4 CZ CN apos A':Pos}(hu:X.A.units+64<cLine)(hm:X.mg "len"=none)(Ey:X.mg "set"=none)(G6:X.mg "list"=none)(hc:X.calm=true:=by rfl)(hg:L2.Gl X "len":=by rfl)(Iu:L2.Gl X "set":=by rfl)(HQ:L2.Gl X "list":=by rfl)(hN:X.N[i]? =some x:=by rfl)(hv:L2.cz X.env.scope x:=by exact Or.inl rfl)(hd:(x==("__debug__":Str))=false:=by decide)(Cs:(x==("__classdict__":Str))=false:=by decide)(CH:attributeBase (.Name x p4) "values" X.env (eval (.Name x p4) X.env)=eval (.Name x p4) X.env:=by exact js)(CG:(apos.endLine==A'.line)=true:=by rfl)(EM:starEach [.Call (.Name "set" p2) [.Call (.Name "list" p3) [.Call (.Attribute (.Name x p4) "values" apos) [] [] A'] [] CN] [] CZ] X.env=(false,eval (.Call (.Name "set" p2) [.Call (.Name "list" p3) [.Call (.Attribute (.Name x p4) "values" apos) [] [] A'] [] CN] [] CZ) X.env)::starEach [] X.env:=by exact bf (by rfl))(Cm:starEach [.Call (.Name "list" p3) [.Call (.Attribute (.Name x p4) "values" apos) [] [] A'] [] CN] X.env=(false,eval (.Call (.Name "list" p3) [.Call (.Attribute (.Name x p4) "values" apos) [] [] A'] [] CN) X.env)::starEach [] X.env:=by exact bf (by rfl))(Gv:starEach [.Call (.Attribute (.Name x p4) "values" apos) [] [] A'] X.env=(false,eval (.Call (.Attribute (.Name x p4) "values" apos) [] [] A') X.env)::starEach [] X.env:=by exact bf (by rfl)):XE X (.Call (.Name "len" p) [.Call (.Name "set" p2) [.Call (.Name "list" p3) [.Call (.Attribute (.Name x p4) "values" apos) [] [] A'] [] CN] [] CZ] [] pos) (gR i):=⟨yE i hu hc hg hm Iu Ey HQ G6 hN hv hd Cs CH CG EM Cm Gv⟩
theorem sM{X:L2.Cx}(i:Nat){x:Str}{e f:Expr}{fe ff:Ex}{p2 apos A':Pos}(he:XE X e fe)(hf:XE X f ff)(hN:X.N[i]? =some x:=by rfl)(hv:L2.cz X.env.scope x:=by exact Or.inl rfl)(hd:(x==("__debug__":Str))=false:=by decide)(Cs:(x==("__classdict__":Str))=false:=by decide)(m:L2.M2 X (.Name x p2) "get" apos e f A':=by exact uh js (by rfl) (by rfl) (by rfl)):XE X (.Call (.Attribute (.Name x p2) "get" apos) [e,f] [] A') (iy i fe ff):=⟨sR i he.out hf.out hN hv hd Cs m⟩
theorem mU{X:L2.Cx}{pos:Pos}(tn:List Str)(fv:List Str)(Cq:List Nat){elt iter target:Expr}{ifs:List Expr}{scope:Scope}{it:bg}{tg:bj}{cs:List aF}{el:Ex}(ok:jl X scope tn fv Cq)(hi:XI X target iter it)(ht:∀cl C s H fp,XG (cT X scope cl C (tn++fv) s H fp) target tg)(Ei:∀cl C s H fp,qk (cT X scope cl C (tn++fv) s H fp) ifs cs)(E6:∀cl C s H fp,XE (cT X scope cl C (tn++fv) s H fp) elt el)(Eg:∀e s,¬X.xe e s:=by exact fun _ _ h=>h)(hc:X.calm=true:=by rfl)(low:gO tn.length tg:=by first|exact sZ (by decide)|exact tX (by decide))(hs:∀x,foldedSetIterable iter X.env x=pure x:=by exact nA (by rfl)):XF X (.ListComp elt [⟨target,iter,ifs,0⟩] scope pos) (cY it tn.length Cq tg cs el):=
 ⟨sf tn fv Cq Eg hc ok hi.out low (fun cl C s H fp=>(ht cl C s H fp).out) (fun cl C s H fp=>(Ei cl C s H fp).out) (fun cl C s H fp=>(E6 cl C s H fp).out) hs⟩
theorem lT{X:L2.Cx}{e:Expr}{it:bg}{n:Nat}{fv:List Nat}{tg:bj}{cs:List aF}{el:Ex}(h:XF X e (cY it n fv tg cs el)):XE X e (cY it n fv tg cs el):=⟨ve h.out ux⟩
theorem kY{X:L2.Cx}:qk X [] []:=⟨.nil⟩
end PL
namespace PL
namespace dY
open PySem PySem.Spec
open L2 (Hp XK)
section
variable{P:Program}{w:World}{K:PySem.W.Frag}{mg:Str→Option Value}{base:Heap}{f:Addr}{fd:FuncData}
def top(i:Nat):Stmt:=PySem.Challenge.pw_underfloor_k06_whole_rows_and_words.main.body.getD i (.Pass ⟨0,0,0,0⟩)
abbrev gu:Stmt:=top 21
theorem sV:L2.bT ["_law_three","_law_forms_here"] [] (L2.aJ gu):=⟨rfl,rfl,rfl,by decide+kernel,rfl,by decide+kernel,by decide+kernel⟩
theorem vt(Fu:L2.bJ K "_law_forms" "_law_forms" gu f fd)(hm:mg "_law_forms"=some (.ref f)):Df P w K mg base "_law_forms" 1 0 fN:=by
 have sc:=sV;refine cC (k:=0) Fu hm sc (Fu.binds (ps:=[]) fun _ _ _ _ _ _ us hl=>match us,hl with|[],_=>rfl) (fun Cj A outer s H E hr=>?_)
 exact((aG (bI (eK (ar aR (ar aR (ar aR (ar aR (ar aR (ar aR (ar aR aI)))))))) (aX 0 sc.nd)) (aG (bI (aw cb cy (eK (ar (fm (ar aR (ar aR aI))) (ar (fm (ar aR (ar aR aI))) (ar (fm (ar aR (ar aR aI))) aI)))) (lT (mU ["_law_name"] [] [] (mY (L2.aJ gu) ["_law_three","_law_forms_here"] (by rfl) (by rfl) (by decide+kernel)) (lp (af 0)) (fun cl C s H fp=>by exact(aX 0 (show List.Nodup (["_law_name"]:List Str)from by decide+kernel))) (fun cl C s H fp=>by exact kY) (fun cl C s H fp=>by exact(fm (ar (af 0) (ar aR aI))))))) (aX 1 sc.nd)) (aG (bB (aw cb cy (af 1) (eK (ar (fm (ar aR (ar aR aI))) (ar (fm (ar aR (ar aR aI))) (ar (fm (ar aR (ar aR aI))) (ar (fm (ar aR (ar aR aI))) (ar (fm (ar aR (ar aR aI))) aI)))))))) cB)))).out
abbrev gU:Stmt:=top 22
theorem vw:L2.bT ["_law_way","_law_draws_here","_law_name","_law_form","_law_parts","_law_k","_law_most","_law_part"] ["_law_way","_law_draws_here"] (L2.aJ gU):=⟨rfl,rfl,rfl,by decide+kernel,rfl,by decide+kernel,by decide+kernel⟩
theorem wG(Fu:L2.bJ K "_law_row" "_law_row" gU f fd)(hm:mg "_law_row"=some (.ref f))(Co:mg "int"=none)(B':mg "len"=none)(Cb:mg "range"=none)(B8:mg "tuple"=none)(B9:Df P w K mg base "_law_forms" 1 0 fN):Df P w K mg base "_law_row" 2 2 fV:=by
 have sc:=vw;refine cC (k:=1) Fu hm sc (Fu.binds (ps:=["_law_way","_law_draws_here"]) fun _ _ _ _ _ _ us hl=>match us,hl with|[_,_],_=>rfl) (fun Cj A outer s H E hr=>?_)
 exact((aG (bI (bN (o4 B9 hr) (af 0)) (lq (gX 2 (aX 2 sc.nd) (gX 3 (aX 3 sc.nd) mi)) ko)) (aG (ly 4 sc.nd (m5 aI)) (aG (jS (f:=gA) (oy Cb (gF g9 g8 B' fI (af 3))) (aX 5 sc.nd) (by delta gA;exact(aG (bI (bN (eK (ar aj (ar aj aI))) (i0 L2.nU pF Co lA (my (du hr.units) dj (bN (af 3) (af 5)) aR))) (aX 6 sc.nd)) (aG (bI (aw L2.bZ bW (bN (af 1) (af 5)) (af 6)) (aX 7 sc.nd)) (aG (dk (fg (iV (ck (du hr.units) dj fu (aw L2.bZ bW (bN (af 1) aj) aj) aj) (j3 (ck (du hr.units) dj fu (af 5) (aw L2.bZ bW (bN (af 1) aj) aj))))) (cj (bI (bN (eK (ar aj (ar (aw L2.sD v9 (af 6) aj) aI))) (aw L2.bZ bW (aw dM dB (bN (af 1) aj) aj) aj)) (aX 7 sc.nd))) dE) (aG (ka 4 (af 7)) cB)))))) (mI 4 (aG (bB (i0 L2.mn lL B8 kB (aw cb cy (eK (ar (af 2) aI)) (af 4)))) cB)))))).out
abbrev g7:Stmt:=top 9
theorem ym:L2.bT ["name"] ["name"] (L2.aJ g7):=⟨rfl,rfl,rfl,by decide+kernel,rfl,by decide+kernel,by decide+kernel⟩
theorem zl(Fu:L2.bJ K "shape_of" "shape_of" g7 f fd)(hm:mg "shape_of"=some (.ref f))(gl_SHAPES:gE P w K mg "SHAPES" kE):Df P w K mg base "shape_of" 1 1 b9:=by
 have sc:=ym;refine cC (k:=0) Fu hm sc (Fu.binds (ps:=["name"]) fun _ _ _ _ _ _ us hl=>match us,hl with|[_],_=>rfl) (fun Cj A outer s H E hr=>?_)
 exact((cj (bB (zw (kH gl_SHAPES) (af 0))))).out
abbrev gM:Stmt:=top 4
theorem wJ:L2.bT ["thing"] ["thing"] (L2.aJ gM):=⟨rfl,rfl,rfl,by decide+kernel,rfl,by decide+kernel,by decide+kernel⟩
theorem AZ(Fu:L2.bJ K "is_whole" "is_whole" gM f fd)(hm:mg "is_whole"=some (.ref f))(CW:mg "bool"=none)(Co:mg "int"=none)(B3:mg "isinstance"=none):Df P w K mg base "is_whole" 1 1 ig:=by
 have sc:=wJ;refine cC (k:=0) Fu hm sc (Fu.binds (ps:=["thing"]) fun _ _ _ _ _ _ us hl=>match us,hl with|[_],_=>rfl) (fun Cj A outer s H E hr=>?_)
 exact((cj (bB (mE (jR .int (af 0) B3 Co lA) (mh (AD (jR .bool (af 0) B3 CW zC))))))).out
abbrev gK:Stmt:=top 10
theorem sJ:L2.bT ["field"] ["field"] (L2.aJ gK):=⟨rfl,rfl,rfl,by decide+kernel,rfl,by decide+kernel,by decide+kernel⟩
theorem u3(Fu:L2.bJ K "bound_of" "bound_of" gK f fd)(hm:mg "bound_of"=some (.ref f)):Df P w K mg base "bound_of" 1 1 iQ:=by
 have sc:=sJ;refine cC (k:=0) Fu hm sc (Fu.binds (ps:=["field"]) fun _ _ _ _ _ _ us hl=>match us,hl with|[_],_=>rfl) (fun Cj A outer s H E hr=>?_)
 exact((cj (bB (kK (ck (du hr.units) dj fu (af 0) aR) (aw L2.cI cE aj aj) aj)))).out
abbrev hW:Stmt:=top 11
theorem yj:L2.bT ["field","thing"] ["field","thing"] (L2.aJ hW):=⟨rfl,rfl,rfl,by decide+kernel,rfl,by decide+kernel,by decide+kernel⟩
theorem uj(Fu:L2.bJ K "is_part" "is_part" hW f fd)(hm:mg "is_part"=some (.ref f))(Ca:Df P w K mg base "is_whole" 1 1 ig)(Cu:Df P w K mg base "bound_of" 1 1 iQ):Df P w K mg base "is_part" 2 2 gn:=by
 have sc:=yj;refine cC (k:=1) Fu hm sc (Fu.binds (ps:=["field","thing"]) fun _ _ _ _ _ _ us hl=>match us,hl with|[_,_],_=>rfl) (fun Cj A outer s H E hr=>?_)
 exact((cj (bB (mE (bw Ca hr (ar (af 1) aI)) (mh (pS L2.nK L2.mK qd mz aj (af 1) (bw Cu hr (ar (af 0) aI)))))))).out
abbrev gC:Stmt:=top 12
theorem AJ:L2.bT ["thing","shape"] ["thing"] (L2.aJ gC):=⟨rfl,rfl,rfl,by decide+kernel,rfl,by decide+kernel,by decide+kernel⟩
theorem zY(Fu:L2.bJ K "is_row" "is_row" gC f fd)(hm:mg "is_row"=some (.ref f))(Dp:mg "all"=none)(B3:mg "isinstance"=none)(B':mg "len"=none)(Dh:mg "str"=none)(B8:mg "tuple"=none)(C':mg "zip"=none)(B6:Df P w K mg base "shape_of" 1 1 b9)(CD:Df P w K mg base "is_part" 2 2 gn):Df P w K mg base "is_row" 3 1 di:=by
 have sc:=AJ;refine cC (k:=2) Fu hm sc (Fu.binds (ps:=["thing"]) fun _ _ _ _ _ _ us hl=>match us,hl with|[_],_=>rfl) (fun Cj A outer s H E hr=>?_)
 exact((aG (dk (fg (fF (gd (gc (jR .tuple (af 0) B3 B8 kB))) (fF (ck (du hr.units) dj fu (gF g9 g8 B' fI (af 0)) aj) (iG (gd (gc (jR .str (bN (af 0) aj) B3 Dh zm))))))) (cj (bB hZ)) dE) (aG (bI (bw B6 hr (ar (bN (af 0) aj) aI)) (aX 1 sc.nd)) (aG (dk (fg (fF (qm (af 1)) (iG (ck (j1 hr.units) kz kn (gF g9 g8 B' fI (af 0)) (aw cb cy aj (gF g9 g8 B' fI (af 1))))))) (cj (bB hZ)) dE) (aG (bB (gF (yz rfl) sr Dp AN (lT (mU ["field","part"] [] [] (mY (L2.aJ gC) ["thing","shape"] (by rfl) (by rfl) (by decide+kernel)) (uv C' (af 1) (yQ (af 0) (ue aj) yL)) (fun cl C s H fp=>by exact(lq (gX 0 (aX 0 (show List.Nodup (["field","part"]:List Str)from by decide+kernel)) (gX 1 (aX 1 (show List.Nodup (["field","part"]:List Str)from by decide+kernel)) mi)) ko)) (fun cl C s H fp=>by exact kY) (fun cl C s H fp=>by exact(bw CD hr (ar (af 0) (ar (af 1) aI)))))))) cB))))).out
abbrev gS:Stmt:=top 13
theorem wO:L2.bT ["row","field","place"] ["row","field"] (L2.aJ gS):=⟨rfl,rfl,rfl,by decide+kernel,rfl,by decide+kernel,by decide+kernel⟩
theorem zK(Fu:L2.bJ K "part_of" "part_of" gS f fd)(hm:mg "part_of"=some (.ref f))(B6:Df P w K mg base "shape_of" 1 1 b9):Df P w K mg base "part_of" 2 2 gb:=by
 have sc:=wO;refine cC (k:=1) Fu hm sc (Fu.binds (ps:=["row","field"]) fun _ _ _ _ _ _ us hl=>match us,hl with|[_,_],_=>rfl) (fun Cj A outer s H E hr=>?_)
 exact((aG (bI (uO (bw B6 hr (ar (bN (af 0) aj) aI)) (af 1)) (aX 2 sc.nd)) (aG (bB (kK (ck L2.mK mz uR (af 2) aj) aj (bN (af 0) (aw cb cy aj (af 2))))) cB))).out
abbrev hJ:Stmt:=top 14
theorem zG:L2.bT ["row","word"] ["row"] (L2.aJ hJ):=⟨rfl,rfl,rfl,by decide+kernel,rfl,by decide+kernel,by decide+kernel⟩
theorem vZ(Fu:L2.bJ K "coded" "coded" hJ f fd)(hm:mg "coded"=some (.ref f))(gl_NAMES:ik P w K mg "NAMES" dN)(Cd:Df P w K mg base "is_row" 3 1 di)(Cf:Df P w K mg base "part_of" 2 2 gb):Df P w K mg base "coded" 4 1 cU:=by
 have sc:=zG;refine cC (k:=3) Fu hm sc (Fu.binds (ps:=["row"]) fun _ _ _ _ _ _ us hl=>match us,hl with|[_],_=>rfl) (fun Cj A outer s H E hr=>?_)
 exact((aG (dk (gd (gc (bw Cd hr (ar (af 0) aI)))) (cj Am) dE) (aG (bI (aw L2.eF ee (xy gl_NAMES (bN (af 0) aj)) (aw L2.cI cE aj aj)) (aX 1 sc.nd)) (aG (bI (aw cb cy (aw cb cy (af 1) (aw L2.eF ee (bw Cf hr (ar (af 0) (ar aR aI))) (aw L2.cI cE aj aj))) (aw L2.eF ee (bw Cf hr (ar (af 0) (ar aR aI))) (aw L2.cI cE aj aj))) (aX 1 sc.nd)) (aG (bB (aw cb cy (aw cb cy (af 1) (aw L2.eF ee (bw Cf hr (ar (af 0) (ar aR aI))) (aw L2.cI cE aj aj))) (bw Cf hr (ar (af 0) (ar aR aI))))) cB))))).out
abbrev ic:Stmt:=top 5
theorem Ai:L2.bT ["thing"] ["thing"] (L2.aJ ic):=⟨rfl,rfl,rfl,by decide+kernel,rfl,by decide+kernel,by decide+kernel⟩
theorem Ak(Fu:L2.bJ K "is_word" "is_word" ic f fd)(hm:mg "is_word"=some (.ref f))(Ca:Df P w K mg base "is_whole" 1 1 ig):Df P w K mg base "is_word" 2 1 dF:=by
 have sc:=Ai;refine cC (k:=1) Fu hm sc (Fu.binds (ps:=["thing"]) fun _ _ _ _ _ _ us hl=>match us,hl with|[_],_=>rfl) (fun Cj A outer s H E hr=>?_)
 exact((cj (bB (mE (bw Ca hr (ar (af 0) aI)) (mh (pS L2.nK L2.mK qd mz aj (af 0) (aw L2.cI cE aj aj))))))).out
abbrev gH:Stmt:=top 15
theorem uZ:L2.bT ["word","field"] ["word","field"] (L2.aJ gH):=⟨rfl,rfl,rfl,by decide+kernel,rfl,by decide+kernel,by decide+kernel⟩
theorem wj(Fu:L2.bJ K "part_in" "part_in" gH f fd)(hm:mg "part_in"=some (.ref f)):Df P w K mg base "part_in" 1 2 eI:=by
 have sc:=uZ;refine cC (k:=0) Fu hm sc (Fu.binds (ps:=["word","field"]) fun _ _ _ _ _ _ us hl=>match us,hl with|[_,_],_=>rfl) (fun Cj A outer s H E hr=>?_)
 exact((aG (dk (ck (du hr.units) dj fu (af 1) aR) (cj (bB (aw L2.bZ bW (aw dM dB (af 0) (aw L2.cI cE aj aj)) aj))) dE) (aG (dk (ck (du hr.units) dj fu (af 1) aR) (cj (bB (aw L2.bZ bW (aw dM dB (af 0) (aw L2.cI cE aj aj)) aj))) dE) (aG (dk (ck (du hr.units) dj fu (af 1) aR) (cj (bB (aw L2.bZ bW (aw dM dB (af 0) (aw L2.cI cE aj aj)) aj))) dE) (aG (bB (aw L2.bZ bW (af 0) (aw L2.cI cE aj aj))) cB))))).out
abbrev gB:Stmt:=top 16
theorem zj:L2.bT ["word","name","row"] ["word"] (L2.aJ gB):=⟨rfl,rfl,rfl,by decide+kernel,rfl,by decide+kernel,by decide+kernel⟩
theorem xW(Fu:L2.bJ K "decoded" "decoded" gB f fd)(hm:mg "decoded"=some (.ref f))(B':mg "len"=none)(B8:mg "tuple"=none)(gl_NAMES:ik P w K mg "NAMES" dN)(Cc:Df P w K mg base "is_word" 2 1 dF)(B6:Df P w K mg base "shape_of" 1 1 b9)(CB:Df P w K mg base "part_in" 1 2 eI)(Cg:Df P w K mg base "coded" 4 1 cU):Df P w K mg base "decoded" 5 1 dv:=by
 have sc:=zj;refine cC (k:=4) Fu hm sc (Fu.binds (ps:=["word"]) fun _ _ _ _ _ _ us hl=>match us,hl with|[_],_=>rfl) (fun Cj A outer s H E hr=>?_)
 exact((aG (dk (fg (fF (gd (gc (bw Cc hr (ar (af 0) aI)))) (iG (ck L2.lH kZ m8 (aw dM dB (af 0) (aw L2.cI cE aj aj)) (gF g9 g8 B' fI (kH gl_NAMES.gl)))))) (cj (bB oF)) dE) (aG (bI (bN (kH gl_NAMES.gl) (aw dM dB (af 0) (aw L2.cI cE aj aj))) (aX 1 sc.nd)) (aG (bI (i0 L2.mn lL B8 kB (aw cb cy (eK (ar (af 1) aI)) (lT (mU ["field"] ["word"] [0] (mY (L2.aJ gB) ["word","name","row"] (by rfl) (by rfl) (by decide+kernel)) (lp (bw B6 hr (ar (af 1) aI))) (fun cl C s H fp=>by exact(aX 0 (show List.Nodup (["field","word"]:List Str)from by decide+kernel))) (fun cl C s H fp=>by exact kY) (fun cl C s H fp=>by exact(bw CB hr (ar (af 1) (ar (af 0) aI)))))))) (aX 2 sc.nd)) (aG (bB (kK (ck (du hr.units) dj fu (bw Cg hr (ar (af 2) aI)) (af 0)) (af 2) oF)) cB))))).out
abbrev gY:Stmt:=top 20
theorem vJ:L2.bT ["_law_cell","_law_k","_law_free","_law_found","_law_digits","_law_drawn","_law_j"] ["_law_cell","_law_k","_law_free"] (L2.aJ gY):=⟨rfl,rfl,rfl,by decide+kernel,rfl,by decide+kernel,by decide+kernel⟩
theorem wZ(Fu:L2.bJ K "_law_draws" "_law_draws" gY f fd)(hm:mg "_law_draws"=some (.ref f))(Cb:mg "range"=none):Df P w K mg base "_law_draws" 1 3 gQ:=by
 have sc:=vJ;refine cC (k:=0) Fu hm sc (Fu.binds (ps:=["_law_cell","_law_k","_law_free"]) fun _ _ _ _ _ _ us hl=>match us,hl with|[_,_,_],_=>rfl) (fun Cj A outer s H E hr=>?_)
 exact((aG (ly 3 sc.nd (m5 aI)) (aG (bI (aw dM dB (af 0) aj) (aX 4 sc.nd)) (aG (bI (aw L2.bZ bW (aw L2.eF ee (aw cb cy (aw L2.bZ bW (aw dM dB (af 0) aj) (aw L2.cI cE aj aj)) aj) (aw cb cy aj (aw L2.eF ee (aw L2.eF ee aj (af 1)) (af 1)))) aj) (aX 5 sc.nd)) (aG (jS (f:=gD) (oy Cb aj) (aX 6 sc.nd) (by delta gD;exact(cj (dk (fg (iV (gc (af 2)) (iV (ck L2.lH kZ m8 (af 0) (aw L2.cI cE aj aj)) (j3 (ck L2.lH kZ m8 (af 4) aj))))) (aG (ka 3 (aw L2.bZ bW (af 4) aj)) (aG (bI (aw dM dB (af 4) aj) (aX 4 sc.nd)) cB)) (aG (bI (aw L2.bZ bW (aw L2.eF ee (aw cb cy (aw cb cy (af 5) (aw L2.eF ee (af 6) (af 6))) aj) aj) aj) (aX 5 sc.nd)) (aG (ka 3 (bN (eK (ar (af 5) (ar (aw L2.bZ bW (aw L2.eF ee (af 5) (af 5)) aj) aI))) (aw L2.bZ bW (af 5) aj))) cB)))))) (mI 3 (aG (bB (af 3)) cB))))))).out
abbrev il:Stmt:=top 25
theorem rQ:L2.bT ["_law_word","_law_name","_law_form","_law_parts","_law_letter","_law_worth"] ["_law_word"] (L2.aJ il):=⟨rfl,rfl,rfl,by decide+kernel,rfl,by decide+kernel,by decide+kernel⟩
theorem rR(Fu:L2.bJ K "_law_taken_out" "_law_taken_out" il f fd)(hm:mg "_law_taken_out"=some (.ref f))(Co:mg "int"=none)(B8:mg "tuple"=none)(B9:Df P w K mg base "_law_forms" 1 0 fN):Df P w K mg base "_law_taken_out" 2 1 ie:=by
 have sc:=rQ;refine cC (k:=1) Fu hm sc (Fu.binds (ps:=["_law_word"]) fun _ _ _ _ _ _ us hl=>match us,hl with|[_],_=>rfl) (fun Cj A outer s H E hr=>?_)
 exact((aG (bI (bN (o4 B9 hr) (aw L2.bZ bW (aw L2.bZ bW (aw dM dB (af 0) aj) aj) aj)) (lq (gX 1 (aX 1 sc.nd) (gX 2 (aX 2 sc.nd) mi)) ko)) (aG (ly 3 sc.nd (m5 aI)) (aG (jS (f:=fT) (lp (af 2)) (aX 4 sc.nd) (by delta fT;exact(aG (bI (bN (wm (jw aR aj (jw aR aj (jw aR aj (jw aR aj zx))))) (af 4)) (aX 5 sc.nd)) (aG (ka 3 (aw L2.bZ bW (aw dM dB (af 0) (af 5)) (bN (eK (ar aj (ar aj aI))) (i0 L2.nU pF Co lA (my (du hr.units) dj (af 4) aR))))) cB)))) (mI 3 (aG (bB (i0 L2.mn lL B8 kB (aw cb cy (eK (ar (af 1) aI)) (af 3)))) cB)))))).out
abbrev eR:Stmt:=top 26
theorem um:L2.bT ["_law_script","_law_free","_law_known","_law_k","_law_row_here","_law_word","_law_found"] ["_law_script"] (L2.aJ eR):=⟨rfl,rfl,rfl,by decide+kernel,rfl,by decide+kernel,by decide+kernel⟩
theorem wk(Fu:L2.bJ K "law" "law" eR f fd)(hm:mg "law"=some (.ref f))(B':mg "len"=none)(CT:mg "list"=none)(De:mg "min"=none)(Cb:mg "range"=none)(Dk:mg "set"=none)(Cp:Df P w K mg base "_law_draws" 1 3 gQ)(CC:Df P w K mg base "_law_row" 2 2 fV)(Cg:Df P w K mg base "coded" 4 1 cU)(Cd:Df P w K mg base "is_row" 3 1 di)(Cc:Df P w K mg base "is_word" 2 1 dF)(Cn:Df P w K mg base "decoded" 5 1 dv)(Ce:Df P w K mg base "_law_taken_out" 2 1 ie):L2.b8 P w K mg base L2.dR 6 f fd ["_law_script"] (eU ⟨K,P,w⟩ iK 1):=by
 have sc:=um;refine qS (k:=5) Fu sc (fun Cj A outer s H E hr=>?_);exact((aG (bI hZ (aX 1 sc.nd)) (aG (A3 2 sc.nd) (aG (jS (f:=gT) (vO Cb aj (A0 (L2.xm rfl) uQ De xS (gF g9 g8 B' fI (af 0)) aj)) (aX 3 sc.nd) (by delta gT;exact(aG (bI (bw CC hr (ar (aw L2.bZ bW (aw L2.bZ bW (bN (af 0) (af 3)) aj) aj) (ar (bw Cp hr (ar (bN (af 0) (af 3)) (ar (af 3) (ar (af 1) aI)))) aI))) (aX 4 sc.nd)) (aG (bI (bw Cg hr (ar (af 4) aI)) (aX 5 sc.nd)) (aG (dk (fg (fF (gd (gc (bw Cd hr (ar (af 4) aI)))) (fF (gd (gc (bw Cc hr (ar (af 5) aI)))) (fF (ck (j1 hr.units) kz kn (bw Cn hr (ar (af 5) aI)) (af 4)) (iG (ck (j1 hr.units) kz kn (sM 2 (af 5) (af 4)) (af 4))))))) (cj (bB hZ)) dE) (aG (tJ 2 hr.units (af 5) (af 4)) (aG (bI (aw L2.bZ bW (bN (af 0) (af 3)) aj) (aX 5 sc.nd)) (aG (bI (bw Cn hr (ar (af 5) aI)) (aX 6 sc.nd)) (aG (dk (fg (iV (qm (af 6)) (j3 (ck (du hr.units) dj fu (bw Cg hr (ar (bw Ce hr (ar (af 5) aI)) aI)) (af 5))))) (cj (bB hZ)) dE) (aG (dk (fg (iV (uk (af 6)) (j3 (fg (fF (gd (gc (bw Cd hr (ar (af 6) aI)))) (iG (ck (j1 hr.units) kz kn (bw Cg hr (ar (af 6) aI)) (af 5)))))))) (cj (bB hZ)) dE) cB)))))))))) (aG (bB (my (du hr.units) dj (xc 2 hr.units B' Dk CT) (uw 2 B'))) cB))))).out
end
theorem all_mk{w:World}{K:PySem.W.Frag}{h:Heap}{mg:Str→Option Value}{fa f0 f1 f2 f3 f4 f5 f6 f7 f8 f9 Ht HH IB IQ IA:Addr}(X:K.In h)(G:h.Ns mainGlobals mg)(LO:mg "law"=some (.ref fa))
   {L0 Ng L6 M5 ML Mx L3 KU LK Ly Ll Nx Lr Lg Lh KG MK L1 KY L8 HI GW HU HY Hc HW IC Iq G8 FO:Option Addr} {Mu Mn ED Lj M4 Ms Lf Mf Nu L9 HA IT IY Ij Iv:Array (Option Value)} {Mg M' Le LR Km KC L5 LX MY Nb JN MQ LA KQ KH La Kj LF MI Nj MR Mo Kl LS MA MF Ld MD Kw KZ KD KR K9 Nd Ku MN M8 L7 LG Mh Ks LP MJ KI Mq MO JJ LH MB KA Nw Lz JC Mz Mi LU MZ LL Jr Lb Ik ID IG GV Fq Iw IU Hl Hz Hi FV IK Hg G' Ja Ia Ga Jb G4 GU GY Jh Fo Hy Ih FQ Ft Gk E1 Fz:Value}
   (a0:PySem.W.nsIn K mainGlobals "_law_forms"=some (some (.ref f0))) (l0:K.lookup f0=some ⟨Mg,L0,.func (PySem.W.fnOf "_law_forms" "_law_forms" (L2.bX gu) (L2.bD gu) (L2.aJ gu) .none M' Le LR Ng Km KC),Mu⟩) (c0:PySem.W.codeIn K Km "_law_forms"=true) (k0:PySem.W.keepIn K (.ref f0)=true)
   (a1:PySem.W.nsIn K mainGlobals "_law_row"=some (some (.ref f1))) (l1:K.lookup f1=some ⟨L5,L6,.func (PySem.W.fnOf "_law_row" "_law_row" (L2.bX gU) (L2.bD gU) (L2.aJ gU) .none LX MY Nb M5 JN MQ),Mn⟩) (c1:PySem.W.codeIn K JN "_law_row"=true) (k1:PySem.W.keepIn K (.ref f1)=true)
   (a2:PySem.W.nsIn K mainGlobals "shape_of"=some (some (.ref f2))) (l2:K.lookup f2=some ⟨LA,ML,.func (PySem.W.fnOf "shape_of" "shape_of" (L2.bX g7) (L2.bD g7) (L2.aJ g7) .none KQ KH La Mx Kj LF),ED⟩) (c2:PySem.W.codeIn K Kj "shape_of"=true) (k2:PySem.W.keepIn K (.ref f2)=true)
   (a3:PySem.W.nsIn K mainGlobals "is_whole"=some (some (.ref f3))) (l3:K.lookup f3=some ⟨MI,L3,.func (PySem.W.fnOf "is_whole" "is_whole" (L2.bX gM) (L2.bD gM) (L2.aJ gM) .none Nj MR Mo KU Kl LS),Lj⟩) (c3:PySem.W.codeIn K Kl "is_whole"=true) (k3:PySem.W.keepIn K (.ref f3)=true)
   (a4:PySem.W.nsIn K mainGlobals "bound_of"=some (some (.ref f4))) (l4:K.lookup f4=some ⟨MA,LK,.func (PySem.W.fnOf "bound_of" "bound_of" (L2.bX gK) (L2.bD gK) (L2.aJ gK) .none MF Ld MD Ly Kw KZ),M4⟩) (c4:PySem.W.codeIn K Kw "bound_of"=true) (k4:PySem.W.keepIn K (.ref f4)=true)
   (a5:PySem.W.nsIn K mainGlobals "is_part"=some (some (.ref f5))) (l5:K.lookup f5=some ⟨KD,Ll,.func (PySem.W.fnOf "is_part" "is_part" (L2.bX hW) (L2.bD hW) (L2.aJ hW) .none KR K9 Nd Nx Ku MN),Ms⟩) (c5:PySem.W.codeIn K Ku "is_part"=true) (k5:PySem.W.keepIn K (.ref f5)=true)
   (a6:PySem.W.nsIn K mainGlobals "is_row"=some (some (.ref f6))) (l6:K.lookup f6=some ⟨M8,Lr,.func (PySem.W.fnOf "is_row" "is_row" (L2.bX gC) (L2.bD gC) (L2.aJ gC) .none L7 LG Mh Lg Ks LP),Lf⟩) (c6:PySem.W.codeIn K Ks "is_row"=true) (k6:PySem.W.keepIn K (.ref f6)=true)
   (a7:PySem.W.nsIn K mainGlobals "part_of"=some (some (.ref f7))) (l7:K.lookup f7=some ⟨MJ,Lh,.func (PySem.W.fnOf "part_of" "part_of" (L2.bX gS) (L2.bD gS) (L2.aJ gS) .none KI Mq MO KG JJ LH),Mf⟩) (c7:PySem.W.codeIn K JJ "part_of"=true) (k7:PySem.W.keepIn K (.ref f7)=true)
   (a8:PySem.W.nsIn K mainGlobals "coded"=some (some (.ref f8))) (l8:K.lookup f8=some ⟨MB,MK,.func (PySem.W.fnOf "coded" "coded" (L2.bX hJ) (L2.bD hJ) (L2.aJ hJ) .none KA Nw Lz L1 JC Mz),Nu⟩) (c8:PySem.W.codeIn K JC "coded"=true) (k8:PySem.W.keepIn K (.ref f8)=true)
   (a9:PySem.W.nsIn K mainGlobals "is_word"=some (some (.ref f9))) (l9:K.lookup f9=some ⟨Mi,KY,.func (PySem.W.fnOf "is_word" "is_word" (L2.bX ic) (L2.bD ic) (L2.aJ ic) .none LU MZ LL L8 Jr Lb),L9⟩) (c9:PySem.W.codeIn K Jr "is_word"=true) (k9:PySem.W.keepIn K (.ref f9)=true)
   (a10:PySem.W.nsIn K mainGlobals "part_in"=some (some (.ref Ht))) (l10:K.lookup Ht=some ⟨Ik,HI,.func (PySem.W.fnOf "part_in" "part_in" (L2.bX gH) (L2.bD gH) (L2.aJ gH) .none ID IG GV GW Fq Iw),HA⟩) (c10:PySem.W.codeIn K Fq "part_in"=true) (k10:PySem.W.keepIn K (.ref Ht)=true)
   (a11:PySem.W.nsIn K mainGlobals "decoded"=some (some (.ref HH))) (l11:K.lookup HH=some ⟨IU,HU,.func (PySem.W.fnOf "decoded" "decoded" (L2.bX gB) (L2.bD gB) (L2.aJ gB) .none Hl Hz Hi HY FV IK),IT⟩) (c11:PySem.W.codeIn K FV "decoded"=true) (k11:PySem.W.keepIn K (.ref HH)=true)
   (a12:PySem.W.nsIn K mainGlobals "_law_draws"=some (some (.ref IB))) (l12:K.lookup IB=some ⟨Hg,Hc,.func (PySem.W.fnOf "_law_draws" "_law_draws" (L2.bX gY) (L2.bD gY) (L2.aJ gY) .none G' Ja Ia HW Ga Jb),IY⟩) (c12:PySem.W.codeIn K Ga "_law_draws"=true) (k12:PySem.W.keepIn K (.ref IB)=true)
   (a13:PySem.W.nsIn K mainGlobals "_law_taken_out"=some (some (.ref IQ))) (l13:K.lookup IQ=some ⟨G4,IC,.func (PySem.W.fnOf "_law_taken_out" "_law_taken_out" (L2.bX il) (L2.bD il) (L2.aJ il) .none GU GY Jh Iq Fo Hy),Ij⟩) (c13:PySem.W.codeIn K Fo "_law_taken_out"=true) (k13:PySem.W.keepIn K (.ref IQ)=true)
   (a14:PySem.W.nsIn K mainGlobals "law"=some (some (.ref IA))) (l14:K.lookup IA=some ⟨Ih,G8,.func (PySem.W.fnOf "law" "law" (L2.bX eR) (L2.bD eR) (L2.aJ eR) .none FQ Ft Gk FO E1 Fz),Iv⟩) (c14:PySem.W.codeIn K E1 "law"=true) (k14:PySem.W.keepIn K (.ref IA)=true)
   (z_all:PySem.W.nsIn K mainGlobals "all"=some none)
   (z_bool:PySem.W.nsIn K mainGlobals "bool"=some none)
   (z_int:PySem.W.nsIn K mainGlobals "int"=some none)
   (z_isinstance:PySem.W.nsIn K mainGlobals "isinstance"=some none)
   (z_len:PySem.W.nsIn K mainGlobals "len"=some none)
   (z_list:PySem.W.nsIn K mainGlobals "list"=some none)
   (z_min:PySem.W.nsIn K mainGlobals "min"=some none)
   (z_range:PySem.W.nsIn K mainGlobals "range"=some none)
   (z_set:PySem.W.nsIn K mainGlobals "set"=some none)
   (z_str:PySem.W.nsIn K mainGlobals "str"=some none)
   (z_tuple:PySem.W.nsIn K mainGlobals "tuple"=some none)
   (z_zip:PySem.W.nsIn K mainGlobals "zip"=some none)
   (gl_SHAPES:gE PySem.Challenge.pw_underfloor_k06_whole_rows_and_words w K mg "SHAPES" kE)
   (gl_NAMES:ik PySem.Challenge.pw_underfloor_k06_whole_rows_and_words w K mg "NAMES" dN):
   ∃fd:FuncData,(∀(s:Shared) (v:Value),BindsTo s fd ⟨[v],[]⟩ [("_law_script",v)])∧∀base:Heap,K.In base→base.Ns mainGlobals mg→L2.b8 PySem.Challenge.pw_underfloor_k06_whole_rows_and_words w K mg base L2.dR 6 fa fd ["_law_script"] (eU ⟨K,PySem.Challenge.pw_underfloor_k06_whole_rows_and_words,w⟩ iK 1):=by
 have e:=LO.symm.trans (PySem.W.mg_of X G a14);cases e;have Dp:=PySem.W.mg_none_of X G z_all;have CW:=PySem.W.mg_none_of X G z_bool;have Co:=PySem.W.mg_none_of X G z_int;have B3:=PySem.W.mg_none_of X G z_isinstance;have B':=PySem.W.mg_none_of X G z_len;have CT:=PySem.W.mg_none_of X G z_list;have De:=PySem.W.mg_none_of X G z_min;have Cb:=PySem.W.mg_none_of X G z_range;have Dk:=PySem.W.mg_none_of X G z_set;have Dh:=PySem.W.mg_none_of X G z_str;have B8:=PySem.W.mg_none_of X G z_tuple;have C':=PySem.W.mg_none_of X G z_zip;refine⟨PySem.W.fnOf "law" "law" (L2.bX eR) (L2.bD eR) (L2.aJ eR) .none FQ Ft Gk FO E1 Fz,fun s v=>.of_eq rfl,fun base _ _=>?_⟩;have B9:=vt (P:=PySem.Challenge.pw_underfloor_k06_whole_rows_and_words) (w:=w) (base:=base) (L2.cw (st:=gu) l0 c0 k0) (PySem.W.mg_of X G a0);have CC:=wG (P:=PySem.Challenge.pw_underfloor_k06_whole_rows_and_words) (w:=w) (base:=base) (L2.cw (st:=gU) l1 c1 k1) (PySem.W.mg_of X G a1) Co B' Cb B8 B9;have B6:=zl (P:=PySem.Challenge.pw_underfloor_k06_whole_rows_and_words) (w:=w) (base:=base) (L2.cw (st:=g7) l2 c2 k2) (PySem.W.mg_of X G a2) gl_SHAPES;have Ca:=AZ (P:=PySem.Challenge.pw_underfloor_k06_whole_rows_and_words) (w:=w) (base:=base) (L2.cw (st:=gM) l3 c3 k3) (PySem.W.mg_of X G a3) CW Co B3;have Cu:=u3 (P:=PySem.Challenge.pw_underfloor_k06_whole_rows_and_words) (w:=w) (base:=base) (L2.cw (st:=gK) l4 c4 k4) (PySem.W.mg_of X G a4)
 have CD:=uj (P:=PySem.Challenge.pw_underfloor_k06_whole_rows_and_words) (w:=w) (base:=base) (L2.cw (st:=hW) l5 c5 k5) (PySem.W.mg_of X G a5) Ca Cu;have Cd:=zY (P:=PySem.Challenge.pw_underfloor_k06_whole_rows_and_words) (w:=w) (base:=base) (L2.cw (st:=gC) l6 c6 k6) (PySem.W.mg_of X G a6) Dp B3 B' Dh B8 C' B6 CD;have Cf:=zK (P:=PySem.Challenge.pw_underfloor_k06_whole_rows_and_words) (w:=w) (base:=base) (L2.cw (st:=gS) l7 c7 k7) (PySem.W.mg_of X G a7) B6;have Cg:=vZ (P:=PySem.Challenge.pw_underfloor_k06_whole_rows_and_words) (w:=w) (base:=base) (L2.cw (st:=hJ) l8 c8 k8) (PySem.W.mg_of X G a8) gl_NAMES Cd Cf;have Cc:=Ak (P:=PySem.Challenge.pw_underfloor_k06_whole_rows_and_words) (w:=w) (base:=base) (L2.cw (st:=ic) l9 c9 k9) (PySem.W.mg_of X G a9) Ca;have CB:=wj (P:=PySem.Challenge.pw_underfloor_k06_whole_rows_and_words) (w:=w) (base:=base) (L2.cw (st:=gH) l10 c10 k10) (PySem.W.mg_of X G a10);have Cn:=xW (P:=PySem.Challenge.pw_underfloor_k06_whole_rows_and_words) (w:=w) (base:=base) (L2.cw (st:=gB) l11 c11 k11) (PySem.W.mg_of X G a11) B' B8 gl_NAMES Cc B6 CB Cg;have Cp:=wZ (P:=PySem.Challenge.pw_underfloor_k06_whole_rows_and_words) (w:=w) (base:=base) (L2.cw (st:=gY) l12 c12 k12) (PySem.W.mg_of X G a12) Cb;have Ce:=rR (P:=PySem.Challenge.pw_underfloor_k06_whole_rows_and_words) (w:=w) (base:=base) (L2.cw (st:=il) l13 c13 k13) (PySem.W.mg_of X G a13) Co B8 B9
 have Fb:=wk (P:=PySem.Challenge.pw_underfloor_k06_whole_rows_and_words) (w:=w) (base:=base) (L2.cw (st:=eR) l14 c14 k14) (PySem.W.mg_of X G a14) B' CT De Cb Dk Cp CC Cg Cd Cc Cn Ce;exact Fb
end dY
end PL
set_option maxRecDepth 2000
namespace PL
open PySem
namespace G
theorem tY{f:List D→R D}{a b c:Ex}{ρ:En}{x y z d:D}(ha:a ρ=.ok x)(hb:b ρ=.ok y)(hc:c ρ=.ok z)(h:f [x,y,z]=.ok d):aB f [a,b,c] ρ=.ok d:=by
 simp only[aB,eList,ha,hb,hc,R.aY];exact h
theorem rl{t u:aF}{ρ:En}{b c:Bool}(h:t ρ=.ok b)(h':u ρ=.ok c):cK t u ρ=.ok (b&&c):=by
 simp only[cK,h,R.aY];cases b
 ·rfl
 ·rw[if_pos rfl,h'];rfl
theorem rH{t u:aF}{ρ:En}(h:t ρ=.ok false):cK t u ρ=.ok false:=by
 simp only[cK,h,R.aY];rfl
theorem cZ{i:Nat}{a:Ex}{ρ:En}{d:D}(h:a ρ=.ok d):aP (aC i) a ρ=.ok (.next (ρ.set i (.sh d))):=by
 simp only[aP,h,R.aY,aC]
theorem eq_int(i j:Int):oEq (.int i) (.int j)=.ok (.bl (decide (i=j))):=by
 unfold oEq;rw[o9,if_pos rfl];show R.ok (D.bl (i==j))=_;rfl
theorem lt_int(i j:Int):oLt (.int i) (.int j)=.ok (.bl (decide (i<j))):=rfl
mutual
theorem pZ:∀d:D,lay d=true→bo d d=true
 |.aq,_=>rfl
 |.bl b,_=>by simp
 |.int i,_=>by simp
 |.str x,_=>by simp
 |.tup xs,h=>by unfold bo;exact mD xs (by unfold lay at h;exact h)
 |.lst xs,h=>by unfold bo;exact mD xs (by unfold lay at h;exact h)
 |.aV _ _,h=>by unfold lay at h;cases h
 |.bA _ _ _,h=>by unfold lay at h;cases h
theorem mD:∀ds:List D,cg ds=true→eP ds ds=true
 |[],_=>rfl
 | d::ds,h=>by
   unfold cg at h;rw[Bool.and_eq_true]at h;unfold eP;rw[pZ d h.1,mD ds h.2];rfl
end
theorem uo{d:D}(h:lay d=true)(h2:dep d≤60):cP d d=true:=by
 unfold cP;rw[h,decide_eq_true (show min (dep d) (dep d)≤60 by omega)];simp
theorem ne_self{d:D}(h:lay d=true)(h2:dep d≤60):dy d d=.ok (.bl false):=by
 unfold dy;rw[if_pos (uo h h2),pZ d h];rfl
theorem zP{it:bg}{tg:bj}{body:Sm}{ρ:En}{ds:List D}{r:R Fl}(hi:it ρ=.ok ds)(h:forL tg body ds ρ=r):d3 it tg body ρ=r:=by
 show(it ρ).bind _=_;rw[hi,R.aY,h]
theorem le_int(i j:Int):oLe (.int i) (.int j)=.ok (.bl (decide (i≤j))):=rfl
end G
end PL
namespace PL
namespace dY
open PySem
def Kn(c:Nat)(ks:List Ky)(vs:List D):Prop:=∃ps:List (Int×D),ks=ps.map (fun p=>.inl p.1)∧vs=ps.map (·.2)∧(ps.map (·.1)).Nodup∧(∀p∈ps,Row p.2 p.1)∧ps.length≤c
theorem qR{v:Int}{d:D}:∀ {ps:List (Int×D)},bK (.inl v) (ps.map fun p=>.inl p.1) (ps.map (·.2))=some d→∃p∈ps,p.1=v∧p.2=d
 |[],h=>by cases h
 | p::ps,h=>by
   rw[List.map_cons,List.map_cons]at h;unfold bK at h;by_cases e:(Sum.inl p.1:Ky)=.inl v
   · rw[if_pos e]at h
     injection e with e;injection h with h;exact⟨p,List.mem_cons_self,e,h⟩
   · rw[if_neg e]at h
     obtain⟨q,hq,h1,h2⟩:=qR h;exact⟨q,List.mem_cons_of_mem _ hq,h1,h2⟩
theorem Kn.get{c:Nat}{ks:List Ky}{vs:List D}{r:D}{v:Int}(h:Kn c ks vs)(hr:Row r v):(bK (.inl v) ks vs).getD r=r:=by
 obtain⟨ps,rfl,rfl,_,hp,_⟩:=h;cases e:bK (.inl v) (ps.map fun p=>.inl p.1) (ps.map (·.2))with
 |none=>rfl
 | some d=>
   obtain⟨p,hm,rfl,rfl⟩:=qR e;exact(hp p hm).inj hr
theorem qG{v:Int}{r:D}(hr:Row r v):∀ {ps:List (Int×D)},(∀p∈ps,Row p.2 p.1)→List.zipWith (fun a x=>if a=(Sum.inl v:Ky)then r else x) (ps.map fun p=>(.inl p.1:Ky)) (ps.map (·.2))=ps.map (·.2)
 |[],_=>rfl
 | p::ps,hp=>by
   simp only[List.map_cons,List.zipWith_cons_cons];rw[qG hr fun q hq=>hp q (List.mem_cons_of_mem _ hq)];congr 1;by_cases e:(Sum.inl p.1:Ky)=.inl v
   · rw[if_pos e]
     injection e with e;have:=hp p List.mem_cons_self;rw[e]at this;exact hr.inj this
   ·rw[if_neg e]
theorem Kn.put{c:Nat}{ks:List Ky}{vs:List D}{r:D}{v:Int}(h:Kn c ks vs)(hr:Row r v):Kn (c+1) (putL (.inl v) r ks vs).1 (putL (.inl v) r ks vs).2:=by
 obtain⟨ps,rfl,rfl,nd,hp,hl⟩:=h;unfold putL;by_cases hm:((ps.map fun p=>(.inl p.1:Ky)).any fun a=>decide (a=.inl v))=true
 · rw[if_pos hm]
   exact⟨ps,rfl,qG hr hp,nd,hp,by omega⟩
 · rw[if_neg hm]
   refine⟨ps++[(v,r)],by simp,by simp,?_,fun p Lx=>?_,by simp;omega⟩
   · rw[List.map_append,List.nodup_append]
     refine⟨nd,by simp,fun a ha b hb e=>hm ?_⟩
     simp at hb;subst hb e;obtain⟨p,h1,h2⟩:=List.mem_map.mp ha;exact List.any_eq_true.mpr ⟨_,List.mem_map.mpr ⟨p,h1,rfl⟩,by simp[h2]⟩
   · rcases List.mem_append.mp Lx with h|h
     ·exact hp p h
     ·rw[List.mem_singleton.mp h];exact hr
theorem og:∀ps:List Int,cJ (ps.map .int)=some (ps.map .inl)
 |[]=>rfl
 |p::ps=>by simp only[List.map_cons,cJ,keyOf,og ps]
theorem Row.tk{r:D}{v:Int}(h:Row r v):∃ds kl,r=.tup ds∧cJ ds=some kl:=by
 obtain⟨j,n,f,ps,hj,rfl,hg,rfl⟩:=h.ex;exact⟨_,.inr n::ps.map .inl,rfl,by simp only[cJ,keyOf,og ps]⟩
theorem oE:∀ {a b:List D} {k:List Ky},cJ a=some k→cJ b=some k→a=b
 |[],[],_,_,_=>rfl
 | [],d::b,k,h,h'=>by
   cases h;unfold cJ at h';split at h'<;>cases h'
 | d::a,[],k,h,h'=>by
   cases h';unfold cJ at h;split at h<;>cases h
 | d::a,e::b,k,h,h'=>by
   unfold cJ at h h';split at h
   · rename_i z r hz hr
     cases h;split at h'
     · rename_i z' r' Hm Fe
       cases h'
       have:d=e:=by
         cases d<;>cases hz<;>cases e<;>cases Hm<;>rfl
       rw[this,oE hr Fe]
     ·cases h'
   ·cases h
theorem p7:∀ {ps:List (Int×D)},(∀p∈ps,Row p.2 p.1)→(ps.map (·.1)).Nodup→∃kk,fw (ps.map (·.2))=some kk∧kk.length=ps.length∧kk.Nodup∧∀k∈kk,∃p∈ps,∃ds,p.2=.tup ds∧cJ ds=some k
 |[],_,_=>⟨[],rfl,rfl,List.nodup_nil,fun k hk=>nomatch hk⟩
 | p::ps,hp,nd=>by
   rw[List.map_cons]at nd;have nd:=List.nodup_cons.mp nd;obtain⟨kk,e,hl,hn,hm⟩:=p7 (fun q hq=>hp q (List.mem_cons_of_mem _ hq)) nd.2;obtain⟨ds,kl,e1,e2⟩:=(hp p List.mem_cons_self).tk;refine⟨kl::kk,?_,by simp[hl],List.nodup_cons.mpr ⟨fun hk=>?_,hn⟩,fun k hk=>?_⟩
   · rw[List.map_cons,e1]
     simp only[fw,e2,e]
   · obtain⟨q,hq,FK,e3,e4⟩:=hm kl hk
     have e5:=oE e2 e4;have r1:=hp p List.mem_cons_self;have r2:=hp q (List.mem_cons_of_mem _ hq);rw[e1]at r1;rw[e3, ←e5]at r2;exact nd.1 (List.mem_map.mpr ⟨q,hq,(r1.tM r2).symm⟩)
   · rcases List.mem_cons.mp hk with rfl|hk
     ·exact⟨p,List.mem_cons_self,ds,e1,e2⟩
     · obtain⟨q,hq,r⟩:=hm k hk
       exact⟨q,List.mem_cons_of_mem _ hq,r⟩
theorem Row.lay{r:D}{v:Int}(h:Row r v):PL.lay r=true∧dep r≤60:=by
 obtain⟨j,n,f,ps,hj,rfl,hg,rfl⟩:=h.ex;have hn:=vW (List.mem_of_getElem? hj);constructor
 · simp only[PL.lay,cg,Bool.and_eq_true]
   exact⟨hn,qW ps⟩
 ·simp only[dep,fX,p5];decide
theorem rB{tg:bj}{body:Sm}(P:Nat→En→Prop):∀ {ds:List D} {c:Nat},(∀c' d,d∈ds→∀ρ,P c' ρ→c'<c+ds.length→∃CJ,tg d ρ=.ok CJ∧∃CY,body CJ=.ok (.next CY)∧P (c'+1) CY)→
   ∀ {ρ:En},P c ρ→∃ρ',forL tg body ds ρ=.ok (.next ρ')∧P (c+ds.length) ρ'
 |[],c,_,ρ,h=>⟨ρ,rfl,h⟩
 | d::ds,c,hs,ρ,h=>by
   obtain⟨CJ,e1,CY,e2,h2⟩:=hs c d List.mem_cons_self ρ h (by simp)
   obtain⟨ρ',e,h'⟩:=rB P (ds:=ds) (c:=c+1) (fun c' d' hd ρ hP hc=>hs c' d' (List.mem_cons_of_mem _ hd) ρ hP (by simp only[List.length_cons];omega)) h2
   refine⟨ρ',?_,?_⟩
   · rw[forL,e1,R.aY,e2,R.aY]
     exact e
   · rw[List.length_cons,show c+(ds.length+1)=c+1+ds.length by omega]
     exact h'
theorem uW{ns:List Int}{k:Int}{c:Nat}{ks:List Ky}{vs:List D}{s4 s5 s6:Slot}(h0:1≤k)(h1:k<ns.length)(h2:k<61)(hk:Kn c ks vs)(hc:c<100):
   ∃DH DF t4 t5 t6,Kn (c+1) DH DF∧gT [.sh (.lst (ns.map .int)),.sh (.bl true),.od ks vs,.sh (.int k),s4,s5,s6]=.ok (.next [.sh (.lst (ns.map .int)),.sh (.bl true),.od DH DF,.sh (.int k),t4,t5,t6]):=by
 obtain⟨x,_,hx⟩:=jD (xs:=ns) (i:=k) (by omega) h1
 obtain⟨xs,ex,LV,_⟩:=ui x k true (by omega) (by omega)
 obtain⟨j,n,f,ps,hj,er,g⟩:=yN (x % 16 % 15) (by omega) (by omega) LV
 obtain⟨r,v,hR,er⟩:∃r v,Row r v∧fV [.int (x % 16 % 15),.lst (xs.map .int)]=.ok r:=⟨_,_,⟨j,n,f,ps,hj,rfl,g,rfl⟩,er⟩;have hb:=hR.bd;have DX:=hR.lay;have Je:∀(o:Slot) (s4 s5 s6:Slot),(e2 aD (aa 0) (aa 3)) [.sh (.lst (ns.map .int)),.sh (.bl true),o,.sh (.int k),s4,s5,s6]=.ok (.int x):=fun o s4 s5 s6=>by simp[hx]
 have LN:ks.length<1000:=by
   obtain⟨ps,rfl,_,_,_,hl⟩:=hk;rw[List.length_map];omega
 have Cy:=hk.put hR;have Jv:0≤x % 4294967296:=by omega
 have J2:x % 4294967296<4294967296:=by omega
 have q1:(aP (aC 4) (aB fV [e2 oMod (e2 oMod (e2 aD (aa 0) (aa 3)) (eC (.int 16))) (eC (.int 15)),aB gQ [e2 aD (aa 0) (aa 3),aa 3,aa 1]])) [.sh (.lst (ns.map .int)),.sh (.bl true),.od ks vs,.sh (.int k),s4,s5,s6]=.ok (.next [.sh (.lst (ns.map .int)),.sh (.bl true),.od ks vs,.sh (.int k),.sh r,s5,s6]):=
   G.cZ (d:=r) (jf (hU (hU (Je _ _ _ _) rfl (by decide)) rfl (by decide)) (G.tY (Je _ _ _ _) rfl rfl ex) er)
 have q2:(aP (aC 5) (aB cU [aa 4])) [.sh (.lst (ns.map .int)),.sh (.bl true),.od ks vs,.sh (.int k),.sh r,s5,s6]=.ok (.next [.sh (.lst (ns.map .int)),.sh (.bl true),.od ks vs,.sh (.int k),.sh r,.sh (.int v),s6]):=G.cZ (d:=.int v) (cL rfl hR.coded)
 have gt:(iy 2 (aa 5) (aa 4)) [.sh (.lst (ns.map .int)),.sh (.bl true),.od ks vs,.sh (.int k),.sh r,.sh (.int v),s6]=.ok r:=by
   show(R.ok ((bK (.inl v) ks vs).getD r))=_;rw[hk.get hR]
 have t3:(b4 (cf (tV (aB di [aa 4]))) (b4 (cf (tV (aB dF [aa 5]))) (b4 (tV (e2 dy (aB dv [aa 5]) (aa 4))) (tV (e2 dy (iy 2 (aa 5) (aa 4)) (aa 4)))))) [.sh (.lst (ns.map .int)),.sh (.bl true),.od ks vs,.sh (.int k),.sh r,.sh (.int v),s6]=.ok false:=
   iM (b:=false) (c:=false) (iA (b:=true) (cx (cL rfl hR.rO))) (iM (b:=false) (c:=false) (iA (b:=true) (cx (cL rfl (pY (by omega) (by omega))))) (iM (b:=false) (c:=false) (cx (bV (x:=r) (cL rfl hR.decoded) rfl (G.ne_self DX.1 DX.2))) (cx (bV (x:=r) gt rfl (G.ne_self DX.1 DX.2)))))
 have q4:(j4 2 (aa 5) (aa 4)) [.sh (.lst (ns.map .int)),.sh (.bl true),.od ks vs,.sh (.int k),.sh r,.sh (.int v),s6]=.ok (.next [.sh (.lst (ns.map .int)),.sh (.bl true),.od (putL (.inl v) r ks vs).1 (putL (.inl v) r ks vs).2,.sh (.int k),.sh r,.sh (.int v),s6]):=by
   show(if ks.length<1000 then _ else _)=_
   rw[if_pos LN];rfl
 generalize (putL (.inl v) r ks vs).1=DH at Cy q4;generalize (putL (.inl v) r ks vs).2=DF at Cy q4;have q5:(aP (aC 5) (e2 oMod (e2 aD (aa 0) (aa 3)) (eC (.int 4294967296)))) [.sh (.lst (ns.map .int)),.sh (.bl true),.od DH DF,.sh (.int k),.sh r,.sh (.int v),s6]=.ok (.next [.sh (.lst (ns.map .int)),.sh (.bl true),.od DH DF,.sh (.int k),.sh r,.sh (.int (x % 4294967296)),s6]):=G.cZ (d:=.int (x % 4294967296)) (hU (Je _ _ _ _) rfl (by decide))
 rw[gT,aQ q1,aQ q2,aQ (d9 t3),aQ q4,aQ q5];generalize x % 4294967296=w at Jv J2;rcases t8 Jv J2 with⟨r',hd,Fj⟩|⟨hd,r',v',ht,Fj,B5⟩
 · have MX:e1 i5 (aa 6) [.sh (.lst (ns.map .int)),.sh (.bl true),.od DH DF,.sh (.int k),.sh r,.sh (.int w),.sh r']=.ok (.bl false):=by
     obtain⟨ds,_,rfl,_⟩:=Fj.tk;rfl
   have EI:e1 jB (aa 6) [.sh (.lst (ns.map .int)),.sh (.bl true),.od DH DF,.sh (.int k),.sh r,.sh (.int w),.sh r']=.ok (.bl true):=by
     obtain⟨ds,_,rfl,_⟩:=Fj.tk;rfl
   refine⟨DH,DF,.sh r,.sh (.int w),.sh r',Cy,?_⟩;rw[aQ (G.cZ (d:=r') (cL rfl hd))];show aL _ [.sh (.lst (ns.map .int)),.sh (.bl true),.od DH DF,.sh (.int k),.sh r,.sh (.int w),.sh r']=_;rw[aQ (d9 (G.rH (cx MX)))];rw[aQ (d9 (G.rl (b:=true) (c:=false) (cx EI) (iM (b:=false) (c:=false) (iA (b:=true) (cx (cL rfl Fj.rO))) (cx (bV (x:=.int w) (cL rfl Fj.coded) rfl (G.ne_self rfl (Nat.zero_le _))))))),jJ]
 · refine⟨DH,DF,.sh r,.sh (.int w),.sh .aq,Cy,?_⟩
   rw[aQ (G.cZ (d:=.aq) (cL rfl hd))];show aL _ [.sh (.lst (ns.map .int)),.sh (.bl true),.od DH DF,.sh (.int k),.sh r,.sh (.int w),.sh .aq]=_;rw[aQ (d9 (G.rl (b:=true) (c:=false) (cx rfl) (cx (bV (x:=.int v') (y:=.int w) (cL (cL rfl ht) Fj.coded) rfl (by rw[G.eq_int,decide_eq_false B5])))))]
   rw[aQ (d9 (G.rH (cx rfl))),jJ]
theorem zt(ns:List Int)(h:ns.length≤63):iK [.lst (ns.map .int)]=.ok (.bl true):=by
 obtain⟨M,hM⟩:∃M:Int,(if 61<(ns.length:Int)then 61 else(ns.length:Int))=M:=⟨_,rfl⟩
 have Nz:M≤61:=by rw[←hM];split<;>omega
 have NS:M≤ns.length:=by rw[←hM];split<;>omega
 have NA:0≤M:=by rw[←hM];split<;>omega
 have NH:(bF 1 M).length≤60:=by unfold bF;simp;omega
 obtain⟨ρ',eL,ks,vs,s3,s4,s5,s6,hK,rfl⟩:=rB (tg:=aC 3) (body:=gT) (fun c ρ=>∃ks vs s3 s4 s5 s6,Kn c ks vs∧ρ=[.sh (.lst (ns.map .int)),.sh (.bl true),.od ks vs,s3,s4,s5,s6]) (ds:=bF 1 M) (c:=0) (by
   rintro c d hd ρ ⟨ks,vs,s3,s4,s5,s6,hK,rfl⟩ hc;obtain⟨k,rfl,LM,NX⟩:=yy hd;obtain⟨DH,DF,t4,t5,t6,Mr,e⟩:=uW (ns:=ns) (s4:=s4) (s5:=s5) (s6:=s6) LM (by omega) (by omega) hK (by omega)
   exact⟨_,rfl,_,e,_,_,_,_,_,_,Mr,rfl⟩) (ρ:=[.sh (.lst (ns.map .int)),.sh (.bl true),.od [] [],.un,.un,.un,.un]) ⟨_,_,_,_,_,_,⟨[],rfl,rfl,List.nodup_nil,(fun p hp=>nomatch hp),Nat.le_refl _⟩,rfl⟩
 have z:(gh (eC (.int 1)) (e2 kc (e1 cD (aa 0)) (eC (.int 61)))) [.sh (.lst (ns.map .int)),.sh (.bl true),.od [] [],.un,.un,.un,.un]=.ok (bF 1 M):=
   vk rfl (by simp;exact hM) (by decide) (qX (by omega) (by omega))
 rw[iK];refine fk ?_;show aL _ [.sh (.lst (ns.map .int)),.un,.un,.un,.un,.un,.un]=_;rw[aQ (ρ':=[.sh (.lst (ns.map .int)),.sh (.bl true),.un,.un,.un,.un,.un]) rfl,aQ (ρ':=[.sh (.lst (ns.map .int)),.sh (.bl true),.od [] [],.un,.un,.un,.un]) rfl,aQ (G.zP z eL)];obtain⟨ps,rfl,rfl,nd,hp,hl⟩:=hK;obtain⟨kk,e1,CQ,e3,_⟩:=p7 hp nd
 have lv:gR 2 [.sh (.lst (ns.map .int)),.sh (.bl true),.od (ps.map fun p=>.inl p.1) (ps.map (·.2)),s3,s4,s5,s6]=.ok (.int ps.length):=by
   unfold gR;show(match fw (ps.map (·.2))with|some kk=>if kk.Nodup∧kk.length≤63 then R.ok (D.int kk.length)else .bad|none=>.bad)=_
   rw[e1];show(if kk.Nodup∧kk.length≤63 then R.ok (D.int kk.length)else .bad)=_
   rw[if_pos ⟨e3,by omega⟩,CQ]
 have ld:jk 2 [.sh (.lst (ns.map .int)),.sh (.bl true),.od (ps.map fun p=>.inl p.1) (ps.map (·.2)),s3,s4,s5,s6]=.ok (.int ps.length):=by
   show R.ok (D.int ((ps.map fun p=>(.inl p.1:Ky)).length))=_;rw[List.length_map]
 exact dU (jz (bV lv ld (by rw[G.eq_int,decide_eq_true rfl])))
end dY
end PL
open PySem PySem.W PyProof.Rows
set_option maxRecDepth 100000 in
set_option maxHeartbeats 0 in
theorem PySem.Challenge.cw_underfloor_k06_whole_rows_and_words_holds : PySem.Challenge.rw_underfloor_k06_whole_rows_and_words.Holds := by
  w_on; o_law; k_head; (case hw => w_witness2)
  k_fill
  refine PL.walk (l := PySem.Challenge.rw_underfloor_k06_whole_rows_and_words) (k := 6) (x := "_law_script") (m := PL.dY.iK) rfl rfl ⟨rfl, by decide, by decide⟩ (fun w h Y => PySem.W.kIn_of Y) ?F PL.dY.zt
  case F =>
    intro w mg fa h KX G hmg
    refine' PL.dY.all_mk KX G hmg ?a0 ?l0 ?c0 ?k0 ?a1 ?l1 ?c1 ?k1 ?a2 ?l2 ?c2 ?k2 ?a3 ?l3 ?c3 ?k3 ?a4 ?l4 ?c4 ?k4 ?a5 ?l5 ?c5 ?k5 ?a6 ?l6 ?c6 ?k6 ?a7 ?l7 ?c7 ?k7 ?a8 ?l8 ?c8 ?k8 ?a9 ?l9 ?c9 ?k9 ?a10 ?l10 ?c10 ?k10 ?a11 ?l11 ?c11 ?k11 ?a12 ?l12 ?c12 ?k12 ?a13 ?l13 ?c13 ?k13 ?a14 ?l14 ?c14 ?k14 ?z_all ?z_bool ?z_int ?z_isinstance ?z_len ?z_list ?z_min ?z_range ?z_set ?z_str ?z_tuple ?z_zip ?gl_SHAPES ?gl_NAMES
    (case a0 => k_is)
    (case l0 => k_is)
    (case c0 => k_is)
    (case k0 => k_is)
    (case a1 => k_is)
    (case l1 => k_is)
    (case c1 => k_is)
    (case k1 => k_is)
    (case a2 => k_is)
    (case l2 => k_is)
    (case c2 => k_is)
    (case k2 => k_is)
    (case a3 => k_is)
    (case l3 => k_is)
    (case c3 => k_is)
    (case k3 => k_is)
    (case a4 => k_is)
    (case l4 => k_is)
    (case c4 => k_is)
    (case k4 => k_is)
    (case a5 => k_is)
    (case l5 => k_is)
    (case c5 => k_is)
    (case k5 => k_is)
    (case a6 => k_is)
    (case l6 => k_is)
    (case c6 => k_is)
    (case k6 => k_is)
    (case a7 => k_is)
    (case l7 => k_is)
    (case c7 => k_is)
    (case k7 => k_is)
    (case a8 => k_is)
    (case l8 => k_is)
    (case c8 => k_is)
    (case k8 => k_is)
    (case a9 => k_is)
    (case l9 => k_is)
    (case c9 => k_is)
    (case k9 => k_is)
    (case a10 => k_is)
    (case l10 => k_is)
    (case c10 => k_is)
    (case k10 => k_is)
    (case a11 => k_is)
    (case l11 => k_is)
    (case c11 => k_is)
    (case k11 => k_is)
    (case a12 => k_is)
    (case l12 => k_is)
    (case c12 => k_is)
    (case k12 => k_is)
    (case a13 => k_is)
    (case l13 => k_is)
    (case c13 => k_is)
    (case k13 => k_is)
    (case a14 => k_is)
    (case l14 => k_is)
    (case c14 => k_is)
    (case k14 => k_is)
    (case z_all => k_is)
    (case z_bool => k_is)
    (case z_int => k_is)
    (case z_isinstance => k_is)
    (case z_len => k_is)
    (case z_list => k_is)
    (case z_min => k_is)
    (case z_range => k_is)
    (case z_set => k_is)
    (case z_str => k_is)
    (case z_tuple => k_is)
    (case z_zip => k_is)
    (case gl_SHAPES => refine' PL.ua KX G ?x1_SHAPES ?x2_SHAPES ?x3_SHAPES ?x4_SHAPES ?x5_SHAPES ?x6_SHAPES; (case x1_SHAPES => k_is); (case x2_SHAPES => k_is); (case x3_SHAPES => exact ⟨_, _, _, _, _, rfl, rfl, rfl, rfl, ⟨_, rfl⟩, ⟨_, _, _, _, _, rfl, rfl, rfl, rfl, ⟨_, rfl⟩, ⟨_, _, _, _, _, rfl, rfl, rfl, rfl, ⟨_, rfl⟩, ⟨_, _, _, _, _, rfl, rfl, rfl, rfl, ⟨_, rfl⟩, ⟨_, _, _, _, _, rfl, rfl, rfl, rfl, ⟨_, rfl⟩, ⟨_, _, _, _, _, rfl, rfl, rfl, rfl, ⟨_, rfl⟩, ⟨_, _, _, _, _, rfl, rfl, rfl, rfl, ⟨_, rfl⟩, ⟨_, _, _, _, _, rfl, rfl, rfl, rfl, ⟨_, rfl⟩, ⟨_, _, _, _, _, rfl, rfl, rfl, rfl, ⟨_, rfl⟩, ⟨_, _, _, _, _, rfl, rfl, rfl, rfl, ⟨_, rfl⟩, ⟨_, _, _, _, _, rfl, rfl, rfl, rfl, ⟨_, rfl⟩, ⟨_, _, _, _, _, rfl, rfl, rfl, rfl, ⟨_, rfl⟩, ⟨_, _, _, _, _, rfl, rfl, rfl, rfl, ⟨_, rfl⟩, ⟨_, _, _, _, _, rfl, rfl, rfl, rfl, ⟨_, rfl⟩, ⟨_, _, _, _, _, rfl, rfl, rfl, rfl, ⟨_, rfl⟩, ⟨rfl, rfl⟩⟩⟩⟩⟩⟩⟩⟩⟩⟩⟩⟩⟩⟩⟩⟩); (case x4_SHAPES => decide +kernel); (case x5_SHAPES => decide); (case x6_SHAPES => rfl))
    (case gl_NAMES => refine' PL.uN KX G ?x1_NAMES ?x2_NAMES ?x3_NAMES ?x4_NAMES; (case x1_NAMES => k_is); (case x2_NAMES => k_is); (case x3_NAMES => exact ⟨_, _, rfl, ⟨_, rfl⟩, ⟨_, _, rfl, ⟨_, rfl⟩, ⟨_, _, rfl, ⟨_, rfl⟩, ⟨_, _, rfl, ⟨_, rfl⟩, ⟨_, _, rfl, ⟨_, rfl⟩, ⟨_, _, rfl, ⟨_, rfl⟩, ⟨_, _, rfl, ⟨_, rfl⟩, ⟨_, _, rfl, ⟨_, rfl⟩, ⟨_, _, rfl, ⟨_, rfl⟩, ⟨_, _, rfl, ⟨_, rfl⟩, ⟨_, _, rfl, ⟨_, rfl⟩, ⟨_, _, rfl, ⟨_, rfl⟩, ⟨_, _, rfl, ⟨_, rfl⟩, ⟨_, _, rfl, ⟨_, rfl⟩, ⟨_, _, rfl, ⟨_, rfl⟩, rfl⟩⟩⟩⟩⟩⟩⟩⟩⟩⟩⟩⟩⟩⟩⟩); (case x4_NAMES => decide))

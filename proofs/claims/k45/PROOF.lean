import PyProof.Rows.All
import Wide.All
import OpenK.AllK
import Wide.FinOn
import Lean
import PyProof.EqAt
import PyProof.EqKinds
import PyProof.TupleCall
import KE.KIntText
import Wide.Seal
import PyProof.Rows.SortStr
import KE.KDictList
import PyProof.StrBlockH
import KE.KSortedL
import KE.KSorted
import PyProof.Rows.SortWalk
import PyProof.TupleKey
import PyProof.Rows.SetFrom
import KE.KItemsList
import PySem.Challenge.RW_underfloor_k45_letters_and_chains
noncomputable section
set_option Elab.async false
set_option linter.all false
set_option maxRecDepth 100000
namespace L2
open PySem PySem.Spec PyProof.Rows
noncomputable abbrev Key:=Sum Int Str
noncomputable def jy:Key->Value->Bool
 |.inl k,v=>Value.isInt k v
 |.inr x,v=>Value.isStrOf x v
noncomputable def Fm(w:World):Key->Int
 |.inl k=>hashInt k
 |.inr x=>hashStr w x
theorem gN:∀ {k:Key} {v:Value},jy k v=true->(∃i t,k=Sum.inl i/\v=Value.int i t)\/(∃x t,k=Sum.inr x/\v=Value.str x t)
 | .inl i,v,h=>by
   obtain⟨t,e⟩:=Value.isInt_shape (k:=i) (v:=v) h;exact .inl ⟨i,t,rfl,e⟩
 | .inr x,v,h=>by
   obtain⟨t,e⟩:=Value.isStrOf_shape (x:=x) (v:=v) h;exact .inr ⟨x,t,rfl,e⟩
theorem DT(i:Int)(t:Tok):jy (.inl i) (.int i t)=true:=by simp[jy,Value.isInt]
theorem Gs(x:Str)(t:Tok):jy (.inr x) (.str x t)=true:=by simp[jy,Value.isStrOf]
theorem zW(a b:Int):decide ((Sum.inl a:Key)=Sum.inl b)=(a==b):=by
 by_cases e:a=b
 ·subst e;simp
 · have h:¬(Sum.inl a:Key)=Sum.inl b:=λq=>e (Sum.inl.inj q)
   rw[decide_eq_false h];exact(beq_eq_false_iff_ne.mpr e).symm
theorem GZ(a b:Str):decide ((Sum.inr a:Key)=Sum.inr b)=decide (a=b):=by
 by_cases e:a=b
 ·subst e;simp
 · have h:¬(Sum.inr a:Key)=Sum.inr b:=λq=>e (Sum.inr.inj q)
   rw[decide_eq_false h,decide_eq_false e]
theorem CU(a:Int)(b:Str):decide ((Sum.inl a:Key)=Sum.inr b)=false:=decide_eq_false (λq=>nomatch q)
theorem Ct(a:Str)(b:Int):decide ((Sum.inr a:Key)=Sum.inl b)=false:=decide_eq_false (λq=>nomatch q)
noncomputable def bx(prog:Program)(w:World):PySem.KeyKind prog w Key where
 is:=jy
 hash:=Fm w
 inj:=λv a b ha hb=>by
   rcases gN ha with⟨i,t,rfl,rfl⟩|⟨x,t,rfl,rfl⟩
   · rcases gN hb with⟨j,u,rfl,e⟩|⟨y,u,rfl,e⟩
     ·injection e with e1 _;rw[e1]
     ·exact nomatch e
   · rcases gN hb with⟨j,u,rfl,e⟩|⟨y,u,rfl,e⟩
     ·exact nomatch e
     ·injection e with e1 _;rw[e1]
 byValue:=λk v h=>by
   rcases gN h with⟨i,t,rfl,rfl⟩|⟨x,t,rfl,rfl⟩<;>rfl
 pyHash:=λhv h=>by
   rcases gN hv with⟨i,t,rfl,rfl⟩|⟨x,t,rfl,rfl⟩
   ·exact wpAny_pyHash_int h
   ·exact wpAny_pyHash_str h
 eqBool:=λhu hv h=>by
   rcases gN hu with⟨i,t,rfl,rfl⟩|⟨x,t,rfl,rfl⟩
   · rcases gN hv with⟨j,u,rfl,rfl⟩|⟨y,u,rfl,rfl⟩
     ·rw[zW]at h;exact wpAny_eqBool_int h
     ·rw[CU]at h;exact SeqAt.EqAt.int_str i t y u _ _ _ _ h
   · rcases gN hv with⟨j,u,rfl,rfl⟩|⟨y,u,rfl,rfl⟩
     ·rw[Ct]at h;exact SeqAt.EqAt.str_int x t j u _ _ _ _ h
     ·rw[GZ]at h;exact wpAny_eqBool_str h
 «strs»:=λk x t v h=>by
   rcases gN h with⟨i,u,rfl,e⟩|⟨y,u,rfl,e⟩
   ·exact nomatch e
   · injection e with e1 _
     subst e1;cases v<;>rfl
theorem Fp(prog:Program)(w:World)(i:Int)(t:Tok):(bx prog w).is (.inl i) (.int i t)=true:=DT i t
theorem zr(prog:Program)(w:World)(x:Str)(t:Tok):(bx prog w).is (.inr x) (.str x t)=true:=Gs x t
end L2
namespace L2
open PySem PySem.Spec PyProof.Rows
inductive V where
 |aD|bl (b:Bool)|int (i:Int)|str (x:Str)|jI (b:Array UInt8)|m7 (b:UInt64)|ref (a:Addr)|ty (n:String)
 deriving DecidableEq
def RelV:V->Value->Prop
 |.aD,u=>u=Value.none
 |.bl b,u=>u=Value.bool b
 |.int i,u=>∃t,u=Value.int i t
 |.str x,u=>∃t,u=Value.str x t
 |.jI b,u=>∃t,u=Value.bytes b t
 |.m7 b,u=>∃t,u=Value.float b t
 |.ref a,u=>u=Value.ref a
 |.ty n,u=>u=Value.type n
abbrev Vals:List V->List Value->Prop:=Paired RelV
theorem Vals.length{xs:List V}{us:List Value}(r:Vals xs us):xs.length=us.length:=Paired.length r
theorem Vals.get:∀ {xs:List V} {us:List Value} {i:Nat} {x:V},Vals xs us->xs[i]? =some x->∃u,us[i]? =some u/\RelV x u
 |_,_,_,_,.nil,e=>by simp at e
 |_,_,0,_,.cons r _,e=>by simp at e;subst e;exact⟨_,rfl,r⟩
 | _,_,i+1,x,.cons _ t,e=>by
   obtain⟨u,h1,h2⟩:=Vals.get (i:=i) (x:=x) t (by simpa using e)
   exact⟨u,by simpa using h1,h2⟩
theorem Vals.set{x:V}{u:Value}(r:RelV x u):∀ {xs:List V} {us:List Value} (i:Nat),Vals xs us->Vals (xs.set i x) (us.set i u)
 |_,_,_,.nil=>.nil
 |_,_,0,.cons _ t=>.cons r t
 |_,_,i+1,.cons q t=>.cons q (Vals.set r i t)
theorem Vals.append:∀ {xs ys:List V} {us ws:List Value},Vals xs us->Vals ys ws->Vals (xs++ys) (us++ws)
 |_,_,_,_,.nil,s=>s
 |_,_,_,_,.cons r t,s=>.cons r (Vals.append t s)
theorem Vals.take:∀ {xs:List V} {us:List Value} (n:Nat),Vals xs us->Vals (xs.take n) (us.take n)
 |_,_,0,_=>.nil
 |_,_,_+1,.nil=>.nil
 |_,_,n+1,.cons r t=>.cons r (Vals.take n t)
theorem Vals.drop:∀ {xs:List V} {us:List Value} (n:Nat),Vals xs us->Vals (xs.drop n) (us.drop n)
 |_,_,0,r=>r
 |_,_,_+1,.nil=>.nil
 |_,_,n+1,.cons _ t=>Vals.drop n t
def fj:Option V->Option Value->Prop
 |some v,some u=>RelV v u
 |none,none=>True
 |_,_=>False
def KV{κ:Type}:List (κ×V)->List (κ×Value)->Prop:=Paired λ(p:κ×V) (q:κ×Value)=>p.1=q.1/\RelV p.2 q.2
noncomputable def kV:Key->V
 |.inl i=>.int i
 |.inr x=>.str x
inductive HO where
 |lst (xs:List V)
 |tup (xs:List V)
 |dK (kvs:List (Key×V))|dT (kvs:List (List Key×V))
 |set (S:Int->Bool) (n:Nat)
 |ins (C dx:Addr) (fs:List (Str×V))
 |own (x:Addr)
 |xd (fs:List (Str×V))
 |met (f x:Addr)
 |jd (lo hi:Int)
 |frz (o:Obj) (u:HO)
 |ja (ps:Array Value)
 |ext (φ:Heap->Prop)
noncomputable abbrev Hp:=Addr->Option HO
noncomputable def upd(H:Hp)(a:Addr)(o:HO):Hp:=λb=>if b=a then some o else H b
theorem bf{H:Hp}{a:Addr}{o:HO}:upd H a o a=some o:=by unfold upd;rw[if_pos rfl]
theorem aE{H:Hp}{a b:Addr}{o:HO}(h:b≠a):upd H a o b=H b:=by unfold upd;rw[if_neg h]
theorem qJ{H:Hp}{a:Addr}{o u:HO}:upd (upd H a o) a u=upd H a u:=by
 funext b;unfold upd;split<;>rfl
theorem Hd{H:Hp}{a b:Addr}{o u:HO}(h:H a=some o)(h':H b=some u)(d:o≠u):a≠b:=by
 intro e;subst e;rw[h]at h';exact d (Option.some.inj h')
theorem f9{H:Hp}{a b:Addr}{o:HO}(h:H a=some o)(h':H b=none):a≠b:=by
 intro e;subst e;rw[h]at h';cases h'
section
variable(P:Program)(w:World)
def cF(H:Hp)(h:Heap)(a:Addr):HO->Prop
 |.lst xs=>xs.length<=sizeLine/\∃(aj:List Value) (n:Nat),Vals xs aj/\h.get? a=some {cls:=.type "list",data:=.seq aj.toArray n}
 |.tup xs=>xs.length<=sizeLine/\∃aj:List Value,Vals xs aj/\IsTup h a aj.toArray
 |.dK kvs=>kvs.length<=sizeLine/\(a==sysModules)=false/\∃vs,KV kvs vs/\h.DictOf (bx P w) a vs
 |.dT kvs=>kvs.length<=sizeLine/\(a==sysModules)=false/\∃xs:List (List Key×Addr×Value),
     Paired (λ(p:List Key×V) (q:List Key×Addr×Value)=>p.1=q.1/\H q.2.1=some (.tup (p.1.map kV))/\RelV p.2 q.2.2) kvs xs/\
     ∃o es ep,h.get? a=some o/\o.ExactDict/\o.data=.dict es ep/\es.toList=xs.map (entryOfKey (tupleKind (bx P w)))/\(xs.map (·.1)).Nodup
 |.set S n=>h.SetOf (intKind P w) a S n
 |.ins C dx fs=>H dx=some (.own a)/\fs.length<=1000/\dx≠a/\h.get? a=some (PySem.W.instObj C dx)/\
     ∃mA,h.Ns1 dx mA/\(∀f,fj (fs.lookup f) (mA f))/\PySem.Within mA (fs.map (·.1))
 |.own _=>∃o,h.get? a=some o
 |.xd fs=>∃mA,h.Ns1 a mA/\∀f,fj (fs.lookup f) (mA f)
 |.jd lo hi=>∃t u v,h.get? a=some {cls:=.type "range",data:=.fields #[.int lo t,.int hi u,.int 1 v]}
 |.frz o u=>h.get? a=some o/\cF H h a u
 |.ja ps=>h.get? a=some {cls:=.none,data:=.fields ps}
 |.met f x=>h.get? a=some (PySem.W.methodObj (.ref f) (.ref x))
 |.ext φ=>φ h/\(∃o,h.get? a=some o)/\∀h1 h2:Heap,φ h1->(∀o,h1.get? a=some o->h2.get? a=some o)->φ h2
def bH(H:Hp)(h:Heap):Prop:=∀a o,H a=some o->cF P w H h a o
end
section
variable{P:Program}{w:World}{H H':Hp}{h h':Heap}{a:Addr}{o:HO}
theorem cF.lt(x:cF P w H h a o):a<h.objs.size:=by
 cases o with
 |lst xs=>obtain⟨_,_,_,_,e⟩:=x;exact Heap.lt_size e
 |tup xs=>obtain⟨_,_,_,p⟩:=x;exact p.lt
 |dK kvs=>obtain⟨_,_,_,_,o,_,_,e,_⟩:=x;exact Heap.lt_size e
 |dT kvs=>obtain⟨_,_,_,_,o,_,_,e,_⟩:=x;exact Heap.lt_size e
 |set S n=>obtain⟨o,_,_,_,e,_⟩:=x;exact Heap.lt_size e
 |ins C dx fs=>obtain⟨_,_,_,e,_⟩:=x;exact Heap.lt_size e
 |own y=>obtain⟨_,e⟩:=x;exact Heap.lt_size e
 |xd fs=>obtain⟨_,⟨_,_,_,e,_⟩,_⟩:=x;exact Heap.lt_size e
 |jd lo hi=>obtain⟨_,_,_,e⟩:=x;exact Heap.lt_size e
 |frz ob u=>obtain⟨e,_⟩:=x;exact Heap.lt_size e
 |ja ps=>exact Heap.lt_size (show h.get? a=some _ from x)
 |met f y=>exact Heap.lt_size (show h.get? a=some _ from x)
 |ext φ=>obtain⟨_,⟨_,e⟩,_⟩:=x;exact Heap.lt_size e
theorem Paired.qW{α β:Type}{F G:α->β->Prop}:∀ {l₁:List α} {l₂:List β},Paired F l₁ l₂->(∀a b,F a b->G a b)->Paired G l₁ l₂
 |_,_,.nil,_=>.nil
 |_,_,.cons r t,f=>.cons (f _ _ r) (Paired.qW t f)
theorem cF.gW(x:cF P w H h a o)(k:∀b u,(b=a\/H b=some (.own a))->h.get? b=some u->h'.get? b=some u)
   (ho:∀b,H b=some (.own a)->H' b=some (.own a)) (ht:∀b xs,H b=some (.tup xs)->H' b=some (.tup xs)):cF P w H' h' a o:=by
 induction o with
 |lst xs=>obtain⟨z,aj,n,r,e⟩:=x;exact⟨z,aj,n,r,k _ _ (.inl rfl) e⟩
 |tup xs=>obtain⟨z,aj,r,ob,e,c⟩:=x;exact⟨z,aj,r,ob,k _ _ (.inl rfl) e,c⟩
 |dK kvs=>obtain⟨z,y,vs,r,ob,es,ep,e,c⟩:=x;exact⟨z,y,vs,r,ob,es,ep,k _ _ (.inl rfl) e,c⟩
 | dT kvs=>
   obtain⟨z,y,xs,r,ob,es,ep,e,c⟩:=x;exact⟨z,y,xs,Paired.qW r λp q z=>⟨z.1,ht _ _ z.2.1,z.2.2⟩,ob,es,ep,k _ _ (.inl rfl) e,c⟩
 |set S n=>obtain⟨ob,es,ep,t,e,c⟩:=x;exact⟨ob,es,ep,t,k _ _ (.inl rfl) e,c⟩
 | ins C dx fs=>
   obtain⟨d,z,ne,e,mA,⟨od,es,ep,e2,c⟩,r⟩:=x;exact⟨ho _ d,z,ne,k _ _ (.inl rfl) e,mA,⟨od,es,ep,k _ _ (.inr d) e2,c⟩,r⟩
 |own y=>obtain⟨ob,e⟩:=x;exact⟨ob,k _ _ (.inl rfl) e⟩
 |xd fs=>obtain⟨mA,⟨od,es,ep,e,c⟩,r⟩:=x;exact⟨mA,⟨od,es,ep,k _ _ (.inl rfl) e,c⟩,r⟩
 |jd lo hi=>obtain⟨t,u,v,e⟩:=x;exact⟨t,u,v,k _ _ (.inl rfl) e⟩
 |frz ob u ih=>obtain⟨e,q⟩:=x;exact⟨k _ _ (.inl rfl) e,ih q⟩
 | ja ps=>
   have e:h.get? a=some {cls:=.none,data:=.fields ps}:=x;show h'.get? a=some {cls:=.none,data:=.fields ps};exact k a _ (.inl rfl) e
 | met f y=>
   have e:h.get? a=some (PySem.W.methodObj (.ref f) (.ref y)):=x;show h'.get? a=some (PySem.W.methodObj (.ref f) (.ref y));exact k a _ (.inl rfl) e
 |ext φ=>obtain⟨p,⟨o,e⟩,st⟩:=x;exact⟨st _ _ p λo q=>k _ _ (.inl rfl) q,⟨o,k _ _ (.inl rfl) e⟩,st⟩
theorem bH.lt(x:bH P w H h)(e:H a=some o):a<h.objs.size:=(x a o e).lt
theorem bH.fresh(x:bH P w H h)(e:h.objs.size<=a):H a=none:=by
 cases q:H a with
 |none=>rfl
 |some u=>exact absurd (Nat.lt_of_lt_of_le (x.lt q) e) (Nat.lt_irrefl _)
theorem bH.kept(x:bH P w H h)(k:∀b u,h.get? b=some u->h'.get? b=some u):bH P w H h':=λa o e=>
 (x a o e).gW (λb u _ q=>k b u q) (λ_ q=>q) λ_ _ q=>q
theorem bH.laid(x:bH P w H h)(k:∀b u,h.get? b=some u->h'.get? b=some u)(hp:h.objs.size<=a)(new:cF P w (upd H a o) h' a o):bH P w (upd H a o) h':=λb u e=>by
 have hn:=x.fresh hp;by_cases hb:b=a
 ·subst hb;rw[bf]at e;cases e;exact new
 · rw[aE hb]at e
   exact(x b u e).gW (λc v _ q=>k c v q) (λc q=>by rw[aE (f9 q hn)];exact q) λc xs q=>by rw[aE (f9 q hn)];exact q
end
def Rd(H:Hp)(a:Addr)(u:HO):Prop:=H a=some u\/∃o,H a=some (.frz o u)
theorem Rd.ok{P:Program}{w:World}{H:Hp}{h:Heap}{a:Addr}{u:HO}(r:Rd H a u)(x:bH P w H h):cF P w H h a u:=by
 rcases r with r|⟨o,r⟩
 ·exact x a u r
 · obtain⟨_,q⟩:=x a _ r
   exact q
def md:Option HO->Prop
 |some (.lst _)=>True
 |some (.dK _)=>True
 |some (.dT _)=>True
 |some (.set _ _)=>True
 |some (.ins _ _ _)=>True
 |some (.ext _)=>True
 |_=>False
section
variable{P:Program}{w:World}{H:Hp}{h h':Heap}{x e:Addr}{o':HO}
theorem bH.write(ok:bH P w H h)(mu:md (H x))(he:e=x\/H e=some (.own x))(k:∀b u,b≠e->h.get? b=some u->h'.get? b=some u)(NF:∃u,h'.get? e=some u)
   (new:cF P w (upd H x o') h' x o'):bH P w (upd H x o') h':=λb u q=>by
 have OI:∀c y,H c=some (.own y)->c≠x:=λc y r z=>by subst z;rw[r]at mu;exact mu
 have Qs:∀c xs,H c=some (.tup xs)->c≠x:=λc xs r z=>by subst z;rw[r]at mu;exact mu
 by_cases hb:b=x
 ·subst hb;rw[bf]at q;cases q;exact new
 · rw[aE hb]at q
   by_cases hbe:b=e
   · have q':H b=some (.own x):=by
       rcases he with z|z
       ·exact absurd (hbe.trans z) hb
       ·rw[hbe];exact z
     rw[q]at q';cases q';obtain⟨v,hv⟩:=NF;exact⟨v,by rw[hbe];exact hv⟩
   · refine(ok b u q).gW (λc v hc r=>k c v ?_ r) (λc r=>by rw[aE (OI c b r)];exact r) λc xs r=>by rw[aE (Qs c xs r)];exact r
     rcases hc with rfl|hc
     ·exact hbe
     · rintro rfl
       rcases he with z|z
       ·exact OI c b hc z
       ·rw[hc]at z;cases z;exact hb rfl
end
structure Un(fs ex:List Addr)(H H':Hp)(h h':Heap):Prop where
 keep:∀b o,h.get? b=some o->H b=none->b∉fs->b∉ex->h'.get? b=some o
 slot:∀b o,h.get? b=some o->H b=none->b∈fs->b∉ex->∃sl,h'.get? b=some {o with slots:=sl}
 free:∀b o,h.get? b=some o->H b=none->b∉ex->H' b=none
 there:∀b o,h.get? b=some o->b∉ex->∃o',h'.get? b=some o'
 gC:∀b xs,H b=some (.tup xs)->H' b=some (.tup xs)
 fu:∀b o u,H b=some (.frz o u)->H' b=some (.frz o u)
 gJ:∀b ps,H b=some (.ja ps)->∃more,H' b=some (.ja (ps++more))
section
variable{fs TN ex Mw:List Addr}{H H1 H2:Hp}{h h1 h2 h':Heap}{a x e:Addr}{o:HO}
theorem Un.any(u:Un fs ex H H1 h h1){b:Addr}{ob:Obj}(q:h.get? b=some ob)(n:H b=none)(hx:b∉ex):∃sl,h1.get? b=some {ob with slots:=sl}:=by
 by_cases hb:b∈fs
 ·exact u.slot b ob q n hb hx
 ·exact⟨ob.slots,u.keep b ob q n hb hx⟩
theorem Un.kept(k:∀b u,h.get? b=some u->h'.get? b=some u):Un fs ex H H h h':=
 ⟨λb ob q _ _ _=>k b ob q,λb ob q _ _ _=>⟨ob.slots,k b ob q⟩,λ_ _ _ n _=>n,λb ob q _=>⟨ob,k b ob q⟩,λ_ _ q=>q,λ_ _ _ q=>q,λ_ ps q=>⟨#[],by rw[q];simp⟩⟩
theorem Un.refl:Un fs ex H H h h:=Un.kept λ_ _ q=>q
theorem Un.laid(k:∀b u,h.get? b=some u->h'.get? b=some u)(hp:h.objs.size<=a)(hn:H a=none):Un fs ex H (upd H a o) h h' where
 keep:=λb u q _ _ _=>k b u q
 slot:=λb u q _ _ _=>⟨u.slots,k b u q⟩
 free:=λb u q n _=>by rw[aE (Nat.ne_of_lt (Nat.lt_of_lt_of_le (Heap.lt_size q) hp))];exact n
 there:=λb u q _=>⟨u,k b u q⟩
 gC:=λb xs q=>by rw[aE (f9 q hn)];exact q
 fu:=λb u xs q=>by rw[aE (f9 q hn)];exact q
 gJ:=λb ps q=>⟨#[],by rw[aE (f9 q hn),q];simp⟩
theorem Un.write(mu:md (H x))(he:e=x\/H e=some (.own x))(k:∀b u,b≠e->h.get? b=some u->h'.get? b=some u)(NF:∃u,h'.get? e=some u):Un fs ex H (upd H x o) h h':=by
 have hx:∀b,H b=none->b≠x:=λb n z=>by subst z;rw[n]at mu;exact mu
 have hb:∀b,H b=none->b≠e:=λb n z=>by
   subst z;rcases he with r|r
   ·exact hx b n r
   ·rw[n]at r;cases r
 have hm:∀b u,H b=some u->¬md (some u)->b≠x:=λb u q nm z=>by subst z;rw[q]at mu;exact nm mu
 refine⟨λb u q n _ _=>k b u (hb b n) q,λb u q n _ _=>⟨u.slots,k b u (hb b n) q⟩,λb u q n _=>by rw[aE (hx b n)];exact n,λb u q _=>?_,
   λb xs q=>by rw[aE (hm b _ q λz=>z)];exact q,λb u xs q=>by rw[aE (hm b _ q λz=>z)];exact q,λb ps q=>⟨#[],by rw[aE (hm b _ q λz=>z),q];simp⟩⟩
 by_cases hbe:b=e
 ·subst hbe;exact NF
 ·exact⟨u,k b u hbe q⟩
end
noncomputable def aX(h:Heap)(H:Hp):List Addr:=(List.range h.objs.size).filter λa=>(H a).isSome
noncomputable def ie(h:Heap)(H:Hp):Heap:=PySem.W.hideAll h (aX h H)
theorem Bs(h:Heap)(H:Hp):(ie h H).objs.size=h.objs.size:=PySem.W.hideAll_size _ _
theorem AM{h:Heap}{H:Hp}{b:Addr}{o:Obj}(e:h.get? b=some o)(n:H b=none):(ie h H).get? b=some o:=
 PySem.W.hideAll_get _ e λhm=>by
   have q:(H b).isSome=true:=(List.mem_filter.mp hm).2;rw[n]at q;simp at q
theorem BC{h:Heap}{H:Hp}{b:Addr}{o:Obj}(e:(ie h H).get? b=some o):h.get? b=some o/\H b=none:=by
 have e':h.get? b=some o:=PySem.W.of_hideAll (aX h H) e;refine⟨e',?_⟩;cases q:H b with
 |none=>rfl
 | some x=>
   have hm:b∈aX h H:=List.mem_filter.mpr ⟨List.mem_range.mpr (Heap.lt_size e'),by simp[q]⟩
   have z:(ie h H).get? b=none:=PySem.W.hideAll_none (aX h H) hm;rw[z]at e;cases e
noncomputable def GO(g h:Heap)(L:Addr):List (Addr×Obj):=(List.range h.objs.size).filterMap λa=>if a=L\/(g.get? a).isSome=true then none else(h.get? a).map λo=>(a,o)
noncomputable def rest(g h:Heap)(L d:Addr):List (Addr×Obj):=(GO g h L).filter λp=>decide (p.1≠d)
end L2
namespace L2
open PySem PySem.Spec PyProof.Rows
structure Mod(K:PySem.W.Frag)(mg:Str->Option Value)(base:Heap):Prop where
 oS:K.In base
 glob:base.Ns mainGlobals mg
 blt:∃mb,base.Ns builtinsNs mb/\∀x:Str,x≠"__name__"->mb x=bootBuiltins x
 nolimit:base.NoLimit
structure Cx where
 prog:Program
 w:World
 K:PySem.W.Frag
 mg:Str->Option Value
 base:Heap
 A:Around
 N:List Str
 cv:Shared
 iH:Hp
 env:Env
 outer:List Env
 stack:List Env
 ex:List Addr
 fn:Str->Bool
 calm:Bool
 pn:List (Addr×Obj)
 xe:Value->Shared->Prop
noncomputable def d6(l:List Env):List Addr:=l.filterMap (·.frame)
noncomputable abbrev Cx.fs(X:Cx):List Addr:=d6 X.outer
def cf(sc:Scope)(x:Str):Prop:=sc.names.lookup x=some .local\/sc.names.lookup x=some .cell\/sc.names.lookup x=some .free
def Loc(sc:Scope)(x:Str):Prop:=sc.names.lookup x=some .local\/sc.names.lookup x=some .cell
def Look(env:Env)(h:Heap)(m:Str->Option Value)(x:Str)(u:Value):Prop:=
 (env.kindOf x=some .local/\m x=some u)\/((env.kindOf x=some .cell\/env.kindOf x=some .free)/\∃c,env.cells.lookup x=some c/\h.IsCell c (some u))
structure Cx.Ok(X:Cx):Prop where
 mod:Mod X.K X.mg X.base
 kind:X.env.scope.kind=.function
 glob:X.env.globals=mainGlobals
 blt:X.env.builtins=builtinsNs
 above:X.cv.heap.objs.size<=X.env.locals
 inj:∀x y c,X.env.cells.lookup x=some c->X.env.cells.lookup y=some c->x=y
 has:∀x,(X.env.kindOf x=some .cell\/X.env.kindOf x=some .free)->∃c,X.env.cells.lookup x=some c
 l7:∀x c,X.fn x=true->X.env.cells.lookup x=some c->X.cv.heap.objs.size<=c
 hd:X.calm=true->X.A.handled=none
 frames:X.A.frames=some X.stack
 nX:X.stack=X.outer\/(X.stack=X.env::X.outer/\X.env.frame=some X.env.locals)
 xv:∀b∈X.ex,b≠X.env.locals/\∀x c,X.env.cells.lookup x=some c->c≠b
 bs:∀b o,X.base.get? b=some o->X.cv.heap.get? b=some o/\X.iH b=none
 iG:X.base.objs.size<=X.cv.heap.objs.size
 mH:∀b o,X.base.get? b=some o->b∉X.ex
 nU:∀b∈X.ex,b∉X.fs
 fR:X.cv.heap.FunFrames X.base X.outer
 jX:∀b∈X.fs,X.iH b=none
structure Inv(X:Cx)(pins:List (Addr×Obj))(σ:List (Option V))(H:Hp)(s:Shared):Prop where
 ok:X.Ok
 os:s.os=X.cv.os
 bare:AllBare s.gens
 base:Un X.fs X.ex X.iH H X.cv.heap s.heap
 loc:∃m,s.heap.Ns X.env.locals m/\∀(i:Nat) (x:Str) (v:V),X.N[i]? =some x->σ[i]? =some (some v)->cf X.env.scope x->∃u,RelV v u/\Look X.env s.heap m x u
 cell:∀x c,X.env.cells.lookup x=some c->∃v,s.heap.IsCell c v
 free:H X.env.locals=none
 fI:∀x c,X.env.cells.lookup x=some c->H c=none
 pin:∀p∈X.pn++pins,s.heap.get? p.1=some p.2/\H p.1=none/\p.1≠X.env.locals/\p.1∉X.fs/\∀v,p.2.data≠.cell v
 aH:bH X.prog X.w H s.heap
 len:σ.length=X.N.length
section
variable{X:Cx}{pins:List (Addr×Obj)}{σ:List (Option V)}{H H':Hp}{s:Shared}{h':Heap}
theorem Cx.Ok.Bz(ok:X.Ok){b:Addr}{o:Obj}(e:X.base.get? b=some o):b∉X.fs:=λhb=>by
 have:=(ok.fR.mem hb).1;rw[e]at this;cases this
theorem Inv.bs(I:Inv X pins σ H s):∀b o,X.base.get? b=some o->s.heap.get? b=some o/\H b=none:=λb o e=>
 ⟨I.base.keep b o (I.ok.bs b o e).1 (I.ok.bs b o e).2 (I.ok.Bz e) (I.ok.mH b o e),I.base.free b o (I.ok.bs b o e).1 (I.ok.bs b o e).2 (I.ok.mH b o e)⟩
theorem Inv.bk(I:Inv X pins σ H s):∀b o,X.base.get? b=some o->s.heap.get? b=some o:=λb o e=>(I.bs b o e).1
theorem Inv.mod(I:Inv X pins σ H s):Mod X.K X.mg X.base:=I.ok.mod
theorem Inv.dy(I:Inv X pins σ H s):X.K.In s.heap:=I.ok.mod.oS.keeps I.bk
theorem Inv.lt(I:Inv X pins σ H s):X.env.locals<s.heap.objs.size:=let⟨_,hn,_⟩:=I.loc;hn.lt
theorem Inv.sz(I:Inv X pins σ H s):X.cv.heap.objs.size<=s.heap.objs.size:=Nat.le_trans I.ok.above (Nat.le_of_lt I.lt)
theorem Inv.yc(I:Inv X pins σ H s){a:Addr}(h:s.heap.objs.size<=a):a∉X.fs:=λhb=>by
 obtain⟨_,o,ho,_⟩:=I.ok.fR.mem hb;exact absurd (Nat.lt_of_lt_of_le (Heap.lt_size ho) (Nat.le_trans I.sz h)) (Nat.lt_irrefl _)
theorem Inv.gG(I:Inv X pins σ H s):∀x c,X.env.cells.lookup x=some c->c≠X.env.locals:=λx c e z=>by
 obtain⟨v,o,ho,hd⟩:=I.cell x c e;obtain⟨m,⟨o',es,ep,Ng,NY,_⟩,_⟩:=I.loc;rw[z,Ng]at ho;cases ho;rw[NY]at hd;cases hd
theorem Inv.fR(I:Inv X pins σ H s):s.heap.FunFrames X.base X.outer:=by
 have all:∀(l:List Env),(∀b∈d6 l,b∈X.fs)->X.cv.heap.FunFrames X.base l->s.heap.FunFrames X.base l:=by
   intro l
   induction l with
   |nil=>intro _ _;trivial
   | cons env r ih=>
     intro hs hl;obtain⟨hk,⟨L,o,hf,hn,ho,hd⟩,hr⟩:=hl;have hL:L∈X.fs:=hs L (by unfold d6;rw[List.filterMap_cons,hf];exact List.mem_cons_self)
     obtain⟨sl,e⟩:=I.base.slot L o ho (I.ok.jX L hL) hL λz=>I.ok.nU L z hL;exact⟨hk,⟨L,_,hf,hn,e,hd⟩,ih (λb hb=>hs b (by unfold d6;rw[List.filterMap_cons,hf];exact List.mem_cons_of_mem _ hb)) hr⟩
 exact all X.outer (λ_ hb=>hb) I.ok.fR
theorem Inv.stack(I:Inv X pins σ H s):s.heap.FunFrames X.base X.stack:=by
 rcases I.ok.nX with e|⟨e,hf⟩
 ·rw[e];exact I.fR
 · rw[e]
   obtain⟨m,hn,_⟩:=I.loc;refine .cons (by rw[I.ok.kind];decide) hf hn ?_ I.fR
   exact Heap.get?_none_of_le (Nat.le_trans I.ok.iG I.ok.above)
theorem Inv.oB(I:Inv X pins σ H s):∀b∈d6 X.stack,b∈X.env.locals::X.fs:=λb hb=>by
 rcases I.ok.nX with e|⟨e,hf⟩
 ·rw[e]at hb;exact List.mem_cons_of_mem _ hb
 · rw[e]at hb
   unfold d6 at hb;rw[List.filterMap_cons,hf]at hb;exact hb
theorem Inv.u6(I:Inv X pins σ H s):∀b∈d6 X.stack,H b=none:=λb hb=>by
 rcases List.mem_cons.mp (I.oB b hb)with e|hb
 ·rw[e];exact I.free
 · obtain⟨_,o,ho,_⟩:=I.ok.fR.mem hb
   exact I.base.free b o ho (I.ok.jX b hb) λz=>I.ok.nU b z hb
theorem Inv.step{g':Array GenState}{t':Nat}{d':Drawn}{ch:List Addr}(I:Inv X pins σ H s)
   (KN:∀b∈ch,(b∈X.ex\/X.cv.heap.objs.size<=b)/\b≠X.env.locals/\(∀x c,X.env.cells.lookup x=some c->c≠b)/\∀p∈X.pn++pins,p.1≠b)
   (keep:∀b o,b≠X.env.locals->b∉X.fs->b∉ch->s.heap.get? b=some o->H b=none->h'.get? b=some o)
   (slot:∀b o,b≠X.env.locals->b∈X.fs->b∉ch->s.heap.get? b=some o->H b=none->∃sl,h'.get? b=some {o with slots:=sl}) (free:∀b o,b∉ch->s.heap.get? b=some o->H b=none->H' b=none)
   (there:∀b o,b∉ch->s.heap.get? b=some o->∃o',h'.get? b=some o')
   (gC:∀b xs,H b=some (.tup xs)->H' b=some (.tup xs)) (fu:∀b o u,H b=some (.frz o u)->H' b=some (.frz o u)) (gJ:∀b ps,H b=some (.ja ps)->∃more,H' b=some (.ja (ps++more)))
   (ns:∀m,s.heap.Ns X.env.locals m->h'.Ns X.env.locals m) (aH:bH X.prog X.w H' h') (hg:AllBare g'):
   Inv X pins σ H' {s with heap:=h',gens:=g',drawn:=d',toks:=t'}:=by
 have Q7:∀b o,X.cv.heap.get? b=some o->b≠X.env.locals:=λb o e=>Nat.ne_of_lt (Nat.lt_of_lt_of_le (Heap.lt_size e) I.ok.above)
 have OR:∀b o,X.cv.heap.get? b=some o->b∉X.ex->b∉ch:=λb o e hx hb=>by
   rcases(KN b hb).1 with z|z
   ·exact hx z
   ·exact absurd (Nat.lt_of_lt_of_le (Heap.lt_size e) z) (Nat.lt_irrefl _)
 have cellK:∀x c,X.env.cells.lookup x=some c->∀v,s.heap.IsCell c v->h'.IsCell c v:=λx c e v ⟨o,ho,hd⟩=>by
   have LB:c∉ch:=λz=>(KN c z).2.2.1 x c e rfl;by_cases hc:c∈X.fs
   · obtain⟨sl,q⟩:=slot c o (I.gG x c e) hc LB ho (I.fI x c e)
     exact⟨_,q,hd⟩
   ·exact⟨o,keep c o (I.gG x c e) hc LB ho (I.fI x c e),hd⟩
 refine⟨I.ok,I.os,hg,⟨λb o e n hb hx=>?_,λb o e n hb hx=>?_,λb o e n hx=>?_,λb o e hx=>?_,λb xs e=>gC b xs (I.base.gC b xs e),λb o xs e=>fu b o xs (I.base.fu b o xs e),λb ps e=>?_⟩,?_,λx c e=>?_,?_,λx c e=>?_,λp hp=>?_,aH,I.len⟩
 ·exact keep b o (Q7 b o e) hb (OR b o e hx) (I.base.keep b o e n hb hx) (I.base.free b o e n hx)
 · obtain⟨sl,e1⟩:=I.base.slot b o e n hb hx
   obtain⟨SG,e2⟩:=slot b _ (Q7 b o e) hb (OR b o e hx) e1 (I.base.free b o e n hx);exact⟨SG,e2⟩
 · obtain⟨o',e1⟩:=I.base.there b o e hx
   exact free b o' (OR b o e hx) e1 (I.base.free b o e n hx)
 · obtain⟨o',e1⟩:=I.base.there b o e hx
   exact there b o' (OR b o e hx) e1
 · obtain⟨m1,e1⟩:=I.base.gJ b ps e
   obtain⟨m2,e2⟩:=gJ b _ e1;exact⟨m1++m2,by rw[e2,Array.append_assoc]⟩
 · obtain⟨m,hn,hl⟩:=I.loc
   refine⟨m,ns m hn,λi x v e1 e2 e3=>?_⟩;obtain⟨u,r,l⟩:=hl i x v e1 e2 e3;refine⟨u,r,?_⟩;rcases l with l|⟨k,c,e,z⟩
   ·exact .inl l
   ·exact .inr ⟨k,c,e,cellK x c e _ z⟩
 · obtain⟨v,z⟩:=I.cell x c e
   exact⟨v,cellK x c e v z⟩
 · obtain⟨m,⟨o,_,_,ho,_⟩,_⟩:=I.loc
   exact free _ o (λz=>(KN _ z).2.1 rfl) ho I.free
 · obtain⟨v,o,ho,hd⟩:=I.cell x c e
   exact free c o (λz=>(KN c z).2.2.1 x c e rfl) ho (I.fI x c e)
 · obtain⟨e,n,ne,nf,d⟩:=I.pin p hp
   have LB:p.1∉ch:=λz=>(KN p.1 z).2.2.2 p hp rfl;exact⟨keep p.1 p.2 ne nf LB e n,free p.1 p.2 LB e n,ne,nf,d⟩
theorem Inv.un{t':Nat}(I:Inv X pins σ H s)(u:Un X.fs [] H H' s.heap h')(aH:bH X.prog X.w H' h'):Inv X pins σ H' {s with heap:=h',toks:=t'}:=by
 obtain⟨m,⟨o,es,ep,ho,r⟩,_⟩:=id I.loc;obtain⟨sl,hL⟩:=u.any ho I.free (by simp)
 exact I.step (g':=s.gens) (d':=s.drawn) (ch:=[]) (λ_ z=>nomatch z) (λb o _ hb _ e n=>u.keep b o e n hb (by simp)) (λb o _ hb _ e n=>u.slot b o e n hb (by simp)) (λb o _ e n=>u.free b o e n (by simp)) (λb o _ e=>u.there b o e (by simp)) u.gC u.fu u.gJ (λm' hm=>by
   obtain⟨o',ME,Oa,Ng,r'⟩:=hm;rw[ho]at Ng;cases Ng;exact⟨_,ME,Oa,hL,r'⟩) aH I.bare
theorem Inv.call{g':Array GenState}{t':Nat}{d':Drawn}{ch:List Addr}(I:Inv X pins σ H s)(u:Un (d6 X.stack) ch H H' s.heap h')(aH:bH X.prog X.w H' h')(hg:AllBare g')
   (KN:∀b∈ch,(b∈X.ex\/X.cv.heap.objs.size<=b)/\b≠X.env.locals/\(∀x c,X.env.cells.lookup x=some c->c≠b)/\∀p∈X.pn++pins,p.1≠b):
   Inv X pins σ H' {s with heap:=h',gens:=g',drawn:=d',toks:=t'}:=by
 obtain⟨m,⟨o,es,ep,ho,r⟩,_⟩:=id I.loc;obtain⟨sl,hL⟩:=u.any ho I.free λz=>(KN _ z).2.1 rfl
 exact I.step (ch:=ch) KN (λb o hL hb hc e n=>u.keep b o e n (λz=>(List.mem_cons.mp (I.oB b z)).elim hL hb) hc) (λb o _ _ hc e n=>u.any e n hc) (λb o hc e n=>u.free b o e n hc) (λb o hc e=>u.there b o e hc) u.gC u.fu u.gJ (λm' hm=>by
   obtain⟨o',ME,Oa,Ng,r'⟩:=hm;rw[ho]at Ng;cases Ng;exact⟨_,ME,Oa,hL,r'⟩) aH hg
theorem Inv.turned{t':Nat}{it:Addr}(I:Inv X pins σ H s)(k:∀b o,b≠it->s.heap.get? b=some o->h'.get? b=some o)(hn:H it=none)(hL:it≠X.env.locals)
   (h1:it∈X.ex\/X.cv.heap.objs.size<=it) (h2:∀x c,X.env.cells.lookup x=some c->c≠it) (h3:∀p∈X.pn++pins,p.1≠it):Inv X pins σ H {s with heap:=h',toks:=t'}:=by
 have RM:∀b u,H b=some u->b≠it:=λb u e z=>by rw[z,hn]at e;cases e
 refine I.step (g':=s.gens) (d':=s.drawn) (ch:=[it]) (λb hb=>?_) (λb o _ _ hc e _=>k b o (λz=>hc (by simp[z])) e) (λb o _ _ hc e _=>⟨o.slots,k b o (λz=>hc (by simp[z])) e⟩) (λ_ _ _ _ n=>n)
   (λb o hc e=>⟨o,k b o (λz=>hc (by simp[z])) e⟩) (λ_ _ e=>e) (λ_ _ _ e=>e) (λb ps e=>⟨#[],by rw[e];simp⟩) (λm hm=>?_) (λb u e=>?_) I.bare
 · have e:b=it:=by simpa using hb
   subst e;exact⟨h1,hL,h2,h3⟩
 · obtain⟨o,es,ep,ho,r⟩:=hm
   exact⟨o,es,ep,k _ o (Ne.symm hL) ho,r⟩
 · refine(I.aH b u e).gW (λc v hc q=>k c v ?_ q) (λ_ q=>q) λ_ _ q=>q
   rcases hc with z|z
   ·rw[z];exact RM b u e
   ·exact RM c _ z
theorem Inv.tok(I:Inv X pins σ H s)(t:Nat):Inv X pins σ H {s with toks:=t}:=I.un (h':=s.heap) (t':=t) Un.refl I.aH
theorem Inv.kept{t':Nat}(I:Inv X pins σ H s)(k:∀b u,s.heap.get? b=some u->h'.get? b=some u):Inv X pins σ H {s with heap:=h',toks:=t'}:=I.un (Un.kept k) (I.aH.kept k)
theorem Inv.laid{a:Addr}{o:HO}{t':Nat}(I:Inv X pins σ H s)(k:∀b u,s.heap.get? b=some u->h'.get? b=some u)(hp:s.heap.objs.size<=a)(new:cF X.prog X.w (upd H a o) h' a o):
   Inv X pins σ (upd H a o) {s with heap:=h',toks:=t'}:=I.un (Un.laid k hp (I.aH.fresh hp)) (I.aH.laid k hp new)
theorem Inv.write{x e:Addr}{o:HO}{t':Nat}(I:Inv X pins σ H s)(mu:md (H x))(he:e=x\/H e=some (.own x))(k:∀b u,b≠e->s.heap.get? b=some u->h'.get? b=some u)(NF:∃u,h'.get? e=some u)
   (new:cF X.prog X.w (upd H x o) h' x o):Inv X pins σ (upd H x o) {s with heap:=h',toks:=t'}:=I.un (Un.write mu he k NF) (I.aH.write mu he k NF new)
theorem Inv.vo{MB:List (Addr×Obj)}(I:Inv X pins σ H s)(h:∀p∈MB,s.heap.get? p.1=some p.2/\H p.1=none/\p.1≠X.env.locals/\p.1∉X.fs/\∀v,p.2.data≠.cell v):Inv X MB σ H s:=
 ⟨I.ok,I.os,I.bare,I.base,I.loc,I.cell,I.free,I.fI,λp hp=>(List.mem_append.mp hp).elim (λz=>I.pin p (List.mem_append_left _ z)) (h p),I.aH,I.len⟩
theorem vq{N:List Str}(hN:N.Nodup){i j:Nat}{x:Str}(a:N[i]? =some x)(b:N[j]? =some x):i=j:=by
 obtain⟨h1,e1⟩:=List.getElem?_eq_some_iff.mp a;obtain⟨h2,e2⟩:=List.getElem?_eq_some_iff.mp b;exact(List.getElem_inj hN).mp (e1.trans e2.symm)
theorem vX{M:Model}{A:Around}{E:Value->Shared->Prop}{i:Nat}{x:Str}{v:V}{u:Value}{Q:Unit->Shared->Prop}(I:Inv X pins σ H s)(hN:X.N.Nodup)(hi:X.N[i]? =some x)(hx:Loc X.env.scope x)(r:RelV v u)
   (h:∀s',Inv X pins (σ.set i (some v)) H s'->(∃a,Heap.SameBut a s.heap s'.heap/\(a=X.env.locals\/X.env.cells.lookup x=some a))->Q () s') (hf:X.fn x=true\/X.env.scope.names.lookup x=some .local:=by first|exact .inl rfl|exact .inr rfl|assumption):wpAny M A (storeName X.env x u) Q E s:=by
 obtain⟨m,hn,hl⟩:=id I.loc;have Qz:(X.env.scope.kind==.class||(X.env.scope.kind==.module&&X.env.locals != X.env.globals))=false:=by rw[I.ok.kind];rfl
 have OK:i<σ.length:=by rw[I.len];exact(List.getElem?_eq_some_iff.mp hi).1
 have gG:=I.gG
 have tracked:∀ {a:Addr} {h':Heap},(∃o,s.heap.get? a=some o/\H a=none)->Heap.SameBut a s.heap h'->bH X.prog X.w H h':=λ{a h'} ha hs b ob e=>by
   obtain⟨_,_,MJ⟩:=ha;refine(I.aH b ob e).gW (λc w' hc q=>(hs.2 c ?_).trans q) (λ_ q=>q) λ_ _ q=>q;rintro rfl;rcases hc with rfl|hc
   ·rw[MJ]at e;cases e
   ·rw[MJ]at hc;cases hc
 rcases hx with hk|hk
 · refine wpAny_storeName_local hk hn (λh' Lh hs=>?_) Qz
   obtain⟨oL,_,_,R8,_⟩:=id hn;refine h _ ⟨I.ok,I.os,I.bare,⟨λb o e n hb hx=>?_,λb o e n hb hx=>?_,I.base.free,λb o e hx=>?_,I.base.gC,I.base.fu,I.base.gJ⟩,⟨_,Lh,λj y v' e1 e2 e3=>?_⟩,λy c e=>?_,I.free,I.fI,λp hp=>?_,tracked ⟨oL,R8,I.free⟩ hs,by simpa using I.len⟩ ⟨_,hs,.inl rfl⟩
   ·exact(hs.2 b (Nat.ne_of_lt (Nat.lt_of_lt_of_le (Heap.lt_size e) I.ok.above))).trans (I.base.keep b o e n hb hx)
   · obtain⟨sl,e1⟩:=I.base.slot b o e n hb hx
     exact⟨sl,(hs.2 b (Nat.ne_of_lt (Nat.lt_of_lt_of_le (Heap.lt_size e) I.ok.above))).trans e1⟩
   · obtain⟨o',e1⟩:=I.base.there b o e hx
     exact⟨o',(hs.2 b (Nat.ne_of_lt (Nat.lt_of_lt_of_le (Heap.lt_size e) I.ok.above))).trans e1⟩
   · by_cases hj:j=i
     · subst hj
       rw[hi]at e1;cases e1;rw[List.getElem?_set_self OK]at e2;cases e2;exact⟨u,r,.inl ⟨hk,by simp⟩⟩
     · rw[List.getElem?_set_ne (Ne.symm hj)]at e2
       obtain⟨u',r',q⟩:=hl j y v' e1 e2 e3;refine⟨u',r',?_⟩;rcases q with⟨k,e⟩|⟨k,c,e,z⟩
       · refine .inl ⟨k,?_⟩
         have:y≠x:=λe=>hj (vq hN e1 (e▸hi));simp[this,e]
       ·exact .inr ⟨k,c,e,z.sameBut hs (gG y c e)⟩
   · obtain⟨w',z⟩:=I.cell y c e
     exact⟨w',z.sameBut hs (gG y c e)⟩
   · obtain⟨e,n,ne,nf,d⟩:=I.pin p hp
     exact⟨(hs.2 p.1 ne).trans e,n,ne,nf,d⟩
 · have MA:X.fn x=true:=by
     rcases hf with z|z
     ·exact z
     ·rw[z]at hk;cases hk
   obtain⟨c,hc⟩:=I.ok.has x (.inl hk);obtain⟨w',z⟩:=I.cell x c hc;refine wpAny_storeName_cell I.ok.kind hk hc z (λh' Ld hs=>?_);obtain⟨oc,Rv,QZ⟩:=id z;refine h {s with heap:=h'} ⟨I.ok,I.os,I.bare,⟨λb o e n hb hx=>?_,λb o e n hb hx=>?_,I.base.free,λb o e hx=>?_,I.base.gC,I.base.fu,I.base.gJ⟩,⟨m,hn.sameBut hs (Ne.symm (gG x c hc)),λj y v' e1 e2 e3=>?_⟩,λy c' e=>?_,I.free,I.fI,λp hp=>?_,tracked ⟨oc,Rv,I.fI x c hc⟩ hs,by simpa using I.len⟩ ⟨c,hs,.inr hc⟩
   ·exact(hs.2 b (Nat.ne_of_lt (Nat.lt_of_lt_of_le (Heap.lt_size e) (I.ok.l7 x c MA hc)))).trans (I.base.keep b o e n hb hx)
   · obtain⟨sl,e1⟩:=I.base.slot b o e n hb hx
     exact⟨sl,(hs.2 b (Nat.ne_of_lt (Nat.lt_of_lt_of_le (Heap.lt_size e) (I.ok.l7 x c MA hc)))).trans e1⟩
   · obtain⟨o',e1⟩:=I.base.there b o e hx
     exact⟨o',(hs.2 b (Nat.ne_of_lt (Nat.lt_of_lt_of_le (Heap.lt_size e) (I.ok.l7 x c MA hc)))).trans e1⟩
   · by_cases hj:j=i
     · subst hj
       rw[hi]at e1;cases e1;rw[List.getElem?_set_self OK]at e2;cases e2;exact⟨u,r,.inr ⟨.inl hk,c,hc,Ld⟩⟩
     · rw[List.getElem?_set_ne (Ne.symm hj)]at e2
       obtain⟨u',r',q⟩:=hl j y v' e1 e2 e3;refine⟨u',r',?_⟩;rcases q with q|⟨k,c',e,z'⟩
       ·exact .inl q
       · refine .inr ⟨k,c',e,z'.sameBut hs ?_⟩
         rintro rfl;exact hj (vq hN e1 (I.ok.inj _ _ _ e hc▸hi))
   · by_cases O2:c'=c
     ·subst O2;exact⟨_,Ld⟩
     · obtain⟨w2,z2⟩:=I.cell y c' e
       exact⟨w2,z2.sameBut hs O2⟩
   · obtain⟨e,n,ne,nf,d⟩:=I.pin p hp
     refine⟨(hs.2 p.1 ?_).trans e,n,ne,nf,d⟩;intro q;rw[q,Rv]at e;have q':oc=p.2:=Option.some.inj e;exact d w' (by rw[<-q'];exact QZ)
theorem vA{M:Model}{A:Around}{E:Value->Shared->Prop}{i:Nat}{x:Str}{v:V}{u:Value}{Q:Unit->Shared->Prop}(I:Inv X pins σ H s)(hN:X.N.Nodup)(hi:X.N[i]? =some x)(hx:Loc X.env.scope x)(r:RelV v u)
   (h:∀s',Inv X pins (σ.set i (some v)) H s'->Q () s') (hf:X.fn x=true\/X.env.scope.names.lookup x=some .local:=by first|exact .inl rfl|exact .inr rfl|assumption):wpAny M A (storeName X.env x u) Q E s:=
 vX I hN hi hx r (λs' I' _=>h s' I') hf
theorem Inv.qZ{s':Shared}{ch:List Addr}(I:Inv X pins σ H s)(ho:s'.os=s.os)(u:Un (d6 X.stack) ch H H' s.heap s'.heap)(aH:bH X.prog X.w H' s'.heap)(hg:AllBare s'.gens)
   (KN:∀b∈ch,(b∈X.ex\/X.cv.heap.objs.size<=b)/\b≠X.env.locals/\(∀x c,X.env.cells.lookup x=some c->c≠b)/\∀p∈X.pn++pins,p.1≠b):Inv X pins σ H' s':=by
 obtain⟨h',g',d',t',o'⟩:=s';have e:o'=s.os:=ho;subst e;exact I.call (g':=g') (t':=t') (d':=d') u aH hg KN
end
noncomputable abbrev XK:=Value->Option Addr->Hp->Prop
noncomputable abbrev St:=List (Option V)
noncomputable abbrev VK:=V->Hp->Prop
noncomputable abbrev TE:=St->Hp->VK->Prop
noncomputable abbrev TT:=St->Hp->(Bool->Hp->Prop)->Prop
noncomputable abbrev TA:=St->Hp->(List V->Hp->Prop)->Prop
structure Ends where
 nx:St->Hp->Prop
 rt:VK
 bk:St->Hp->Prop:=λ_ _=>False
 ct:St->Hp->Prop:=λ_ _=>False
noncomputable abbrev TS:=Ends->St->Hp->Prop
def EP(X:Cx)(pins:List (Addr×Obj))(σ:St)(Q:VK)(u:Value)(s':Shared):Prop:=∃v H',Inv X pins σ H' s'/\RelV v u/\Q v H'
def TP(X:Cx)(pins:List (Addr×Obj))(σ:St)(Q:Bool->Hp->Prop)(b:Bool)(s':Shared):Prop:=∃H',Inv X pins σ H' s'/\Q b H'
def AP(X:Cx)(pins:List (Addr×Obj))(σ:St)(Q:List V->Hp->Prop)(us:List Value)(s':Shared):Prop:=∃vs H',Inv X pins σ H' s'/\Vals vs us/\Q vs H'
def SP(X:Cx)(pins:List (Addr×Obj))(D:Ends)(f:Flow)(s':Shared):Prop:=
 match f with
 |.next=>∃Jl H',Inv X pins Jl H' s'/\D.nx Jl H'
 |.brk=>∃Jl H',Inv X pins Jl H' s'/\D.bk Jl H'
 |.cont=>∃Jl H',Inv X pins Jl H' s'/\D.ct Jl H'
 |.ret u=>∃v Jl H',Inv X pins Jl H' s'/\RelV v u/\D.rt v H'
def PE(X:Cx)(e:Expr)(t:TE):Prop:=
 ∀(pins:List (Addr×Obj)) (s:Shared) (σ:St) (H:Hp) (Q:VK),Inv X pins σ H s->t σ H Q->wpAny (model X.prog X.w) X.A (eval e X.env) (EP X pins σ Q) X.xe s
def PT(X:Cx)(e:Expr)(t:TT):Prop:=
 ∀(pins:List (Addr×Obj)) (s:Shared) (σ:St) (H:Hp) (Q:Bool->Hp->Prop),Inv X pins σ H s->t σ H Q->wpAny (model X.prog X.w) X.A (isTrue e X.env (eval e X.env)) (TP X pins σ Q) X.xe s
def PW(X:Cx)(e:Expr)(t:TT):Prop:=
 ∀(whole:Sem Value) (pins:List (Addr×Obj)) (s:Shared) (σ:St) (H:Hp) (Q:Bool->Hp->Prop),Inv X pins σ H s->t σ H Q->wpAny (model X.prog X.w) X.A (isTrue e X.env whole) (TP X pins σ Q) X.xe s
theorem PW.pt{X:Cx}{e:Expr}{t:TT}(h:PW X e t):PT X e t:=h _
def PA(X:Cx)(es:List Expr)(t:TA):Prop:=
 ∀(pos:Pos) (pins:List (Addr×Obj)) (s:Shared) (σ:St) (H:Hp) (Q:List V->Hp->Prop),Inv X pins σ H s->t σ H Q->wpAny (model X.prog X.w) X.A (spliced (backTo pos (starEach es X.env))) (AP X pins σ Q) X.xe s
def PS(X:Cx)(st:Stmt)(t:TS):Prop:=
 ∀(pins:List (Addr×Obj)) (s:Shared) (σ:St) (H:Hp) (D:Ends),Inv X pins σ H s->t D σ H->wpAny (model X.prog X.w) X.A (exec st X.env) (SP X pins D) X.xe s
def bQ(X:Cx)(st:List Stmt)(t:TS):Prop:=
 ∀(pins:List (Addr×Obj)) (s:Shared) (σ:St) (H:Hp) (D:Ends),Inv X pins σ H s->t D σ H->wpAny (model X.prog X.w) X.A (execs st X.env) (SP X pins D) X.xe s
theorem aJ{α:Type}{t:Sem α}{Q Q':α->Shared->Prop}{M:Model}{A:Around}{E:Value->Shared->Prop}{s:Shared}(h:wpAny M A t Q E s)(hQ:∀a s,Q a s->Q' a s):wpAny M A t Q' E s:=wpAny_mono h hQ λ_ _ x=>x
end L2
namespace L2
open PySem PySem.Spec PyProof.Rows
section
variable{X:Cx}
theorem bin{a b:Expr}{ta tb:TE}(ha:PE X a ta)(hb:PE X b tb){pins:List (Addr×Obj)}{s:Shared}{σ:St}{H:Hp}{R:V->V->Hp->Prop}(I:Inv X pins σ H s)(h:ta σ H λx H1=>tb σ H1 λy H2=>R x y H2)
   {α:Type} {Q:α->Shared->Prop} {f:Value->Value->Sem α}
   (hf:∀v u s2 x y H2,Inv X pins σ H2 s2->RelV x v->RelV y u->R x y H2->wpAny (model X.prog X.w) X.A (f v u) Q X.xe s2):
   wpAny (model X.prog X.w) X.A (eval a X.env) (λv Jm=>wpAny (model X.prog X.w) X.A (eval b X.env) (λu K2=>wpAny (model X.prog X.w) X.A (f v u) Q X.xe K2) X.xe Jm) X.xe s:=by
 refine aJ (ha pins s σ H _ I h) λv s1 ⟨x,H1,I1,r1,q1⟩=>?_;refine aJ (hb pins s1 σ H1 _ I1 q1) λu s2 ⟨y,H2,I2,r2,q2⟩=>?_;exact hf v u s2 x y H2 I2 r1 r2 q2
def vt(i:Nat):TE:=λσ H Q=>∃v,σ[i]? =some (some v)/\Q v H
def tC(v:V):TE:=λ_ H Q=>Q v H
theorem yv{i:Nat}{x:Str}{pos:Pos}(hN:X.N[i]? =some x)(hv:cf X.env.scope x)(hd:(x==("__debug__":Str))=false:=by decide)(Jx:(x==("__classdict__":Str))=false:=by decide):PE X (.Name x pos) (vt i):=by
 intro pins s σ H Q I h;obtain⟨v,e,h⟩:=h;obtain⟨m,hn,hl⟩:=I.loc;obtain⟨u,r,l⟩:=hl i x v hN e hv;have fin:EP X pins σ Q u s:=⟨v,H,I,r,h⟩;rcases l with⟨hk,hm⟩|⟨hk,c,hc,K0⟩
 ·exact wpAny_Name (wpAny_loadName_local I.ok.kind hk hn hm fin) hd
 · rcases hk with hk|hk
   ·exact wpAny_Name (wpAny_loadName_cell I.ok.kind hk hc K0 fin) hd
   ·exact wpAny_Name (wpAny_loadName_free I.ok.kind hk hc K0 fin Jx) hd
theorem Hl{i j pos}:PE X (.Constant (.int i) j pos) (tC (.int i)):=λ_ _ _ H _ I h=>wpAny_Constant_int ⟨.int i,H,I.tok _,⟨_,rfl⟩,h⟩
theorem Bf{b j pos}:PE X (.Constant (.bool b) j pos) (tC (.bl b)):=λ_ _ _ H _ I h=>Constant_bool ⟨.bl b,H,I,rfl,h⟩
theorem yI{j pos}:PE X (.Constant .none j pos) (tC .aD):=λ_ _ _ H _ I h=>Constant_none ⟨.aD,H,I,rfl,h⟩
theorem GS{x j pos}:PE X (.Constant (.str x) j pos) (tC (.str x)):=λ_ _ _ H _ I h=>Calls.Constant_str ⟨.str x,H,I.tok _,⟨_,rfl⟩,h⟩
def Gl(X:Cx)(x:Str):Prop:=X.env.kindOf x=some .globalImplicit
theorem vT{E:Value->Shared->Prop}{pins:List (Addr×Obj)}{s:Shared}{σ:St}{H:Hp}{x:Str}{u:Value}{pos:Pos}{Q:Value->Shared->Prop}(I:Inv X pins σ H s)(hg:Gl X x)(hm:X.mg x=some u)(h:Q u s)
   (hd:(x==("__debug__":Str))=false:=by decide):wpAny (model X.prog X.w) X.A (eval (.Name x pos) X.env) Q E s:=
 Calls.Name_function_global I.ok.kind hg (Calls.loadGlobal_global (by rw[I.ok.glob];exact I.mod.glob.keeps I.bk) hm h) hd
theorem jS{E:Value->Shared->Prop}{pins:List (Addr×Obj)}{s:Shared}{σ:St}{H:Hp}{x:Str}{u:Value}{pos:Pos}{Q:Value->Shared->Prop}(I:Inv X pins σ H s)(hg:Gl X x)(hm:X.mg x=none)(hv:bootBuiltins x=some u)(h:Q u s)
   (hn:x≠"__name__":=by decide) (hd:(x==("__debug__":Str))=false:=by decide):wpAny (model X.prog X.w) X.A (eval (.Name x pos) X.env) Q E s:=by
 obtain⟨mb,h1,h2⟩:=I.mod.blt;exact Calls.Name_function_global I.ok.kind hg (Calls.loadGlobal_builtin (by rw[I.ok.glob];exact I.mod.glob.keeps I.bk) hm (by rw[I.ok.blt];exact h1.keeps I.bk) ((h2 x hn).trans hv) h) hd
theorem Cw{x:Str}{v:V}{u:Value}{pos:Pos}(hg:Gl X x)(hm:X.mg x=some u)(r:RelV v u)(hd:(x==("__debug__":Str))=false:=by decide):PE X (.Name x pos) (tC v):=
 λ_ _ _ H _ I h=>vT I hg hm ⟨v,H,I,r,h⟩ hd
theorem C2{x:Str}{v:V}{u:Value}{pos:Pos}(hg:Gl X x)(hm:X.mg x=none)(hv:bootBuiltins x=some u)(r:RelV v u)(hn:x≠"__name__":=by decide)(hd:(x==("__debug__":Str))=false:=by decide):PE X (.Name x pos) (tC v):=
 λ_ _ _ H _ I h=>jS I hg hm hv ⟨v,H,I,r,h⟩ hn hd
variable{a b:Expr}{ta tb:TE}{pos:Pos}
def PC(X:Cx)(op:CmpOp)(a b:Expr)(t:TE):Prop:=
 ∀(pins:List (Addr×Obj)) (s:Shared) (σ:St) (H:Hp) (Q:VK),Inv X pins σ H s->t σ H Q->
   wpAny (model X.prog X.w) X.A (eval a X.env) (λv Jm=>wpAny (model X.prog X.w) X.A (eval b X.env) (λu K2=>wpAny (model X.prog X.w) X.A (compareOp op v u) (EP X pins σ Q) X.xe K2) X.xe Jm) X.xe s
theorem tU(b:Expr){op:CmpOp}(h:op≠.In)(h2:op≠.NotIn):behindInMarks op b=false:=by
 have e1:(op==CmpOp.In)=false:=by cases op<;>first|rfl|exact absurd rfl h
 have e2:(op==CmpOp.NotIn)=false:=by cases op<;>first|rfl|exact absurd rfl h2
 cases b<;>simp[behindInMarks,e1,e2]
def zJ(ta:TE):TE:=λσ H Q=>ta σ H λx H1=>Q (.bl (decide (x=.aD))) H1
def DS(ta:TE):TE:=λσ H Q=>ta σ H λx H1=>Q (.bl (!decide (x=.aD))) H1
theorem RelV.xi{x:V}{v:Value}(r:RelV x v):(v==Value.none)=decide (x=.aD):=by
 cases x with
 |aD=>cases r;rfl
 |bl _=>cases r;rfl
 |int _=>obtain⟨t,rfl⟩:=r;rfl
 |str _=>obtain⟨t,rfl⟩:=r;rfl
 |jI _=>obtain⟨t,rfl⟩:=r;rfl
 |m7 _=>obtain⟨t,rfl⟩:=r;rfl
 |ref _=>cases r;rfl
 |ty _=>cases r;rfl
theorem sW{j pos'}(ha:PE X a ta):PC X .Is a (.Constant .none j pos') (zJ ta):=by
 intro pins s σ H Q I h;refine aJ (ha pins s σ H _ I h) λv s1 ⟨x,H1,I1,r1,q1⟩=>?_;exact Constant_none (is_none_gen ⟨.bl _,H1,I1,by rw[r1.xi];rfl,q1⟩)
theorem Hx{j pos'}(ha:PE X a ta):PC X .IsNot a (.Constant .none j pos') (DS ta):=by
 intro pins s σ H Q I h;refine aJ (ha pins s σ H _ I h) λv s1 ⟨x,H1,I1,r1,q1⟩=>?_;exact Constant_none (isnot_none_gen ⟨.bl _,H1,I1,by rw[r1.xi];rfl,q1⟩)
def tB(t:TE):TT:=λσ H Q=>t σ H λx H1=>∃c,x=.bl c/\Q c H1
theorem zN{op:CmpOp}{t:TE}(h:PC X op a b t)(h1:behindInMarks op b=false:=by first|exact tU _ (by decide) (by decide)|rfl):PE X (.Compare a [op] [b] pos) t:=λpins s σ H Q I hw=>wpAny_Compare1 (h pins s σ H Q I hw) h1
theorem tM{op:CmpOp}{t:TE}(h:PC X op a b t)(h1:behindInMarks op b=false:=by first|exact tU _ (by decide) (by decide)|rfl):PT X (.Compare a [op] [b] pos) (tB t):=by
 intro pins s σ H Q I hw;refine wpAny_isTrue_Compare1 (aJ (h pins s σ H _ I hw) λv s1 h1=>aJ h1 λu s2 h2=>aJ h2 λc s3 ⟨x,H1,I1,r1,q1⟩=>?_) h1;obtain⟨d,rfl,q⟩:=q1;cases r1;exact wpAny_truthy_bool ⟨H1,I1,q⟩
variable{tA O3:TT}{rest:List Expr}
def ba(t u:TT):TT:=λσ H Q=>t σ H λc H1=>if c=true then u σ H1 Q else Q false H1
def ee(t u:TT):TT:=λσ H Q=>t σ H λc H1=>if c=true then Q true H1 else u σ H1 Q
def eY(t:TT):TT:=λσ H Q=>t σ H λc H1=>Q (!c) H1
theorem Fc(ha:PT X a tA):PW X (.BoolOp .And [a] pos) tA:=by
 intro wh pins s σ H Q I h;refine isTrue_and (aJ (ha pins s σ H Q I h) λc s1 e=>?_);cases c with
 |true=>exact isTrue_and_nil e
 |false=>exact e
theorem Hn(ha:PT X a tA):PW X (.BoolOp .Or [a] pos) tA:=by
 intro wh pins s σ H Q I h;refine isTrue_or (aJ (ha pins s σ H Q I h) λc s1 e=>?_);cases c with
 |false=>exact isTrue_or_nil e
 |true=>exact e
theorem Ar(ha:PT X a tA)(hb:PW X (.BoolOp .And (b::rest) pos) O3):PW X (.BoolOp .And (a::b::rest) pos) (ba tA O3):=by
 intro wh pins s σ H Q I h;refine isTrue_and (aJ (ha pins s σ H _ I h) λc s1 ⟨H1,I1,q1⟩=>?_);cases c with
 |true=>exact hb wh pins s1 σ H1 Q I1 q1
 |false=>exact⟨H1,I1,q1⟩
theorem GW(ha:PT X a tA)(hb:PW X (.BoolOp .Or (b::rest) pos) O3):PW X (.BoolOp .Or (a::b::rest) pos) (ee tA O3):=by
 intro wh pins s σ H Q I h;refine isTrue_or (aJ (ha pins s σ H _ I h) λc s1 ⟨H1,I1,q1⟩=>?_);cases c with
 |true=>exact⟨H1,I1,q1⟩
 |false=>exact hb wh pins s1 σ H1 Q I1 q1
theorem GD(ha:PT X a tA):PT X (.UnaryOp .Not a pos) (eY tA):=by
 intro pins s σ H Q I h;exact isTrue_not (ha pins s σ H (λc H1=>Q (!c) H1) I h)
def Ah(ta tb:TE):TE:=λσ H Q=>ta σ H λx H1=>∃c,x=.bl c/\if c=true then tb σ H1 Q else Q (.bl false) H1
def Ak(ta:TE):TE:=λσ H Q=>ta σ H λx H1=>∃c,x=.bl c/\Q (.bl (!c)) H1
theorem GX{op}{t:TE}(h:PE X a t):PE X (.BoolOp op [a] pos) t:=λpins s σ H Q I hw=>BoolOp_one (h pins s σ H Q I hw)
theorem DL(ha:PE X a ta)(hb:PE X (.BoolOp .And (b::rest) pos) tb):PE X (.BoolOp .And (a::b::rest) pos) (Ah ta tb):=by
 intro pins s σ H Q I h;refine BoolOp_and (aJ (ha pins s σ H _ I h) λv s1 ⟨x,H1,I1,r1,q1⟩=>?_);obtain⟨c,rfl,q1⟩:=q1;cases r1;refine wpAny_truthy_bool ?_;cases c with
 |true=>exact hb pins s1 σ H1 Q I1 q1
 |false=>exact⟨.bl false,H1,I1,rfl,q1⟩
theorem Gd(ha:PE X a ta):PE X (.UnaryOp .Not a pos) (Ak ta):=by
 intro pins s σ H Q I h;refine UnaryOp_ (aJ (ha pins s σ H _ I h) λv s1 ⟨x,H1,I1,r1,q1⟩=>?_);obtain⟨c,rfl,q1⟩:=q1;cases r1;exact not_of (wpAny_truthy_bool ⟨.bl (!c),H1,I1,rfl,q1⟩)
end
end L2
namespace L2
open PySem PySem.Spec PyProof.Rows
def a8(K:PySem.W.Frag)(H:Hp)(a:Addr)(xs:List V):Prop:=
 Rd H a (.lst xs)\/
   ∃(o:Obj) (aj:Array Value) (n:Nat),K.lookup a=some o/\o.cls=.type "list"/\o.dict=none/\o.data=.seq aj n/\aj.size<=sizeLine/\Vals xs aj.toList
def bo(K:PySem.W.Frag)(H:Hp)(a:Addr)(xs:List V):Prop:=
 Rd H a (.tup xs)\/
   ∃(o:Obj) (aj:Array Value) (n:Nat),K.lookup a=some o/\o.cls=.type "tuple"/\o.data=.seq aj n/\aj.size<=sizeLine/\Vals xs aj.toList
noncomputable def yr:Value->Option V
 |.none=>some .aD
 |.bool b=>some (.bl b)
 |.int i _=>some (.int i)
 |.str x _=>some (.str x)
 |.bytes b _=>some (.jI b)
 |.float b _=>some (.m7 b)
 |.ref a=>some (.ref a)
 |.type n=>some (.ty n)
 |_=>none
theorem RelV.abs{x:V}{u:Value}(r:RelV x u):yr u=some x:=by
 cases x with
 |aD=>cases r;rfl
 |bl _=>cases r;rfl
 |int _=>obtain⟨t,rfl⟩:=r;rfl
 |str _=>obtain⟨t,rfl⟩:=r;rfl
 |jI _=>obtain⟨t,rfl⟩:=r;rfl
 |m7 _=>obtain⟨t,rfl⟩:=r;rfl
 |ref _=>cases r;rfl
 |ty _=>cases r;rfl
theorem RelV.inj{x y:V}{u:Value}(r:RelV x u)(q:RelV y u):x=y:=Option.some.inj (r.abs.symm.trans q.abs)
theorem Vals.inj:∀ {xs ys:List V} {us:List Value},Vals xs us->Vals ys us->xs=ys
 |_,_,_,.nil,.nil=>rfl
 |_,_,_,.cons r t,.cons r' t'=>by rw[r.inj r',Vals.inj t t']
section
variable{X:Cx}{pins:List (Addr×Obj)}{σ:St}{H:Hp}{s:Shared}{a:Addr}{xs ys:List V}
theorem a8.of{K:PySem.W.Frag}(h:H a=some (.lst xs)):a8 K H a xs:=.inl (.inl h)
theorem Inv.list(I:Inv X pins σ H s)(h:a8 X.K H a xs):∃aj:List Value,Vals xs aj/\PlainL s.heap a aj.toArray/\xs.length<=sizeLine:=by
 rcases h with h|⟨o,aj,n,hk,hc,hd,hs,hz,r⟩
 · obtain⟨z,aj,n,r,e⟩:=h.ok I.aH
   exact⟨aj,r,⟨_,n,e,rfl,rfl,rfl⟩,z⟩
 · refine⟨aj.toList,r,⟨o,n,I.dy a o hk,hc,hd,by simpa using hs⟩,?_⟩
   have e:=r.length;simp only[Array.length_toList]at e;omega
theorem Inv.tuple(I:Inv X pins σ H s)(h:bo X.K H a xs):∃aj:List Value,Vals xs aj/\IsTup s.heap a aj.toArray/\xs.length<=sizeLine:=by
 rcases h with h|⟨o,aj,n,hk,hc,hs,hz,r⟩
 · obtain⟨z,aj,r,p⟩:=h.ok I.aH
   exact⟨aj,r,p,z⟩
 · refine⟨aj.toList,r,⟨o,I.dy a o hk,hc,n,by simpa using hs⟩,?_⟩
   have e:=r.length;simp only[Array.length_toList]at e;omega
theorem Inv.xK(I:Inv X pins σ H s)(h:a8 X.K H a xs)(h':a8 X.K H a ys):xs=ys:=by
 obtain⟨aj,r,⟨o,n,e,_,_,d⟩,_⟩:=I.list h;obtain⟨its',r',⟨o',n',e',_,_,d'⟩,_⟩:=I.list h';rw[e]at e';cases e';rw[d]at d';injection d' with d1 _;have:aj=its':=by simpa using congrArg Array.toList d1
 subst this;exact r.inj r'
theorem Inv.tO(I:Inv X pins σ H s)(h:bo X.K H a xs)(h':bo X.K H a ys):xs=ys:=by
 obtain⟨aj,r,⟨o,e,_,n,d⟩,_⟩:=I.tuple h;obtain⟨its',r',⟨o',e',_,n',d'⟩,_⟩:=I.tuple h';rw[e]at e';cases e';rw[d]at d';injection d' with d1 _;have:aj=its':=by simpa using congrArg Array.toList d1
 subst this;exact r.inj r'
end
noncomputable abbrev Cx.gc(X:Cx)(E:Value->Shared->Prop):Cx:={X with xe:=E}
noncomputable abbrev Cx.fT(X:Cx):Cx:=X.gc λ_ _=>False
theorem Cx.Ok.gc{X:Cx}(ok:X.Ok)(E:Value->Shared->Prop):(X.gc E).Ok:=
 ⟨ok.mod,ok.kind,ok.glob,ok.blt,ok.above,ok.inj,ok.has,ok.l7,ok.hd,ok.frames,ok.nX,ok.xv,ok.bs,ok.iG,ok.mH,ok.nU,ok.fR,ok.jX⟩
theorem Cx.Ok.iL{X:Cx}{E:Value->Shared->Prop}(ok:(X.gc E).Ok):X.Ok:=
 ⟨ok.mod,ok.kind,ok.glob,ok.blt,ok.above,ok.inj,ok.has,ok.l7,ok.hd,ok.frames,ok.nX,ok.xv,ok.bs,ok.iG,ok.mH,ok.nU,ok.fR,ok.jX⟩
section
variable{X:Cx}{pins:List (Addr×Obj)}{σ:St}{H:Hp}{s:Shared}{E:Value->Shared->Prop}
theorem Inv.gc(I:Inv X pins σ H s)(E:Value->Shared->Prop):Inv (X.gc E) pins σ H s:=⟨I.ok.gc E,I.os,I.bare,I.base,I.loc,I.cell,I.free,I.fI,I.pin,I.aH,I.len⟩
theorem Inv.iL(I:Inv (X.gc E) pins σ H s):Inv X pins σ H s:=⟨I.ok.iL,I.os,I.bare,I.base,I.loc,I.cell,I.free,I.fI,I.pin,I.aH,I.len⟩
theorem SP.iL{D:Ends}{f:Flow}{s':Shared}(h:SP (X.gc E) pins D f s'):SP X pins D f s':=by
 cases f with
 |next=>obtain⟨Jl,H',I,q⟩:=h;exact⟨Jl,H',I.iL,q⟩
 |brk=>obtain⟨Jl,H',I,q⟩:=h;exact⟨Jl,H',I.iL,q⟩
 |cont=>obtain⟨Jl,H',I,q⟩:=h;exact⟨Jl,H',I.iL,q⟩
 |ret u=>obtain⟨v,Jl,H',I,r,q⟩:=h;exact⟨v,Jl,H',I.iL,r,q⟩
theorem bQ.fT{st:List Stmt}{t:TS}(h:bQ X.fT st t):bQ X st t:=λpins s σ H D I hw=>
 wpAny_mono (h pins s σ H D (I.gc _) hw) (λ_ _ q=>q.iL) λ_ _ z=>False.elim z
end
section
variable{X:Cx}{st:Stmt}{rest:List Stmt}{t u:TS}{e:Expr}{te:TE}{pos:Pos}
def GY:TS:=λD σ H=>D.nx σ H
def wM(t u:TS):TS:=λD σ H=>t {D with nx:=u D} σ H
theorem DO:bQ X [] GY:=λ_ _ σ H _ I h=>wpAny_execs_nil ⟨σ,H,I,h⟩
theorem HV(h1:PS X st t)(h2:bQ X rest u):bQ X (st::rest) (wM t u):=by
 intro pins s σ H D I h;refine wpAny_execs_cons (aJ (h1 pins s σ H {D with nx:=u D} I h) λf s1 q=>?_);cases f with
 | next=>
   obtain⟨Jl,H',I',q⟩:=q;exact h2 pins s1 Jl H' D I' q
 |ret v=>exact q
 |brk=>exact q
 |cont=>exact q
theorem AS(h1:PS X st t):bQ X [st] t:=by
 intro pins s σ H D I h;refine wpAny_execs_cons (aJ (h1 pins s σ H D I h) λf s1 q=>?_);cases f with
 |next=>exact wpAny_execs_nil q
 |ret v=>exact q
 |brk=>exact q
 |cont=>exact q
theorem Inv.quiet{pins:List (Addr×Obj)}{σ:St}{H:Hp}{s:Shared}(I:Inv X pins σ H s):interactive X.env=false:=by simp[interactive,I.ok.kind]
def Ad(te:TE):TS:=λD σ H=>te σ H λ_ H1=>D.nx σ H1
theorem oG(he:PE X e te)(hs:swapsWith e none pos.line X.env=pure false:=by rfl):PS X (.Expr e pos) (Ad te):=by
 intro pins s σ H D I h;exact wpAny_Expr_any (aJ (he pins s σ H _ I h) λv s1 ⟨x,H1,I1,r1,q1⟩=>⟨σ,H1,I1,q1⟩) I.quiet hs
def FX(te:TE):TS:=λD σ H=>te σ H D.rt
theorem jZ(he:PE X e te):PS X (.Return (some e) pos) (FX te):=by
 intro pins s σ H D I h;exact wpAny_Return_some (aJ (he pins s σ H _ I h) λv s1 ⟨x,H1,I1,r1,q1⟩=>⟨x,σ,H1,I1,r1,q1⟩)
def Cc(c:TT)(t u:TS):TS:=λD σ H=>c σ H λb H1=>if b=true then t D σ H1 else u D σ H1
theorem yX{c:Expr}{a b:List Stmt}{tc:TT}(hc:PT X c tc)(ha:bQ X a t)(hb:bQ X b u):PS X (.If c a b pos) (Cc tc t u):=by
 intro pins s σ H D I h;refine wpAny_If (aJ (hc pins s σ H _ I h) λd s1 ⟨H1,I1,q1⟩=>?_);cases d with
 |true=>exact ha pins s1 σ H1 D I1 q1
 |false=>exact hb pins s1 σ H1 D I1 q1
end
noncomputable abbrev TG:=V->St->Hp->(St->Hp->Prop)->Prop
noncomputable abbrev gd:=List V->St->Hp->(St->Hp->Prop)->Prop
def PG(X:Cx)(target:Expr)(t:TG):Prop:=
 ∀(pins:List (Addr×Obj)) (s:Shared) (σ:St) (H:Hp) (v:V) (u:Value) (Q:St->Hp->Prop),Inv X pins σ H s->RelV v u->t v σ H Q->
   wpAny (model X.prog X.w) X.A (assign target X.env u) (λ_ s'=>∃Jl H',Inv X pins Jl H' s'/\Q Jl H') X.xe s
def cH(X:Cx)(ts:List Expr)(t:gd):Prop:=
 ∀(pins:List (Addr×Obj)) (s:Shared) (σ:St) (H:Hp) (vs:List V) (us:List Value) (Q:St->Hp->Prop),Inv X pins σ H s->Vals vs us->t vs σ H Q->
   wpAny (model X.prog X.w) X.A (assignInOrder ((assignEach ts X.env).map (·.2)) us) (λ_ s'=>∃Jl H',Inv X pins Jl H' s'/\Q Jl H') X.xe s
noncomputable abbrev qP:=V->V->V->Hp->(Hp->Prop)->Prop
def sP(X:Cx)(t:qP):Prop:=
 ∀(pins:List (Addr×Obj)) (s:Shared) (σ:St) (H:Hp) (o i v:V) (ov iv u:Value) (Q:Hp->Prop),Inv X pins σ H s->RelV o ov->RelV i iv->RelV v u->t o i v H Q->
   wpAny (model X.prog X.w) X.A (setItem ov iv u) (λ_ s'=>∃H',Inv X pins σ H' s'/\Q H') X.xe s
section
variable{X:Cx}{pos:Pos}
def az(i:Nat):TG:=λv σ H Q=>Q (σ.set i (some v)) H
theorem HC{i:Nat}{x:Str}(hN:X.N.Nodup)(hi:X.N[i]? =some x)(hx:Loc X.env.scope x)(hf:X.fn x=true\/X.env.scope.names.lookup x=some .local:=by first|exact .inl rfl|exact .inr rfl|assumption):PG X (.Name x pos) (az i):=by
 intro pins s σ H v u Q I r h;exact wpAny_assign_Name (vA I hN hi hx r (λs' I'=>⟨_,H,I',h⟩) hf)
noncomputable def Ft:gd:=λvs σ H Q=>vs=[]/\Q σ H
noncomputable def t4(t:TG)(u:gd):gd:=λvs σ H Q=>∃v r,vs=v::r/\t v σ H λJl H'=>u r Jl H' Q
theorem Cr:cH X [] Ft:=by
 intro pins s σ H vs us Q I r h;obtain⟨e,h⟩:=h;subst e;cases r;exact assignInOrder_nil ⟨σ,H,I,h⟩
theorem DC{e:Expr}{es:List Expr}{t:TG}{u:gd}(h1:PG X e t)(h2:cH X es u)
   (hs:(assignEach (e::es) X.env).map (·.2)=assign e X.env::(assignEach es X.env).map (·.2):=by rfl):cH X (e::es) (t4 t u):=by
 intro pins s σ H vs us Q I r h;obtain⟨v,vr,e1,h⟩:=h;subst e1;cases r with
 | cons r rr=>
   rw[hs];refine assignInOrder_cons (aJ (h1 pins s σ H _ _ _ I r h) λ_ s1 ⟨LR,H1,I1,q1⟩=>?_);exact h2 pins s1 LR H1 _ _ Q I1 rr q1
def hV(K:PySem.W.Frag)(n:Nat)(t:gd):TG:=λv σ H Q=>∃a xs,v=.ref a/\bo K H a xs/\xs.length=n/\t xs σ H Q
theorem FF{es:List Expr}{k:Nat}{t:gd}{n:Nat}(hc:X.calm=true)(h:cH X es t)
   (hn:(assignEach es X.env).length=n:=by rfl) (Mm:(assignEach es X.env).findIdx? (·.1)=none:=by rfl):PG X (.Tuple es k pos) (hV X.K n t):=by
 intro pins s σ H v u Q I r hw;obtain⟨a,xs,e1,hq,hl,hw⟩:=hw;subst e1;cases r;obtain⟨aj,rv,ht,hz⟩:=I.tuple hq;refine assign_Tuple_tuple (I.ok.hd hc) ht (by simp[hn, <-hl,rv.length]) Mm λh' hx=>?_
 have I1:Inv X pins σ H {s with heap:=h'}:=I.kept (t':=s.toks) λb o e=>hx b o (Nat.ne_of_lt (Heap.lt_size e)) e;exact h pins _ σ H xs _ Q I1 (by simpa using rv) hw
def Ho(to ti:TE)(t:qP):TG:=λv σ H Q=>to σ H λo H1=>ti σ H1 λi H2=>t o i v H2 λH3=>Q σ H3
theorem vz{o i:Expr}{to ti:TE}{t:qP}(ho:PE X o to)(hi:PE X i ti)(hs:sP X t)
   (ha:∀v,assign (.Subscript o i pos) X.env v=(do
     let ov <-holding [v] (eval o X.env)
     let iv <-holding [v,ov] (eval i X.env)
     standAt pos
     holding [v,ov,iv] (setItem ov iv v)
     release [v,ov,iv] []):=by intro _;rfl):PG X (.Subscript o i pos) (Ho to ti t):=by
 intro pins s σ H v u Q I r h;rw[ha];refine wpAny_bind (wpAny_holding (aJ (ho pins s σ H _ I h) λov s1 ⟨x,H1,I1,r1,q1⟩=>?_));refine wpAny_bind (wpAny_holding (aJ (hi pins s1 σ H1 _ I1 q1) λiv s2 ⟨y,H2,I2,r2,q2⟩=>?_));refine wpAny_bind (wpAny_standAt (wpAny_bind (wpAny_holding (aJ (hs pins s2 σ H2 x y v ov iv u _ I2 r1 r2 r q2) λ_ s3 ⟨H3,I3,q3⟩=>?_))));exact wpAny_release ⟨σ,H3,I3,q3⟩
def kC(te:TE)(g:TG):TS:=λD σ H=>te σ H λx H1=>g x σ H1 D.nx
theorem pW{tg e:Expr}{te:TE}{g:TG}(he:PE X e te)(hg:PG X tg g)(hs:swapsWithSole [tg] e pos.line X.env=pure false:=by rfl)(hw:swappedStores [tg] e X.env=pure none:=by rfl)
   (h1:(assignEach [tg] X.env).map (·.2)=[assign tg X.env]:=by rfl):PS X (.Assign [tg] e pos) (kC te g):=by
 intro pins s σ H D I h;refine wpAny_Assign_stores (aJ (he pins s σ H _ I h) λv s1 ⟨x,H1,I1,r1,q1⟩=>?_) hs hw;rw[h1];exact aJ (hg pins s1 σ H1 x v _ I1 r1 q1) λ_ s2 q=>q
theorem lL{i:Nat}{x:Str}{e:Expr}{te:TE}{pos':Pos}(hN:X.N.Nodup)(hi:X.N[i]? =some x)(hx:Loc X.env.scope x)(he:PE X e te)(hs:swapsWith e (some (.Name x pos')) pos.line X.env=pure false:=by rfl)(hf:X.fn x=true\/X.env.scope.names.lookup x=some .local:=by first|exact .inl rfl|exact .inr rfl|assumption):
   PS X (.Assign [.Name x pos'] e pos) (kC te (az i)):=by
 intro pins s σ H D I h;refine wpAny_Assign_Name (aJ (he pins s σ H _ I h) λv s1 ⟨y,H1,I1,r1,q1⟩=>?_) hs;exact vA I1 hN hi hx r1 (λs2 I2=>⟨_,H1,I2,q1⟩) hf
end
section
variable{X:Cx}{pos:Pos}
def zt(c:TT)(tb:TS):TS:=λD σ H=>∃W:Nat->St->Hp->Prop,(∃m,W m σ H)/\∀m σ H,W m σ H->
 c σ H λb H1=>if b=true then ∃N:St->Hp->Prop,(∀Jl H',N Jl H'->∃m',m'<m/\W m' Jl H')/\tb {D with nx:=N,ct:=N,bk:=D.nx} σ H1 else D.nx σ H1
theorem Gv{c:Expr}{body:List Stmt}{tc:TT}{tb:TS}(hp:PassesOwn (model X.prog X.w) X.A X.env X.xe)(hc:PT X c tc)(hb:bQ X body tb):PS X (.While c body [] pos) (zt tc tb):=by
 intro pins s σ H D I h;obtain⟨W,⟨m0,w0⟩,turn⟩:=h;refine wpAny_While (codeAny_whileLoop (λn s'=>∃Jl H',Inv X pins Jl H' s'/\W n Jl H') ?_ m0 ⟨σ,H,I,w0⟩);rintro n s1 ⟨LR,H1,I1,w1⟩;refine wpAny_passesOwn hp (aJ (hc pins s1 LR H1 _ I1 (turn n LR H1 w1)) λb s2 ⟨H2,I2,q2⟩=>?_);cases b with
 | true=>
   obtain⟨N,hN,q2⟩:=q2;rw[if_pos rfl];refine wpAny_passesOwn hp (aJ (hb pins s2 LR H2 _ I2 q2) λf s3 q3=>?_);cases f with
   | next=>
     obtain⟨Kj,H3,I3,n3⟩:=q3;obtain⟨m',hm,w3⟩:=hN Kj H3 n3;exact⟨m',hm,Kj,H3,I3,w3⟩
   | cont=>
     obtain⟨Kj,H3,I3,n3⟩:=q3;obtain⟨m',hm,w3⟩:=hN Kj H3 n3;exact⟨m',hm,Kj,H3,I3,w3⟩
   |brk=>exact q3
   |ret v=>exact q3
 | false=>
   rw[if_neg Bool.false_ne_true];exact wpAny_execs_nil ⟨LR,H2,I2,q2⟩
end
structure It where
 go:Nat->Hp->Prop
 lB:Nat->Hp->V->Hp->Prop
 stop:Nat->Hp->Prop
def cq(X:Cx)(pins:List (Addr×Obj))(H:Hp)(b:Addr):Prop:=
 H b=none/\b≠X.env.locals/\b∉X.fs/\(b∈X.ex\/X.cv.heap.objs.size<=b)/\(∀x c,X.env.cells.lookup x=some c->c≠b)/\∀p∈X.pn++pins,p.1≠b
theorem Inv.mz{X:Cx}{pins:List (Addr×Obj)}{σ:St}{H H':Hp}{s:Shared}{b:Addr}(I:Inv X pins σ H s)(hb:s.heap.objs.size<=b)(hn:H' b=none):cq X pins H' b:=by
 refine⟨hn,Nat.ne_of_gt (Nat.lt_of_lt_of_le I.lt hb),I.yc hb,.inr (Nat.le_trans I.sz hb),λx c e z=>?_,λp hp z=>?_⟩
 · obtain⟨v,q⟩:=I.cell x c e
   exact absurd (Nat.lt_of_lt_of_le q.lt (by rw[z];exact hb)) (Nat.lt_irrefl _)
 ·exact absurd (Nat.lt_of_lt_of_le (Heap.lt_size (I.pin p hp).1) (by rw[z];exact hb)) (Nat.lt_irrefl _)
structure Turn(P:Program)(w:World)(K:PySem.W.Frag)(tg:Expr)(J:It)(fp:List Addr)(it:Addr)(tn:Nat->Heap->Prop):Prop where
 mem:it∈fp
 obj:∀i h,tn i h->∀b∈fp,∃o,h.get? b=some o/\∀v,o.data≠.cell v
 keep:∀i h h',tn i h->(∀b∈fp,∀o,h.get? b=some o->h'.get? b=some o)->tn i h'
 item:∀(X:Cx),X.prog=P->X.w=w->X.K=K->X.calm=true->∀(i:Nat) (pins:List (Addr×Obj)) (s:Shared) (σ:St) (H:Hp) (E:Value->Shared->Prop),Inv X pins σ H s->(∀b∈fp,cq X pins H b)->tn i s.heap->J.go i H->
   wpAny (model P w) X.A (pyNext (.ref it)) (λr s1=>∃u,r=some u/\
     wpAny (model P w) X.A (letOwnedTupleGo tg (.ref it) u) (λ_ s2=>∃x H',Inv X pins σ H' s2/\RelV x u/\J.lB i H x H'/\tn (i+1) s2.heap/\∀b∈fp,H' b=none) E s1) E s
 done:∀(X:Cx),X.prog=P->X.w=w->X.K=K->X.calm=true->∀(i:Nat) (pins:List (Addr×Obj)) (s:Shared) (σ:St) (H:Hp) (E:Value->Shared->Prop),Inv X pins σ H s->(∀b∈fp,cq X pins H b)->tn i s.heap->J.stop i H->
   wpAny (model P w) X.A (pyNext (.ref it)) (λr s1=>r=none/\Inv X pins σ H s1) E s
 self:∀(A:Around) (i:Nat) (s:Shared) (Q:Value->Shared->Prop) (E:Value->Shared->Prop),tn i s.heap->Q (.ref it) s->wpAny (model P w) A (pyIter (.ref it)) Q E s
noncomputable abbrev TI:=St->Hp->(It->Hp->Prop)->Prop
def qo(X:Cx)(pins:List (Addr×Obj))(σ:St)(tg:Expr)(R:It->Hp->Prop)(QJ:Value)(s2:Shared):Prop:=
 ∃(it:Addr) (fp:List Addr) (tn:Nat->Heap->Prop) (J:It) (H':Hp),QJ=.ref it/\Inv X pins σ H' s2/\Turn X.prog X.w X.K tg J fp it tn/\tn 0 s2.heap/\(∀b∈fp,cq X pins H' b)/\R J H'
def PI(X:Cx)(tg iter:Expr)(wi:TI):Prop:=
 ∀(pins:List (Addr×Obj)) (s:Shared) (σ:St) (H:Hp) (R:It->Hp->Prop),Inv X pins σ H s->wi σ H R->
   wpAny (model X.prog X.w) X.A (eval iter X.env) (λv s1=>wpAny (model X.prog X.w) X.A (pyIter v) (qo X pins σ tg R) X.xe s1) X.xe s
theorem kh{M:Model}{A:Around}{E:Value->Shared->Prop}{s:Shared}{tg:Expr}{it:Addr}{u:Value}{o:Obj}{n:String}{vs:Array Value}{Q:Unit->Shared->Prop}(ho:s.heap.get? it=some o)(hc:o.cls=.type n)(hd:o.data=.fields vs)
   (hn:["enumerate","zip","dict_itemiterator","dict_reverseitemiterator","odict_iterator","itertools.zip_longest","itertools.pairwise"].contains n=false) (hQ:Q () s):wpAny M A (letOwnedTupleGo tg (.ref it) u) Q E s:=by
 unfold letOwnedTupleGo
 cases tg<;>first
   |exact wpAny_pure hQ
   |(cases u<;>first
       |exact wpAny_pure hQ
       | (refine wpAny_bind (wpAny_load ho ?_)
          rw[hc,hd];show wpAny M A (if(["enumerate","zip","dict_itemiterator","dict_reverseitemiterator","odict_iterator","itertools.zip_longest","itertools.pairwise"].contains n&&vs[0]? ==some (rawInt _))=true then _ else _) Q E s
          rw[if_neg (by intro h;rw[hn,Bool.false_and]at h;cases h)]
          exact wpAny_pure hQ))
noncomputable def mG(K:PySem.W.Frag)(a:Addr):It:=
 ⟨λi H=>∃xs x,a8 K H a xs/\xs[i]? =some x,λi H x H'=>H'=H/\∀xs,a8 K H a xs->xs[i]? =some x,λi H=>∃xs,a8 K H a xs/\xs.length<=i⟩
noncomputable def my(K:PySem.W.Frag)(a:Addr):It:=
 ⟨λi H=>∃xs x,bo K H a xs/\xs[i]? =some x,λi H x H'=>H'=H/\∀xs,bo K H a xs->xs[i]? =some x,λi H=>∃xs,bo K H a xs/\xs.length<=i⟩
noncomputable def bB(lo:Int)(n:Nat):It:=⟨λi _=>i<n,λi H x H'=>H'=H/\x=.int (lo+i),λi _=>n<=i⟩
theorem GV{P:Program}{w:World}{K:PySem.W.Frag}{tg:Expr}(a it:Addr):Turn P w K tg (mG K a) [it] it (λi h=>h.IsListIter it a i) where
 mem:=by simp
 obj:=λi h st b hb=>by
   have e:b=it:=by simpa using hb
   subst e;obtain⟨o,e,c,d⟩:=st;exact⟨o,e,λv z=>by rw[d]at z;cases z⟩
 keep:=λi h h' st k=>st.at λo e=>k it (by simp) o e
 item:=by
   intro X hP hw hK hc i pins s σ H E I hf st hg;subst hP hw hK;obtain⟨xs,x,hq,hx⟩:=hg;obtain⟨aj,rv,p,hz⟩:=I.list hq;obtain⟨u,hu,ru⟩:=rv.get hx;obtain⟨f0,f1,f2,f3,f4,f5⟩:=hf it (by simp)
   refine wpAny_pyNext_list_item st p.isList (x:=u) (by simpa using hu) λh' KG sb=>?_
   have I1:Inv X pins σ H {s with heap:=h'}:=I.turned (t':=s.toks) (λb o hb e=>(sb.2 b hb).trans e) f0 f1 f3 f4 f5;obtain⟨o,e,c,d⟩:=id KG;exact⟨u,rfl,kh (s:={s with heap:=h'}) e c d (by decide) ⟨x,H,I1,ru,⟨rfl,λys hy=>by rw[I.xK hy hq];exact hx⟩,KG,λb hb=>(hf b hb).1⟩⟩
 done:=by
   intro X hP hw hK hc i pins s σ H E I hf st hg;subst hP hw hK;obtain⟨xs,hq,hx⟩:=hg;obtain⟨aj,rv,p,hz⟩:=I.list hq;obtain⟨f0,f1,f2,f3,f4,f5⟩:=hf it (by simp)
   have hl:=rv.length;exact wpAny_pyNext_list_end (I.ok.hd hc) st p.isList (by simp;omega) λh' eb=>⟨rfl,I.turned (t':=s.toks) (λb o hb e=>eb b o hb e) f0 f1 f3 f4 f5⟩
 self:=λ_ _ _ _ _ st h=>wpAny_pyIter_listiter st h
theorem Ep{P:Program}{w:World}{K:PySem.W.Frag}{tg:Expr}(a it:Addr):Turn P w K tg (my K a) [it] it (λi h=>h.IsTupleIter it a i) where
 mem:=by simp
 obj:=λi h st b hb=>by
   have e:b=it:=by simpa using hb
   subst e;obtain⟨o,e,c,d⟩:=st;exact⟨o,e,λv z=>by rw[d]at z;cases z⟩
 keep:=λi h h' st k=>st.at λo e=>k it (by simp) o e
 item:=by
   intro X hP hw hK hc i pins s σ H E I hf st hg;subst hP hw hK;obtain⟨xs,x,hq,hx⟩:=hg;obtain⟨aj,rv,p,hz⟩:=I.tuple hq;obtain⟨u,hu,ru⟩:=rv.get hx;obtain⟨f0,f1,f2,f3,f4,f5⟩:=hf it (by simp)
   refine wpAny_pyNext_tuple_item st (show s.heap.IsTuple a aj.toArray from p) (x:=u) (by simpa using hu) λh' KG sb=>?_
   have I1:Inv X pins σ H {s with heap:=h'}:=I.turned (t':=s.toks) (λb o hb e=>(sb.2 b hb).trans e) f0 f1 f3 f4 f5;obtain⟨o,e,c,d⟩:=id KG;exact⟨u,rfl,kh (s:={s with heap:=h'}) e c d (by decide) ⟨x,H,I1,ru,⟨rfl,λys hy=>by rw[I.tO hy hq];exact hx⟩,KG,λb hb=>(hf b hb).1⟩⟩
 done:=by
   intro X hP hw hK hc i pins s σ H E I hf st hg;subst hP hw hK;obtain⟨xs,hq,hx⟩:=hg;obtain⟨aj,rv,p,hz⟩:=I.tuple hq;obtain⟨f0,f1,f2,f3,f4,f5⟩:=hf it (by simp)
   have hl:=rv.length;exact wpAny_pyNext_tuple_end (I.ok.hd hc) st (show s.heap.IsTuple a aj.toArray from p) (by simp;omega) λh' eb=>⟨rfl,I.turned (t':=s.toks) (λb o hb e=>eb b o hb e) f0 f1 f3 f4 f5⟩
 self:=λ_ _ _ _ _ st h=>wpAny_pyIter_tupleiter st h
theorem Hm{P:Program}{w:World}{K:PySem.W.Frag}{tg:Expr}(it:Addr)(lo:Int)(n:Nat):Turn P w K tg (bB lo n) [it] it (λi h=>IsRangeIter h it (lo+(i:Nat)*1) ((n:Int) - (i:Nat)) 1) where
 mem:=by simp
 obj:=λi h st b hb=>by
   have e:b=it:=by simpa using hb
   subst e
   exact⟨_,st,λv z=>by
     have z':Data.fields _=Data.cell v:=z;cases z'⟩
 keep:=λi h h' st k=>k it (by simp) _ st
 item:=by
   intro X hP hw hK hc i pins s σ H E I hf st hg;subst hP hw hK;obtain⟨f0,f1,f2,f3,f4,f5⟩:=hf it (by simp)
   have W:=Walks.range (prog:=X.prog) (w:=X.w) (I.ok.hd hc) it lo 1 n;refine W.item i s _ _ hg st λv h' tk hv KG kk=>?_;obtain⟨t,rfl⟩:=hv;have I1:Inv X pins σ H {s with heap:=h',toks:=tk}:=I.turned (λb o hb e=>kk b o (by simpa using hb) e) f0 f1 f3 f4 f5
   refine⟨_,rfl,kh (s:={s with heap:=h',toks:=tk}) (n:="range_iterator") KG rfl rfl (by decide) ⟨.int (lo+i),H,I1,⟨t,?_⟩,⟨rfl,rfl⟩,KG,λb hb=>(hf b hb).1⟩⟩
   rw[Int.mul_one]
 done:=by
   intro X hP hw hK hc i pins s σ H E I hf st hg;subst hP hw hK;obtain⟨f0,f1,f2,f3,f4,f5⟩:=hf it (by simp)
   exact wpAny_pyNext_range_end (I.ok.hd hc) st (by have:n<=i:=hg;omega) λh' eb=>⟨rfl,I.turned (t':=s.toks) (λb o hb e=>eb b o hb e) f0 f1 f3 f4 f5⟩
 self:=λ_ _ _ _ _ st h=>wpAny_pyIter_rangeiter st h
end L2
namespace L2
open PySem PySem.Spec PyProof.Rows
section
variable{X:Cx}{tg:Expr}
theorem sZ{pins:List (Addr×Obj)}{σ:St}{H:Hp}{s:Shared}{R:It->Hp->Prop}{E:Value->Shared->Prop}{lo hi:Int}{t u v:Tok}{tk:Nat}(I:Inv X pins σ H s)(h1: -(2 ^ 62)<=lo)(h2:lo<2 ^ 62)(h3: -(2 ^ 62)<=hi)(h4:hi<2 ^ 62)
   (q:R (bB lo (hi - lo).toNat) H):wpAny (model X.prog X.w) X.A (pyIter (.ref s.heap.objs.size)) (qo X pins σ tg R) E {s with heap:=s.heap.push {cls:=.type "range",data:=.fields #[.int lo t,.int hi u,.int 1 v]},toks:=tk}:=by
 refine wpAny_pyIter_range (IsRange.new ..) (small_one h1 h2 h3 h4) ?_;have I1:Inv X pins σ H {s with heap:=s.heap.push {cls:=.type "range",data:=.fields #[.int lo t,.int hi u,.int 1 v]},toks:=tk}:=I.kept λb o e=>Heap.get?_push_of_some _ e
 refine⟨(s.heap.push {cls:=.type "range",data:=.fields #[.int lo t,.int hi u,.int 1 v]}).objs.size,[(s.heap.push {cls:=.type "range",data:=.fields #[.int lo t,.int hi u,.int 1 v]}).objs.size],_,_,H,rfl,
   I1.kept (t':=tk) λb o e=>Heap.get?_push_of_some _ e,Hm _ lo (hi - lo).toNat,?_,λb hb=>?_,q⟩
 · have e1:lo+((0:Nat):Int)*1=lo:=by simp
   have e2:(((hi - lo).toNat:Nat):Int) - ((0:Nat):Int)=Builtin.Range.rangeSize lo hi 1:=by rw[rangeSize_one];split<;>omega
   show IsRangeIter _ _ (lo+((0:Nat):Int)*1) ((((hi - lo).toNat:Nat):Int) - ((0:Nat):Int)) 1;rw[e1,e2];exact Heap.get?_push_size _ rfl
 · have e:b=(s.heap.push {cls:=.type "range",data:=.fields #[.int lo t,.int hi u,.int 1 v]}).objs.size:=by simpa using hb
   subst e;exact I1.mz (Nat.le_refl _) (I1.aH.fresh (Nat.le_refl _))
def cK(ta:TA):TI:=λσ H R=>ta σ H λvs H1=>∃j:Int,vs=[.int j]/\ -(2 ^ 62)<=j/\j<2 ^ 62/\R (bB 0 j.toNat) H1
def dM(ta:TA):TI:=λσ H R=>ta σ H λvs H1=>∃i j:Int,vs=[.int i,.int j]/\(-(2 ^ 62)<=i/\i<2 ^ 62/\ -(2 ^ 62)<=j/\j<2 ^ 62)/\R (bB i (j - i).toNat) H1
theorem zY{a:Expr}{ta:TA}{p pos:Pos}(hg:Gl X "range")(hm:X.mg "range"=none)(ha:PA X [a] ta)(hs:starEach [a] X.env=[(false,eval a X.env)]:=by rfl):PI X tg (.Call (.Name "range" p) [a] [] pos) (cK ta):=by
 intro pins s σ H R I h;refine Call_ (jS I hg hm boot_range (PyProof.Rows.callWith_type1 (aJ (ha pos pins s σ H _ I h) λus s1 ⟨vs,H1,I1,r1,q1⟩=>?_) hs rfl));obtain⟨j,e,q1,q2,q⟩:=q1;subst e;cases r1 with
 | cons r rr=>
   cases rr;obtain⟨t,rfl⟩:=r;exact call_range_1 (sZ I1 (by omega) (by omega) q1 q2 (by simpa using q))
theorem Dr{a b:Expr}{ta:TA}{p pos:Pos}(hg:Gl X "range")(hm:X.mg "range"=none)(ha:PA X [a,b] ta)(hs:starEach [a,b] X.env=[(false,eval a X.env),(false,eval b X.env)]:=by rfl)(Kd:starEach [b] X.env=[(false,eval b X.env)]:=by rfl):
   PI X tg (.Call (.Name "range" p) [a,b] [] pos) (dM ta):=by
 intro pins s σ H R I h;refine Call_ (jS I hg hm boot_range (PyProof.Rows.callWith_type1 (aJ (ha pos pins s σ H _ I h) λus s1 ⟨vs,H1,I1,r1,q1⟩=>?_) (by rw[hs,Kd]) (by rw[Kd];rfl)))
 obtain⟨i,j,e,⟨q1,q2,q3,q4⟩,q⟩:=q1;subst e;cases r1 with
 | cons r rr=>
   cases rr with
   | cons r' rr=>
     cases rr;obtain⟨t,rfl⟩:=r;obtain⟨t',rfl⟩:=r';exact call_range_2 (sZ I1 q1 q2 q3 q4 q)
def BP(wi:TI)(g:TG)(tb:TS):TS:=λD σ H=>wi σ H λJ H1=>∃W:Nat->Nat->St->Hp->Prop,(∃m,W 0 m σ H1)/\∀i m σ H,W i m σ H->
 (J.stop i H/\D.nx σ H)\/(J.go i H/\∃N:St->Hp->Prop,(∀Jl H',N Jl H'->∃m',m'<m/\W (i+1) m' Jl H')/\∀x H',J.lB i H x H'->g x σ H' λOU H2=>tb {D with nx:=N,ct:=N,bk:=D.nx} OU H2)
noncomputable def jJ(fp:List Addr)(h:Heap):List (Addr×Obj):=fp.filterMap λb=>(h.get? b).map λo=>(b,o)
theorem nM{fp:List Addr}{h:Heap}{b:Addr}{o:Obj}(hb:b∈fp)(e:h.get? b=some o):(b,o)∈jJ fp h:=List.mem_filterMap.mpr ⟨b,hb,by rw[e];rfl⟩
theorem Hz{fp:List Addr}{h:Heap}{p:Addr×Obj}(hp:p∈jJ fp h):p.1∈fp/\h.get? p.1=some p.2:=by
 obtain⟨b,hb,e⟩:=List.mem_filterMap.mp hp;cases q:h.get? b with
 |none=>rw[q]at e;cases e
 | some o=>
   rw[q]at e;have e':(b,o)=p:=Option.some.inj e;subst e';exact⟨hb,q⟩
theorem Inv.pinned{pins:List (Addr×Obj)}{σ:St}{H:Hp}{s:Shared}{fp:List Addr}(I:Inv X pins σ H s)(hf:∀b∈fp,cq X pins H b)(ho:∀b∈fp,∃o,s.heap.get? b=some o/\∀v,o.data≠.cell v):Inv X (pins++jJ fp s.heap) σ H s:=
 I.vo λp hp=>(List.mem_append.mp hp).elim (λz=>I.pin p (List.mem_append_right _ z)) λz=>by
   obtain⟨hb,e⟩:=Hz z;obtain⟨f0,f1,f2,_⟩:=hf p.1 hb;obtain⟨o,e',d⟩:=ho p.1 hb;rw[e]at e';cases e';exact⟨e,f0,f1,f2,d⟩
theorem Inv.nh{pins pl:List (Addr×Obj)}{σ:St}{H:Hp}{s:Shared}(I:Inv X (pins++pl) σ H s):Inv X pins σ H s:=I.vo λp hp=>I.pin p (List.mem_append_right _ (List.mem_append_left _ hp))
theorem A9{iter:Expr}{body:List Stmt}{wi:TI}{g:TG}{tb:TS}{pos:Pos}(hp:PassesOwn (model X.prog X.w) X.A X.env X.xe)(hc:X.calm=true)(hi:PI X tg iter wi)(hg:PG X tg g)(hb:bQ X body tb)
   (hs:∀x,foldedSetIterable iter X.env x=pure x:=by intro _;rfl):PS X (.For tg iter body [] pos) (BP wi g tb):=by
 intro pins s σ H D I h;refine wpAny_For (aJ (hi pins s σ H _ I h) λv s1 h1=>aJ h1 λQJ s2 h2=>?_) hs;obtain⟨it,fp,tn,J,H2,e,I2,T,Lr,f2,W,⟨m0,w0⟩,turn⟩:=h2;subst e;have M7:∀ {H':Hp},(∀b∈fp,H' b=none)->∀b∈fp,cq X pins H' b:=λhn b hb=>⟨hn b hb,(f2 b hb).2⟩;refine codeAny_forLoop_any (λn s'=>∃i Jl H',Inv X pins Jl H' s'/\tn i s'.heap/\(∀b∈fp,H' b=none)/\W i n Jl H') ?_ m0 ⟨0,σ,H2,I2,Lr,λb hb=>(f2 b hb).1,w0⟩;rintro n s3 ⟨i,Kj,H3,I3,RB,Rm,w3⟩;rcases turn i n Kj H3 w3 with⟨stop,qn⟩|⟨go,N,hN,step⟩
 · refine wpAny_passesOwn hp (aJ (T.done X rfl rfl rfl hc i pins s3 Kj H3 X.xe I3 (M7 Rm) RB stop) λr s4 ⟨hr,I4⟩=>?_)
   subst hr;exact wpAny_execs_nil ⟨Kj,H3,I4,qn⟩
 · refine wpAny_passesOwn hp (aJ (T.item X rfl rfl rfl hc i pins s3 Kj H3 X.xe I3 (M7 Rm) RB go) λr s4 ⟨u,hr,h4⟩=>?_)
   subst hr;refine wpAny_passesOwn hp (aJ h4 λ_ s5 ⟨x,H5,I5,r5,y5,Nr,P6⟩=>?_);have Q4:=I5.pinned (M7 P6) (T.obj _ _ Nr);refine wpAny_passesOwn hp (aJ (hg _ s5 Kj H5 x u _ Q4 r5 (step x H5 y5)) λ_ s6 ⟨LD,H6,I6,q6⟩=>?_);refine wpAny_passesOwn hp (aJ (hb _ s6 LD H6 _ I6 q6) λf s7 q7=>?_)
   have again:∀ {Mb:St} {H7:Hp},Inv X (pins++jJ fp s5.heap) Mb H7 s7->N Mb H7->∃m,m<n/\∃i Jl H',Inv X pins Jl H' s7/\tn i s7.heap/\(∀b∈fp,H' b=none)/\W i m Jl H':=λ{Mb H7} I7 n7=>by
     obtain⟨m',hm,w7⟩:=hN Mb H7 n7;refine⟨m',hm,i+1,Mb,H7,I7.nh,T.keep _ _ _ Nr λb hb o e=>(I7.pin (b,o) (List.mem_append_right _ (List.mem_append_right _ (nM hb e)))).1,λb hb=>?_,w7⟩;obtain⟨o,e,d⟩:=T.obj _ _ Nr b hb;exact(I7.pin (b,o) (List.mem_append_right _ (List.mem_append_right _ (nM hb e)))).2.1
   cases f with
   |next=>obtain⟨Mb,H7,I7,n7⟩:=q7;exact again I7 n7
   |cont=>obtain⟨Mb,H7,I7,n7⟩:=q7;exact again I7 n7
   |brk=>obtain⟨Mb,H7,I7,q7⟩:=q7;exact⟨Mb,H7,I7.nh,q7⟩
   |ret v=>obtain⟨x7,Mb,H7,I7,r7,q7⟩:=q7;exact⟨x7,Mb,H7,I7.nh,r7,q7⟩
end
end L2
namespace L2
open PySem PySem.Spec PyProof.Rows
noncomputable abbrev R2:=V->V->Hp->VK->Prop
def aZ(X:Cx)(f:Value->Value->Sem Value)(r:R2):Prop:=
 ∀(pins:List (Addr×Obj)) (s:Shared) (σ:St) (H:Hp) (x y:V) (v u:Value) (Q:VK),Inv X pins σ H s->RelV x v->RelV y u->r x y H Q->
   wpAny (model X.prog X.w) X.A (f v u) (EP X pins σ Q) X.xe s
def c9(X:Cx)(f:Value->Sem Value)(r:V->Hp->VK->Prop):Prop:=
 ∀(pins:List (Addr×Obj)) (s:Shared) (σ:St) (H:Hp) (x:V) (v:Value) (Q:VK),Inv X pins σ H s->RelV x v->r x H Q->
   wpAny (model X.prog X.w) X.A (f v) (EP X pins σ Q) X.xe s
def bE(X:Cx)(f:Value)(r:List V->Hp->VK->Prop):Prop:=
 ∀(pins:List (Addr×Obj)) (s:Shared) (σ:St) (H:Hp) (xs:List V) (us:List Value) (Q:VK),Inv X pins σ H s->Vals xs us->r xs H Q->
   wpAny (model X.prog X.w) X.A (call f us) (EP X pins σ Q) X.xe s
def Eg(X:Cx)(r:V->Hp->(Bool->Hp->Prop)->Prop):Prop:=
 ∀(pins:List (Addr×Obj)) (s:Shared) (σ:St) (H:Hp) (x:V) (v:Value) (Q:Bool->Hp->Prop),Inv X pins σ H s->RelV x v->r x H Q->
   wpAny (model X.prog X.w) X.A (truthy v) (TP X pins σ Q) X.xe s
def kL(r:R2)(ta tb:TE):TE:=λσ H Q=>ta σ H λx H1=>tb σ H1 λy H2=>r x y H2 Q
def vO(r:V->Hp->VK->Prop)(ta:TE):TE:=λσ H Q=>ta σ H λx H1=>r x H1 Q
def rI(C:Int->Int->Prop)(g:Int->Int->V):R2:=λx y H Q=>∃i j,x=.int i/\y=.int j/\C i j/\Q (g i j) H
def iq(g:Int->Int->V):R2:=λx y H Q=>∃i j,x=.int i/\y=.int j/\Q (g i j) H
def rU(g:Int->V):V->Hp->VK->Prop:=λx H Q=>∃i,x=.int i/\Q (g i) H
section
variable{X:Cx}{a b c:Expr}{ta tb tc:TE}{pos:Pos}
theorem p6(ha:PE X a ta)(hb:PE X b tb){pins:List (Addr×Obj)}{s:Shared}{σ:St}{H:Hp}{R:V->V->Hp->Prop}(I:Inv X pins σ H s)
   (h:ta σ H λx H1=>tb σ H1 λy H2=>R x y H2) {Q:Value->Shared->Prop} {f:Value->Value->Sem Value}
   (hf:∀v u s2 x y H2,Inv X pins σ H2 s2->RelV x v->RelV y u->R x y H2->wpAny (model X.prog X.w) X.A (f v u) Q X.xe s2):
   wpAny (model X.prog X.w) X.A (eval a X.env) (λv Jm=>wpAny (model X.prog X.w) X.A (eval b X.env) (λu K2=>wpAny (model X.prog X.w) X.A (f v u) Q X.xe K2) X.xe Jm) X.xe s:=by
 refine aJ (ha pins s σ H _ I h) λv s1 ⟨x,H1,I1,r1,q1⟩=>?_;refine aJ (hb pins s1 σ H1 _ I1 q1) λu s2 ⟨y,H2,I2,r2,q2⟩=>?_;exact hf v u s2 x y H2 I2 r1 r2 q2
theorem rB{op:Operator}{r:R2}(ho:aZ X (binaryOp op) r)(ha:PE X a ta)(hb:PE X b tb):PE X (.BinOp a op b pos) (kL r ta tb):=by
 intro pins s σ H Q I h;exact wpAny_BinOp (p6 ha hb I h λv u s2 x y H2 I2 rx ry q=>ho pins s2 σ H2 x y v u Q I2 rx ry q)
theorem BV{op:UnaryOp}{r:V->Hp->VK->Prop}(ho:c9 X (unaryOp op) r)(ha:PE X a ta):PE X (.UnaryOp op a pos) (vO r ta):=by
 intro pins s σ H Q I h;exact UnaryOp_ (aJ (ha pins s σ H _ I h) λv s1 ⟨x,H1,I1,r1,q1⟩=>ho pins s1 σ H1 x v Q I1 r1 q1)
theorem nv{f:Value->Value->Sem Value}{C:Int->Int->Prop}{g:Int->Int->Int}
   (rule:∀(i j:Int) (t u:Tok) (s:Shared) (Q:Value->Shared->Prop) (E:Value->Shared->Prop),C i j->Q (.int (g i j) s.toks) {s with toks:=s.toks+1}->wpAny (model X.prog X.w) X.A (f (.int i t) (.int j u)) Q E s):
   aZ X f (rI C λi j=>.int (g i j)):=by
 intro pins s σ H x y v u Q I rx ry h;obtain⟨i,j,rfl,rfl,hc,q⟩:=h;obtain⟨t,rfl⟩:=rx;obtain⟨t',rfl⟩:=ry;exact rule i j t t' s _ _ hc ⟨.int (g i j),H,I.tok _,⟨_,rfl⟩,q⟩
theorem HI{f:Value->Value->Sem Value}{g:Int->Int->Int}
   (rule:∀(i j:Int) (t u:Tok) (s:Shared) (Q:Value->Shared->Prop) (E:Value->Shared->Prop),Q (.int (g i j) s.toks) {s with toks:=s.toks+1}->wpAny (model X.prog X.w) X.A (f (.int i t) (.int j u)) Q E s):
   aZ X f (iq λi j=>.int (g i j)):=by
 intro pins s σ H x y v u Q I rx ry h;obtain⟨i,j,rfl,rfl,q⟩:=h;obtain⟨t,rfl⟩:=rx;obtain⟨t',rfl⟩:=ry;exact rule i j t t' s _ _ ⟨.int (g i j),H,I.tok _,⟨_,rfl⟩,q⟩
theorem wk{f:Value->Value->Sem Value}{g:Int->Int->Bool}
   (rule:∀(i j:Int) (t u:Tok) (s:Shared) (Q:Value->Shared->Prop) (E:Value->Shared->Prop),Q (.bool (g i j)) s->wpAny (model X.prog X.w) X.A (f (.int i t) (.int j u)) Q E s):
   aZ X f (iq λi j=>.bl (g i j)):=by
 intro pins s σ H x y v u Q I rx ry h;obtain⟨i,j,rfl,rfl,q⟩:=h;obtain⟨t,rfl⟩:=rx;obtain⟨t',rfl⟩:=ry;exact rule i j t t' s _ _ ⟨.bl (g i j),H,I,rfl,q⟩
theorem b9:aZ X (binaryOp .Add) (iq λi j=>.int (i+j)):=HI λ_ _ _ _ _ _ _ q=>add_int q
theorem bP:aZ X (binaryOp .Mod) (rI (λ_ j=>0<j) λi j=>.int (i % j)):=nv λi j _ _ _ _ _ hc q=>by
 have h1:(0:Int)<j:=hc;exact mod_int' (by omega) (by rw[Int.fmod_eq_emod_of_nonneg i (by omega)];exact q)
theorem HA{f:Value->Sem Value}{g:Int->Int}
   (rule:∀(i:Int) (t:Tok) (s:Shared) (Q:Value->Shared->Prop) (E:Value->Shared->Prop),Q (.int (g i) s.toks) {s with toks:=s.toks+1}->wpAny (model X.prog X.w) X.A (f (.int i t)) Q E s):
   c9 X f (rU λi=>.int (g i)):=by
 intro pins s σ H x v Q I rx h;obtain⟨i,rfl,q⟩:=h;obtain⟨t,rfl⟩:=rx;exact rule i t s _ _ ⟨.int (g i),H,I.tok _,⟨_,rfl⟩,q⟩
theorem oH:c9 X (unaryOp .USub) (rU λi=>.int (-i)):=HA λ_ _ _ _ _ q=>neg_int q
end
section
variable{X:Cx}{a b c:Expr}{ta tb tc:TE}{pos:Pos}
theorem ux:aZ X (compareOp .Lt) (iq λi j=>.bl (decide (i<j))):=wk λ_ _ _ _ _ _ _ q=>lt_int q
theorem vd:aZ X (compareOp .Gt) (iq λi j=>.bl (decide (j<i))):=wk λ_ _ _ _ _ _ _ q=>gt_int q
theorem aZ.or{f:Value->Value->Sem Value}{r r':R2}(h:aZ X f r)(h':aZ X f r'):aZ X f (λx y H Q=>r x y H Q\/r' x y H Q):=by
 intro pins s σ H x y v u Q I rx ry q;rcases q with q|q
 ·exact h pins s σ H x y v u Q I rx ry q
 ·exact h' pins s σ H x y v u Q I rx ry q
theorem uH(b:Expr){op:CmpOp}(h:op≠.In:=by decide)(h2:op≠.NotIn:=by decide):behindInMarks op b=false:=by
 have e1:(op==CmpOp.In)=false:=by cases op<;>first|rfl|exact absurd rfl h
 have e2:(op==CmpOp.NotIn)=false:=by cases op<;>first|rfl|exact absurd rfl h2
 cases b<;>simp[behindInMarks,e1,e2]
theorem GC{op:CmpOp}{r:R2}(ho:aZ X (compareOp op) r)(ha:PE X a ta)(hb:PE X b tb)(hm:behindInMarks op b=false):PE X (.Compare a [op] [b] pos) (kL r ta tb):=by
 intro pins s σ H Q I h;exact wpAny_Compare1 (p6 ha hb I h λv u s2 x y H2 I2 rx ry q=>ho pins s2 σ H2 x y v u Q I2 rx ry q) hm
def Fy(t:TE):TT:=λσ H Q=>t σ H λx H'=>∃k,x=.bl k/\Q k H'
theorem uE{op:CmpOp}{r:R2}(ho:aZ X (compareOp op) r)(ha:PE X a ta)(hb:PE X b tb)(hm:behindInMarks op b=false):PT X (.Compare a [op] [b] pos) (Fy (kL r ta tb)):=by
 intro pins s σ H Q I h
 refine wpAny_isTrue_Compare1 (aJ (ha pins s σ H _ I h) λv s1 ⟨x,H1,I1,r1,q1⟩=>aJ (hb pins s1 σ H1 _ I1 q1) λu s2 ⟨y,H2,I2,r2,q2⟩=>
   aJ (ho pins s2 σ H2 x y v u _ I2 r1 r2 q2) λc s3 ⟨z,H3,I3,r3,k,e,q3⟩=>?_) hm
 subst e;cases r3;exact wpAny_truthy_bool ⟨H3,I3,q3⟩
def rZ(K:PySem.W.Frag)(x:V)(H:Hp)(k:Bool):Prop:=
 match x with
 |.aD=>k=false
 |.bl b=>k=b
 |.int i=>k=(i != 0)
 |.str y=>y.length<=sizeLine/\k=((y.length:Int) != 0)
 |.jI y=>y.size<=sizeLine/\k=((y.size:Int) != 0)
 |.ref p=>(∃xs,a8 K H p xs/\k= !xs.isEmpty)\/(∃xs,bo K H p xs/\k= !xs.isEmpty)\/∃kvs,H p=some (.dK kvs)/\k= !kvs.isEmpty
 |_=>False
theorem Ck{κ:Type}{kvs:List (κ×V)}{vs:List (κ×Value)}(r:KV kvs vs):(!vs.isEmpty)= !kvs.isEmpty:=by
 cases r<;>rfl
theorem tQ{xs:List V}{aj:List Value}(r:Vals xs aj):(!aj.toArray.isEmpty)= !xs.isEmpty:=by
 cases r<;>simp
theorem i0:(sizeLine:Nat)<2 ^ 63:=by rw[sizeLine_eq];decide
theorem Hs:Eg X (λx H Q=>∃k,rZ X.K x H k/\Q k H):=by
 intro pins s σ H x v Q I rx h;obtain⟨k,e,q⟩:=h;have hl:=i0;have hs:sizeLine=16777216:=sizeLine_eq;cases x with
 | aD=>
   cases rx;have e':k=false:=e;subst e';exact truthy_none ⟨H,I,q⟩
 | bl b=>
   cases rx;have e':k=b:=e;subst e';exact wpAny_truthy_bool ⟨H,I,q⟩
 | int i=>
   obtain⟨t,rfl⟩:=rx;have e':k=(i != 0):=e;subst e';exact PySem.P.truthy_int ⟨H,I,q⟩
 | str y=>
   obtain⟨t,rfl⟩:=rx;obtain⟨hy,e'⟩:y.length<=sizeLine/\k=((y.length:Int) != 0):=e;subst e';exact PySem.P.truthy_str (by omega) ⟨H,I.tok _,q⟩
 | jI y=>
   obtain⟨t,rfl⟩:=rx;obtain⟨hy,e'⟩:y.size<=sizeLine/\k=((y.size:Int) != 0):=e;subst e';exact PySem.W.truthy_bytes (by omega) ⟨H,I.tok _,q⟩
 | ref p=>
   cases rx;have e':(∃xs,a8 X.K H p xs/\k= !xs.isEmpty)\/(∃xs,bo X.K H p xs/\k= !xs.isEmpty)\/∃kvs,H p=some (.dK kvs)/\k= !kvs.isEmpty:=e;rcases e' with⟨xs,hx,e'⟩|⟨xs,hx,e'⟩|⟨kvs,hx,e'⟩
   · subst e'
     obtain⟨aj,r,pl,hz⟩:=I.list hx;have hlen:=r.length;exact wpAny_truthy_list pl.isList (by simp only[List.size_toArray];omega) ⟨H,I.tok _,by rw[tQ r];exact q⟩
   · subst e'
     obtain⟨aj,r,pl,hz⟩:=I.tuple hx;have hlen:=r.length;exact truthy_tuple pl (by simp only[List.size_toArray];omega) ⟨H,I.tok _,by rw[tQ r];exact q⟩
   · subst e'
     obtain⟨hz,hS,vs,r,m⟩:kvs.length<=sizeLine/\(p==sysModules)=false/\∃vs,KV kvs vs/\s.heap.DictOf (bx X.prog X.w) p vs:=I.aH p _ hx;have hlen:kvs.length=vs.length:=Paired.length r;exact wpAny_truthy_dict hS m (by omega) ⟨H,I.tok _,by rw[Ck r];exact q⟩
 |_=>exact(show False from e).elim
theorem zb(ha:PE X a ta)(he:∀whole,isTrue a X.env whole=(do let v <-whole;standAt a.pos;holding [v] (truthy v))):
   PT X a (λσ H Q=>ta σ H λx H'=>∃k,rZ X.K x H' k/\Q k H'):=by
 intro pins s σ H Q I h;exact isTrue_plain (aJ (ha pins s σ H _ I h) λv s1 ⟨x,H1,I1,r1,q1⟩=>Hs pins s1 σ H1 x v Q I1 r1 q1) (he _)
theorem FA:aZ X (binaryOp .Add) (λx y H Q=>∃i j,x=.str i/\y=.str j/\i.length+j.length<=sizeLine/\Q (.str (i++j)) H):=by
 intro pins s σ H x y v u Q I rx ry h;obtain⟨i,j,rfl,rfl,hz,q⟩:=h;obtain⟨t,rfl⟩:=rx;obtain⟨t',rfl⟩:=ry;exact add_str (λt' tk=>⟨.str (i++j),H,I.tok _,⟨_,rfl⟩,q⟩) hz
theorem vals1{x:V}{us:List Value}(r:Vals [x] us):∃u,us=[u]/\RelV x u:=by
 cases r with
 |cons r1 r2=>cases r2;exact⟨_,rfl,r1⟩
theorem vals2{x y:V}{us:List Value}(r:Vals [x,y] us):∃u w',us=[u,w']/\RelV x u/\RelV y w':=by
 cases r with
 | cons r1 r2=>
   cases r2 with
   |cons r3 r4=>cases r4;exact⟨_,_,rfl,r1,r3⟩
theorem EJ:bE X (.type "int") (λxs H Q=>(∃i,xs=[.int i]/\Q (.int i) H)\/∃k,xs=[.bl k]/\Q (.int (if k then 1 else 0)) H):=by
 intro pins s σ H xs us Q I r h;rcases h with⟨i,rfl,q⟩|⟨k,rfl,q⟩
 · obtain⟨u,rfl,t,rfl⟩:=vals1 r
   exact call_int_int ⟨.int i,H,I,⟨_,rfl⟩,q⟩
 · obtain⟨u,rfl,r1⟩:=vals1 r
   cases r1;exact call_int_bool ⟨.int (if k then 1 else 0),H,I.tok _,⟨_,rfl⟩,q⟩
end
end L2
namespace L2
open PySem PySem.Spec PyProof.Rows
section
variable{prog:Program}{w:World}{A:Around}{E:Value->Shared->Prop}{s:Shared}{K:PySem.W.Frag}{x dx C f:Addr}{mA:Str->Option Value}{name:Str}{v:Value}
end
theorem fj.some_of{v:V}{o:Option Value}(r:fj (some v) o):∃u,o=some u/\RelV v u:=by
 cases o with
 |none=>exact(show False from r).elim
 |some u=>exact⟨u,rfl,r⟩
theorem fj.none_of{o:Option Value}(r:fj none o):o=none:=by
 cases o with
 |none=>rfl
 |some u=>exact(show False from r).elim
section
variable{P:Program}{w:World}{H H':Hp}{h h':Heap}{a C dx:Addr}{fs TN:List (Str×V)}
end
section
variable{X:Cx}{pins:List (Addr×Obj)}{σ:St}{H:Hp}{s:Shared}{a C dx:Addr}{fs:List (Str×V)}{f:Str}{v:V}{A:Around}{E:Value->Shared->Prop}
end
section
variable{X:Cx}{o e value:Expr}{f:Str}{pos pos' Qo:Pos}{ta tv:TE}
end
section
variable{X:Cx}{pins:List (Addr×Obj)}{σ:St}{H:Hp}{s:Shared}{A:Around}{E:Value->Shared->Prop}{Q:Value->Shared->Prop}{c:Value}{b:Bool}
end
end L2
namespace L2
open PySem PySem.Spec PyProof.Rows
structure bC(k:Nat)(A:Around):Prop where
 hd:A.handled=none
 dp:A.depth+3*k+5<recursionLimit
 un:A.units+16*k+200<cLine
theorem bC.mono{j k:Nat}{A:Around}(r:bC k A)(h:j<=k):bC j A:=⟨r.hd,by have:=r.dp;omega,by have:=r.un;omega⟩
theorem bC.deeper{k:Nat}{A:Around}(r:bC (k+1) A)(env:Env):bC k (A.deeper env):=
 ⟨r.hd,by have:=r.dp;show A.depth+1+3*k+5<_;omega,by have:=r.un;show A.units+3+16*k+200<_;omega⟩
theorem bC.depth{k:Nat}{A:Around}(r:bC k A):A.depth<recursionLimit:=by have:=r.dp;omega
theorem bC.units{k:Nat}{A:Around}(r:bC k A):A.units+64<cLine:=by have:=r.un;omega
def AV:TA:=λ_ H Q=>Q [] H
def uf(ta:TE)(tr:TA):TA:=λσ H Q=>ta σ H λx H1=>tr σ H1 λxs H2=>Q (x::xs) H2
section
variable{X:Cx}{e:Expr}{es:List Expr}{te:TE}{t:TA}{pos:Pos}
theorem kY:PA X [] AV:=λ_ _ _ _ H Q I h=>Calls.spliced_nil ⟨[],H,I,.nil,h⟩
theorem jz(ha:PE X e te)(hr:PA X es t)(hs:starEach (e::es) X.env=(false,eval e X.env)::starEach es X.env:=by rfl):PA X (e::es) (uf te t):=by
 intro pos pins s σ H Q I h;rw[hs];show wpAny _ _ (spliced ((false,eval e X.env)::backTo pos (starEach es X.env))) _ _ s;refine Calls.spliced_cons (aJ (ha pins s σ H _ I h) λu s1 ⟨x,H1,I1,r1,q1⟩=>?_);exact aJ (hr pos pins s1 σ H1 _ I1 q1) λus s2 ⟨xs,H2,I2,r2,q2⟩=>⟨x::xs,H2,I2,.cons r1 r2,q2⟩
def yV(t:TA):TE:=λσ H Q=>t σ H λxs H1=>xs.length<=sizeLine/\∀p,H1 p=none->Q (.ref p) (upd H1 p (.tup xs))
def Cs(t:TA):TE:=λσ H Q=>t σ H λxs H1=>xs.length<=sizeLine/\∀p,H1 p=none->Q (.ref p) (upd H1 p (.lst xs))
theorem yu{x1}(h:PA X es t):PE X (.Tuple es x1 pos) (yV t):=by
 intro pins s σ H Q I hq;refine wpAny_Tuple_spliced (aJ (h pos pins s σ H _ I hq) λus s1 ⟨xs,H1,I1,r,z,q⟩=>⟨by rw[<-r.length];exact z,?_⟩)
 have hf:H1 s1.heap.objs.size=none:=I1.aH.fresh (Nat.le_refl _);refine⟨.ref s1.heap.objs.size,upd H1 s1.heap.objs.size (.tup xs),I1.laid (t':=s1.toks) (λb u e=>Heap.get?_push_of_some _ e) (Nat.le_refl _) ?_,rfl,q _ hf⟩;exact⟨z,us,r,⟨_,Heap.get?_push_size _ rfl,rfl,_,rfl⟩⟩
theorem qd(h:PA X es t):PE X (.List es pos) (Cs t):=by
 intro pins s σ H Q I hq;refine wpAny_List_spliced (aJ (h pos pins s σ H _ I hq) λus s1 ⟨xs,H1,I1,r,z,q⟩=>⟨by rw[<-r.length];exact z,?_⟩)
 have hf:H1 s1.heap.objs.size=none:=I1.aH.fresh (Nat.le_refl _);refine⟨.ref s1.heap.objs.size,upd H1 s1.heap.objs.size (.lst xs),I1.laid (t':=s1.toks) (λb u e=>Heap.get?_push_of_some _ e) (Nat.le_refl _) ?_,rfl,q _ hf⟩;exact⟨z,us,0,r,Heap.get?_push_size _ rfl⟩
end
noncomputable abbrev Sp:=List V->Hp->VK->XK->Prop
noncomputable abbrev fZ:=List Env->Hp->Shared->XK->Value->Shared->Prop
structure ou(P:Program)(w:World)(K:PySem.W.Frag)(mg:Str->Option Value)(base:Heap)(A:Around)(outer:List Env)(s:Shared)(H:Hp):Prop where
 frames:A.frames=some outer
 mod:Mod K mg base
 bs:∀b o,base.get? b=some o->s.heap.get? b=some o/\H b=none
 iG:base.objs.size<=s.heap.objs.size
 fR:s.heap.FunFrames base outer
 jX:∀b∈d6 outer,H b=none
 aH:bH P w H s.heap
 bare:AllBare s.gens
def CE(outer:List Env)(P:Program)(w:World)(H:Hp)(s:Shared)(Q:VK)(u:Value)(s':Shared):Prop:=
 ∃v H',s'.os=s.os/\AllBare s'.gens/\Un (d6 outer) [] H H' s.heap s'.heap/\bH P w H' s'.heap/\RelV v u/\Q v H'
def CR(CX:fZ)(outer:List Env)(P:Program)(w:World)(H:Hp)(s:Shared)(Q:VK)(E:XK)(r:Result)(s':Shared):Prop:=
 match r with
 |.ok (.ret u)=>CE outer P w H s Q u s'
 |.ok _=>False
 |.error e=>CX outer H s E e s'
structure d3(P:Program)(w:World)(K:PySem.W.Frag)(mg:Str->Option Value)(base:Heap)(CX:fZ)(k:Nat)(f:Addr)(fd:FuncData)(ps:List Str)(sp:Sp):Prop where
 len:∀vs H Q E,sp vs H Q E->vs.length=ps.length
 run:∀(A:Around) (outer:List Env) (s:Shared) (H:Hp) (args:Args) (us:List Value) (vs:List V) (Q:VK) (E:XK),bC k A->ou P w K mg base A outer s H->BindsTo s fd args (ps.zip us)->Vals vs us->sp vs H Q E->
   codeAny (model P w) A (.call (.ref f) args) (CR CX outer P w H s Q E) s
section
variable{X:Cx}{pins:List (Addr×Obj)}{σ:St}{H:Hp}{s s':Shared}
theorem Inv.Dt(I:Inv X pins σ H s):ou X.prog X.w X.K X.mg X.base X.A X.stack s H:=
 ⟨I.ok.frames,I.ok.mod,I.bs,Nat.le_trans I.ok.iG I.sz,I.stack,I.u6,I.aH,I.bare⟩
theorem Inv.after{Q:VK}{u:Value}(I:Inv X pins σ H s)(h:CE X.stack X.prog X.w H s Q u s'):EP X pins σ Q u s':=by
 obtain⟨v,H',os,bare,un,aH,r,q⟩:=h;obtain⟨hh,g,d,t,Tq⟩:=s';obtain rfl:Tq=s.os:=os;exact⟨v,H',I.call (h':=hh) (g':=g) (d':=d) (t':=t) (ch:=[]) un aH bare (λb z=>absurd z (by simp)),r,q⟩
end
def om(sp:Sp)(ML:List V)(E:XK)(t:TA):TE:=λσ H Q=>t σ H λvs H1=>sp (vs++ML) H1 Q E
def Binds(K:PySem.W.Frag)(fd:FuncData)(ps:List Str)(ds:List Value):Prop:=
 ∀(s:Shared) (us:List Value),K.In s.heap->(us++ds).length=ps.length->BindsTo s fd ⟨us,[]⟩ (ps.zip (us++ds))
theorem Binds.all{K:PySem.W.Frag}{fd:FuncData}{ps:List Str}(h:∀us:List Value,us.length=ps.length->bindArgs fd ⟨us,[]⟩=pure (ps.zip us)):Binds K fd ps []:=λs us _ hl=>by
 rw[List.append_nil]at hl ⊢;exact .of_eq (h us hl)
def Passes(CX:fZ)(X:Cx)(E:XK):Prop:=∀(pins:List (Addr×Obj)) (σ:St) (H:Hp) (s:Shared) (e:Value) (s':Shared),Inv X pins σ H s->CX X.stack H s E e s'->X.xe e s'
section
variable{X:Cx}{CX:fZ}{k:Nat}{f C:Addr}{fd:FuncData}{ps:List Str}{sp:Sp}{ML:List V}{ds:List Value}{E:XK}{x m:Str}{p pos apos:Pos}{e o:Expr}{es:List Expr}{ta:TE}{t:TA}
theorem Ee{pins:List (Addr×Obj)}{σ:St}{H:Hp}{s:Shared}{Q:VK}{us:List Value}{vs:List V}(F:d3 X.prog X.w X.K X.mg X.base CX k f fd ps sp)(hr:bC k X.A)(hb:Binds X.K fd ps ds)(hd:Vals ML ds)(hx:Passes CX X E)
   (I:Inv X pins σ H s) (r:Vals vs us) (h:sp (vs++ML) H Q E):wpAny (model X.prog X.w) X.A (call (.ref f) us) (EP X pins σ Q) X.xe s:=by
 have r2:Vals (vs++ML) (us++ds):=r.append hd;have hl:(us++ds).length=ps.length:=by rw[<-r2.length];exact F.len _ _ _ _ h
 refine wpAny_call (codeAny_mono (F.run X.A X.stack s H ⟨us,[]⟩ (us++ds) (vs++ML) Q E hr I.Dt (hb s us I.dy hl) r2 h) λr s' hq=>?_);cases r with
 |error e=>exact hx pins σ H s e s' I hq
 | ok fl=>
   cases fl with
   |ret u=>exact I.after hq
   |next=>exact False.elim hq
   |brk=>exact False.elim hq
   |cont=>exact False.elim hq
theorem mW(F:d3 X.prog X.w X.K X.mg X.base CX k f fd ps sp)(hr:bC k X.A)(hg:Gl X x)(hm:X.mg x=some (.ref f))(hk:PySem.W.keepIn X.K (.ref f)=true)(hb:Binds X.K fd ps ds)(hd:Vals ML ds)(hx:Passes CX X E)
   (ha:PA X (e::es) t) (Kf:(x==("__debug__":Str))=false:=by decide) (he:starEach (e::es) X.env=(false,eval e X.env)::starEach es X.env:=by rfl) (JV:(backTo pos (starEach es X.env)).any (·.1)=false:=by rfl):
   PE X (.Call (.Name x p) (e::es) [] pos) (om sp ML E t):=by
 intro pins s σ H Q I h;refine wpAny_Call_Name_kw (vT I hg hm ?_ Kf);refine PySem.W.callWith_K (h₀:=X.base) I.ok.mod.oS hk (aJ (ha pos pins s σ H _ I h) λus s1 ⟨vs,H1,I1,r,q⟩=>⟨I1.dy,?_⟩) he JV;exact Ee F hr hb hd hx I1 r q
end
section
variable{X:Cx}{CX:fZ}{k:Nat}{f C:Addr}{fd:FuncData}{ps ks:List Str}{sp:Sp}{E:XK}{x m:Str}{p pos apos SU:Pos}{e o:Expr}{es:List Expr}{Ub:List Keyword}{te ta:TE}{t tk:TA}{nm:Option Str}
variable{g:List Value->List Value->List Value}{gV:List V->List V->List V}
end
structure bG(N P:List Str)(sc:Scope):Prop where
 kind:sc.kind=.function
 co:sc.isCoroutine=false
 gen:sc.isGenerator=false
 nd:N.Nodup
 pre:N.take P.length=P
 par:∀x∈P,sc.names.lookup x=some .local\/sc.names.lookup x=some .cell
 yp:∀y∈sc.names,y.2≠.free
theorem uK{kindOf:Str->Option NameKind}{x:Str}:∀ {binds:List (Str×Value)} {m:Str->Option Value},(∀v,(x,v)∉binds)->bindL kindOf binds m x=m x
 |[],_,_=>rfl
 | (n,v)::r,m,h=>by
   unfold bindL;rw[uK λw hw=>h w (List.mem_cons_of_mem _ hw)];split
   · have:x≠n:=by rintro rfl;exact h v List.mem_cons_self
     simp[this]
   ·rfl
theorem vJ{kindOf:Str->Option NameKind}{x:Str}:∀ {binds:List (Str×Value)} {m:Str->Option Value},(∀v,(x,v)∉binds)->bindC kindOf binds m x=m x
 |[],_,_=>rfl
 | (n,v)::r,m,h=>by
   unfold bindC;rw[vJ λw hw=>h w (List.mem_cons_of_mem _ hw)];split
   ·rfl
   · have:x≠n:=by rintro rfl;exact h v List.mem_cons_self
     simp[this]
theorem uR{kindOf:Str->Option NameKind}{x:Str}{v:Value}:∀ {P:List Str} {vs:List Value} {i:Nat} {m:Str->Option Value},P.Nodup->P[i]? =some x->vs[i]? =some v->kindOf x=some .local->
   bindL kindOf (P.zip vs) m x=some v
 |[],_,_,_,_,h,_,_=>by simp at h
 |_::_,[],_,_,_,_,h,_=>by simp at h
 | p::P,w::vs,0,m,nd,h1,h2,hk=>by
   simp at h1 h2;subst h1;subst h2;show bindL kindOf ((p,w)::P.zip vs) m p=_;unfold bindL;rw[uK λv hv=>(List.nodup_cons.mp nd).1 (List.of_mem_zip hv).1,if_pos hk];simp
 | p::P,w::vs,i+1,m,nd,h1,h2,hk=>by
   show bindL kindOf ((p,w)::P.zip vs) m x=_;unfold bindL;exact uR (i:=i) (List.nodup_cons.mp nd).2 (by simpa using h1) (by simpa using h2) hk
theorem uO{kindOf:Str->Option NameKind}{x:Str}{v:Value}:∀ {P:List Str} {vs:List Value} {i:Nat} {m:Str->Option Value},P.Nodup->P[i]? =some x->vs[i]? =some v->kindOf x≠some .local->
   bindC kindOf (P.zip vs) m x=some v
 |[],_,_,_,_,h,_,_=>by simp at h
 |_::_,[],_,_,_,_,h,_=>by simp at h
 | p::P,w::vs,0,m,nd,h1,h2,hk=>by
   simp at h1 h2;subst h1;subst h2;show bindC kindOf ((p,w)::P.zip vs) m p=_;unfold bindC;rw[vJ λv hv=>(List.nodup_cons.mp nd).1 (List.of_mem_zip hv).1,if_neg hk];simp
 | p::P,w::vs,i+1,m,nd,h1,h2,hk=>by
   show bindC kindOf ((p,w)::P.zip vs) m x=_;unfold bindC;exact uO (i:=i) (List.nodup_cons.mp nd).2 (by simpa using h1) (by simpa using h2) hk
noncomputable def start(N:List Str)(vs:List V):St:=vs.map some++List.replicate (N.length - vs.length) none
noncomputable def e6(CX:fZ)(P:Program)(w:World)(K:PySem.W.Frag)(mg:Str->Option Value)(base:Heap)(N:List Str)(qual:Str)(scope:Scope)(f:Addr)(cd:Value)(A:Around)(outer:List Env)(s:Shared)(H:Hp)(E:XK):Cx where
 prog:=P
 w:=w
 K:=K
 mg:=mg
 base:=base
 A:=A.deeper (envOfC qual scope s.heap.objs.size f cd)
 N:=N
 cv:=s
 iH:=H
 env:=envOfC qual scope s.heap.objs.size f cd
 outer:=outer
 stack:=envOfC qual scope s.heap.objs.size f cd::outer
 ex:=[]
 calm:=true
 fn:=λ_=>true
 pn:=[]
 xe:=λe s'=>wpAny (model P w) (A.deeper (envOfC qual scope s.heap.objs.size f cd)) (leaving (envOfC qual scope s.heap.objs.size f cd) e) (λ_ Qt=>CX outer H s E e Qt) (λe' Qt=>CX outer H s E e' Qt) s'
theorem ub{sc:Scope}{n:Nat}{x:Str}(h:sc.names.lookup x=some .cell):∃c,(cellsFrom n sc.names []).lookup x=some c:=by
 have q:=PySem.W.cellsFrom_some sc.names n [] (.inl h);exact Option.isSome_iff_exists.mp q
theorem Aw{CX:fZ}{P:Program}{w:World}{K:PySem.W.Frag}{mg:Str->Option Value}{base:Heap}{N ps:List Str}{qual:Str}{scope:Scope}{f:Addr}{cd:Value}{A:Around}{outer:List Env}{s s1:Shared}{H:Hp}{E:XK}{us:List Value}{vs:List V}
   (S:bG N ps scope) (hd:A.handled=none) (e0:ou P w K mg base A outer s H) (hl:vs.length=ps.length) (r:Vals vs us)
   (x:InCallC s s.heap.objs.size (bindL (envOfC qual scope s.heap.objs.size f cd).kindOf (ps.zip us) λ_=>none) (cellsFrom (s.heap.objs.size+1) scope.names []) (bindC (envOfC qual scope s.heap.objs.size f cd).kindOf (ps.zip us) λ_=>none) s1):
   Inv (e6 CX P w K mg base N qual scope f cd A outer s H E) [] (start N vs) H s1:=by
 have JV:ps.length<=N.length:=by have:=congrArg List.length S.pre;rw[List.length_take]at this;omega
 obtain⟨h1,tk,rfl,hk⟩:=x.done;have N7:∀b:Addr,b∉(e6 CX P w K mg base N qual scope f cd A outer s H E).ex:=λb z=>absurd (show b∈([]:List Addr)from z) (by simp)
 refine⟨⟨e0.mod,S.kind,rfl,rfl,Nat.le_refl _,λy z c h1 h2=>?_,λy hy=>?_,λy c _ h=>?_,λ_=>hd,Around.frames_deeper e0.frames,.inr ⟨rfl,rfl⟩,λb z=>absurd z (N7 b),e0.bs,e0.iG,λb _ _=>N7 b,λb z=>absurd z (N7 b),e0.fR,e0.jX⟩,
   rfl,e0.bare,Un.kept hk,⟨_,x.toInCall.ns,λi y v h1 h2 h3=>?_⟩,λy c h=>⟨_,x.cell y c h⟩,e0.aH.fresh (Nat.le_refl _),λy c h=>?_,λp hp=>absurd (show p∈([]:List (Addr×Obj))from hp) (by simp),e0.aH.kept hk,?_⟩
 ·exact name_of_addr x.apart (PySem.mem_of_lookup h1) (PySem.mem_of_lookup h2)
 · have hy:scope.names.lookup y=some .cell\/scope.names.lookup y=some .free:=hy
   rcases hy with hy|hy
   ·exact ub hy
   ·exact absurd rfl (S.yp _ (PySem.mem_of_lookup hy))
 ·exact Nat.le_of_lt (x.above y c (PySem.mem_of_lookup h))
 · have hi:i<vs.length:=by
     unfold start at h2;by_cases hi:i<vs.length
     ·exact hi
     · rw[List.getElem?_append_right (by simpa using hi)]at h2
       rw[List.getElem?_replicate]at h2;split at h2<;>cases h2
   have ha:vs[i]? =some v:=by
     unfold start at h2;rw[List.getElem?_append_left (by simpa using hi),List.getElem?_map]at h2
     cases e:vs[i]? with
     |none=>rw[e]at h2;cases h2
     |some a=>rw[e]at h2;cases h2;rfl
   obtain⟨u,hu,rv⟩:=r.get ha
   have hp:ps[i]? =some y:=by
     rw[<-S.pre,List.getElem?_take_of_lt (by omega)];exact h1
   have Rp:ps.Nodup:=by rw[<-S.pre];exact S.nd.sublist (List.take_sublist _ _)
   refine⟨u,rv,?_⟩;rcases S.par y (List.mem_of_getElem? hp)with k|k
   ·exact .inl ⟨k,uR Rp hp hu k⟩
   · obtain⟨c,e⟩:=ub (n:=s.heap.objs.size+1) k
     refine .inr ⟨.inl k,c,e,?_⟩;have q:=x.cell y c e;rw[uO Rp hp hu (by show scope.names.lookup y≠_;rw[k];decide)]at q
     exact q
 ·exact e0.aH.fresh (Nat.le_of_lt (x.above y c (PySem.mem_of_lookup h)))
 · unfold start
   show _=N.length;rw[List.length_append,List.length_map,List.length_replicate];omega
theorem CF{CX:fZ}{P:Program}{w:World}{K:PySem.W.Frag}{mg:Str->Option Value}{base:Heap}{k:Nat}{f:Addr}{name qual:Str}{params:Arguments}{body:List Stmt}{scope:Scope}{dV kV doc pm Jq ct oc:Value}{an od:Option Addr}
   {L4:Array (Option Value)} {N ps:List Str} {sp:Sp} (lk:K.lookup f=some ⟨oc,od,.func (PySem.W.fnOf name qual params body scope dV kV doc pm an Jq ct),L4⟩) (Jx:PySem.W.codeIn K Jq qual=true) (S:bG N ps scope)
   (len:∀vs H Q E,sp vs H Q E->vs.length=ps.length)
   (L1:∀(A:Around) (outer:List Env) (s:Shared) (H:Hp) (vs:List V) (Q:VK) (E:XK),bC k (A.deeper (envOfC qual scope s.heap.objs.size f Jq))->sp vs H Q E->
     ∃t,bQ (e6 CX P w K mg base N qual scope f Jq A outer s H E) body t/\t {nx:=λ_ H'=>Q .aD H',rt:=Q} (start N vs) H):
   d3 P w K mg base CX (k+1) f (PySem.W.fnOf name qual params body scope dV kV doc pm an Jq ct) ps sp:=by
 refine⟨len,λA outer s H args us vs Q E hr e0 hb r Lg=>?_⟩;have hl:=len _ _ _ _ Lg;have KX:K.In s.heap:=e0.mod.oS.keeps λb o e=>(e0.bs b o e).1;have lim:s.heap.NoLimit:=e0.mod.nolimit.keeps λb o e=>(e0.bs b o e).1
 have Oz:∀y∈ps.zip us,scope.names.lookup y.1=some .local\/(scope.names.lookup y.1=some .cell/\((cellsFrom (s.heap.objs.size+1) scope.names []).lookup y.1).isSome=true):=λ⟨n,v⟩ hy=>by
   rcases S.par n (List.of_mem_zip hy).1 with q|q
   ·exact .inl q
   ·exact .inr ⟨q,PySem.W.cellsFrom_some _ _ _ (.inl q)⟩
 refine codeAny_call_function hr.depth (KX _ _ lk) rfl S.co S.gen rfl (PySem.W.codeRec_of KX Jx) (hb _ _ _ _ ?_);refine wpAny_newFunctionEnv_cells S.kind Oz λenv he s1 x=>?_;subst he;refine⟨lim.keeps x.toInCall.keep,codeAny_func ?_⟩;obtain⟨t,ht,hq⟩:=L1 A outer s H vs Q E (hr.deeper _) Lg;have I:Inv (e6 CX P w K mg base N qual scope f Jq A outer s H E) [] (start N vs) H s1:=Aw S hr.hd e0 hl r x;refine wpAny_mono (ht [] s1 (start N vs) H _ I hq) (λfl s' hs=>?_) λe s' hs=>hs
 have fin:∀ {Jl:St} {H':Hp} {v:V} {u:Value},Inv (e6 CX P w K mg base N qual scope f Jq A outer s H E) [] Jl H' s'->RelV v u->Q v H'->CE outer P w H s Q u s':=
   λ{Jl H' v u} J rv q=>⟨v,H',J.os,J.bare,J.base,J.aH,rv,q⟩
 cases fl with
 | ret u=>
   obtain⟨v,Jl,H',J,rv,q⟩:=hs;exact fin J rv q
 | next=>
   obtain⟨Jl,H',J,q⟩:=hs;exact fin (v:=V.aD) (u:=Value.none) J rfl q
 | brk=>
   obtain⟨_,_,_,q⟩:=hs;exact False.elim q
 | cont=>
   obtain⟨_,_,_,q⟩:=hs;exact False.elim q
end L2
namespace L2
open PySem PySem.Spec PyProof.Rows
section
variable{X:Cx}{x:Str}{p pos:Pos}{e:Expr}{es:List Expr}{t:TA}{id T:String}{r:List V->Hp->VK->Prop}
def oy(r:List V->Hp->VK->Prop)(t:TA):TE:=λσ H Q=>t σ H λvs H1=>r vs H1 Q
theorem qO(hc:bE X (.builtin id) r)(hg:Gl X x)(hm:X.mg x=none)(hv:bootBuiltins x=some (.builtin id))(ha:PA X (e::es) t)(hn:x≠"__name__":=by decide)(Kf:(x==("__debug__":Str))=false:=by decide)
   (he:starEach (e::es) X.env=(false,eval e X.env)::starEach es X.env:=by rfl) (JV:(backTo pos (starEach es X.env)).any (·.1)=false:=by rfl):PE X (.Call (.Name x p) (e::es) [] pos) (oy r t):=by
 intro pins s σ H Q I h;refine wpAny_Call_Name_kw (jS I hg hm hv ?_ hn Kf);exact PyProof.Rows.callWith_builtin1 (aJ (ha pos pins s σ H _ I h) λus s1 ⟨vs,H1,I1,r1,q1⟩=>hc pins s1 σ H1 vs us Q I1 r1 q1) he JV
theorem qT(hc:bE X (.type T) r)(hg:Gl X x)(hm:X.mg x=none)(hv:bootBuiltins x=some (.type T))(ha:PA X (e::es) t)(hn:x≠"__name__":=by decide)(Kf:(x==("__debug__":Str))=false:=by decide)
   (he:starEach (e::es) X.env=(false,eval e X.env)::starEach es X.env:=by rfl) (JV:(backTo pos (starEach es X.env)).any (·.1)=false:=by rfl):PE X (.Call (.Name x p) (e::es) [] pos) (oy r t):=by
 intro pins s σ H Q I h;refine wpAny_Call_Name_kw (jS I hg hm hv ?_ hn Kf);exact PyProof.Rows.callWith_type1 (aJ (ha pos pins s σ H _ I h) λus s1 ⟨vs,H1,I1,r1,q1⟩=>hc pins s1 σ H1 vs us Q I1 r1 q1) he JV
end
end L2
namespace HT
open PySem PyProof.Rows
section
open PySem.SeqAt
open PySem.AutoSeq1 (wpAny_loadPart')
open PySem.MeetsSeq PySem.MeetsSeq2 PySem.MeetsSeq3
end
section
variable{prog:Program}{w:World}{A:Around}{E:Value->Shared->Prop}{s:Shared}
theorem BB{t b:Addr}{vs ws:List Value}{Q:Value->Shared->Prop}(ht:IsTup s.heap t vs.toArray)(hb:IsTup s.heap b ws.toArray)(hv:vs≠[])
   (h1:ws=[]->Q (.ref t) s) (h2:ws≠[]->Q (.ref s.heap.objs.size) {s with heap:=s.heap.push {cls:=.type "tuple",data:=.seq (vs++ws).toArray} })
   (hsz:vs.length+ws.length<=sizeLine):wpAny (model prog w) A (binaryOp .Add (.ref t) (.ref b)) Q E s:=by
 obtain⟨⟨cls,dd,data,sl⟩,ho,hc,n,hd⟩:=id ht;obtain⟨⟨SF,OZ,data2,Nv⟩,OY,RP,n2,hd2⟩:=id hb;simp only at hc hd RP hd2;subst hc hd RP hd2;have e:vs.toArray++ws.toArray=(vs++ws).toArray:=by simp
 by_cases hw:ws=[]
 · exact concat_meets ⟨_,ho,rfl⟩ ⟨_,OY,rfl⟩ noFill_tuple_add seq_tuple_add PySem.F.slot_tuple_add PySem.F.entry_tuple_add (PySem.F.args_tuple_add_2 _ _)
     (tuple_addW1 t b vs.toArray ws.toArray n n2 dd OZ sl Nv (by simpa using hv) (by simp[hw])) ⟨ho,OY,h1 hw⟩
 · refine concat_meets ⟨_,ho,rfl⟩ ⟨_,OY,rfl⟩ noFill_tuple_add seq_tuple_add PySem.F.slot_tuple_add PySem.F.entry_tuple_add (PySem.F.args_tuple_add_2 _ _)
     (tuple_addW2 t b vs.toArray ws.toArray n n2 dd OZ sl Nv (by simpa using hv) (by simpa using hw) (by rw[List.size_toArray,List.size_toArray];exact hsz)) ⟨ho,OY,?_⟩
   rw[e];exact h2 hw
noncomputable def aU(n d:Nat):Option Int->Nat
 |none=>d
 |some v=>if v<0 then(v+(n:Int)).toNat else min v.toNat n
theorem yn(n d:Nat)(hd:d<=n)(o:Option Int):aU n d o<=n:=by
 cases o with
 |none=>exact hd
 | some v=>
   show(if v<0 then(v+(n:Int)).toNat else min v.toNat n)<=n
   by_cases hv:v<0
   ·rw[if_pos hv];omega
   ·rw[if_neg hv];exact Nat.min_le_right _ _
theorem sQ(v:Int)(n d:Nat):(if v<0 then max (v+(n:Int)) 0 else min v (n:Int))=((aU n d (some v):Nat):Int):=by
 show(if v<0 then max (v+(n:Int)) 0 else min v (n:Int))=(((if v<0 then(v+(n:Int)).toNat else min v.toNat n):Nat):Int)
 by_cases hv:v<0
 ·simp only[if_pos hv];omega
 ·simp only[if_neg hv];omega
theorem Dn(lo hi:Option Int)(n:Nat):Builtin.Slice.sliceAdjust lo hi 1 (n:Int)=(((aU n 0 lo:Nat):Int),((aU n n hi:Nat):Int)):=by
 have h1:¬((1:Int)<0):=by omega
 unfold Builtin.Slice.sliceAdjust;simp only[h1,if_false];refine Prod.ext ?_ ?_
 · cases lo with
   |none=>rfl
   |some v=>exact sQ v n 0
 · cases hi with
   |none=>rfl
   |some v=>exact sQ v n n
theorem B0(i j:Nat):Builtin.Slice.slicePlaces (i:Int) (j:Int) 1=j - i:=by
 unfold Builtin.Slice.slicePlaces;have h1:(1:Int)>0:=by omega
 simp only[h1,if_true,Int.ediv_one];split<;>omega
theorem xx{v:Value}{o:Option Int}{Q:Option Int->Shared->Prop}(p:IsPart v o)(h:Q o s):wpAny (model prog w) A (Builtin.Slice.slicePartIndex v) Q E s:=by
 cases p with
 |none=>exact slicePart_none h
 |int i t=>exact slicePart_int h
theorem CG{sl:Addr}{vl vu:Value}{lo hi:Option Int}{n:Nat}{Q:Int×Int×Nat->Shared->Prop}(hs:s.heap.IsSliceOf sl vl vu .none)(pl:IsPart vl lo)(pu:IsPart vu hi)
   (h:Q (((aU n 0 lo:Nat):Int),1,aU n n hi - aU n 0 lo) s):wpAny (model prog w) A (Builtin.Slice.sliceApplied (.ref sl) (pure (n:Int))) Q E s:=by
 obtain⟨os,OJ,Lc,O9⟩:=id hs;unfold Builtin.Slice.sliceApplied Builtin.Slice.sliceFields;refine wpAny_bind (wpAny_bind (wpAny_field OJ O9 (x:=vl) rfl (wpAny_bind (wpAny_field OJ O9 (x:=vu) rfl (wpAny_bind (wpAny_field OJ O9 (x:=.none) rfl (wpAny_pure ?_)))))));refine wpAny_bind (slicePart_none ?_);show wpAny _ _ (if((1:Int)==0)=true then _ else _) _ _ s
 rw[if_neg (by decide)]
 refine wpAny_bind (xx pl (wpAny_bind (xx pu (wpAny_bind (wpAny_pure ?_)))));show wpAny _ _ (match Builtin.Slice.sliceAdjust lo hi 1 (n:Int)with|(lo,hi)=>pure (lo,(1:Int),Builtin.Slice.slicePlaces lo hi 1)) _ _ s
 rw[Dn lo hi n];show wpAny _ _ (pure (((aU n 0 lo:Nat):Int),(1:Int),Builtin.Slice.slicePlaces ((aU n 0 lo:Nat):Int) ((aU n n hi:Nat):Int) 1)) _ _ s;rw[B0];exact wpAny_pure h
theorem CC(xs:Array Value)(i k:Nat):((List.range k).filterMap λ(m:Nat)=>xs[((i:Int)+(m:Int)*1).toNat]?).toArray=((xs.toList.drop i).take k).toArray:=by
 have e:(λ(m:Nat)=>xs[((i:Int)+(m:Int)*1).toNat]?)=λm=>xs[i+m]? :=by
   funext m;have:((i:Int)+(m:Int)*1).toNat=i+m:=by omega
   rw[this]
 rw[e];have:=pick_run xs i k;rw[List.filterMap_map]at this;have e2:((λx=>xs[x]?)∘λx=>i+x)=λm=>xs[i+m]? :=rfl;rw[e2]at this;rw[this]
theorem yD{t sl:Addr}{items:Array Value}{vl vu:Value}{lo hi:Option Int}{Q:Value->Shared->Prop}(ht:IsTup s.heap t items)(hs:s.heap.IsSliceOf sl vl vu .none)(pl:IsPart vl lo)(pu:IsPart vu hi)
   (hw:¬(aU items.size 0 lo=0/\aU items.size items.size hi=items.size))
   (h:Q (.ref s.heap.objs.size) {s with heap:=s.heap.push {cls:=.type "tuple",data:=.seq ((items.toList.drop (aU items.size 0 lo)).take (aU items.size items.size hi - aU items.size 0 lo)).toArray} })
   (hsz:items.size<=sizeLine):wpAny (model prog w) A (getItem (.ref t) (.ref sl)) Q E s:=by
 have Lq:sizeOk (.seq ((items.toList.drop (aU items.size 0 lo)).take (aU items.size items.size hi - aU items.size 0 lo)).toArray):=by
   show((items.toList.drop (aU items.size 0 lo)).take (aU items.size items.size hi - aU items.size 0 lo)).toArray.size<=sizeLine;rw[List.size_toArray,List.length_take,List.length_drop,Array.length_toList];omega
 have hj:aU items.size items.size hi<=items.size:=yn _ _ (Nat.le_refl _) hi;obtain⟨os,OJ,Lc,O9⟩:=id hs;have Se:s.TypeIs (.ref sl) "slice":=⟨os,OJ,Lc⟩;unfold getItem
 try with_reducible refine wpAny_holding ?_
 first|refine wpAny_bind (wpAny_pure ?_)|skip
 refine wpAny_bind (wpAny_sequenceKey ht.typeIs (by decide) ?_)
 refine wpAny_bind (wpAny_callSpecial?_slot (name:=Str.ofString "__getitem__") ht.typeIs PyProof.Rows.slot_tuple_getitem
   (wpAny_call_entry PyProof.Rows.slot_tuple_getitem ht.typeIs entry_tuple_getitem ?_ (args_tuple_getitem _ _)))
 show wpAny _ _ (Builtin.Tuple.tupleItemsOf (.ref t) >>= _) _ _ s;refine wpAny_bind (tupleItemsOf_ ht ?_);refine wpAny_bind (wpAny_typeOf Se ?_);rw[if_pos (by decide)]
 refine wpAny_bind (CG hs pl pu ?_)
 have OH:¬((((aU items.size 0 lo:Nat):Int)==0&&(1:Int)==1&&(aU items.size items.size hi - aU items.size 0 lo)==items.size)=true):=by
   intro q;rw[Bool.and_eq_true,Bool.and_eq_true]at q;have q1:((aU items.size 0 lo:Nat):Int)=0:=eq_of_beq q.1.1;have q2:aU items.size items.size hi - aU items.size 0 lo=items.size:=eq_of_beq q.2;exact hw ⟨by omega,by omega⟩
 show wpAny _ _ (if(((aU items.size 0 lo:Nat):Int)==0&&(1:Int)==1&&(aU items.size items.size hi - aU items.size 0 lo)==items.size)=true then _ else _) _ _ s
 rw[if_neg OH,CC]
 first
   |exact wpAny_bind (m:=Builtin.Tuple.tupleExact _) (wpAny_newObj_type (wpAny_pure ⟨_,rfl,wpAny_pure h⟩) Lq)
   |exact wpAny_bind (m:=Builtin.Tuple.tupleExact _) (wpAny_newObj_type (wpAny_bind (wpAny_pure (wpAny_pure ⟨_,rfl,wpAny_pure h⟩))) Lq)
   |exact wpAny_bind (wpAny_bind (m:=Builtin.Tuple.tupleExact _) (wpAny_newObj_type (wpAny_pure (wpAny_pure ⟨_,rfl,wpAny_pure h⟩)) Lq))
   |exact wpAny_bind (wpAny_bind (m:=Builtin.Tuple.tupleExact _) (wpAny_newObj_type (wpAny_pure ⟨_,rfl,wpAny_pure h⟩) Lq))
end
end HT
namespace L2
open PySem PySem.Spec PyProof.Rows
noncomputable abbrev TO:=St->Hp->(Option Int->Hp->Prop)->Prop
def PO(X:Cx)(e:Option Expr)(t:TO):Prop:=
 ∀(pins:List (Addr×Obj)) (s:Shared) (σ:St) (H:Hp) (Q:Option Int->Hp->Prop),Inv X pins σ H s->t σ H Q->
   wpAny (model X.prog X.w) X.A (evalPart e X.env) (λu s'=>∃o H',Inv X pins σ H' s'/\IsPart u o/\Q o H') X.xe s
noncomputable def Eu:TO:=λ_ H Q=>Q none H
noncomputable def Ek(t:TE):TO:=λσ H Q=>t σ H λx H1=>∃i,x=.int i/\Q (some i) H1
section
variable{X:Cx}{e:Expr}{te:TE}{lo hi:Option Expr}{tl th:TO}{pos p2:Pos}
theorem yP:PO X none Eu:=by
 intro pins s σ H Q I h;rw[evalPart_none];exact wpAny_pure ⟨none,H,I,.none,h⟩
theorem EN(h:PE X e te):PO X (some e) (Ek te):=by
 intro pins s σ H Q I hw;rw[evalPart_some];refine aJ (h pins s σ H _ I hw) λu s1 ⟨x,H1,I1,r1,q1⟩=>?_;obtain⟨i,rfl,q⟩:=q1;obtain⟨t,rfl⟩:=r1;exact⟨some i,H1,I1,.int i t,q⟩
def iS(X:Cx)(r:V->Option Int->Option Int->Hp->VK->Prop):Prop:=
 ∀(pins:List (Addr×Obj)) (s:Shared) (σ:St) (H:Hp) (x:V) (v vl vu:Value) (lo hi:Option Int) (sl:Addr) (Q:VK),Inv X pins σ H s->RelV x v->s.heap.IsSliceOf sl vl vu .none->IsPart vl lo->IsPart vu hi->r x lo hi H Q->
   ∃T id,typeLookup (.type T) "__getitem__"=pure (some (.builtin id))/\s.TypeIs v T/\wpAny (model X.prog X.w) X.A (getItem v (.ref sl)) (EP X pins σ Q) X.xe s
theorem iS.or{r r':V->Option Int->Option Int->Hp->VK->Prop}(h:iS X r)(h':iS X r'):iS X (λx lo hi H Q=>r x lo hi H Q\/r' x lo hi H Q):=by
 intro pins s σ H x v vl vu lo hi sl Q I rx hs pl pu q;rcases q with q|q
 ·exact h pins s σ H x v vl vu lo hi sl Q I rx hs pl pu q
 ·exact h' pins s σ H x v vl vu lo hi sl Q I rx hs pl pu q
def Bh(r:V->Option Int->Option Int->Hp->VK->Prop)(te:TE)(tl th:TO):TE:=λσ H Q=>te σ H λx H1=>tl σ H1 λl H2=>th σ H2 λu H3=>r x l u H3 Q
theorem GP{r:V->Option Int->Option Int->Hp->VK->Prop}(hr:iS X r)(he:PE X e te)(hl:PO X lo tl)(hu:PO X hi th):PE X (.Subscript e (.Slice lo hi none p2) pos) (Bh r te tl th):=by
 intro pins s σ H Q I h;refine Subscript_ (aJ (he pins s σ H _ I h) λv s1 ⟨x,H1,I1,r1,q1⟩=>?_);refine wpAny_Slice (aJ (hl pins s1 σ H1 _ I1 q1) λvl s2 ⟨l,H2,I2,pl,q2⟩=>aJ (hu pins s2 σ H2 _ I2 q2) λvu s3 ⟨u,H3,I3,pu,q3⟩=>?_);rw[evalPart_none];refine wpAny_pure ?_;have I4:Inv X pins σ H3 {s3 with heap:=s3.heap.push {cls:=.type "slice",data:=.fields #[vl,vu,.none]} }:=I3.kept (t':=s3.toks) λb ob q=>Heap.get?_push_of_some _ q;obtain⟨T,id,hT,ht,hg⟩:=hr pins {s3 with heap:=s3.heap.push {cls:=.type "slice",data:=.fields #[vl,vu,.none]} } σ H3 x v vl vu l u s3.heap.objs.size Q I4 r1 (Heap.IsSliceOf.new ..) pl pu q3;show wpAny (model X.prog X.w) X.A (subscriptTail e (.Slice lo hi none p2) v (.ref s3.heap.objs.size)) (EP X pins σ Q) X.xe {s3 with heap:=s3.heap.push {cls:=.type "slice",data:=.fields #[vl,vu,.none]} };exact tail_any (ops:=[.ref s3.heap.objs.size,v]) ht hT hg (by with_unfolding_all rfl)
noncomputable def gO(xs:List V)(lo hi:Option Int):List V:=(xs.drop (HT.aU xs.length 0 lo)).take (HT.aU xs.length xs.length hi - HT.aU xs.length 0 lo)
theorem xJ(xs:List V)(lo hi:Option Int):(gO xs lo hi).length<=xs.length:=by
 unfold gO;rw[List.length_take,List.length_drop];omega
def Ci(K:PySem.W.Frag):V->Option Int->Option Int->Hp->VK->Prop:=λx lo hi H Q=>∃a xs,x=.ref a/\bo K H a xs/\
 ¬(HT.aU xs.length 0 lo=0/\HT.aU xs.length xs.length hi=xs.length)/\∀p,H p=none->Q (.ref p) (upd H p (.tup (gO xs lo hi)))
theorem zT:iS X (Ci X.K):=by
 intro pins s σ H x v vl vu lo hi sl Q I rx hs pl pu h;obtain⟨a,xs,rfl,hx,hw,q⟩:=h;cases rx;obtain⟨aj,r,ht,hz⟩:=I.tuple hx;have hlen:aj.toArray.size=xs.length:=by rw[List.size_toArray];exact r.length.symm
 refine⟨"tuple",_,PyProof.Rows.slot_tuple_getitem.lookup,ht.typeIs,?_⟩;refine HT.yD ht hs pl pu (by rw[hlen];exact hw) ?_ (by rw[hlen];exact hz)
 rw[hlen];refine⟨.ref s.heap.objs.size,_,I.laid (t':=s.toks) (o:=.tup (gO xs lo hi)) (λb ob q=>Heap.get?_push_of_some _ q) (Nat.le_refl _) ?_,rfl,q _ (I.aH.fresh (Nat.le_refl _))⟩;exact⟨Nat.le_trans (xJ xs lo hi) hz,_,(r.drop (HT.aU xs.length 0 lo)).take (HT.aU xs.length xs.length hi - HT.aU xs.length 0 lo),IsTup.new _ _⟩
noncomputable def wu(K:PySem.W.Frag):R2:=λx y H Q=>∃a b xs ys,x=.ref a/\y=.ref b/\bo K H a xs/\bo K H b ys/\xs≠[]/\xs.length+ys.length<=sizeLine/\
 (ys=[]->Q (.ref a) H)/\(ys≠[]->∀p,H p=none->Q (.ref p) (upd H p (.tup (xs++ys))))
theorem Vals.qL{xs:List V}{us:List Value}(r:Vals xs us):us=[]↔xs=[]:=by
 cases r with
 |nil=>simp
 |cons _ _=>simp
theorem GH:aZ X (binaryOp .Add) (wu X.K):=by
 intro pins s σ H x y v u Q I rx ry h;obtain⟨a,b,xs,ys,rfl,rfl,ha,hb,hx,hz,q1,q2⟩:=h;cases rx;cases ry;obtain⟨aj,r1,p1,_⟩:=I.tuple ha;obtain⟨L7,r2,p2,_⟩:=I.tuple hb;refine HT.BB p1 p2 (λz=>hx (r1.qL.mp z)) (λz=>⟨.ref a,H,I,rfl,q1 (r2.qL.mp z)⟩) (λz=>?_) (by rw[<-r1.length, <-r2.length];exact hz)
 refine⟨.ref s.heap.objs.size,_,I.laid (t':=s.toks) (o:=.tup (xs++ys)) (λb ob q=>Heap.get?_push_of_some _ q) (Nat.le_refl _) ?_,rfl,q2 (λw=>z (r2.qL.mpr w)) _ (I.aH.fresh (Nat.le_refl _))⟩;exact⟨by rw[List.length_append];exact hz,_,r1.append r2,IsTup.new _ _⟩
end
end L2
namespace L2
open PySem PySem.Spec PyProof.Rows
noncomputable def bJ(n:Nat)(i:Int):Option Nat:=if 0<=i then(if i<n then some i.toNat else none)else if -(n:Int)<=i then some (i+n).toNat else none
noncomputable def bY{α:Type}(xs:List α)(i:Int):Option α:=(bJ xs.length i).bind λj=>xs[j]?
theorem uW{n:Nat}{i:Int}{j:Nat}(h:bJ n i=some j):seqIndex? i n=some j/\j<n/\ -(n:Int)<=i/\i<n:=by
 unfold bJ at h;by_cases h0:0<=i
 · rw[if_pos h0]at h
   by_cases h1:i<n
   · rw[if_pos h1]at h
     have e:i.toNat=j:=Option.some.inj h;exact⟨by rw[seqIndex_of h0 h1,e],by omega,by omega,h1⟩
   ·rw[if_neg h1]at h;cases h
 · rw[if_neg h0]at h
   by_cases h1: -(n:Int)<=i
   · rw[if_pos h1]at h
     have e:(i+n).toNat=j:=Option.some.inj h;exact⟨by rw[seqIndex_neg (by omega) h1,e],by omega,h1,by omega⟩
   ·rw[if_neg h1]at h;cases h
theorem pq{α:Type}{xs:List α}{i:Int}{v:α}(h:bY xs i=some v):∃j,seqIndex? i xs.length=some j/\xs[j]? =some v/\j<xs.length/\ -(xs.length:Int)<=i/\i<xs.length:=by
 unfold bY at h;cases e:bJ xs.length i with
 |none=>rw[e]at h;cases h
 | some j=>
   rw[e]at h;obtain⟨h1,h2,h3,h4⟩:=uW e;exact⟨j,h1,h,h2,h3,h4⟩
def jT(b:Expr):Prop:=∀o i,subscripted b false o i=operate [o,i] (getItem o i)
def fB(X:Cx)(r:R2):Prop:=
 ∀(value slice:Expr) (pins:List (Addr×Obj)) (s:Shared) (σ:St) (H:Hp) (x y:V) (v u:Value) (Q:VK),Inv X pins σ H s->RelV x v->RelV y u->r x y H Q->
   subscripted slice false v u=operate [v,u] (getItem v u)->wpAny (model X.prog X.w) X.A (subscriptTail value slice v u) (EP X pins σ Q) X.xe s
def HF(X:Cx)(id:String)(r:V->List V->Hp->VK->Prop):Prop:=
 ∀(pins:List (Addr×Obj)) (s:Shared) (σ:St) (H:Hp) (x:V) (xs:List V) (v:Value) (us:List Value) (Q:VK),Inv X pins σ H s->RelV x v->Vals xs us->r x xs H Q->
   wpAny (model X.prog X.w) X.A (call (.builtin id) (v::us)) (EP X pins σ Q) X.xe s
section
variable{X:Cx}{a b:Expr}{ta tb:TE}{pos:Pos}
theorem fB.or{r r':R2}(h:fB X r)(h':fB X r'):fB X (λx y H Q=>r x y H Q\/r' x y H Q):=by
 intro value slice pins s σ H x y v u Q I rx ry q hs;rcases q with q|q
 ·exact h value slice pins s σ H x y v u Q I rx ry q hs
 ·exact h' value slice pins s σ H x y v u Q I rx ry q hs
theorem wR{r:R2}(hr:fB X r)(ha:PE X a ta)(hb:PE X b tb)(hs:jT b):PE X (.Subscript a b pos) (kL r ta tb):=by
 intro pins s σ H Q I h;exact Subscript_ (p6 ha hb I h λv u s2 x y H2 I2 rx ry q=>hr a b pins s2 σ H2 x y v u Q I2 rx ry q (hs _ _))
def xO(K:PySem.W.Frag):R2:=λx y H Q=>∃p xs i v,x=.ref p/\y=.int i/\a8 K H p xs/\bY xs i=some v/\Q v H
def xy(K:PySem.W.Frag):R2:=λx y H Q=>∃p xs i v,x=.ref p/\y=.int i/\bo K H p xs/\bY xs i=some v/\Q v H
def wB:R2:=λx y H Q=>∃z i c,x=.str z/\y=.int i/\z.length<=sizeLine/\bY z.cps.toList i=some c/\Q (.str ⟨#[c]⟩) H
theorem yA:fB X (xO X.K):=by
 intro value slice pins s σ H x y v u Q I rx ry h hs;obtain⟨p,xs,i,z,rfl,rfl,hq,he,q⟩:=h;cases rx;obtain⟨t,rfl⟩:=ry;obtain⟨aj,r,pl,hz⟩:=I.list hq;obtain⟨j,h1,h2,h3,h4,h5⟩:=pq he;obtain⟨w,ew,Km⟩:=r.get h2;have hl:=r.length;have hn:=i0;have fin:EP X pins σ Q w s:=⟨z,H,I,Km,q⟩;by_cases h0:0<=i
 · have hj:i.toNat=j:=by
     rw[seqIndex_of h0 h5]at h1;exact Option.some.inj h1
   exact item_listR pl.isList h0 (by omega) (by rw[hj];simpa using ew) fin hs
 · have hj:(i+(aj.toArray.size:Int)).toNat=j:=by
     rw[seqIndex_neg (by omega) h4]at h1
     rw[List.size_toArray, <-hl];exact Option.some.inj h1
   exact subscriptTail_builtinR (x:=w) pl.isList.typeIs slot_list_getitem.lookup
     (wpAny_getItem_list_neg (Q:=λr s'=>r=w/\EP X pins σ Q r s') pl.isList (by omega) (by rw[List.size_toArray]<;>omega) (by omega) (by rw[hj];simpa using ew) ⟨rfl,fin⟩) hs
theorem qH:fB X (xy X.K):=by
 intro value slice pins s σ H x y v u Q I rx ry h hs;obtain⟨p,xs,i,z,rfl,rfl,hq,he,q⟩:=h;cases rx;obtain⟨t,rfl⟩:=ry;obtain⟨aj,r,pl,hz⟩:=I.tuple hq;obtain⟨j,h1,h2,h3,h4,h5⟩:=pq he;obtain⟨w,ew,Km⟩:=r.get h2;have hl:=r.length;have hn:=i0;have fin:EP X pins σ Q w s:=⟨z,H,I,Km,q⟩
 exact subscriptTail_builtinR (x:=w) pl.typeIs slot_tuple_getitem.lookup
   (getItem_tuple (j:=j) (Q:=λr s'=>r=w/\EP X pins σ Q r s') pl (by omega) (by omega) (by rw[List.size_toArray, <-hl];exact h1) (by simpa using ew) ⟨rfl,fin⟩) hs
theorem FC:fB X wB:=by
 intro value slice pins s σ H x y v u Q I rx ry h hs;obtain⟨z,i,c,rfl,rfl,hz,he,q⟩:=h;obtain⟨t,rfl⟩:=rx;obtain⟨t',rfl⟩:=ry;obtain⟨j,h1,h2,h3,h4,h5⟩:=pq he;have hl:z.cps.toList.length=z.length:=by simp[Str.length]
 rw[hl]at h1 h4 h5;have hn:=i0
 exact tail_any (typeIs_str s z t) slot_str_getitem.lookup (getItem_str (c:=c) (by
   have e1:decide (i< -(2 ^ 63:Int))=false:=decide_eq_false (by omega)
   have e2:decide (i>=2 ^ 63)=false:=decide_eq_false (by omega)
   rw[e1,e2,Bool.or_false]) (by rw[h1];simpa using h2) ⟨.str ⟨#[c]⟩,H,I.tok _,⟨_,rfl⟩,q⟩) hs
def oE(K:PySem.W.Frag):R2:=λx y H Q=>xO K x y H Q\/xy K x y H Q\/wB x y H Q
theorem uT:fB X (oE X.K):=yA.or (qH.or FC)
theorem Cy(aj:List Value)(n j:Nat)(u:Value):Obj.mapSeq (·.setIfInBounds j u) {cls:=.type "list",data:=.seq aj.toArray n}={cls:=.type "list",data:=.seq (aj.set j u).toArray n}:=by
 simp[Obj.mapSeq]
theorem Inv.lst{pins:List (Addr×Obj)}{σ:St}{H:Hp}{s:Shared}{p:Addr}{xs:List V}(I:Inv X pins σ H s)(h:H p=some (.lst xs)):
   ∃(aj:List Value) (n:Nat),Vals xs aj/\s.heap.get? p=some {cls:=.type "list",data:=.seq aj.toArray n}/\xs.length<=sizeLine:=by
 obtain⟨z,aj,n,r,e⟩:=I.aH p _ h;exact⟨aj,n,r,e,z⟩
theorem Inv.yF{pins:List (Addr×Obj)}{σ:St}{H:Hp}{s:Shared}{p:Addr}{xs ys:List V}{aj its':List Value}{n n':Nat}{f:Obj->Obj}(I:Inv X pins σ H s)(h:H p=some (.lst xs))
   (ho:s.heap.get? p=some {cls:=.type "list",data:=.seq aj.toArray n}) (hf:f {cls:=.type "list",data:=.seq aj.toArray n}={cls:=.type "list",data:=.seq its'.toArray n'}) (r:Vals ys its') (hz:ys.length<=sizeLine) (t:Nat):
   Inv X pins σ (upd H p (.lst ys)) {s with heap:=s.heap.update p f,toks:=t}:=by
 have e:(s.heap.update p f).get? p=some {cls:=.type "list",data:=.seq its'.toArray n'}:=by
   rw[Heap.get?_update_self f ho (by rw[hf]<;>rfl),hf]
 refine I.write (x:=p) (e:=p) (by rw[h];trivial) (.inl rfl) (λb u hb q=>(Heap.get?_update_other _ _ (Ne.symm hb)).trans q) ⟨_,e⟩ ?_
 exact⟨hz,its',n',r,e⟩
def zH:V->V->V->Hp->(Hp->Prop)->Prop:=λo i v H Q=>∃p xs k j,o=.ref p/\i=.int k/\H p=some (.lst xs)/\bJ xs.length k=some j/\Q (upd H p (.lst (xs.set j v)))
theorem set_list:sP X zH:=by
 intro pins s σ H o i v ov iv u Q I ro ri rv h;obtain⟨p,xs,k,j,rfl,rfl,hp,hj,q⟩:=h;cases ro;obtain⟨t,rfl⟩:=ri;obtain⟨aj,n,r,ho,hz⟩:=I.lst hp;obtain⟨h1,h2,h3,h4⟩:=uW hj;have hl:=r.length;have hn:=i0
 have I':Inv X pins σ (upd H p (.lst (xs.set j v))) {s with heap:=s.heap.update p (Obj.mapSeq (·.setIfInBounds j u))}:=
   I.yF hp ho (Cy aj n j u) (r.set rv j) (by rw[List.length_set];exact hz) s.toks
 by_cases h0:0<=k
 · have hk:k.toNat=j:=by
     rw[seqIndex_of h0 h4]at h1;exact Option.some.inj h1
   exact PySem.W.ki_setAt ho h0 (by omega) (by rw[List.size_toArray, <-hl];exact h4) (by rw[hk];exact⟨_,I',q⟩)
 · have hk:(k+(aj.toArray.size:Int)).toNat=j:=by
     rw[seqIndex_neg (by omega) h3]at h1
     rw[List.size_toArray, <-hl];exact Option.some.inj h1
   exact PySem.W.ki_setBack ho (by omega) (by rw[List.size_toArray, <-hl];exact h3) (by omega) (by rw[hk];exact⟨_,I',q⟩)
theorem zM(lo hi:Option Int)(n:Nat):(sliceBounds lo hi none n).1=((HT.aU n 0 lo:Nat):Int)/\(sliceBounds lo hi none n).2.1=((HT.aU n n hi:Nat):Int)/\(sliceBounds lo hi none n).2.2=1:=by
 refine⟨?_,?_,rfl⟩
 · cases lo with
   |none=>simp[sliceBounds,HT.aU]
   | some i=>
     simp only[sliceBounds,HT.aU,Option.getD_none,show(1:Int)>0 by decide,if_true]
     by_cases h:i<0
     ·simp only[h,if_true]<;>omega
     ·simp only[h,if_false]<;>omega
 · cases hi with
   |none=>simp[sliceBounds,HT.aU]
   | some i=>
     simp only[sliceBounds,HT.aU,Option.getD_none,show(1:Int)>0 by decide,if_true]
     by_cases h:i<0
     ·simp only[h,if_true]<;>omega
     ·simp only[h,if_false]<;>omega
theorem yb(aj:List Value)(lo hi:Option Int):slicePick aj.toArray lo hi none=((aj.drop (HT.aU aj.length 0 lo)).take (HT.aU aj.length aj.length hi - HT.aU aj.length 0 lo)).toArray:=by
 obtain⟨h1,h2,h3⟩:=zM lo hi aj.toArray.size;unfold slicePick;rw[h1,h2,h3];simp only[sliceRange_one,pick_run,List.size_toArray]<;>rfl
def yh(K:PySem.W.Frag):V->Option Int->Option Int->Hp->VK->Prop:=λx lo hi H Q=>∃a xs,x=.ref a/\a8 K H a xs/\∀p,H p=none->Q (.ref p) (upd H p (.lst (gO xs lo hi)))
theorem CD:iS X (yh X.K):=by
 intro pins s σ H x v vl vu lo hi sl Q I rx hs pl pu h;obtain⟨a,xs,rfl,hx,q⟩:=h;cases rx;obtain⟨aj,r,ht,hz⟩:=I.list hx;have hlen:=r.length;refine⟨"list",_,slot_list_getitem.lookup,ht.isList.typeIs,?_⟩;refine wpAny_getItem_list_slice ht.isList hs pl pu .none (by simp) ?_ (by rw[List.size_toArray]<;>omega)
 rw[yb, <-hlen];refine⟨.ref s.heap.objs.size,_,I.laid (t':=s.toks) (o:=.lst (gO xs lo hi)) (λb ob q=>Heap.get?_push_of_some _ q) (Nat.le_refl _) ?_,rfl,q _ (I.aH.fresh (Nat.le_refl _))⟩;exact⟨Nat.le_trans (xJ xs lo hi) hz,_,0,(r.drop (HT.aU xs.length 0 lo)).take (HT.aU xs.length xs.length hi - HT.aU xs.length 0 lo),Heap.get?_push_size _ rfl⟩
noncomputable def gF:V->Bool
 |.aD=>true
 |.bl _=>true
 |.int _=>true
 |.str _=>true
 |_=>false
noncomputable def fS:V->V->Bool
 |.aD,.aD=>true
 |.bl a,.bl b=>a==b
 |.bl a,.int b=>(if a then 1 else 0)==b
 |.int a,.bl b=>a==(if b then 1 else 0)
 |.int a,.int b=>a==b
 |.str a,.str b=>a==b
 |_,_=>false
theorem rX{A:Around}{s:Shared}{y x:V}{u v:Value}(ry:RelV y u)(rx:RelV x v)(fy:gF y=true)(fx:gF x=true):SeqAt.EqAt A s u v (fS y x):=by
 cases y with
 | aD=>
   cases ry;cases x with
   |aD=>cases rx;exact SeqAt.EqAt.same _
   |bl b=>cases rx;exact SeqAt.EqAt.none_bool b
   |int b=>obtain⟨t,rfl⟩:=rx;exact SeqAt.EqAt.none_int b t
   |str b=>obtain⟨t,rfl⟩:=rx;exact SeqAt.EqAt.none_str b t
   |_=>exact absurd (show false=true from fx) Bool.false_ne_true
 | bl a=>
   cases ry;cases x with
   |aD=>cases rx;exact SeqAt.EqAt.bool_none a
   |bl b=>cases rx;exact SeqAt.EqAt.bool_bool a b
   |int b=>obtain⟨t,rfl⟩:=rx;exact SeqAt.EqAt.bool_int a b t
   |str b=>obtain⟨t,rfl⟩:=rx;exact SeqAt.EqAt.bool_str a b t
   |_=>exact absurd (show false=true from fx) Bool.false_ne_true
 | int a=>
   obtain⟨t',rfl⟩:=ry;cases x with
   |aD=>cases rx;exact SeqAt.EqAt.int_none a t'
   |bl b=>cases rx;exact SeqAt.EqAt.int_bool a t' b
   |int b=>obtain⟨t,rfl⟩:=rx;exact SeqAt.EqAt.int_int a t' b t
   |str b=>obtain⟨t,rfl⟩:=rx;exact SeqAt.EqAt.int_str a t' b t
   |_=>exact absurd (show false=true from fx) Bool.false_ne_true
 | str a=>
   obtain⟨t',rfl⟩:=ry;cases x with
   |aD=>cases rx;exact SeqAt.EqAt.str_none a t'
   |bl b=>cases rx;exact SeqAt.EqAt.str_bool a t' b
   |int b=>obtain⟨t,rfl⟩:=rx;exact SeqAt.EqAt.str_int a t' b t
   |str b=>obtain⟨t,rfl⟩:=rx;exact SeqAt.EqAt.str_str a t' b t
   |_=>exact absurd (show false=true from fx) Bool.false_ne_true
 |_=>exact absurd (show false=true from fy) Bool.false_ne_true
noncomputable def dZ(x:V)(u:Value):Bool:=match u with
 |.none=>fS .aD x
 |.bool b=>fS (.bl b) x
 |.int i _=>fS (.int i) x
 |.str z _=>fS (.str z) x
 |_=>false
theorem ua{x y:V}{u:Value}(r:RelV y u)(f:gF y=true):dZ x u=fS y x:=by
 cases y with
 |aD=>cases r;rfl
 |bl b=>cases r;rfl
 |int i=>obtain⟨t,rfl⟩:=r;rfl
 |str z=>obtain⟨t,rfl⟩:=r;rfl
 |_=>exact absurd (show false=true from f) Bool.false_ne_true
theorem l4{x:V}:∀ {xs:List V} {us:List Value},Vals xs us->xs.all gF=true->us.any (dZ x)=xs.any λy=>fS y x
 |_,_,.nil,_=>rfl
 | y::xs,u::us,.cons r t,f=>by
   rw[List.all_cons,Bool.and_eq_true]at f;rw[List.any_cons,List.any_cons,ua r f.1,l4 t f.2]
theorem mL{A:Around}{s:Shared}{x:V}{v:Value}(rx:RelV x v)(fx:gF x=true):∀ {xs:List V} {us:List Value},Vals xs us->xs.all gF=true->∀u∈us,SeqAt.EqAt A s u v (dZ x u)
 |_,_,.nil,_=>λu hu=>by cases hu
 | y::xs,u::us,.cons r t,f=>λu' hu=>by
   rw[List.all_cons,Bool.and_eq_true]at f;rcases List.mem_cons.mp hu with rfl|hu
   ·rw[ua r f.1];exact rX r rx f.1 fx
   ·exact mL rx fx t f.2 u' hu
noncomputable def nR(x:V)(xs:List V):Bool:=xs.any λy=>fS y x
noncomputable def vc(K:PySem.W.Frag)(neg:Bool):R2:=λx y H Q=>∃p xs,y=.ref p/\(a8 K H p xs\/bo K H p xs)/\gF x=true/\xs.all gF=true/\Q (.bl (if neg then !nR x xs else nR x xs)) H
theorem Hr:aZ X (compareOp .In) (vc X.K false):=by
 intro pins s σ H x y v u Q I rx ry h;obtain⟨p,xs,rfl,hq,fx,fs,q⟩:=h;cases ry;rcases hq with hq|hq
 · obtain⟨aj,r,pl,hz⟩:=I.list hq
   refine SeqAt.in_listAt (dZ x) pl.isList (λw hw=>mL rx fx r fs w (by simpa using hw)) ⟨.bl _,H,I,rfl,?_⟩
   rw[show aj.toArray.any (dZ x)=aj.any (dZ x) by simp,l4 r fs]
   exact q
 · obtain⟨aj,r,pl,hz⟩:=I.tuple hq
   refine SeqAt.in_tupleAt (dZ x) pl (λw hw=>mL rx fx r fs w (by simpa using hw)) ⟨.bl _,H,I,rfl,?_⟩
   rw[show aj.toArray.any (dZ x)=aj.any (dZ x) by simp,l4 r fs]
   exact q
theorem Be:aZ X (compareOp .NotIn) (vc X.K true):=by
 intro pins s σ H x y v u Q I rx ry h;obtain⟨p,xs,rfl,hq,fx,fs,q⟩:=h;cases ry;rcases hq with hq|hq
 · obtain⟨aj,r,pl,hz⟩:=I.list hq
   refine SeqAt.notIn_listAt (dZ x) pl.isList (λw hw=>mL rx fx r fs w (by simpa using hw)) ⟨.bl _,H,I,rfl,?_⟩
   rw[show aj.toArray.any (dZ x)=aj.any (dZ x) by simp,l4 r fs]
   exact q
 · obtain⟨aj,r,pl,hz⟩:=I.tuple hq
   refine SeqAt.notIn_tupleAt (dZ x) pl (λw hw=>mL rx fx r fs w (by simpa using hw)) ⟨.bl _,H,I,rfl,?_⟩
   rw[show aj.toArray.any (dZ x)=aj.any (dZ x) by simp,l4 r fs]
   exact q
theorem uI:bE X (.builtin "len") (λxs H Q=>∃p ys,xs=[.ref p]/\(a8 X.K H p ys\/bo X.K H p ys)/\Q (.int ys.length) H):=by
 intro pins s σ H xs us Q I r h;obtain⟨p,ys,rfl,hq,q⟩:=h;obtain⟨u,rfl,rx⟩:=vals1 r;cases rx;have hn:=i0;rcases hq with hq|hq
 · obtain⟨aj,r',pl,hz⟩:=I.list hq
   have hlen:=r'.length;exact Calls.call_len_list pl.isList (by simp only[List.size_toArray]<;>omega) ⟨.int ys.length,H,I.tok _,⟨s.toks+1,by rw[List.size_toArray,hlen]⟩,q⟩
 · obtain⟨aj,r',pl,hz⟩:=I.tuple hq
   have hlen:=r'.length;exact len_tuple pl (by simp only[List.size_toArray]<;>omega) ⟨.int ys.length,H,I.tok _,⟨s.toks+1,by rw[List.size_toArray,hlen]⟩,q⟩
theorem Gz:bE X (.builtin "len") (λxs H Q=>∃z,xs=[.str z]/\z.length<=sizeLine/\Q (.int z.length) H):=by
 intro pins s σ H xs us Q I r h;obtain⟨z,rfl,hz,q⟩:=h;obtain⟨u,rfl,t,rfl⟩:=vals1 r;have hn:=i0;exact len_str (by omega) ⟨.int z.length,H,I.tok _,⟨_,rfl⟩,q⟩
theorem bE.or{f:Value}{r r':List V->Hp->VK->Prop}(h:bE X f r)(h':bE X f r'):bE X f (λxs H Q=>r xs H Q\/r' xs H Q):=by
 intro pins s σ H xs us Q I rs q;rcases q with q|q
 ·exact h pins s σ H xs us Q I rs q
 ·exact h' pins s σ H xs us Q I rs q
theorem pb:bE X (.type "list") (λxs H Q=>∃p ys,xs=[.ref p]/\(a8 X.K H p ys\/bo X.K H p ys)/\∀l,H l=none->Q (.ref l) (upd H l (.lst ys))):=by
 intro pins s σ H xs us Q I r h;obtain⟨p,ys,rfl,hq,q⟩:=h;obtain⟨u,rfl,rx⟩:=vals1 r;cases rx
 have fin:∀(aj:List Value),Vals ys aj->ys.length<=sizeLine->∀(h':Heap) (c':Nat),(∀b o',s.heap.get? b=some o'->h'.get? b=some o')->
     h'.get? s.heap.objs.size=some {cls:=.type "list",dict:=none,data:=.seq aj.toArray c',slots:= #[]}->EP X pins σ Q (.ref s.heap.objs.size) {s with heap:=h'}:=λaj r' hz h' c' kp e=>
   ⟨.ref s.heap.objs.size,_,I.laid (t':=s.toks) kp (Nat.le_refl _) (show cF X.prog X.w _ h' _ (.lst ys)from⟨hz,aj,c',r',e⟩),rfl,q _ (I.aH.fresh (Nat.le_refl _))⟩
 rcases hq with hq|hq
 · obtain⟨aj,r',pl,hz⟩:=I.list hq
   have hlen:=r'.length;obtain⟨o,ho,hc,n,hd⟩:=pl.isList;exact call_list_seq p (.inl rfl) ho hc hd (λh' c' kp e=>fin aj r' hz h' c' kp e) (by simp only[List.size_toArray]<;>omega)
 · obtain⟨aj,r',pl,hz⟩:=I.tuple hq
   have hlen:=r'.length;obtain⟨o,ho,hc,n,hd⟩:=pl;exact call_list_seq p (.inr rfl) ho hc hd (λh' c' kp e=>fin aj r' hz h' c' kp e) (by simp only[List.size_toArray]<;>omega)
def wV(K:PySem.W.Frag)(T:String)(x:V)(H:Hp):Prop:=match x with
 |.str _=>T="str"
 |.int _=>T="int"
 |.ref p=>(T="list"/\∃xs,a8 K H p xs)\/(T="tuple"/\∃o,K.lookup p=some o/\o.cls=.type "tuple"/\o.dict=none)\/
     (T="dict"/\((∃kvs,H p=some (.dK kvs))\/∃kvs,H p=some (.dT kvs)))\/(T="set"/\∃S n,H p=some (.set S n))
 |_=>False
theorem C5{pins:List (Addr×Obj)}{σ:St}{H:Hp}{s:Shared}{T:String}{x:V}{v:Value}(I:Inv X pins σ H s)(r:RelV x v)(ty:wV X.K T x H):
   s.TypeIs v T/\∀a,v=.ref a->∃ob,s.heap.get? a=some ob/\ob.dict=none:=by
 cases x with
 | str z=>
   obtain⟨t,rfl⟩:=r;cases (show T="str" from ty)
   exact⟨typeIs_str s z t,λ_ e=>nomatch e⟩
 | int i=>
   obtain⟨t,rfl⟩:=r;cases (show T="int" from ty)
   exact⟨typeIs_int s i t,λ_ e=>nomatch e⟩
 | ref p=>
   cases r;rcases ty with⟨rfl,xs,hq⟩|⟨rfl,o,hk,hc,hd⟩|⟨rfl,hk⟩|⟨rfl,S,n,hk⟩
   · obtain⟨aj,_,pl,_⟩:=I.list hq
     refine⟨pl.isList.typeIs,λa e=>?_⟩;cases e;obtain⟨o,n,e,c,hd,_⟩:=pl;exact⟨o,e,hd⟩
   · refine⟨⟨o,I.dy p o hk,hc⟩,λa e=>?_⟩
     cases e;exact⟨o,I.dy _ o hk,hd⟩
   · have z:∃o,s.heap.get? p=some o/\o.ExactDict:=by
       rcases hk with⟨kvs,hk⟩|⟨kvs,hk⟩
       · obtain⟨_,_,_,_,o,_,_,e,ex,_⟩:=I.aH p _ hk
         exact⟨o,e,ex⟩
       · obtain⟨_,_,_,_,o,_,_,e,ex,_⟩:=I.aH p _ hk
         exact⟨o,e,ex⟩
     obtain⟨o,e,ex⟩:=z;refine⟨⟨o,e,ex.1⟩,λa e2=>?_⟩;cases e2;exact⟨o,e,ex.2.1⟩
   · obtain⟨o,_,_,_,e,ex,_⟩:=I.aH p _ hk
     refine⟨⟨o,e,ex.1⟩,λa e2=>?_⟩;cases e2;exact⟨o,e,ex.2.1⟩
 |_=>exact False.elim ty
def AH(K:PySem.W.Frag)(T:String)(r:V->List V->Hp->VK->Prop)(to:TE)(t:TA):TE:=λσ H Q=>to σ H λx H1=>wV K T x H1/\t σ H1 λxs H2=>r x xs H2 Q
variable{o e:Expr}{es:List Expr}{to:TE}{t:TA}{name:Str}{apos A':Pos}{T id:String}{r:V->List V->Hp->VK->Prop}
theorem nQ(pa:PlainAttrs T)(slot:Slot T name id)(S':typeOf (.builtin id)=pure (.type "method_descriptor"))(hm:HF X id r)(ho:PE X o to)(ha:PA X (e::es) t)
   (Jz:attributeBase o name X.env (eval o X.env)=eval o X.env:=by rfl)
   (J9:((backTo A' (starEach (e::es) X.env)).all (λx=> !x.1)&&(backToKw A' (keywordEach [] X.env)).all (λx=>x.1.isSome)
     &&decide ((e::es).length+([]:List Keyword).length+(if([]:List Keyword).isEmpty then 0 else 1)<30))=true:=by rfl)
   (JB:(apos.endLine==A'.line)=true:=by rfl) (hs:starEach (e::es) X.env=(false,eval e X.env)::starEach es X.env:=by rfl) (M':(backTo A' (starEach es X.env)).any (·.1)=false:=by rfl):
   PE X (.Call (.Attribute o name apos) (e::es) [] A') (AH X.K T r to t):=by
 intro pins s σ H Q I h;refine wpAny_Call_method_late Jz J9 JB rfl (aJ (ho pins s σ H _ I h) λv s1 ⟨x,H1,I1,r1,ty,q1⟩=>?_);obtain⟨h1,h2⟩:=C5 I1 r1 ty;refine⟨T,id,pa,slot,S',h1,h2,?_⟩;have hA:=ha A' pins s1 σ H1 _ I1 q1;rw[hs]at hA ⊢;refine Calls.callWith_builtin (by show(false||(backTo A' (starEach es X.env)).any (·.1))=false;rw[M']<;>rfl) (Calls.evalArgs_plain ?_)
 exact aJ hA λus s2 ⟨vs,H2,I2,r2,q2⟩=>hm pins s2 σ H2 x vs v us Q I2 r1 r2 q2
end
end L2
namespace L2
open PySem PySem.Spec PyProof.Rows
def qQ(X:Cx)(id:String)(r:V->List V->Hp->VK->Prop):Prop:=
 ∀(pins:List (Addr×Obj)) (s:Shared) (σ:St) (H:Hp) (x:V) (xs:List V) (v:Value) (us:List Value) (Q:VK),Inv X pins σ H s->RelV x v->Vals xs us->r x xs H Q->
   wpAny (model X.prog X.w) X.A (call (.builtin id) (v::us)) (EP X pins σ Q) X.xe s
theorem Vals.one:∀ {x:V} {us:List Value},Vals [x] us->∃u,us=[u]/\RelV x u
 |_,_,.cons r .nil=>⟨_,rfl,r⟩
theorem Vals.two:∀ {x y:V} {us:List Value},Vals [x,y] us->∃u v,us=[u,v]/\RelV x u/\RelV y v
 |_,_,_,.cons r (.cons q .nil)=>⟨_,_,rfl,r,q⟩
theorem Vals.rep{xs:List V}{us:List Value}(h:Vals xs us):∀k:Nat,Vals (List.replicate k xs).flatten (List.replicate k us).flatten
 |0=>.nil
 | k+1=>by
   rw[List.replicate_succ,List.replicate_succ,List.flatten_cons,List.flatten_cons];exact Vals.append h (Vals.rep h k)
section
variable{X:Cx}{pins:List (Addr×Obj)}{σ:St}{H:Hp}{s:Shared}{l b:Addr}{xs ys zs:List V}
theorem Inv.sY{aj its':List Value}{n:Nat}{f:Array Value->Array Value}{t':Nat}(I:Inv X pins σ H s)(hH:H l=some (.lst xs))
   (e:s.heap.get? l=some {cls:=.type "list",data:=.seq aj.toArray n}) (hf:f aj.toArray=its'.toArray) (hv:Vals ys its') (hz:ys.length<=sizeLine):
   Inv X pins σ (upd H l (.lst ys)) {s with heap:=s.heap.update l (Obj.mapSeq f),toks:=t'}:=by
 have q:=PySem.IsL.update e f;rw[hf]at q;refine I.write (x:=l) (e:=l) (by rw[hH];exact trivial) (.inl rfl) (λb' u hb hu=>(Heap.get?_update_other s.heap (Obj.mapSeq f) (Ne.symm hb)).trans hu) ⟨_,q⟩ ?_
 exact⟨hz,its',_,hv,q⟩
theorem Inv.wA{aj:List Value}{t':Nat}(I:Inv X pins σ H s)(hv:Vals ys aj)(hz:ys.length<=sizeLine):
   Inv X pins σ (upd H s.heap.objs.size (.lst ys)) {s with heap:=s.heap.push {cls:=.type "list",data:=.seq aj.toArray},toks:=t'}:=
 I.laid (λ_ _ q=>Heap.get?_push_of_some _ q) (Nat.le_refl _) ⟨hz,aj,0,hv,Heap.get?_push_size _ rfl⟩
theorem Inv.fresh(I:Inv X pins σ H s):H s.heap.objs.size=none:=I.aH.fresh (Nat.le_refl _)
theorem Inv.v8(I:Inv X pins σ H s)(hH:H l=some (.lst xs)):xs.length<=sizeLine/\∃(aj:List Value) (n:Nat),Vals xs aj/\xs.length=aj.length/\s.heap.get? l=some {cls:=.type "list",data:=.seq aj.toArray n}:=by
 obtain⟨z,aj,n,r,e⟩:=I.aH l _ hH;exact⟨z,aj,n,r,r.length,e⟩
end
section
variable{X:Cx}
def Dh:V->List V->Hp->VK->Prop:=λx vs H Q=>∃l xs y,x=.ref l/\vs=[y]/\H l=some (.lst xs)/\xs.length<sizeLine/\Q .aD (upd H l (.lst (xs++[y])))
theorem rY:qQ X "list.append" Dh:=by
 intro pins s σ H x vs v us Q I rx rv h;obtain⟨l,xs,y,rfl,rfl,hH,hz,q⟩:=h;cases rx;obtain⟨u,rfl,ru⟩:=rv.one;obtain⟨z,aj,n,r,hl,e⟩:=I.v8 hH;refine call_meets F.slot_list_append ⟨_,e,rfl⟩ F.entry_list_append (F.args_list_append_2 _ _) (PySem.list_append l aj.toArray n u (by rw[List.size_toArray];omega)) ⟨e,?_⟩
 refine⟨.aD,_,I.sY (its':=aj++[u]) hH e (by simp) (r.append (.cons ru .nil)) ?_,rfl,q⟩
 rw[List.length_append,List.length_singleton];omega
theorem len_rep{α:Type}(xs:List α)(k:Nat):(List.replicate k xs).flatten.length=k*xs.length:=by
 induction k with
 |zero=>simp
 |succ k ih=>rw[List.replicate_succ,List.flatten_cons,List.length_append,ih,Nat.succ_mul,Nat.add_comm]
end
section
variable{prog:Program}{w:World}{A:Around}{E:Value->Shared->Prop}{s:Shared}
end
section
variable{X:Cx}
end
end L2
namespace L2
open PySem PySem.Spec PyProof.Rows
section
variable{κ:Type} [DecidableEq κ]
noncomputable def c8(kvs:List (κ×V))(k:κ):Option V:=(kvs.find? λkv=>decide (kv.1=k)).map (·.2)
noncomputable def putK(kvs:List (κ×V))(k:κ)(v:V):List (κ×V):=
 if(kvs.any λkv=>decide (kv.1=k))=true then kvs.map (λkv=>if kv.1=k then(kv.1,v)else kv)else kvs++[(k,v)]
theorem qD{p:κ×V}{r:List (κ×V)}{k:κ}(e:p.1=k):c8 (p::r) k=some p.2:=by simp[c8,List.find?_cons,e]
theorem rP{p:κ×V}{r:List (κ×V)}{k:κ}(e:¬p.1=k):c8 (p::r) k=c8 r k:=by simp[c8,List.find?_cons,e]
theorem wb(k:κ):∀kvs:List (κ×V),(kvs.any λkv=>decide (kv.1=k))=(c8 kvs k).isSome
 |[]=>rfl
 | p::r=>by
   rw[List.any_cons];by_cases e:p.1=k
   ·simp only[qD e,decide_eq_true e,Bool.true_or,Option.isSome_some]
   ·rw[rP e,decide_eq_false e,Bool.false_or];exact wb k r
theorem qA(kvs:List (κ×V))(k:κ)(v:V):(putK kvs k v).length<=kvs.length+1:=by
 unfold putK;split
 ·rw[List.length_map];omega
 ·rw[List.length_append,List.length_cons,List.length_nil];omega
theorem fj.FQ{o:Option V}{u:Option Value}(r:fj o u):o.isSome=u.isSome:=by
 cases o with
 | none=>cases u with
   |none=>rfl
   |some _=>exact(show False from r).elim
 | some _=>cases u with
   |none=>exact(show False from r).elim
   |some _=>rfl
theorem KV.val{kvs:List (κ×V)}{vs:List (κ×Value)}(r:KV kvs vs)(k:κ):fj (c8 kvs k) (valueAt vs k):=by
 unfold KV at r
 induction r with
 |nil=>exact True.intro
 | @cons p q ps qs h t ih=>
   obtain⟨h1,h2⟩:=h;by_cases e:p.1=k
   · have e':q.1=k:=h1.symm.trans e
     have b:valueAt (q::qs) k=some q.2:=by simp[valueAt,List.find?_cons,e']
     rw[qD e,b];exact h2
   · have e':¬q.1=k:=λz=>e (h1.trans z)
     have b:valueAt (q::qs) k=valueAt qs k:=by simp[valueAt,List.find?_cons,e']
     rw[rP e,b];exact ih
theorem KV.any{kvs:List (κ×V)}{vs:List (κ×Value)}(r:KV kvs vs)(k:κ):(kvs.any λkv=>decide (kv.1=k))=vs.any λkv=>decide (kv.1=k):=by
 unfold KV at r
 induction r with
 |nil=>rfl
 |cons h t ih=>rw[List.any_cons,List.any_cons,ih,h.1]
theorem KV.qx{kvs:List (κ×V)}{vs:List (κ×Value)}(r:KV kvs vs)(k:κ){y:V}{u:Value}(ry:RelV y u):
   KV (kvs.map λkv=>if kv.1=k then(kv.1,y)else kv) (vs.map λkv=>if kv.1=k then(kv.1,u)else kv):=by
 unfold KV at r ⊢
 induction r with
 |nil=>exact .nil
 | @cons p q ps qs h t ih=>
   rw[List.map_cons,List.map_cons];refine .cons ?_ ih;obtain⟨h1,h2⟩:=h;by_cases e:p.1=k
   ·rw[if_pos e,if_pos (h1.symm.trans e)];exact⟨h1,ry⟩
   ·rw[if_neg e,if_neg (λz=>e (h1.trans z))];exact⟨h1,h2⟩
theorem KV.put{kvs:List (κ×V)}{vs:List (κ×Value)}(r:KV kvs vs)(k:κ){y:V}{u:Value}(ry:RelV y u):KV (putK kvs k y) (stored vs k u):=by
 unfold putK stored;rw[r.any k];by_cases e:(vs.any λkv=>decide (kv.1=k))=true
 ·rw[if_pos e,if_pos e];exact r.qx k ry
 ·rw[if_neg e,if_neg e];exact Paired.snoc r ⟨rfl,ry⟩
theorem KV.length{kvs:List (κ×V)}{vs:List (κ×Value)}(r:KV kvs vs):kvs.length=vs.length:=Paired.length r
end
theorem jn{P:Program}{w:World}{k:Key}{u:Value}(r:RelV (kV k) u):(bx P w).is k u=true:=by
 cases k with
 |inl i=>obtain⟨t,e⟩:=(show ∃t,u=Value.int i t from r);subst e;exact Fp P w i t
 |inr x=>obtain⟨t,e⟩:=(show ∃t,u=Value.str x t from r);subst e;exact zr P w x t
theorem uC{P:Program}{w:World}:∀ {ks:List Key} {us:List Value},Vals (ks.map kV) us->ItemsAre (bx P w) ks us
 |[],_,r=>by rw[List.map_nil]at r;cases r;exact .nil
 | k::ks,_,r=>by
   rw[List.map_cons]at r;cases r with
   |cons h t=>exact .cons (jn h) (uC t)
abbrev KT(H:Hp):List (List Key×V)->List (List Key×Addr×Value)->Prop:=Paired λp q=>p.1=q.1/\H q.2.1=some (.tup (p.1.map kV))/\RelV p.2 q.2.2
theorem KT.val{H:Hp}{kvs:List (List Key×V)}{xs:List (List Key×Addr×Value)}(r:KT H kvs xs)(k:List Key):fj (c8 kvs k) ((atKey xs k).map (·.2)):=by
 induction r with
 |nil=>exact True.intro
 | @cons p q ps qs h t ih=>
   obtain⟨h1,_,h2⟩:=h;by_cases e:p.1=k
   · have e':q.1=k:=h1.symm.trans e
     have b:atKey (q::qs) k=some q.2:=by simp[atKey,List.find?_cons,e']
     rw[qD e,b];exact h2
   · have e':¬q.1=k:=λz=>e (h1.trans z)
     have b:atKey (q::qs) k=atKey qs k:=by simp[atKey,List.find?_cons,e']
     rw[rP e,b];exact ih
theorem KT.qx{H:Hp}{kvs:List (List Key×V)}{xs:List (List Key×Addr×Value)}(r:KT H kvs xs)(k:List Key){y:V}{u:Value}(ry:RelV y u):
   KT H (kvs.map λkv=>if kv.1=k then(kv.1,y)else kv) (xs.map (putAt k u)):=by
 induction r with
 |nil=>exact .nil
 | @cons p q ps qs h t ih=>
   rw[List.map_cons,List.map_cons];refine .cons ?_ ih;obtain⟨h1,h2,h3⟩:=h;unfold putAt;by_cases e:p.1=k
   ·rw[if_pos e,if_pos (h1.symm.trans e)];exact⟨h1,h2,ry⟩
   ·rw[if_neg e,if_neg (λz=>e (h1.trans z))];exact⟨h1,h2,h3⟩
theorem KT.put{H:Hp}{kvs:List (List Key×V)}{xs:List (List Key×Addr×Value)}(r:KT H kvs xs)(k:List Key){b:Addr}{y:V}{u:Value}(hb:H b=some (.tup (k.map kV)))(ry:RelV y u):
   KT H (putK kvs k y) (storedH xs k b u):=by
 have e:(kvs.any λkv=>decide (kv.1=k))=(atKey xs k).isSome:=by
   rw[wb,(r.val k).FQ,Option.isSome_map]
 unfold putK storedH;rw[e];by_cases q:(atKey xs k).isSome=true
 ·rw[if_pos q,if_pos q];exact r.qx k ry
 ·rw[if_neg q,if_neg q];exact Paired.snoc r ⟨rfl,hb,ry⟩
theorem KT.keeps{H H':Hp}{kvs:List (List Key×V)}{xs:List (List Key×Addr×Value)}(r:KT H kvs xs)(ht:∀b ys,H b=some (.tup ys)->H' b=some (.tup ys)):KT H' kvs xs:=
 Paired.qW r λ_ _ z=>⟨z.1,ht _ _ z.2.1,z.2.2⟩
section
variable{P:Program}{w:World}{H:Hp}{h:Heap}{a:Addr}
theorem vw{u:HO}(ok:bH P w H h)(e:Rd H a u):cF P w H h a u:=e.ok ok
theorem qS{kvs:List (Key×V)}(ok:bH P w H h)(e:Rd H a (.dK kvs)):kvs.length<=sizeLine/\(a==sysModules)=false/\∃vs,KV kvs vs/\h.DictOf (bx P w) a vs:=
 show cF P w H h a (.dK kvs)from vw ok e
theorem qk{kvs:List (Key×V)}(ok:bH P w H h)(e:H a=some (.dK kvs)):kvs.length<=sizeLine/\(a==sysModules)=false/\∃vs,KV kvs vs/\h.DictOf (bx P w) a vs:=qS ok (.inl e)
theorem xS{ks:List Key}(ok:bH P w H h)(e:H a=some (.tup (ks.map kV))):(tupleKind (bx P w)).is h ks a:=by
 obtain⟨_,aj,r,o,h1,h2,n,h3⟩:=(show cF P w H h a (.tup (ks.map kV))from ok a _ e)
 exact⟨o,aj.toArray,n,h1,h2,h3,by simpa using uC r⟩
theorem AE{kvs:List (List Key×V)}(ok:bH P w H h)(e:Rd H a (.dT kvs)):kvs.length<=sizeLine/\(a==sysModules)=false/\
   ∃xs,KT H kvs xs/\h.DictOfH (tupleKind (bx P w)) a xs:=by
 obtain⟨z,y,xs,r,o,es,ep,h1,h2,h3,h4,h5⟩:=(show cF P w H h a (.dT kvs)from vw ok e)
 refine⟨z,y,xs,r,o,es,ep,h1,h2,h3,h4,λx hx=>?_,h5⟩
 have all:∀ {l:List (List Key×V)} {m:List (List Key×Addr×Value)},KT H l m->∀x∈m,(tupleKind (bx P w)).is h x.1 x.2.1:=by
   intro l m q
   induction q with
   |nil=>intro x hx;exact nomatch hx
   | @cons p q ps qs hq t ih=>
     intro x hx;rcases List.mem_cons.mp hx with e|hx
     · subst e
       exact xS ok (by rw[<-hq.1];exact hq.2.1)
     ·exact ih x hx
 exact all r x hx
theorem Bo{kvs:List (List Key×V)}(ok:bH P w H h)(e:H a=some (.dT kvs)):kvs.length<=sizeLine/\(a==sysModules)=false/\
   ∃xs,KT H kvs xs/\h.DictOfH (tupleKind (bx P w)) a xs:=AE ok (.inl e)
end
def i9(H:Hp)(a:Addr)(y v:V)(H':Hp):Prop:=
 (∃kvs k,H a=some (.dK kvs)/\y=kV k/\kvs.length<sizeLine/\H'=upd H a (.dK (putK kvs k v)))\/
 ∃kvs k b,H a=some (.dT kvs)/\y=.ref b/\H b=some (.tup (k.map kV))/\kvs.length<sizeLine/\H'=upd H a (.dT (putK kvs k v))
theorem i9.k{H:Hp}{a:Addr}{kvs:List (Key×V)}{k:Key}{v:V}(e:H a=some (.dK kvs))(hl:kvs.length<sizeLine):i9 H a (kV k) v (upd H a (.dK (putK kvs k v))):=.inl ⟨kvs,k,e,rfl,hl,rfl⟩
section
variable{X:Cx}{pins:List (Addr×Obj)}{σ:St}{H:Hp}{s:Shared}{a:Addr}{y v:V}{u r:Value}{o:Option V}{A:Around}{E:Value->Shared->Prop}
theorem Inv.big(I:Inv X pins σ H s):sysModules<s.heap.objs.size:=by
 have h:mainGlobals<s.heap.objs.size:=(I.mod.glob.keeps I.bk).lt;exact Nat.lt_trans (by decide) h
theorem mZ{h':Heap}{t':Nat}{ob:HO}(I:Inv X pins σ H s)(mu:md (H a))(hs:Heap.SameBut a s.heap h')(he:∃q,h'.get? a=some q)(new:cF X.prog X.w (upd H a ob) h' a ob):
   Inv X pins σ (upd H a ob) {s with heap:=h',toks:=t'}:=
 I.write (x:=a) (e:=a) mu (.inl rfl) (λb q hb z=>(hs.2 b hb).trans z) he new
theorem oz{P:Program}{w:World}{H':Hp}{h':Heap}{kvs:List (Key×V)}{vs:List (Key×Value)}(z:kvs.length<=sizeLine)(hd:(a==sysModules)=false)(rel:KV kvs vs)(dd:h'.DictOf (bx P w) a vs):
   cF P w H' h' a (.dK kvs):=⟨z,hd,vs,rel,dd⟩
theorem yt{H':Hp}{Q:Unit->Shared->Prop}(hu:A.units+1<cLine)(I:Inv X pins σ H s)(g:i9 H a y v H')(ry:RelV y u)(rv:RelV v r)(h:∀s',Inv X pins σ H' s'->Q () s'):
   wpAny (model X.prog X.w) A (setItem (.ref a) u r) Q E s:=by
 rcases g with⟨kvs,k,e,ey,l,eH⟩|⟨kvs,k,b,e,ey,eb,l,eH⟩
 · subst ey eH
   obtain⟨z,hd,vs,rel,dd⟩:=qk I.aH e;have hz:vs.length<=sizeLine:=by rw[<-rel.length];exact z
   have hl:(putK kvs k v).length<=sizeLine:=by have:=qA kvs k v;omega
   refine wpAny_setItem_pairs (hsz:=hz) (jn ry) dd λh' LJ hs=>h _ ?_;have he:∃q,h'.get? a=some q:=let⟨q,_,_,hq,_⟩:=LJ;⟨q,hq⟩
   exact mZ I (by rw[e];exact True.intro) hs he (oz hl hd (rel.put k rv) LJ)
 · subst ey eH
   cases (show u=Value.ref b from ry)
   obtain⟨z,hd,xs,rel,dd⟩:=Bo I.aH e;have hz:xs.length<=sizeLine:=by rw[<-Paired.length rel];exact z
   have hl:(putK kvs k v).length<=sizeLine:=by have:=qA kvs k v;omega
   refine wpAny_setItem_heap (hsz:=hz) (tupleKind_room_in1 hu) (xS I.aH eb) dd λh' LJ hs=>h _ ?_;obtain⟨q,es,ep,hq,h2,h3,h4,_,h5⟩:=LJ;refine mZ I (by rw[e];exact True.intro) hs ⟨q,hq⟩ ⟨hl,hd,_,(rel.put k eb rv).keeps λc ys ec=>?_,q,es,ep,hq,h2,h3,h4,h5⟩
   rw[aE (Hd ec e (λz=>nomatch z))]
   exact ec
end
section
variable{X:Cx}{pins:List (Addr×Obj)}{σ:St}{H:Hp}{s:Shared}{a:Addr}{kvs:List (Key×V)}{k:Key}{u:Value}{A:Around}{E:Value->Shared->Prop}
end
def Cd(td ty tv:TE):TS:=λD σ H=>tv σ H λv H1=>td σ H1 λx H2=>ty σ H2 λy H3=>∃a H4,x=.ref a/\i9 H3 a y v H4/\D.nx σ H4
section
variable{X:Cx}{o i e value:Expr}{pos pos' Qo:Pos}{td ty tv:TE}
theorem qY(hu:X.A.units+1<cLine)(ho:PE X o td)(hi:PE X i ty)(hv:PE X value tv)(hs:swapsWith value (some (.Subscript o i pos')) pos.line X.env=pure false):
   PS X (.Assign [.Subscript o i pos'] value pos) (Cd td ty tv):=by
 intro pins s σ H D I h;refine wpAny_Assign_Subscript (aJ (hv pins s σ H _ I h) λr s1 ⟨v,H1,I1,rv,q1⟩=>aJ (ho pins s1 σ H1 _ I1 q1) λu s2 ⟨x,H2,I2,rx,q2⟩=>aJ (hi pins s2 σ H2 _ I2 q2) λiv s3 ⟨y,H3,I3,ry,a,H4,ex,g,q3⟩=>?_) hs;subst ex;obtain rfl:u=Value.ref a:=rx;exact yt hu I3 g ry rv λs4 I4=>⟨σ,H4,I4,q3⟩
end
theorem sJ{P:Program}{w:World}{H:Hp}(h:Heap)(hb:sysModules<h.objs.size):cF P w H (h.push {cls:=.type "dict",data:=.dict #[]}) h.objs.size (.dK []):=
 ⟨Nat.zero_le _,beq_eq_false_iff_ne.mpr (Ne.symm (Nat.ne_of_lt hb)),[],.nil,Heap.DictOf.new h⟩
def EH:TE:=λ_ H Q=>∀p,H p=none->Q (.ref p) (upd H p (.dK []))
section
variable{X:Cx}{pos:Pos}
theorem rW:PE X (.Dict [] [] pos) EH:=λpins s σ H Q I h=>
 wpAny_Dict_empty ⟨.ref s.heap.objs.size,_,I.laid (a:=s.heap.objs.size) (o:=.dK []) (t':=s.toks) (λ_ _ q=>Heap.get?_push_of_some _ q) (Nat.le_refl _) (sJ s.heap I.big),rfl,h _ (I.aH.fresh (Nat.le_refl _))⟩
end
def lu:List (TE×TE)->St->Hp->(List (V×V)->Hp->Prop)->Prop
 |[],_,H,Q=>Q [] H
 |(tk,tv)::r,σ,H,Q=>tk σ H λx H1=>tv σ H1 λy H2=>lu r σ H2 λps H3=>Q ((x,y)::ps) H3
abbrev VV:List (V×V)->List (Value×Value)->Prop:=Paired λp q=>RelV p.1 q.1/\RelV p.2 q.2
def kU(X:Cx)(pos:Pos)(keys:List (Option Expr))(values:List Expr)(JR:List (TE×TE)):Prop:=
 ∀(pins:List (Addr×Obj)) (s:Shared) (σ:St) (H:Hp) (Q:List (V×V)->Hp->Prop),Inv X pins σ H s->lu JR σ H Q->
   wpAny (model X.prog X.w) X.A (evalPairs (pairTrees keys values X.env pos)) (λvs s'=>∃ps H',Inv X pins σ H' s'/\VV ps vs/\Q ps H') X.xe s
theorem ve{X:Cx}{pos:Pos}:kU X pos [] [] []:=λpins s σ H Q I h=>pairTrees_nil_walk ⟨[],H,I,.nil,h⟩
theorem vD{X:Cx}{pos:Pos}{k v:Expr}{ks:List (Option Expr)}{vs:List Expr}{tk tv:TE}{JR:List (TE×TE)}(hk:PE X k tk)(hv:PE X v tv)(hr:kU X pos ks vs JR):
   kU X pos (some k::ks) (v::vs) ((tk,tv)::JR):=λpins s σ H Q I h=>
 pairTrees_cons_walk (aJ (hk pins s σ H _ I h) λu s1 ⟨x,H1,I1,rx,q1⟩=>aJ (hv pins s1 σ H1 _ I1 q1) λw2 s2 ⟨y,H2,I2,ry,q2⟩=>
   aJ (hr pins s2 σ H2 _ I2 q2) λws s3 ⟨ps,H3,I3,rel,q3⟩=>⟨(x,y)::ps,H3,I3,.cons ⟨rx,ry⟩ rel,q3⟩)
noncomputable def ft(kvs more:List (Key×V)):List (Key×V):=more.foldl (λacc kv=>putK acc kv.1 kv.2) kvs
theorem KV.merge:∀ {more:List (Key×V)} {rs:List (Key×Value)} {kvs:List (Key×V)} {vs:List (Key×Value)},KV more rs->KV kvs vs->KV (ft kvs more) (merged vs rs):=by
 intro more rs kvs vs r;unfold KV at r
 induction r generalizing kvs vs with
 |nil=>intro q;exact q
 | @cons p q ps qs h t ih=>
   intro r0
   have e:KV (putK kvs p.1 p.2) (stored vs q.1 q.2):=by
     have:=r0.put p.1 h.2;rw[<-h.1];exact this
   exact ih e
theorem pY:∀(more kvs:List (Key×V)),(ft kvs more).length<=kvs.length+more.length
 |[],kvs=>by show kvs.length<=kvs.length+0;omega
 | p::r,kvs=>by
   have h1:=pY r (putK kvs p.1 p.2);have h2:=qA kvs p.1 p.2;show(ft (putK kvs p.1 p.2) r).length<=_;rw[List.length_cons];omega
theorem uD{P:Program}{w:World}:∀ {kvs:List (Key×V)} {ws:List (Value×Value)},VV (kvs.map λkv=>(kV kv.1,kv.2)) ws->∃rs,Carries (bx P w) ws rs/\KV kvs rs
 |[],_,r=>by rw[List.map_nil]at r;cases r;exact⟨[],True.intro,.nil⟩
 | p::kvs,_,r=>by
   rw[List.map_cons]at r;cases r with
   | @cons a b as bs h t=>
     obtain⟨rs,c,q⟩:=uD (P:=P) (w:=w) t;obtain⟨b1,b2⟩:=b;exact⟨(p.1,b2)::rs,⟨jn h.1,rfl,c⟩,.cons ⟨rfl,h.2⟩ q⟩
def FP(JR:List (TE×TE)):TE:=λσ H Q=>∀p,H p=none->lu JR σ (upd H p (.dK [])) λps H2=>H2 p=some (.dK [])/\∃kvs:List (Key×V),ps=kvs.map (λkv=>(kV kv.1,kv.2))/\kvs.length<=15/\Q (.ref p) (upd H2 p (.dK (ft [] kvs)))
theorem vL{X:Cx}{pos:Pos}{keys:List (Option Expr)}{values:List Expr}{JR:List (TE×TE)}(h:kU X pos keys values JR)(Kk:keys.all (·.isSome)=true)(hl:keys.length=values.length)(h0:keys≠[])
   (Mu:keys.length<=15):PE X (.Dict keys values pos) (FP JR):=by
 intro pins s σ H Q I q;have hn:=I.aH.fresh (Nat.le_refl s.heap.objs.size);have I1:=I.laid (a:=s.heap.objs.size) (o:=.dK []) (h':=s.heap.push {cls:=.type "dict",data:=.dict #[]}) (t':=s.toks) (λ_ _ q=>Heap.get?_push_of_some _ q) (Nat.le_refl _) (sJ s.heap I.big);refine wpAny_Dict_walk (knd:=bx X.prog X.w) Kk hl h0 Mu (aJ (h pins _ σ _ _ I1 (q _ hn)) λws s2 ⟨ps,H2,I2,rel,e,kvs,ep,lk,q2⟩=>?_);subst ep;obtain⟨rs,c,rk⟩:=uD (P:=X.prog) (w:=X.w) rel;obtain⟨z,hd,Uh,r0,dd⟩:=qk I2.aH e;cases r0;refine⟨rs,c,dd,λh' LJ hs=>⟨.ref s.heap.objs.size,_,?_,rfl,q2⟩⟩
 have hz:(ft [] kvs).length<=sizeLine:=by
   have h1:=pY kvs [];rw[List.length_nil]at h1;rw[sizeLine_eq];omega
 have he:∃q,h'.get? s.heap.objs.size=some q:=let⟨q,_,_,hq,_⟩:=LJ;⟨q,hq⟩
 exact mZ I2 (by rw[e];exact True.intro) hs he (oz hz hd (rk.merge .nil) LJ)
section
variable{X:Cx}{pins:List (Addr×Obj)}{σ:St}{H:Hp}{s:Shared}{a:Addr}{y d:V}{u r:Value}{o:Option V}{A:Around}{E:Value->Shared->Prop}
end
section
variable{X:Cx}{o e f:Expr}{apos A':Pos}{td ty tx:TE}
end
section
variable{X:Cx}{pins:List (Addr×Obj)}{σ:St}{H:Hp}{s:Shared}{a:Addr}{kvs:List (Key×V)}{A:Around}{E:Value->Shared->Prop}
end
section
variable{X:Cx}{pins:List (Addr×Obj)}{σ:St}{H:Hp}{s:Shared}{a:Addr}{y:V}{u:Value}{A:Around}{E:Value->Shared->Prop}
end
end L2
namespace xP
open PySem PySem.W PySem.Calls PyProof.Rows
theorem CT{P:Params}{h:Heap}:∀(ns:List Int) (vs:List Value),WellAll P h vs (ns.map WData.int)->IntsAre vs ns:=by
 intro ns
 induction ns with
 | nil=>
   intro vs w;rw[List.map_nil]at w;cases w;exact .nil
 | cons n ns ih=>
   intro vs w;rw[List.map_cons]at w;cases w with
   | cons a b=>
     cases a;exact .cons _ _ (ih _ b)
theorem BW{l:OpenLaw}{n:Nat}(hn:l.most=some n){P:Params}{h:Heap}{args:List WData}{vals:List Value}
   (Mz:l.row.toRowW.claim.pre args=true) (MY:WellAll P h vals args):
   ∃a vs ns,vals=[Value.ref a]/\args=[WData.list (ns.map WData.int)]/\h.get? a=some {cls:=.type "list",data:=.seq vs.toArray}/\IntsAre vs ns/\ns.length<=n:=by
 have Ti:WShape.hasAll [] args [.list .int]=true:=(pre_splitW Mz).1;have hc:l.pre.holds [] {args:=args}=true:=(pre_splitW Mz).2;obtain⟨d,r,rfl,h1,h2⟩:=hasAllW_cons Ti;obtain rfl:=hasAllW_nil h2;obtain⟨xs,rfl,h3⟩:=hasW_list h1;obtain⟨ns,rfl⟩:=items_int h3
 have hlen:ns.length<=n:=by
   unfold OpenLaw.pre at hc
   have h4:(WTm.not (.lt (.lit (.int (n:Int))) (.len (.arg 0)))).holds [] {args:=[.list (ns.map .int)]}=true:=by
     have h4:=(holds_andW hc).1;rw[hn]at h4;exact h4
   have h5:=condW_of h4 (w_not (w_lt w_lit (w_len_list (w_arg rfl))));rw[List.length_map]at h5;refine Nat.le_of_not_lt λq=>?_;have q':(n:Int)<((ns.length:Nat):Int):=by omega
   first
     |(rw[decide_eq_true q']at h5;exact absurd h5 (by decide))
     |(simp at h5;omega)
 cases MY with
 | cons w1 w2=>
   cases w2;cases w1 with
   |list ho Kk=>exact⟨_,_,ns,rfl,rfl,ho,CT ns _ Kk,hlen⟩
theorem EL(l:OpenLaw)(args:List WData):l.row.toRowW.claim.post args (.bool true) args=true:=
 postW_of (r:=l.row.toRowW) (X:=(true==true))
   (show WShape.has [] (.bool true) .bool=true by first|rfl|decide|simp[WShape.has,WShape.arms,WShape.armsAll])
   (show(WTm.eq .res (.lit (.bool true))).value [] {args:=args,res:=some (.bool true),after:=args}=some (.bool (true==true))from w_eq_bool (w_res rfl) w_lit) rfl
theorem AY{l:OpenLaw}{n:Nat}{q:Program}{loose:List Str}{XP:(Str->Option Value)->Heap->Prop}{YP:World->Heap->Prop}{d:DefRec}
   (hn:l.most=some n) (NS:d.params.defaults=[])
   (call:∀(w:World) (cv Jm:Shared) (mg mb:Str->Option Value) (fa:Addr) (o:Obj) (pm cd doc:Value) (a:Addr) (vs:List Value) (ns:List Int),
     Ground q loose [] XP w cv mg mb Jm.heap->YP w Jm.heap->
     Jm.heap.get? fa=some o->o.data=.func (docDef d.name d.params d.body d.scope pm cd doc)->Jm.heap.CodeRec cd d.name->mg d.name=some (.ref fa)->
     Jm.heap.get? a=some {cls:=.type "list",data:=.seq vs.toArray}->IntsAre vs ns->ns.length<=n->Jm.gens= #[]->
     codeAny (model l.prog w) callerA (.call (.ref fa) ⟨[.ref a],[]⟩) (λr s'=>r=.ok (.ret (.bool true))/\OldK Jm.heap s'.heap/\s'.os=Jm.os/\AllBare s'.gens) Jm):
   WalkO q loose XP YP l.row.toRowW d [] (λf vs=>PySem.call f vs):=by
 intro w cv Jm mg mb G Y fa o pm cd doc dV kV ho hd Jx hD hmg hg args vals as Mz SW T8 MY T7;obtain rfl:dV=.none:=Dflts.none hD NS;obtain rfl:kV=.none:=Dflts.noKw hD;obtain⟨a,vs,ns,rfl,rfl,Nd,hints,hlen⟩:=BW hn Mz MY;refine enter_call (codeAny_mono (call w cv Jm mg mb fa o pm cd doc a vs ns G Y ho (fd_plain hd) Jx hmg Nd hints hlen hg) λr s' hq=>?_);obtain⟨rfl,h2,h3,h4⟩:=hq;exact⟨.inl ⟨.bool true,.bool true,[],rfl,λ_=>rfl,.bool true,EL l _,λ_=>⟨List.Pairwise.nil,λ_ hm=>(nomatch hm)⟩⟩,h2,h3,h4⟩
section
variable{prog:Program}{w:World}{A:Around}{E:Value->Shared->Prop}{s:Shared}{K:Frag}
end
end xP
namespace L2
open PySem PySem.Spec PyProof.Rows
theorem uv:∀ {vs:List Value} {ns:List Int},IntsAre vs ns->Vals (ns.map V.int) vs
 |_,_,.nil=>.nil
 |_,_,.cons n t h=>.cons ⟨t,rfl⟩ (uv h)
def pT(H:Hp):Prop:=∀b,H b=none\/∃o xs,H b=some (.frz o (.lst xs))
theorem Et{P:Program}{w:World}{K:PySem.W.Frag}{mg mb:Str->Option Value}{CX:fZ}{k:Nat}{fa a:Addr}{fd:FuncData}{x:Str}{sp:Sp}{Jm:Shared}{vs:List Value}{ns:List Int}
   (KX:K.In Jm.heap) (Rj:Jm.heap.Ns mainGlobals mg) (hb:Jm.heap.Ns builtinsNs mb) (MD:∀x:Str,x≠"__name__"->mb x=bootBuiltins x) (QO:Jm.heap.NoLimit) (hg:Jm.gens= #[])
   (ha:Jm.heap.get? a=some {cls:=.type "list",data:=.seq vs.toArray}) (hi:IntsAre vs ns) (hl:ns.length<=sizeLine) (hr:bC k callerA)
   (F:∀base:Heap,K.In base->base.Ns mainGlobals mg->d3 P w K mg base CX k fa fd [x] sp) (Of:∀(s:Shared) (u:Value),BindsTo s fd ⟨[u],[]⟩ [(x,u)])
   (Lg:∀H:Hp,pT H->a8 K H a (ns.map V.int)->sp [.ref a] H (λv _=>v=.bl true) λ_ _ _=>False)
   (Qf:∀H e s',CX [] H Jm (λ_ _ _=>False) e s'->False):
   codeAny (model P w) callerA (.call (.ref fa) ⟨[.ref a],[]⟩) (λr s'=>r=.ok (.ret (.bool true))/\OldK Jm.heap s'.heap/\s'.os=Jm.os/\AllBare s'.gens) Jm:=by
 have rv:=uv hi;have Pn:=hi.length
 have core:∀H:Hp,pT H->a8 K H a (ns.map V.int)->bH P w H Jm.heap->(∀b,H b≠none->b=a)->(H a≠none->K.lookup a=none)->
     codeAny (model P w) callerA (.call (.ref fa) ⟨[.ref a],[]⟩) (λr s'=>r=.ok (.ret (.bool true))/\OldK Jm.heap s'.heap/\s'.os=Jm.os/\AllBare s'.gens) Jm:=by
   intro H hO hS aH hA hK;have Lu:∀ {b:Addr} {o:Obj},Jm.heap.get? b=some o->H b=none->(ie Jm.heap H).get? b=some o:=λe n=>AM e n
   have N7:∀ {b:Addr} {o:Obj} {es:Array DictEntry} {ep:Nat},Jm.heap.get? b=some o->o.data=.dict es ep->H b=none:=λ{b o es ep} e d=>by
     cases q:H b with
     |none=>rfl
     | some u=>
       have e':b=a:=hA b (by rw[q];simp)
       subst e';rw[ha]at e;cases e;have d':Data.seq vs.toArray _=Data.dict es ep:=d;cases d'
   have OX:∀ {b:Addr} {m:Str->Option Value},Jm.heap.Ns b m->(ie Jm.heap H).Ns b m:=λ{b m} ⟨o,es,ep,e,d,r⟩=>⟨o,es,ep,Lu e (N7 e d),d,r⟩
   have Rt:K.In (ie Jm.heap H):=λb o e=>Lu (KX b o e) (by
     cases q:H b with
     |none=>rfl
     | some u=>
       have e':b=a:=hA b (by rw[q];simp)
       subst e';rw[hK (by rw[q];simp)]at e;cases e)
   have hM:Mod K mg (ie Jm.heap H):=⟨Rt,OX Rj,⟨mb,OX hb,MD⟩,let⟨mc,h1,h2⟩:=QO;⟨mc,OX h1,h2⟩⟩
   have e0:ou P w K mg (ie Jm.heap H) callerA [] Jm H:=⟨rfl,hM,λb o e=>BC e,Nat.le_of_eq (Bs _ _),trivial,λb hb=>absurd (show b∈([]:List Addr)from hb) (by simp),aH,.of_eq hg⟩
   refine codeAny_mono ((F _ Rt (OX Rj)).run callerA [] Jm H ⟨[.ref a],[]⟩ [.ref a] [.ref a] _ _ hr e0 (Of Jm (.ref a)) (.cons rfl .nil) (Lg H hO hS)) λr s' h=>?_;cases r with
   |error e=>exact(Qf H e s' h).elim
   | ok fl=>
     cases fl with
     |next=>exact False.elim h
     |brk=>exact False.elim h
     |cont=>exact False.elim h
     | ret u=>
       obtain⟨v,H',os,bare,un,Q0,r',q⟩:=h;have q':v=.bl true:=q;subst q';obtain rfl:u=Value.bool true:=r';refine⟨rfl,OldK.of_keep λb o e=>?_,os,bare⟩;cases q:H b with
       |none=>exact un.keep b o e q (by intro z;exact absurd (show b∈([]:List Addr)from z) (by simp)) (by simp)
       | some u=>
         rcases hO b with z|⟨ob,xs,z⟩
         ·rw[q]at z;cases z
         · have z2:=un.fu b ob _ z
           obtain⟨e1,_⟩:=aH b _ z;obtain⟨e2,_⟩:=Q0 b _ z2;rw[e]at e1;cases e1;exact e2
 cases hk:K.lookup a with
 | some o=>
   have e:=KX a o hk;rw[ha]at e;cases e;refine core (λ_=>none) (λ_=>.inl rfl) (.inr ⟨_,vs.toArray,_,hk,rfl,rfl,rfl,by rw[List.size_toArray,Pn];exact hl,by simpa using rv⟩) (λb u z=>by have z':(none:Option HO)=some u:=z;cases z') (λb z=>absurd rfl z) λz=>absurd rfl z
 | none=>
   refine core (λb=>if b=a then some (.frz {cls:=.type "list",data:=.seq vs.toArray} (.lst (ns.map V.int)))else none) (λb=>?_) (.inl (.inr ⟨{cls:=.type "list",data:=.seq vs.toArray},if_pos rfl⟩)) (λb u z=>?_) (λb z=>?_) λ_=>hk
   · by_cases hb:b=a
     ·exact .inr ⟨_,_,if_pos hb⟩
     ·exact .inl (if_neg hb)
   · by_cases hb:b=a
     · have z':=(if_pos hb).symm.trans z
       cases z';subst hb;exact⟨ha,by rw[List.length_map];exact hl,vs,_,rv,ha⟩
     · have z':=(if_neg hb).symm.trans z
       cases z'
   · by_cases hb:b=a
     ·exact hb
     ·exact absurd (if_neg hb) z
end L2
namespace L2
open PySem PySem.Spec PyProof.Rows
noncomputable abbrev IB{K:PySem.W.Frag}{h:Heap}(_:K.In h):PySem.W.Frag:=K
theorem CK{l:PySem.W.OpenLaw}{n k:Nat}{q:Program}{loose:List Str}{XP:(Str->Option Value)->Heap->Prop}{YP:World->Heap->Prop}{d:DefRec}{K:Params->PySem.W.Frag}{CX:World->fZ}{sp:World->Sp}{x:Str}
   (hn:l.most=some n) (OE:n<=sizeLine) (NS:d.params.defaults=[]) (hr:bC k callerA)
   (hY:∀(w:World) (h:Heap),YP w h->(K w.params).In h)
   (F:∀(w:World) (mg:Str->Option Value) (fa:Addr) (h:Heap),(K w.params).In h->h.Ns mainGlobals mg->mg d.name=some (.ref fa)->
     ∃fd:FuncData,(∀(s:Shared) (u:Value),BindsTo s fd ⟨[u],[]⟩ [(x,u)])/\
       ∀base:Heap,(K w.params).In base->base.Ns mainGlobals mg->d3 l.prog w (K w.params) mg base (CX w) k fa fd [x] (sp w))
   (Lg:∀(w:World) (H:Hp) (a:Addr) (ns:List Int),ns.length<=n->pT H->a8 (K w.params) H a (ns.map V.int)->sp w [.ref a] H (λv _=>v=.bl true) λ_ _ _=>False)
   (Qf:∀(w:World) (H:Hp) (s:Shared) (e:Value) (s':Shared),CX w [] H s (λ_ _ _=>False) e s'->False):
   PySem.W.WalkO q loose XP YP l.row.toRowW d [] (λf vs=>PySem.call f vs):=by
 refine xP.AY hn NS λw cv Jm mg mb fa o pm cd doc a vs ns G Y ho hd Jx hmg Nd hints hlen hg=>?_;have KX:=hY w _ Y;obtain⟨fd,hb,hF⟩:=F w mg fa _ KX G.T.g hmg;exact Et KX G.T.g G.T.b G.T.builtins G.T.nolimit hg Nd hints (Nat.le_trans hlen OE) hr hF hb (λH hO hS=>Lg w H a ns hlen hO hS) λH e s'=>Qf w H Jm e s'
end L2
namespace L2
open PySem PySem.Spec PyProof.Rows
noncomputable def ji(s:Stmt):Arguments:=match s with
 |.FunctionDef _ a _ _ _ _ _ _ _ _=>a
 |_=>{posonlyargs:=[],args:=[],vararg:=none,kwonlyargs:=[],kw_defaults:=[],kwarg:=none,defaults:=[]}
noncomputable def dY(s:Stmt):List Stmt:=match s with
 |.FunctionDef _ _ b _ _ _ _ _ _ _=>b
 |_=>[]
noncomputable def aS(s:Stmt):Scope:=match s with
 |.FunctionDef _ _ _ _ _ _ sc _ _ _=>sc
 |_=>{kind:=.function,names:=[],isGenerator:=false,isCoroutine:=false}
noncomputable abbrev cI:fZ:=λ_ _ _ _ _ _=>False
noncomputable abbrev E0:XK:=λ_ _ _=>False
theorem nz{X:Cx}:Passes cI X E0:=λ_ _ _ _ _ _ _ h=>h.elim
structure eW(K:PySem.W.Frag)(x qual:Str)(st:Stmt)(f:Addr)(fd:FuncData):Prop where
 ex:∃(oc:Value) (od:Option Addr) (kV doc pm:Value) (an:Option Addr) (Jq ct:Value) (L4:Array (Option Value)),
   fd=PySem.W.fnOf x qual (ji st) (dY st) (aS st) .none kV doc pm an Jq ct/\K.lookup f=some ⟨oc,od,.func fd,L4⟩/\PySem.W.codeIn K Jq qual=true
 kp:PySem.W.keepIn K (.ref f)=true
section
variable{P:Program}{w:World}{K:PySem.W.Frag}{mg:Str->Option Value}{base:Heap}
theorem eW.ok{x qual:Str}{st:Stmt}{f:Addr}{fd:FuncData}{N ps:List Str}{k:Nat}{sp:Sp}(F:eW K x qual st f fd)(S:bG N ps (aS st))(len:∀vs H Q E,sp vs H Q E->vs.length=ps.length)
   (L1:∀(Jq:Value) (A:Around) (outer:List Env) (s:Shared) (H:Hp) (vs:List V) (Q:VK) (E:XK),bC k (A.deeper (envOfC qual (aS st) s.heap.objs.size f Jq))->sp vs H Q E->
     ∃t,bQ (e6 cI P w K mg base N qual (aS st) f Jq A outer s H E).fT (dY st) t/\t {nx:=λ_ H'=>Q .aD H',rt:=Q} (start N vs) H):d3 P w K mg base cI (k+1) f fd ps sp:=by
 obtain⟨oc,od,kV,doc,pm,an,Jq,ct,L4,rfl,lk,Jx⟩:=F.ex;refine CF lk Jx S len λA outer s H vs Q E hr Lg=>?_;obtain⟨t,h,q⟩:=L1 Jq A outer s H vs Q E hr Lg;exact⟨t,h.fT,q⟩
theorem eW.binds{x qual:Str}{st:Stmt}{f:Addr}{fd:FuncData}{ps:List Str}(F:eW K x qual st f fd)
   (h:∀(kV doc pm:Value) (an:Option Addr) (Jq ct:Value) (us:List Value),us.length=ps.length->bindArgs (PySem.W.fnOf x qual (ji st) (dY st) (aS st) .none kV doc pm an Jq ct) ⟨us,[]⟩=pure (ps.zip us)):Binds K fd ps []:=by
 obtain⟨oc,od,kV,doc,pm,an,Jq,ct,L4,rfl,lk,Jx⟩:=F.ex;exact .all (h kV doc pm an Jq ct)
theorem Ab{x qual:Str}{st:Stmt}{f:Addr}{oc:Value}{od an:Option Addr}{L4:Array (Option Value)}{kV doc pm Jq ct:Value}(l:K.lookup f=some ⟨oc,od,.func (PySem.W.fnOf x qual (ji st) (dY st) (aS st) .none kV doc pm an Jq ct),L4⟩)
   (c:PySem.W.codeIn K Jq qual=true) (k:PySem.W.keepIn K (.ref f)=true):eW K x qual st f (PySem.W.fnOf x qual (ji st) (dY st) (aS st) .none kV doc pm an Jq ct):=⟨⟨oc,od,kV,doc,pm,an,Jq,ct,L4,rfl,l,c⟩,k⟩
end
section
variable{X:Cx}
theorem pv(i:Nat){x:Str}{pos:Pos}(hN:X.N[i]? =some x:=by rfl)(hv:cf X.env.scope x:=by first|exact Or.inl rfl|exact Or.inr (Or.inl rfl)|exact Or.inr (Or.inr rfl))(hd:(x==("__debug__":Str))=false:=by decide)
   (Jx:(x==("__classdict__":Str))=false:=by decide):PE X (.Name x pos) (vt i):=yv hN hv hd Jx
end
def ak(H H':Hp):Prop:=∀b o,H b=some o->H' b=some o
theorem ak.refl(H:Hp):ak H H:=λ_ _ h=>h
theorem ak.trans{H H1 H2:Hp}(a:ak H H1)(b:ak H1 H2):ak H H2:=λc o h=>b c o (a c o h)
theorem ak.free{H H':Hp}(e:ak H H'){l:Addr}(h:H' l=Option.none):H l=Option.none:=by
 cases q:H l with
 |none=>rfl
 | some o=>
   rw[e l o q]at h;cases h
end L2
namespace PL
open PySem PySem.Spec PySem.W
section
variable{prog:Program}{w:World}{A:Around}{E:Value->Shared->Prop}{h:Heap}{g:Array GenState}{d:Drawn}{t:Nat}{os:OsState}{a C:Addr}{o:Obj}{K:PySem.W.Frag}
end
end PL
namespace PL
open PySem
noncomputable abbrev Ky:=Sum Int Str
inductive D where
 |aD|bl (b:Bool)|int (i:Int)|str (x:Str)
 |tup (xs:List D)|lst (xs:List D)|aN (ks:List Ky) (vs:List D)|df (c:Str) (ns:List Str) (vs:List D)
 deriving Inhabited
inductive R(α:Type) where
 |ok (a:α)|exc (x:D)|bad
namespace R
noncomputable def bind{α β:Type}:R α->(α->R β)->R β
 |.ok a,f=>f a
 |.exc x,_=>.exc x
 |.bad,_=>.bad
@[simp] theorem aQ{α β:Type}(a:α)(f:α->R β):(R.ok a).bind f=f a:=rfl
@[simp] theorem IL{α β:Type}(x:D)(f:α->R β):(R.exc x).bind f=.exc x:=rfl
@[simp] theorem Im{α β:Type}(f:α->R β):(R.bad:R α).bind f=.bad:=rfl
end R
inductive T where
 |d (x:D)|l (ts:List T)|m (ks:List Ky) (ts:List T)|tu (ts:List T)
 deriving Inhabited
noncomputable def T.own:T->Bool
 |.d _=>false
 |.tu _=>false
 |_=>true
inductive Sp where
 |tr (t:T)|al (i:Nat) (p:List Nat)
 deriving Inhabited
inductive Slot where
 |un|sh (d:D)|ol (xs:List D)|od (ks:List Ky) (vs:List D)|on (x:Sp)
 deriving Inhabited
noncomputable abbrev En:=List Slot
noncomputable abbrev Ex:=En->R D
noncomputable abbrev aL:=En->R Bool
noncomputable abbrev dP:Nat:=16777216
mutual
@[simp] noncomputable def bq:D->D->Bool
 |.aD,.aD=>true
 |.bl a,.bl b=>a==b
 |.bl a,.int b=>(if a then 1 else 0)==b
 |.int a,.bl b=>a==(if b then 1 else 0)
 |.int a,.int b=>a==b
 |.str a,.str b=>decide (a=b)
 |.tup a,.tup b=>d4 a b
 |.lst a,.lst b=>d4 a b
 |_,_=>false
@[simp] noncomputable def d4:List D->List D->Bool
 |[],[]=>true
 |a::as,b::bs=>bq a b&&d4 as bs
 |_,_=>false
end
@[simp] noncomputable def flat:D->Bool
 |.aD=>true
 |.bl _=>true
 |.int _=>true
 |.str _=>true
 |_=>false
mutual
noncomputable def lay:D->Bool
 |.aD=>true
 |.bl _=>true
 |.int _=>true
 |.str x=>x.cps.all (· <0x110000)
 |.tup xs=>cN xs
 |.lst xs=>cN xs
 |_=>false
noncomputable def cN:List D->Bool
 |[]=>true
 |x::xs=>lay x&&cN xs
end
mutual
noncomputable def dep:D->Nat
 |.tup xs=>fM xs+1
 |.lst xs=>fM xs+1
 |_=>0
noncomputable def fM:List D->Nat
 |[]=>0
 |x::xs=>max (dep x) (fM xs)
end
@[simp] noncomputable def sI:D->D->Bool
 |.aN _ _,.str _=>true
 |_,_=>false
@[simp] noncomputable def rE:D->D->Bool
 |.tup _,.tup []=>true
 |_,_=>false
noncomputable def eS(a b:D):Bool:=(flat a&&flat b)||rE a b||(lay a&&lay b&&decide (min (dep a) (dep b)<=60))
noncomputable def cZ(a b:D):Bool:=eS a b||sI a b
theorem oP{a b:D}(ha:flat a=true)(hb:flat b=true):eS a b=true:=by unfold eS;rw[ha,hb];rfl
theorem jw{a b:D}(ha:flat a=true)(hb:flat b=true):cZ a b=true:=by unfold cZ;rw[oP ha hb];rfl
@[simp] theorem IW(a b:Bool):eS (.bl a) (.bl b)=true:=oP rfl rfl
@[simp] theorem Iw(a b:Int):eS (.int a) (.int b)=true:=oP rfl rfl
@[simp] theorem IG(a b:Str):eS (.str a) (.str b)=true:=oP rfl rfl
@[simp] theorem IK(a:List Ky)(c:List D)(b:Str):cZ (.aN a c) (.str b)=true:=by unfold cZ;simp
@[simp] theorem HX:cZ .aD .aD=true:=jw rfl rfl
@[simp] theorem Ic(a b:Bool):cZ (.bl a) (.bl b)=true:=jw rfl rfl
@[simp] theorem zg(a b:Int):cZ (.int a) (.int b)=true:=jw rfl rfl
@[simp] theorem B7(a b:Str):cZ (.str a) (.str b)=true:=jw rfl rfl
@[simp] theorem Jg(b:Str):cZ .aD (.str b)=true:=jw rfl rfl
@[simp] theorem Ib(a:Int)(b:Str):cZ (.int a) (.str b)=true:=jw rfl rfl
@[simp] theorem IV(a:Bool)(b:Str):cZ (.bl a) (.str b)=true:=jw rfl rfl
@[simp] theorem HW(a:List D):cZ (.tup a) (.tup [])=true:=by unfold cZ eS;simp
@[simp] noncomputable def truth:D->R Bool
 |.aD=>.ok false
 |.bl b=>.ok b
 |.int i=>.ok (i != 0)
 |.str x=>if x.length<=dP then .ok (x.length != 0)else .bad
 |.tup xs=>.ok (!xs.isEmpty)
 |.lst xs=>.ok (!xs.isEmpty)
 |.aN _ _=>.bad
 |.df _ _ _=>.bad
noncomputable def bJ(n:Nat)(i:Int):Option Nat:=if 0<=i then(if i<n then some i.toNat else none)else if -(n:Int)<=i then some (i+n).toNat else none
noncomputable def bY{α:Type}(xs:List α)(i:Int):Option α:=(bJ xs.length i).bind λj=>xs[j]?
noncomputable def aU(n d:Nat):Option Int->Nat
 |none=>d
 |some v=>if v<0 then(v+(n:Int)).toNat else min v.toNat n
noncomputable def cut{α:Type}(xs:List α)(lo hi:Option Int):List α:=(xs.drop (aU xs.length 0 lo)).take (aU xs.length xs.length hi - aU xs.length 0 lo)
noncomputable def inR(j:Int):Bool:=decide (-4611686018427387904<=j)&&decide (j<4611686018427387904)
noncomputable def yE(j:Int):Bool:=decide (0<j)&&decide (j<340282366920938463463374607431768211456)
noncomputable def Bl(j:Int):Bool:=decide (0<=j)&&decide (j<=1000)
noncomputable def small(i:Int):Bool:=decide (-18446744073709551616<i)&&decide (i<18446744073709551616)
@[simp] noncomputable def bj:D->D->R D
 |.int i,.int j=>.ok (.int (i+j))
 |.str x,.str y=>if x.length+y.length<=dP then .ok (.str (x++y))else .bad
 |.lst x,.lst y=>if x.length+y.length<=dP then .ok (.lst (x++y))else .bad
 |.tup x,.tup y=>if x.isEmpty=false/\x.length+y.length<=dP then .ok (.tup (x++y))else .bad
 |_,_=>.bad
@[simp] noncomputable def Ii:D->D->R D
 |.int i,.int j=>.ok (.int (i - j))
 |_,_=>.bad
@[simp] noncomputable def Il:D->D->R D
 |.int i,.int j=>if(small i||small j)=true then .ok (.int (i*j))else .bad
 |_,_=>.bad
@[simp] noncomputable def ic:D->D->R D
 |.lst x,.int j=>if 0<=j/\j<1000/\x.length<=1000 then .ok (.lst (List.replicate j.toNat x).flatten)else .bad
 |_,_=>.bad
@[simp] noncomputable def oDiv:D->D->R D
 |.int i,.int j=>if yE j=true then .ok (.int (i / j))else .bad
 |_,_=>.bad
@[simp] noncomputable def oMod:D->D->R D
 |.int i,.int j=>if 0<j then .ok (.int (i % j))else .bad
 |_,_=>.bad
@[simp] noncomputable def IT:D->D->R D
 |.int i,.int j=>if(Bl j&&small i)=true then .ok (.int (i ^ j.toNat))else .bad
 |_,_=>.bad
@[simp] noncomputable def gq:D->R D
 |.int i=>.ok (.int (-i))
 |_=>.bad
@[simp] noncomputable def oEq(x y:D):R D:=if cZ x y=true then .ok (.bl (bq x y))else .bad
@[simp] noncomputable def a7(x y:D):R D:=if eS x y=true then .ok (.bl (!bq x y))else .bad
@[simp] noncomputable def oLt:D->D->R D
 |.int i,.int j=>.ok (.bl (decide (i<j)))
 |_,_=>.bad
@[simp] noncomputable def oLe:D->D->R D
 |.int i,.int j=>.ok (.bl (decide (i<=j)))
 |_,_=>.bad
@[simp] noncomputable def je:D->D->R D
 |.int i,.int j=>.ok (.bl (decide (j<i)))
 |_,_=>.bad
@[simp] noncomputable def Ip:D->D->R D
 |.int i,.int j=>.ok (.bl (decide (j<=i)))
 |_,_=>.bad
@[simp] noncomputable def uy:D->Bool
 |.aD=>true
 |_=>false
@[simp] noncomputable def ID(b:Bool):D->Bool
 |.bl c=>b==c
 |_=>false
@[simp] noncomputable def cR(d:D):R D:=.ok (.bl (uy d))
@[simp] noncomputable def dB(d:D):R D:=.ok (.bl (!uy d))
@[simp] noncomputable def H0(b:Bool):D->R D
 |.bl c=>.ok (.bl (c==b))
 |_=>.bad
@[simp] noncomputable def Jb(b:Bool):D->R D
 |.bl c=>.ok (.bl (!(c==b)))
 |_=>.bad
noncomputable def keyOf:D->Option Ky
 |.int i=>some (.inl i)
 |.str x=>some (.inr x)
 |_=>none
noncomputable def cA(k:Ky):List Ky->List D->Option D
 |a::ks,v::vs=>if a=k then some v else cA k ks vs
 |_,_=>none
@[simp] noncomputable def cu:D->D->R D
 |.str _,.str _=>.bad
 |x,.lst ys=>if flat x=true/\ys.all flat=true then .ok (.bl (ys.any λy=>bq y x))else .bad
 |x,.tup ys=>if flat x=true/\ys.all flat=true then .ok (.bl (ys.any λy=>bq y x))else .bad
 | x,.aN ks vs=>match keyOf x with
   |some k=>.ok (.bl (cA k ks vs).isSome)
   |none=>.bad
 |_,_=>.bad
@[simp] noncomputable def lJ:D->R D
 |.bl b=>.ok (.bl (!b))
 |_=>.bad
@[simp] noncomputable def ck(x y:D):R D:=(cu x y).bind lJ
@[simp] noncomputable def lX:D->D->R D
 | .lst xs,.int i=>match bY xs i with
   |some v=>.ok v
   |none=>.bad
 | .tup xs,.int i=>match bY xs i with
   |some v=>.ok v
   |none=>.bad
 | .str x,.int i=>if x.length<=dP then match bY x.cps.toList i with
   |some c=>.ok (.str ⟨#[c]⟩)
   |none=>.bad else .bad
 |_,_=>.bad
@[simp] noncomputable def kc:D->D->R D
 | .aN ks vs,k=>match keyOf k with
   | some q=>match cA q ks vs with
     |some v=>.ok v
     |none=>.bad
   |none=>.bad
 |_,_=>.bad
@[simp] noncomputable def af:D->D->R D
 |.lst xs,k=>lX (.lst xs) k
 |.tup xs,k=>lX (.tup xs) k
 |.str x,k=>lX (.str x) k
 |.aN ks vs,k=>kc (.aN ks vs) k
 |_,_=>.bad
@[simp] noncomputable def m8(lo hi:Option Int):D->R D
 |.lst xs=>.ok (.lst (cut xs lo hi))
 |.tup xs=>if aU xs.length 0 lo=0/\aU xs.length xs.length hi=xs.length then .bad else .ok (.tup (cut xs lo hi))
 |_=>.bad
@[simp] noncomputable def cU:D->R D
 |.lst xs=>.ok (.int xs.length)
 |.tup xs=>.ok (.int xs.length)
 |.str x=>if x.length<=dP then .ok (.int x.length)else .bad
 |_=>.bad
inductive Ty where
 |int|bool|str|tuple|list|dict
@[simp] noncomputable def dH:Ty->D->R D
 |.int,.int _=>.ok (.bl true)
 |.int,.bl _=>.ok (.bl true)
 |.bool,.bl _=>.ok (.bl true)
 |.str,.str _=>.ok (.bl true)
 |.tuple,.tup _=>.ok (.bl true)
 |.list,.lst _=>.ok (.bl true)
 |.dict,.aN _ _=>.ok (.bl true)
 |_,.df _ _ _=>.bad
 |_,_=>.ok (.bl false)
@[simp] noncomputable def gH:D->R D
 |.lst xs=>.ok (.lst xs)
 |.tup xs=>.ok (.lst xs)
 |_=>.bad
@[simp] noncomputable def Je:D->R D
 |.lst xs=>.ok (.tup xs)
 |.tup xs=>.ok (.tup xs)
 |_=>.bad
noncomputable def allB:List D->R D
 |[]=>.ok (.bl true)
 | .bl b::r=>(allB r).bind λz=>match z with
   |.bl k=>.ok (.bl (b&&k))
   |_=>.bad
 |_=>.bad
@[simp] noncomputable def IF:D->R D
 |.lst xs=>allB xs
 |_=>.bad
@[simp] noncomputable def nJ:D->R D
 |.int i=>.ok (.int i)
 |.bl b=>.ok (.int (if b then 1 else 0))
 |_=>.bad
@[simp] noncomputable def Iv:D->R D
 |.int i=>if 0<=i/\i<10 ^ 100 then .ok (.str (Str.ofString (toString i)))else .bad
 |_=>.bad
@[simp] noncomputable def Ig:D->D->R D
 |.int i,.int j=>.ok (.int (if j<i then j else i))
 |_,_=>.bad
noncomputable def findS(x:List Nat):Nat->List Nat->Option Nat
 |k,[]=>if x=[]then some k else none
 |k,c::r=>if(c::r).take x.length=x then some k else findS x (k+1) r
@[simp] noncomputable def Ji:D->D->R D
 | .str y,.str x=>.ok (.int (match findS x.cps.toList 0 y.cps.toList with
   |some k=>(k:Int)
   |none=> -1))
 |_,_=>.bad
noncomputable def pw(x:D):Nat->List D->R D
 |_,[]=>.bad
 |k,y::r=>if bq y x=true then .ok (.int k)else pw x (k+1) r
@[simp] noncomputable def Jk:D->D->R D
 |.tup ys,x=>if flat x=true/\ys.all flat=true then pw x 0 ys else .bad
 |.lst ys,x=>if flat x=true/\ys.all flat=true then pw x 0 ys else .bad
 |_,_=>.bad
noncomputable def strsOf:List D->Option (List Str)
 |[]=>some []
 |.str x::r=>(strsOf r).map (x:: ·)
 |_=>none
@[simp] noncomputable def Iy:D->D->R D
 | .str x,.lst ys=>match strsOf ys with
   |some zs=>if(Str.join x zs).length<=dP then .ok (.str (Str.join x zs))else .bad
   |none=>.bad
 |_,_=>.bad
@[simp] noncomputable def aa(i:Nat):Ex:=λρ=>match ρ[i]? with
 |some (.sh d)=>.ok d
 |_=>.bad
@[simp] noncomputable def eC(d:D):Ex:=λ_=>.ok d
@[simp] noncomputable def e1(g:D->R D)(a:Ex):Ex:=λρ=>(a ρ).bind g
@[simp] noncomputable def e2(g:D->D->R D)(a b:Ex):Ex:=λρ=>(a ρ).bind λx=>(b ρ).bind λy=>g x y
@[simp] noncomputable def jq(a b:Ex):Ex:=λρ=>(a ρ).bind λx=>match x with
 |.bl true=>b ρ
 |.bl false=>.ok (.bl false)
 |_=>.bad
@[simp] noncomputable def HY(a b:Ex):Ex:=λρ=>(a ρ).bind λx=>match x with
 |.bl true=>.ok (.bl true)
 |.bl false=>b ρ
 |_=>.bad
@[simp] noncomputable def Ih(c:aL)(a b:Ex):Ex:=λρ=>(c ρ).bind λt=>if t=true then a ρ else b ρ
@[simp] noncomputable def eList:List Ex->En->R (List D)
 |[],_=>.ok []
 |e::es,ρ=>(e ρ).bind λx=>(eList es ρ).bind λxs=>.ok (x::xs)
@[simp] noncomputable def cn(es:List Ex):Ex:=λρ=>(eList es ρ).bind λxs=>.ok (.tup xs)
@[simp] noncomputable def bh(es:List Ex):Ex:=λρ=>(eList es ρ).bind λxs=>.ok (.lst xs)
@[simp] noncomputable def bc(f:List D->R D)(es:List Ex):Ex:=λρ=>(eList es ρ).bind f
@[simp] noncomputable def cS(ks:List Ky)(es:List Ex):Ex:=λρ=>(eList es ρ).bind λxs=>.ok (.aN ks xs)
@[simp] noncomputable def mJ:Option Ex->En->R (Option Int)
 |none,_=>.ok none
 | some e,ρ=>(e ρ).bind λx=>match x with
   |.int i=>.ok (some i)
   |_=>.bad
@[simp] noncomputable def bK(a:Ex)(lo hi:Option Ex):Ex:=λρ=>(a ρ).bind λx=>(mJ lo ρ).bind λl=>(mJ hi ρ).bind λu=>m8 l u x
@[simp] noncomputable def tV(a:Ex):aL:=λρ=>(a ρ).bind truth
@[simp] noncomputable def ba(a b:aL):aL:=λρ=>(a ρ).bind λt=>if t=true then b ρ else .ok false
@[simp] noncomputable def ee(a b:aL):aL:=λρ=>(a ρ).bind λt=>if t=true then .ok true else b ρ
@[simp] noncomputable def eY(a:aL):aL:=λρ=>(a ρ).bind λt=>.ok (!t)
@[simp] noncomputable def II(i:Nat):Ex:=λρ=>match ρ[i]? with
 |some (.ol xs)=>.ok (.int xs.length)
 |some (.od ks _)=>.ok (.int ks.length)
 |_=>.bad
@[simp] noncomputable def IE(i:Nat)(e:Ex):Ex:=λρ=>(e ρ).bind λx=>match ρ[i]? with
 |some (.ol xs)=>af (.lst xs) x
 |some (.od ks vs)=>kc (.aN ks vs) x
 |_=>.bad
@[simp] noncomputable def iW(i:Nat):Ex:=λρ=>match ρ[i]? with
 |some (.ol xs)=>.ok (.int xs.length)
 |_=>.bad
noncomputable abbrev bB:=En->R (List D)
@[simp] noncomputable def items:D->R (List D)
 |.lst xs=>.ok xs
 |.tup xs=>.ok xs
 |.str x=>.ok (x.cps.toList.map λc=>.str ⟨#[c]⟩)
 |_=>.bad
@[simp] noncomputable def cM(a:Ex):bB:=λρ=>(a ρ).bind items
noncomputable def dn(i j:Int):List D:=(List.range (j - i).toNat).map λ(k:Nat)=>.int (i+(k:Int))
@[simp] noncomputable def cK(a:Ex):bB:=λρ=>(a ρ).bind λx=>match x with
 |.int j=>if inR j=true then .ok (dn 0 j)else .bad
 |_=>.bad
@[simp] noncomputable def dM(a b:Ex):bB:=λρ=>(a ρ).bind λx=>(b ρ).bind λy=>match x,y with
 |.int i,.int j=>if(inR i&&inR j)=true then .ok (dn i j)else .bad
 |_,_=>.bad
@[simp] noncomputable def ij:List D->List D->List D
 |x::xs,y::ys=>.tup [x,y]::ij xs ys
 |_,_=>[]
@[simp] noncomputable def jh(a b:Ex):bB:=λρ=>(a ρ).bind λx=>(b ρ).bind λy=>(items x).bind λxs=>(items y).bind λys=>.ok (ij xs ys)
@[simp] noncomputable def wj:Nat->List D->List D
 |_,[]=>[]
 |k,x::xs=>.tup [.int k,x]::wj (k+1) xs
@[simp] noncomputable def Ij(a:Ex):bB:=λρ=>(a ρ).bind λx=>(items x).bind λxs=>.ok (wj 0 xs)
noncomputable abbrev bA:=D->En->R En
@[simp] noncomputable def az(i:Nat):bA:=λd ρ=>.ok (ρ.set i (.sh d))
@[simp] noncomputable def c6:List Nat->List D->En->R En
 |[],[],ρ=>.ok ρ
 |i::is,d::ds,ρ=>c6 is ds (ρ.set i (.sh d))
 |_,_,_=>.bad
@[simp] noncomputable def hV(is:List Nat):bA:=λd ρ=>match d with
 |.tup ds=>c6 is ds ρ
 |_=>.bad
@[simp] noncomputable def m5:Option Slot->Slot
 |some (.sh d)=>.sh d
 |_=>.un
@[simp] noncomputable def frees(ρ:En)(fv:List Nat):En:=fv.map λi=>m5 ρ[i]?
noncomputable def cJ(tg:bA)(cs:List aL)(el:Ex)(ρ:En):List D->R (List D)
 |[]=>.ok []
 | d::ds=>(tg d ρ).bind λJN=>(fN cs JN).bind λt=>
   if t=true then(el JN).bind λy=>(cJ tg cs el ρ ds).bind λys=>.ok (y::ys)else cJ tg cs el ρ ds
where fN:List aL->En->R Bool
 |[],_=>.ok true
 |c::cs,ρ=>(c ρ).bind λt=>if t=true then fN cs ρ else .ok false
@[simp] noncomputable def bW(it:bB)(n:Nat)(fv:List Nat)(tg:bA)(cs:List aL)(el:Ex):Ex:=λρ=>(it ρ).bind λds=>
 if ds.length<=dP then(cJ tg cs el (List.replicate n .un++frees ρ fv) ds).bind λys=>.ok (.lst ys)else .bad
inductive Fl where
 |next (ρ:En)|ret (d:D)|brk (ρ:En)|cont (ρ:En)|di (d:D)|dD (t:T)|dR (i:Nat) (ρ:En)
noncomputable abbrev Sm:=En->R Fl
@[simp] noncomputable def bI:Sm:=λρ=>.ok (.next ρ)
@[simp] noncomputable def tI(a b:Sm):Sm:=λρ=>(a ρ).bind λf=>match f with
 |.next ρ'=>b ρ'
 |f=>.ok f
@[simp] noncomputable def aw:List Sm->Sm
 |[]=>bI
 |a::r=>tI a (aw r)
@[simp] noncomputable def bM(c:aL)(a b:Sm):Sm:=λρ=>(c ρ).bind λt=>if t=true then a ρ else b ρ
@[simp] noncomputable def aK(g:bA)(e:Ex):Sm:=λρ=>(e ρ).bind λd=>(g d ρ).bind λρ'=>.ok (.next ρ')
@[simp] noncomputable def b3(e:Ex):Sm:=λρ=>(e ρ).bind λd=>.ok (.ret d)
@[simp] noncomputable def Ik:Sm:=λ_=>.ok (.ret .aD)
@[simp] noncomputable def Ie(e:Ex):Sm:=λρ=>(e ρ).bind λ_=>.ok (.next ρ)
@[simp] noncomputable def IJ:Sm:=λ_=>.bad
@[simp] noncomputable def gR(i:Nat)(e:Ex):Sm:=λρ=>(e ρ).bind λd=>match d with
 |.lst xs=>.ok (.next (ρ.set i (.ol xs)))
 |_=>.bad
@[simp] noncomputable def g8(i:Nat)(e:Ex):Sm:=λρ=>(e ρ).bind λd=>match d with
 |.aN ks vs=>.ok (.next (ρ.set i (.od ks vs)))
 |_=>.bad
@[simp] noncomputable def eA(i:Nat):Sm:=λρ=>match ρ[i]? with
 |some (.ol xs)=>.ok (.next (ρ.set i (.sh (.lst xs))))
 |some (.od ks vs)=>.ok (.next (ρ.set i (.sh (.aN ks vs))))
 |_=>.bad
@[simp] noncomputable def js(i:Nat)(e:Ex):Sm:=λρ=>(e ρ).bind λd=>match ρ[i]? with
 |some (.ol xs)=>if xs.length<dP then .ok (.next (ρ.set i (.ol (xs++[d]))))else .bad
 |_=>.bad
@[simp] noncomputable def lM(i:Nat)(k e:Ex):Sm:=λρ=>(e ρ).bind λd=>(k ρ).bind λq=>match ρ[i]?,q with
 | some (.ol xs),.int j=>match bJ xs.length j with
   |some m=>.ok (.next (ρ.set i (.ol (xs.set m d))))
   |none=>.bad
 |_,_=>.bad
noncomputable def putK(k:Ky)(d:D):List Ky->List D->List Ky×List D
 |a::ks,v::vs=>if a=k then(a::ks,d::vs)else((a::(putK k d ks vs).1),(v::(putK k d ks vs).2))
 |_,_=>([k],[d])
@[simp] noncomputable def Ja(i:Nat)(k e:Ex):Sm:=λρ=>(e ρ).bind λd=>(k ρ).bind λq=>match ρ[i]?,keyOf q with
 |some (.od ks vs),some y=>if ks.length<1000 then .ok (.next (ρ.set i (.od (putK y d ks vs).1 (putK y d ks vs).2)))else .bad
 |_,_=>.bad
noncomputable def forL(tg:bA)(body:Sm):List D->En->R Fl
 |[],ρ=>.ok (.next ρ)
 | d::ds,ρ=>(tg d ρ).bind λJN=>(body JN).bind λf=>match f with
   |.next J7=>forL tg body ds J7
   |.cont J7=>forL tg body ds J7
   |.brk J7=>.ok (.next J7)
   |.ret d=>.ok (.ret d)
   |.di d=>.ok (.di d)
   |.dD t=>.ok (.dD t)
   |.dR i ρ=>.ok (.dR i ρ)
@[simp] noncomputable def b0(it:bB)(tg:bA)(body:Sm):Sm:=λρ=>(it ρ).bind λds=>forL tg body ds ρ
@[simp] noncomputable def fn(n:Nat)(body:Sm):List D->R D:=λds=>(body (ds.map .sh++List.replicate (n - ds.length) .un)).bind λf=>match f with
 |.ret d=>.ok d
 |.next _=>.ok .aD
 |_=>.bad
@[simp] noncomputable def lz(i:Nat):Sm:=λρ=>match ρ[i]? with
 |some (.ol xs)=>.ok (.di (.lst xs))
 |_=>.bad
@[simp] noncomputable def fH(n:Nat)(body:Sm):List D->R D:=λds=>(body (ds.map .sh++List.replicate (n - ds.length) .un)).bind λf=>match f with
 |.di (.lst xs)=>.ok (.lst xs)
 |_=>.bad
end PL
namespace PL
open PySem PySem.Spec
open L2 (V Hp HO Cx PE PT PW PA PS bQ St VK TE TT TA TS TI Inv RelV Vals Rd a8 bo upd ak Key XK Ends)
structure Md where
 K:PySem.W.Frag
 P:Program
 w:World
noncomputable abbrev aB(X:Cx):Md:=⟨X.K,X.prog,X.w⟩
def fY(M:Md)(H:Hp)(F:Addr->Prop)(a:Addr)(xs:List V):Prop:=
 (¬F a/\Rd H a (.lst xs))\/∃(o:Obj) (aj:Array Value) (n:Nat),M.K.lookup a=some o/\o.cls=.type "list"/\o.dict=none/\o.data=.seq aj n/\aj.size<=sizeLine/\Vals xs aj.toList
def dI(M:Md)(H:Hp)(F:Addr->Prop)(a:Addr)(xs:List V):Prop:=
 (¬F a/\Rd H a (.tup xs))\/∃(o:Obj) (aj:Array Value) (n:Nat),M.K.lookup a=some o/\o.cls=.type "tuple"/\o.data=.seq aj n/\aj.size<=sizeLine/\Vals xs aj.toList
def er(M:Md)(H:Hp)(F:Addr->Prop)(a:Addr)(kvs:List (Key×V)):Prop:=
 (¬F a/\∃ob,H a=some (.frz ob (.dK kvs)))\/∃(o:Obj) (es:Array DictEntry) (ep:Nat) (vs:List (Key×Value)),M.K.lookup a=some o/\o.ExactDict/\o.data=.dict es ep/\KeysOf (L2.bx M.P M.w) es/\Pairs (L2.bx M.P M.w) es.toList vs/\
   (vs.map (·.1)).Nodup/\L2.KV kvs vs/\kvs.length<=sizeLine/\(a==sysModules)=false
theorem fY.sq{M:Md}{H:Hp}{F:Addr->Prop}{a:Addr}{xs:List V}(h:fY M H F a xs):a8 M.K H a xs:=h.elim (λh=>.inl h.2) .inr
theorem dI.sq{M:Md}{H:Hp}{F:Addr->Prop}{a:Addr}{xs:List V}(h:dI M H F a xs):bo M.K H a xs:=h.elim (λh=>.inl h.2) .inr
noncomputable def Em(a C:Addr):HO:=.ext λh=>∃o,h.get? a=some o/\o.cls=.ref C/\∃vs,o.data=.fields vs
mutual
noncomputable def Rep(M:Md)(H:Hp)(F:Addr->Prop):D->V->Prop
 |.aD,v=>v=.aD
 |.bl b,v=>v=.bl b
 |.int i,v=>v=.int i
 |.str x,v=>v=.str x
 |.tup ds,v=>∃a xs,v=.ref a/\dI M H F a xs/\ag M H F ds xs
 |.lst ds,v=>∃a xs,v=.ref a/\fY M H F a xs/\ag M H F ds xs
 |.aN ks ds,v=>∃a xs,v=.ref a/\er M H F a (ks.zip xs)/\ks.length=xs.length/\ag M H F ds xs
 |.df c ns ds,v=>∃(a:Addr) (_u:Unit),v=.ref a/\¬F a/\((ns=[]/\∃C,H a=some (Em a C)/\PySem.W.nsIn M.K mainGlobals c=some (some (.ref C)))\/(ns≠[]/\∃o xs,H a=some (.frz o (.tup xs))/\o.dict=none/\ag M H F ds xs))
noncomputable def ag(M:Md)(H:Hp)(F:Addr->Prop):List D->List V->Prop
 |[],xs=>xs=[]
 |d::ds,xs=>∃x r,xs=x::r/\Rep M H F d x/\ag M H F ds r
end
def Mv(F:Addr->Prop)(H:Hp)(F':Addr->Prop)(H':Hp):Prop:=∀a o,¬F a->H a=some o->¬F' a/\H' a=some o
theorem Mv.same{F:Addr->Prop}{H H':Hp}(h:ak H H'):Mv F H F H':=λa o n e=>⟨n,h a o e⟩
theorem Mv.trans{F F1 F2:Addr->Prop}{H H1 H2:Hp}(a:Mv F H F1 H1)(b:Mv F1 H1 F2 H2):Mv F H F2 H2:=λc o n e=>b c o (a c o n e).1 (a c o n e).2
section
variable{M:Md}{H H':Hp}{F F':Addr->Prop}{a:Addr}{xs:List V}
theorem uB(m:Mv F H F' H'){u:HO}(n:¬F a)(h:Rd H a u):¬F' a/\Rd H' a u:=by
 rcases h with h|⟨o,h⟩
 ·exact⟨(m _ _ n h).1,.inl (m _ _ n h).2⟩
 ·exact⟨(m _ _ n h).1,.inr ⟨o,(m _ _ n h).2⟩⟩
theorem fY.mv(m:Mv F H F' H')(h:fY M H F a xs):fY M H' F' a xs:=by
 rcases h with⟨n,h⟩|h
 ·exact .inl (uB m n h)
 ·exact .inr h
theorem dI.mv(m:Mv F H F' H')(h:dI M H F a xs):dI M H' F' a xs:=by
 rcases h with⟨n,h⟩|h
 ·exact .inl (uB m n h)
 ·exact .inr h
theorem er.mv{kvs:List (Key×V)}(m:Mv F H F' H')(h:er M H F a kvs):er M H' F' a kvs:=by
 rcases h with⟨n,ob,h⟩|h
 ·exact .inl ⟨(m _ _ n h).1,ob,(m _ _ n h).2⟩
 ·exact .inr h
mutual
theorem Rep.mv(m:Mv F H F' H'):∀ {d:D} {v:V},Rep M H F d v->Rep M H' F' d v
 |.aD,_,h=>by simp only[Rep]at h ⊢;exact h
 |.bl _,_,h=>by simp only[Rep]at h ⊢;exact h
 |.int _,_,h=>by simp only[Rep]at h ⊢;exact h
 |.str _,_,h=>by simp only[Rep]at h ⊢;exact h
 | .tup ds,_,h=>by
   simp only[Rep]at h ⊢;obtain⟨a,xs,e,t,r⟩:=h;exact⟨a,xs,e,t.mv m,ag.mv m r⟩
 | .lst ds,_,h=>by
   simp only[Rep]at h ⊢;obtain⟨a,xs,e,t,r⟩:=h;exact⟨a,xs,e,t.mv m,ag.mv m r⟩
 | .aN ks ds,_,h=>by
   simp only[Rep]at h ⊢;obtain⟨a,xs,e,t,l,r⟩:=h;exact⟨a,xs,e,t.mv m,l,ag.mv m r⟩
 | .df _ _ _,_,h=>by
   simp only[Rep]at h ⊢;obtain⟨a,_,e,n,h⟩:=h;rcases h with⟨z,C,q,k⟩|⟨z,o,xs,q,hd,r⟩
   ·exact⟨a,(),e,(m _ _ n q).1,.inl ⟨z,C,(m _ _ n q).2,k⟩⟩
   ·exact⟨a,(),e,(m _ _ n q).1,.inr ⟨z,o,xs,(m _ _ n q).2,hd,ag.mv m r⟩⟩
theorem ag.mv(m:Mv F H F' H'):∀ {ds:List D} {xs:List V},ag M H F ds xs->ag M H' F' ds xs
 |[],_,h=>by simp only[ag]at h ⊢;exact h
 | d::ds,_,h=>by
   simp only[ag]at h ⊢;obtain⟨x,r,e,h1,h2⟩:=h;exact⟨x,r,e,Rep.mv m h1,ag.mv m h2⟩
end
theorem ag.length:∀ {ds:List D} {xs:List V},ag M H F ds xs->ds.length=xs.length
 |[],_,h=>by simp only[ag]at h;subst h;rfl
 | d::ds,_,h=>by
   simp only[ag]at h;obtain⟨x,r,rfl,_,h2⟩:=h;simp[ag.length h2]
theorem ag.get:∀ {ds:List D} {xs:List V} {i:Nat} {d:D},ag M H F ds xs->ds[i]? =some d->∃x,xs[i]? =some x/\Rep M H F d x
 |[],_,_,_,_,e=>by simp at e
 | d::ds,_,0,_,h,e=>by
   simp only[ag]at h;obtain⟨x,r,rfl,h1,_⟩:=h;simp at e;subst e;exact⟨x,rfl,h1⟩
 | d::ds,_,i+1,_,h,e=>by
   simp only[ag]at h;obtain⟨x,r,rfl,_,h2⟩:=h;obtain⟨y,e1,h3⟩:=ag.get h2 (by simpa using e)
   exact⟨y,by simpa using e1,h3⟩
theorem ag.get':∀ {ds:List D} {xs:List V} {i:Nat} {x:V},ag M H F ds xs->xs[i]? =some x->∃d,ds[i]? =some d/\Rep M H F d x
 |[],_,_,_,h,e=>by simp only[ag]at h;subst h;simp at e
 | d::ds,_,0,_,h,e=>by
   simp only[ag]at h;obtain⟨x,r,rfl,h1,_⟩:=h;simp at e;subst e;exact⟨d,rfl,h1⟩
 | d::ds,_,i+1,_,h,e=>by
   simp only[ag]at h;obtain⟨x,r,rfl,_,h2⟩:=h;obtain⟨y,e1,h3⟩:=ag.get' h2 (by simpa using e)
   exact⟨y,by simpa using e1,h3⟩
theorem ag.append:∀ {ds es:List D} {xs ys:List V},ag M H F ds xs->ag M H F es ys->ag M H F (ds++es) (xs++ys)
 |[],_,_,_,h,g=>by simp only[ag]at h;subst h;exact g
 | d::ds,_,_,_,h,g=>by
   simp only[ag]at h;obtain⟨x,r,rfl,h1,h2⟩:=h;simp only[List.cons_append,ag];exact⟨x,_,rfl,h1,ag.append h2 g⟩
theorem ag.take:∀ {ds:List D} {xs:List V} (n:Nat),ag M H F ds xs->ag M H F (ds.take n) (xs.take n)
 |_,_,0,_=>by simp[ag]
 |[],_,n+1,h=>by simp only[ag]at h;subst h;simp[ag]
 | d::ds,_,n+1,h=>by
   simp only[ag]at h;obtain⟨x,r,rfl,h1,h2⟩:=h;simp only[List.take_succ_cons,ag];exact⟨x,_,rfl,h1,ag.take n h2⟩
theorem ag.drop:∀ {ds:List D} {xs:List V} (n:Nat),ag M H F ds xs->ag M H F (ds.drop n) (xs.drop n)
 |_,_,0,h=>h
 |[],_,n+1,h=>by simp only[ag]at h;subst h;simp[ag]
 | d::ds,_,n+1,h=>by
   simp only[ag]at h;obtain⟨x,r,rfl,h1,h2⟩:=h;exact ag.drop n h2
theorem ag.nil:ag M H F [] []:=by simp[ag]
theorem ag.cons{d:D}{x:V}{ds:List D}(h:Rep M H F d x)(t:ag M H F ds xs):ag M H F (d::ds) (x::xs):=by
 simp only[ag];exact⟨_,_,rfl,h,t⟩
theorem ag.set:∀ {ds:List D} {xs:List V} {d:D} {x:V} (i:Nat),Rep M H F d x->ag M H F ds xs->ag M H F (ds.set i d) (xs.set i x)
 |[],_,_,_,_,_,h=>by simp only[ag]at h;subst h;exact ag.nil
 | d::ds,_,_,_,0,g,h=>by
   simp only[ag]at h;obtain⟨y,r,rfl,_,h2⟩:=h;exact ag.cons g h2
 | d::ds,_,_,_,i+1,g,h=>by
   simp only[ag]at h;obtain⟨y,r,rfl,h1,h2⟩:=h;exact ag.cons h1 (ag.set i g h2)
end
def bp(ρ:En)(i:Nat):Prop:=(∃ds,ρ[i]? =some (.ol ds))\/∃ks ds,ρ[i]? =some (.od ks ds)
mutual
noncomputable def ah(M:Md)(H:Hp)(F:Addr->Prop):T->V->List Addr->Prop
 |.d x,v,as=>as=[]/\Rep M H F x v
 |.l ts,v,as=>∃a xs bs,v=.ref a/\as=a::bs/\F a/\H a=some (.lst xs)/\au M H F ts xs bs
 |.m ks ts,v,as=>∃a xs bs,v=.ref a/\as=a::bs/\F a/\H a=some (.dK (ks.zip xs))/\ks.length=xs.length/\au M H F ts xs bs
 |.tu ts,v,as=>∃a xs,v=.ref a/\¬F a/\H a=some (.tup xs)/\au M H F ts xs as
noncomputable def au(M:Md)(H:Hp)(F:Addr->Prop):List T->List V->List Addr->Prop
 |[],xs,as=>xs=[]/\as=[]
 |t::ts,xs,as=>∃x r bs cs,xs=x::r/\as=bs++cs/\ah M H F t x bs/\au M H F ts r cs
end
mutual
theorem ah.mv{M:Md}{H H':Hp}{F F':Addr->Prop}(m:Mv F H F' H'):∀ {t:T} {v:V} {as:List Addr},(∀b∈as,∀u,F b->H b=some u->F' b/\H' b=some u)->ah M H F t v as->ah M H' F' t v as
 | .d x,v,as,_,h=>by
   simp only[ah]at h ⊢;exact⟨h.1,h.2.mv m⟩
 | .l ts,v,as,k,h=>by
   simp only[ah]at h ⊢;obtain⟨a,xs,bs,e1,rfl,f,e2,r⟩:=h;obtain⟨f',e'⟩:=k a List.mem_cons_self _ f e2;exact⟨a,xs,bs,e1,rfl,f',e',au.mv m (λb hb=>k b (List.mem_cons_of_mem _ hb)) r⟩
 | .m ks ts,v,as,k,h=>by
   simp only[ah]at h ⊢;obtain⟨a,xs,bs,e1,rfl,f,e2,l,r⟩:=h;obtain⟨f',e'⟩:=k a List.mem_cons_self _ f e2;exact⟨a,xs,bs,e1,rfl,f',e',l,au.mv m (λb hb=>k b (List.mem_cons_of_mem _ hb)) r⟩
 | .tu ts,v,as,k,h=>by
   simp only[ah]at h ⊢;obtain⟨a,xs,e1,f,e2,r⟩:=h;exact⟨a,xs,e1,(m _ _ f e2).1,(m _ _ f e2).2,au.mv m k r⟩
theorem au.mv{M:Md}{H H':Hp}{F F':Addr->Prop}(m:Mv F H F' H'):∀ {ts:List T} {xs:List V} {as:List Addr},(∀b∈as,∀u,F b->H b=some u->F' b/\H' b=some u)->au M H F ts xs as->au M H' F' ts xs as
 |[],xs,as,_,h=>by simp only[au]at h ⊢;exact h
 | t::ts,xs,as,k,h=>by
   simp only[au]at h ⊢;obtain⟨x,r,bs,cs,e1,rfl,h1,h2⟩:=h;exact⟨x,r,bs,cs,e1,rfl,ah.mv m (λb hb=>k b (List.mem_append_left _ hb)) h1,au.mv m (λb hb=>k b (List.mem_append_right _ hb)) h2⟩
end
mutual
theorem ah.det{M:Md}{H H':Hp}{F F':Addr->Prop}(m:∀a xs,¬F a->H a=some (.tup xs)->∀ys,H' a=some (.tup ys)->xs=ys):∀ {t:T} {v:V} {as as':List Addr},ah M H F t v as->ah M H' F' t v as'->(∀b∈as,∀u,F b->H b=some u->H' b=some u)->as=as'
 | .d x,v,as,as',h,h',_=>by
   simp only[ah]at h h';rw[h.1,h'.1]
 | .l ts,v,as,as',h,h',k=>by
   simp only[ah]at h h';obtain⟨a,xs,bs,rfl,rfl,f,e2,r⟩:=h;obtain⟨a',Ku,bs',e1,rfl,f',Ke,r'⟩:=h';cases e1;have e3:=k a List.mem_cons_self _ f e2;rw[Ke]at e3;cases e3;rw[au.det m r r' λb hb=>k b (List.mem_cons_of_mem _ hb)]
 | .m ks ts,v,as,as',h,h',k=>by
   simp only[ah]at h h';obtain⟨a,xs,bs,rfl,rfl,f,e2,l,r⟩:=h;obtain⟨a',Ku,bs',e1,rfl,f',Ke,l',r'⟩:=h';cases e1;have e3:=k a List.mem_cons_self _ f e2;rw[Ke]at e3;have e4:ks.zip Ku=ks.zip xs:=by injection e3 with e3;injection e3
   have e5:Ku=xs:=by
     have h1:=congrArg (List.map Prod.snd) e4;rw[List.map_snd_zip (by omega),List.map_snd_zip (by omega)]at h1
     exact h1
   subst e5;rw[au.det m r r' λb hb=>k b (List.mem_cons_of_mem _ hb)]
 | .tu ts,v,as,as',h,h',k=>by
   simp only[ah]at h h';obtain⟨a,xs,rfl,f,e2,r⟩:=h;obtain⟨a',Ku,e1,f',Ke,r'⟩:=h';cases e1;have:=m a xs f e2 Ku Ke;subst this;exact au.det m r r' k
theorem au.det{M:Md}{H H':Hp}{F F':Addr->Prop}(m:∀a xs,¬F a->H a=some (.tup xs)->∀ys,H' a=some (.tup ys)->xs=ys):∀ {ts:List T} {xs:List V} {as as':List Addr},au M H F ts xs as->au M H' F' ts xs as'->(∀b∈as,∀u,F b->H b=some u->H' b=some u)->as=as'
 | [],xs,as,as',h,h',_=>by
   simp only[au]at h h';rw[h.2,h'.2]
 | t::ts,xs,as,as',h,h',k=>by
   simp only[au]at h h';obtain⟨x,r,bs,cs,rfl,rfl,h1,h2⟩:=h;obtain⟨x',r',bs',Kt,e1,rfl,MV,Mg⟩:=h';cases e1;rw[ah.det m h1 MV λb hb=>k b (List.mem_append_left _ hb),au.det m h2 Mg λb hb=>k b (List.mem_append_right _ hb)]
end
theorem ah.gX{M:Md}{H:Hp}{F F':Addr->Prop}{t:T}{v:V}{as as':List Addr}(h:ah M H F t v as)(h':ah M H F' t v as'):as=as':=
 ah.det (λa xs _ e ys e'=>by rw[e]at e';injection e' with z;injection z) h h' λ_ _ _ _ hu=>hu
mutual
theorem ah.fs{M:Md}{H:Hp}{F:Addr->Prop}:∀ {t:T} {v:V} {as:List Addr},ah M H F t v as->∀b∈as,F b/\∃u,H b=some u
 | .d x,v,as,h,b,hb=>by
   simp only[ah]at h;rw[h.1]at hb;cases hb
 | .l ts,v,as,h,b,hb=>by
   simp only[ah]at h;obtain⟨a,xs,bs,rfl,rfl,f,e2,r⟩:=h;rcases List.mem_cons.mp hb with rfl|hb
   ·exact⟨f,_,e2⟩
   ·exact au.fs r b hb
 | .m ks ts,v,as,h,b,hb=>by
   simp only[ah]at h;obtain⟨a,xs,bs,rfl,rfl,f,e2,l,r⟩:=h;rcases List.mem_cons.mp hb with rfl|hb
   ·exact⟨f,_,e2⟩
   ·exact au.fs r b hb
 | .tu ts,v,as,h,b,hb=>by
   simp only[ah]at h;obtain⟨a,xs,rfl,f,e2,r⟩:=h;exact au.fs r b hb
theorem au.fs{M:Md}{H:Hp}{F:Addr->Prop}:∀ {ts:List T} {xs:List V} {as:List Addr},au M H F ts xs as->∀b∈as,F b/\∃u,H b=some u
 | [],xs,as,h,b,hb=>by
   simp only[au]at h;rw[h.2]at hb;cases hb
 | t::ts,xs,as,h,b,hb=>by
   simp only[au]at h;obtain⟨x,r,bs,cs,rfl,rfl,h1,h2⟩:=h;rcases List.mem_append.mp hb with hb|hb
   ·exact ah.fs h1 b hb
   ·exact au.fs h2 b hb
end
def aq(H:Hp):T->V->List Nat->T->V->Prop
 |t,v,[],t',w=>t=t'/\v=w
 |.l ts,v,k::p,t',w=>∃a xs t1 x1,v=.ref a/\H a=some (.lst xs)/\ts[k]? =some t1/\xs[k]? =some x1/\aq H t1 x1 p t' w
 |.m ks ts,v,k::p,t',w=>∃a xs t1 x1,v=.ref a/\H a=some (.dK (ks.zip xs))/\ks.length=xs.length/\ts[k]? =some t1/\xs[k]? =some x1/\aq H t1 x1 p t' w
 |.d _,_,_::_,_,_=>False
 |.tu ts,v,k::p,t',w=>∃a xs t1 x1,v=.ref a/\H a=some (.tup xs)/\ts[k]? =some t1/\xs[k]? =some x1/\aq H t1 x1 p t' w
theorem au.get{M:Md}{H:Hp}{F:Addr->Prop}:∀ {ts:List T} {xs:List V} {as:List Addr} {k:Nat} {t:T} {x:V},au M H F ts xs as->ts[k]? =some t->xs[k]? =some x->∃bs,ah M H F t x bs/\∀b∈bs,b∈as
 |[],_,_,_,_,_,_,e,_=>by simp at e
 | t::ts,xs,as,0,_,_,h,e,e'=>by
   simp only[au]at h;obtain⟨x,r,bs,cs,rfl,rfl,h1,h2⟩:=h;cases e;cases e';exact⟨bs,h1,λb hb=>List.mem_append_left _ hb⟩
 | t::ts,xs,as,k+1,_,_,h,e,e'=>by
   simp only[au]at h;obtain⟨x,r,bs,cs,rfl,rfl,h1,h2⟩:=h;obtain⟨ds,h3,h4⟩:=au.get h2 (by simpa using e) (by simpa using e')
   exact⟨ds,h3,λb hb=>List.mem_append_right _ (h4 b hb)⟩
theorem aq.mv{M:Md}{H H':Hp}{F:Addr->Prop}(m:∀a o,¬F a->H a=some o->H' a=some o):∀ {p:List Nat} {t:T} {v:V} {t':T} {w:V} {as:List Addr},ah M H F t v as->(∀b∈as,∀u,F b->H b=some u->H' b=some u)->aq H t v p t' w->aq H' t v p t' w
 | [],t,v,t',w,as,_,_,h=>by
   cases t<;>exact h
 | k::p,.l ts,v,t',w,as,r,hk,h=>by
   simp only[aq]at h ⊢;simp only[ah]at r;obtain⟨a,xs,t1,x1,rfl,e,e1,e2,h⟩:=h;obtain⟨a',Ku,bs,ea,rfl,f,e',rs⟩:=r;cases ea;have e9:xs=Ku:=by rw[e']at e;injection e with e;injection e with e;exact e.symm
   subst e9;obtain⟨ds,r1,sub⟩:=rs.get e1 e2;exact⟨a,xs,t1,x1,rfl,hk a List.mem_cons_self _ f e',e1,e2,aq.mv m r1 (λb hb=>hk b (List.mem_cons_of_mem _ (sub b hb))) h⟩
 | k::p,.m ks ts,v,t',w,as,r,hk,h=>by
   simp only[aq]at h ⊢;simp only[ah]at r;obtain⟨a,xs,t1,x1,rfl,e,l,e1,e2,h⟩:=h;obtain⟨a',Ku,bs,ea,rfl,f,e',l',rs⟩:=r;cases ea;rw[e']at e
   have e5:Ku=xs:=by
     have e4:ks.zip Ku=ks.zip xs:=by injection e with e;injection e
     have h1:=congrArg (List.map Prod.snd) e4;rw[List.map_snd_zip (by omega),List.map_snd_zip (by omega)]at h1
     exact h1
   subst e5;obtain⟨ds,r1,sub⟩:=rs.get e1 e2;exact⟨a,Ku,t1,x1,rfl,hk a List.mem_cons_self _ f e',l,e1,e2,aq.mv m r1 (λb hb=>hk b (List.mem_cons_of_mem _ (sub b hb))) h⟩
 |k::p,.d _,v,t',w,as,_,_,h=>h.elim
 | k::p,.tu ts,v,t',w,as,r,hk,h=>by
   simp only[aq]at h ⊢;simp only[ah]at r;obtain⟨a,xs,t1,x1,rfl,e,e1,e2,h⟩:=h;obtain⟨a',Ku,ea,f,e',rs⟩:=r;cases ea;have e9:xs=Ku:=by rw[e']at e;injection e with e;injection e with e;exact e.symm
   subst e9;obtain⟨ds,r1,sub⟩:=rs.get e1 e2;exact⟨a,xs,t1,x1,rfl,m _ _ f e',e1,e2,aq.mv m r1 (λb hb=>hk b (sub b hb)) h⟩
def bO(M:Md)(H:Hp)(F:Addr->Prop)(σ:St)(ρ:En)(i:Nat)(b:Addr):Prop:=∃t v as,ρ[i]? =some (.on (.tr t))/\σ[i]? =some (some v)/\ah M H F t v as/\b∈as
def Dq(M:Md)(H:Hp)(F:Addr->Prop)(σ:St)(ρ:En)(i:Nat):Sp->Prop
 |.tr t=>∃v as,σ[i]? =some (some v)/\ah M H F t v as/\as.Nodup
 |.al k p=>∀t,ρ[k]? =some (.on (.tr t))->∃v w t',σ[k]? =some (some v)/\σ[i]? =some (some w)/\aq H t v p t' w/\t'.own=true
def fz(M:Md)(H:Hp)(F:Addr->Prop)(σ:St)(ρ:En):Prop:=∀i x,ρ[i]? =some (.on x)->
 Dq M H F σ ρ i x/\(∀b,bO M H F σ ρ i b->∀j,bp ρ j->σ[j]? ≠some (some (.ref b)))/\∀t,x=.tr t->∀j t',ρ[j]? =some (.on (.tr t'))->j≠i->∀b,bO M H F σ ρ i b->bO M H F σ ρ j b->False
theorem fz.no{M:Md}{H:Hp}{F:Addr->Prop}{σ:St}{ρ:En}(h:∀(i:Nat) x,ρ[i]? ≠some (.on x)):fz M H F σ ρ:=λi x e=>absurd e (h i x)
theorem fz.back{M:Md}{H H':Hp}{F F':Addr->Prop}{σ Jl:St}{ρ ρ':En}{i:Nat}{b:Addr}(r:fz M H F σ ρ)(hr:∀x,ρ'[i]? =some (.on x)->ρ[i]? =some (.on x))(hs:Jl[i]? =σ[i]?)
   (hk:∀a u,bO M H F σ ρ i a->F a->H a=some u->H' a=some u) (m:∀a o,¬F a->H a=some o->H' a=some o) (h:bO M H' F' Jl ρ' i b):bO M H F σ ρ i b:=by
 obtain⟨t,v,as,e,ev,tr,hb⟩:=h;have e0:=hr _ e;obtain⟨⟨v',as',Nx,Kx,nd⟩,_,_⟩:=r i _ e0;rw[hs,Nx]at ev;cases ev;have:=ah.det (λa xs n e ys e'=>by rw[m a _ n e]at e';injection e' with z;injection z) Kx tr λc hc u f hu=>hk c u ⟨t,v,as',e0,Nx,Kx,hc⟩ f hu
 subst this;exact⟨t,v,as',e0,Nx,Kx,hb⟩
theorem fz.mv{M:Md}{H H':Hp}{F F':Addr->Prop}{σ Jl:St}{ρ ρ':En}(r:fz M H F σ ρ)(m:Mv F H F' H')(LN:∀(j:Nat) x,ρ'[j]? =some (.on x)->ρ[j]? =some (.on x)/\Jl[j]? =σ[j]?)
   (hk:∀(j:Nat) x b u,ρ'[j]? =some (.on x)->bO M H F σ ρ j b->F b->H b=some u->F' b/\H' b=some u)
   (ho:∀(j:Nat) x b,ρ'[j]? =some (.on x)->bO M H F σ ρ j b->∀k:Nat,bp ρ' k->Jl[k]? ≠some (some (.ref b))):fz M H' F' Jl ρ':=λi x e=>by
 obtain⟨e0,es⟩:=LN i x e;obtain⟨h1,h2,h3⟩:=r i x e0;refine⟨?_,λb hb k ok=>?_,λt ht j t' ej TB b hi hj=>h3 t ht j t' (LN j _ ej).1 TB b (r.back (λy ey=>(LN i y ey).1) es (λc u hc f hu=>(hk i _ c u e hc f hu).2) (λa o n e=>(m a o n e).2) hi) (r.back (λy ey=>(LN j y ey).1) (LN j _ ej).2 (λc u hc f hu=>(hk j _ c u ej hc f hu).2) (λa o n e=>(m a o n e).2) hj)⟩
 · cases x with
   | tr t=>
     obtain⟨v,as,ev,tr,nd⟩:=h1;exact⟨v,as,by rw[es];exact ev,tr.mv m λb hb u f hu=>hk i _ b u e ⟨t,v,as,e0,ev,tr,hb⟩ f hu,nd⟩
   | al k p=>
     intro t et;obtain⟨ek,Sj⟩:=LN k _ et;obtain⟨v,w,t',e1,e2,at',ow⟩:=h1 t ek;obtain⟨⟨v',as,Pd,tr,_⟩,_,_⟩:=r k _ ek;rw[e1]at Pd;cases Pd;exact⟨v,w,t',by rw[Sj];exact e1,by rw[es];exact e2,at'.mv (λa o n e=>(m a o n e).2) tr λb hb u f hu=>(hk k _ b u et ⟨t,v,as,ek,e1,tr,hb⟩ f hu).2,ow⟩
 ·refine ho i x b e (r.back (λy ey=>(LN i y ey).1) es (λc u hc f hu=>(hk i x c u e hc f hu).2) (λa o n e=>(m a o n e).2) hb) k ok
theorem fz.f{M:Md}{H:Hp}{F:Addr->Prop}{σ:St}{ρ:En}{i:Nat}{b:Addr}(h:bO M H F σ ρ i b):F b/\∃u,H b=some u:=by
 obtain⟨t,v,as,e,ev,tr,hb⟩:=h;exact tr.fs b hb
structure aV(M:Md)(H:Hp)(F:Addr->Prop)(σ:St)(ρ:En):Prop where
 len:ρ.length=σ.length
 aX:∀a,F a->∃o,H a=some o
 sh:∀(i:Nat) d,ρ[i]? =some (.sh d)->∃v,σ[i]? =some (some v)/\Rep M H F d v
 ol:∀(i:Nat) ds,ρ[i]? =some (.ol ds)->∃a xs,σ[i]? =some (some (.ref a))/\F a/\H a=some (.lst xs)/\ag M H F ds xs
 od:∀(i:Nat) ks ds,ρ[i]? =some (.od ks ds)->∃a xs,σ[i]? =some (some (.ref a))/\F a/\H a=some (.dK (ks.zip xs))/\ks.length=xs.length/\ag M H F ds xs
 b4:∀(i j:Nat) a,bp ρ i->bp ρ j->σ[i]? =some (some (.ref a))->σ[j]? =some (some (.ref a))->i=j
 on:fz M H F σ ρ
section
variable{M:Md}{H H':Hp}{F F':Addr->Prop}{σ:St}{ρ:En}
theorem aV.same(r:aV M H F σ ρ)(h:ak H H'):aV M H' F σ ρ where
 len:=r.len
 aX a f:=let⟨o,e⟩:=r.aX a f;⟨o,h _ _ e⟩
 sh i d e:=let⟨v,e1,q⟩:=r.sh i d e;⟨v,e1,q.mv (.same h)⟩
 ol i ds e:=let⟨a,xs,e1,f,e2,q⟩:=r.ol i ds e;⟨a,xs,e1,f,h _ _ e2,q.mv (.same h)⟩
 od i ks ds e:=let⟨a,xs,e1,f,e2,l,q⟩:=r.od i ks ds e;⟨a,xs,e1,f,h _ _ e2,l,q.mv (.same h)⟩
 b4:=r.b4
 on:=r.on.mv (.same h) (λj Jp e=>⟨e,rfl⟩) (λj Jp b u e hb f hu=>⟨f,h _ _ hu⟩) λj Jp b e hb k ok=>(r.on j Jp e).2.1 b hb k ok
theorem get_set{α:Type}{l:List α}{i j:Nat}{x y:α}(h:(l.set i x)[j]? =some y):(i=j/\x=y/\i<l.length)\/(i≠j/\l[j]? =some y):=by
 by_cases e:i=j
 · subst e
   rw[List.getElem?_set_self']at h;cases q:l[i]? with
   |none=>rw[q]at h;cases h
   | some z=>
     rw[q]at h;obtain⟨hl,_⟩:=List.getElem?_eq_some_iff.mp q;simp at h;exact .inl ⟨rfl,h,hl⟩
 · rw[List.getElem?_set_ne e]at h
   exact .inr ⟨e,h⟩
theorem aV.oX{i:Nat}{d:D}{v:V}(r:aV M H F σ ρ)(h:Rep M H F d v):aV M H F (σ.set i (some v)) (ρ.set i (.sh d)) where
 len:=by simp[r.len]
 aX:=r.aX
 sh j e q:=by
   rcases get_set q with⟨rfl,hx,hl⟩|⟨C',q⟩
   · cases hx
     exact⟨v,by rw[List.getElem?_set_self (by rw[<-r.len];exact hl)],h⟩
   · obtain⟨w,e1,g⟩:=r.sh j e q
     exact⟨w,by rw[List.getElem?_set_ne C'];exact e1,g⟩
 ol j e q:=by
   rcases get_set q with⟨rfl,x,hl⟩|⟨C',q⟩
   ·cases x
   · obtain⟨a,xs,e1,g⟩:=r.ol j e q
     exact⟨a,xs,by rw[List.getElem?_set_ne C'];exact e1,g⟩
 od j k e q:=by
   rcases get_set q with⟨rfl,x,hl⟩|⟨C',q⟩
   ·cases x
   · obtain⟨a,xs,e1,g⟩:=r.od j k e q
     exact⟨a,xs,by rw[List.getElem?_set_ne C'];exact e1,g⟩
 b4 j k a oj ok ej ek:=by
   have nj:i≠j:=by
     rintro rfl;rcases oj with⟨ds,q⟩|⟨ks,ds,q⟩
     · rcases get_set q with⟨_,x,_⟩|⟨C',_⟩
       ·cases x
       ·exact C' rfl
     · rcases get_set q with⟨_,x,_⟩|⟨C',_⟩
       ·cases x
       ·exact C' rfl
   have nk:i≠k:=by
     rintro rfl;rcases ok with⟨ds,q⟩|⟨ks,ds,q⟩
     · rcases get_set q with⟨_,x,_⟩|⟨C',_⟩
       ·cases x
       ·exact C' rfl
     · rcases get_set q with⟨_,x,_⟩|⟨C',_⟩
       ·cases x
       ·exact C' rfl
   rw[List.getElem?_set_ne nj]at ej;rw[List.getElem?_set_ne nk]at ek;refine r.b4 j k a ?_ ?_ ej ek
   ·unfold bp at oj;simp only[List.getElem?_set_ne nj]at oj;exact oj
   ·unfold bp at ok;simp only[List.getElem?_set_ne nk]at ok;exact ok
 on := r.on.mv (λ_ _ n e=>⟨n,e⟩) (λj Jp e=>by
     rcases get_set e with⟨_,x,_⟩|⟨C',e⟩
     ·cases x
     ·exact⟨e,List.getElem?_set_ne C'⟩) (λj Jp b u e hb f hu=>⟨f,hu⟩) λj Jp b e hb k ok=>by
   have e0:ρ[j]? =some (.on Jp):=by
     rcases get_set e with⟨_,x,_⟩|⟨C',e⟩
     ·cases x
     ·exact e
   have nk:i≠k:=by
     rintro rfl;rcases ok with⟨ds,q⟩|⟨ks,ds,q⟩
     · rcases get_set q with⟨_,x,_⟩|⟨C',_⟩
       ·cases x
       ·exact C' rfl
     · rcases get_set q with⟨_,x,_⟩|⟨C',_⟩
       ·cases x
       ·exact C' rfl
   rw[List.getElem?_set_ne nk];refine(r.on j Jp e0).2.1 b hb k ?_;unfold bp at ok;simp only[List.getElem?_set_ne nk]at ok;exact ok
end
open L2 (aZ c9 bE R2 EP)
theorem av{α β:Type}{x:R α}{f:α->R β}{b:β}:x.bind f=.ok b↔∃a,x=.ok a/\f a=.ok b:=by
 cases x with
 |ok a=>simp
 |exc y=>simp
 |bad=>simp
def tP(M:Md)(f:Ex):TE:=λσ H Q=>∃ρ F d,aV M H F σ ρ/\f ρ=.ok d/\∀v H',ak H H'->Rep M H' F d v->Q v H'
def wC(M:Md)(c:aL):TT:=λσ H Q=>∃ρ F b,aV M H F σ ρ/\c ρ=.ok b/\∀H',ak H H'->Q b H'
def jP(M:Md)(f:En->R (List D)):TA:=λσ H Q=>∃ρ F ds,aV M H F σ ρ/\f ρ=.ok ds/\∀vs H',ak H H'->ag M H' F ds vs->Q vs H'
abbrev JE(X:Cx)(e:Expr)(f:Ex):Prop:=PE X e (tP (aB X) f)
abbrev JT(X:Cx)(e:Expr)(c:aL):Prop:=PT X e (wC (aB X) c)
abbrev JA(X:Cx)(es:List Expr)(f:En->R (List D)):Prop:=PA X es (jP (aB X) f)
theorem bz{X:Cx}{e:Expr}{t t':TE}(h:PE X e t')(hi:∀σ H Q,t σ H Q->t' σ H Q):PE X e t:=λpins s σ H Q I q=>h pins s σ H Q I (hi σ H Q q)
theorem jN{X:Cx}{e:Expr}{t t':TT}(h:PT X e t')(hi:∀σ H Q,t σ H Q->t' σ H Q):PT X e t:=λpins s σ H Q I q=>h pins s σ H Q I (hi σ H Q q)
theorem nN{X:Cx}{e:List Expr}{t t':TA}(h:PA X e t')(hi:∀σ H Q,t σ H Q->t' σ H Q):PA X e t:=λpos pins s σ H Q I q=>h pos pins s σ H Q I (hi σ H Q q)
theorem wD{X:Cx}{e:Expr}{t t':TT}(h:PW X e t')(hi:∀σ H Q,t σ H Q->t' σ H Q):PW X e t:=λwh pins s σ H Q I q=>h wh pins s σ H Q I (hi σ H Q q)
theorem ak.bR{H:Hp}{p:Addr}(h:H p=none)(o:HO):ak H (upd H p o):=λb u q=>by rw[L2.aE (L2.f9 q h)];exact q
section
variable{X:Cx}{M:Md}{H H':Hp}{F:Addr->Prop}{σ:St}{ρ:En}{pos:Pos}
theorem Cg{i:Nat}{d:D}(h:aa i ρ=.ok d):ρ[i]? =some (.sh d):=by
 unfold aa at h;split at h
 ·rename_i e;cases h;exact e
 ·cases h
theorem Ed(i:Nat){x:Str}(hN:X.N[i]? =some x:=by rfl)(hv:L2.cf X.env.scope x:=by first|exact Or.inl rfl|exact Or.inr (Or.inl rfl)|exact Or.inr (Or.inr rfl))(hd:(x==("__debug__":Str))=false:=by decide)
   (Jx:(x==("__classdict__":Str))=false:=by decide):JE X (.Name x pos) (aa i):=
 bz (L2.pv i hN hv hd Jx) λσ H Q ⟨ρ,F,d,r,e,q⟩=>by
   obtain⟨v,e1,rv⟩:=r.sh i d (Cg e);exact⟨v,e1,q v H (ak.refl H) rv⟩
theorem Ao{i:Int}{j:Nat}:JE X (.Constant (.int i) j pos) (eC (.int i)):=
 bz L2.Hl λσ H Q ⟨ρ,F,d,r,e,q⟩=>by cases e;exact q _ H (ak.refl H) (by simp[Rep])
theorem Au{b:Bool}{j:Nat}:JE X (.Constant (.bool b) j pos) (eC (.bl b)):=
 bz L2.Bf λσ H Q ⟨ρ,F,d,r,e,q⟩=>by cases e;exact q _ H (ak.refl H) (by simp[Rep])
theorem Fz{j:Nat}:JE X (.Constant .none j pos) (eC .aD):=
 bz L2.yI λσ H Q ⟨ρ,F,d,r,e,q⟩=>by cases e;exact q _ H (ak.refl H) (by simp[Rep])
theorem G4{x:Str}{j:Nat}:JE X (.Constant (.str x) j pos) (eC (.str x)):=
 bz L2.GS λσ H Q ⟨ρ,F,d,r,e,q⟩=>by cases e;exact q _ H (ak.refl H) (by simp[Rep])
theorem Cn{x:Str}{d:D}{v:V}{u:Value}(hg:L2.Gl X x)(hm:X.mg x=some u)(r:RelV v u)(hr:∀H F,Rep (aB X) H F d v)(hd:(x==("__debug__":Str))=false:=by decide):JE X (.Name x pos) (eC d):=
 bz (L2.Cw hg hm r hd) λσ H Q ⟨ρ,F,d',r,e,q⟩=>by cases e;exact q _ H (ak.refl H) (hr H F)
def cz(M:Md)(g:D->D->R D)(r:R2):Prop:=∀(F:Addr->Prop) (H:Hp) (x y:V) (a b d:D) (Q:VK),(∀p,F p->∃o,H p=some o)->Rep M H F a x->Rep M H F b y->g a b=.ok d->
 (∀v H',ak H H'->Rep M H' F d v->Q v H')->r x y H Q
def mQ(M:Md)(g:D->R D)(r:V->Hp->VK->Prop):Prop:=∀(F:Addr->Prop) (H:Hp) (x:V) (a d:D) (Q:VK),(∀p,F p->∃o,H p=some o)->Rep M H F a x->g a=.ok d->
 (∀v H',ak H H'->Rep M H' F d v->Q v H')->r x H Q
def hW(M:Md)(g:List D->R D)(r:List V->Hp->VK->Prop):Prop:=∀(F:Addr->Prop) (H:Hp) (xs:List V) (as:List D) (d:D) (Q:VK),(∀p,F p->∃o,H p=some o)->ag M H F as xs->g as=.ok d->
 (∀v H',ak H H'->Rep M H' F d v->Q v H')->r xs H Q
theorem ph{g:D->D->R D}{r:R2}(hg:cz M g r){fa fb:Ex}{Q:VK}(h:tP M (e2 g fa fb) σ H Q):L2.kL r (tP M fa) (tP M fb) σ H Q:=by
 obtain⟨ρ,F,d,hr,e,q⟩:=h;obtain⟨a,ea,e⟩:=av.mp e;obtain⟨b,eb,e⟩:=av.mp e;refine⟨ρ,F,a,hr,ea,λx H1 s1 rx=>⟨ρ,F,b,hr.same s1,eb,λy H2 s2 ry=>?_⟩⟩;exact hg F H2 x y a b d Q ((hr.same s1).same s2).aX (rx.mv (.same s2)) ry e λv H3 s3 rv=>q v H3 (s1.trans (s2.trans s3)) rv
theorem CV{op:Operator}{g:D->D->R D}{r:R2}{a b:Expr}{fa fb:Ex}(ho:aZ X (binaryOp op) r)(hg:cz (aB X) g r)(ha:JE X a fa)(hb:JE X b fb):JE X (.BinOp a op b pos) (e2 g fa fb):=
 bz (L2.rB ho ha hb) λσ H Q h=>ph hg h
theorem yf{op:CmpOp}{g:D->D->R D}{r:R2}{a b:Expr}{fa fb:Ex}(ho:aZ X (compareOp op) r)(hg:cz (aB X) g r)(ha:JE X a fa)(hb:JE X b fb)(hm:behindInMarks op b=false):JE X (.Compare a [op] [b] pos) (e2 g fa fb):=
 bz (L2.GC ho ha hb hm) λσ H Q h=>ph hg h
theorem FR{g:D->R D}{r:V->Hp->VK->Prop}(hg:mQ M g r){fa:Ex}{Q:VK}(h:tP M (e1 g fa) σ H Q):L2.vO r (tP M fa) σ H Q:=by
 obtain⟨ρ,F,d,hr,e,q⟩:=h;obtain⟨a,ea,e⟩:=av.mp e;exact⟨ρ,F,a,hr,ea,λx H1 s1 rx=>hg F H1 x a d Q (hr.same s1).aX rx e λv H3 s3 rv=>q v H3 (s1.trans s3) rv⟩
theorem yg{op:UnaryOp}{g:D->R D}{r:V->Hp->VK->Prop}{a:Expr}{fa:Ex}(ho:c9 X (unaryOp op) r)(hg:mQ (aB X) g r)(ha:JE X a fa):JE X (.UnaryOp op a pos) (e1 g fa):=
 bz (L2.BV ho ha) λσ H Q h=>FR hg h
theorem br{i:Int}{v:V}(h:Rep M H F (.int i) v):v=.int i:=by simpa only[Rep] using h
theorem gD{i:Bool}{v:V}(h:Rep M H F (.bl i) v):v=.bl i:=by simpa only[Rep] using h
theorem fL{i:Str}{v:V}(h:Rep M H F (.str i) v):v=.str i:=by simpa only[Rep] using h
theorem kS{v:V}(h:Rep M H F .aD v):v=.aD:=by simpa only[Rep] using h
theorem dN{i:Int}:Rep M H F (.int i) (.int i):=by simp only[Rep]
theorem eE{i:Bool}:Rep M H F (.bl i) (.bl i):=by simp only[Rep]
theorem j9{i:Str}:Rep M H F (.str i) (.str i):=by simp only[Rep]
theorem u5:Rep M H F .aD .aD:=by simp only[Rep]
theorem vH:cz M oLt (L2.iq λi j=>.bl (decide (i<j))):=by
 intro F H x y a b d Q tr ra rb e q;unfold oLt at e;split at e
 · cases e
   exact⟨_,_,br ra,br rb,q _ _ (ak.refl _) eE⟩
 ·cases e
theorem xQ:cz M je (L2.iq λi j=>.bl (decide (j<i))):=by
 intro F H x y a b d Q tr ra rb e q;unfold je at e;split at e
 · cases e
   exact⟨_,_,br ra,br rb,q _ _ (ak.refl _) eE⟩
 ·cases e
theorem bN:cz M oMod (L2.rI (λ_ j=>0<j) λi j=>.int (i % j)):=by
 intro F H x y a b d Q tr ra rb e q;unfold oMod at e;split at e
 · split at e
   · cases e
     exact⟨_,_,br ra,br rb,by assumption,q _ _ (ak.refl _) dN⟩
   ·cases e
 ·cases e
theorem nc:mQ M gq (L2.rU λi=>.int (-i)):=by
 intro F H x a d Q tr ra e q;unfold gq at e;split at e
 · cases e
   exact⟨_,br ra,q _ _ (ak.refl _) dN⟩
 ·cases e
end
section
variable{X:Cx}{M:Md}{H H':Hp}{F:Addr->Prop}{σ:L2.St}{ρ:En}{pos:Pos}{pins:List (Addr×Obj)}{s:Shared}
theorem jg{a:Addr}{xs:List V}(I:Inv X pins σ H s)(h:fY (aB X) H F a xs):∃(aj:List Value) (n:Nat) (sl:Array (Option Value)),Vals xs aj/\s.heap.get? a=some {cls:=.type "list",data:=.seq aj.toArray n,slots:=sl}/\xs.length<=sizeLine:=by
 rcases h with⟨_,h⟩|⟨o,aj,n,hk,h1,h2,h3,hz,r⟩
 · obtain⟨z,aj,n,r,e⟩:=h.ok I.aH
   exact⟨aj,n, #[],r,e,z⟩
 · obtain⟨c,dd,dt,sl⟩:=o
   simp only at h1 h2 h3;subst h1 h2 h3;refine⟨aj.toList,n,sl,r,by simpa using I.dy a _ hk,?_⟩
   have e:=r.length;simp only[Array.length_toList]at e;omega
theorem BX(l:Addr)(items:Array Value)(n:Nat)(sl:Array (Option Value))(b:Addr)(Lk:Array Value)(n2:Nat)(Nv:Array (Option Value))(T4:items.size+Lk.size<=sizeLine):
   Meets (Builtin.«list.__add__» ⟨[.ref l,.ref b],[]⟩) (λ_ R s=>s.heap.get? l=some {cls:=.type "list",dict:=none,data:=.seq items n,slots:=sl}/\s.heap.get? b=some {cls:=.type "list",dict:=none,data:=.seq Lk n2,slots:=Nv}/\R (.ok (.ret (Value.ref s.heap.objs.size))) {s with heap:=s.heap.push {cls:=Value.type "list",data:=Data.seq (items++Lk)},toks:=s.toks}):=
 .of_wp λprog w A R s h=>by obtain⟨hp,g,d,tk,os⟩:=s;obtain⟨hl,hb,h⟩:=h;have f1:=AutoSeq1.idx_int;have f2:=AutoSeq1.sub_tuple_tuple;have f3:=AutoSeq1.sub_list_list;have f4:=AutoSeq1.sub_tuple_list;have f5:=AutoSeq1.sub_list_tuple;wp_walk using AutoSeq1.wpAny_loadPart' hl,AutoSeq1.wpAny_loadPart' hb;exact⟨_,rfl,h⟩
theorem l8{a:Addr}{xs:List V}(I:Inv X pins σ H s)(h:dI (aB X) H F a xs):∃aj:List Value,Vals xs aj/\PyProof.Rows.IsTup s.heap a aj.toArray/\xs.length<=sizeLine:=I.tuple h.sq
noncomputable def wJ(M:Md):R2:=λx y H Q=>∃F l b xs zs,x=.ref l/\y=.ref b/\fY M H F l xs/\fY M H F b zs/\xs.length+zs.length<=sizeLine/\∀p,H p=none->Q (.ref p) (upd H p (.lst (xs++zs)))
theorem wN:aZ X (binaryOp .Add) (wJ (aB X)):=by
 intro pins s σ H x y v u Q I rx ry h;obtain⟨F,l,b,xs,zs,rfl,rfl,hH,hB,hz,q⟩:=h;cases rx;cases ry;obtain⟨aj,n,sl,r,e,z⟩:=jg I hH;obtain⟨L7,n2,Nv,r2,e2,z2⟩:=jg I hB;have h1:=r.length;have h2:=r2.length;refine concat_meets ⟨_,e,rfl⟩ ⟨_,e2,rfl⟩ noFill_list_add seq_list_add PySem.F.slot_list_add PySem.F.entry_list_add (PySem.F.args_list_add_2 _ _) (BX l aj.toArray n sl b L7.toArray n2 Nv (by rw[List.size_toArray,List.size_toArray];omega)) ⟨e,e2,?_⟩
 have ea:aj.toArray++L7.toArray=(aj++L7).toArray:=by simp
 rw[ea];exact⟨.ref _,_,I.wA (t':=s.toks) (r.append r2) (by rw[List.length_append];omega),rfl,q _ I.fresh⟩
noncomputable def vK(M:Md):R2:=λx y H Q=>(L2.iq λi j=>.int (i+j)) x y H Q\/(∃i j,x=.str i/\y=.str j/\i.length+j.length<=sizeLine/\Q (.str (i++j)) H)\/wJ M x y H Q\/L2.wu M.K x y H Q
theorem b9:aZ X (binaryOp .Add) (vK (aB X)):=L2.aZ.or L2.b9 (L2.aZ.or L2.FA (L2.aZ.or wN L2.GH))
theorem k7{p:Addr}(tr:∀p,F p->∃o,H p=some o)(h:H p=none):¬F p:=λf=>by obtain⟨o,e⟩:=tr p f;rw[h]at e;cases e
theorem iQ{p:Addr}{ds:List D}{xs:List V}(tr:∀p,F p->∃o,H p=some o)(h:H p=none)(r:ag M H F ds xs):Rep M (upd H p (.lst xs)) F (.lst ds) (.ref p):=by
 simp only[Rep];exact⟨p,xs,rfl,.inl ⟨k7 tr h,.inl L2.bf⟩,r.mv (.same (ak.bR h _))⟩
theorem pk{p:Addr}{ds:List D}{xs:List V}(tr:∀p,F p->∃o,H p=some o)(h:H p=none)(r:ag M H F ds xs):Rep M (upd H p (.tup xs)) F (.tup ds) (.ref p):=by
 simp only[Rep];exact⟨p,xs,rfl,.inl ⟨k7 tr h,.inl L2.bf⟩,r.mv (.same (ak.bR h _))⟩
theorem cw:cz M bj (vK M):=by
 intro F H x y a b d Q tr ra rb e q;unfold bj at e;split at e
 · cases e
   exact .inl ⟨_,_,br ra,br rb,q _ _ (ak.refl _) dN⟩
 · split at e
   · cases e
     exact .inr (.inl ⟨_,_,fL ra,fL rb,by assumption,q _ _ (ak.refl _) j9⟩)
   ·cases e
 · split at e
   · rename_i hz
     cases e;simp only[Rep]at ra rb;obtain⟨l,xs,rfl,h1,r1⟩:=ra;obtain⟨m,zs,rfl,h2,r2⟩:=rb;refine .inr (.inr (.inl ⟨F,l,m,xs,zs,rfl,rfl,h1,h2,by rw[<-r1.length, <-r2.length];exact hz,λp hp=>q _ _ (ak.bR hp _) (iQ tr hp (r1.append r2))⟩))
   ·cases e
 · split at e
   · rename_i hz
     cases e;simp only[Rep]at ra rb;obtain⟨l,xs,rfl,h1,r1⟩:=ra;obtain⟨m,zs,rfl,h2,r2⟩:=rb;have l1:=r1.length;have l2:=r2.length;refine .inr (.inr (.inr ⟨l,m,xs,zs,rfl,rfl,h1.sq,h2.sq,?_,by rw[<-l1, <-l2];exact hz.2,λe0=>?_,λ_ p hp=>q _ _ (ak.bR hp _) (pk tr hp (r1.append r2))⟩))
     · intro e0
       subst e0;have:=hz.1;rename_i as bs;cases as with
       |nil=>cases this
       |cons _ _=>simp at l1
     · subst e0
       rename_i as bs;cases bs with
       |cons _ _=>simp at l2
       | nil=>
         refine q _ _ (ak.refl _) ?_;rw[List.append_nil];simp only[Rep];exact⟨l,xs,rfl,h1,r1⟩
   ·cases e
 ·cases e
theorem FG{j:Nat}{p2:Pos}{a:Expr}{fa:Ex}(ha:JE X a fa):JE X (.Compare a [.Is] [.Constant .none j p2] pos) (e1 cR fa):=
 bz (L2.zN (L2.sW ha)) λσ H Q ⟨ρ,F,d,hr,e,q⟩=>by
   obtain⟨a,ea,e⟩:=av.mp e;refine⟨ρ,F,a,hr,ea,λx H1 s1 rx=>?_⟩;cases e;refine q _ _ s1 ?_;cases a<;>simp only[Rep]at rx
   all_goals first
     |(subst rx;exact eE)
     |(obtain⟨p,xs,rfl,_⟩:=rx;exact eE)
theorem GA{op:BoolOp}{a:Expr}{fa:Ex}(h:JE X a fa):JE X (.BoolOp op [a] pos) fa:=L2.GX h
theorem Di{a b:Expr}{rest:List Expr}{fa fb:Ex}(ha:JE X a fa)(hb:JE X (.BoolOp .And (b::rest) pos) fb):JE X (.BoolOp .And (a::b::rest) pos) (jq fa fb):=
 bz (L2.DL ha hb) λσ H Q ⟨ρ,F,d,hr,e,q⟩=>by
   obtain⟨a,ea,e⟩:=av.mp e;refine⟨ρ,F,a,hr,ea,λx H1 s1 rx=>?_⟩;split at e
   ·exact⟨true,gD rx,by rw[if_pos rfl];exact⟨ρ,F,d,hr.same s1,e,λv H2 s2 rv=>q v H2 (s1.trans s2) rv⟩⟩
   · cases e
     exact⟨false,gD rx,by rw[if_neg (by decide)];exact q _ _ s1 eE⟩
   ·cases e
theorem zp{a:D}{x:V}{t:Bool}(r:Rep M H F a x)(e:truth a=.ok t):L2.rZ M.K x H t:=by
 cases a with
 |aD=>cases e;cases kS r;rfl
 |bl b=>cases e;cases gD r;rfl
 |int i=>cases e;cases br r;rfl
 | str z=>
   unfold truth at e;dsimp only at e;split at e
   · rename_i hz
     cases e;cases fL r;refine⟨hz,?_⟩;rw[Bool.eq_iff_iff];simp
   ·cases e
 | tup ds=>
   cases e;simp only[Rep]at r;obtain⟨p,xs,rfl,h,rs⟩:=r;refine .inr (.inl ⟨xs,h.sq,?_⟩);have:=rs.length;cases ds<;>cases xs<;>simp at this ⊢
 | lst ds=>
   cases e;simp only[Rep]at r;obtain⟨p,xs,rfl,h,rs⟩:=r;refine .inl ⟨xs,h.sq,?_⟩;have:=rs.length;cases ds<;>cases xs<;>simp at this ⊢
 |aN ks ds=>cases e
 |df _ _ _=>cases e
theorem Fb{a:Expr}{fa:Ex}(ha:JE X a fa)(he:∀whole,isTrue a X.env whole=(do let v <-whole;standAt a.pos;holding [v] (truthy v)):=by intro _;rfl):JT X a (tV fa):=
 jN (L2.zb ha he) λσ H Q ⟨ρ,F,b,hr,e,q⟩=>by
   obtain⟨a,ea,e⟩:=av.mp e;exact⟨ρ,F,a,hr,ea,λx H1 s1 rx=>⟨b,zp rx e,q H1 s1⟩⟩
def iD(g:D->D->R D):Prop:=∀a b d,g a b=.ok d->∃k,d=.bl k
theorem A4{op:CmpOp}{g:D->D->R D}{r:R2}{a b:Expr}{fa fb:Ex}(ho:aZ X (compareOp op) r)(hg:cz (aB X) g r)(hB:iD g)(ha:JE X a fa)(hb:JE X b fb)(hm:behindInMarks op b=false):JT X (.Compare a [op] [b] pos) (tV (e2 g fa fb)):=
 jN (L2.uE ho ha hb hm) λσ H Q ⟨ρ,F,t,hr,e,q⟩=>by
   obtain⟨d,ed,e⟩:=av.mp e;refine ph hg ⟨ρ,F,d,hr,ed,λv H1 s1 rv=>?_⟩;obtain⟨a,ea,ed⟩:=av.mp ed;obtain⟨b,eb,ed⟩:=av.mp ed;obtain⟨k,rfl⟩:=hB _ _ _ ed;cases e;exact⟨_,gD rv,q H1 s1⟩
theorem An{j:Nat}{p2:Pos}{a:Expr}{fa:Ex}(ha:JE X a fa):JT X (.Compare a [.Is] [.Constant .none j p2] pos) (tV (e1 cR fa)):=
 jN (L2.tM (L2.sW ha)) λσ H Q ⟨ρ,F,t,hr,e,q⟩=>by
   obtain⟨d,ed,e⟩:=av.mp e;obtain⟨a,ea,ed⟩:=av.mp ed;refine⟨ρ,F,a,hr,ea,λx H1 s1 rx=>⟨t,?_,q H1 s1⟩⟩;cases ed;cases e;cases a<;>simp only[Rep]at rx
   all_goals first
     |(subst rx;rfl)
     |(obtain⟨p,xs,rfl,_⟩:=rx;rfl)
theorem FT{j:Nat}{p2:Pos}{a:Expr}{fa:Ex}(ha:JE X a fa):JT X (.Compare a [.IsNot] [.Constant .none j p2] pos) (tV (e1 dB fa)):=
 jN (L2.tM (L2.Hx ha)) λσ H Q ⟨ρ,F,t,hr,e,q⟩=>by
   obtain⟨d,ed,e⟩:=av.mp e;obtain⟨a,ea,ed⟩:=av.mp ed;refine⟨ρ,F,a,hr,ea,λx H1 s1 rx=>⟨t,?_,q H1 s1⟩⟩;cases ed;cases e;cases a<;>simp only[Rep]at rx
   all_goals first
     |(subst rx;rfl)
     |(obtain⟨p,xs,rfl,_⟩:=rx;rfl)
theorem C6{a:Expr}{c:aL}(ha:JT X a c):JT X (.UnaryOp .Not a pos) (eY c):=
 jN (L2.GD ha) λσ H Q ⟨ρ,F,t,hr,e,q⟩=>by
   obtain⟨b,eb,e⟩:=av.mp e;cases e;exact⟨ρ,F,b,hr,eb,λH1 s1=>q H1 s1⟩
abbrev JW(X:Cx)(e:Expr)(c:aL):Prop:=PW X e (wC (aB X) c)
theorem yB{a:Expr}{c:aL}(ha:JT X a c):JW X (.BoolOp .And [a] pos) c:=L2.Fc ha
theorem C0{a:Expr}{c:aL}(ha:JT X a c):JW X (.BoolOp .Or [a] pos) c:=L2.Hn ha
theorem Av{a b:Expr}{rest:List Expr}{c c':aL}(ha:JT X a c)(hb:JW X (.BoolOp .And (b::rest) pos) c'):JW X (.BoolOp .And (a::b::rest) pos) (ba c c'):=
 wD (L2.Ar ha hb) λσ H Q ⟨ρ,F,t,hr,e,q⟩=>by
   obtain⟨b,eb,e⟩:=av.mp e;refine⟨ρ,F,b,hr,eb,λH1 s1=>?_⟩;split at e
   ·rename_i h;rw[if_pos h];exact⟨ρ,F,t,hr.same s1,e,λH2 s2=>q H2 (s1.trans s2)⟩
   ·rename_i h;rw[if_neg h];cases e;exact q H1 s1
theorem Hy{a b:Expr}{rest:List Expr}{c c':aL}(ha:JT X a c)(hb:JW X (.BoolOp .Or (b::rest) pos) c'):JW X (.BoolOp .Or (a::b::rest) pos) (ee c c'):=
 wD (L2.GW ha hb) λσ H Q ⟨ρ,F,t,hr,e,q⟩=>by
   obtain⟨b,eb,e⟩:=av.mp e;refine⟨ρ,F,b,hr,eb,λH1 s1=>?_⟩;split at e
   ·rename_i h;rw[if_pos h];cases e;exact q H1 s1
   ·rename_i h;rw[if_neg h];exact⟨ρ,F,t,hr.same s1,e,λH2 s2=>q H2 (s1.trans s2)⟩
theorem Fx{e:Expr}{c:aL}(h:JW X e c):JT X e c:=L2.PW.pt h
theorem E4{a:Expr}{fa:Ex}(ha:JE X a fa):JE X (.UnaryOp .Not a pos) (e1 lJ fa):=
 bz (L2.Gd ha) λσ H Q ⟨ρ,F,d,hr,e,q⟩=>by
   obtain⟨a,ea,e⟩:=av.mp e;refine⟨ρ,F,a,hr,ea,λx H1 s1 rx=>?_⟩;unfold lJ at e;split at e
   ·cases e;exact⟨_,gD rx,q _ _ s1 eE⟩
   ·cases e
theorem fQ:JA X [] (eList []):=nN L2.kY λσ H Q ⟨ρ,F,ds,hr,e,q⟩=>by cases e;exact q [] H (ak.refl H) ag.nil
theorem fm{e:Expr}{es:List Expr}{f:Ex}{fs:List Ex}(ha:JE X e f)(hr:JA X es (eList fs))(hs:starEach (e::es) X.env=(false,eval e X.env)::starEach es X.env:=by rfl):JA X (e::es) (eList (f::fs)):=
 nN (L2.jz ha hr hs) λσ H Q ⟨ρ,F,ds,hr,e,q⟩=>by
   obtain⟨a,ea,e⟩:=av.mp e;obtain⟨as,Pq,e⟩:=av.mp e;cases e;exact⟨ρ,F,a,hr,ea,λx H1 s1 rx=>⟨ρ,F,as,hr.same s1,Pq,λxs H2 s2 rs=>q _ H2 (s1.trans s2) (ag.cons (rx.mv (.same s2)) rs)⟩⟩
theorem iM:∀ {fs:List Ex} {ρ:En} {ds:List D},eList fs ρ=.ok ds->ds.length=fs.length
 |[],_,_,h=>by cases h;rfl
 | f::fs,_,_,h=>by
   obtain⟨a,_,h⟩:=av.mp h;obtain⟨as,h2,h⟩:=av.mp h;cases h;simp[iM h2]
theorem yl{es:List Expr}{fs:List Ex}{k:Nat}(h:JA X es (eList fs))(hl:fs.length<=1000:=by decide):JE X (.Tuple es k pos) (cn fs):=
 bz (L2.yu h) λσ H Q ⟨ρ,F,d,hr,e,q⟩=>by
   obtain⟨as,ea,e⟩:=av.mp e;cases e;refine⟨ρ,F,as,hr,ea,λxs H1 s1 rs=>⟨?_,λp hp=>q _ _ (s1.trans (ak.bR hp _)) (pk (hr.same s1).aX hp rs)⟩⟩;rw[<-rs.length,iM ea];exact Nat.le_trans hl (by decide)
theorem B5{es:List Expr}{fs:List Ex}(h:JA X es (eList fs))(hl:fs.length<=1000:=by decide):JE X (.List es pos) (bh fs):=
 bz (L2.qd h) λσ H Q ⟨ρ,F,d,hr,e,q⟩=>by
   obtain⟨as,ea,e⟩:=av.mp e;cases e;refine⟨ρ,F,as,hr,ea,λxs H1 s1 rs=>⟨?_,λp hp=>q _ _ (s1.trans (ak.bR hp _)) (iQ (hr.same s1).aX hp rs)⟩⟩;rw[<-rs.length,iM ea];exact Nat.le_trans hl (by decide)
theorem rV{pins:List (Addr×Obj)}{s:Shared}{p:Addr}{kvs:List (Key×V)}(I:Inv X pins σ H s)(e:H p=some (.dK kvs)):∃ob,Inv X pins σ (upd H p (.frz ob (.dK kvs))) s:=by
 obtain⟨z,y,vs,r,ob,es,ep,eo,c⟩:=I.aH p _ e;exact⟨ob,I.write (h':=s.heap) (t':=s.toks) (by rw[e];trivial) (.inl rfl) (λ_ _ _ q=>q) ⟨ob,eo⟩ ⟨eo,z,y,vs,r,ob,es,ep,eo,c⟩⟩
theorem qw{e:Expr}{t t':TE}(h:PE X e t')(hi:∀σ H Q,t σ H Q->t' σ H λv H'=>∃p kvs,v=.ref p/\H' p=some (.dK kvs)/\∀ob,Q v (upd H' p (.frz ob (.dK kvs)))):PE X e t:=by
 intro pins s σ H Q I q;refine L2.aJ (h pins s σ H _ I (hi σ H Q q)) λu s1 ⟨x,H1,I1,rx,p,kvs,ex,e1,q1⟩=>?_;obtain⟨ob,I2⟩:=rV I1 e1;exact⟨x,_,I2,rx,q1 ob⟩
theorem GI:JE X (.Dict [] [] pos) (cS [] []):=
 qw L2.rW λσ H Q ⟨ρ,F,d,hr,e,q⟩=>by
   cases e;intro p hp;refine⟨p,[],rfl,L2.bf,λob=>?_⟩;rw[L2.qJ];refine q _ _ (ak.bR hp _) ?_;simp only[Rep];exact⟨p,[],rfl,.inl ⟨k7 hr.aX hp,ob,L2.bf⟩,rfl,ag.nil⟩
end
section
variable{X:Cx}{M:Md}{H H':Hp}{F:Addr->Prop}{σ:L2.St}{ρ:En}{pos:Pos}{pins:List (Addr×Obj)}{s:Shared}
theorem tm{α β:Type}{xs:List α}{ys:List β}{i:Int}{x:α}(hl:xs.length=ys.length)(h:bY xs i=some x):∃j y,bJ ys.length i=some j/\xs[j]? =some x/\ys[j]? =some y/\bY ys i=some y:=by
 unfold bY at h ⊢;rw[hl]at h;cases e:bJ ys.length i with
 |none=>rw[e]at h;cases h
 | some j=>
   rw[e]at h;have hx:xs[j]? =some x:=h;obtain⟨hj,_⟩:=List.getElem?_eq_some_iff.mp hx;have hy:j<ys.length:=by omega
   exact⟨j,ys[j],rfl,hx,List.getElem?_eq_getElem hy,by simp[hy]⟩
theorem pP:cz M lX (L2.oE M.K):=by
 intro F H x y a b d Q tr ra rb e q;unfold lX at e;split at e
 · split at e
   · rename_i xs i _ v hv
     cases e;simp only[Rep]at ra;obtain⟨p,ys,rfl,h,rs⟩:=ra;obtain⟨j,y,_,h1,h2,h3⟩:=tm rs.length hv;obtain⟨z,hz,rz⟩:=rs.get h1;rw[h2]at hz;cases hz;exact .inl ⟨p,ys,_,y,rfl,br rb,h.sq,h3,q _ _ (ak.refl _) rz⟩
   ·cases e
 · split at e
   · rename_i xs i _ v hv
     cases e;simp only[Rep]at ra;obtain⟨p,ys,rfl,h,rs⟩:=ra;obtain⟨j,y,_,h1,h2,h3⟩:=tm rs.length hv;obtain⟨z,hz,rz⟩:=rs.get h1;rw[h2]at hz;cases hz;exact .inr (.inl ⟨p,ys,_,y,rfl,br rb,h.sq,h3,q _ _ (ak.refl _) rz⟩)
   ·cases e
 · split at e
   · split at e
     · rename_i hz _ c hc
       cases e;exact .inr (.inr ⟨_,_,c,fL ra,br rb,hz,hc,q _ _ (ak.refl _) j9⟩)
     ·cases e
   ·cases e
 ·cases e
theorem sA(n d:Nat)(o:Option Int):HT.aU n d o=aU n d o:=by cases o<;>rfl
theorem vG(xs:List V)(lo hi:Option Int):L2.gO xs lo hi=cut xs lo hi:=by unfold L2.gO cut;simp only[sA]
theorem ag.cut{ds:List D}{xs:List V}(lo hi:Option Int)(r:ag M H F ds xs):ag M H F (cut ds lo hi) (PL.cut xs lo hi):=by
 unfold PL.cut;rw[r.length];exact(r.drop _).take _
noncomputable def Hf(M:Md)(f:En->R (Option Int)):L2.TO:=λσ H Q=>∃ρ F o,aV M H F σ ρ/\f ρ=.ok o/\∀H',ak H H'->Q o H'
abbrev JO(X:Cx)(e:Option Expr)(f:Option Ex):Prop:=L2.PO X e (Hf (aB X) (mJ f))
theorem Fj:JO X none none:=λpins s σ H Q I ⟨ρ,F,o,hr,e,q⟩=>by
 cases e;exact L2.yP pins s σ H Q I (q H (ak.refl H))
theorem A1{e:Expr}{f:Ex}(h:JE X e f):JO X (some e) (some f):=λpins s σ H Q I ⟨ρ,F,o,hr,e,q⟩=>by
 obtain⟨a,ea,e⟩:=av.mp e;refine L2.EN h pins s σ H Q I ⟨ρ,F,a,hr,ea,λx H1 s1 rx=>?_⟩;split at e
 ·cases e;exact⟨_,br rx,q H1 s1⟩
 ·cases e
theorem DN{a:Expr}{lo hi:Option Expr}{fa:Ex}{fl fh:Option Ex}{p2:Pos}(ha:JE X a fa)(hl:JO X lo fl)(hh:JO X hi fh):JE X (.Subscript a (.Slice lo hi none p2) pos) (bK fa fl fh):=
 bz (L2.GP (L2.iS.or L2.CD L2.zT) ha hl hh) λσ H Q ⟨ρ,F,d,hr,e,q⟩=>by
   obtain⟨a,ea,e⟩:=av.mp e;obtain⟨l,el,e⟩:=av.mp e;obtain⟨h,eh,e⟩:=av.mp e;refine⟨ρ,F,a,hr,ea,λx H1 s1 rx=>⟨ρ,F,l,hr.same s1,el,λH2 s2=>⟨ρ,F,h,(hr.same s1).same s2,eh,λH3 s3=>?_⟩⟩⟩;have Pe:=rx.mv (.same (s2.trans s3));have tr:=(((hr.same s1).same s2).same s3).aX;have N9:=s1.trans (s2.trans s3);unfold m8 at e;split at e
   · cases e
     simp only[Rep]at Pe;obtain⟨p,xs,rfl,h1,rs⟩:=Pe;refine .inl ⟨p,xs,rfl,h1.sq,λb hb=>?_⟩;rw[vG];exact q _ _ (N9.trans (ak.bR hb _)) (iQ tr hb (rs.cut _ _))
   · split at e
     ·cases e
     · rename_i hw
       cases e;simp only[Rep]at Pe;obtain⟨p,xs,rfl,h1,rs⟩:=Pe;refine .inr ⟨p,xs,rfl,h1.sq,?_,λb hb=>?_⟩
       ·rw[sA,sA, <-rs.length];exact hw
       · rw[vG]
         exact q _ _ (N9.trans (ak.bR hb _)) (pk tr hb (rs.cut _ _))
   ·cases e
theorem ur{g:List D->R D}{r:List V->Hp->VK->Prop}(hg:hW M g r){fs:List Ex}{Q:VK}(h:tP M (bc g fs) σ H Q):L2.oy r (jP M (eList fs)) σ H Q:=by
 obtain⟨ρ,F,d,hr,e,q⟩:=h;obtain⟨as,ea,e⟩:=av.mp e;exact⟨ρ,F,as,hr,ea,λxs H1 s1 rs=>hg F H1 xs as d Q (hr.same s1).aX rs e λv H2 s2 rv=>q v H2 (s1.trans s2) rv⟩
@[simp] noncomputable def g1(g:D->R D):List D->R D
 |[a]=>g a
 |_=>.bad
@[simp] noncomputable def g2(g:D->D->R D):List D->R D
 |[a,b]=>g a b
 |_=>.bad
theorem uX(g:D->R D)(f:Ex):e1 g f=bc (g1 g) [f]:=by
 funext ρ;show(f ρ).bind g=((f ρ).bind λx=>R.bind (R.ok []) λxs=>R.ok (x::xs)).bind (g1 g);cases f ρ<;>rfl
theorem ag.one{d:D}{xs:List V}(r:ag M H F [d] xs):∃x,xs=[x]/\Rep M H F d x:=by
 simp only[ag]at r;obtain⟨x,t,rfl,h,rfl⟩:=r;exact⟨x,rfl,h⟩
theorem ag.two{d e:D}{xs:List V}(r:ag M H F [d,e] xs):∃x y,xs=[x,y]/\Rep M H F d x/\Rep M H F e y:=by
 simp only[ag]at r;obtain⟨x,t,rfl,h,y,u,rfl,h2,rfl⟩:=r;exact⟨x,y,rfl,h,h2⟩
theorem Cj{g:D->R D}{r:List V->Hp->VK->Prop}{x:Str}{id:String}{a:Expr}{fa:Ex}{p:Pos}(hc:bE X (.builtin id) r)(hg:hW (aB X) (g1 g) r)(MW:L2.Gl X x)(hm:X.mg x=none)(hv:bootBuiltins x=some (.builtin id))(ha:JE X a fa)
   (hs:starEach [a] X.env=(false,eval a X.env)::starEach [] X.env:=by rfl) (hn:x≠"__name__":=by decide) (Kf:(x==("__debug__":Str))=false:=by decide):JE X (.Call (.Name x p) [a] [] pos) (e1 g fa):=by
 rw[uX];exact bz (L2.qO hc MW hm hv (fm ha fQ hs) hn Kf hs) λσ H Q h=>ur hg h
theorem Gk{g:D->R D}{r:List V->Hp->VK->Prop}{x:Str}{T:String}{a:Expr}{fa:Ex}{p:Pos}(hc:bE X (.type T) r)(hg:hW (aB X) (g1 g) r)(MW:L2.Gl X x)(hm:X.mg x=none)(hv:bootBuiltins x=some (.type T))(ha:JE X a fa)
   (hs:starEach [a] X.env=(false,eval a X.env)::starEach [] X.env:=by rfl) (hn:x≠"__name__":=by decide) (Kf:(x==("__debug__":Str))=false:=by decide):JE X (.Call (.Name x p) [a] [] pos) (e1 g fa):=by
 rw[uX];exact bz (L2.qT hc MW hm hv (fm ha fQ hs) hn Kf hs) λσ H Q h=>ur hg h
def wz(M:Md):List V->Hp->VK->Prop:=λxs H Q=>(∃p ys,xs=[.ref p]/\(a8 M.K H p ys\/bo M.K H p ys)/\Q (.int ys.length) H)\/(∃z,xs=[.str z]/\z.length<=sizeLine/\Q (.int z.length) H)
theorem gj:bE X (.builtin "len") (wz (aB X)):=L2.bE.or L2.uI L2.Gz
theorem gw:hW M (g1 cU) (wz M):=by
 intro F H xs as d Q tr rs e q;unfold g1 at e;split at e
 · obtain⟨x,rfl,r⟩:=rs.one
   unfold cU at e;split at e
   · cases e
     simp only[Rep]at r;obtain⟨p,ys,rfl,h,rs⟩:=r;exact .inl ⟨p,ys,rfl,.inl h.sq,q _ _ (ak.refl _) (by rw[<-rs.length];exact dN)⟩
   · cases e
     simp only[Rep]at r;obtain⟨p,ys,rfl,h,rs⟩:=r;exact .inl ⟨p,ys,rfl,.inr h.sq,q _ _ (ak.refl _) (by rw[<-rs.length];exact dN)⟩
   · split at e
     · cases e
       exact .inr ⟨_,by rw[fL r],by assumption,q _ _ (ak.refl _) dN⟩
     ·cases e
   ·cases e
 ·cases e
theorem AA:hW M (g1 nJ) (λxs H Q=>(∃i,xs=[.int i]/\Q (.int i) H)\/∃k,xs=[.bl k]/\Q (.int (if k then 1 else 0)) H):=by
 intro F H xs as d Q tr rs e q;unfold g1 at e;split at e
 · obtain⟨x,rfl,r⟩:=rs.one
   unfold nJ at e;split at e
   ·cases e;exact .inl ⟨_,by rw[br r],q _ _ (ak.refl _) dN⟩
   ·cases e;exact .inr ⟨_,by rw[gD r],q _ _ (ak.refl _) dN⟩
   ·cases e
 ·cases e
theorem oh:hW M (g1 gH) (λxs H Q=>∃p ys,xs=[.ref p]/\(a8 M.K H p ys\/bo M.K H p ys)/\∀l,H l=none->Q (.ref l) (upd H l (.lst ys))):=by
 intro F H xs as d Q tr rs e q;unfold g1 at e;split at e
 · obtain⟨x,rfl,r⟩:=rs.one
   unfold gH at e;split at e
   · cases e
     simp only[Rep]at r;obtain⟨p,ys,rfl,h,rs⟩:=r;exact⟨p,ys,rfl,.inl h.sq,λl hl=>q _ _ (ak.bR hl _) (iQ tr hl rs)⟩
   · cases e
     simp only[Rep]at r;obtain⟨p,ys,rfl,h,rs⟩:=r;exact⟨p,ys,rfl,.inr h.sq,λl hl=>q _ _ (ak.bR hl _) (iQ tr hl rs)⟩
   ·cases e
 ·cases e
end
section
variable{X:Cx}{M:Md}{H H':Hp}{F:Addr->Prop}{σ:L2.St}{ρ:En}{pos:Pos}{pins:List (Addr×Obj)}{s:Shared}
mutual
noncomputable def pyd:D->PyData
 |.aD=>.none
 |.bl b=>.bool b
 |.int i=>.int i
 |.str x=>.str x
 |.tup xs=>.tuple (eJ xs)
 |.lst xs=>.list (eJ xs)
 |.aN _ _=>.dict []
 |.df _ _ _=>.dict []
noncomputable def eJ:List D->List PyData
 |[]=>[]
 |x::xs=>pyd x::eJ xs
end
mutual
theorem ml:∀(a b:D),lay a=true->lay b=true->PyData.eqv (pyd a) (pyd b)=bq a b
 |.aD,b,_,hb=>by cases b<;>first|rfl|(simp[lay]at hb)
 |.bl _,b,_,hb=>by cases b<;>first|rfl|(simp[lay]at hb)
 |.int _,b,_,hb=>by cases b<;>first|rfl|(simp[lay]at hb)
 | .str x,b,_,hb=>by
   cases b with
   |str y=>show(x==y)=decide (x=y);rw[Bool.eq_iff_iff,beq_iff_eq,decide_eq_true_eq]
   |_=>first|rfl|(simp[lay]at hb)
 | .tup xs,b,ha,hb=>by
   cases b with
   |tup ys=>simp only[lay]at ha hb;exact qj xs ys ha hb
   |_=>first|rfl|(simp[lay]at hb)
 | .lst xs,b,ha,hb=>by
   cases b with
   |lst ys=>simp only[lay]at ha hb;exact qj xs ys ha hb
   |_=>first|rfl|(simp[lay]at hb)
 |.aN _ _,_,ha,_=>by simp[lay]at ha
 |.df _ _ _,_,ha,_=>by simp[lay]at ha
theorem qj:∀(a b:List D),cN a=true->cN b=true->PyData.eqvAll (eJ a) (eJ b)=d4 a b
 |[],[],_,_=>rfl
 |[],_::_,_,_=>rfl
 |_::_,[],_,_=>rfl
 | x::xs,y::ys,ha,hb=>by
   simp only[cN,Bool.and_eq_true]at ha hb;show(PyData.eqv (pyd x) (pyd y)&&PyData.eqvAll (eJ xs) (eJ ys))=(bq x y&&d4 xs ys);rw[ml x y ha.1 hb.1,qj xs ys ha.2 hb.2]
end
mutual
theorem g6:∀a:D,lay a=true->(pyd a).canLay0=true
 |.aD,_=>rfl
 |.bl _,_=>rfl
 |.int _,_=>rfl
 |.str x,h=>by simp only[lay]at h;exact h
 |.tup xs,h=>by simp only[lay]at h;exact q9 xs h
 |.lst xs,h=>by simp only[lay]at h;exact q9 xs h
 |.aN _ _,h=>by simp[lay]at h
 |.df _ _ _,h=>by simp[lay]at h
theorem q9:∀a:List D,cN a=true->PyData.canLayAll0 (eJ a)=true
 |[],_=>rfl
 | x::xs,h=>by
   simp only[cN,Bool.and_eq_true]at h;show((pyd x).canLay0&&PyData.canLayAll0 (eJ xs))=true;rw[g6 x h.1,q9 xs h.2];rfl
end
mutual
theorem i7:∀a:D,lay a=true->(pyd a).depth=dep a
 |.aD,_=>rfl
 |.bl _,_=>rfl
 |.int _,_=>rfl
 |.str _,_=>rfl
 |.tup xs,h=>by simp only[lay]at h;show PyData.depthAll (eJ xs)+1=_;rw[su xs h];simp only[dep]
 |.lst xs,h=>by simp only[lay]at h;show PyData.depthAll (eJ xs)+1=_;rw[su xs h];simp only[dep]
 |.aN _ _,h=>by simp[lay]at h
 |.df _ _ _,h=>by simp[lay]at h
theorem su:∀a:List D,cN a=true->PyData.depthAll (eJ a)=fM a
 |[],_=>rfl
 | x::xs,h=>by
   simp only[cN,Bool.and_eq_true]at h;show max (pyd x).depth (PyData.depthAll (eJ xs))=_;rw[i7 x h.1,su xs h.2];simp only[fM]
end
mutual
theorem gP(I:Inv X pins σ H s):∀ {a:D} {x:V} {u:Value},lay a=true->Rep (aB X) H F a x->RelV x u->∃as,Reads s.heap u (pyd a) as
 |.aD,_,_,_,r,rx=>by cases kS r;cases rx;exact⟨_,.none⟩
 |.bl b,_,_,_,r,rx=>by cases gD r;cases rx;exact⟨_,.bool b⟩
 |.int i,_,_,_,r,rx=>by cases br r;obtain⟨t,rfl⟩:=rx;exact⟨_,.int i t⟩
 |.str z,_,_,_,r,rx=>by cases fL r;obtain⟨t,rfl⟩:=rx;exact⟨_,.str z t⟩
 | .tup ds,_,_,h,r,rx=>by
   simp only[lay]at h;simp only[Rep]at r;obtain⟨p,xs,rfl,t,rs⟩:=r;cases rx;obtain⟨aj,rv,⟨o,e,c,n,d⟩,_⟩:=l8 I t;obtain⟨as,ra⟩:=rH I h rs rv;exact⟨_,.tuple e c d (by simpa using ra)⟩
 | .lst ds,_,_,h,r,rx=>by
   simp only[lay]at h;simp only[Rep]at r;obtain⟨p,xs,rfl,t,rs⟩:=r;cases rx;obtain⟨aj,n,sl,rv,e,_⟩:=jg I t;obtain⟨as,ra⟩:=rH I h rs rv;exact⟨_,.list e rfl rfl (by simpa using ra)⟩
 |.aN _ _,_,_,h,_,_=>by simp[lay]at h
 |.df _ _ _,_,_,h,_,_=>by simp[lay]at h
theorem rH(I:Inv X pins σ H s):∀ {as:List D} {xs:List V} {us:List Value},cN as=true->ag (aB X) H F as xs->Vals xs us->∃bs,ReadsAll s.heap us (eJ as) bs
 |[],_,_,_,r,rv=>by simp only[ag]at r;subst r;cases rv;exact⟨_,.nil⟩
 | a::as,_,_,h,r,rv=>by
   simp only[cN,Bool.and_eq_true]at h;simp only[ag]at r;obtain⟨x,t,rfl,r1,r2⟩:=r;cases rv with
   | cons q w=>
     obtain⟨bs,h1⟩:=gP I h.1 r1 q;obtain⟨cs,h2⟩:=rH I h.2 r2 w;exact⟨_,.cons h1 h2⟩
end
theorem BG(l:Addr)(es:Array DictEntry)(n:Nat)(dd:Option Addr)(sl:Array (Option Value))(b:Str)(u:Tok):
   Meets (Builtin.«dict.__eq__» ⟨[.ref l,.str b u],[]⟩) (λ_ R s=>s.heap.get? l=some {cls:=.type "dict",dict:=dd,data:=.dict es n,slots:=sl}/\R (.ok (.ret .notImplemented)) s):=
 .of_wp λprog w A R s h=>by obtain⟨hp,g,d,tk,os⟩:=s;obtain⟨hl,h⟩:=h;have f1:=F.sub_str_dict;wp_walk;exact⟨_,rfl,h⟩
theorem GL(b:Str)(u:Tok)(l:Addr)(es:Array DictEntry)(n:Nat)(dd:Option Addr)(sl:Array (Option Value)):
   Meets (Builtin.«str.__eq__» ⟨[.str b u,.ref l],[]⟩) (λ_ R s=>s.heap.get? l=some {cls:=.type "dict",dict:=dd,data:=.dict es n,slots:=sl}/\R (.ok (.ret .notImplemented)) s):=
 .of_wp λprog w A R s h=>by obtain⟨hp,g,d,tk,os⟩:=s;obtain⟨hl,h⟩:=h;wp_walk using AutoSeq1.wpAny_loadPart' hl,wpAny_load hl;exact⟨_,rfl,h⟩
theorem Gq{A:Around}{l:Addr}{o:Obj}{es:Array DictEntry}{n:Nat}(b:Str)(u:Tok)(ho:s.heap.get? l=some o)(hc:o.cls=.type "dict")(hd:o.data=.dict es n)(hu:A.units<cLine):SeqAt.RcAt A s (.ref l) (.str b u) false:=λprog w E Q h=>by
 obtain⟨cls,dd,data,sl⟩:=o;simp only at hc hd;subst hc hd
 exact SeqAt.rc_eq_decline_or (k:=false) ⟨_,ho,rfl⟩ (typeIs_str s b u) (by decide) F.sub_str_dict F.slot_dict_eq F.slot_str_eq_refl
   (λ_ hq=>call_meets F.slot_dict_eq ⟨_,ho,rfl⟩ F.entry_dict_eq (F.args_dict_eq_2 _ _) (BG l es n dd sl b u) ⟨ho,hq⟩)
   (λ_ hq=>call_meets F.slot_str_eq_refl (typeIs_str s b u) F.entry_str_eq (F.args_str_eq_2 _ _) (GL b u l es n dd sl) ⟨ho,hq⟩)
   (λ_ hq=>wpAny_of_eq (rfl:isSame (.ref l) (.str b u)=pure false) hq) (.inr hu) h
theorem gz{a:Addr}{kvs:List (Key×V)}(I:Inv X pins σ H s)(h:er (aB X) H F a kvs):kvs.length<=sizeLine/\(a==sysModules)=false/\∃vs,L2.KV kvs vs/\s.heap.DictOf (L2.bx X.prog X.w) a vs:=by
 rcases h with⟨_,ob,h⟩|⟨o,es,ep,vs,h1,h2,h3,h4,h5,h6,h7,h8,h9⟩
 ·exact L2.qS I.aH (.inr ⟨ob,h⟩)
 ·exact⟨h8,h9,vs,h7,o,es,ep,I.dy a o h1,h2,h3,h4,h5,h6⟩
def vR(M:Md):R2:=λx y H Q=>∃F a b,Rep M H F a x/\Rep M H F b y/\cZ a b=true/\Q (.bl (bq a b)) H
def vN(M:Md):R2:=λx y H Q=>∃F a b,Rep M H F a x/\Rep M H F b y/\eS a b=true/\Q (.bl (!bq a b)) H
theorem str_beq(a b:Str):(a==b)=decide (a=b):=by rw[Bool.eq_iff_iff,beq_iff_eq,decide_eq_true_eq]
theorem Bj{A:Around}{a b:D}{x y:V}{u v:Value}(fa:flat a=true)(fb:flat b=true)(ra:Rep M H F a x)(rb:Rep M H F b y)(rx:RelV x u)(ry:RelV y v):SeqAt.RcAt A s u v (bq a b):=by
 cases a<;>(try cases fa)<;>cases b<;>(try cases fb)<;>simp only[Rep]at ra rb<;>subst ra<;>subst rb
 ·cases rx;cases ry;exact SeqAt.RcAt.none_none
 ·cases rx;cases ry;exact SeqAt.RcAt.none_bool _
 ·cases rx;obtain⟨t,rfl⟩:=ry;exact SeqAt.RcAt.none_int _ _
 ·cases rx;obtain⟨t,rfl⟩:=ry;exact SeqAt.RcAt.none_str _ _
 ·cases rx;cases ry;exact SeqAt.RcAt.bool_none _
 ·cases rx;cases ry;exact SeqAt.RcAt.bool_bool _ _
 ·cases rx;obtain⟨t,rfl⟩:=ry;exact SeqAt.RcAt.bool_int _ _ _
 ·cases rx;obtain⟨t,rfl⟩:=ry;exact SeqAt.RcAt.bool_str _ _ _
 ·obtain⟨t,rfl⟩:=rx;cases ry;exact SeqAt.RcAt.int_none _ _
 ·obtain⟨t,rfl⟩:=rx;cases ry;exact SeqAt.RcAt.int_bool _ _ _
 ·obtain⟨t,rfl⟩:=rx;obtain⟨t,rfl⟩:=ry;exact SeqAt.RcAt.int_int _ _ _ _
 ·obtain⟨t,rfl⟩:=rx;obtain⟨t,rfl⟩:=ry;exact SeqAt.RcAt.int_str _ _ _ _
 ·obtain⟨t,rfl⟩:=rx;cases ry;exact SeqAt.RcAt.str_none _ _
 ·obtain⟨t,rfl⟩:=rx;cases ry;exact SeqAt.RcAt.str_bool _ _ _
 ·obtain⟨t,rfl⟩:=rx;obtain⟨t,rfl⟩:=ry;exact SeqAt.RcAt.str_int _ _ _ _
 ·obtain⟨t,rfl⟩:=rx;obtain⟨t,rfl⟩:=ry;simp only[bq];rw[<-str_beq];exact SeqAt.RcAt.str_str _ _ _ _
theorem Bb{A:Around}{a b:D}{x y:V}{u v:Value}(fa:flat a=true)(fb:flat b=true)(ra:Rep M H F a x)(rb:Rep M H F b y)(rx:RelV x u)(ry:RelV y v):SeqAt.RcNeAt A s u v (!bq a b):=by
 cases a<;>(try cases fa)<;>cases b<;>(try cases fb)<;>simp only[Rep]at ra rb<;>subst ra<;>subst rb
 ·cases rx;cases ry;exact SeqAt.RcNeAt.none_none
 ·cases rx;cases ry;exact SeqAt.RcNeAt.none_bool _
 ·cases rx;obtain⟨t,rfl⟩:=ry;exact SeqAt.RcNeAt.none_int _ _
 ·cases rx;obtain⟨t,rfl⟩:=ry;exact SeqAt.RcNeAt.none_str _ _
 ·cases rx;cases ry;exact SeqAt.RcNeAt.bool_none _
 ·cases rx;cases ry;exact SeqAt.RcNeAt.bool_bool _ _
 ·cases rx;obtain⟨t,rfl⟩:=ry;exact SeqAt.RcNeAt.bool_int _ _ _
 ·cases rx;obtain⟨t,rfl⟩:=ry;exact SeqAt.RcNeAt.bool_str _ _ _
 ·obtain⟨t,rfl⟩:=rx;cases ry;exact SeqAt.RcNeAt.int_none _ _
 ·obtain⟨t,rfl⟩:=rx;cases ry;exact SeqAt.RcNeAt.int_bool _ _ _
 ·obtain⟨t,rfl⟩:=rx;obtain⟨t,rfl⟩:=ry;exact SeqAt.RcNeAt.int_int _ _ _ _
 ·obtain⟨t,rfl⟩:=rx;obtain⟨t,rfl⟩:=ry;exact SeqAt.RcNeAt.int_str _ _ _ _
 ·obtain⟨t,rfl⟩:=rx;cases ry;exact SeqAt.RcNeAt.str_none _ _
 ·obtain⟨t,rfl⟩:=rx;cases ry;exact SeqAt.RcNeAt.str_bool _ _ _
 ·obtain⟨t,rfl⟩:=rx;obtain⟨t,rfl⟩:=ry;exact SeqAt.RcNeAt.str_int _ _ _ _
 ·obtain⟨t,rfl⟩:=rx;obtain⟨t,rfl⟩:=ry;simp only[bq];rw[<-str_beq];exact SeqAt.RcNeAt.str_str _ _ _ _
theorem yk(ds:List D):((List.range (min ds.length 0)).all (λ_=>true)&&(ds.length==0))=bq (.tup ds) (.tup []):=by
 cases ds<;>simp
theorem uA{A:Around}{ds:List D}{x y:V}{u v:Value}(I:Inv X pins σ H s)(hu:A.units<cLine)(ra:Rep (aB X) H F (.tup ds) x)(rb:Rep (aB X) H F (.tup []) y)(rx:RelV x u)(ry:RelV y v):
   SeqAt.RcAt A s u v (bq (.tup ds) (.tup []))/\SeqAt.RcNeAt A s u v (!bq (.tup ds) (.tup [])):=by
 simp only[Rep]at ra rb;obtain⟨p,xs,rfl,h,rs⟩:=ra;obtain⟨p2,T',rfl,h2,Nf⟩:=rb;cases rx;cases ry;simp only[ag]at Nf;subst Nf;obtain⟨aj,rv,⟨o,e,c,n,d⟩,_⟩:=l8 I h;obtain⟨L7,Nw,⟨o2,e2,c2,n2,d2⟩,_⟩:=l8 I h2;cases Nw;have hl:aj.toArray.size=ds.length:=by rw[List.size_toArray, <-rv.length, <-rs.length]
 have z1:=SeqAt.RcAt.tuples (A:=A) (s:=s) (e:=λ_=>true) (l:=p) (b:=p2) ⟨o,e,c,n,d⟩ ⟨o2,e2,c2,n2,d2⟩ hu (λj _ h2=>by simp at h2)
 have z2:=SeqAt.RcNeAt.tuples (A:=A) (s:=s) (e:=λ_=>true) (l:=p) (b:=p2) ⟨o,e,c,n,d⟩ ⟨o2,e2,c2,n2,d2⟩ hu (λj _ h2=>by simp at h2)
 rw[<-yk];rw[hl]at z1 z2;exact⟨z1,z2⟩
theorem cE(hu:X.A.units+64<cLine):aZ X (compareOp .NotEq) (vN (aB X)):=by
 intro pins s σ H x y v u Q I rx ry h;obtain⟨F,a,b,ra,rb,ok,q⟩:=h;have fin:EP X pins σ Q (.bool (!bq a b)) s:=⟨.bl _,H,I,rfl,q⟩;unfold eS at ok;rw[Bool.or_eq_true,Bool.or_eq_true,Bool.and_eq_true]at ok;rcases ok with(⟨fa,fb⟩|t)|l
 ·exact Bb fa fb ra rb rx ry _ _ _ _ fin
 · unfold rE at t
   split at t
   ·exact(uA I (by omega) ra rb rx ry).2 _ _ _ _ fin
   ·cases t
 · rw[Bool.and_eq_true,Bool.and_eq_true,decide_eq_true_eq]at l
   obtain⟨⟨la,lb⟩,hd⟩:=l;obtain⟨as,h1⟩:=gP I la ra rx;obtain⟨bs,h2⟩:=gP I lb rb ry;refine SeqAt.compareNe_reads h1 h2 (g6 a la) (g6 b lb) (by rw[i7 a la,i7 b lb];omega) ?_
   rw[ml a b la lb];exact fin
theorem fO(hu:X.A.units+64<cLine):aZ X (compareOp .Eq) (vR (aB X)):=by
 intro pins s σ H x y v u Q I rx ry h;obtain⟨F,a,b,ra,rb,ok,q⟩:=h;have fin:EP X pins σ Q (.bool (bq a b)) s:=⟨.bl _,H,I,rfl,q⟩;unfold cZ at ok;rw[Bool.or_eq_true]at ok;rcases ok with ok|dc
 · unfold eS at ok
   rw[Bool.or_eq_true,Bool.or_eq_true,Bool.and_eq_true]at ok;rcases ok with(⟨fa,fb⟩|t)|l
   ·exact Bj fa fb ra rb rx ry _ _ _ _ fin
   · unfold rE at t
     split at t
     ·exact(uA I (by omega) ra rb rx ry).1 _ _ _ _ fin
     ·cases t
   · rw[Bool.and_eq_true,Bool.and_eq_true,decide_eq_true_eq]at l
     obtain⟨⟨la,lb⟩,hd⟩:=l;obtain⟨as,h1⟩:=gP I la ra rx;obtain⟨bs,h2⟩:=gP I lb rb ry;refine SeqAt.compareEq_reads h1 h2 (g6 a la) (g6 b lb) (by rw[i7 a la,i7 b lb];omega) ?_
     rw[ml a b la lb];exact fin
 · unfold sI at dc
   split at dc
   · cases fL rb
     obtain⟨t,rfl⟩:=ry;simp only[Rep]at ra;obtain⟨p,xs,rfl,h,_⟩:=ra;cases rx;obtain⟨_,_,vs,_,o,es,ep,e1,e2,e3,_⟩:=gz I h;exact Gq _ t e1 e2.1 e3 (by omega) _ _ _ _ fin
   ·cases dc
theorem fJ:cz M oEq (vR M):=by
 intro F H x y a b d Q tr ra rb e q;unfold oEq at e;split at e
 ·cases e;exact⟨F,a,b,ra,rb,by assumption,q _ _ (ak.refl _) eE⟩
 ·cases e
theorem cB:cz M a7 (vN M):=by
 intro F H x y a b d Q tr ra rb e q;unfold a7 at e;split at e
 ·cases e;exact⟨F,a,b,ra,rb,by assumption,q _ _ (ak.refl _) eE⟩
 ·cases e
theorem gn:iD oEq:=λa b d h=>by unfold oEq at h;split at h<;>cases h;exact⟨_,rfl⟩
theorem cD:iD a7:=λa b d h=>by unfold a7 at h;split at h<;>cases h;exact⟨_,rfl⟩
theorem va:iD oLt:=λa b d h=>by unfold oLt at h;split at h<;>cases h;exact⟨_,rfl⟩
theorem xw:iD je:=λa b d h=>by unfold je at h;split at h<;>cases h;exact⟨_,rfl⟩
theorem zF:bootBuiltins "isinstance"=some (.builtin "isinstance"):=by decide+kernel
theorem f6:bootBuiltins "len"=some (.builtin "len"):=by decide+kernel
theorem wZ:bootBuiltins "int"=some (.type "int"):=by decide+kernel
theorem EO:bootBuiltins "bool"=some (.type "bool"):=by decide+kernel
theorem iX:bootBuiltins "list"=some (.type "list"):=by decide+kernel
theorem Bn:bootBuiltins "tuple"=some (.type "tuple"):=by decide+kernel
theorem Dv:bootBuiltins "dict"=some (.type "dict"):=by decide+kernel
noncomputable def mf:Ty->String
 |.int=>"int"|.bool=>"bool"|.str=>"str"|.tuple=>"tuple"|.list=>"list"|.dict=>"dict"
theorem FY:bE X (.builtin "isinstance") (λxs H Q=>∃F d x b ty,xs=[x,.ty (mf ty)]/\Rep (aB X) H F d x/\dH ty d=.ok (.bl b)/\(∀c ns vs,d≠.df c ns vs)/\Q (.bl b) H):=by
 intro pins s σ H xs us Q I r h;obtain⟨F,d,x,b,ty,rfl,rd,e,ne,q⟩:=h;obtain⟨u,w,rfl,ru,Km⟩:=L2.vals2 r;cases (show w=Value.type (mf ty)from Km)
 have fin:∀tk,EP X pins σ Q (.bool b) {s with toks:=tk}:=λtk=>⟨.bl _,H,I.tok tk,rfl,q⟩;cases d with
 |aD=>cases kS rd;cases ru;cases ty<;>cases e<;>exact PySem.W.kia_one PySem.W.kitx_none I.dy True.intro rfl (λz=>nomatch z) fin
 |bl y=>cases gD rd;cases ru;cases ty<;>cases e<;>exact PySem.W.kia_one PySem.W.kitx_bool I.dy True.intro rfl (λz=>nomatch z) fin
 |int i=>cases br rd;obtain⟨t,rfl⟩:=ru;cases ty<;>cases e<;>exact PySem.W.kia_one PySem.W.kitx_int I.dy True.intro rfl (λz=>nomatch z) fin
 |str z=>cases fL rd;obtain⟨t,rfl⟩:=ru;cases ty<;>cases e<;>exact PySem.W.kia_one PySem.W.kitx_str I.dy True.intro rfl (λz=>nomatch z) fin
 | tup ds=>
   simp only[Rep]at rd;obtain⟨p,xs,rfl,h,_⟩:=rd;cases ru;obtain⟨aj,_,⟨o,h1,h2,_⟩,_⟩:=l8 I h;cases ty<;>cases e<;>exact PySem.W.kia_one PySem.W.kitx_tuple I.dy ⟨o,h1,h2⟩ rfl (λz=>nomatch z) fin
 | lst ds=>
   simp only[Rep]at rd;obtain⟨p,xs,rfl,h,_⟩:=rd;cases ru;obtain⟨aj,n,sl,_,h1,_⟩:=jg I h;cases ty<;>cases e<;>exact PySem.W.kia_one PySem.W.kitx_list I.dy ⟨_,h1,rfl⟩ rfl (λz=>nomatch z) fin
 | aN ks ds=>
   simp only[Rep]at rd;obtain⟨p,xs,rfl,h,_⟩:=rd;cases ru;obtain⟨_,_,vs,_,o,es,ep,e1,e2,e3,_⟩:=gz I h;cases ty<;>cases e<;>exact PySem.W.kia_one PySem.W.kitx_dict I.dy ⟨o,e1,e2.1⟩ rfl (λz=>nomatch z) fin
 |df c ns vs=>exact absurd rfl (ne _ _ _)
theorem E1{ty:Ty}{d r:D}(h:dH ty d=.ok r):∃b,r=.bl b:=by
 unfold dH at h;split at h<;>cases h<;>exact⟨_,rfl⟩
theorem xX(ty:Ty){a:Expr}{fa:Ex}{p p2:Pos}{T:Str}(ha:JE X a fa)(hg:L2.Gl X "isinstance")(hm:X.mg "isinstance"=none)(P5:L2.Gl X T)(P8:X.mg T=none)(QK:bootBuiltins T=some (.type (mf ty)))
   (hs:starEach [a,.Name T p2] X.env=(false,eval a X.env)::starEach [.Name T p2] X.env:=by rfl) (Kd:starEach [.Name T p2] X.env=(false,eval (.Name T p2) X.env)::starEach [] X.env:=by rfl)
   (Ql:T≠"__name__":=by decide) (QH:(T==("__debug__":Str))=false:=by decide):JE X (.Call (.Name "isinstance" p) [a,.Name T p2] [] pos) (e1 (dH ty) fa):=
 bz (L2.qO FY hg hm zF (L2.jz ha (L2.jz (L2.C2 (v:=.ty (mf ty)) P5 P8 QK rfl Ql QH) L2.kY Kd) hs) (by decide) (by decide) hs (by rw[Kd];rfl)) λσ H Q ⟨ρ,F,d,hr,e,q⟩=>by
   obtain⟨a,ea,e⟩:=av.mp e;obtain⟨b,rfl⟩:=E1 e;refine⟨ρ,F,a,hr,ea,λx H1 s1 rx=>⟨F,a,x,b,ty,rfl,rx,e,?_,q _ _ s1 eE⟩⟩;intro c ns vs h;subst h;cases ty<;>cases e
end
open L2 (PG cH TG)
structure Gf where
 g:Hp
 f:Addr->Prop
 p:Option (Bool×V)
noncomputable instance:CoeFun Gf (λ_=>Addr->Prop):=⟨Gf.f⟩
def Pin(F0:Gf)(σ:L2.St)(ρ:En):Prop:=∀y,F0.p=some y->∀t,ρ[y.1.toNat]? =some (.on (.tr t))->σ[y.1.toNat]? =some (some y.2)
theorem Pin.set{F0:Gf}{σ:L2.St}{ρ:En}{i:Nat}{s:Slot}{v:Option V}(h:Pin F0 σ ρ)(hs:∀t,s≠.on (.tr t)):Pin F0 (σ.set i v) (ρ.set i s):=λw hw t e=>by
 rcases get_set e with⟨_,x,_⟩|⟨C',e⟩
 ·exact absurd x (hs t)
 ·rw[List.getElem?_set_ne C'];exact h w hw t e
theorem Pin.oC{F0:Gf}{σ:L2.St}{ρ:En}{i:Nat}{s:Slot}(h:Pin F0 σ ρ)(hs:∀t,s≠.on (.tr t)):Pin F0 σ (ρ.set i s):=λw hw t e=>by
 rcases get_set e with⟨_,x,_⟩|⟨C',e⟩
 ·exact absurd x (hs t)
 ·exact h w hw t e
structure aT(M:Md)(G:Hp)(F0:Gf)(H:Hp)(F:Addr->Prop)(σ:L2.St)(ρ:En):Prop where
 rs:aV M H F σ ρ
 sm:ak G H
 sub:∀a,F0 a->F a
 dk:∀a,F0 a->∃o,G a=some o
 own:∀(i:Nat) a,bp ρ i->σ[i]? =some (some (.ref a))->G a=none
 dS:∀(i:Nat) Jp b,ρ[i]? =some (.on Jp)->bO M H F σ ρ i b->G b=none
 pin:Pin F0 σ ρ
def mx(M:Md)(G:Hp)(F0:Gf)(H:Hp)(F:Addr->Prop)(D:Ends):Fl->Prop
 |.next ρ'=>∀Jl H' F',Mv F H F' H'->aT M G F0 H' F' Jl ρ'->D.nx Jl H'
 |.brk ρ'=>∀Jl H' F',Mv F H F' H'->aT M G F0 H' F' Jl ρ'->D.bk Jl H'
 |.cont ρ'=>∀Jl H' F',Mv F H F' H'->aT M G F0 H' F' Jl ρ'->D.ct Jl H'
 |.ret d=>∀v H' F',Mv F H F' H'->ak G H'->(∀a,F0 a->F' a)->Rep M H' F' d v->D.rt v H'
 |.di d=>∀p H' F' xs ds,d=.lst ds->Mv F H F' H'->ak G H'->(∀a,F0 a->F' a)->H' p=none->ag M H' F' ds xs->D.rt (.ref p) (upd H' p (.lst xs))
 |.dD t=>∀v H' F1 F2 as,Mv F H F1 H'->ak G H'->(∀a,F0 a->F1 a)->(∀b∈as,G b=none)->as.Nodup->(∀b,F2 b↔F1 b\/b∈as)->ah M H' F2 t v as->D.rt v H'
 |.dR i ρ'=>∀Jl H' F' v,Mv F H F' H'->aT M G F0 H' F' Jl ρ'->Jl[i]? =some (some v)->D.rt v H'
def de(M:Md)(G:Hp)(F0:Gf)(f:Sm):TS:=λD σ H=>∃ρ F fl,aT M G F0 H F σ ρ/\f ρ=.ok fl/\mx M G F0 H F D fl
abbrev JS(X:Cx)(st:Stmt)(f:Sm):Prop:=∀F0:Gf,PS X st (de (aB X) F0.g F0 f)
abbrev cC(X:Cx)(TX:List Stmt)(f:Sm):Prop:=∀F0:Gf,bQ X TX (de (aB X) F0.g F0 f)
theorem cm{X:Cx}{e:Stmt}{t t':TS}(h:PS X e t')(hi:∀D σ H,t D σ H->t' D σ H):PS X e t:=λpins s σ H Q I q=>h pins s σ H Q I (hi Q σ H q)
theorem uL{X:Cx}{e:List Stmt}{t t':TS}(h:bQ X e t')(hi:∀D σ H,t D σ H->t' D σ H):bQ X e t:=λpins s σ H Q I q=>h pins s σ H Q I (hi Q σ H q)
theorem Mv.refl{F:Addr->Prop}{H:Hp}:Mv F H F H:=λ_ _ n e=>⟨n,e⟩
section
variable{X:Cx}{M:Md}{G H H':Hp}{F0:Gf}{F F':Addr->Prop}{σ:L2.St}{ρ:En}{pos:Pos}{DE:Ends}
theorem aT.same(r:aT M G F0 H F σ ρ)(h:ak H H'):aT M G F0 H' F σ ρ:=⟨r.rs.same h,r.sm.trans h,r.sub,r.dk,r.own,λi Jp b e hb=>r.dS i Jp b e (r.rs.on.back (λ_ e=>e) rfl (λa u _ _ hu=>h _ _ hu) (λa o _ e=>h _ _ e) hb),r.pin⟩
theorem mx.mv(m:Mv F H F' H'):∀ {fl:Fl},mx M G F0 H F DE fl->mx M G F0 H' F' DE fl
 |.next _,h=>λJl H2 F2 m2 r=>h Jl H2 F2 (m.trans m2) r
 |.brk _,h=>λJl H2 F2 m2 r=>h Jl H2 F2 (m.trans m2) r
 |.cont _,h=>λJl H2 F2 m2 r=>h Jl H2 F2 (m.trans m2) r
 |.ret _,h=>λJl H2 F2 m2 a b r=>h Jl H2 F2 (m.trans m2) a b r
 |.di _,h=>λp H2 F2 xs ds e m2 a b c r=>h p H2 F2 xs ds e (m.trans m2) a b c r
 |.dD _,h=>λv H2 F1 F2 as m2 a b c d e r=>h v H2 F1 F2 as (m.trans m2) a b c d e r
 |.dR _ _,h=>λJl H2 F' v m2=>h Jl H2 F' v (m.trans m2)
theorem xn:cC X [] (aw []):=λF0=>uL L2.DO λD σ H ⟨ρ,F,fl,r,e,q⟩=>by
 cases e;exact q σ H F Mv.refl r
theorem Ce:cC X [] bI:=xn
theorem ES{f g:Sm}{t u:TS}(hf:∀D σ H,de M G F0 f D σ H->t D σ H)(hg:∀D σ H,de M G F0 g D σ H->u D σ H)(D:Ends)(σ:L2.St)(H:Hp)(h:de M G F0 (tI f g) D σ H):L2.wM t u D σ H:=by
 obtain⟨ρ,F,fl,r,e,q⟩:=h;obtain⟨f1,e1,e⟩:=av.mp e;refine hf _ _ _ ⟨ρ,F,f1,r,e1,?_⟩;cases f1 with
 |next JN=>exact λLR H1 F1 m1 r1=>hg D LR H1 ⟨JN,F1,fl,r1,e,q.mv m1⟩
 |ret d=>cases e;exact q
 |brk d=>cases e;exact q
 |cont d=>cases e;exact q
 |di d=>cases e;exact q
 |dD d=>cases e;exact q
 |dR i ρ=>cases e;exact q
theorem Aj{st:Stmt}{rest:List Stmt}{f:Sm}{fs:List Sm}(h1:JS X st f)(h2:cC X rest (aw fs)):cC X (st::rest) (aw (f::fs)):=λF0=>
 uL (L2.HV (h1 F0) (h2 F0)) λD σ H h=>ES (λ_ _ _ h=>h) (λ_ _ _ h=>h) D σ H h
theorem Fe{st:Stmt}{f:Sm}(h:JS X st f):cC X [st] f:=λF0=>L2.AS (h F0)
theorem AO{c:Expr}{a b:List Stmt}{fc:aL}{fa fb:Sm}(hc:JT X c fc)(ha:cC X a fa)(hb:cC X b fb):JS X (.If c a b pos) (bM fc fa fb):=λF0=>
 cm (L2.yX hc (ha F0) (hb F0)) λD σ H ⟨ρ,F,fl,r,e,q⟩=>by
   obtain⟨t,et,e⟩:=av.mp e;refine⟨ρ,F,t,r.rs,et,λH1 s1=>?_⟩;split at e
   ·rename_i h;rw[if_pos h];exact⟨ρ,F,fl,r.same s1,e,q.mv (.same s1)⟩
   ·rename_i h;rw[if_neg h];exact⟨ρ,F,fl,r.same s1,e,q.mv (.same s1)⟩
theorem ER{a:Expr}{fa:Ex}(ha:JE X a fa):JS X (.Return (some a) pos) (b3 fa):=λF0=>
 cm (L2.jZ ha) λD σ H ⟨ρ,F,fl,r,e,q⟩=>by
   obtain⟨d,ed,e⟩:=av.mp e;cases e;exact⟨ρ,F,d,r.rs,ed,λv H1 s1 rv=>q v H1 F (.same s1) (r.sm.trans s1) r.sub rv⟩
def pJ(M:Md)(G:Hp)(F0:Gf)(g:bA):TG:=λv σ H Q=>∃ρ F d ρ',aT M G F0 H F σ ρ/\Rep M H F d v/\g d ρ=.ok ρ'/\∀Jl,aT M G F0 H F Jl ρ'->Q Jl H
noncomputable def qC(M:Md)(G:Hp)(F0:Gf)(g:List D->En->R En):L2.gd:=λvs σ H Q=>∃ρ F ds ρ',aT M G F0 H F σ ρ/\ag M H F ds vs/\g ds ρ=.ok ρ'/\∀Jl,aT M G F0 H F Jl ρ'->Q Jl H
abbrev JG(X:Cx)(e:Expr)(g:bA):Prop:=∀F0,PG X e (pJ (aB X) F0.g F0 g)
abbrev ke(X:Cx)(es:List Expr)(g:List D->En->R En):Prop:=∀F0,cH X es (qC (aB X) F0.g F0 g)
theorem xc{X:Cx}{e:Expr}{t t':TG}(h:PG X e t')(hi:∀v σ H Q,t v σ H Q->t' v σ H Q):PG X e t:=λpins s σ H x u Q I rx q=>h pins s σ H x u Q I rx (hi x σ H Q q)
theorem vB{X:Cx}{e:List Expr}{t t':L2.gd}(h:cH X e t')(hi:∀v σ H Q,t v σ H Q->t' v σ H Q):cH X e t:=λpins s σ H x u Q I rx q=>h pins s σ H x u Q I rx (hi x σ H Q q)
theorem bp.d8{ρ:En}{i j:Nat}{d:D}(h:bp (ρ.set i (.sh d)) j):i≠j/\bp ρ j:=by
 rcases h with⟨ds,q⟩|⟨ks,ds,q⟩
 · rcases get_set q with⟨_,x,_⟩|⟨C',q⟩
   ·cases x
   ·exact⟨C',.inl ⟨ds,q⟩⟩
 · rcases get_set q with⟨_,x,_⟩|⟨C',q⟩
   ·cases x
   ·exact⟨C',.inr ⟨ks,ds,q⟩⟩
theorem aT.oX{i:Nat}{d:D}{v:V}(r:aT M G F0 H F σ ρ)(h:Rep M H F d v):aT M G F0 H F (σ.set i (some v)) (ρ.set i (.sh d)) where
 rs:=r.rs.oX h
 sm:=r.sm
 sub:=r.sub
 dk:=r.dk
 own j a o e:=by
   obtain⟨ne,o⟩:=o.d8;rw[List.getElem?_set_ne ne]at e;exact r.own j a o e
 dS j Jp b e hb:=by
   rcases get_set e with⟨_,x,_⟩|⟨C',e⟩
   ·cases x
   ·exact r.dS j Jp b e (r.rs.on.back (λy ey=>by rw[List.getElem?_set_ne C']at ey;exact ey) (List.getElem?_set_ne C') (λa u _ _ hu=>hu) (λ_ _ _ e=>e) hb)
 pin:=r.pin.set λ_ h=>nomatch h
theorem D0(i:Nat){x:Str}(hN:X.N.Nodup)(hi:X.N[i]? =some x:=by rfl)(hx:L2.Loc X.env.scope x:=by exact Or.inl rfl)(hf:X.fn x=true\/X.env.scope.names.lookup x=some .local:=by first|exact .inl rfl|exact .inr rfl):JG X (.Name x pos) (az i):=λF0=>
 xc (L2.HC hN hi hx hf) λv σ H Q ⟨ρ,F,d,ρ',r,rv,e,q⟩=>by
   cases e;exact q _ (r.oX rv)
theorem E9:ke X [] (c6 []):=λF0=>
 vB L2.Cr λvs σ H Q ⟨ρ,F,ds,ρ',r,rv,e,q⟩=>by
   cases ds with
   |nil=>cases e;simp only[ag]at rv;exact⟨rv,q _ r⟩
   |cons _ _=>cases e
theorem Du{is:List Nat}{i:Nat}{t:TG}{u:L2.gd}(ht:∀v σ H Q,pJ M G F0 (az i) v σ H Q->t v σ H Q)(hu:∀v σ H Q,qC M G F0 (c6 is) v σ H Q->u v σ H Q)(vs:List V)(σ:L2.St)(H:Hp)(Q:L2.St->Hp->Prop)
   (h:qC M G F0 (c6 (i::is)) vs σ H Q):L2.t4 t u vs σ H Q:=by
 obtain⟨ρ,F,ds,ρ',r,rv,e,q⟩:=h;cases ds with
 |nil=>cases e
 | cons d ds=>
   simp only[ag]at rv;obtain⟨x,xs,rfl,rx,Tj⟩:=rv;refine⟨x,xs,rfl,ht _ _ _ _ ⟨ρ,F,d,_,r,rx,rfl,λLR r1=>hu _ _ _ _ ⟨_,F,ds,ρ',r1,Tj,e,q⟩⟩⟩
theorem BL(i:Nat){is:List Nat}{e:Expr}{es:List Expr}(h1:JG X e (az i))(h2:ke X es (c6 is))(hs:(assignEach (e::es) X.env).map (·.2)=assign e X.env::(assignEach es X.env).map (·.2):=by rfl):ke X (e::es) (c6 (i::is)):=λF0=>
 vB (L2.DC (h1 F0) (h2 F0) hs) λvs σ H Q h=>Du (λ_ _ _ _ h=>h) (λ_ _ _ _ h=>h) vs σ H Q h
theorem pE:∀ {is:List Nat} {ds:List D} {ρ ρ':En},c6 is ds ρ=.ok ρ'->ds.length=is.length
 |[],[],_,_,_=>rfl
 |_::_,_::_,_,_,h=>by simp only[c6]at h;simp[pE h]
 |[],_::_,_,_,h=>by cases h
 |_::_,[],_,_,h=>by cases h
theorem vP{is:List Nat}{es:List Expr}{k:Nat}(hc:X.calm=true)(h:ke X es (c6 is))(hn:(assignEach es X.env).length=is.length:=by rfl)(Mm:(assignEach es X.env).findIdx? (·.1)=none:=by rfl):JG X (.Tuple es k pos) (hV is):=λF0=>
 xc (L2.FF hc (h F0) hn Mm) λv σ H Q ⟨ρ,F,d,ρ',r,rv,e,q⟩=>by
   unfold hV at e;split at e
   · rename_i ds
     simp only[Rep]at rv;obtain⟨a,xs,rfl,h1,rs⟩:=rv;exact⟨a,xs,rfl,h1.sq,by rw[<-rs.length];exact pE e,ρ,F,ds,ρ',r,rs,e,q⟩
   ·cases e
theorem EI{tg e:Expr}{fa:Ex}{g:bA}(ha:JE X e fa)(hg:JG X tg g)(hs:swapsWithSole [tg] e pos.line X.env=pure false:=by rfl)(hw:swappedStores [tg] e X.env=pure none:=by rfl)(h1:(assignEach [tg] X.env).map (·.2)=[assign tg X.env]:=by rfl):JS X (.Assign [tg] e pos) (aK g fa):=λF0=>
 cm (L2.pW ha (hg F0) hs hw h1) λD σ H ⟨ρ,F,fl,r,e,q⟩=>by
   obtain⟨d,ed,e⟩:=av.mp e;obtain⟨ρ',eg,e⟩:=av.mp e;cases e;exact⟨ρ,F,d,r.rs,ed,λv H1 s1 rv=>⟨ρ,F,d,ρ',r.same s1,rv,eg,λJl r'=>q Jl H1 F (.same s1) r'⟩⟩
def Gives(M:Md)(J:L2.It)(H1:Hp)(F1:Addr->Prop)(ds:List D):Prop:=∀H F,Mv F1 H1 F H->(∀p,F p->∃o,H p=some o)->
 (∀i d,ds[i]? =some d->J.go i H/\∀x H',J.lB i H x H'->ak H H'/\Rep M H' F d x)/\J.stop ds.length H
def FW(M:Md)(f:En->R (List D)):TI:=λσ H Rr=>∃ρ F ds,aV M H F σ ρ/\f ρ=.ok ds/\∀J H',ak H H'->Gives M J H' F ds->Rr J H'
abbrev JI(X:Cx)(tg e:Expr)(f:bB):Prop:=L2.PI X tg e (FW (aB X) f)
theorem k8{X:Cx}{tg e:Expr}{t t':TI}(h:L2.PI X tg e t')(hi:∀σ H Q,t σ H Q->t' σ H Q):L2.PI X tg e t:=λpins s σ H Q I q=>h pins s σ H Q I (hi σ H Q q)
theorem DK{J:L2.It}{tg:bA}{body:Sm}{g:TG}{tb:TS}(hg:∀v σ H Q,pJ M G F0 tg v σ H Q->g v σ H Q)(hb:∀D σ H,de M G F0 body D σ H->tb D σ H)
   {H1:Hp} {F1:Addr->Prop} {ds:List D} (gv:Gives M J H1 F1 ds) {ρ:En} (r:aT M G F0 H1 F1 σ ρ) {fl:Fl} (e:forL tg body ds ρ=.ok fl) (q:mx M G F0 H1 F1 DE fl):
   ∃W:Nat->Nat->L2.St->Hp->Prop,(∃m,W 0 m σ H1)/\∀i m σ H,W i m σ H->
     (J.stop i H/\DE.nx σ H)\/(J.go i H/\∃N:L2.St->Hp->Prop,(∀Jl H',N Jl H'->∃m',m'<m/\W (i+1) m' Jl H')/\∀x H',J.lB i H x H'->g x σ H' λOU H2=>tb {DE with nx:=N,ct:=N,bk:=DE.nx} OU H2):=by
 refine⟨λi m σ H=>m=ds.length - i/\i<=ds.length/\∃ρ F,Mv F1 H1 F H/\aT M G F0 H F σ ρ/\forL tg body (ds.drop i) ρ=.ok fl,⟨ds.length,by simp,Nat.zero_le _,ρ,F1,Mv.refl,r,e⟩,?_⟩
 rintro i m σ H ⟨rfl,hi,ρ,F,mv,r,e⟩;obtain⟨g1,g2⟩:=gv H F mv r.rs.aX;by_cases JC:i<ds.length
 · refine .inr ⟨(g1 i ds[i] (by simp[JC])).1,λJl H'=>i+1<=ds.length/\∃ρ F,Mv F1 H1 F H'/\aT M G F0 H' F Jl ρ/\forL tg body (ds.drop (i+1)) ρ=.ok fl,λJl H' p'=>⟨ds.length - (i+1),by omega,rfl,p'.1,p'.2⟩,λx H' y=>?_⟩
   obtain⟨s1,rx⟩:=(g1 i ds[i] (by simp[JC])).2 x H' y
   rw[List.drop_eq_getElem_cons JC]at e;unfold forL at e;obtain⟨JN,e1,e⟩:=av.mp e;obtain⟨f,e2,e⟩:=av.mp e;refine hg _ _ _ _ ⟨ρ,F,ds[i],JN,r.same s1,rx,e1,λOU r2=>hb _ _ _ ⟨JN,F,f,r2,e2,?_⟩⟩;have LW:Mv F1 H1 F H':=mv.trans (.same s1);cases f with
   |next J7=>exact λKj H3 F3 m3 r3=>⟨JC,J7,F3,LW.trans m3,r3,e⟩
   |cont J7=>exact λKj H3 F3 m3 r3=>⟨JC,J7,F3,LW.trans m3,r3,e⟩
   |brk J7=>cases e;exact λKj H3 F3 m3 r3=>q Kj H3 F3 (LW.trans m3) r3
   |ret d=>cases e;exact λv H3 F3 m3 a b rv=>q v H3 F3 (LW.trans m3) a b rv
   |di d=>cases e;exact λp H3 F3 xs ds e m3 a b c rv=>q p H3 F3 xs ds e (LW.trans m3) a b c rv
   |dD d=>cases e;exact λv H3 F3 F4 as m3 a b c d e rv=>q v H3 F3 F4 as (LW.trans m3) a b c d e rv
   |dR i ρ=>cases e;exact λJl H' F' v m3=>q Jl H' F' v (LW.trans m3)
 · have ei:i=ds.length:=by omega
   subst ei;rw[List.drop_length]at e;cases e;exact .inl ⟨g2,q σ H F mv r⟩
theorem C8{tg iter:Expr}{body:List Stmt}{it:bB}{g:bA}{f:Sm}(hp:PassesOwn (model X.prog X.w) X.A X.env X.xe)(hc:X.calm=true)(hi:JI X tg iter it)(hg:JG X tg g)(hb:cC X body f)
   (hs:∀x,foldedSetIterable iter X.env x=pure x:=by intro _;rfl):JS X (.For tg iter body [] pos) (b0 it g f):=λF0=>
 cm (L2.A9 hp hc hi (hg F0) (hb F0) hs) λD σ H ⟨ρ,F,fl,r,e,q⟩=>by
   obtain⟨ds,ed,e⟩:=av.mp e;exact⟨ρ,F,ds,r.rs,ed,λJ H1 s1 gv=>DK (λ_ _ _ _ h=>h) (λ_ _ _ h=>h) gv (r.same s1) e (q.mv (.same s1))⟩
theorem He{a:Addr}{xs:List V}{ds:List D}(h:fY M H F a xs)(rs:ag M H F ds xs):Gives M (L2.mG M.K a) H F ds:=by
 intro H' F' mv tr;have h':=h.mv mv;have Le:=rs.mv mv;refine⟨λi d hd=>?_,?_⟩
 · obtain⟨x,hx,rx⟩:=Le.get hd
   refine⟨⟨xs,x,h'.sq,hx⟩,λy H2 hy=>?_⟩;obtain⟨rfl,hy⟩:=hy;have:=hy xs h'.sq;rw[hx]at this;cases this;exact⟨ak.refl _,rx⟩
 ·exact⟨xs,h'.sq,by rw[rs.length];exact Nat.le_refl _⟩
theorem EV{a:Addr}{xs:List V}{ds:List D}(h:dI M H F a xs)(rs:ag M H F ds xs):Gives M (L2.my M.K a) H F ds:=by
 intro H' F' mv tr;have h':=h.mv mv;have Le:=rs.mv mv;refine⟨λi d hd=>?_,?_⟩
 · obtain⟨x,hx,rx⟩:=Le.get hd
   refine⟨⟨xs,x,h'.sq,hx⟩,λy H2 hy=>?_⟩;obtain⟨rfl,hy⟩:=hy;have:=hy xs h'.sq;rw[hx]at this;cases this;exact⟨ak.refl _,rx⟩
 ·exact⟨xs,h'.sq,by rw[rs.length];exact Nat.le_refl _⟩
theorem xB{lo hi:Int}:Gives M (L2.bB lo (hi - lo).toNat) H F (dn lo hi):=by
 intro H' F' mv tr;refine⟨λi d hd=>?_,?_⟩
 · unfold dn at hd
   rw[List.getElem?_map]at hd;cases e:(List.range (hi - lo).toNat)[i]? with
   |none=>rw[e]at hd;cases hd
   | some k=>
     rw[e]at hd;obtain⟨JC,hk⟩:=List.getElem?_eq_some_iff.mp e;simp at hk JC hd;subst hk hd;refine⟨show i<(hi - lo).toNat by omega,λy H2 hy=>?_⟩
     obtain⟨rfl,rfl⟩:=hy;exact⟨ak.refl _,dN⟩
 · show(hi - lo).toNat<=(dn lo hi).length
   unfold dn;simp
@[simp] noncomputable def IA:D->R (List D)
 |.tup xs=>.ok xs
 |_=>.bad
theorem sg{j:Int}(h:inR j=true): -(2 ^ 62)<=j/\j<2 ^ 62:=by
 unfold inR at h;rw[Bool.and_eq_true,decide_eq_true_eq,decide_eq_true_eq]at h;exact⟨by omega,by omega⟩
theorem Fi{tg a:Expr}{fa:Ex}{p:Pos}(hg:L2.Gl X "range")(hm:X.mg "range"=none)(ha:JE X a fa)(hs:starEach [a] X.env=(false,eval a X.env)::starEach [] X.env:=by rfl):JI X tg (.Call (.Name "range" p) [a] [] pos) (cK fa):=
 k8 (L2.zY hg hm (fm ha fQ hs) hs) λσ H Q ⟨ρ,F,ds,r,e,q⟩=>by
   obtain⟨d,ed,e⟩:=av.mp e;refine⟨ρ,F,[d],r,by show(fa ρ).bind _=_;rw[ed];rfl,λvs H1 s1 rv=>?_⟩
   obtain⟨x,rfl,rx⟩:=rv.one;split at e
   · split at e
     · rename_i j hj
       cases e;have hj:=sg hj;have:=q (L2.bB 0 j.toNat) H1 s1 (by have:=xB (M:=aB X) (H:=H1) (F:=F) (lo:=0) (hi:=j);rwa[Int.sub_zero]at this)
       exact⟨j,by rw[br rx],hj.1,hj.2,this⟩
     ·cases e
   ·cases e
theorem AU{tg a b:Expr}{fa fb:Ex}{p:Pos}(hg:L2.Gl X "range")(hm:X.mg "range"=none)(ha:JE X a fa)(hb:JE X b fb)(hs:starEach [a,b] X.env=(false,eval a X.env)::starEach [b] X.env:=by rfl)(Kd:starEach [b] X.env=(false,eval b X.env)::starEach [] X.env:=by rfl):
   JI X tg (.Call (.Name "range" p) [a,b] [] pos) (dM fa fb):=
 k8 (L2.Dr hg hm (fm ha (fm hb fQ Kd) hs) (by rw[hs,Kd];rfl) Kd) λσ H Q ⟨ρ,F,ds,r,e,q⟩=>by
   obtain⟨d,ed,e⟩:=av.mp e;obtain⟨d2,QW,e⟩:=av.mp e;refine⟨ρ,F,[d,d2],r,by show(fa ρ).bind _=_;rw[ed];show((fb ρ).bind _).bind _=_;rw[QW];rfl,λvs H1 s1 rv=>?_⟩
   obtain⟨x,y,rfl,rx,ry⟩:=rv.two;split at e
   · split at e
     · rename_i i j _ hj
       cases e;rw[Bool.and_eq_true]at hj;have h1:=sg hj.1;have h2:=sg hj.2;exact⟨i,j,by rw[br rx,br ry],⟨h1.1,h1.2,h2.1,h2.2⟩,q _ H1 s1 xB⟩
     ·cases e
   ·cases e
noncomputable def hU(M:Md)(m:List D->R D)(n:Nat):L2.Sp:=λvs H Q _=>∃F ds d,(∀p,F p->∃o,H p=some o)/\ag M H F ds vs/\ds.length=n/\m ds=.ok d/\∀v H',ak H H'->Rep M H' F d v->Q v H'
theorem Rep.sub(hs:∀a,F a->F' a){d:D}{v:V}(h:Rep M H F' d v):Rep M H F d v:=h.mv λa o n e=>⟨λf=>n (hs a f),e⟩
theorem qE{N:List Str}{n:Nat}{ds:List D}{vs:List V}(tr:∀p,F p->∃o,G p=some o)(rs:ag M G F ds vs)(hl:ds.length=n)(hn:n<=N.length):aT M G ⟨G,F,none⟩ G F (L2.start N vs) (ds.map Slot.sh++List.replicate (N.length - ds.length) .un):=by
 have B2:=rs.length
 have no:∀i,¬bp (ds.map Slot.sh++List.replicate (N.length - ds.length) .un) i:=by
   intro i hi
   have:∀s,(ds.map Slot.sh++List.replicate (N.length - ds.length) Slot.un)[i]? =some s->(∃d,s=.sh d)\/s=.un:=by
     intro s hs;rw[List.getElem?_append]at hs;split at hs
     · rw[List.getElem?_map]at hs
       cases e1:ds[i]? with
       |none=>rw[e1]at hs;cases hs
       |some d'=>rw[e1]at hs;cases hs;exact .inl ⟨_,rfl⟩
     · rw[List.getElem?_replicate]at hs
       split at hs<;>cases hs;exact .inr rfl
   rcases hi with⟨x,hx⟩|⟨k,x,hx⟩
   ·rcases this _ hx with⟨_,h⟩|h<;>cases h
   ·rcases this _ hx with⟨_,h⟩|h<;>cases h
 have aD:∀(i:Nat) Jp,(ds.map Slot.sh++List.replicate (N.length - ds.length) Slot.un)[i]? ≠some (.on Jp):=by
   intro i Jp hs;rw[List.getElem?_append]at hs;split at hs
   · rw[List.getElem?_map]at hs
     cases e1:ds[i]? with
     |none=>rw[e1]at hs;cases hs
     |some d'=>rw[e1]at hs;cases hs
   · rw[List.getElem?_replicate]at hs
     split at hs<;>cases hs
 refine⟨⟨?_,tr,?_,?_,?_,?_,.no aD⟩,ak.refl _,λ_ h=>h,tr,?_,λi Jp b e=>absurd e (aD i Jp),λw hw=>nomatch hw⟩
 ·unfold L2.start;simp[B2]
 · intro i d hd
   rw[List.getElem?_append]at hd;split at hd
   · rw[List.getElem?_map]at hd
     cases e1:ds[i]? with
     |none=>rw[e1]at hd;cases hd
     | some d'=>
       rw[e1]at hd;cases hd;obtain⟨v,ev,rv⟩:=rs.get e1;refine⟨v,?_,rv⟩;unfold L2.start;rw[List.getElem?_append_left (by obtain⟨h,_⟩:=List.getElem?_eq_some_iff.mp ev;simpa using h),List.getElem?_map,ev];rfl
   · rw[List.getElem?_replicate]at hd
     split at hd<;>cases hd
 · intro i d hd
   rw[List.getElem?_append]at hd;split at hd
   · rw[List.getElem?_map]at hd
     cases e1:ds[i]? with
     |none=>rw[e1]at hd;cases hd
     |some d'=>rw[e1]at hd;cases hd
   · rw[List.getElem?_replicate]at hd
     split at hd<;>cases hd
 · intro i k d hd
   rw[List.getElem?_append]at hd;split at hd
   · rw[List.getElem?_map]at hd
     cases e1:ds[i]? with
     |none=>rw[e1]at hd;cases hd
     |some d'=>rw[e1]at hd;cases hd
   · rw[List.getElem?_replicate]at hd
     split at hd<;>cases hd
 · intro i j a oi
   exact absurd oi (no i)
 · intro i a oi
   exact absurd oi (no i)
theorem AR{N:List Str}{n:Nat}{body:Sm}{vs:List V}{Q:VK}{E:XK}{t:TS}(ht:∀(F0:Gf) D σ H,de M F0.g F0 body D σ H->t D σ H)(h:hU M (fn N.length body) n vs G Q E)(hn:n<=N.length):t {nx:=λ_ H'=>Q .aD H',rt:=Q} (L2.start N vs) G:=by
 obtain⟨F,ds,d,tr,rs,hl,e,q⟩:=h;obtain⟨f,ef,e⟩:=av.mp e;refine ht ⟨G,F,none⟩ _ _ _ ⟨_,F,f,qE tr rs hl hn,ef,?_⟩;cases f with
 |next ρ'=>cases e;exact λJl H' F' mv r'=>q _ _ r'.sm u5
 |ret d'=>cases e;exact λv H' F' mv sm sub rv=>q _ _ sm (rv.sub sub)
 |brk _=>cases e
 |cont _=>cases e
 |di _=>cases e
 |dD _=>cases e
 |dR _ _=>cases e
noncomputable def lU(M:Md)(m:List D->R D)(n:Nat):L2.Sp:=λvs H Q _=>∃F ds d,(∀p,F p->∃o,H p=some o)/\ag M H F ds vs/\ds.length=n/\m ds=.ok (.lst d)/\∀p H' xs,ak H H'->H' p=none->ag M H' F d xs->Q (.ref p) (upd H' p (.lst xs))
theorem ag.sub(hs:∀a,F a->F' a){d:List D}{v:List V}(h:ag M H F' d v):ag M H F d v:=h.mv λa o n e=>⟨λf=>n (hs a f),e⟩
theorem HU{N:List Str}{n:Nat}{body:Sm}{vs:List V}{Q:VK}{E:XK}{t:TS}(ht:∀(F0:Gf) D σ H,de M F0.g F0 body D σ H->t D σ H)(h:lU M (fH N.length body) n vs G Q E)(hn:n<=N.length):t {nx:=λ_ H'=>Q .aD H',rt:=Q} (L2.start N vs) G:=by
 obtain⟨F,ds,d,tr,rs,hl,e,q⟩:=h;obtain⟨f,ef,e⟩:=av.mp e;refine ht ⟨G,F,none⟩ _ _ _ ⟨_,F,f,qE tr rs hl hn,ef,?_⟩;cases f with
 | di d'=>
   cases d' with
   |lst xs=>cases e;exact λp H' F' ys ds e mv sm sub hp rv=>by cases e;exact q _ _ _ sm hp (rv.sub sub)
   |_=>cases e
 |_=>cases e
theorem Aq(i:Nat){x:Str}{p2:Pos}(hN:X.N[i]? =some x:=by rfl)(hv:L2.cf X.env.scope x:=by first|exact Or.inl rfl|exact Or.inr (Or.inl rfl)|exact Or.inr (Or.inr rfl))(hd:(x==("__debug__":Str))=false:=by decide)
   (Jx:(x==("__classdict__":Str))=false:=by decide):JS X (.Return (some (.Name x p2)) pos) (lz i):=λF0=>
 cm (L2.jZ (L2.pv i hN hv hd Jx)) λD σ H ⟨ρ,F,fl,r,e,q⟩=>by
   unfold lz at e;split at e
   · rename_i xs q1
     cases e;obtain⟨a,ys,ea,fa,ha,rs⟩:=r.rs.ol i _ q1;have hG:=r.own i a (.inl ⟨_,q1⟩) ea;refine⟨_,ea,?_⟩
     have mv:Mv F H (λb=>F b/\b≠a) (λb=>if b=a then none else H b):=λb o n e=>⟨λh=>n h.1,by
       have hb:b≠a:=λz=>by subst z;exact n fa
       simp only[if_neg hb];exact e⟩
     have key:=q a (λb=>if b=a then none else H b) (λb=>F b/\b≠a) ys xs rfl mv (λb o e=>by
       have hb:b≠a:=λz=>by subst z;rw[hG]at e;cases e
       simp only[if_neg hb];exact r.sm b o e) (λb f=>⟨r.sub b f,λz=>by subst z;obtain⟨o,e⟩:=r.dk _ f;rw[hG]at e;cases e⟩) (by simp) (rs.mv mv)
     have e2:upd (λb=>if b=a then none else H b) a (.lst ys)=H:=by
       funext b;unfold upd;by_cases hb:b=a
       ·simp only[if_pos hb];rw[hb];exact ha.symm
       ·simp only[if_neg hb]
     rw[e2]at key;exact key
   ·cases e
end
section
variable{X:Cx}{M:Md}{G H H':Hp}{F0:Gf}{F F':Addr->Prop}{σ:L2.St}{ρ:En}{pos:Pos}{DE:Ends}
def Own(M:Md)(H:Hp)(F:Addr->Prop)(s:Slot)(o:HO):Prop:=
 (∃ds xs,s=.ol ds/\o=.lst xs/\ag M H F ds xs)\/∃ks ds xs,s=.od ks ds/\o=.dK (ks.zip xs)/\ks.length=xs.length/\ag M H F ds xs
theorem Own.sV{s:Slot}{o:HO}(h:Own M H F s o):∀t,s≠.on (.tr t):=λt e=>by
 rcases h with⟨ds,xs,rfl,_⟩|⟨ks,ds,xs,rfl,_⟩<;>cases e
theorem Own.mv{s:Slot}{o:HO}(m:Mv F H F' H')(h:Own M H F s o):Own M H' F' s o:=by
 rcases h with⟨ds,xs,e1,e2,r⟩|⟨ks,ds,xs,e1,e2,l,r⟩
 ·exact .inl ⟨ds,xs,e1,e2,r.mv m⟩
 ·exact .inr ⟨ks,ds,xs,e1,e2,l,r.mv m⟩
theorem aV.ownAt(r:aV M H F σ ρ){i:Nat}(o:bp ρ i):∃a s u,ρ[i]? =some s/\σ[i]? =some (some (.ref a))/\F a/\H a=some u/\Own M H F s u:=by
 rcases o with⟨ds,q⟩|⟨ks,ds,q⟩
 · obtain⟨a,xs,h1,h2,h3,h4⟩:=r.ol i ds q
   exact⟨a,_,_,q,h1,h2,h3,.inl ⟨ds,xs,rfl,rfl,h4⟩⟩
 · obtain⟨a,xs,h1,h2,h3,h4,h5⟩:=r.od i ks ds q
   exact⟨a,_,_,q,h1,h2,h3,.inr ⟨ks,ds,xs,rfl,rfl,h4,h5⟩⟩
theorem jG{i j:Nat}{s:Slot}(h:bp (ρ.set i s) j):j=i\/(i≠j/\bp ρ j):=by
 rcases h with⟨ds,q⟩|⟨ks,ds,q⟩
 · rcases get_set q with⟨h,_,_⟩|⟨C',q⟩
   ·exact .inl h.symm
   ·exact .inr ⟨C',.inl ⟨ds,q⟩⟩
 · rcases get_set q with⟨h,_,_⟩|⟨C',q⟩
   ·exact .inl h.symm
   ·exact .inr ⟨C',.inr ⟨ks,ds,q⟩⟩
theorem aV.put{i:Nat}{a:Addr}{s:Slot}{o:HO}(r:aV M H F σ ρ)(mv:Mv F H F' H')(hF:∀b,F b->F' b)(ha:F' a)(ho:H' a=some o)(hk:∀b u,F b->b≠a->H b=some u->H' b=some u)(Ta:∀b,F' b->F b\/b=a)
   (hn:∀j,j≠i->bp ρ j->σ[j]? ≠some (some (.ref a))) (RC:∀(j:Nat) Jp b,j≠i->ρ[j]? =some (.on Jp)->bO M H F σ ρ j b->b≠a) (own:Own M H' F' s o):aV M H' F' (σ.set i (some (.ref a))) (ρ.set i s) where
 len:=by simp[r.len]
 aX b f:=by
   by_cases e:b=a
   ·subst e;exact⟨o,ho⟩
   · rcases Ta b f with f|f
     · obtain⟨u,hu⟩:=r.aX b f
       exact⟨u,hk b u f e hu⟩
     ·exact absurd f e
 sh j d q:=by
   rcases get_set q with⟨rfl,hx,hl⟩|⟨C',q⟩
   ·rcases own with⟨ds,xs,rfl,_⟩|⟨ks,ds,xs,rfl,_⟩<;>cases hx
   · obtain⟨w,e1,g⟩:=r.sh j d q
     exact⟨w,by rw[List.getElem?_set_ne C'];exact e1,g.mv mv⟩
 ol j d q:=by
   rcases get_set q with⟨rfl,x,hl⟩|⟨C',q⟩
   · rcases own with⟨ds,xs,rfl,rfl,rs⟩|⟨ks,ds,xs,rfl,_⟩
     · cases x
       exact⟨a,xs,by rw[List.getElem?_set_self (by rw[<-r.len];exact hl)],ha,ho,rs⟩
     ·cases x
   · obtain⟨b,xs,e1,f,e2,g⟩:=r.ol j d q
     refine⟨b,xs,by rw[List.getElem?_set_ne C'];exact e1,hF _ f,hk _ _ f ?_ e2,g.mv mv⟩
     rintro rfl;exact hn j (Ne.symm C') (.inl ⟨_,q⟩) e1
 od j k d q:=by
   rcases get_set q with⟨rfl,x,hl⟩|⟨C',q⟩
   · rcases own with⟨ds,xs,rfl,_⟩|⟨ks,ds,xs,rfl,rfl,l,rs⟩
     ·cases x
     · cases x
       exact⟨a,xs,by rw[List.getElem?_set_self (by rw[<-r.len];exact hl)],ha,ho,l,rs⟩
   · obtain⟨b,xs,e1,f,e2,l,g⟩:=r.od j k d q
     refine⟨b,xs,by rw[List.getElem?_set_ne C'];exact e1,hF _ f,hk _ _ f ?_ e2,l,g.mv mv⟩
     rintro rfl;exact hn j (Ne.symm C') (.inr ⟨_,_,q⟩) e1
 b4 j k b oj ok ej ek:=by
   have self:∀c,(σ.set i (some (.ref a)))[i]? =some (some (.ref c))->c=a:=λc h=>by
     rw[List.getElem?_set_self']at h;cases hq:σ[i]? with
     |none=>rw[hq]at h;cases h
     |some z=>rw[hq]at h;cases h;rfl
   rcases jG oj with hj|⟨nj,oj⟩
   · rcases jG ok with K9|⟨nk,ok⟩
     ·rw[hj,K9]
     · rw[hj]at ej
       rw[List.getElem?_set_ne nk]at ek;cases self _ ej;exact absurd ek (hn k (Ne.symm nk) ok)
   · rw[List.getElem?_set_ne nj]at ej
     rcases jG ok with K9|⟨nk,ok⟩
     · rw[K9]at ek
       cases self _ ek;exact absurd ej (hn j (Ne.symm nj) oj)
     · rw[List.getElem?_set_ne nk]at ek
       exact r.b4 j k b oj ok ej ek
 on:=by
   have old:∀(j:Nat) Jp,(ρ.set i s)[j]? =some (.on Jp)->i≠j/\ρ[j]? =some (.on Jp):=λj Jp e=>by
     rcases get_set e with⟨_,x,_⟩|⟨C',e⟩
     ·rcases own with⟨ds,xs,rfl,_⟩|⟨ks,ds,xs,rfl,_⟩<;>cases x
     ·exact⟨C',e⟩
   refine r.on.mv mv (λj Jp e=>⟨(old j Jp e).2,List.getElem?_set_ne (old j Jp e).1⟩) (λj Jp b u e hb f hu=>⟨hF b f,hk b u f (RC j Jp b (Ne.symm (old j Jp e).1) (old j Jp e).2 hb) hu⟩) λj Jp b e hb k ok=>?_;obtain⟨C',e0⟩:=old j Jp e;rcases jG ok with rfl|⟨nk,ok⟩
   · intro h
     rw[List.getElem?_set_self']at h;cases hq:σ[k]? with
     |none=>rw[hq]at h;cases h
     |some z=>rw[hq]at h;cases h;exact RC j Jp _ (Ne.symm C') e0 hb rfl
   · rw[List.getElem?_set_ne nk]
     exact(r.on j Jp e0).2.1 b hb k ok
theorem aT.new{i:Nat}{p:Addr}{s:Slot}{o:HO}(r:aT M G F0 H F σ ρ)(hp:H p=none)(own:Own M H F s o):
   Mv F H (λb=>F b\/b=p) (upd H p o)/\aT M G F0 (upd H p o) (λb=>F b\/b=p) (σ.set i (some (.ref p))) (ρ.set i s):=by
 have ne:∀b u,H b=some u->b≠p:=λb u e z=>by subst z;rw[hp]at e;cases e
 have mv:Mv F H (λb=>F b\/b=p) (upd H p o):=λb u n e=>⟨λh=>h.elim n (ne b u e),by rw[L2.aE (ne b u e)];exact e⟩
 have hG:G p=none:=r.sm.free hp
 refine⟨mv,⟨r.rs.put mv (λ_ h=>.inl h) (.inr rfl) L2.bf (λb u _ n e=>by rw[L2.aE n];exact e) (λ_ h=>h) (λj _ oj e=>?_) (λj Jp b _ e hb z=>by
     obtain⟨_,xs,hx⟩:=fz.f hb;exact ne b _ hx z) (own.mv mv),λb u e=>by rw[L2.aE (ne b u (r.sm b u e))];exact r.sm b u e,λb h=>.inl (r.sub b h),r.dk,λj a oj e=>?_,λj Jp b e hb=>?_,r.pin.set own.sV⟩⟩
 · obtain⟨a,_,u,_,e1,_,e2,_⟩:=r.rs.ownAt oj
   rw[e1]at e;cases e;exact ne _ _ e2 rfl
 · rcases jG oj with rfl|⟨nj,oj⟩
   · rw[List.getElem?_set]at e
     split at e
     · split at e
       ·cases e;exact hG
       ·cases e
     ·rename_i h;exact absurd rfl h
   · rw[List.getElem?_set_ne nj]at e
     exact r.own j a oj e
 · rcases get_set e with⟨_,x,_⟩|⟨C',e⟩
   ·rcases own with⟨ds,xs,rfl,_⟩|⟨ks,ds,xs,rfl,_⟩<;>cases x
   ·exact r.dS j Jp b e (r.rs.on.back (λy ey=>by rw[List.getElem?_set_ne C']at ey;exact ey) (List.getElem?_set_ne C') (λa u _ _ hu=>by rw[L2.aE (ne a u hu)];exact hu) (λa u _ hu=>by rw[L2.aE (ne a u hu)];exact hu) hb)
theorem aT.chg{i:Nat}{a:Addr}{s:Slot}{o:HO}(r:aT M G F0 H F σ ρ)(oi:bp ρ i)(ei:σ[i]? =some (some (.ref a)))(own:Own M H F s o):
   Mv F H F (upd H a o)/\aT M G F0 (upd H a o) F σ (ρ.set i s):=by
 obtain⟨a',_,u,_,e1,fa,e2,_⟩:=r.rs.ownAt oi;rw[ei]at e1;cases e1;have mv:Mv F H F (upd H a o):=λb v n e=>⟨n,by rw[L2.aE (λz=>by subst z;exact n fa)];exact e⟩
 have hG:=r.own i a oi ei
 have hs:σ.set i (some (.ref a))=σ:=by
   obtain⟨hl,h⟩:=List.getElem?_eq_some_iff.mp ei;rw[<-h];exact List.set_getElem_self hl
 have key:=r.rs.put (i:=i) mv (λ_ h=>h) fa L2.bf (λb u _ n e=>by rw[L2.aE n];exact e) (λ_ h=>.inl h) (λj nj oj e=>nj (r.rs.b4 j i a oj oi e ei)) (λj Jp b _ e hb z=>by subst z;exact(r.rs.on j Jp e).2.1 _ hb i oi ei) (own.mv mv)
 rw[hs]at key;refine⟨mv,⟨key,λb u e=>by rw[L2.aE (λz=>by subst z;rw[hG]at e;cases e)];exact r.sm b u e,r.sub,r.dk,λj b oj e=>?_,λj Jp b e hb=>?_,r.pin.oC own.sV⟩⟩
 · rcases jG oj with rfl|⟨nj,oj⟩
   ·rw[ei]at e;cases e;exact hG
   ·exact r.own j b oj e
 · rcases get_set e with⟨_,x,_⟩|⟨C',e⟩
   ·rcases own with⟨ds,xs,rfl,_⟩|⟨ks,ds,xs,rfl,_⟩<;>cases x
   · refine r.dS j Jp b e (r.rs.on.back (λy ey=>by rw[List.getElem?_set_ne C']at ey;exact ey) rfl (λc u hc _ hu=>?_) (λa' u n hu=>(mv a' u n hu).2) hb)
     rw[L2.aE (λz=>by subst z;exact(r.rs.on j Jp e).2.1 _ hc i oi ei)];exact hu
theorem ug{i:Nat}{a:Addr}{d:D}(r:fz M H F σ ρ)(oi:bp ρ i)(ei:σ[i]? =some (some (.ref a)))(mv:Mv F H F' H)(hF:∀b,F b->b≠a->F' b):fz M H F' σ (ρ.set i (.sh d)):=by
 have old:∀(j:Nat) Jp,(ρ.set i (.sh d))[j]? =some (.on Jp)->ρ[j]? =some (.on Jp):=λj Jp e=>by
   rcases get_set e with⟨_,x,_⟩|⟨C',e⟩
   ·cases x
   ·exact e
 refine r.mv mv (λj Jp e=>⟨old j Jp e,rfl⟩) (λj Jp b u e hb f hu=>⟨hF b f λz=>?_,hu⟩) λj Jp b e hb k ok=>(r j Jp (old j Jp e)).2.1 b hb k ok.d8.2;subst z;exact(r j Jp (old j Jp e)).2.1 _ hb i oi ei
theorem aT.zu{i:Nat}{a:Addr}{s:Slot}{d:D}(r:aT M G F0 H F σ ρ)(oi:bp ρ i)(es:ρ[i]? =some s)(ei:σ[i]? =some (some (.ref a)))(hd:∃ds,s=.ol ds/\d=.lst ds):
   ∃F',(F'=λb=>F b/\b≠a)/\Mv F H F' H/\aT M G F0 H F' σ (ρ.set i (.sh d)):=by
 obtain⟨a',s',u,ME,e1,fa,e2,ow⟩:=r.rs.ownAt oi;rw[ei]at e1;cases e1;rw[es]at ME;cases ME;have hG:=r.own i a oi ei;have mv:Mv F H (λb=>F b/\b≠a) H:=λb v n e=>⟨λh=>n h.1,e⟩
 have Nh:Rep M H (λb=>F b/\b≠a) d (.ref a):=by
   obtain⟨ds,rfl,rfl⟩:=hd;rcases ow with⟨OW,xs,h1,rfl,rs⟩|⟨ks,ds,xs,h1,_⟩
   · cases h1
     simp only[Rep];exact⟨a,xs,rfl,.inl ⟨λh=>h.2 rfl,.inl e2⟩,rs.mv mv⟩
   ·cases h1
 refine⟨λb=>F b/\b≠a,rfl,mv,⟨⟨by simp[r.rs.len],λb h=>r.rs.aX b h.1,?_,?_,?_,?_,?_⟩,r.sm,λb h=>⟨r.sub b h,λz=>by subst z;obtain⟨o,e⟩:=r.dk _ h;rw[hG]at e;cases e⟩,r.dk,?_,?_,r.pin.oC λ_ h=>nomatch h⟩⟩
 · intro j e q
   rcases get_set q with⟨rfl,hx,hl⟩|⟨C',q⟩
   · cases hx
     exact⟨_,ei,Nh⟩
   · obtain⟨w,e1,g⟩:=r.rs.sh j e q
     exact⟨w,e1,g.mv mv⟩
 · intro j e q
   rcases get_set q with⟨rfl,x,hl⟩|⟨C',q⟩
   ·cases x
   · obtain⟨b,xs,e1,f,e3,g⟩:=r.rs.ol j e q
     exact⟨b,xs,e1,⟨f,λz=>by subst z;exact C' (r.rs.b4 i j _ oi (.inl ⟨_,q⟩) ei e1)⟩,e3,g.mv mv⟩
 · intro j k e q
   rcases get_set q with⟨rfl,x,hl⟩|⟨C',q⟩
   ·cases x
   · obtain⟨b,xs,e1,f,e3,l,g⟩:=r.rs.od j k e q
     exact⟨b,xs,e1,⟨f,λz=>by subst z;exact C' (r.rs.b4 i j _ oi (.inr ⟨_,_,q⟩) ei e1)⟩,e3,l,g.mv mv⟩
 · intro j k b oj ok ej ek
   exact r.rs.b4 j k b oj.d8.2 ok.d8.2 ej ek
 ·exact ug r.rs.on oi ei mv (λb f n=>⟨f,n⟩)
 · intro j b oj e
   exact r.own j b oj.d8.2 e
 · intro j Jp b e hb
   rcases get_set e with⟨_,x,_⟩|⟨C',e⟩
   ·cases x
   ·exact r.dS j Jp b e (r.rs.on.back (λy ey=>by rw[List.getElem?_set_ne C']at ey;exact ey) rfl (λc u _ _ hu=>hu) (λ_ _ _ e=>e) hb)
theorem aT.frz{i:Nat}{a:Addr}{s:Slot}{u:HO}{d:D}(r:aT M G F0 H F σ ρ)(oi:bp ρ i)(es:ρ[i]? =some s)(ei:σ[i]? =some (some (.ref a)))(hd:∃ds,s=.ol ds/\d=.lst ds):
   ∃F',Mv F H F' H/\aT M G F0 H F' σ (ρ.set i (.sh d)):=let⟨F',_,m,h⟩:=r.zu oi es ei hd;⟨F',m,h⟩
theorem aT.Dd{i:Nat}{ks:List Ky}{ds:List D}(r:aT M G F0 H F σ ρ)(es:ρ[i]? =some (.od ks ds)):∃a kvs,H a=some (.dK kvs)/\∀ob,∃F',(F'=λb=>F b/\b≠a)/\Mv F H F' (upd H a (.frz ob (.dK kvs)))/\aT M G F0 (upd H a (.frz ob (.dK kvs))) F' σ (ρ.set i (.sh (.aN ks ds))):=by
 have oi:bp ρ i:=.inr ⟨_,_,es⟩;obtain⟨a,xs,ei,fa,e2,hl,rs⟩:=r.rs.od i ks ds es;refine⟨a,ks.zip xs,e2,λob=>?_⟩;have hG:=r.own i a oi ei;have ne:∀b,¬F b->b≠a:=λb n z=>by subst z;exact n fa
 have mv:Mv F H (λb=>F b/\b≠a) (upd H a (.frz ob (.dK (ks.zip xs)))):=λb v n e=>⟨λh=>n h.1,by rw[L2.aE (ne b n)];exact e⟩
 refine⟨λb=>F b/\b≠a,rfl,mv,⟨⟨by simp[r.rs.len],λb h=>?_,?_,?_,?_,?_,?_⟩,λb u e=>by rw[L2.aE (λz=>by subst z;rw[hG]at e;cases e)];exact r.sm b u e,λb h=>⟨r.sub b h,λz=>by subst z;obtain⟨o,e⟩:=r.dk _ h;rw[hG]at e;cases e⟩,r.dk,?_,?_,r.pin.oC λ_ h=>nomatch h⟩⟩
 · obtain⟨o,e⟩:=r.rs.aX b h.1
   exact⟨o,by rw[L2.aE h.2];exact e⟩
 · intro j e q
   rcases get_set q with⟨rfl,hx,hl⟩|⟨C',q⟩
   · cases hx
     refine⟨_,ei,?_⟩;simp only[Rep];exact⟨a,xs,rfl,.inl ⟨λh=>h.2 rfl,ob,L2.bf⟩,by assumption,rs.mv mv⟩
   · obtain⟨w,e1,g⟩:=r.rs.sh j e q
     exact⟨w,e1,g.mv mv⟩
 · intro j e q
   rcases get_set q with⟨rfl,x,hl⟩|⟨C',q⟩
   ·cases x
   · obtain⟨b,ys,e1,f,e3,g⟩:=r.rs.ol j e q
     have hb:b≠a:=λz=>by subst z;exact C' (r.rs.b4 i j _ oi (.inl ⟨_,q⟩) ei e1)
     exact⟨b,ys,e1,⟨f,hb⟩,by rw[L2.aE hb];exact e3,g.mv mv⟩
 · intro j k e q
   rcases get_set q with⟨rfl,x,hl⟩|⟨C',q⟩
   ·cases x
   · obtain⟨b,ys,e1,f,e3,l,g⟩:=r.rs.od j k e q
     have hb:b≠a:=λz=>by subst z;exact C' (r.rs.b4 i j _ oi (.inr ⟨_,_,q⟩) ei e1)
     exact⟨b,ys,e1,⟨f,hb⟩,by rw[L2.aE hb];exact e3,l,g.mv mv⟩
 · intro j k b oj ok ej ek
   exact r.rs.b4 j k b oj.d8.2 ok.d8.2 ej ek
 · have old:∀(j:Nat) Jp,(ρ.set i (.sh (.aN ks ds)))[j]? =some (.on Jp)->ρ[j]? =some (.on Jp):=λj Jp e=>by
     rcases get_set e with⟨_,x,_⟩|⟨C',e⟩
     ·cases x
     ·exact e
   refine r.rs.on.mv mv (λj Jp e=>⟨old j Jp e,rfl⟩) (λj Jp b u e hb f hu=>?_) λj Jp b e hb k ok=>(r.rs.on j Jp (old j Jp e)).2.1 b hb k ok.d8.2;have Ls:b≠a:=λz=>by subst z;exact(r.rs.on j Jp (old j Jp e)).2.1 _ hb i oi ei
   exact⟨⟨f,Ls⟩,by rw[L2.aE Ls];exact hu⟩
 · intro j b oj e
   exact r.own j b oj.d8.2 e
 · intro j Jp b e hb
   rcases get_set e with⟨_,x,_⟩|⟨C',e⟩
   ·cases x
   · refine r.dS j Jp b e (r.rs.on.back (λy ey=>by rw[List.getElem?_set_ne C']at ey;exact ey) rfl (λc u hc _ hu=>?_) (λa' u n hu=>(mv a' u n hu).2) hb)
     rw[L2.aE (λz=>by subst z;exact(r.rs.on j Jp e).2.1 _ hc i oi ei)];exact hu
theorem Ey(i:Nat){rest:List Stmt}{fs:List Sm}(h:cC X rest (aw fs)):cC X rest (aw (eA i::fs)):=λF0 pins s σ H D I ⟨ρ,F,fl,r,e,q⟩=>by
 obtain⟨f1,e1,e⟩:=av.mp e;unfold eA at e1;split at e1
 · rename_i xs q1
   cases e1;have oi:bp ρ i:=.inl ⟨_,q1⟩;obtain⟨a,_,_,_,ea,_⟩:=r.rs.ownAt oi;obtain⟨F',mv,r'⟩:=r.frz (u:=.lst []) oi q1 ea ⟨_,rfl,rfl⟩;exact h F0 pins s σ H D I ⟨_,F',fl,r',e,q.mv mv⟩
 · rename_i ks vs q1
   cases e1;obtain⟨a,kvs,ha,k⟩:=r.Dd q1;obtain⟨ob,I'⟩:=rV I ha;obtain⟨F',_,mv,r'⟩:=k ob;exact h F0 pins s σ _ D I' ⟨_,F',fl,r',e,q.mv mv⟩
 ·cases e1
def j6(M:Md)(f:Ex):TE:=λσ H Q=>∃ρ F ds,aV M H F σ ρ/\f ρ=.ok (.lst ds)/\∀p H' xs,ak H H'->H' p=none->ag M H' F ds xs->Q (.ref p) (upd H' p (.lst xs))
abbrev JF(X:Cx)(e:Expr)(f:Ex):Prop:=PE X e (j6 (aB X) f)
theorem Ha{es:List Expr}{fs:List Ex}(h:JA X es (eList fs))(hl:fs.length<=1000:=by decide):JF X (.List es pos) (bh fs):=
 bz (L2.qd h) λσ H Q ⟨ρ,F,d,hr,e,q⟩=>by
   obtain⟨as,ea,e⟩:=av.mp e;cases e;refine⟨ρ,F,_,hr,ea,λxs H1 s1 rs=>⟨?_,λp hp=>q p H1 xs s1 hp rs⟩⟩;rw[<-rs.length,iM ea];exact Nat.le_trans hl (by decide)
theorem AL(i:Nat){x:Str}{e:Expr}{f:Ex}{p2:Pos}(hN:X.N.Nodup)(he:JF X e f)(hi:X.N[i]? =some x:=by rfl)(hx:L2.Loc X.env.scope x:=by exact Or.inl rfl)(hf:X.fn x=true\/X.env.scope.names.lookup x=some .local:=by first|exact .inl rfl|exact .inr rfl)
   (hs:swapsWith e (some (.Name x p2)) pos.line X.env=pure false:=by rfl):JS X (.Assign [.Name x p2] e pos) (gR i f):=λF0=>
 cm (L2.lL hN hi hx he hs hf) λD σ H ⟨ρ,F,fl,r,e,q⟩=>by
   obtain⟨d,ed,e⟩:=av.mp e;split at e
   · cases e
     refine⟨ρ,F,_,r.rs,ed,λp H1 xs s1 hp rs=>?_⟩;obtain⟨mv,r'⟩:=(r.same s1).new (i:=i) (s:=.ol _) hp (.inl ⟨_,xs,rfl,rfl,rs⟩);exact q _ _ _ (Mv.trans (.same s1) mv) r'
   ·cases e
theorem zo(i:Nat){x:Str}{e:Expr}{f:Ex}{p2 apos A':Pos}(he:JE X e f)(hN:X.N[i]? =some x:=by rfl)(hv:L2.cf X.env.scope x:=by first|exact Or.inl rfl|exact Or.inr (Or.inl rfl)|exact Or.inr (Or.inr rfl))(hd:(x==("__debug__":Str))=false:=by decide)
   (Jx:(x==("__classdict__":Str))=false:=by decide) (Jz:attributeBase (.Name x p2) "append" X.env (eval (.Name x p2) X.env)=eval (.Name x p2) X.env:=by rfl)
   (J9:((backTo A' (starEach [e] X.env)).all (λx=> !x.1)&&(backToKw A' (keywordEach [] X.env)).all (λx=>x.1.isSome)
     &&decide (([e]:List Expr).length+([]:List Keyword).length+(if([]:List Keyword).isEmpty then 0 else 1)<30))=true:=by rfl)
   (JB:(apos.endLine==A'.line)=true:=by rfl) (hs:starEach [e] X.env=(false,eval e X.env)::starEach [] X.env:=by rfl)
   (KJ:swapsWith (.Call (.Attribute (.Name x p2) "append" apos) [e] [] A') none pos.line X.env=pure false:=by rfl):
   JS X (.Expr (.Call (.Attribute (.Name x p2) "append" apos) [e] [] A') pos) (js i f):=λF0=>
 cm (L2.oG (L2.nQ PySem.F.plainAttrs_list PySem.F.slot_list_append PySem.F.type_list_append L2.rY (L2.pv i hN hv hd Jx) (fm he fQ hs) Jz J9 JB hs) KJ) λD σ H ⟨ρ,F,fl,r,e,q⟩=>by
   obtain⟨d,ed,e⟩:=av.mp e;split at e
   · rename_i xs q1
     split at e
     · rename_i JC
       cases e;have oi:bp ρ i:=.inl ⟨_,q1⟩;obtain⟨a,ys,ea,fa,ha,rs⟩:=r.rs.ol i _ q1;refine⟨_,ea,.inl ⟨rfl,ys,a8.of ha⟩,ρ,F,[d],r.rs,by show(f ρ).bind _=_;rw[ed];rfl,λvs H1 s1 rv=>?_⟩
       obtain⟨y,rfl,ry⟩:=rv.one;have r1:=r.same s1;refine⟨a,ys,y,rfl,rfl,s1 _ _ ha,by rw[<-rs.length];exact JC,?_⟩
       obtain⟨mv,r'⟩:=r1.chg (s:=.ol (xs++[d])) oi ea (.inl ⟨_,ys++[y],rfl,rfl,(rs.mv (.same s1)).append (ag.cons ry ag.nil)⟩);exact q _ _ _ (Mv.trans (.same s1) mv) r'
     ·cases e
   ·cases e
theorem D6(i:Nat){x:Str}{p p2:Pos}(hg:L2.Gl X "len")(hm:X.mg "len"=none)(hN:X.N[i]? =some x:=by rfl)(hv:L2.cf X.env.scope x:=by first|exact Or.inl rfl|exact Or.inr (Or.inl rfl)|exact Or.inr (Or.inr rfl))(hd:(x==("__debug__":Str))=false:=by decide)
   (Jx:(x==("__classdict__":Str))=false:=by decide) (hs:starEach [.Name x p2] X.env=(false,eval (.Name x p2) X.env)::starEach [] X.env:=by rfl):JE X (.Call (.Name "len" p) [.Name x p2] [] pos) (iW i):=
 bz (L2.qO L2.uI hg hm f6 (L2.jz (L2.pv i hN hv hd Jx) L2.kY hs) (by decide) (by decide) hs) λσ H Q ⟨ρ,F,d,hr,e,q⟩=>by
   unfold iW at e;split at e
   · rename_i xs q1
     cases e;obtain⟨a,ys,ea,fa,ha,rs⟩:=hr.ol i _ q1;refine⟨_,ea,a,ys,rfl,.inl (a8.of ha),q _ _ (ak.refl _) ?_⟩;rw[<-rs.length];exact dN
   ·cases e
structure Df(P:Program)(w:World)(K:PySem.W.Frag)(mg:Str->Option Value)(base:Heap)(x:Str)(k n:Nat)(m:List D->R D):Prop where
 ex:∃f fd ps,L2.d3 P w K mg base L2.cI k f fd ps (hU ⟨K,P,w⟩ m n)/\L2.Binds K fd ps []/\PySem.W.keepIn K (.ref f)=true/\mg x=some (.ref f)
theorem BU{m:List D->R D}{n:Nat}{fs:List Ex}{Q:VK}{E:XK}(hn:fs.length=n)(h:tP M (bc m fs) σ H Q):L2.om (hU M m n) [] E (jP M (eList fs)) σ H Q:=by
 obtain⟨ρ,F,d,hr,e,q⟩:=h;obtain⟨ds,MM,e⟩:=av.mp e;refine⟨ρ,F,ds,hr,MM,λvs H1 s1 rs=>?_⟩;show hU M m n (vs++[]) H1 Q E;rw[List.append_nil];exact⟨F,ds,d,(hr.same s1).aX,rs,by rw[iM MM];exact hn,e,λv H2 s2 rv=>q v H2 (s1.trans s2) rv⟩
theorem xY{x:Str}{k j n:Nat}{m:List D->R D}{e:Expr}{es:List Expr}{fs:List Ex}{p:Pos}(d:Df X.prog X.w X.K X.mg X.base x k n m)(hr:L2.bC j X.A)(hg:L2.Gl X x)(ha:JA X (e::es) (eList fs))(hk:k<=j:=by decide)(hn:fs.length=n:=by rfl)
   (Kf:(x==("__debug__":Str))=false:=by decide) (he:starEach (e::es) X.env=(false,eval e X.env)::starEach es X.env:=by rfl) (JV:(backTo pos (starEach es X.env)).any (·.1)=false:=by rfl):JE X (.Call (.Name x p) (e::es) [] pos) (bc m fs):=by
 obtain⟨f,fd,ps,h1,h2,h3,h4⟩:=d.ex;exact bz (L2.mW h1 (hr.mono hk) hg h4 h3 h2 .nil L2.nz ha Kf he JV) λσ H Q h=>BU hn h
theorem v7{P:Program}{w:World}{K:PySem.W.Frag}{mg:Str->Option Value}{base:Heap}{x qual:Str}{st:Stmt}{f:Addr}{fd:FuncData}{N ps:List Str}{k n:Nat}{body:Sm}(Fu:L2.eW K x qual st f fd)(S:L2.bG N ps (L2.aS st))
   (h:∀(Jq:Value) (A:Around) (outer:List Env) (s:Shared) (H:Hp) (E:XK),L2.bC k (A.deeper (PyProof.Rows.envOfC qual (L2.aS st) s.heap.objs.size f Jq))->cC (L2.e6 L2.cI P w K mg base N qual (L2.aS st) f Jq A outer s H E).fT (L2.dY st) body)
   (hn:ps.length=n:=by rfl):L2.d3 P w K mg base L2.cI (k+1) f fd ps (hU ⟨K,P,w⟩ (fn N.length body) n):=by
 refine Fu.ok S (λvs H Q E h=>?_) (λJq A outer s H vs Q E hr Lg=>?_)
 · obtain⟨F,ds,d,_,rs,hl,_⟩:=h
   rw[<-rs.length,hl,hn]
 · refine⟨λD σ H'=>∃F0:Gf,de ⟨K,P,w⟩ F0.g F0 body D σ H',λpins s' σ H' D I ⟨F0,q⟩=>h Jq A outer s H E hr F0 pins s' σ H' D I q,?_⟩
   refine AR (G:=H) (t:=λD σ H'=>∃F0:Gf,de ⟨K,P,w⟩ F0.g F0 body D σ H') (λF0 D σ H' h=>⟨F0,h⟩) Lg ?_;have:=congrArg List.length S.pre;rw[List.length_take]at this;omega
theorem AW{P:Program}{w:World}{K:PySem.W.Frag}{mg:Str->Option Value}{base:Heap}{x qual:Str}{st:Stmt}{f:Addr}{fd:FuncData}{N ps:List Str}{k n:Nat}{body:Sm}(Fu:L2.eW K x qual st f fd)(hm:mg x=some (.ref f))(S:L2.bG N ps (L2.aS st))(hb:L2.Binds K fd ps [])
   (h:∀(Jq:Value) (A:Around) (outer:List Env) (s:Shared) (H:Hp) (E:XK),L2.bC k (A.deeper (PyProof.Rows.envOfC qual (L2.aS st) s.heap.objs.size f Jq))->cC (L2.e6 L2.cI P w K mg base N qual (L2.aS st) f Jq A outer s H E).fT (L2.dY st) body)
   (hn:ps.length=n:=by rfl):Df P w K mg base x (k+1) n (fn N.length body):=⟨f,fd,ps,v7 Fu S h hn,hb,Fu.kp,hm⟩
end
open L2 (It Turn cq)
section
variable{X:Cx}{M:Md}{G H H':Hp}{F0:Gf}{F F':Addr->Prop}{σ:L2.St}{ρ:En}{pos:Pos}{DE:Ends}
noncomputable def jO(x:Str):It:=⟨λi _=>i<x.cps.size,λi H v H'=>H'=H/\∃c,x.cps[i]? =some c/\v=.str ⟨#[c]⟩,λi _=>x.cps.size<=i⟩
theorem DQ{P:Program}{w:World}{K:PySem.W.Frag}{tg:Expr}(x:Str)(t:Tok)(it:Addr):Turn P w K tg (jO x) [it] it (λi h=>h.IsStrIter it "str_ascii_iterator" x t i) where
 mem:=by simp
 obj:=λi h st b hb=>by
   have e:b=it:=by simpa using hb
   subst e;obtain⟨o,e,c,d⟩:=st;exact⟨o,e,λv z=>by rw[d]at z;cases z⟩
 keep:=λi h h' st k=>let⟨o,e,r⟩:=st;⟨o,k it (by simp) o e,r⟩
 item:=by
   intro X hP hw hK hc i pins s σ H E I hf st hg;subst hP hw hK;obtain⟨f0,f1,f2,f3,f4,f5⟩:=hf it (by simp)
   have hg:i<x.cps.size:=hg;refine wpAny_pyNext_ascii_item st (c:=x.cps[i]) (by simp[hg]) λh' KG sb=>?_
   have I1:Inv X pins σ H {s with heap:=h',toks:=s.toks+1}:=I.turned (t':=s.toks+1) (λb o hb e=>(sb.2 b hb).trans e) f0 f1 f3 f4 f5;obtain⟨o,e,c,d⟩:=id KG;exact⟨_,rfl,L2.kh (s:={s with heap:=h',toks:=s.toks+1}) e c d (by decide) ⟨.str ⟨#[x.cps[i]]⟩,H,I1,⟨_,rfl⟩,⟨rfl,_,by simp[hg],rfl⟩,KG,λb hb=>(hf b hb).1⟩⟩
 done:=by
   intro X hP hw hK hc i pins s σ H E I hf st hg;subst hP hw hK;have hg:x.cps.size<=i:=hg;obtain⟨f0,f1,f2,f3,f4,f5⟩:=hf it (by simp)
   exact wpAny_pyNext_ascii_end (I.ok.hd hc) st (by simp[hg]) λh' eb=>⟨rfl,I.turned (t':=s.toks) (λb o hb e=>eb b o hb e) f0 f1 f3 f4 f5⟩
 self:=λ_ _ _ _ _ st h=>wpAny_pyIter_striter_ascii st h
theorem zm{P:Program}{w:World}{K:PySem.W.Frag}{tg:Expr}(x:Str)(t:Tok)(it:Addr):Turn P w K tg (jO x) [it] it (λi h=>h.IsStrIter it "str_iterator" x t i) where
 mem:=by simp
 obj:=λi h st b hb=>by
   have e:b=it:=by simpa using hb
   subst e;obtain⟨o,e,c,d⟩:=st;exact⟨o,e,λv z=>by rw[d]at z;cases z⟩
 keep:=λi h h' st k=>let⟨o,e,r⟩:=st;⟨o,k it (by simp) o e,r⟩
 item:=by
   intro X hP hw hK hc i pins s σ H E I hf st hg;subst hP hw hK;obtain⟨f0,f1,f2,f3,f4,f5⟩:=hf it (by simp)
   have hg:i<x.cps.size:=hg;refine wpAny_pyNext_wide_item st (c:=x.cps[i]) (by simp[hg]) λh' KG sb=>?_
   have I1:Inv X pins σ H {s with heap:=h',toks:=s.toks+1}:=I.turned (t':=s.toks+1) (λb o hb e=>(sb.2 b hb).trans e) f0 f1 f3 f4 f5;obtain⟨o,e,c,d⟩:=id KG;exact⟨_,rfl,L2.kh (s:={s with heap:=h',toks:=s.toks+1}) e c d (by decide) ⟨.str ⟨#[x.cps[i]]⟩,H,I1,⟨_,rfl⟩,⟨rfl,_,by simp[hg],rfl⟩,KG,λb hb=>(hf b hb).1⟩⟩
 done:=by
   intro X hP hw hK hc i pins s σ H E I hf st hg;subst hP hw hK;have hg:x.cps.size<=i:=hg;obtain⟨f0,f1,f2,f3,f4,f5⟩:=hf it (by simp)
   exact wpAny_pyNext_wide_end (I.ok.hd hc) st (by simp[hg]) λh' eb=>⟨rfl,I.turned (t':=s.toks) (λb o hb e=>eb b o hb e) f0 f1 f3 f4 f5⟩
 self:=λ_ _ _ _ _ st h=>wpAny_pyIter_striter_wide st h
def Gw(K:PySem.W.Frag)(tl:TE):TI:=λσ H R=>tl σ H λx H1=>(∃a,x=.ref a/\(∃xs,a8 K H1 a xs)/\R (L2.mG K a) H1)\/(∃a,x=.ref a/\(∃xs,bo K H1 a xs)/\R (L2.my K a) H1)\/∃z,x=.str z/\R (jO z) H1
theorem xW{tg:Expr}{pins:List (Addr×Obj)}{R:It->Hp->Prop}{s1:Shared}{x:V}{v:Value}(I1:Inv X pins σ H s1)(r1:RelV x v)
   (q1:(∃a,x=.ref a/\(∃xs,a8 X.K H a xs)/\R (L2.mG X.K a) H)\/(∃a,x=.ref a/\(∃xs,bo X.K H a xs)/\R (L2.my X.K a) H)\/∃z,x=.str z/\R (jO z) H):
   wpAny (model X.prog X.w) X.A (pyIter v) (L2.qo X pins σ tg R) X.xe s1:=by
 have fp:∀b∈[s1.heap.objs.size],cq X pins H b:=λb hb=>by
   have e:b=s1.heap.objs.size:=by simpa using hb
   subst e;exact I1.mz (Nat.le_refl _) (I1.aH.fresh (Nat.le_refl _))
 rcases q1 with⟨a,rfl,⟨xs,hq⟩,q⟩|⟨a,rfl,⟨xs,hq⟩,q⟩|⟨z,rfl,q⟩
 · cases r1
   obtain⟨aj,rv,p,hz⟩:=I1.list hq;refine wpAny_pyIter_list p.isList ?_;exact⟨s1.heap.objs.size,[s1.heap.objs.size],_,_,H,rfl,I1.kept (t':=s1.toks) λb o e=>Heap.get?_push_of_some _ e,L2.GV a _,⟨_,Heap.get?_push_size _ rfl,rfl,rfl⟩,fp,q⟩
 · cases r1
   obtain⟨aj,rv,p,hz⟩:=I1.tuple hq;refine wpAny_pyIter_tuple (show s1.heap.IsTuple a aj.toArray from p) ?_
   exact⟨s1.heap.objs.size,[s1.heap.objs.size],_,_,H,rfl,I1.kept (t':=s1.toks) λb o e=>Heap.get?_push_of_some _ e,L2.Ep a _,⟨_,Heap.get?_push_size _ rfl,rfl,rfl⟩,fp,q⟩
 · obtain⟨t,rfl⟩:=r1
   cases ha:z.cps.all (· <128)
   · refine wpAny_pyIter_wide ha ?_
     exact⟨s1.heap.objs.size,[s1.heap.objs.size],_,_,H,rfl,I1.kept (t':=s1.toks) λb o e=>Heap.get?_push_of_some _ e,zm z t _,⟨_,Heap.get?_push_size _ rfl,rfl,rfl⟩,fp,q⟩
   · refine wpAny_pyIter_ascii ha ?_
     exact⟨s1.heap.objs.size,[s1.heap.objs.size],_,_,H,rfl,I1.kept (t':=s1.toks) λb o e=>Heap.get?_push_of_some _ e,DQ z t _,⟨_,Heap.get?_push_size _ rfl,rfl,rfl⟩,fp,q⟩
theorem Gr{tg l:Expr}{tl:TE}(hl:PE X l tl):L2.PI X tg l (Gw X.K tl):=λpins s σ H R I h=>
 L2.aJ (hl pins s σ H _ I h) λv s1 ⟨x,H1,I1,r1,q1⟩=>xW I1 r1 q1
theorem BO{x:Str}:Gives M (jO x) H F (x.cps.toList.map λc=>.str ⟨#[c]⟩):=by
 intro H' F' mv tr;refine⟨λi d hd=>?_,?_⟩
 · rw[List.getElem?_map]at hd
   cases e:x.cps.toList[i]? with
   |none=>rw[e]at hd;cases hd
   | some c=>
     rw[e]at hd;cases hd;have e':x.cps[i]? =some c:=by simpa using e
     refine⟨show i<x.cps.size from(Array.getElem?_eq_some_iff.mp e').1,λy H2 hy=>?_⟩
     obtain⟨rfl,c',Ld,rfl⟩:=hy;rw[e']at Ld;cases Ld;exact⟨ak.refl _,j9⟩
 · show x.cps.size<=_
   simp
theorem CS{K:PySem.W.Frag}{d:D}{ds:List D}{x:V}{R:It->Hp->Prop}(e:items d=.ok ds)(rv:Rep M H F d x)(q:∀J,Gives M J H F ds->R J H):
   (∃a,x=.ref a/\(∃xs,a8 M.K H a xs)/\R (L2.mG M.K a) H)\/(∃a,x=.ref a/\(∃xs,bo M.K H a xs)/\R (L2.my M.K a) H)\/∃z,x=.str z/\R (jO z) H:=by
 unfold items at e;split at e
 · cases e
   simp only[Rep]at rv;obtain⟨a,xs,rfl,h,rs⟩:=rv;exact .inl ⟨a,rfl,⟨xs,h.sq⟩,q _ (He h rs)⟩
 · cases e
   simp only[Rep]at rv;obtain⟨a,xs,rfl,h,rs⟩:=rv;exact .inr (.inl ⟨a,rfl,⟨xs,h.sq⟩,q _ (EV h rs)⟩)
 · cases e
   exact .inr (.inr ⟨_,fL rv,q _ BO⟩)
 ·cases e
theorem BJ{tg l:Expr}{fa:Ex}(ha:JE X l fa):JI X tg l (cM fa):=
 k8 (Gr ha) λσ H Q ⟨ρ,F,ds,r,e,q⟩=>by
   obtain⟨d,ed,e⟩:=av.mp e;exact⟨ρ,F,d,r,ed,λv H1 s1 rv=>CS (K:=X.K) (M:=aB X) e rv λJ g=>q J H1 s1 g⟩
end
structure iP(P:Program)(w:World)(K:PySem.W.Frag)(mg:Str->Option Value)(x:Str)(d:D):Prop where
 ex:∃v u,mg x=some u/\RelV v u/\∀H F,Rep ⟨K,P,w⟩ H F d v
theorem El{X:Cx}{pos:Pos}{x:Str}{d:D}(g:iP X.prog X.w X.K X.mg x d)(hg:L2.Gl X x)(hd:(x==("__debug__":Str))=false:=by decide):JE X (.Name x pos) (eC d):=by
 obtain⟨v,u,h1,h2,h3⟩:=g.ex;exact Cn hg h1 h2 h3 hd
noncomputable def jQ:Expr->Bool
 |.Starred .. =>false
 |_=>true
theorem bF{e:Expr}{es:List Expr}{env:Env}(h:jQ e=true):starEach (e::es) env=(false,eval e env)::starEach es env:=by cases e<;>first|rfl|cases h
theorem jc{pos:Pos}{env:Env}:∀ {es:List Expr},es.all jQ=true->(backTo pos (starEach es env)).any (·.1)=false
 |[],_=>rfl
 | e::es,h=>by
   rw[List.all_cons,Bool.and_eq_true]at h;rw[bF h.1];show(false||(backTo pos (starEach es env)).any (·.1))=false
   rw[Bool.false_or];exact jc h.2
theorem wY{pos:Pos}{env:Env}:∀ {es:List Expr},es.all jQ=true->(backTo pos (starEach es env)).all (λx=> !x.1)=true
 |[],_=>rfl
 | e::es,h=>by
   rw[List.all_cons,Bool.and_eq_true]at h;rw[bF h.1];show(true&&(backTo pos (starEach es env)).all (λx=> !x.1))=true;rw[Bool.true_and];exact wY h.2
theorem nV{A':Pos}{env:Env}{e:Expr}{es:List Expr}(h:(e::es).all jQ=true)(hl:(e::es).length<30):((backTo A' (starEach (e::es) env)).all (λx=> !x.1)&&(backToKw A' (keywordEach [] env)).all (λx=>x.1.isSome)
     &&decide ((e::es).length+([]:List Keyword).length+(if([]:List Keyword).isEmpty then 0 else 1)<30))=true:=by
 rw[wY h,Bool.true_and];show(true&&decide ((e::es).length+0+0<30))=true;rw[Bool.true_and,decide_eq_true_eq];exact hl
noncomputable def vn:Expr->Bool
 |.ListComp .. =>false
 |.SetComp .. =>false
 |.DictComp .. =>false
 |_=>true
theorem fg{e:Expr}{t:Option Expr}{l:Nat}{env:Env}(h:vn e=true):swapsWith e t l env=pure false:=by cases e<;>first|rfl|cases h
theorem qu{e tg:Expr}{l:Nat}{env:Env}(h:vn e=true):swapsWithSole [tg] e l env=pure false:=fg h
noncomputable def A6:Expr->Bool
 |.Tuple .. =>false
 |_=>true
theorem qF{e tg:Expr}{env:Env}(h:A6 e=true):swappedStores [tg] e env=pure none:=by
 cases tg<;>first|rfl|(cases e<;>first|rfl|cases h)
noncomputable def A3:Expr->Bool
 |.Tuple .. =>false
 |.List .. =>false
 |_=>true
theorem Fo{e tg:Expr}{env:Env}(h:A3 tg=true):swappedStores [tg] e env=pure none:=by
 cases tg<;>first|rfl|cases h
theorem mV{e:Expr}{es:List Expr}{env:Env}(h:jQ e=true):(assignEach (e::es) env).map (·.2)=assign e env::(assignEach es env).map (·.2):=by cases e<;>first|rfl|cases h
theorem kD{env:Env}:∀ {es:List Expr},(assignEach es env).length=es.length
 |[]=>rfl
 | e::es=>by
   have:=kD (env:=env) (es:=es);cases e<;>(show(assignEach es env).length+1=_;rw[this];rfl)
theorem rC{env:Env}:∀ {es:List Expr},es.all jQ=true->(assignEach es env).findIdx? (·.1)=none
 |[],_=>rfl
 | e::es,h=>by
   rw[List.all_cons,Bool.and_eq_true]at h;have ih:=rC (env:=env) h.2
   have:∃t,assignEach (e::es) env=(false,t)::assignEach es env:=by
     have h1:=h.1;cases e<;>first|exact⟨_,rfl⟩|cases h1
   obtain⟨t,e1⟩:=this;rw[e1,List.findIdx?_cons,ih];rfl
noncomputable def Ec:Expr->Bool
 |.Set .. =>false
 |_=>true
theorem nL{e:Expr}{env:Env}(h:Ec e=true):∀x,foldedSetIterable e env x=pure x:=by intro x;cases e<;>first|rfl|cases h
noncomputable def plainT:Expr->Bool
 |.UnaryOp .Not _ _=>false
 |.BoolOp .. =>false
 |.IfExp .. =>false
 |.Compare .. =>false
 |_=>true
theorem ym{e:Expr}{env:Env}(h:plainT e=true):∀whole,isTrue e env whole=(do let v <-whole;standAt e.pos;holding [v] (truthy v)):=by
 intro w;cases e with
 |UnaryOp op _ _=>cases op<;>first|rfl|cases h
 |_=>first|rfl|cases h
theorem tW{x:Str}{p:Pos}{a:Str}{env:Env}{w:Sem Value}:attributeBase (.Name x p) a env w=w:=rfl
noncomputable def Bp:Expr->Bool
 |.Slice .. =>false
 |_=>true
theorem xb{b:Expr}(h:Bp b=true):L2.jT b:=by intro o i;cases b<;>first|rfl|cases h
theorem walk{l:PySem.W.OpenLaw}{q:Program}{loose:List Str}{XP:(Str->Option Value)->Heap->Prop}{YP:World->Heap->Prop}{d:DefRec}{K:Params->PySem.W.Frag}{k:Nat}{x:Str}{m:List D->R D}(hn:l.most=some 63)(NS:d.params.defaults=[])(hr:L2.bC k PySem.callerA)
   (hY:∀(w:World) (h:Heap),YP w h->(K w.params).In h)
   (F:∀(w:World) (mg:Str->Option Value) (fa:Addr) (h:Heap),(K w.params).In h->h.Ns mainGlobals mg->mg d.name=some (.ref fa)->
     ∃fd:FuncData,(∀(s:Shared) (u:Value),BindsTo s fd ⟨[u],[]⟩ [(x,u)])/\∀base:Heap,(K w.params).In base->base.Ns mainGlobals mg->L2.d3 l.prog w (K w.params) mg base L2.cI k fa fd [x] (hU ⟨K w.params,l.prog,w⟩ m 1))
   (hT:∀ns:List Int,ns.length<=63->m [.lst (ns.map .int)]=.ok (.bl true)):
   PySem.W.WalkO q loose XP YP l.row.toRowW d [] (λf vs=>PySem.call f vs):=
 L2.CK (n:=63) (k:=k) (x:=x) (CX:=λ_=>L2.cI) (sp:=λw=>hU ⟨K w.params,l.prog,w⟩ m 1) hn (by decide) NS hr hY F (λw H a ns hl _ hS=>by
   refine⟨λ_=>False,[.lst (ns.map .int)],.bl true,λp h=>h.elim,ag.cons ?_ ag.nil,rfl,hT ns hl,λv H' _ rv=>gD rv⟩
   have N5:∀(ns:List Int) (M:Md) (H:Hp),ag M H (λ_=>False) (ns.map D.int) (ns.map V.int):=by
     intro ns M H
     induction ns with
     |nil=>exact ag.nil
     |cons n r ih=>exact ag.cons dN ih
   simp only[Rep];refine⟨a,ns.map V.int,rfl,?_,N5 ns _ H⟩;rcases hS with h|h
   ·exact .inl ⟨λh=>h,h⟩
   ·exact .inr h) λ_ _ _ _ _ z=>z
open L2 (Un)
section
variable{prog:Program}{w:World}{A:Around}{R:Result->Shared->Prop}{s:Shared}
theorem CY{elt target iter:Expr}{ifs:List Expr}{scope:Scope}{pos:Pos}{it acc:Value}{env:Env}(I:Nat->Shared->Prop)
   (turn:∀n s,I n s->wpAny (model prog w) A (pyNext it) (λr Jm=>match r with
     |none=>R (.ok .next) Jm
     |some v=>wpAny (model prog w) A (letOwnedTupleGo target it v) (λ_ MH=>wpAny (model prog w) A (assign target env v) (λ_ K2=>
         wpAny (model prog w) A (forIn ifs true λc r=>if r=true then do let ok <-isTrue c env (eval c env);pure (ForInStep.yield ok)else pure (ForInStep.yield r)) (λok MT=>
           if ok=true then wpAny (model prog w) A (eval elt env) (λx NO=>
             wpAny (model prog w) A (call (.builtin "list.append") [acc,x]) (λ_ NU=>∃m,m<n/\I m NU) (notedBy (model prog w) A env λe s'=>R (.error e) s') NO) (notedBy (model prog w) A env λe s'=>R (.error e) s') MT
           else ∃m,m<n/\I m MT) (notedBy (model prog w) A env λe s'=>R (.error e) s') K2) (notedBy (model prog w) A env λe s'=>R (.error e) s') MH) (notedBy (model prog w) A env λe s'=>R (.error e) s') Jm) (notedBy (model prog w) A env λe s'=>R (.error e) s') s)
   (n:Nat) (h:I n s):codeAny (model prog w) A (.compLoop (.ListComp elt [⟨target,iter,ifs,0⟩] scope pos) 0 it acc env) R s:=by
 refine codeAny_loop rfl I (λn s hI=>?_) n h;show wpAny _ A ((compTurn (.ListComp elt [⟨target,iter,ifs,0⟩] scope pos) 0 it acc env).onRaise (λx=>do noteFrame x env;theTreesLotGoes x)) _ _ s
 refine wpAny_noted ?_;rw[compTurn_list];refine wpAny_bind (wpAny_standAt (wpAny_bind (wpAny_mono (turn n s hI) (λr Jm KI=>?_) λ_ _ h'=>h')));cases r with
 |none=>exact wpAny_pure KI
 | some v=>
   refine wpAny_bind (wpAny_mono KI (λ_ MH Ot=>?_) λ_ _ h'=>h');refine wpAny_bind (wpAny_mono Ot (λ_ K2 L0=>wpAny_bind (wpAny_mono L0 (λok MT Og=>?_) λ_ _ h'=>h')) λ_ _ h'=>h');cases ok with
   |false=>exact wpAny_pure ⟨rfl,Og⟩
   | true=>
     exact wpAny_bind (wpAny_bind (wpAny_mono Og (λx NO PM=>wpAny_bind (wpAny_mono PM (λ_ NU Po=>wpAny_pure (wpAny_pure ⟨rfl,Po⟩)) λ_ _ h'=>h')) λ_ _ h'=>h'))
end
noncomputable def cy(X:Cx)(scope:Scope)(cl:List (Str×Addr))(C:Addr)(N:List Str)(s:Shared)(H:Hp)(fp:List Addr):Cx where
 prog:=X.prog
 w:=X.w
 K:=X.K
 mg:=X.mg
 base:=X.base
 A:=X.A
 N:=N
 cv:=s
 iH:=H
 env:=compEnvC scope cl C X.env
 outer:=X.stack
 stack:=X.stack
 ex:=fp
 fn:=λx=>decide ((x,NameKind.cell)∈scope.names)
 calm:=X.calm
 pn:=[]
 xe:=X.xe
abbrev kj(X:Cx)(ifs:List Expr)(cs:List aL):Prop:=Paired (λe c=>JT X e c) ifs cs
theorem sR{X:Cx}{M:Md}(hM:M=aB X){pins:List (Addr×Obj)}{σ:L2.St}{ρ:En}{F:Addr->Prop}{E:Value->Shared->Prop}(hE:∀e s,X.xe e s->E e s):
   ∀ {ifs:List Expr} {cs:List aL},kj X ifs cs->∀ {s:Shared} {H:Hp} {t:Bool} {Q:Bool->Hp->Prop},Inv X pins σ H s->aV M H F σ ρ->cJ.fN cs ρ=.ok t->(∀H',ak H H'->Q t H')->
     wpAny (model X.prog X.w) X.A (forIn ifs true λc r=>if r=true then do let ok <-isTrue c X.env (eval c X.env);pure (ForInStep.yield ok)else pure (ForInStep.yield r)) (λok s'=>∃H',Inv X pins σ H' s'/\Q ok H') E s
 | [],_,.nil,s,H,t,Q,I,r,e,q=>by
   cases e;exact wpAny_tests_nil ⟨H,I,q H (ak.refl H)⟩
 | c::ifs,_,.cons h hs,s,H,t,Q,I,r,e,q=>by
   unfold cJ.fN at e;obtain⟨b,eb,e⟩:=av.mp e;rw[List.forIn_cons];simp only[if_true];refine wpAny_bind (wpAny_bind (wpAny_mono (h pins s σ H (λb' H'=>b'=b/\ak H H') I ⟨ρ,F,b,hM▸r,eb,λH' s'=>⟨rfl,s'⟩⟩) (λb' s1 h1=>wpAny_pure ?_) hE));obtain⟨H1,I1,rfl,Nt⟩:=h1;dsimp only;cases b' with
   | true=>
     rw[if_pos rfl]at e;exact sR hM hE hs I1 (r.same Nt) e λH2 s2=>q H2 (Nt.trans s2)
   | false=>
     rw[if_neg (by decide)]at e
     cases e
     have pass:∀(l:List Expr) (s:Shared),(∃H',Inv X pins σ H' s/\Q false H')->wpAny (model X.prog X.w) X.A (forIn l false λc r=>if r=true then do let ok <-isTrue c X.env (eval c X.env);pure (ForInStep.yield ok)else pure (ForInStep.yield r)) (λok s'=>∃H',Inv X pins σ H' s'/\Q ok H') E s:=by
       intro l
       induction l with
       |nil=>intro s h;exact wpAny_pure h
       | cons a l ih=>
         intro s h;rw[List.forIn_cons];exact wpAny_bind (wpAny_pure (ih s h))
     exact pass ifs _ ⟨H1,I1,q H1 Nt⟩
theorem qb{env:Env}:∀(names:List (Str×NameKind)) (cs:List (Str×Addr)),(∀y∈names,y.2=.free->∃c,env.cells.lookup y.1=some c)->(∀x c,cs.lookup x=some c->env.cells.lookup x=some c)->
   ∃cl,(forIn names cs λ(x:Str×NameKind) r=>(if(x.2==.free)=true then do let c <-cellOf env x.1;pure (ForInStep.yield ((x.1,c)::r))else pure (ForInStep.yield r):Sem (ForInStep (List (Str×Addr)))))=(pure cl:Sem _)/\
     (∀x c,cl.lookup x=some c->env.cells.lookup x=some c)/\(∀x,(∃c,cs.lookup x=some c)\/(x,NameKind.free)∈names->∃c,cl.lookup x=some c)
 |[],cs,_,hc=>⟨cs,rfl,hc,λx h=>h.elim (λh=>h) λh=>nomatch h⟩
 | (n,k)::names,cs,hn,hc=>by
   rw[List.forIn_cons];by_cases hk:k=.free
   · subst hk
     obtain⟨c,ec⟩:=hn _ List.mem_cons_self rfl
     obtain⟨cl,e,h1,h2⟩:=qb names ((n,c)::cs) (λy hy=>hn y (List.mem_cons_of_mem _ hy)) (λx d h=>by
       rw[List.lookup_cons]at h;cases hx:x==n with
       |true=>rw[hx]at h;cases h;rw[beq_iff_eq.mp hx];exact ec
       |false=>rw[hx]at h;exact hc x d h)
     refine⟨cl,?_,h1,λx h=>h2 x ?_⟩
     · have:cellOf env n=pure c:=by unfold cellOf;rw[show List.lookup n env.cells=some c from ec]
       simp only[beq_self_eq_true,if_true,this];exact e
     · rcases h with⟨d,h⟩|h
       · left
         rw[List.lookup_cons];cases x==n with
         |true=>exact⟨c,rfl⟩
         |false=>exact⟨d,h⟩
       · rcases List.mem_cons.mp h with h|h
         · cases h
           left;rw[List.lookup_cons,beq_self_eq_true];exact⟨c,rfl⟩
         ·exact .inr h
   · obtain⟨cl,e,h1,h2⟩:=qb names cs (λy hy=>hn y (List.mem_cons_of_mem _ hy)) hc
     refine⟨cl,?_,h1,λx h=>h2 x (h.imp (λh=>h) λh=>?_)⟩
     · have:(k==NameKind.free)=false:=by cases k<;>first|rfl|exact absurd rfl hk
       simp only[this,Bool.false_eq_true,if_false];exact e
     · rcases List.mem_cons.mp h with h|h
       ·cases h;exact absurd rfl hk
       ·exact h
theorem FU{scope:Scope}{env:Env}(hn:∀y∈scope.names,y.2=.free->∃c,env.cells.lookup y.1=some c):
   ∃cl,closureFor scope env=pure cl/\(∀x c,cl.lookup x=some c->env.cells.lookup x=some c)/\∀x,(x,NameKind.free)∈scope.names->∃c,cl.lookup x=some c:=by
 obtain⟨cl,e,h1,h2⟩:=qb scope.names [] hn (λx c h=>nomatch h)
 refine⟨cl,?_,h1,λx h=>h2 x (.inr h)⟩;unfold closureFor
 have:∀(l:List (Str×NameKind)) (cs:List (Str×Addr)),(forIn l cs λ(x:Str×NameKind) (r:List (Str×Addr))=>(match x with|(name,kind)=>do
     if(kind==.free)=true then
       let c <-cellOf env name
       pure (ForInStep.yield ((name,c)::r))
     else pure (ForInStep.yield r):Sem (ForInStep (List (Str×Addr)))))=forIn l cs λ(x:Str×NameKind) r=>(if(x.2==.free)=true then do let c <-cellOf env x.1;pure (ForInStep.yield ((x.1,c)::r))else pure (ForInStep.yield r):Sem (ForInStep (List (Str×Addr)))):=λ_ _=>rfl
 show(forIn scope.names [] _ >>= λr=>pure r)=_
 first
   |(rw[show(forIn scope.names ([]:List (Str×Addr)) _:Sem (List (Str×Addr)))=pure cl from e];rfl)
   |(erw [e];rfl)
theorem rl{M:Model}{A:Around}{E:Value->Shared->Prop}{Q:List (Str×Addr)->Shared->Prop}:∀(names:List (Str×NameKind)) {s:Shared} {cells:List (Str×Addr)},(∀x c,cells.lookup x=some c->c<s.heap.objs.size)->(∀x y c,cells.lookup x=some c->cells.lookup y=some c->x=y)->
   (∀(h':Heap) (Jn:List (Str×Addr)),(∀b o,s.heap.get? b=some o->h'.get? b=some o)->(∀x y c,Jn.lookup x=some c->Jn.lookup y=some c->x=y)->
     (∀x c,Jn.lookup x=some c->cells.lookup x=some c\/(s.heap.objs.size<=c/\h'.IsCell c none))->(∀x,(x,NameKind.cell)∈names->∃c,Jn.lookup x=some c/\s.heap.objs.size<=c)->(∀x c,cells.lookup x=some c->(x,NameKind.cell)∉names->Jn.lookup x=some c)->Q Jn {s with heap:=h'})->
   wpAny M A (forIn names cells λ(x:Str×NameKind) (r:List (Str×Addr))=>(match x with|(name,kind)=>if(kind==NameKind.cell)=true then do let a <-alloc {cls:=Value.type "cell",data:=Data.cell none};pure (ForInStep.yield ((name,a)::r))else pure (ForInStep.yield r):Sem (ForInStep (List (Str×Addr))))) Q E s
 | [],s,cells,_,inj,k=>by
   exact wpAny_pure (k s.heap cells (λ_ _ e=>e) inj (λ_ _ e=>.inl e) (λ_ h=>nomatch h) (λ_ _ e _=>e))
 | (n,kd)::names,s,cells,lt,inj,k=>by
   rw[List.forIn_cons];by_cases hk:kd=.cell
   · subst hk
     simp only[beq_self_eq_true,if_true];refine wpAny_bind (wpAny_bind (wpAny_alloc (wpAny_pure ?_)));dsimp only;refine rl names (λx c h=>?_) (λx y c hx hy=>?_) λh' Jn keep Mc h2 h3 h4=>?_
     · rw[Heap.size_push]
       rw[List.lookup_cons]at h;cases hx:x==n with
       |true=>rw[hx]at h;cases h;exact Nat.lt_succ_self _
       |false=>rw[hx]at h;exact Nat.lt_succ_of_lt (lt x c h)
     · rw[List.lookup_cons]at hx hy
       cases ex:x==n with
       | true=>
         cases ey:y==n with
         |true=>rw[beq_iff_eq.mp ex,beq_iff_eq.mp ey]
         | false=>
           rw[ex]at hx;rw[ey]at hy;cases hx;exact absurd (lt y _ hy) (Nat.lt_irrefl _)
       | false=>
         rw[ex]at hx;cases ey:y==n with
         |true=>rw[ey]at hy;cases hy;exact absurd (lt x _ hx) (Nat.lt_irrefl _)
         |false=>rw[ey]at hy;exact inj x y c hx hy
     · have old:∀b o,s.heap.get? b=some o->h'.get? b=some o:=λb o e=>keep b o (Heap.get?_push_of_some _ e)
       have new:h'.IsCell s.heap.objs.size none:=⟨_,keep _ _ (Heap.get?_push_size _ rfl),rfl⟩;refine k h' Jn old Mc (λx c h=>?_) (λx hx=>?_) (λx c h hx=>?_)
       · rcases h2 x c h with h|⟨h5,h6⟩
         · rw[List.lookup_cons]at h
           cases ex:x==n with
           |true=>rw[ex]at h;cases h;exact .inr ⟨Nat.le_refl _,new⟩
           |false=>rw[ex]at h;exact .inl h
         · rw[Heap.size_push]at h5
           exact .inr ⟨by omega,h6⟩
       · by_cases hm:(x,NameKind.cell)∈names
         · obtain⟨c,h5,h6⟩:=h3 x hm
           rw[Heap.size_push]at h6;exact⟨c,h5,by omega⟩
         · have SE:x=n:=by
             rcases List.mem_cons.mp hx with e|e
             ·exact(Prod.mk.inj e).1
             ·exact absurd e hm
           subst SE;exact⟨s.heap.objs.size,h4 x _ (by rw[List.lookup_cons,beq_self_eq_true]) hm,Nat.le_refl _⟩
       · refine h4 x c ?_ λhm=>hx (List.mem_cons_of_mem _ hm)
         rw[List.lookup_cons];cases ex:x==n with
         |true=>exact absurd (by rw[beq_iff_eq.mp ex];exact List.mem_cons_self) hx
         |false=>exact h
   · have LZ:(kd==NameKind.cell)=false:=by cases kd<;>first|rfl|exact absurd rfl hk
     simp only[LZ,Bool.false_eq_true,if_false];refine wpAny_bind (wpAny_pure ?_);dsimp only;refine rl names lt inj λh' Jn keep Mc h2 h3 h4=>k h' Jn keep Mc h2 (λx hx=>?_) (λx c h hx=>h4 x c h λhm=>hx (List.mem_cons_of_mem _ hm));rcases List.mem_cons.mp hx with e|e
     ·exact absurd (Prod.mk.inj e).2.symm hk
     ·exact h3 x e
theorem Ay{M:Model}{A:Around}{E:Value->Shared->Prop}{Q:Env->Shared->Prop}{s:Shared}{scope:Scope}{cl:List (Str×Addr)}{env:Env}(lt:∀x c,cl.lookup x=some c->c<s.heap.objs.size)(inj:∀x y c,cl.lookup x=some c->cl.lookup y=some c->x=y)
   (k:∀(h':Heap) (Jn:List (Str×Addr)),(∀b o,s.heap.get? b=some o->h'.get? b=some o)->(h'.Ns s.heap.objs.size λ_=>none)->(∀x y c,Jn.lookup x=some c->Jn.lookup y=some c->x=y)->
     (∀x c,Jn.lookup x=some c->cl.lookup x=some c\/(s.heap.objs.size+1<=c/\h'.IsCell c none))->(∀x,(x,NameKind.cell)∈scope.names->∃c,Jn.lookup x=some c/\s.heap.objs.size+1<=c)->(∀x c,cl.lookup x=some c->(x,NameKind.cell)∉scope.names->Jn.lookup x=some c)->
     Q {scope:=scope,locals:=s.heap.objs.size,globals:=env.globals,cells:=Jn,qual:=env.qual,func:=none,code:=env.code,frame:=env.frame,builtins:=env.builtins} {s with heap:=h'}):
   wpAny M A (newFunctionEnv scope env.globals cl [] env.qual none Value.none (some env)) Q E s:=by
 unfold newFunctionEnv;refine wpAny_bind (wpAny_alloc ?_);dsimp only;refine wpAny_bind (wpAny_mono (rl (Q:=λJn s'=>Q {scope:=scope,locals:=s.heap.objs.size,globals:=env.globals,cells:=Jn,qual:=env.qual,func:=none,code:=env.code,frame:=env.frame,builtins:=env.builtins} s') scope.names (λx c h=>by rw[Heap.size_push];exact Nat.lt_succ_of_lt (lt x c h)) inj λh' Jn keep Mc h2 h3 h4=>?_) (λJn s' hq=>?_) λ_ _ h=>h)
 · refine k h' Jn (λb o e=>keep b o (Heap.get?_push_of_some _ e)) ?_ Mc (λx c h=>?_) (λx hx=>?_) h4
   · obtain⟨o,es,ep,h1,h2,h3,h4⟩:=Heap.Ns.new s.heap (Value.type "dict")
     exact⟨o,es,ep,keep _ _ h1,h2,h3,h4⟩
   · rcases h2 x c h with h|⟨h5,h6⟩
     ·exact .inl h
     ·rw[Heap.size_push]at h5;exact .inr ⟨h5,h6⟩
   · obtain⟨c,h5,h6⟩:=h3 x hx
     rw[Heap.size_push]at h6;exact⟨c,h5,h6⟩
 ·exact wpAny_pure hq
set_option maxHeartbeats 1000000
noncomputable abbrev Xt:=En->R T
noncomputable def xD(e:Ex):Xt:=λρ=>(e ρ).bind λd=>.ok (.d d)
def pV(M:Md)(f:Xt):TE:=λσ H Q=>∃ρ F t,aV M H F σ ρ/\f ρ=.ok t/\∀v H' F' as,ak H H'->(∀b∈as,H b=none)->as.Nodup->(∀b,F' b↔F b\/b∈as)->ah M H' F' t v as->Q v H'
abbrev JX(X:Cx)(e:Expr)(f:Xt):Prop:=PE X e (pV (aB X) f)
noncomputable def iy(tg:bA)(cs:List aL)(el:Xt)(ρ:En):List D->R (List T)
 |[]=>.ok []
 | d::ds=>(tg d ρ).bind λJN=>(cJ.fN cs JN).bind λt=>
   if t=true then(el JN).bind λy=>(iy tg cs el ρ ds).bind λys=>.ok (y::ys)else iy tg cs el ρ ds
noncomputable def vi(it:bB)(n:Nat)(fv:List Nat)(tg:bA)(cs:List aL)(el:Xt):En->R (List T):=λρ=>(it ρ).bind λds=>
 if ds.length<=dP then iy tg cs el (List.replicate n .un++frees ρ fv) ds else .bad
theorem qM{tg:bA}{cs:List aL}{el:Ex}{ρ:En}:∀ {ds ys:List D},cJ tg cs el ρ ds=.ok ys->iy tg cs (xD el) ρ ds=.ok (ys.map .d)
 |[],_,h=>by cases h;rfl
 | d::ds,ys,h=>by
   unfold cJ at h;obtain⟨JN,e1,h⟩:=av.mp h;obtain⟨t,e2,h⟩:=av.mp h;unfold iy;rw[e1,R.aQ,e2,R.aQ];cases t with
   | true=>
     rw[if_pos rfl]at h ⊢;obtain⟨y,e3,h⟩:=av.mp h;obtain⟨zs,e4,h⟩:=av.mp h;cases h;show((el JN).bind λd=>R.ok (T.d d)).bind _=_;rw[e3,R.aQ,R.aQ,qM e4];rfl
   | false=>
     rw[if_neg (by decide)]at h ⊢
     exact qM h
section
variable{M:Md}{H H':Hp}{F F':Addr->Prop}{as:List Addr}{σ:L2.St}{ρ:En}
theorem aV.wide(r:aV M H F σ ρ)(s1:ak H H')(hn:∀b∈as,H b=none)(hF:∀b,F' b↔F b\/b∈as)(ht:∀b∈as,∃u,H' b=some u):Mv F H F' H'/\aV M H' F' σ ρ:=by
 have mv:Mv F H F' H':=λb o n e=>⟨λf=>((hF b).mp f).elim n (λhb=>by rw[hn b hb]at e;cases e),s1 _ _ e⟩
 refine⟨mv,⟨r.len,λa f=>?_,λi d e=>?_,λi ds e=>?_,λi ks ds e=>?_,r.b4,?_⟩⟩
 · rcases(hF a).mp f with f|f
   ·obtain⟨o,e⟩:=r.aX a f;exact⟨o,s1 _ _ e⟩
   ·exact ht a f
 ·obtain⟨v,e1,q⟩:=r.sh i d e;exact⟨v,e1,q.mv mv⟩
 ·obtain⟨a,xs,e1,f,e2,q⟩:=r.ol i ds e;exact⟨a,xs,e1,(hF a).mpr (.inl f),s1 _ _ e2,q.mv mv⟩
 ·obtain⟨a,xs,e1,f,e2,l,q⟩:=r.od i ks ds e;exact⟨a,xs,e1,(hF a).mpr (.inl f),s1 _ _ e2,l,q.mv mv⟩
 ·exact r.on.mv mv (λj x e=>⟨e,rfl⟩) (λj x b u e hb f hu=>⟨(hF b).mpr (.inl f),s1 _ _ hu⟩) λj x b e hb k ok=>(r.on j x e).2.1 b hb k ok
theorem wI{X:Cx}{e:Expr}{f:Ex}(h:JE X e f):JX X e (xD f):=
 bz h λσ H Q ⟨ρ,F,t,hr,e,q⟩=>by
   obtain⟨d,ed,e⟩:=av.mp e;cases e;exact⟨ρ,F,d,hr,ed,λv H1 s1 rv=>q v H1 F [] s1 (λ_ hb=>nomatch hb) List.nodup_nil (λb=>by simp) (by rw[ah];exact⟨rfl,rv⟩)⟩
theorem gg:∀ {vs:List D} {xs:List V} {as:List Addr},au M H F (vs.map .d) xs as↔as=[]/\ag M H F vs xs
 |[],xs,as=>by simp only[List.map_nil,au,ag];exact And.comm
 | v::vs,xs,as=>by
   simp only[List.map_cons,au,ag,ah];constructor
   · rintro⟨x,r,bs,cs,rfl,rfl,⟨rfl,h1⟩,h2⟩
     obtain⟨rfl,h3⟩:=gg.mp h2;exact⟨rfl,x,r,rfl,h1,h3⟩
   · rintro⟨rfl,x,r,rfl,h1,h2⟩
     exact⟨x,r,[],[],rfl,rfl,⟨rfl,h1⟩,gg.mpr ⟨rfl,h2⟩⟩
theorem au.append:∀ {ts us:List T} {xs ys:List V} {as bs:List Addr},au M H F ts xs as->au M H F us ys bs->au M H F (ts++us) (xs++ys) (as++bs)
 | [],_,_,_,_,_,h,g=>by
   simp only[au]at h;obtain⟨rfl,rfl⟩:=h;exact g
 | t::ts,_,_,_,_,_,h,g=>by
   simp only[au]at h;obtain⟨x,r,bs,cs,rfl,rfl,h1,h2⟩:=h;rw[List.cons_append,List.cons_append,List.append_assoc];simp only[au];exact⟨x,_,bs,_,rfl,rfl,h1,h2.append g⟩
theorem au.len:∀ {ts:List T} {xs:List V} {as:List Addr},au M H F ts xs as->ts.length=xs.length
 |[],xs,as,h=>by simp only[au]at h;rw[h.1];rfl
 | t::ts,xs,as,h=>by
   simp only[au]at h;obtain⟨x,r,bs,cs,rfl,rfl,h1,h2⟩:=h;simp[au.len h2]
end
section
variable{X:Cx}{M:Md}{G H H':Hp}{F0:Gf}{F F':Addr->Prop}{σ:L2.St}{ρ:En}{pos:Pos}
def iE(n:Nat)(tg:bA):Prop:=∀d ρ ρ',tg d ρ=.ok ρ'->ρ'.length=ρ.length/\∀j:Nat,n<=j->ρ'[j]? =ρ[j]?
theorem sG{n i:Nat}(h:i<n):iE n (az i):=λd ρ ρ' e=>by
 cases e;exact⟨by simp,λj hj=>List.getElem?_set_ne (by omega)⟩
theorem aV.less{ρ':En}(r:aV M H F σ ρ)(hl:ρ'.length=ρ.length)(h:∀(j:Nat) s,ρ'[j]? =some s->s=.un\/((∃d,s=.sh d)/\ρ[j]? =some s)):aV M H F σ ρ' where
 len:=by rw[hl,r.len]
 aX:=r.aX
 sh i d e:=by
   rcases h i _ e with z|⟨_,z⟩
   ·cases z
   ·exact r.sh i d z
 ol i d e:=by
   rcases h i _ e with z|⟨⟨_,z⟩,_⟩<;>cases z
 od i k d e:=by
   rcases h i _ e with z|⟨⟨_,z⟩,_⟩<;>cases z
 b4 i j a oi:=by
   rcases oi with⟨_,e⟩|⟨_,_,e⟩
   ·rcases h i _ e with z|⟨⟨_,z⟩,_⟩<;>cases z
   ·rcases h i _ e with z|⟨⟨_,z⟩,_⟩<;>cases z
 on:=.no λi Jp e=>by rcases h i _ e with z|⟨⟨_,z⟩,_⟩<;>cases z
theorem iK{ρ:En}(h:∀(j:Nat) s,ρ[j]? =some s->s=.un\/∃d,s=.sh d){i:Nat}(o:bp ρ i):False:=by
 rcases o with⟨_,e⟩|⟨_,_,e⟩
 ·rcases h i _ e with z|⟨_,z⟩<;>cases z
 ·rcases h i _ e with z|⟨_,z⟩<;>cases z
noncomputable def ent(n:Nat)(ρ:En)(fv:List Nat):En:=List.replicate n .un++frees ρ fv
theorem jb{n:Nat}{fv:List Nat}{j:Nat}{s:Slot}(h:(ent n ρ fv)[j]? =some s):s=.un\/((∃d,s=.sh d)/\n<=j/\∃i,fv[j - n]? =some i/\ρ[i]? =some s):=by
 unfold ent at h;rw[List.getElem?_append,List.length_replicate]at h;split at h
 · rename_i hn
   rw[List.getElem?_replicate,if_pos hn]at h;cases h;exact .inl rfl
 · rename_i hn
   unfold frees at h;rw[List.getElem?_map]at h;cases e:fv[j - n]? with
   |none=>rw[e]at h;cases h
   | some i=>
     rw[e]at h;have hs:m5 ρ[i]? =s:=by simpa using h
     subst hs;cases LN:ρ[i]? with
     |none=>exact .inl rfl
     | some z=>
       cases z with
       |sh d=>exact .inr ⟨⟨d,rfl⟩,by omega,i,rfl,LN⟩
       |_=>exact .inl rfl
noncomputable def stC(n:Nat)(σ:L2.St)(fv:List Nat):L2.St:=List.replicate n none++fv.map λi=>(σ[i]?).getD none
theorem zP{n:Nat}{fv:List Nat}(r:aV M H F σ ρ):aV M H F (stC n σ fv) (ent n ρ fv) where
 len:=by unfold stC ent frees;simp
 aX:=r.aX
 sh j d e:=by
   rcases jb e with z|⟨_,hn,i,hi,z⟩
   ·cases z
   · obtain⟨v,ev,rv⟩:=r.sh i d z
     refine⟨v,?_,rv⟩;unfold stC;rw[List.getElem?_append_right (by simpa using hn),List.length_replicate,List.getElem?_map,hi]
     simp[ev]
 ol j d e:=by rcases jb e with z|⟨⟨_,z⟩,_⟩<;>cases z
 od j k d e:=by rcases jb e with z|⟨⟨_,z⟩,_⟩<;>cases z
 b4 j k a oj:=by
   exact(iK (λj s e=>(jb e).imp (λh=>h) λh=>h.1) oj).elim
 on:=.no λj Jp e=>by rcases jb e with z|⟨⟨_,z⟩,_⟩<;>cases z
theorem pQ{scope:Scope}{env:Env}:∀ {names:List (Str×NameKind)} {x:Str} {k:NameKind},(names.map λ(n,k)=>if(k==NameKind.free&&env.scope.kind==.function&&env.kindOf n==some .cell)then(n,NameKind.cell)else(n,k)).lookup x=some k->
   (k=.cell\/k=.free)->(x,NameKind.free)∈names\/(x,NameKind.cell)∈names
 |[],_,_,h,_=>by simp at h
 | (n,q)::r,x,k,h,hk=>by
   have ih:=@pQ scope env r x k;have h':List.lookup x ((if(q==NameKind.free&&env.scope.kind==.function&&env.kindOf n==some .cell)=true then(n,NameKind.cell)else(n,q))::r.map λ(n,k)=>if(k==NameKind.free&&env.scope.kind==.function&&env.kindOf n==some .cell)then(n,NameKind.cell)else(n,k))=some k:=h
   cases hx:x==n with
   | true=>
     have:=beq_iff_eq.mp hx;subst this;by_cases hcnd:(q==NameKind.free&&env.scope.kind==.function&&env.kindOf x==some .cell)=true
     · have:q=.free:=by
         rw[Bool.and_eq_true,Bool.and_eq_true]at hcnd;have:=hcnd.1.1;cases q<;>first|rfl|cases this
       subst this;exact .inl List.mem_cons_self
     · rw[if_neg hcnd,List.lookup_cons,beq_self_eq_true]at h'
       cases h';rcases hk with rfl|rfl
       ·exact .inr List.mem_cons_self
       ·exact .inl List.mem_cons_self
   | false=>
     refine(ih ?_ hk).imp (List.mem_cons_of_mem _) (List.mem_cons_of_mem _);by_cases hcnd:(q==NameKind.free&&env.scope.kind==.function&&env.kindOf n==some .cell)=true
     ·rw[if_pos hcnd,List.lookup_cons,hx]at h';exact h'
     ·rw[if_neg hcnd,List.lookup_cons,hx]at h';exact h'
theorem p5{env:Env}:∀ {names:List (Str×NameKind)} {x:Str},names.lookup x=some .free->(names.map λ(n,k)=>if(k==NameKind.free&&env.scope.kind==.function&&env.kindOf n==some .cell)then(n,NameKind.cell)else(n,k)).lookup x=some .cell\/
   (names.map λ(n,k)=>if(k==NameKind.free&&env.scope.kind==.function&&env.kindOf n==some .cell)then(n,NameKind.cell)else(n,k)).lookup x=some .free
 |[],_,h=>by simp at h
 | (n,q)::r,x,h=>by
   show List.lookup x ((if(q==NameKind.free&&env.scope.kind==.function&&env.kindOf n==some .cell)=true then(n,NameKind.cell)else(n,q))::r.map λ(n,k)=>if(k==NameKind.free&&env.scope.kind==.function&&env.kindOf n==some .cell)then(n,NameKind.cell)else(n,k))=_\/
     List.lookup x ((if(q==NameKind.free&&env.scope.kind==.function&&env.kindOf n==some .cell)=true then(n,NameKind.cell)else(n,q))::r.map λ(n,k)=>if(k==NameKind.free&&env.scope.kind==.function&&env.kindOf n==some .cell)then(n,NameKind.cell)else(n,k))=_
   rw[List.lookup_cons]at h;by_cases hcnd:(q==NameKind.free&&env.scope.kind==.function&&env.kindOf n==some .cell)=true
   · rw[if_pos hcnd,List.lookup_cons]
     cases hx:x==n with
     |true=>exact .inl rfl
     |false=>rw[hx]at h;exact p5 h
   · rw[if_neg hcnd,List.lookup_cons]
     cases hx:x==n with
     |true=>rw[hx]at h;exact .inr h
     |false=>rw[hx]at h;exact p5 h
structure iJ(X:Cx)(scope:Scope)(tn fv:List Str)(JH:List Nat):Prop where
 kind:scope.kind=.function
 cells:∀y∈scope.names,y.2=.cell->scope.names.lookup y.1=some .cell
 names:∀y∈scope.names,y.2=.local->scope.names.lookup y.1=some .local
 free:∀y∈scope.names,y.2=.free->X.env.scope.names.lookup y.1=some .cell
 wU:∀y∈scope.names,y.2=.free->scope.names.lookup y.1=some .free
 By:∀(j:Nat) i,JH[j]? =some i->∃x,fv[j]? =some x/\X.N[i]? =some x/\(x,NameKind.free)∈scope.names
 len:fv.length=JH.length
theorem GU (tn fv:List Str) (JH:List Nat) {elt iter target:Expr} {ifs:List Expr} {scope:Scope} {it:bB} {tg:bA} {cs:List aL} {el:Xt} (Lf:∀e s,¬X.xe e s) (hc:X.calm=true) (ok:iJ X scope tn fv JH) (hi:JI X target iter it) (low:iE tn.length tg)
   (ht:∀cl C s H fp,JG (cy X scope cl C (tn++fv) s H fp) target tg) (Lc:∀cl C s H fp,kj (cy X scope cl C (tn++fv) s H fp) ifs cs) (Ly:∀cl C s H fp,JX (cy X scope cl C (tn++fv) s H fp) elt el)
   (hs:∀x,foldedSetIterable iter X.env x=pure x) {use:Option (Value->Sem Unit)} {Qc:Value->Shared->Prop} {pins:List (Addr×Obj)} {s:Shared} {all:List T} {p1:Pos} (I:Inv X pins σ H s) (hr:aV (aB X) H F σ ρ) (e:vi it tn.length JH tg cs el ρ=.ok all)
   (Ln:∀D C s4 H' vs Hq bs F2 f,(∃m,s4.heap.Ns C m)->Inv X pins σ H' s4->cq X pins H' C->ak H Hq->Hq D=none->(∀b∈bs,H b=none)->bs.Nodup->(∀b,F2 b↔F b\/b∈bs)->au (aB X) Hq F2 all vs bs->upd Hq D (.lst vs)=H'->compPost (model X.prog X.w) X.A X.xe use Qc (.ref D) C (.ok f) s4):
   wpAny (model X.prog X.w) X.A (comprehension (.ListComp elt [⟨target,iter,ifs,0⟩] scope pos) scope X.env p1 (newList []) false (eval iter X.env) use) Qc X.xe s:=by
 obtain⟨ds,ed,e⟩:=av.mp e
 have hlen:ds.length<=sizeLine:=by
   by_cases h:ds.length<=dP
   ·exact h
   ·rw[if_neg h]at e;cases e
 rw[if_pos (show ds.length<=dP from hlen)]at e
 have ey:iy tg cs el (ent tn.length ρ JH) ds=.ok all:=e;obtain⟨cl,OB,Kb,NM⟩:=FU (scope:=scope) (env:=X.env) (λy hy hf=>I.ok.has y.1 (.inl (ok.free y hy hf)));refine wpAny_comprehension_free (gs:=[]) rfl hs OB ok.kind ok.names ?_;refine L2.aJ (hi pins s σ H _ I ⟨ρ,F,ds,hr,ed,λJ H' sm gv=>(⟨sm,gv⟩:ak H H'/\Gives (aB X) J H' F ds)⟩) λv s1 h1=>L2.aJ h1 λQJ s2 h2=>?_;obtain⟨Sn,fp,Rg,J,H2,rfl,I2,T,Lr,f2,O6,gv⟩:=h2;have r2:=hr.same O6;have SX:∀x c,cl.lookup x=some c->c<s2.heap.objs.size:=λx c h=>let⟨v,cc⟩:=I2.cell x c (Kb x c h);cc.lt
 refine wpAny_newObj_type (Ay (λx c h=>by show c<(Heap.push _ _).objs.size;rw[Heap.size_push];exact Nat.lt_succ_of_lt (SX x c h)) (λx y c hx hy=>I2.ok.inj x y c (Kb x c hx) (Kb y c hy)) λKI cells K5 Kz Qn Lm LK Ou=>?_)
 dsimp only at Kz K5 Lm LK ⊢;generalize hD:s2.heap.objs.size=D at Kz K5 Lm LK ⊢;generalize hP:s2.heap.push {cls:=.type "list",dict:=none,data:=.seq ([]:List Value).toArray}=HP at Kz K5 Lm LK ⊢;have hC:HP.objs.size=D+1:=by rw[<-hP,Heap.size_push,hD]
 generalize Ud:HP.objs.size=C at Kz Lm LK hC ⊢;have O0:∀b,b<s2.heap.objs.size->b≠C/\b≠D:=λb hb=>by rw[hD]at hb;exact⟨by omega,by omega⟩
 have old:∀b o,s2.heap.get? b=some o->KI.get? b=some o:=λb o e=>K5 b o (hP▸Heap.get?_push_of_some _ e);have Tn:D≠C:=by omega
 have My:KI.get? D=some {cls:=.type "list",data:=.seq ([]:List Value).toArray}:=K5 _ _ (hP▸(by rw[<-hD];exact Heap.get?_push_size _ rfl))
 have nD:H2 D=none:=I2.aH.fresh (Nat.le_of_eq hD);have nC:H2 C=none:=I2.aH.fresh (by omega)
 have M6:ak H2 (upd H2 D (.lst [])):=ak.bR nD _
 let X':Cx:=cy X scope cells C (tn++fv) s2 H2 fp
 have gG:∀x c,cells.lookup x=some c->∀b∈fp,c≠b:=λx c hx b hb=>by
   rcases Lm x c hx with h|⟨h,_⟩
   ·exact(f2 b hb).2.2.2.2.1 x c (Kb x c h)
   · obtain⟨o,ho,_⟩:=T.obj _ _ Lr b hb
     have:=Heap.lt_size ho;rw[hD]at this;exact Nat.ne_of_gt (Nat.lt_of_lt_of_le this (by omega))
 have Tc:X'.Ok:=by
   have P':=I2.ok.mod;refine⟨P',ok.kind,I2.ok.glob,I2.ok.blt,(show s2.heap.objs.size<=C by rw[hD];omega),Qn,λx hx=>?_,λx c hf hx=>?_,λh=>I2.ok.hd h,I2.ok.frames,.inl rfl,λb hb=>?_,λb o hb=>I2.bs b o hb,Nat.le_trans I2.ok.iG I2.sz,λb o hb hx=>?_,λb hb hf=>?_,I2.stack,I2.u6⟩
   · have Kn:(relabel scope X.env).names.lookup x=some .cell\/(relabel scope X.env).names.lookup x=some .free:=hx
     have T3:(x,NameKind.free)∈scope.names\/(x,NameKind.cell)∈scope.names:=by
       rcases Kn with h|h
       ·exact pQ (scope:=scope) h (.inl rfl)
       ·exact pQ (scope:=scope) h (.inr rfl)
     by_cases hm:(x,NameKind.cell)∈scope.names
     · obtain⟨c,h5,_⟩:=LK x hm
       exact⟨c,h5⟩
     · obtain⟨c,h5⟩:=NM x (T3.resolve_right hm)
       exact⟨c,Ou x c h5 hm⟩
   · have hf:decide ((x,NameKind.cell)∈scope.names)=true:=hf
     obtain⟨c',h5,h6⟩:=LK x (of_decide_eq_true hf);have hx:cells.lookup x=some c:=hx;rw[hx]at h5;cases h5;show s2.heap.objs.size<=c;rw[hD];omega
   · obtain⟨o,ho,_⟩:=T.obj _ _ Lr b hb
     exact⟨(O0 b (Heap.lt_size ho)).1,λx c hx=>gG x c hx b hb⟩
   · obtain⟨_,_,_,h4,_⟩:=f2 b hx
     rcases h4 with h4|h4
     ·exact I2.ok.mH b o hb h4
     ·exact absurd (Nat.lt_of_lt_of_le (Heap.lt_size hb) (Nat.le_trans I2.ok.iG h4)) (Nat.lt_irrefl _)
   · obtain⟨_,h1,h2,_⟩:=f2 b hb
     exact(List.mem_cons.mp (I2.oB b hf)).elim h1 h2
 have PB:∀ {H':Hp},(∀b∈fp,H' b=none)->∀b∈fp,cq X' [] H' b:=λhn b hb=>by
   obtain⟨o,ho,_⟩:=T.obj _ _ Lr b hb;refine⟨hn b hb,(O0 b (Heap.lt_size ho)).1,λhf=>?_,.inl hb,λx c hx=>gG x c hx b hb,λp hp=>nomatch hp⟩
   obtain⟨_,h1,h2,_⟩:=f2 b hb;exact(List.mem_cons.mp (I2.oB b hf)).elim h1 h2
 have I3:Inv X' [] (stC tn.length σ JH) (upd H2 D (.lst [])) {s2 with heap:=KI}:=by
   refine⟨Tc,rfl,I2.bare,Un.laid old (Nat.le_of_eq hD) nD,⟨_,Kz,λi x v hx hv Ul=>?_⟩,λx c hx=>?_,?_,λx c hx=>?_,λp hp=>(nomatch hp),I2.aH.laid old (Nat.le_of_eq hD) ⟨Nat.zero_le _,[],0,.nil,My⟩,?_⟩
   · have hx:(tn++fv)[i]? =some x:=hx
     by_cases hn:i<tn.length
     · unfold stC at hv
       rw[List.getElem?_append_left (by simpa using hn),List.getElem?_replicate,if_pos hn]at hv
       cases hv
     · have Lh:tn.length<=i:=by omega
       rw[List.getElem?_append_right Lh]at hx;unfold stC at hv;rw[List.getElem?_append_right (by simpa using Lh),List.length_replicate,List.getElem?_map]at hv
       cases ei:JH[i - tn.length]? with
       |none=>rw[ei]at hv;cases hv
       | some k=>
         rw[ei]at hv;obtain⟨x',Kn,hN,hf⟩:=ok.By _ _ ei;rw[hx]at Kn;cases Kn
         have Mn:σ[k]? =some (some v):=by
           have Pa:(σ[k]?).getD none=some v:=by simpa using hv
           cases ek:σ[k]? with
           |none=>rw[ek]at Pa;cases Pa
           |some z=>rw[ek]at Pa;exact congrArg some Pa
         obtain⟨m,hm,hl⟩:=I2.loc;have K0:X.env.scope.names.lookup x=some .cell:=ok.free _ hf rfl;obtain⟨u,ru,lk⟩:=hl k x v hN Mn (.inr (.inl K0));refine⟨u,ru,.inr ⟨?_,?_⟩⟩
         ·exact p5 (env:=X.env) (ok.wU _ hf rfl)
         · rcases lk with⟨h1,_⟩|⟨_,c,O2,cc⟩
           ·rw[show X.env.kindOf x=X.env.scope.names.lookup x from rfl,K0]at h1;cases h1
           · obtain⟨c',Ld⟩:=NM x hf
             have:=Kb x c' Ld;rw[O2]at this;cases this;refine⟨c,Ou x c Ld λhm=>?_,cc.keeps old⟩;have h1:=ok.cells _ hm rfl;have h2:=ok.wU _ hf rfl;dsimp only at h1 h2;rw[h1]at h2;cases h2
   · rcases Lm x c hx with hx|⟨_,cc⟩
     · obtain⟨v,cc⟩:=I2.cell x c (Kb x c hx)
       exact⟨v,cc.keeps old⟩
     ·exact⟨_,cc⟩
   · show upd H2 D (.lst []) C=none
     rw[L2.aE (Ne.symm Tn)];exact nC
   · show upd H2 D (.lst []) c=none
     rcases Lm x c hx with hx|⟨T4,_⟩
     · have h0:=I2.fI x c (Kb x c hx)
       obtain⟨v,cc⟩:=I2.cell x c (Kb x c hx);rw[L2.aE (O0 c cc.lt).2];exact h0
     ·rw[L2.aE (Nat.ne_of_gt (by omega))];exact I2.aH.fresh (by omega)
   · show(stC tn.length σ JH).length=(tn++fv).length
     unfold stC;simp[ok.len]
 have hM:aB X'=aB X:=rfl;have Kc:∀(j:Nat) z,(ent tn.length ρ JH)[j]? =some z->z=.un\/∃d,z=.sh d:=λj z h=>(jb h).imp (λh=>h) λh=>h.1;have Ll:∀(j:Nat) Jp,(ent tn.length ρ JH)[j]? ≠some (.on Jp):=λj Jp e=>by rcases Kc j _ e with z|⟨_,z⟩<;>cases z
 have Rl:∀ {NN:Hp} {F':Addr->Prop} {bs:List Addr},(∀b,F' b↔F b\/b=D\/b∈bs)->(∀b∈bs,H2 b=none)->ak H2 NN->Mv F H2 F' NN:=λhF hb sm b o n e=>⟨λh=>((hF b).mp h).elim n (λz=>z.elim (λz=>by subst z;rw[nD]at e;cases e) λz=>by rw[hb b z]at e;cases e),sm b o e⟩
 have r3:aV (aB X) (upd H2 D (.lst [])) (λb=>F b\/b=D\/b∈([]:List Addr)) (stC tn.length σ JH) (ent tn.length ρ JH):=by
   have r0:=(zP (n:=tn.length) (fv:=JH) r2)
   exact⟨r0.len,λb f=>by
       by_cases hb:b=D
       ·subst hb;exact⟨_,L2.bf⟩
       · obtain⟨o,ho⟩:=r0.aX b (f.resolve_right λz=>z.elim hb λz=>nomatch z)
         exact⟨o,M6 _ _ ho⟩,λi d e=>let⟨v,h1,h2⟩:=r0.sh i d e;⟨v,h1,h2.mv (Rl (bs:=[]) (λ_=>Iff.rfl) (λ_ z=>nomatch z) M6)⟩,λi d e=>(iK Kc (.inl ⟨_,e⟩)).elim,λi k d e=>(iK Kc (.inr ⟨_,_,e⟩)).elim,λi j a o=>(iK Kc o).elim,.no Ll⟩
 let R0:Result->Shared->Prop:=compPost (model X.prog X.w) X.A X.xe use Qc (.ref D) C
 have loop:codeAny (model X.prog X.w) X.A (.compLoop (.ListComp elt [⟨target,iter,ifs,0⟩] scope pos) 0 (.ref Sn) (.ref D) X'.env) R0 {s2 with heap:=KI}:=by
   refine CY (λn s'=>∃i Jl H' vs as bs F',n=ds.length - i/\i<=ds.length/\Inv X' [] Jl H' s'/\Rg i s'.heap/\(∀b∈fp,H' b=none)/\ak H2 H'/\H' D=some (.lst vs)/\vs.length<=i/\((∀b,F' b↔F b\/b=D\/b∈bs)/\(∀b∈bs,H2 b=none/\b≠D)/\bs.Nodup)/\au (aB X) H' F' as vs bs/\
       aV (aB X) H' F' Jl (ent tn.length ρ JH)/\∃rest,iy tg cs el (ent tn.length ρ JH) (ds.drop i)=.ok rest/\as++rest=all) ?_ ds.length
     ⟨0,_,_,[],[],[],_,rfl,Nat.zero_le _,I3,T.keep _ _ _ Lr λb _ o e=>old b o e,λb hb=>?_,M6,L2.bf,Nat.zero_le _,⟨λ_=>Iff.rfl,λ_ z=>(nomatch z),List.nodup_nil⟩,by rw[au];exact⟨rfl,rfl⟩,r3,all,ey,rfl⟩
   · rintro n s' ⟨i,Jl,H',vs,as,bs,F',rfl,QL,I',KG,Ry,OV,eD,Ug,⟨hF,MC,Lp⟩,O1,rS,rest,JJ,Mo⟩
     obtain⟨g1,g2⟩:=gv H' F' (Rl hF (λb hb=>(MC b hb).1) OV) rS.aX;by_cases JC:i<ds.length
     · obtain ⟨go,gy⟩:=g1 i ds[i] (by simp[JC])
       refine L2.aJ (T.item X' rfl rfl rfl hc i [] s' Jl H' _ I' (PB Ry) KG go) λr s4 ⟨u,Qh,h4⟩=>?_;subst Qh;refine L2.aJ h4 λ_ s5 ⟨x,H5,I5,r5,y5,Nr,P6⟩=>?_;obtain⟨Mq,rx⟩:=gy x H5 y5;rw[List.drop_eq_getElem_cons JC]at JJ;unfold iy at JJ;obtain⟨JN,eg,JJ⟩:=av.mp JJ;obtain⟨t,et,JJ⟩:=av.mp JJ;have R3:=rS.same Mq;have rG:aT (aB X) H2 ⟨H2,λ_=>False,none⟩ H5 F' Jl (ent tn.length ρ JH):=⟨R3,OV.trans Mq,λ_ h=>h.elim,λ_ h=>h.elim,λj a o=>(iK Kc o).elim,λj Jp _ e=>absurd e (Ll j Jp),λw hw=>nomatch hw⟩
       have Q4:Inv X' ([]++L2.jJ fp s5.heap) Jl H5 s5:=I5.pinned (PB P6) (T.obj _ _ Nr);refine wpAny_mono (ht cells C s2 H2 fp ⟨H2,λ_=>False,none⟩ _ s5 Jl H5 x u (λLD H6=>H6=H5/\aT (aB X) H2 ⟨H2,λ_=>False,none⟩ H5 F' LD JN) Q4 r5 ⟨ent tn.length ρ JH,F',ds[i],JN,rG,rx,eg,λLD r6=>⟨rfl,r6⟩⟩) (λ_ s6 ⟨LD,H6,I6,h6,r6⟩=>?_) (λe s f=>(Lf e s f).elim);subst h6;refine wpAny_mono (sR (X:=X') (M:=aB X) (E:=X.xe) rfl (λ_ _ h=>h) (Lc cells C s2 H2 fp) (Q:=λb H7=>b=t/\ak H6 H7) I6 r6.rs et (λH7 s7=>⟨rfl,s7⟩)) (λb s7 ⟨H7,I7,hb,Mj⟩=>?_) (λe s f=>(Lf e s f).elim);subst hb;have QP:ak H2 H7:=(OV.trans Mq).trans Mj;have D7:H7 D=some (.lst vs):=Mj _ _ (Mq _ _ eD);have NK:=low _ _ _ eg
       have back:∀ {NN:Hp} {Ra:Addr->Prop},aV (aB X) NN Ra LD JN->aV (aB X) NN Ra LD (ent tn.length ρ JH):=λr=>r.less NK.1.symm λj z hz=>by
         rcases jb hz with h|⟨h,hn,_⟩
         ·exact .inl h
         ·exact .inr ⟨h,by rw[NK.2 j hn];exact hz⟩
       have again:∀ {s8:Shared} {H8:Hp},Inv X' ([]++L2.jJ fp s5.heap) LD H8 s8->Inv X' [] LD H8 s8/\Rg (i+1) s8.heap/\∀b∈fp,H8 b=none:=λ{s8 H8} I8=>by
         refine⟨I8.nh,T.keep _ _ _ Nr λb hb o e=>(I8.pin (b,o) (List.mem_append_right _ (List.mem_append_right _ (L2.nM hb e)))).1,λb hb=>?_⟩;obtain⟨o,e,d⟩:=T.obj _ _ Nr b hb;exact(I8.pin (b,o) (List.mem_append_right _ (List.mem_append_right _ (L2.nM hb e)))).2.1
       cases b with
       | false=>
         rw[if_neg (by decide)]at JJ
         rw[if_neg (by decide)]
         obtain⟨a1,a2,a3⟩:=again I7;exact⟨ds.length - (i+1),by omega,i+1,LD,H7,vs,as,bs,F',rfl,JC,a1,a2,a3,QP,D7,by omega,⟨hF,MC,Lp⟩,O1.mv (.same (Mq.trans Mj)) (λb _ u f hu=>⟨f,Mj _ _ (Mq _ _ hu)⟩),back (r6.rs.same Mj),rest,JJ,Mo⟩
       | true=>
         rw[if_pos rfl]at JJ;rw[if_pos rfl];obtain⟨y,R5,JJ⟩:=av.mp JJ;obtain⟨S9,Nb,JJ⟩:=av.mp JJ;cases JJ;refine wpAny_mono (Ly cells C s2 H2 fp _ s7 LD H7 (λv H8=>∃F8 Lv,ak H7 H8/\(∀b∈Lv,H7 b=none)/\Lv.Nodup/\(∀b,F8 b↔F' b\/b∈Lv)/\ah (aB X) H8 F8 y v Lv) I7 ⟨JN,F',y,r6.rs.same Mj,R5,λv H8 F8 Lv s8 h1 h2 h3 h4=>⟨F8,Lv,s8,h1,h2,h3,h4⟩⟩) (λu2 s8 ⟨v,H8,I8,SY,F8,Lv,Oo,NZ,R',Ov,Oi⟩=>?_) (λe s f=>(Lf e s f).elim);have D8:H8 D=some (.lst vs):=Oo _ _ D7;refine wpAny_mono (L2.rY (X:=X') _ s8 LD H8 (.ref D) [v] (.ref D) [u2] (λ_ H9=>H9=upd H8 D (.lst (vs++[v]))) I8 rfl (.cons SY .nil) ⟨D,vs,v,rfl,rfl,D8,by omega,rfl⟩) (λ_ s9 ⟨_,H9,I9,_,h9⟩=>?_) (λe s f=>(Lf e s f).elim)
         subst h9;obtain⟨a1,a2,a3⟩:=again I9;have Q8:D∉Lv:=λh=>by rw[NZ D h]at D7;cases D7
         have fD:F8 D:=(Ov D).mpr (.inl ((hF D).mpr (.inr (.inl rfl))));have Qm:Mv F8 H8 F8 (upd H8 D (.lst (vs++[v]))):=λb o n e=>⟨n,by rw[L2.aE (λz=>by subst z;exact n fD)];exact e⟩
         have R9:Mv F' H' F8 H8:=λb o n e=>by
           have e7:=Mj _ _ (Mq _ _ e);exact⟨λf=>((Ov b).mp f).elim n (λhb=>by rw[NZ b hb]at e7;cases e7),Oo _ _ e7⟩
         have N1:Mv F' H' F8 (upd H8 D (.lst (vs++[v]))):=Mv.trans R9 Qm
         have apart:∀a∈bs,∀b∈Lv,a≠b:=λa ha b hb z=>by
           subst z;obtain⟨_,u,hu⟩:=O1.fs a ha;have:=Mj _ _ (Mq _ _ hu);rw[NZ a hb]at this;cases this
         have NW:∀b∈bs,∀u,F' b->H' b=some u->F8 b/\upd H8 D (.lst (vs++[v])) b=some u:=λb hb u f hu=>⟨(Ov b).mpr (.inl f),by rw[L2.aE (MC b hb).2];exact Oo _ _ (Mj _ _ (Mq _ _ hu))⟩
         have OA:∀b∈Lv,∀u,F8 b->H8 b=some u->F8 b/\upd H8 D (.lst (vs++[v])) b=some u:=λb hb u f hu=>⟨f,by rw[L2.aE (λz=>by subst z;exact Q8 hb)];exact hu⟩
         have r8:=back ((r6.rs.same Mj).wide Oo NZ Ov (λb hb=>(Oi.fs b hb).2)).2;refine⟨ds.length - (i+1),by omega,i+1,LD,_,vs++[v],as++[y],bs++Lv,F8,rfl,JC,a1,a2,a3,λb o e=>?_,L2.bf,by simp;omega,⟨λb=>?_,λb hb=>?_,List.nodup_append.mpr ⟨Lp,R',apart⟩⟩,au.append (O1.mv N1 NW) ?_,?_,S9,Nb,by rw[List.append_assoc];exact Mo⟩
         ·rw[L2.aE (λz=>by subst z;rw[nD]at e;cases e)];exact Oo _ _ (QP _ _ e)
         ·rw[Ov b,hF b,List.mem_append,or_assoc,or_assoc]
         · rcases List.mem_append.mp hb with hb|hb
           ·exact MC b hb
           ·exact⟨QP.free (NZ b hb),λz=>by subst z;exact Q8 hb⟩
         · rw[show Lv=Lv++[] by simp]
           simp only[au];exact⟨v,[],Lv,[],rfl,rfl,Oi.mv Qm OA,rfl,rfl⟩
         · exact⟨r8.len,λb f=>by
             by_cases hb:b=D
             ·subst hb;exact⟨_,L2.bf⟩
             · obtain⟨o,ho⟩:=r8.aX b f
               exact⟨o,by rw[L2.aE hb];exact ho⟩,λi d e=>let⟨v,h1,h2⟩:=r8.sh i d e;⟨v,h1,h2.mv Qm⟩,λi d e=>(iK Kc (.inl ⟨_,e⟩)).elim,λi k d e=>(iK Kc (.inr ⟨_,_,e⟩)).elim,λi j a o=>(iK Kc o).elim,.no Ll⟩
     · have ei:i=ds.length:=by omega
       subst ei;rw[List.drop_length]at JJ;cases JJ;rw[List.append_nil]at Mo;subst Mo;refine L2.aJ (T.done X' rfl rfl rfl hc _ [] s' Jl H' _ I' (PB Ry) KG g2) λr s4 ⟨Qh,I4⟩=>?_;subst Qh;obtain⟨m,hm,_⟩:=I4.loc;have C4:H' C=none:=I4.free;have u4:Un (L2.d6 X.stack) fp H2 H' s2.heap s4.heap:=I4.base
       have I5:Inv X pins σ H' s4:=I2.qZ (s':=s4) (ch:=fp) I4.os u4 I4.aH I4.bare λb hb=>by
         obtain⟨_,a1,a2,a3,a4,a5⟩:=f2 b hb;exact⟨a3,a1,a4,a5⟩
       have fC:cq X pins H' C:=I2.mz (by omega) C4
       have hH:∃Hq:Hp,ak H Hq/\Hq D=none/\au (aB X) Hq (λb=>F b\/b∈bs) as vs bs/\upd Hq D (.lst vs)=H':=by
         refine⟨λb=>if b=D then none else H' b,λb o e=>?_,by simp,?_,?_⟩
         · have hb:b≠D:=λz=>by subst z;have:=O6 _ _ e;rw[nD]at this;cases this
           simp only[if_neg hb];exact OV _ _ (O6 _ _ e)
         · refine O1.mv (λb o n e=>⟨λf=>n ((hF b).mpr (f.imp id .inr)),?_⟩) λb hb u f hu=>⟨.inr hb,?_⟩
           · have hb:b≠D:=λz=>n ((hF b).mpr (.inr (.inl z)))
             simp only[if_neg hb];exact e
           · simp only[if_neg (MC b hb).2]
             exact hu
         · funext b
           unfold upd;by_cases hb:b=D
           ·simp only[if_pos hb];rw[hb];exact eD.symm
           ·simp only[if_neg hb]
       obtain⟨Hq,q1,q2,q3,q4⟩:=hH;exact Ln D C s4 H' vs Hq bs _ _ ⟨m,hm⟩ I5 fC q1 q2 (λb hb=>O6.free (MC b hb).1) Lp (λ_=>Iff.rfl) q3 q4
   · show upd H2 D (.lst []) b=none
     obtain⟨o,ho,_⟩:=T.obj _ _ Lr b hb;rw[L2.aE (O0 b (Heap.lt_size ho)).2];exact(f2 b hb).1
 exact codeAny_compStart_list loop (T.self _ 0 _ _ _ (T.keep _ _ _ Lr λb _ o e=>old b o e) loop)
theorem sO(tn fv:List Str)(JH:List Nat){elt iter target:Expr}{ifs:List Expr}{scope:Scope}{it:bB}{tg:bA}{cs:List aL}{el:Ex}(Lf:∀e s,¬X.xe e s)(hc:X.calm=true)(ok:iJ X scope tn fv JH)(hi:JI X target iter it)(low:iE tn.length tg)
   (ht:∀cl C s H fp,JG (cy X scope cl C (tn++fv) s H fp) target tg) (Lc:∀cl C s H fp,kj (cy X scope cl C (tn++fv) s H fp) ifs cs) (Ly:∀cl C s H fp,JE (cy X scope cl C (tn++fv) s H fp) elt el)
   (hs:∀x,foldedSetIterable iter X.env x=pure x) {use:Option (Value->Sem Unit)} {Qc:Value->Shared->Prop} {pins:List (Addr×Obj)} {s:Shared} {all:List D} {p1:Pos} (I:Inv X pins σ H s) (hr:aV (aB X) H F σ ρ) (e:bW it tn.length JH tg cs el ρ=.ok (.lst all))
   (Ln:∀D C s4 H' vs Hq f,(∃m,s4.heap.Ns C m)->Inv X pins σ H' s4->cq X pins H' C->ak H Hq->Hq D=none->ag (aB X) Hq F all vs->upd Hq D (.lst vs)=H'->compPost (model X.prog X.w) X.A X.xe use Qc (.ref D) C (.ok f) s4):
   wpAny (model X.prog X.w) X.A (comprehension (.ListComp elt [⟨target,iter,ifs,0⟩] scope pos) scope X.env p1 (newList []) false (eval iter X.env) use) Qc X.xe s:=by
 obtain⟨ds,ed,e⟩:=av.mp e
 have hlen:ds.length<=dP:=by
   by_cases h:ds.length<=dP
   ·exact h
   ·rw[if_neg h]at e;cases e
 rw[if_pos hlen]at e;obtain⟨ys,ey,e⟩:=av.mp e;cases e;refine GU (all:=all.map .d) (el:=xD el) tn fv JH Lf hc ok hi low ht Lc (λcl C s H fp=>wI (Ly cl C s H fp)) hs I hr (by unfold vi;rw[ed,R.aQ,if_pos hlen];exact qM ey) λD C s4 H' vs Hq bs F2 f hm I5 fC q1 q2 q3 q4 q5 q6 q7=>?_
 obtain⟨rfl,rs⟩:=gg.mp q6;exact Ln D C s4 H' vs Hq f hm I5 fC q1 q2 (rs.mv λb o n e=>⟨λh=>n ((q5 b).mpr (.inl h)),e⟩) q7
theorem Ga(tn fv:List Str)(JH:List Nat){elt iter target:Expr}{ifs:List Expr}{scope:Scope}{it:bB}{tg:bA}{cs:List aL}{el:Ex}(Lf:∀e s,¬X.xe e s)(hc:X.calm=true)(ok:iJ X scope tn fv JH)(hi:JI X target iter it)(low:iE tn.length tg)
   (ht:∀cl C s H fp,JG (cy X scope cl C (tn++fv) s H fp) target tg) (Lc:∀cl C s H fp,kj (cy X scope cl C (tn++fv) s H fp) ifs cs) (Ly:∀cl C s H fp,JE (cy X scope cl C (tn++fv) s H fp) elt el)
   (hs:∀x,foldedSetIterable iter X.env x=pure x):JF X (.ListComp elt [⟨target,iter,ifs,0⟩] scope pos) (bW it tn.length JH tg cs el):=by
 intro pins s σ H Q I ⟨ρ,F,all,hr,e,q⟩;show wpAny _ _ (comprehension (.ListComp elt [⟨target,iter,ifs,0⟩] scope pos) scope X.env _ (newList []) false (eval iter X.env) none) _ _ s;refine sO tn fv JH Lf hc ok hi low ht Lc Ly hs I hr e λD C s4 H' vs Hq f hm I5 fC q1 q2 q3 q4=>?_;obtain⟨m,hm⟩:=hm;refine⟨m,hm,λh' KP=>⟨.ref D,H',I5.turned (t':=s4.toks) (λb o n e=>by rw[KP.2 b n];exact e) fC.1 fC.2.1 fC.2.2.2.1 fC.2.2.2.2.1 fC.2.2.2.2.2,rfl,?_⟩⟩
 rw[<-q4];exact q D Hq vs q1 q2 q3
theorem sL(i:Nat){y:Str}{py KW:Pos}(tn fv:List Str)(JH:List Nat){elt iter target:Expr}{ifs:List Expr}{scope:Scope}{it:bB}{tg:bA}{cs:List aL}{el:Ex}(Lf:∀e s,¬X.xe e s)(hc:X.calm=true)(ok:iJ X scope tn fv JH)(hi:JI X target iter it)(low:iE tn.length tg)
   (ht:∀cl C s H fp,JG (cy X scope cl C (tn++fv) s H fp) target tg) (Lc:∀cl C s H fp,kj (cy X scope cl C (tn++fv) s H fp) ifs cs) (Ly:∀cl C s H fp,JE (cy X scope cl C (tn++fv) s H fp) elt el)
   (hs:∀x,foldedSetIterable iter X.env x=pure x) (hN:X.N.Nodup) (hy:X.N[i]? =some y) (hx:L2.Loc X.env.scope y) (hf:X.fn y=true\/X.env.scope.names.lookup y=some .local)
   (KJ:swapsWith (.ListComp elt [⟨target,iter,ifs,0⟩] scope pos) (some (.Name y py)) KW.line X.env=pure true):PS X (.Assign [.Name y py] (.ListComp elt [⟨target,iter,ifs,0⟩] scope pos) KW) (L2.kC (j6 (aB X) (bW it tn.length JH tg cs el)) (L2.az i)):=by
 intro pins s σ H D I ⟨ρ,F,all,hr,e,q⟩;rw[exec_Assign_Name_used _ _ _ _ KJ];refine wpAny_bind (wpAny_standAt (wpAny_bind ?_));show wpAny _ _ (do let _ <-comprehension (.ListComp elt [⟨target,iter,ifs,0⟩] scope pos) scope X.env _ (newList []) false (eval iter X.env) (some (assign (.Name y py) X.env))) _ _ s
 refine wpAny_bind (L2.aJ (sO (Qc:=λ_ s'=>L2.SP X pins D .next s') tn fv JH Lf hc ok hi low ht Lc Ly hs I hr e λD1 C s4 H' vs Hq f hm I5 fC q1 q2 q3 q4=>?_) λ_ s' hq=>wpAny_pure (wpAny_pure hq));obtain⟨m,hm⟩:=hm;show wpAny _ _ (assign (.Name y py) X.env (.ref D1)) _ _ _;refine wpAny_assign_Name (L2.vX (v:=.ref D1) I5 hN hy hx rfl (λs5 I6 KP=>?_) hf);obtain⟨a,KP,ha⟩:=KP
 have Sf:C≠a:=by
   rcases ha with z|z
   ·rw[z];exact fC.2.1
   ·exact λe=>fC.2.2.2.2.1 _ _ z e.symm
 refine⟨m,hm.sameBut KP Sf,λh' Pw=>⟨_,H',I6.turned (t':=s5.toks) (λb o n e=>by rw[Pw.2 b n];exact e) fC.1 fC.2.1 fC.2.2.2.1 fC.2.2.2.2.1 fC.2.2.2.2.2,?_⟩⟩
 rw[<-q4];exact q D1 Hq vs q1 q2 q3
end
section
variable{X:Cx}{M:Md}{G H H':Hp}{F0:Gf}{F F':Addr->Prop}{σ:L2.St}{ρ:En}{pos:Pos}{pins:List (Addr×Obj)}{s:Shared}
theorem pF{e:Expr}{f:Ex}(h:JF X e f)(hl:∀ρ d,f ρ=.ok d->∃ds,d=.lst ds):JE X e f:=
 bz h λσ H Q ⟨ρ,F,d,hr,e,q⟩=>by
   obtain⟨ds,rfl⟩:=hl _ _ e;exact⟨ρ,F,ds,hr,e,λp H' xs sm hp rs=>q _ _ (sm.trans (ak.bR hp _)) (iQ (hr.same sm).aX hp rs)⟩
theorem qp{it:bB}{n:Nat}{fv:List Nat}{tg:bA}{cs:List aL}{el:Ex}(ρ:En)(d:D)(h:bW it n fv tg cs el ρ=.ok d):∃ds,d=.lst ds:=by
 obtain⟨ds,_,h⟩:=av.mp h;split at h
 · obtain⟨ys,_,h⟩:=av.mp h
   cases h;exact⟨_,rfl⟩
 ·cases h
noncomputable def wc(Pf:Scope)(N0:List Str)(scope:Scope)(fv:List Str)(JH:List Nat):Bool:=
 decide (scope.kind=.function)&&scope.names.all (λy=>(decide (y.2≠.cell)||decide (scope.names.lookup y.1=some .cell))&&(decide (y.2≠.local)||decide (scope.names.lookup y.1=some .local))&&(decide (y.2≠.free)||(decide (Pf.names.lookup y.1=some .cell)&&decide (scope.names.lookup y.1=some .free))))
   &&decide (fv.length=JH.length)&&(JH.zip fv).all (λp=>decide (N0[p.1]? =some p.2)&&decide ((p.2,NameKind.free)∈scope.names))
theorem gh{scope:Scope}{tn fv:List Str}{JH:List Nat}(Pf:Scope)(N0:List Str)(h1:X.env.scope=Pf)(h2:X.N=N0)(h:wc Pf N0 scope fv JH=true):iJ X scope tn fv JH:=by
 subst h1 h2;unfold wc at h;rw[Bool.and_eq_true,Bool.and_eq_true,Bool.and_eq_true,decide_eq_true_eq,decide_eq_true_eq,List.all_eq_true,List.all_eq_true]at h;obtain⟨⟨⟨hk,hn⟩,hl⟩,hf⟩:=h
 have Lh:∀y∈scope.names,(y.2≠.cell\/scope.names.lookup y.1=some .cell)/\(y.2≠.local\/scope.names.lookup y.1=some .local)/\(y.2≠.free\/(X.env.scope.names.lookup y.1=some .cell/\scope.names.lookup y.1=some .free)):=λy hy=>by
   have:=hn y hy;simp only[Bool.and_eq_true,Bool.or_eq_true,decide_eq_true_eq]at this;exact⟨this.1.1,this.1.2,this.2⟩
 refine⟨hk,λy hy hl=>(Lh y hy).1.resolve_left (λh=>h hl),λy hy hl=>(Lh y hy).2.1.resolve_left (λh=>h hl),λy hy hl=>((Lh y hy).2.2.resolve_left (λh=>h hl)).1,λy hy hl=>((Lh y hy).2.2.resolve_left (λh=>h hl)).2,λj i hj=>?_,hl⟩;obtain⟨Ui,_⟩:=List.getElem?_eq_some_iff.mp hj;have hx:fv[j]? =some (fv[j]'(by omega)):=List.getElem?_eq_getElem (by omega)
 have hm:(i,fv[j]'(by omega))∈JH.zip fv:=by
   refine List.mem_iff_getElem?.mpr ⟨j,?_⟩;rw[List.getElem?_zip_eq_some];exact⟨hj,hx⟩
 have:=hf _ hm;simp only[Bool.and_eq_true,decide_eq_true_eq]at this;exact⟨_,hx,this.1,this.2⟩
theorem sy{d:D}{v:V}(f:flat d=true)(r:Rep M H F d v):L2.gF v=true:=by
 cases d<;>first|(simp only[Rep]at r;subst r;rfl)|(cases f)
theorem qm:∀ {ds:List D} {vs:List V},ds.all flat=true->ag M H F ds vs->vs.all L2.gF=true
 |[],_,_,r=>by simp only[ag]at r;subst r;rfl
 | d::ds,_,f,r=>by
   rw[List.all_cons,Bool.and_eq_true]at f;simp only[ag]at r;obtain⟨x,t,rfl,r1,r2⟩:=r;rw[List.all_cons,sy f.1 r1,qm f.2 r2];rfl
theorem EC{a b:D}{x y:V}(fa:flat a=true)(fb:flat b=true)(ra:Rep M H F a x)(rb:Rep M H F b y):L2.fS x y=bq a b:=by
 cases a<;>(try cases fa)<;>cases b<;>(try cases fb)<;>simp only[Rep]at ra rb<;>subst ra<;>subst rb<;>first|rfl|(simp only[L2.fS,bq];exact str_beq _ _)
theorem pz:∀ {ds:List D} {vs:List V} {b:D} {y:V},ds.all flat=true->flat b=true->ag M H F ds vs->Rep M H F b y->L2.nR y vs=ds.any λd=>bq d b
 |[],_,_,_,_,_,r,_=>by simp only[ag]at r;subst r;rfl
 | d::ds,_,b,y,f,fb,r,rb=>by
   rw[List.all_cons,Bool.and_eq_true]at f;simp only[ag]at r;obtain⟨x,t,rfl,r1,r2⟩:=r;show(L2.fS x y||L2.nR y t)=(bq d b||ds.any λd=>bq d b);rw[EC f.1 fb r1 rb,pz f.2 fb r2 rb]
theorem zj{ks:List Ky}{xs:List V}{ds:List D}:∀(k:Ky),ks.length=xs.length->ag M H F ds xs->(cA k ks ds=none->L2.c8 (ks.zip xs) k=none)/\∀d,cA k ks ds=some d->∃v,L2.c8 (ks.zip xs) k=some v/\Rep M H F d v:=by
 induction ks generalizing xs ds with
 | nil=>
   intro k hl r;cases xs with
   |nil=>exact⟨λ_=>rfl,λd h=>by simp[cA]at h⟩
   |cons _ _=>simp at hl
 | cons a ks ih=>
   intro k hl r;cases xs with
   |nil=>simp at hl
   | cons x xs=>
     cases ds with
     |nil=>simp only[ag]at r;cases r
     | cons d0 ds=>
       simp only[ag]at r;obtain⟨x',t,e,r1,r2⟩:=r;cases e;have ih:=ih (xs:=xs) (ds:=ds) k (by simpa using hl) r2
       have hz:(a::ks).zip (x::xs)=(a,x)::ks.zip xs:=rfl;rw[hz];by_cases hk:a=k
       · subst hk
         have h1:L2.c8 ((a,x)::ks.zip xs) a=some x:=by simp[L2.c8]
         refine⟨λh=>by simp[cA]at h,λd h=>⟨x,h1,?_⟩⟩
         simp[cA]at h;subst h;exact r1
       · have h1:L2.c8 ((a,x)::ks.zip xs) k=L2.c8 (ks.zip xs) k:=by simp[L2.c8,hk]
         rw[h1];refine⟨λh=>ih.1 (by simpa[cA,hk] using h),λd h=>ih.2 d (by simpa[cA,hk] using h)⟩
theorem iB{d:D}{k:Ky}{v:V}(h:keyOf d=some k)(r:Rep M H F d v):v=L2.kV k:=by
 cases d with
 |int i=>cases h;exact br r
 |str x=>cases h;exact fL r
 |_=>cases h
theorem rf{a:Addr}{ks:List Ky}{ds:List D}{xs:List V}(I:Inv X pins σ H s)(h:er (aB X) H F a (ks.zip xs))(hl:ks.length=xs.length)(rs:ag (aB X) H F ds xs)(k:Ky):
   ∃vs,s.heap.DictOf (L2.bx X.prog X.w) a vs/\(a==sysModules)=false/\(cA k ks ds=none->valueAt vs k=none)/\∀d,cA k ks ds=some d->∃v u,valueAt vs k=some u/\RelV v u/\Rep (aB X) H F d v:=by
 obtain⟨z,hd,vs,rel,dd⟩:=gz I h;obtain⟨f1,f2⟩:=zj (M:=aB X) (H:=H) (F:=F) k hl rs;refine⟨vs,dd,hd,λhn=>?_,λd Tw=>?_⟩
 ·exact L2.fj.none_of (by rw[<-f1 hn];exact L2.KV.val rel k)
 · obtain⟨v,hv,rv⟩:=f2 d Tw
   obtain⟨u,hu,ru⟩:=L2.fj.some_of (v:=v) (o:=valueAt vs k) (by rw[<-hv];exact L2.KV.val rel k)
   exact⟨v,u,hu,ru,rv⟩
def um(M:Md):R2:=λx y H Q=>L2.oE M.K x y H Q\/∃F a b d,Rep M H F a x/\Rep M H F b y/\kc a b=.ok d/\∀v,Rep M H F d v->Q v H
theorem Fv:L2.fB X (um (aB X)):=by
 refine L2.fB.or L2.uT ?_;intro value slice pins s σ H x y v u Q I rx ry h hs;obtain⟨F,a,b,d,ra,rb,e,q⟩:=h;unfold kc at e;split at e
 · rename_i ks vs
   split at e
   · rename_i k hk
     split at e
     · rename_i d' hf
       cases e;simp only[Rep]at ra;obtain⟨p,xs,rfl,h1,hl,rs⟩:=ra;cases rx;cases iB hk rb;obtain⟨ws,dd,hd,f1,f2⟩:=rf I h1 hl rs k;obtain⟨w,w',hw,Km,rd⟩:=f2 _ hf;exact PyProof.Rows.tail_any dd.typeIs PySem.F.slot_dict_getitem.lookup (wpAny_getItem_of (L2.jn ry) dd.mapOf hw ⟨w,H,I.tok _,Km,q w rd⟩) hs
     ·cases e
   ·cases e
 ·cases e
theorem HK:cz M af (um M):=by
 intro F H x y a b d Q tr ra rb e q;cases a with
 |lst xs=>exact .inl (pP F H x y _ b d Q tr ra rb e q)
 |tup xs=>exact .inl (pP F H x y _ b d Q tr ra rb e q)
 |str z=>exact .inl (pP F H x y _ b d Q tr ra rb e q)
 |aN ks vs=>exact .inr ⟨F,_,b,d,ra,rb,e,λv rv=>q v H (ak.refl H) rv⟩
 |_=>cases e
theorem Gb{a b:Expr}{fa fb:Ex}(ha:JE X a fa)(hb:JE X b fb)(hs:L2.jT b:=by exact λ_ _=>rfl):JE X (.Subscript a b pos) (e2 af fa fb):=
 bz (L2.wR Fv ha hb hs) λσ H Q h=>ph HK h
def oZ(M:Md)(neg:Bool):R2:=λx y H Q=>∃F a b k,Rep M H F a x/\Rep M H F b y/\cu a b=.ok (.bl k)/\Q (.bl (if neg then !k else k)) H
theorem tY{a b:D}{k:Bool}(h:cu a b=.ok (.bl k)):(∃ys,(b=.lst ys\/b=.tup ys)/\flat a=true/\ys.all flat=true/\k=ys.any λy=>bq y a)\/∃ks vs q,b=.aN ks vs/\keyOf a=some q/\k=(cA q ks vs).isSome:=by
 cases b with
 | lst ys=>
   have h':(if flat a=true/\ys.all flat=true then(R.ok (D.bl (ys.any λy=>bq y a)):R D)else .bad)=.ok (.bl k):=by cases a<;>exact h
   split at h'
   ·rename_i c;cases h';exact .inl ⟨ys,.inl rfl,c.1,c.2,rfl⟩
   ·cases h'
 | tup ys=>
   have h':(if flat a=true/\ys.all flat=true then(R.ok (D.bl (ys.any λy=>bq y a)):R D)else .bad)=.ok (.bl k):=by cases a<;>exact h
   split at h'
   ·rename_i c;cases h';exact .inl ⟨ys,.inr rfl,c.1,c.2,rfl⟩
   ·cases h'
 | aN ks vs=>
   cases hq:keyOf a with
   |none=>cases a<;>simp[hq]at h
   | some q=>
     refine .inr ⟨ks,vs,q,rfl,rfl,?_⟩;cases a<;>simp[hq]at h<;>exact h.symm
 |str y=>cases a<;>simp at h
 |_=>cases a<;>simp at h
theorem kJ(hu:X.A.units+64<cLine):aZ X (compareOp .In) (oZ (aB X) false):=by
 intro pins s σ H x y v u Q I rx ry h;obtain⟨F,a,b,k,ra,rb,e,q⟩:=h;rcases tY e with⟨ys,hb,fa,fs,rfl⟩|⟨ks,vs,q',rfl,hq,rfl⟩
 · have:∃p xs,y=.ref p/\(a8 X.K H p xs\/bo X.K H p xs)/\ag (aB X) H F ys xs:=by
     rcases hb with rfl|rfl
     ·simp only[Rep]at rb;obtain⟨p,xs,e,h1,h2⟩:=rb;exact⟨p,xs,e,.inl h1.sq,h2⟩
     ·simp only[Rep]at rb;obtain⟨p,xs,e,h1,h2⟩:=rb;exact⟨p,xs,e,.inr h1.sq,h2⟩
   obtain⟨p,xs,rfl,hs,rs⟩:=this;refine L2.Hr pins s σ H x (.ref p) v u Q I rx ry ⟨p,xs,rfl,hs,sy fa ra,qm fs rs,?_⟩;rw[pz fs fa rs ra];exact q
 · simp only[Rep]at rb
   obtain⟨p,xs,rfl,h1,hl,rs⟩:=rb;cases ry;cases iB hq ra;obtain⟨ws,dd,hd,f1,f2⟩:=rf I h1 hl rs q';refine wpAny_in_of (L2.jn rx) hd dd.mapOf ?_;cases hf:cA q' ks vs with
   |none=>rw[f1 hf];rw[hf]at q;exact⟨.bl _,H,I.tok _,rfl,q⟩
   |some d=>obtain⟨_,w,hw,_⟩:=f2 d hf;rw[hw];rw[hf]at q;exact⟨.bl _,H,I.tok _,rfl,q⟩
theorem k0(hu:X.A.units+64<cLine):aZ X (compareOp .NotIn) (oZ (aB X) true):=by
 intro pins s σ H x y v u Q I rx ry h;obtain⟨F,a,b,k,ra,rb,e,q⟩:=h;rcases tY e with⟨ys,hb,fa,fs,rfl⟩|⟨ks,vs,q',rfl,hq,rfl⟩
 · have:∃p xs,y=.ref p/\(a8 X.K H p xs\/bo X.K H p xs)/\ag (aB X) H F ys xs:=by
     rcases hb with rfl|rfl
     ·simp only[Rep]at rb;obtain⟨p,xs,e,h1,h2⟩:=rb;exact⟨p,xs,e,.inl h1.sq,h2⟩
     ·simp only[Rep]at rb;obtain⟨p,xs,e,h1,h2⟩:=rb;exact⟨p,xs,e,.inr h1.sq,h2⟩
   obtain⟨p,xs,rfl,hs,rs⟩:=this;refine L2.Be pins s σ H x (.ref p) v u Q I rx ry ⟨p,xs,rfl,hs,sy fa ra,qm fs rs,?_⟩;rw[pz fs fa rs ra];exact q
 · simp only[Rep]at rb
   obtain⟨p,xs,rfl,h1,hl,rs⟩:=rb;cases ry;cases iB hq ra;obtain⟨ws,dd,hd,f1,f2⟩:=rf I h1 hl rs q';refine wpAny_notIn_of (L2.jn rx) hd dd.mapOf ?_;cases hf:cA q' ks vs with
   |none=>rw[f1 hf];rw[hf]at q;exact⟨.bl _,H,I.tok _,rfl,q⟩
   |some d=>obtain⟨_,w,hw,_⟩:=f2 d hf;rw[hw];rw[hf]at q;exact⟨.bl _,H,I.tok _,rfl,q⟩
theorem rN{a b d:D}(h:cu a b=.ok d):∃k,d=.bl k:=by
 cases b with
 | lst ys=>
   have h':(if flat a=true/\ys.all flat=true then(R.ok (D.bl (ys.any λy=>bq y a)):R D)else .bad)=.ok d:=by cases a<;>exact h
   split at h'<;>cases h';exact⟨_,rfl⟩
 | tup ys=>
   have h':(if flat a=true/\ys.all flat=true then(R.ok (D.bl (ys.any λy=>bq y a)):R D)else .bad)=.ok d:=by cases a<;>exact h
   split at h'<;>cases h';exact⟨_,rfl⟩
 | aN ks vs=>
   cases hq:keyOf a with
   |none=>cases a<;>simp[hq]at h
   |some q=>cases a<;>simp[hq]at h<;>exact⟨_,h.symm⟩
 |str y=>cases a<;>simp at h
 |_=>cases a<;>simp at h
theorem kn:iD cu:=λa b d h=>rN h
theorem jF:cz M cu (oZ M false):=by
 intro F H x y a b d Q tr ra rb e q;obtain⟨k,rfl⟩:=rN e;exact⟨F,a,b,k,ra,rb,e,q _ _ (ak.refl _) eE⟩
theorem xg{a b d:D}(h:ck a b=.ok d):∃k,cu a b=.ok (.bl k)/\d=.bl (!k):=by
 obtain⟨r,hr,h⟩:=av.mp h;obtain⟨k,rfl⟩:=rN hr;cases h;exact⟨k,hr,rfl⟩
theorem oM:iD ck:=λa b d h=>let⟨k,_,e⟩:=xg h;⟨_,e⟩
theorem lS:cz M ck (oZ M true):=by
 intro F H x y a b d Q tr ra rb e q;obtain⟨k,hk,rfl⟩:=xg e;exact⟨F,a,b,k,ra,rb,hk,q _ _ (ak.refl _) eE⟩
end
section
variable{X:Cx}{M:Md}{G H H':Hp}{F0:Gf}{F F':Addr->Prop}{σ:L2.St}{ρ:En}{pos:Pos}{pins:List (Addr×Obj)}{s:Shared}
end
section
variable{prog:Program}{w:World}{A:Around}{E:Value->Shared->Prop}{s:Shared}
theorem yO{it t:Addr}{i:Nat}{items:Array Value}{x:Value}{Q:Value->Shared->Prop}(hit:s.heap.IsTupleIter it t i)(ht:s.heap.IsTuple t items)(hx:items[i]? =some x)
   (hQ:∀h',h'.IsTupleIter it t (i+1)->Heap.SameBut it s.heap h'->Q x {s with heap:=h'}):wpAny (model prog w) A (Builtin.SmallTypes.nextOf (.ref it)) Q E s:=by
 obtain⟨oi,MP,RA,Mh⟩:=id hit;obtain⟨ot,Qu,_,nt,Px⟩:=ht;unfold Builtin.SmallTypes.nextOf;refine wpAny_bind (wpAny_callSpecial?_slot (name:=Str.ofString "__next__") hit.typeIs PySem.F.slot_tuple_iterator_next (wpAny_call_entry PySem.F.slot_tuple_iterator_next hit.typeIs PySem.F.entry_tuple_iterator_next ?_ (PySem.F.args_tuple_iterator_next_1 _)));show wpAny _ _ (PySem.field (.ref it) 0 >>= _) _ _ s;refine wpAny_bind (wpAny_field MP Mh (x:=.ref t) rfl ?_);show wpAny _ _ (if(Value.ref t==Value.none)=true then _ else _) _ _ s;rw[if_neg (show ¬((Value.ref t==Value.none)=true)from Bool.false_ne_true)]
 show wpAny _ _ (PySem.field (.ref it) 1 >>= _) _ _ s;refine wpAny_bind (wpAny_field MP Mh (x:=.int i 0) rfl ?_);show wpAny _ _ (seqItems? (.ref t) >>= _) _ _ s;refine wpAny_bind (wpAny_seqItems Qu Px ?_);simp only[Int.toNat_natCast,hx];exact wpAny_bind (wpAny_setField MP Mh (by simp) (wpAny_pure ⟨x,rfl,wpAny_pure (hQ _ ⟨_,Heap.get?_update_self _ MP (Obj.isFreed_of_fields (Obj.data_mapFields Mh _)),(Obj.cls_mapFields ..).trans RA,by rw[Obj.data_mapFields Mh];simp[rawInt]⟩ (Heap.SameBut.update ..))⟩))
theorem Hc{it t:Addr}{i:Nat}{items:Array Value}{Q:Value->Shared->Prop}(hh:A.handled=none)(hit:s.heap.IsTupleIter it t i)(ht:s.heap.IsTuple t items)(hx:items[i]? =none)
   (hE:∀h' e,Heap.ExtBut it s.heap h'->(∃o,h'.get? e=some o/\o.cls=.type "StopIteration")->E (.ref e) {s with heap:=h'}):wpAny (model prog w) A (Builtin.SmallTypes.nextOf (.ref it)) Q E s:=by
 obtain⟨oi,MP,RA,Mh⟩:=id hit;obtain⟨ot,Qu,_,nt,Px⟩:=ht;unfold Builtin.SmallTypes.nextOf;refine wpAny_bind (wpAny_callSpecial?_slot (name:=Str.ofString "__next__") hit.typeIs PySem.F.slot_tuple_iterator_next (wpAny_call_entry PySem.F.slot_tuple_iterator_next hit.typeIs PySem.F.entry_tuple_iterator_next ?_ (PySem.F.args_tuple_iterator_next_1 _)));show wpAny _ _ (PySem.field (.ref it) 0 >>= _) _ _ s;refine wpAny_bind (wpAny_field MP Mh (x:=.ref t) rfl ?_);show wpAny _ _ (if(Value.ref t==Value.none)=true then _ else _) _ _ s;rw[if_neg (show ¬((Value.ref t==Value.none)=true)from Bool.false_ne_true)]
 show wpAny _ _ (PySem.field (.ref it) 1 >>= _) _ _ s;refine wpAny_bind (wpAny_field MP Mh (x:=.int i 0) rfl ?_);show wpAny _ _ (seqItems? (.ref t) >>= _) _ _ s;refine wpAny_bind (wpAny_seqItems Qu Px ?_);simp only[Int.toNat_natCast,hx];refine wpAny_bind (wpAny_rule (wpAny_bind (wpAny_setField MP Mh (by simp) ?_)))
 show wpAny _ _ (newExc (.type "StopIteration") [] >>= _) _ _ _;refine wpAny_bind ?_;simp only[newExc,newTuple];refine wpAny_bind (wpAny_newObj_type (wpAny_bind (m:=firstArgMember _ _) (wpAny_of_eq (a:=Value.none) (by first|rfl|(simp only[firstArgMember];rfl)) (wpAny_newObj_type ?_ (by size_fits)))) (by size_fits))
 simp only[raiseNew];refine wpAny_bind (wpAny_handled ?_)
 first|rw[show A.in1.handled=none from hh]|rw[hh]
 exact wpAny_bind (wpAny_pure (wpAny_throw (hE _ _ (((Heap.SameBut.update ..).extBut.push _).push _) ⟨_,Heap.get?_push_size _ rfl,rfl⟩)))
end
theorem AF{prog:Program}{w:World}{A:Around}(hh:A.handled=none)(it l:Addr)(C':l≠it)(items:Array Value):
   Draws prog w A it [it,l] items.size (λi v=>items[i]? =some v) (λi h=>h.IsTupleIter it l i/\h.IsTuple l items) where
 live _ _ st:=let⟨o,ho,_⟩:=st.1;⟨o,ho⟩
 frame _ _ _ st hk:=⟨let⟨o,ho,r⟩:=st.1;⟨o,hk it (by simp) o ho,r⟩,let⟨o,ho,r⟩:=st.2;⟨o,hk l (by simp) o ho,r⟩⟩
 item i s Q E hi st hQ:=yO st.1 st.2 (x:=items[i]) (by simp[hi]) λh' Pm Rh=>hQ _ h' s.toks (by simp[hi]) ⟨Pm,let⟨o,ho,r⟩:=st.2;⟨o,Rh.extBut l o C' ho,r⟩⟩ Rh
 done s Q E st hE:=Hc hh st.1 st.2 (by simp) hE
structure mY(z TI TO i1 i2:Addr)(f1 f2:List Addr):Prop where
 TIz:TI≠z
 TOz:TO≠z
 i1z:i1≠z
 i2z:i2≠z
 TITO:TI≠TO
 TIi1:TI≠i1
 TIi2:TI≠i2
 TOi1:TO≠i1
 TOi2:TO≠i2
 i12:i1≠i2
 pf:z∉f1
 wL:TO∉f1
 CP:i2∉f1
 r9:z∉f2
 sj:TO∉f2
 sM:i1∉f2
section
variable{prog:Program}{w:World}{A:Around}{E:Value->Shared->Prop}{s:Shared}{z TI TO i1 i2:Addr}{f1 f2:List Addr}{n1 n2 k:Nat}{P1 P2:Nat->Value->Prop}{S1 S2:Nat->Heap->Prop}{a b:Value}
theorem fr_but{prog:Program}{w:World}{A:Around}{it:Addr}{fp:List Addr}{n:Nat}{P:Nat->Value->Prop}{St:Nat->Heap->Prop}(D:Draws prog w A it fp n P St){i:Nat}{c:Addr}{h h':Heap}(st:St i h)(hc:c∉fp)(hs:Heap.SameBut c h h'):St i h':=
 D.frame i h h' st λb hb o e=>hs.extBut b o (λq=>hc (by rw[<-q];exact hb)) e
theorem DD(D1:Draws prog w A i1 f1 n1 P1 S1)(D2:Draws prog w A i2 f2 n2 P2 S2)(ap:mY z TI TO i1 i2 f1 f2)(hz:IsZip s.heap z TI TO .none)(LF:IsPair s.heap TI (.ref i1) (.ref i2))(LP:IsPair s.heap TO a b)
   (bF:S1 k s.heap) (Lr:S2 k s.heap) (h1:k<n1) (h2:k<n2) {Q:Value->Shared->Prop}
   (hQ:∀x y h' tk,P1 k x->P2 k y->IsZip h' z TI TO (rawInt s.heap.objs.size)->IsPair h' TO x y->S1 (k+1) h'->S2 (k+1) h'->IsPair h' s.heap.objs.size x y->
     (∀c o,c≠z->c≠TO->c≠i1->c≠i2->s.heap.get? c=some o->h'.get? c=some o)->Q (.ref s.heap.objs.size) {s with heap:=h',toks:=tk}):
   wpAny (model prog w) A (Builtin.«zip.__next__» ⟨[.ref z],[]⟩) (λfin s'=>∃v,fin=.done (.ret v)/\Q v s') E s:=by
 show wpAny _ _ (PySem.field (.ref z) 2 >>= _) _ _ _;refine wpAny_bind (wpAny_field hz rfl (x:=.bool false) rfl ?_);show wpAny _ _ (PySem.field (.ref z) 3 >>= _) _ _ _;refine wpAny_bind (wpAny_field hz rfl (x:=.ref TI) rfl (wpAny_bind (wpAny_seqItems LF rfl ?_)));show wpAny _ _ (Builtin.SmallTypes.ownedTupleIsFree (.ref z) >>= _) _ _ _;refine wpAny_bind ?_;unfold Builtin.SmallTypes.ownedTupleIsFree;refine wpAny_bind (wpAny_field hz rfl (x:=.none) rfl (wpAny_pure ?_));simp only[if_true];refine wpAny_bind (wpAny_rule (wpAny_bind (wpAny_field hz rfl (x:=.ref TO) rfl (wpAny_bind (wpAny_setField_rec hz (by simp) λha MR LL=>?_)))))
 replace MR:IsZip ha z TI TO .ellipsis:=MR
 refine wpAny_bind ?_;simp only[List.zipIdx_cons,List.zipIdx_nil,List.forIn_cons,List.forIn_nil];refine wpAny_bind (wpAny_bind (wpAny_onRaise ?_));show wpAny _ _ (Builtin.SmallTypes.nextOf (.ref i1) >>= _) _ _ _;refine wpAny_bind (D1.item k _ _ _ h1 (fr_but D1 bF ap.pf LL) λx hb tb px Rk KP=>wpAny_pure ?_);have L5:IsPair hb TO a b:=KP.extBut _ _ ap.TOi1 (LL.extBut _ _ ap.TOz LP);refine wpAny_bind (wpAny_seqItems L5 rfl (wpAny_bind (wpAny_updateSeq_pair L5 λhc Mp LM=>?_)))
 replace Mp:IsPair hc TO x b:=Mp
 refine wpAny_bind (wpAny_letGo (wpAny_pure (wpAny_bind (wpAny_bind (wpAny_onRaise ?_)))));show wpAny _ _ (Builtin.SmallTypes.nextOf (.ref i2) >>= _) _ _ _;refine wpAny_bind (D2.item k _ _ _ h2 (fr_but D2 (fr_but D2 (fr_but D2 Lr ap.r9 LL) ap.sM KP) ap.sj LM) λy hd td py QI MI=>wpAny_pure ?_);have NR:IsPair hd TO x b:=MI.extBut _ _ ap.TOi2 Mp;refine wpAny_bind (wpAny_seqItems NR rfl (wpAny_bind (wpAny_updateSeq_pair NR λhe Mt N2=>?_)))
 replace Mt:IsPair he TO x y:=Mt
 refine wpAny_bind (wpAny_letGo (wpAny_pure (wpAny_pure (wpAny_bind (wpAny_seqItems Mt rfl (wpAny_bind (wpAny_newTuple ?_)))))));have hsz:he.objs.size=s.heap.objs.size:=by rw[N2.1,MI.1,LM.1,KP.1,LL.1]
 have Rz:IsZip he z TI TO .ellipsis:=N2.extBut _ _ ap.TOz.symm (MI.extBut _ _ ap.i2z.symm (LM.extBut _ _ ap.TOz.symm (KP.extBut _ _ ap.i1z.symm MR)));have Tu:∀c o,c≠z->c≠TO->c≠i1->c≠i2->s.heap.get? c=some o->he.get? c=some o:=λc o c1 c2 c3 c4 e=>N2.extBut _ _ c2 (MI.extBut _ _ c4 (LM.extBut _ _ c2 (KP.extBut _ _ c3 (LL.extBut _ _ c1 e))));have Tp:S1 (k+1) he:=fr_but D1 (fr_but D1 (fr_but D1 Rk ap.wL LM) ap.CP MI) ap.wL N2;have R4:S2 (k+1) he:=fr_but D2 QI ap.sj N2;have Mx:z<he.objs.size:=Heap.lt_size Rz;show wpAny _ _ (Builtin.SmallTypes.ownedTupleHandOut (.ref z) (.ref he.objs.size) >>= _) _ _ _;refine wpAny_bind ?_;unfold Builtin.SmallTypes.ownedTupleHandOut;have SH:IsZip (he.push {cls:=.type "tuple",data:=.seq #[x,y]}) z TI TO .ellipsis:=Heap.get?_push_of_some _ Rz;refine wpAny_bind (wpAny_setField_rec SH (by simp) λhg PJ RV=>?_)
 replace PJ:IsZip hg z TI TO (rawInt he.objs.size):=PJ
 refine wpAny_setField_rec PJ (by simp) λhi O5 MK=>?_
 replace O5:IsZip hi z TI TO (rawInt he.objs.size):=O5
 have up:∀c o,c≠z->he.get? c=some o->hi.get? c=some o:=λc o c1 e=>MK.extBut _ _ c1 (RV.extBut _ _ c1 (Heap.get?_push_of_some _ e));have Rc:IsPair hi he.objs.size x y:=MK.extBut _ _ (Nat.ne_of_gt Mx) (RV.extBut _ _ (Nat.ne_of_gt Mx) (Heap.get?_push_size _ rfl));rw[hsz]at O5 Rc;refine wpAny_pure ⟨_,rfl,?_⟩;show Q (.ref he.objs.size) _;rw[hsz]
 exact hQ x y hi td px py O5 (up _ _ ap.TOz Mt) (D1.frame _ _ _ Tp λc Ld o e=>up c o (λq=>ap.pf (by rw[<-q];exact Ld)) e) (D2.frame _ _ _ R4 λc Ld o e=>up c o (λq=>ap.r9 (by rw[<-q];exact Ld)) e) Rc
   λc o c1 c2 c3 c4 e=>up c o c1 (Tu c o c1 c2 c3 c4 e)
theorem Fd(D1:Draws prog w A i1 f1 n1 P1 S1)(D2:Draws prog w A i2 f2 n2 P2 S2)(ap:mY z TI TO i1 i2 f1 f2)(hz:IsZip s.heap z TI TO .none)(LF:IsPair s.heap TI (.ref i1) (.ref i2))(LP:IsPair s.heap TO a b)
   (bF:S1 k s.heap) (Lr:S2 k s.heap) (Ln:k=n1\/(k<n1/\k=n2)) {Q:Fin->Shared->Prop}
   (hE:∀h' tk e,(∀c o,c≠z->c≠TO->c≠i1->c≠i2->s.heap.get? c=some o->h'.get? c=some o)->(∃o,h'.get? e=some o/\o.cls=.type "StopIteration")->E (.ref e) {s with heap:=h',toks:=tk}):
   wpAny (model prog w) A (Builtin.«zip.__next__» ⟨[.ref z],[]⟩) Q E s:=by
 show wpAny _ _ (PySem.field (.ref z) 2 >>= _) _ _ _;refine wpAny_bind (wpAny_field hz rfl (x:=.bool false) rfl ?_);show wpAny _ _ (PySem.field (.ref z) 3 >>= _) _ _ _;refine wpAny_bind (wpAny_field hz rfl (x:=.ref TI) rfl (wpAny_bind (wpAny_seqItems LF rfl ?_)));show wpAny _ _ (Builtin.SmallTypes.ownedTupleIsFree (.ref z) >>= _) _ _ _;refine wpAny_bind ?_;unfold Builtin.SmallTypes.ownedTupleIsFree;refine wpAny_bind (wpAny_field hz rfl (x:=.none) rfl (wpAny_pure ?_));simp only[if_true];refine wpAny_bind (wpAny_rule (wpAny_bind (wpAny_field hz rfl (x:=.ref TO) rfl (wpAny_bind (wpAny_setField_rec hz (by simp) λha MR LL=>?_)))))
 replace MR:IsZip ha z TI TO .ellipsis:=MR
 refine wpAny_bind ?_;simp only[List.zipIdx_cons,List.zipIdx_nil,List.forIn_cons,List.forIn_nil];refine wpAny_bind (wpAny_bind (wpAny_onRaise ?_));show wpAny _ _ (Builtin.SmallTypes.nextOf (.ref i1) >>= _) _ _ _;rcases Ln with rfl|⟨h1,rfl⟩
 · refine wpAny_bind (D1.done _ _ _ (fr_but D1 bF ap.pf LL) λhb e KP he=>?_)
   obtain⟨oe,M3,Nk⟩:=he;have RT:IsZip hb z TI TO .ellipsis:=KP _ _ ap.i1z.symm MR;have QY:e≠z:=λx=>by subst x;rw[RT]at M3;cases M3;simp at Nk
   exact wpAny_setField_rec RT (by simp) λhc _ LM=>hE hc _ e (λc o c1 _ c3 _ x=>LM.extBut _ _ c1 (KP _ _ c3 (LL.extBut _ _ c1 x))) ⟨oe,LM.extBut _ _ QY M3,Nk⟩
 · refine wpAny_bind (D1.item k _ _ _ h1 (fr_but D1 bF ap.pf LL) λx hb tb px Rk KP=>wpAny_pure ?_)
   have L5:IsPair hb TO a b:=KP.extBut _ _ ap.TOi1 (LL.extBut _ _ ap.TOz LP);refine wpAny_bind (wpAny_seqItems L5 rfl (wpAny_bind (wpAny_updateSeq_pair L5 λhc Mp LM=>?_)));refine wpAny_bind (wpAny_letGo (wpAny_pure (wpAny_bind (wpAny_bind (wpAny_onRaise ?_)))));show wpAny _ _ (Builtin.SmallTypes.nextOf (.ref i2) >>= _) _ _ _;refine wpAny_bind (D2.done _ _ _ (fr_but D2 (fr_but D2 (fr_but D2 Lr ap.r9 LL) ap.sM KP) ap.sj LM) λhd e MI he=>?_);obtain⟨oe,M3,Nk⟩:=he;have RI:IsZip hd z TI TO .ellipsis:=MI _ _ ap.i2z.symm (LM.extBut _ _ ap.TOz.symm (KP.extBut _ _ ap.i1z.symm MR));have QY:e≠z:=λx=>by subst x;rw[RI]at M3;cases M3;simp at Nk
   exact wpAny_setField_rec RI (by simp) λhf _ Ro=>hE hf _ e (λc o c1 c2 c3 c4 x=>Ro.extBut _ _ c1 (MI _ _ c4 (LM.extBut _ _ c2 (KP.extBut _ _ c3 (LL.extBut _ _ c1 x))))) ⟨oe,Ro.extBut _ _ QY M3,Nk⟩
end
inductive Sd where
 |l (a:Addr)|t (a:Addr)|s (z:Str)
def Sd.at(K:PySem.W.Frag)(H:Hp):Sd->List V->Prop
 |.l a,xs=>a8 K H a xs
 |.t a,xs=>bo K H a xs
 |.s z,xs=>xs=z.cps.toList.map λc=>.str ⟨#[c]⟩
noncomputable def Sd.val:Sd->Tok->Value
 |.l a,_=>.ref a
 |.t a,_=>.ref a
 |.s z,tk=>.str z tk
noncomputable def Sd.obj:Sd->Tok->Obj
 |.l a,_=>{cls:=.type "list_iterator",data:=.fields #[.ref a,.int 0 0]}
 |.t a,_=>{cls:=.type "tuple_iterator",data:=.fields #[.ref a,.int 0 0]}
 |.s z,tk=>{cls:=.type (if z.cps.all (· <128)then "str_ascii_iterator" else "str_iterator"),data:=.fields #[.str z tk,.int 0 0]}
def Sd.iT(it:Addr)(i:Nat)(h:Heap)(tk:Tok):Sd->Prop
 |.l a=>h.IsListIter it a i
 |.t a=>h.IsTupleIter it a i
 |.s z=>h.IsStrIter it (if z.cps.all (· <128)then "str_ascii_iterator" else "str_iterator") z tk i
section
variable{X:Cx}{pins:List (Addr×Obj)}{σ:L2.St}{H:Hp}{s:Shared}{d:Sd}{xs:List V}
theorem Sd.inj(I:Inv X pins σ H s){ys:List V}(h:d.at X.K H xs)(h':d.at X.K H ys):xs=ys:=by
 cases d with
 |l a=>exact I.xK h h'
 |t a=>exact I.tO h h'
 |s z=>exact h.trans h'.symm
theorem Sd.draws{it:Addr}{tk:Tok}{A:Around}(I:Inv X pins σ H s)(hh:A.handled=none)(h:d.at X.K H xs)(hn:H it=none)(hK:X.K.lookup it=none):
   ∃(fp:List Addr) (P:Nat->Value->Prop) (St:Nat->Heap->Prop),Draws X.prog X.w A it fp xs.length P St/\(∀i x,P i x->∃v,xs[i]? =some v/\RelV v x)/\(∀i h',St i h'->d.iT it i h' tk)/\(∀i,d.iT it i s.heap tk->St i s.heap)/\
     (∀c∈fp,c=it\/(H c≠none\/∃o,X.K.lookup c=some o)):=by
 have nl:∀a:Addr,(H a≠none\/∃o,X.K.lookup a=some o)->a≠it:=λa h z=>by
   subst z;rcases h with h|⟨o,h⟩
   ·exact h hn
   ·rw[hK]at h;cases h
 cases d with
 | l a=>
   obtain⟨aj,rv,pl,hz⟩:=I.list h
   have tr:H a≠none\/∃o,X.K.lookup a=some o:=by
     rcases h with(h|⟨o,h⟩)|⟨o,_,_,h,_⟩
     ·exact .inl (by rw[h];simp)
     ·exact .inl (by rw[h];simp)
     ·exact .inr ⟨o,h⟩
   have D:=Draws.list (prog:=X.prog) (w:=X.w) (A:=A) hh it a (nl a tr) aj.toArray;rw[List.size_toArray, <-rv.length]at D;refine⟨_,_,_,D,λi x hx=>?_,λi h' st=>st.1,λi st=>⟨st,pl.isList⟩,λc hc=>?_⟩
   · have hx:aj[i]? =some x:=by simpa using hx
     have hi:i<xs.length:=by rw[rv.length];exact(List.getElem?_eq_some_iff.mp hx).1
     obtain⟨u,hu,ru⟩:=rv.get (List.getElem?_eq_getElem hi);rw[hx]at hu;cases hu;exact⟨_,List.getElem?_eq_getElem hi,ru⟩
   · simp only[List.mem_cons,List.not_mem_nil,or_false]at hc
     rcases hc with rfl|rfl
     ·exact .inl rfl
     ·exact .inr tr
 | t a=>
   obtain⟨aj,rv,pl,hz⟩:=I.tuple h
   have tr:H a≠none\/∃o,X.K.lookup a=some o:=by
     rcases h with(h|⟨o,h⟩)|⟨o,_,_,h,_⟩
     ·exact .inl (by rw[h];simp)
     ·exact .inl (by rw[h];simp)
     ·exact .inr ⟨o,h⟩
   have D:=AF (prog:=X.prog) (w:=X.w) (A:=A) hh it a (nl a tr) aj.toArray;rw[List.size_toArray, <-rv.length]at D;refine⟨_,_,_,D,λi x hx=>?_,λi h' st=>st.1,λi st=>⟨st,pl⟩,λc hc=>?_⟩
   · have hx:aj[i]? =some x:=by simpa using hx
     have hi:i<xs.length:=by rw[rv.length];exact(List.getElem?_eq_some_iff.mp hx).1
     obtain⟨u,hu,ru⟩:=rv.get (List.getElem?_eq_getElem hi);rw[hx]at hu;cases hu;exact⟨_,List.getElem?_eq_getElem hi,ru⟩
   · simp only[List.mem_cons,List.not_mem_nil,or_false]at hc
     rcases hc with rfl|rfl
     ·exact .inl rfl
     ·exact .inr tr
 | s z=>
   have h:xs=z.cps.toList.map λc=>.str ⟨#[c]⟩:=h;subst h
   have key:∀(i:Nat) (x:Value),(∃c u,z.cps[i]? =some c/\x=.str ⟨#[c]⟩ u)->∃v,(z.cps.toList.map λc=>V.str ⟨#[c]⟩)[i]? =some v/\RelV v x:=by
     rintro i x ⟨c,u,hc,rfl⟩;exact⟨.str ⟨#[c]⟩,by simp[hc],⟨u,rfl⟩⟩
   cases ha:z.cps.all (· <128)with
   | true=>
     have D:=Draws.strAscii (prog:=X.prog) (w:=X.w) (A:=A) hh it z tk;refine⟨_,_,_,by simpa using D,key,λi h' st=>?_,λi st=>?_,λc hc=>.inl (by simpa using hc)⟩
     · show h'.IsStrIter it (if z.cps.all (· <128)then "str_ascii_iterator" else "str_iterator") z tk i
       rw[ha];exact st
     · have st:s.heap.IsStrIter it (if z.cps.all (· <128)then "str_ascii_iterator" else "str_iterator") z tk i:=st
       rw[ha]at st;exact st
   | false=>
     have D:=Draws.strWide (prog:=X.prog) (w:=X.w) (A:=A) hh it z tk;refine⟨_,_,_,by simpa using D,key,λi h' st=>?_,λi st=>?_,λc hc=>.inl (by simpa using hc)⟩
     · show h'.IsStrIter it (if z.cps.all (· <128)then "str_ascii_iterator" else "str_iterator") z tk i
       rw[ha];exact st
     · have st:s.heap.IsStrIter it (if z.cps.all (· <128)then "str_ascii_iterator" else "str_iterator") z tk i:=st
       rw[ha]at st;exact st
end
theorem Sd.nS{d:Sd}{it:Addr}{i:Nat}{h h':Heap}{t:Tok}(st:d.iT it i h t)(k:∀o,h.get? it=some o->h'.get? it=some o):d.iT it i h' t:=by
 cases d with
 |l a=>obtain⟨o,e,r⟩:=st;exact⟨o,k o e,r⟩
 |t a=>obtain⟨o,e,r⟩:=st;exact⟨o,k o e,r⟩
 |s z=>obtain⟨o,e,r⟩:=st;exact⟨o,k o e,r⟩
theorem Sd.oV{d:Sd}{it:Addr}{i:Nat}{h:Heap}{t:Tok}(st:d.iT it i h t):∃o,h.get? it=some o/\∀v,o.data≠.cell v:=by
 cases d with
 |l a=>obtain⟨o,e,c,r⟩:=st;exact⟨o,e,λv z=>by rw[r]at z;cases z⟩
 |t a=>obtain⟨o,e,c,r⟩:=st;exact⟨o,e,λv z=>by rw[r]at z;cases z⟩
 |s z=>obtain⟨o,e,c,r⟩:=st;exact⟨o,e,λv z=>by rw[r]at z;cases z⟩
noncomputable def qt(K:PySem.W.Frag)(d e:Sd):It where
 go i H:=∃xs ys,d.at K H xs/\e.at K H ys/\i<xs.length/\i<ys.length
 lB i H v H':=∃t x y,v=.ref t/\H t=none/\(∀xs,d.at K H xs->xs[i]? =some x)/\(∀ys,e.at K H ys->ys[i]? =some y)/\H'=upd H t (.tup [x,y])
 stop i H:=∃xs ys,d.at K H xs/\e.at K H ys/\(i=xs.length\/(i<xs.length/\i=ys.length))
def yw(d e:Sd)(td te:Tok)(z TI TO i1 i2:Addr)(i:Nat)(h:Heap):Prop:=
 IsZip h z TI TO .none/\IsPair h TI (.ref i1) (.ref i2)/\(∃a b,IsPair h TO a b)/\d.iT i1 i h td/\e.iT i2 i h te
theorem As{P:Program}{w:World}{K:PySem.W.Frag}{elts:List Expr}{k:Nat}{tp:Pos}(d e:Sd)(td te:Tok)(z TI TO i1 i2:Addr)(ne:[z,TI,TO,i1,i2].Nodup)(hK:∀b∈[z,TI,TO,i1,i2],K.lookup b=none):
   Turn P w K (.Tuple elts k tp) (qt K d e) [z,TI,TO,i1,i2] z (yw d e td te z TI TO i1 i2) where
 mem:=by simp
 obj i h st b hb:=by
   obtain⟨hz,LF,⟨a,b',LP⟩,h1,h2⟩:=st;simp only[List.mem_cons,List.not_mem_nil,or_false]at hb;rcases hb with rfl|rfl|rfl|rfl|rfl
   ·exact⟨_,hz,λv q=>by cases q⟩
   ·exact⟨_,LF,λv q=>by cases q⟩
   ·exact⟨_,LP,λv q=>by cases q⟩
   ·exact Sd.oV h1
   ·exact Sd.oV h2
 keep i h h' st kk:=by
   obtain⟨hz,LF,⟨a,b',LP⟩,h1,h2⟩:=st;exact⟨kk z (by simp) _ hz,kk TI (by simp) _ LF,⟨a,b',kk TO (by simp) _ LP⟩,Sd.nS h1 λo q=>kk i1 (by simp) o q,Sd.nS h2 λo q=>kk i2 (by simp) o q⟩
 item := by
   intro X hP hw PZ hc i pins s σ H E I hf st hg;subst hP hw PZ;obtain⟨xs,ys,ax,ay,hx,hy⟩:=hg;obtain⟨hz,LF,⟨a,b,LP⟩,h1,h2⟩:=st;have hh:X.A.in1.handled=none:=I.ok.hd hc;have un:∀b∈[z,TI,TO,i1,i2],H b=none:=λb hb=>(hf b hb).1;obtain⟨f1,P1,S1,D1,p1,s1,Nt,q1⟩:=Sd.draws (it:=i1) (tk:=td) (A:=X.A.in1) I hh ax (un i1 (by simp)) (hK i1 (by simp))
   obtain⟨f2,P2,S2,D2,p2,s2,Qj,q2⟩:=Sd.draws (it:=i2) (tk:=te) (A:=X.A.in1) I hh ay (un i2 (by simp)) (hK i2 (by simp))
   have out:∀ {fp:List Addr} {it:Addr},(∀c∈fp,c=it\/(H c≠none\/∃o,X.K.lookup c=some o))->∀b∈[z,TI,TO,i1,i2],b≠it->b∉fp:=λq b hb C' hm=>by
     rcases q b hm with h|h|⟨o,h⟩
     ·exact C' h
     ·exact h (un b hb)
     ·rw[hK b hb]at h;cases h
   simp only[List.nodup_cons,List.mem_cons,List.not_mem_nil,or_false,not_or,List.nodup_nil,and_true,not_false_eq_true]at ne;obtain⟨⟨n1,n2,n3,n4⟩,⟨n5,n6,n7⟩,⟨n8,n9⟩,M4⟩:=ne;have ap:mY z TI TO i1 i2 f1 f2:=⟨Ne.symm n1,Ne.symm n2,Ne.symm n3,Ne.symm n4,n5,n6,n7,n8,n9,M4,out q1 z (by simp) n3,out q1 TO (by simp) n8,out q1 i2 (by simp) (Ne.symm M4),out q2 z (by simp) n4,out q2 TO (by simp) n9,out q2 i1 (by simp) M4⟩
   have hT:s.TypeIs (.ref z) "zip":=⟨_,hz,rfl⟩;unfold pyNext;refine wpAny_bind (wpAny_attempt (wpAny_callSpecial?_slot (name:=Str.ofString "__next__") hT PySem.F.slot_zip_next (wpAny_call_entry PySem.F.slot_zip_next hT PySem.F.entry_zip_next (DD D1 D2 ap hz LF LP (Nt i h1) (Qj i h2) hx hy λx y h' tk px py OF Qy bF Lr hp hk=>wpAny_pure ?_) (PySem.F.args_zip_next_1 _))));obtain⟨v1,e1,r1⟩:=p1 i x px;obtain⟨v2,e2,r2⟩:=p2 i y py;refine⟨_,rfl,wpAny_letOwnedTupleGo_zip OF λMg K3 Kd=>?_⟩;have Mx:z<s.heap.objs.size:=Heap.lt_size hz;have Tz:s.heap.objs.size≠z:=Nat.ne_of_gt Mx;have K9:∀c o,c≠z->c≠TO->c≠i1->c≠i2->s.heap.get? c=some o->Mg.get? c=some o:=λc o c1 c2 c3 c4 q=>Kd.extBut _ _ c1 (hk c o c1 c2 c3 c4 q);have SR:IsPair Mg s.heap.objs.size x y:=Kd.extBut _ _ Tz hp;have nT:H s.heap.objs.size=none:=I.aH.fresh (Nat.le_refl _);have aX:∀c u,H c=some u->c≠z/\c≠TO/\c≠i1/\c≠i2:=λc u q=>by refine⟨?_,?_,?_,?_⟩<;>(intro w;rw[w,un _ (by simp)]at q;cases q)
   have LB:∀c,c∉[z,TO,i1,i2]->c≠z/\c≠TO/\c≠i1/\c≠i2:=λc Ld=>by simpa[not_or] using Ld
   have u:Un (L2.d6 X.stack) [z,TO,i1,i2] H (upd H s.heap.objs.size (.tup [v1,v2])) s.heap Mg:=
     ⟨λb o q n Pj Kn=>let m:=LB b Kn;K9 b o m.1 m.2.1 m.2.2.1 m.2.2.2 q,λb o q n Pj Kn=>let m:=LB b Kn;⟨o.slots,K9 b o m.1 m.2.1 m.2.2.1 m.2.2.2 q⟩,λb o q n Kn=>by rw[L2.aE (Nat.ne_of_lt (Heap.lt_size q))];exact n,
       λb o q Kn=>let m:=LB b Kn;⟨o,K9 b o m.1 m.2.1 m.2.2.1 m.2.2.2 q⟩,λb zs q=>by rw[L2.aE (L2.f9 q nT)];exact q,λb o zs q=>by rw[L2.aE (L2.f9 q nT)];exact q,λb ps q=>⟨#[],by rw[L2.aE (L2.f9 q nT),q];simp⟩⟩
   have aH:L2.bH X.prog X.w (upd H s.heap.objs.size (.tup [v1,v2])) Mg:=λb ob q=>by
     by_cases hb:b=s.heap.objs.size
     · subst hb
       rw[L2.bf]at q;cases q;exact⟨show 2<=sizeLine by decide,[x,y],.cons r1 (.cons r2 .nil),⟨_,SR,rfl,_,rfl⟩⟩
     · rw[L2.aE hb]at q
       refine(I.aH b ob q).gW (λc v MS w=>?_) (λc w=>by rw[L2.aE (L2.f9 w nT)];exact w) λc zs w=>by rw[L2.aE (L2.f9 w nT)];exact w
       have tc:∃u,H c=some u:=by
         rcases MS with rfl|MS
         ·exact⟨_,q⟩
         ·exact⟨_,MS⟩
       obtain⟨u',PX⟩:=tc;have m:=aX c u' PX;exact K9 c v m.1 m.2.1 m.2.2.1 m.2.2.2 w
   have I2:Inv X pins σ (upd H s.heap.objs.size (.tup [v1,v2])) {s with heap:=Mg,toks:=tk}:=I.qZ (s':={s with heap:=Mg,toks:=tk}) (ch:=[z,TO,i1,i2]) rfl u aH I.bare λb hb=>by
     have J1:b∈[z,TI,TO,i1,i2]:=by
       simp only[List.mem_cons,List.not_mem_nil,or_false]at hb ⊢;rcases hb with h|h|h|h<;>simp[h]
     obtain⟨_,a1,a2,a3,a4,a5⟩:=hf b J1;exact⟨a3,a1,a4,a5⟩
   have Tr:∀b∈[z,TI,TO,i1,i2],b≠s.heap.objs.size:=λb hb=>by
     have:∃o,s.heap.get? b=some o:=by
       simp only[List.mem_cons,List.not_mem_nil,or_false]at hb;rcases hb with rfl|rfl|rfl|rfl|rfl
       ·exact⟨_,hz⟩
       ·exact⟨_,LF⟩
       ·exact⟨_,LP⟩
       ·exact let⟨o,q,_⟩:=Sd.oV h1;⟨o,q⟩
       ·exact let⟨o,q,_⟩:=Sd.oV h2;⟨o,q⟩
     obtain⟨o,q⟩:=this;exact Nat.ne_of_lt (Heap.lt_size q)
   refine⟨.ref s.heap.objs.size,_,I2,rfl,⟨_,v1,v2,rfl,nT,λKu Kn=>by rw[Sd.inj I Kn ax];exact e1,λUj Tb=>by rw[Sd.inj I Tb ay];exact e2,rfl⟩,⟨K3,?_,⟨_,_,Kd.extBut _ _ (Ne.symm n2) Qy⟩,Sd.nS (s1 _ _ bF) λo q=>Kd.extBut _ _ (Ne.symm n3) q,Sd.nS (s2 _ _ Lr) λo q=>Kd.extBut _ _ (Ne.symm n4) q⟩,λb hb=>?_⟩
   ·exact K9 TI _ (Ne.symm n1) n5 n6 n7 LF
   · show upd H _ _ b=none
     rw[L2.aE (Tr b hb)];exact un b hb
 done := by
   intro X hP hw PZ hc i pins s σ H E I hf st hg;subst hP hw PZ;obtain⟨xs,ys,ax,ay,Ln⟩:=hg;obtain⟨hz,LF,⟨a,b,LP⟩,h1,h2⟩:=st;have hh:X.A.in1.handled=none:=I.ok.hd hc;have un:∀b∈[z,TI,TO,i1,i2],H b=none:=λb hb=>(hf b hb).1;obtain⟨f1,P1,S1,D1,p1,s1,Nt,q1⟩:=Sd.draws (it:=i1) (tk:=td) (A:=X.A.in1) I hh ax (un i1 (by simp)) (hK i1 (by simp))
   obtain⟨f2,P2,S2,D2,p2,s2,Qj,q2⟩:=Sd.draws (it:=i2) (tk:=te) (A:=X.A.in1) I hh ay (un i2 (by simp)) (hK i2 (by simp))
   have out:∀ {fp:List Addr} {it:Addr},(∀c∈fp,c=it\/(H c≠none\/∃o,X.K.lookup c=some o))->∀b∈[z,TI,TO,i1,i2],b≠it->b∉fp:=λq b hb C' hm=>by
     rcases q b hm with h|h|⟨o,h⟩
     ·exact C' h
     ·exact h (un b hb)
     ·rw[hK b hb]at h;cases h
   simp only[List.nodup_cons,List.mem_cons,List.not_mem_nil,or_false,not_or,List.nodup_nil,and_true,not_false_eq_true]at ne;obtain⟨⟨n1,n2,n3,n4⟩,⟨n5,n6,n7⟩,⟨n8,n9⟩,M4⟩:=ne;have ap:mY z TI TO i1 i2 f1 f2:=⟨Ne.symm n1,Ne.symm n2,Ne.symm n3,Ne.symm n4,n5,n6,n7,n8,n9,M4,out q1 z (by simp) n3,out q1 TO (by simp) n8,out q1 i2 (by simp) (Ne.symm M4),out q2 z (by simp) n4,out q2 TO (by simp) n9,out q2 i1 (by simp) M4⟩
   have hT:s.TypeIs (.ref z) "zip":=⟨_,hz,rfl⟩;unfold pyNext;refine wpAny_bind (wpAny_attempt (wpAny_callSpecial?_slot (name:=Str.ofString "__next__") hT PySem.F.slot_zip_next (wpAny_call_entry PySem.F.slot_zip_next hT PySem.F.entry_zip_next (Fd D1 D2 ap hz LF LP (Nt i h1) (Qj i h2) Ln λh' tk e' hk he=>?_) (PySem.F.args_zip_next_1 _))));obtain⟨o,ho,Nk⟩:=he;refine wpAny_bind (wpAny_isInstance (T:="StopIteration") (b:=true) ⟨o,ho,Nk⟩ isSubtype_stop (wpAny_pure ⟨rfl,?_⟩));have LB:∀c,c∉[z,TO,i1,i2]->c≠z/\c≠TO/\c≠i1/\c≠i2:=λc Ld=>by simpa[not_or] using Ld
   have aX:∀c u,H c=some u->c≠z/\c≠TO/\c≠i1/\c≠i2:=λc u q=>by refine⟨?_,?_,?_,?_⟩<;>(intro w;rw[w,un _ (by simp)]at q;cases q)
   have u:Un (L2.d6 X.stack) [z,TO,i1,i2] H H s.heap h':=
     ⟨λb o q n Pj Kn=>let m:=LB b Kn;hk b o m.1 m.2.1 m.2.2.1 m.2.2.2 q,λb o q n Pj Kn=>let m:=LB b Kn;⟨o.slots,hk b o m.1 m.2.1 m.2.2.1 m.2.2.2 q⟩,λb o q n Kn=>n,
       λb o q Kn=>let m:=LB b Kn;⟨o,hk b o m.1 m.2.1 m.2.2.1 m.2.2.2 q⟩,λb zs q=>q,λb o zs q=>q,λb ps q=>⟨#[],by rw[q];simp⟩⟩
   exact I.qZ (s':={s with heap:=h',toks:=tk}) (ch:=[z,TO,i1,i2]) rfl u (λb ob q=>(I.aH b ob q).gW (λc v MS w=>by
       have tc:∃u,H c=some u:=by
         rcases MS with rfl|MS
         ·exact⟨_,q⟩
         ·exact⟨_,MS⟩
       obtain⟨u',PX⟩:=tc;have m:=aX c u' PX;exact hk c v m.1 m.2.1 m.2.2.1 m.2.2.2 w) (λ_ w=>w) λ_ _ w=>w) I.bare λb hb=>by
     have J1:b∈[z,TI,TO,i1,i2]:=by
       simp only[List.mem_cons,List.not_mem_nil,or_false]at hb ⊢;rcases hb with h|h|h|h<;>simp[h]
     obtain⟨_,a1,a2,a3,a4,a5⟩:=hf b J1;exact⟨a3,a1,a4,a5⟩
 self _ _ _ _ _ st h:=wpAny_pyIter_zip st.1 h
def Sd.is(h:Heap):Sd->Prop
 |.l a=>∃xs,h.IsList a xs
 |.t a=>∃xs,h.IsTuple a xs
 |.s _=>True
theorem Sd.GN{h:Heap}{d:Sd}(o:Obj)(x:d.is h):d.is (h.push o):=by
 cases d with
 |l a=>obtain⟨xs,ob,e,r⟩:=x;exact⟨xs,ob,Heap.get?_push_of_some _ e,r⟩
 |t a=>obtain⟨xs,ob,e,r⟩:=x;exact⟨xs,ob,Heap.get?_push_of_some _ e,r⟩
 |s z=>trivial
theorem Sd.iter{prog:Program}{w:World}{A:Around}{E:Value->Shared->Prop}{s:Shared}{d:Sd}{tk:Tok}{Q:Value->Shared->Prop}(x:d.is s.heap)(h:Q (.ref s.heap.objs.size) {s with heap:=s.heap.push (d.obj tk)}):
   wpAny (model prog w) A (pyIter (d.val tk)) Q E s:=by
 cases d with
 |l a=>obtain⟨xs,x⟩:=x;exact wpAny_pyIter_list x h
 |t a=>obtain⟨xs,x⟩:=x;exact wpAny_pyIter_tuple x h
 | s z=>
   have h:Q (.ref s.heap.objs.size) {s with heap:=s.heap.push {cls:=.type (if z.cps.all (· <128)then "str_ascii_iterator" else "str_iterator"),data:=.fields #[.str z tk,.int 0 0]} }:=h
   cases ha:z.cps.all (· <128)with
   |true=>rw[ha]at h;exact wpAny_pyIter_ascii ha h
   |false=>rw[ha]at h;exact wpAny_pyIter_wide ha h
noncomputable abbrev nG(h:Heap)(d:Sd)(td:Tok):Heap:=h.push (d.obj td)
noncomputable abbrev oN(h:Heap)(d e:Sd)(td te:Tok):Heap:=(nG h d td).push (e.obj te)
noncomputable abbrev mU(h:Heap)(d e:Sd)(td te:Tok):Heap:=(oN h d e td te).push {cls:=.type "tuple",data:=.seq #[.ref h.objs.size,.ref (nG h d td).objs.size]}
noncomputable abbrev og(h:Heap)(d e:Sd)(td te:Tok):Heap:=(mU h d e td te).push {cls:=.type "tuple",data:=.seq #[.none,.none]}
noncomputable abbrev iA(h:Heap)(d e:Sd)(td te:Tok):Heap:=(og h d e td te).push {cls:=.type "zip",data:=.fields #[.none,.bool false,.bool false,.ref (oN h d e td te).objs.size,.ref (mU h d e td te).objs.size]}
theorem Ei(d e:Sd)(td te:Tok):Meets (Builtin.«zip.__new__» ⟨[.type "zip",d.val td,e.val te],[]⟩) (λ_ R s=>d.is s.heap/\e.is s.heap/\R (.ok (.ret (.ref (og s.heap d e td te).objs.size))) {s with heap:=iA s.heap d e td te}):=
 .of_wp λprog w A R s h=>by
   obtain⟨hp,g,dr,tk,os⟩:=s;obtain⟨h1,h2,h⟩:=h;have Kb:=sub_zip;have a1:d.is (Shared.heap ⟨hp,g,dr,tk,os⟩):=h1;have a2:e.is (Shared.heap ⟨hp.push (d.obj td),g,dr,tk,os⟩):=Sd.GN _ h2
   wp_walk using Sd.iter a1,Sd.iter a2
   exact⟨_,rfl,h⟩
section
variable{X:Cx}{M:Md}{G H H':Hp}{F0:Gf}{F F':Addr->Prop}{σ:L2.St}{ρ:En}{pos:Pos}{pins:List (Addr×Obj)}{s:Shared}
theorem Sd.w9{d:Sd}{xs:List V}(I:Inv X pins σ H s)(h:d.at X.K H xs):d.is s.heap:=by
 cases d with
 |l a=>obtain⟨aj,_,pl,_⟩:=I.list h;exact⟨_,pl.isList⟩
 |t a=>obtain⟨aj,_,pl,_⟩:=I.tuple h;exact⟨_,pl⟩
 |s z=>trivial
def FL(K:PySem.W.Frag)(ta:TA):TI:=λσ H R=>ta σ H λvs H1=>∃(x y:V) (d e:Sd) (xs ys:List V),vs=[x,y]/\(∀u,RelV x u->∃tk,u=d.val tk)/\(∀u,RelV y u->∃tk,u=e.val tk)/\d.at K H1 xs/\e.at K H1 ys/\R (qt K d e) H1
theorem EE:bootBuiltins "zip"=some (.type "zip"):=by decide+kernel
theorem CI{elts:List Expr}{k:Nat}{tp:Pos}{a b:Expr}{ta:TA}{p:Pos}(hg:L2.Gl X "zip")(hm:X.mg "zip"=none)(ha:PA X [a,b] ta)(hs:starEach [a,b] X.env=(false,eval a X.env)::starEach [b] X.env)(Kd:starEach [b] X.env=(false,eval b X.env)::starEach [] X.env):
   L2.PI X (.Tuple elts k tp) (.Call (.Name "zip" p) [a,b] [] pos) (FL X.K ta):=by
 intro pins s σ H R I h;refine PyProof.Rows.Call_ (L2.jS I hg hm EE (PyProof.Rows.callWith_type1 (L2.aJ (ha pos pins s σ H _ I h) λus s1 ⟨vs,H1,I1,r1,q1⟩=>?_) hs (by rw[Kd];rfl)))
 obtain⟨x,y,d,e,xs,ys,rfl,hx,hy,ax,ay,q⟩:=q1;obtain⟨u1,u2,rfl,SI,RZ⟩:=L2.vals2 r1;obtain⟨td,rfl⟩:=hx u1 SI;obtain⟨te,rfl⟩:=hy u2 RZ;refine callType_new PySem.F.called_zip (by decide) (PySem.F.typeCall_zip_2 _ _) (PySem.F.newCall_zip_2 _ _) (λobj=>PySem.F.args_object_init_3 obj _ _) PySem.F.entry_zip_new (Ei d e td te) ⟨Sd.w9 I1 ax,Sd.w9 I1 ay,?_⟩
 have z1:(nG s1.heap d td).objs.size=s1.heap.objs.size+1:=Heap.size_push ..;have z2:(oN s1.heap d e td te).objs.size=s1.heap.objs.size+2:=by rw[Heap.size_push,z1]
 have z3:(mU s1.heap d e td te).objs.size=s1.heap.objs.size+3:=by rw[Heap.size_push,z2]
 have z4:(og s1.heap d e td te).objs.size=s1.heap.objs.size+4:=by rw[Heap.size_push,z3]
 have nf:∀(d:Sd) tk,(d.obj tk).isFreed=false:=λd tk=>by cases d<;>rfl
 have g5:(iA s1.heap d e td te).get? (og s1.heap d e td te).objs.size=some _:=Heap.get?_push_size _ rfl;have g4:(iA s1.heap d e td te).get? (mU s1.heap d e td te).objs.size=some _:=Heap.get?_push_of_some _ (Heap.get?_push_size _ rfl);have g3:(iA s1.heap d e td te).get? (oN s1.heap d e td te).objs.size=some _:=Heap.get?_push_of_some _ (Heap.get?_push_of_some _ (Heap.get?_push_size _ rfl));have g2:(iA s1.heap d e td te).get? (nG s1.heap d td).objs.size=some (e.obj te):=Heap.get?_push_of_some _ (Heap.get?_push_of_some _ (Heap.get?_push_of_some _ (Heap.get?_push_size _ (nf e te))));have g1:(iA s1.heap d e td te).get? s1.heap.objs.size=some (d.obj td):=Heap.get?_push_of_some _ (Heap.get?_push_of_some _ (Heap.get?_push_of_some _ (Heap.get?_push_of_some _ (Heap.get?_push_size _ (nf d td)))));have old:∀c o,s1.heap.get? c=some o->(iA s1.heap d e td te).get? c=some o:=λc o x=>Heap.get?_push_of_some _ (Heap.get?_push_of_some _ (Heap.get?_push_of_some _ (Heap.get?_push_of_some _ (Heap.get?_push_of_some _ x))));rw[z2,z3,z4]at g5;rw[z1,z2]at g3;rw[z3]at g4;rw[z1]at g2;show _/\_;rw[z4];refine⟨⟨_,g5,rfl⟩,wpAny_pyIter_zip g5 ?_⟩;have I2:Inv X pins σ H1 {s1 with heap:=iA s1.heap d e td te}:=I1.kept (t':=s1.toks) old
 have hK:∀b,s1.heap.objs.size<=b->X.K.lookup b=none:=λb hb=>by
   cases q:X.K.lookup b with
   |none=>rfl
   |some o=>exact absurd (Nat.lt_of_lt_of_le (Heap.lt_size (I1.dy b o q)) hb) (Nat.lt_irrefl _)
 have OM:∀ {d:Sd} {it:Addr} {tk:Tok} {h:Heap},h.get? it=some (d.obj tk)->d.iT it 0 h tk:=λ{d it tk h} q=>by
   cases d with
   |l a=>exact⟨_,q,rfl,rfl⟩
   |t a=>exact⟨_,q,rfl,rfl⟩
   |s z=>exact⟨_,q,rfl,rfl⟩
 refine⟨s1.heap.objs.size+4,[s1.heap.objs.size+4,s1.heap.objs.size+2,s1.heap.objs.size+3,s1.heap.objs.size,s1.heap.objs.size+1],_,_,H1,rfl,I2,As d e td te _ _ _ _ _ ?_ ?_,⟨g5,g3,⟨_,_,g4⟩,OM g1,OM g2⟩,λb hb=>?_,q⟩
 ·simp
 · intro b hb
   refine hK b ?_;simp only[List.mem_cons,List.not_mem_nil,or_false]at hb;rcases hb with rfl|rfl|rfl|rfl|rfl<;>omega
 · have J1:s1.heap.objs.size<=b:=by
     simp only[List.mem_cons,List.not_mem_nil,or_false]at hb;rcases hb with rfl|rfl|rfl|rfl|rfl<;>omega
   exact I1.mz J1 (I1.aH.fresh J1)
theorem tF{d:D}{ds:List D}{x:V}(e:items d=.ok ds)(r:Rep M H F d x):∃(q:Sd) (xs:List V),(∀u,RelV x u->∃tk,u=q.val tk)/\ag M H F ds xs/\∀H' F',Mv F H F' H'->q.at M.K H' xs:=by
 unfold items at e;split at e
 · cases e
   simp only[Rep]at r;obtain⟨a,xs,rfl,h,rs⟩:=r;exact⟨.l a,xs,λu ru=>⟨0,ru⟩,rs,λH' F' m=>(h.mv m).sq⟩
 · cases e
   simp only[Rep]at r;obtain⟨a,xs,rfl,h,rs⟩:=r;exact⟨.t a,xs,λu ru=>⟨0,ru⟩,rs,λH' F' m=>(h.mv m).sq⟩
 · rename_i z
   cases e;cases fL r;refine⟨.s z,z.cps.toList.map λc=>.str ⟨#[c]⟩,λu ⟨tk,ru⟩=>⟨tk,ru⟩,?_,λ_ _ _=>rfl⟩;generalize z.cps.toList=l
   induction l with
   |nil=>exact ag.nil
   |cons c l ih=>exact ag.cons j9 ih
 ·cases e
theorem sN:∀ {xs ys:List D},(ij xs ys).length=min xs.length ys.length
 |[],_=>by simp
 |_::_,[]=>by simp
 |x::xs,y::ys=>by simp[sN (xs:=xs) (ys:=ys)]
theorem vp:∀ {xs ys:List D} {i:Nat} {d:D},(ij xs ys)[i]? =some d->∃x y,d=.tup [x,y]/\xs[i]? =some x/\ys[i]? =some y
 |[],_,_,_,h=>by simp at h
 |_::_,[],_,_,h=>by simp at h
 |x::xs,y::ys,0,d,h=>by simp at h;exact⟨x,y,h.symm,rfl,rfl⟩
 | x::xs,y::ys,i+1,d,h=>by
   have h:(ij xs ys)[i]? =some d:=by simpa using h
   obtain⟨a,b,h1,h2,h3⟩:=vp h;exact⟨a,b,h1,by simpa using h2,by simpa using h3⟩
theorem DZ{q r:Sd}{xs ys:List V}{ds es:List D}(h1:∀H' F',Mv F H F' H'->q.at M.K H' xs)(h2:∀H' F',Mv F H F' H'->r.at M.K H' ys)(rs:ag M H F ds xs)(ss:ag M H F es ys)
   (Sr:∀H' F' zs,Mv F H F' H'->q.at M.K H' zs->True):Gives M (qt M.K q r) H F (ij ds es):=by
 intro H' F' mv tr;have a1:=h1 H' F' mv;have a2:=h2 H' F' mv;have Le:=rs.mv mv;have TU:=ss.mv mv;refine⟨λi d hd=>?_,?_⟩
 · obtain⟨x,y,rfl,hx,hy⟩:=vp hd
   obtain⟨vx,ex,rx⟩:=Le.get hx;obtain⟨vy,ey,ry⟩:=TU.get hy;refine⟨⟨xs,ys,a1,a2,(List.getElem?_eq_some_iff.mp ex).1,(List.getElem?_eq_some_iff.mp ey).1⟩,λv H2 hv=>?_⟩;obtain⟨t,wx,wy,rfl,ht,g1,g2,rfl⟩:=hv;have q1:=g1 xs a1;have q2:=g2 ys a2;rw[ex]at q1;rw[ey]at q2;cases q1;cases q2;exact⟨ak.bR ht _,pk tr ht (ag.cons rx (ag.cons ry ag.nil))⟩
 · refine⟨xs,ys,a1,a2,?_⟩
   rw[sN,rs.length,ss.length];omega
theorem Hw{elts:List Expr}{k:Nat}{tp:Pos}{a b:Expr}{fa fb:Ex}{p:Pos}(hg:L2.Gl X "zip")(hm:X.mg "zip"=none)(ha:JE X a fa)(hb:JE X b fb)(hs:starEach [a,b] X.env=(false,eval a X.env)::starEach [b] X.env)(Kd:starEach [b] X.env=(false,eval b X.env)::starEach [] X.env):
   JI X (.Tuple elts k tp) (.Call (.Name "zip" p) [a,b] [] pos) (jh fa fb):=
 k8 (CI hg hm (fm ha (fm hb fQ Kd) hs) hs Kd) λσ H Q ⟨ρ,F,ds,r,e,q⟩=>by
   obtain⟨d1,Sx,e⟩:=av.mp e;obtain⟨d2,QW,e⟩:=av.mp e;obtain⟨xs,Ts,e⟩:=av.mp e;obtain⟨ys,TH,e⟩:=av.mp e;cases e;refine⟨ρ,F,[d1,d2],r,by show(fa ρ).bind _=_;rw[Sx];show((fb ρ).bind _).bind _=_;rw[QW];rfl,λvs H1 s1 rv=>?_⟩
   obtain⟨x,y,rfl,rx,ry⟩:=rv.two;obtain⟨Sy,vx,u1,Sa,LI⟩:=tF Ts rx;obtain⟨QI,vy,u2,Sk,at2⟩:=tF TH ry;exact⟨x,y,Sy,QI,vx,vy,rfl,u1,u2,LI H1 F Mv.refl,at2 H1 F Mv.refl,q _ H1 s1 (DZ (M:=aB X) LI at2 Sa Sk λ_ _ _ _ _=>trivial)⟩
end
def uM:D->Value->Prop
 |.aD,u=>u=.none
 |.bl b,u=>u=.bool b
 |.int i,u=>∃t,u=.int i t
 |.str x,u=>∃t,u=.str x t
 |_,_=>False
theorem Gj{d:D}{u:Value}(h:uM d u):∃v,RelV v u/\∀(M:Md) H F,Rep M H F d v:=by
 cases d with
 |aD=>exact⟨.aD,h,λ_ _ _=>u5⟩
 |bl b=>exact⟨.bl b,h,λ_ _ _=>eE⟩
 |int i=>exact⟨.int i,h,λ_ _ _=>dN⟩
 |str x=>exact⟨.str x,h,λ_ _ _=>j9⟩
 |_=>exact h.elim
section
variable{P:Program}{w:World}{K:PySem.W.Frag}{h:Heap}{mg:Str->Option Value}{x:Str}
theorem xC{u:Value}{d:D}(X:K.In h)(G:h.Ns mainGlobals mg)(e1:PySem.W.nsIn K mainGlobals x=some (some u))(hm:uM d u):iP P w K mg x d:=by
 obtain⟨v,rv,hv⟩:=Gj hm;exact⟨v,u,PySem.W.mg_of X G e1,rv,λH F=>hv _ H F⟩
end
end PL
namespace PL
open PySem
end PL
set_option maxHeartbeats 1000000
namespace PL
open PySem PySem.Spec
open L2 (V Hp HO Cx PE PT PW PA PS bQ PG cH VK TE TT TA TS TI TG Inv RelV Vals Rd a8 bo upd ak Key XK Ends aZ c9 bE R2 EP It Turn cq Un)
section
variable{X:Cx}{M:Md}{G H H':Hp}{F0:Gf}{F F':Addr->Prop}{σ:L2.St}{ρ:En}{pos:Pos}{pins:List (Addr×Obj)}{s:Shared}
theorem aV.fresh{p:Addr}{o:HO}(r:aV M H F σ ρ)(hp:H p=none):aV M (upd H p o) (λb=>F b\/b=p) σ ρ:=by
 have ne:∀b u,H b=some u->b≠p:=λb u e z=>by subst z;rw[hp]at e;cases e
 have mv:Mv F H (λb=>F b\/b=p) (upd H p o):=λb u n e=>⟨λh=>h.elim n (ne b u e),by rw[L2.aE (ne b u e)];exact e⟩
 have sm:ak H (upd H p o):=ak.bR hp _
 exact⟨r.len,λb f=>by
   by_cases hb:b=p
   ·subst hb;exact⟨_,L2.bf⟩
   ·obtain⟨u,hu⟩:=r.aX b (f.resolve_right hb);exact⟨u,sm _ _ hu⟩,
   λi d e=>let⟨v,h1,h2⟩:=r.sh i d e;⟨v,h1,h2.mv mv⟩,
   λi ds e=>let⟨a,xs,e1,f,e2,q⟩:=r.ol i ds e;⟨a,xs,e1,.inl f,sm _ _ e2,q.mv mv⟩,
   λi ks ds e=>let⟨a,xs,e1,f,e2,l,q⟩:=r.od i ks ds e;⟨a,xs,e1,.inl f,sm _ _ e2,l,q.mv mv⟩,
   r.b4,r.on.mv mv (λj Jp e=>⟨e,rfl⟩) (λj Jp b u e hb f hu=>⟨.inl f,sm _ _ hu⟩) λj Jp b e hb k ok=>(r.on j Jp e).2.1 b hb k ok⟩
def JP(X:Cx)(pos:Pos)(keys:List (Option Expr))(values:List Expr)(ks:List Ky)(fs:List Ex):Prop:=
 ∃JR,L2.kU X pos keys values JR/\∀(F:Addr->Prop) (σ:L2.St) (H:Hp) (ρ:En) (ds:List D) (Q:List (V×V)->Hp->Prop),aV (aB X) H F σ ρ->eList fs ρ=.ok ds->
   (∀xs H',ak H H'->ag (aB X) H' F ds xs->Q ((ks.zip xs).map λkv=>(L2.kV kv.1,kv.2)) H')->L2.lu JR σ H Q
theorem DJ:JP X pos [] [] [] []:=⟨[],L2.ve,λF σ H ρ ds Q r e q=>by cases e;exact q [] H (ak.refl H) ag.nil⟩
theorem yJ{k v:Expr}{z:Str}{f:Ex}{keys:List (Option Expr)}{values:List Expr}{ks:List Ky}{fs:List Ex}(hk:JE X k (eC (.str z)))(hv:JE X v f)(hr:JP X pos keys values ks fs):JP X pos (some k::keys) (v::values) (.inr z::ks) (f::fs):=by
 obtain⟨JR,h,g⟩:=hr;refine⟨_,L2.vD hk hv h,λF σ H ρ ds Q r e q=>?_⟩;obtain⟨a,ea,e⟩:=av.mp e;obtain⟨as,Pq,e⟩:=av.mp e;cases e;refine⟨ρ,F,.str z,r,rfl,λx H1 s1 rx=>⟨ρ,F,a,r.same s1,ea,λy H2 s2 ry=>g F σ H2 ρ as _ ((r.same s1).same s2) Pq λxs H3 s3 rs=>?_⟩⟩;cases fL rx;exact q (y::xs) H3 ((s1.trans s2).trans s3) (ag.cons (ry.mv (.same s3)) rs)
theorem HH{kvs:List (Key×V)}{k:Key}{v:V}(h:k∉kvs.map (·.1)):L2.putK kvs k v=kvs++[(k,v)]:=by
 unfold L2.putK;rw[if_neg];intro h1;rw[List.any_eq_true]at h1;obtain⟨kv,hm,hk⟩:=h1;exact h (List.mem_map.mpr ⟨kv,hm,by simpa using hk⟩)
theorem pM:∀ {more kvs:List (Key×V)},(kvs.map (·.1)++more.map (·.1)).Nodup->L2.ft kvs more=kvs++more
 |[],kvs,_=>by show kvs=_;rw[List.append_nil]
 | p::r,kvs,h=>by
   show L2.ft (L2.putK kvs p.1 p.2) r=_
   have hp:p.1∉kvs.map (·.1):=λhm=>by
     rw[List.map_cons,List.nodup_append]at h;exact h.2.2 _ hm _ List.mem_cons_self rfl
   rw[HH hp,pM (by simpa using h),List.append_assoc]
   rfl
theorem DU{keys:List (Option Expr)}{values:List Expr}{ks:List Ky}{fs:List Ex}(h:JP X pos keys values ks fs)(Kk:keys.all (·.isSome)=true)(hl:keys.length=values.length)(h0:keys≠[])(Mu:keys.length<=15)(hk:ks.length=fs.length)(NV:ks.length<=15)(hn:ks.Nodup):JE X (.Dict keys values pos) (cS ks fs):=by
 obtain⟨JR,hp,g⟩:=h;refine qw (L2.vL hp Kk hl h0 Mu) λσ H Q ⟨ρ,F,d,hr,e,q⟩=>?_;obtain⟨as,ea,e⟩:=av.mp e;cases e;intro p hp;have QM:=hr.fresh (o:=.dK []) hp;refine g _ σ _ ρ as _ QM ea λxs H2 s2 rs=>?_;have P7:ks.length=xs.length:=by rw[<-rs.length,iM ea,hk]
 have e2:H2 p=some (.dK []):=s2 _ _ L2.bf
 have hm:L2.ft [] (ks.zip xs)=ks.zip xs:=by
   rw[pM (by simp only[List.map_nil,List.nil_append];rw[show(ks.zip xs).map (·.1)=ks from by rw[List.map_fst_zip];omega];exact hn)]
   rfl
 refine⟨e2,ks.zip xs,rfl,by rw[List.length_zip];omega,?_⟩
 rw[hm];refine⟨p,ks.zip xs,rfl,L2.bf,λob=>?_⟩;rw[L2.qJ]
 have sm:ak H (upd H2 p (.frz ob (.dK (ks.zip xs)))):=λb u e=>by
   have ne:b≠p:=λz=>by subst z;rw[hp]at e;cases e
   rw[L2.aE ne];exact s2 _ _ (by rw[L2.aE ne];exact e)
 have nF:¬F p:=k7 hr.aX hp;have mv:Mv (λb=>F b\/b=p) H2 F (upd H2 p (.frz ob (.dK (ks.zip xs)))):=λb u n e=>⟨λh=>n (.inl h),by rw[L2.aE (λz=>n (.inr z))];exact e⟩
 refine q _ _ sm ?_;simp only[Rep];exact⟨p,xs,rfl,.inl ⟨nF,ob,L2.bf⟩,P7,rs.mv mv⟩
end
section
variable{X:Cx}{M:Md}{G H H':Hp}{F0:Gf}{F F':Addr->Prop}{σ:L2.St}{ρ:En}{pos:Pos}{pins:List (Addr×Obj)}{s:Shared}
end
section
variable{X:Cx}{M:Md}{G H H':Hp}{F0:Gf}{F F':Addr->Prop}{σ:L2.St}{ρ:En}{pos:Pos}{pins:List (Addr×Obj)}{s:Shared}
end
section
variable{X:Cx}{M:Md}{G H H':Hp}{F0:Gf}{F F':Addr->Prop}{σ:L2.St}{ρ:En}{pos:Pos}{pins:List (Addr×Obj)}{s:Shared}
theorem uN(i:Nat){st:Stmt}{f:Ex}(h:PS X st (L2.kC (j6 (aB X) f) (L2.az i)))(hl:∀ρ d,f ρ=.ok d->∃ds,d=.lst ds):JS X st (aK (az i) f):=λF0=>
 cm h λD σ H ⟨ρ,F,fl,r,e,q⟩=>by
   obtain⟨d,ed,e⟩:=av.mp e;obtain⟨ds,rfl⟩:=hl _ _ ed;cases e;refine⟨ρ,F,ds,r.rs,ed,λp H1 xs s1 hp rs=>?_⟩;have s2:ak H1 (upd H1 p (.lst xs)):=ak.bR hp _;refine q _ _ F (.same (s1.trans s2)) (((r.same s1).same s2).oX ?_);simp only[Rep];refine⟨p,xs,rfl,.inl ⟨λf=>?_,.inl L2.bf⟩,rs.mv (.same s2)⟩;obtain⟨o,e⟩:=(r.same s1).rs.aX p f;rw[hp]at e;cases e
end
noncomputable def cV(i:Int):Bool:=decide (i.natAbs.log2<100000)
@[simp] noncomputable def i6:D->D->R D
 |.int i,.int j=>if(cV i&&cV j)=true then .ok (.int (i*j))else .bad
 |_,_=>.bad
@[simp] noncomputable def bt:D->D->R D
 |.int i,.int j=>if 0<j/\j.natAbs.log2<9000 then .ok (.int (i / j))else .bad
 |_,_=>.bad
@[simp] noncomputable def bL:D->D->R D
 |.int i,.int j=>if 0<=j/\j<=1000/\cV i=true then .ok (.int (i ^ j.toNat))else .bad
 |_,_=>.bad
@[simp] noncomputable def IX:D->D->R D
 |.int i,.int j=>.ok (.int (if j>i then j else i))
 |_,_=>.bad
noncomputable def frz(i:Nat)(ρ:En):En:=match ρ[i]? with
 |some (.ol xs)=>ρ.set i (.sh (.lst xs))
 |_=>ρ
mutual
noncomputable def iN:D->Bool
 |.aD=>true
 |.bl _=>true
 |.int _=>true
 |.str _=>true
 |.tup xs=>f7 xs
 |_=>false
noncomputable def f7:List D->Bool
 |[]=>true
 |x::xs=>iN x&&f7 xs
end
@[simp] noncomputable def Iz(i:Nat)(f:Ex):Ex:=λρ=>(f (frz i ρ)).bind λd=>if iN d=true then .ok d else .bad
@[simp] noncomputable def mS(i:Nat)(f:aL):aL:=λρ=>f (frz i ρ)
section
variable{X:Cx}{M:Md}{G H H':Hp}{F0:Gf}{F F':Addr->Prop}{σ:L2.St}{ρ:En}{pos:Pos}{pins:List (Addr×Obj)}{s:Shared}
theorem sE{i:Int}(h:cV i=true):Builtin.Int.intBits i<=100000:=by
 unfold cV at h;rw[decide_eq_true_eq]at h;unfold Builtin.Int.intBits;split<;>omega
theorem wF:aZ X (binaryOp .Mult) (L2.rI (λi j=>cV i=true/\cV j=true) λi j=>.int (i*j)):=L2.nv λi j t u s Q E c q=>PyProof.Rows.mul_int q (IntMulOk.of_bits (Nat.le_trans (sE c.1) (by decide)) (Nat.le_trans (sE c.2) (by decide)))
theorem wm:cz M i6 (L2.rI (λi j=>cV i=true/\cV j=true) λi j=>.int (i*j)):=by
 intro F H x y a b d Q tr ra rb e q;unfold i6 at e;split at e
 · split at e
   · rename_i h
     cases e;rw[Bool.and_eq_true]at h;exact⟨_,_,br ra,br rb,h,q _ _ (ak.refl _) dN⟩
   ·cases e
 ·cases e
theorem b7:aZ X (binaryOp .FloorDiv) (L2.rI (λi j=>0<j/\j.natAbs.log2<9000) λi j=>.int (i / j)):=by
 refine L2.nv λi j t u s Q E c h=>?_;have e:i / j=i.fdiv j:=(Int.fdiv_eq_ediv_of_nonneg _ (Int.le_of_lt c.1)).symm;rw[e]at h;exact PyProof.Rows.floordiv_int (by have:=c.1;omega) h (Or.inl (PyProof.noPylong_of_log2 c.2))
theorem b6:cz M bt (L2.rI (λi j=>0<j/\j.natAbs.log2<9000) λi j=>.int (i / j)):=by
 intro F H x y a b d Q tr ra rb e q;unfold bt at e;split at e
 · split at e
   · rename_i h
     cases e;exact⟨_,_,br ra,br rb,h,q _ _ (ak.refl _) dN⟩
   ·cases e
 ·cases e
theorem eP:aZ X (binaryOp .Pow) (L2.rI (λi j=>0<=j/\j<=1000/\cV i=true) λi j=>.int (i ^ j.toNat)):=by
 refine L2.nv λi j t u s Q E c q=>PyProof.Rows.pow_int c.1 ?_ q;have h:=sE c.2.2;have h2:(Builtin.Int.intBits i:Int)*j<=100000*1000:=Int.mul_le_mul (by omega) c.2.1 c.1 (by omega)
 have h3:(2:Int) ^ 27=134217728:=by decide
 omega
theorem eQ:cz M bL (L2.rI (λi j=>0<=j/\j<=1000/\cV i=true) λi j=>.int (i ^ j.toNat)):=by
 intro F H x y a b d Q tr ra rb e q;unfold bL at e;split at e
 · split at e
   · rename_i h
     cases e;exact⟨_,_,br ra,br rb,h,q _ _ (ak.refl _) dN⟩
   ·cases e
 ·cases e
theorem ag.pG{ds:List D}{xs:List V}(h:ag M H F ds xs):∀k:Nat,ag M H F (List.replicate k ds).flatten (List.replicate k xs).flatten
 |0=>by simp[ag]
 | k+1=>by
   rw[List.replicate_succ,List.replicate_succ,List.flatten_cons,List.flatten_cons];exact h.append (ag.pG h k)
noncomputable def uY(M:Md):R2:=λx y H Q=>∃F l k xs,x=.ref l/\y=.int k/\fY M H F l xs/\0<=k/\k<1000/\xs.length<=1000/\∀p,H p=none->Q (.ref p) (upd H p (.lst (List.replicate k.toNat xs).flatten))
theorem tN:aZ X (binaryOp .Mult) (uY (aB X)):=by
 intro pins s σ H x y v u Q I rx ry h;obtain⟨F,l,k,xs,rfl,rfl,hH,h1,h2,hz,q⟩:=h;cases rx;obtain⟨t,rfl⟩:=ry;obtain⟨aj,n,sl,r,e,z⟩:=jg I hH;have hl:=r.length;have MZ:aj.length*k.toNat<=1000*1000:=Nat.mul_le_mul (by omega) (by omega)
 have hm:aj.toArray.size*k.toNat<=1000*1000:=by rw[List.size_toArray];exact MZ
 refine wpAny_binaryOp_repeat_ref (T:="list") (U:="int") (by decide) ⟨_,e,rfl⟩ (λs'=>typeIs_int s' k t) noFill_list_mul PySem.F.fills_int_mul PySem.F.slot_int_rmul repeat_list PySem.F.slot_int_index.lookup
   (call_meets PySem.F.slot_int_rmul (typeIs_int s k t) PySem.F.entry_int_rmul (PySem.F.args_int_rmul_2 _ _) (lm_int_rmul_list_any k t l aj.toArray n none sl)
     ⟨e,rfl,⟨_,e,rfl⟩,call_meets PySem.F.slot_list_mul ⟨_,e,rfl⟩ PySem.F.entry_list_mul (PySem.F.args_list_mul_2 _ _)
       (lm_list_mul_any l aj.toArray n none sl k t (by simp[Builtin.List.listFitsIndex];omega) (by omega) (by simp[Builtin.List.listTooLong,sizeLine];omega)) ⟨e,?_⟩⟩)
 rw[PyProof.Rows.listMul_foldl_if];refine⟨.ref _,_,I.wA (t':=s.toks) (r.rep k.toNat) (by rw[L2.len_rep,Nat.mul_comm,hl];have:(sizeLine:Nat)=16777216:=sizeLine_eq;omega),rfl,q _ I.fresh⟩
theorem Dk:cz M ic (uY M):=by
 intro F H x y a b d Q tr ra rb e q;unfold ic at e;split at e
 · split at e
   · rename_i h
     cases e;simp only[Rep]at ra;obtain⟨l,xs,rfl,h1,r1⟩:=ra;exact⟨F,l,_,xs,rfl,br rb,h1,h.1,h.2.1,by rw[<-r1.length];exact h.2.2,λp hp=>q _ _ (ak.bR hp _) (iQ tr hp (r1.pG _))⟩
   ·cases e
 ·cases e
theorem aV.frz(r:aV M H F σ ρ)(i:Nat):∃F',(∀b,F b->F' b\/∃u,H b=some u/\((∃xs,u=.lst xs)\/∃kvs,u=.dK kvs))/\aV M H F' σ (frz i ρ):=by
 by_cases ol:∃ds,ρ[i]? =some (.ol ds)
 · obtain⟨ds,q0⟩:=ol
   have oi:bp ρ i:=.inl ⟨_,q0⟩;obtain⟨a,xs,ei,fa,e2,rs⟩:=r.ol i ds q0;have mv:Mv F H (λb=>F b/\b≠a) H:=λb v n e=>⟨λh=>n h.1,e⟩
   have Nh:Rep M H (λb=>F b/\b≠a) (.lst ds) (.ref a):=by
     simp only[Rep];exact⟨a,xs,rfl,.inl ⟨λh=>h.2 rfl,.inl e2⟩,rs.mv mv⟩
   refine⟨λb=>F b/\b≠a,λb h=>?_,?_⟩
   · by_cases hb:b=a
     · subst hb
       exact .inr ⟨_,e2,.inl ⟨_,rfl⟩⟩
     ·exact .inl ⟨h,hb⟩
   unfold PL.frz;rw[q0];refine⟨by simp[r.len],λb h=>r.aX b h.1,?_,?_,?_,?_,ug r.on oi ei mv (λb f n=>⟨f,n⟩)⟩
   · intro j e q
     rcases get_set q with⟨rfl,hx,hl⟩|⟨C',q⟩
     · cases hx
       exact⟨_,ei,Nh⟩
     · obtain⟨w,e1,g⟩:=r.sh j e q
       exact⟨w,e1,g.mv mv⟩
   · intro j e q
     rcases get_set q with⟨rfl,x,hl⟩|⟨C',q⟩
     ·cases x
     · obtain⟨b,xs,e1,f,e3,g⟩:=r.ol j e q
       exact⟨b,xs,e1,⟨f,λz=>by subst z;exact C' (r.b4 i j _ oi (.inl ⟨_,q⟩) ei e1)⟩,e3,g.mv mv⟩
   · intro j k e q
     rcases get_set q with⟨rfl,x,hl⟩|⟨C',q⟩
     ·cases x
     · obtain⟨b,xs,e1,f,e3,l,g⟩:=r.od j k e q
       exact⟨b,xs,e1,⟨f,λz=>by subst z;exact C' (r.b4 i j _ oi (.inr ⟨_,_,q⟩) ei e1)⟩,e3,l,g.mv mv⟩
   · intro j k b oj ok ej ek
     exact r.b4 j k b oj.d8.2 ok.d8.2 ej ek
 · refine⟨F,λ_ h=>.inl h,?_⟩
   unfold PL.frz;cases q:ρ[i]? with
   |none=>exact r
   | some s=>
     cases s with
     |ol xs=>exact absurd ⟨_,q⟩ ol
     |_=>exact r
theorem Ag(i:Nat){e:Expr}{f:aL}(h:JT X e f):JT X e (mS i f):=by
 intro pins s σ H Q I ⟨ρ,F,b,hr,e,q⟩;obtain⟨F',sub,r'⟩:=hr.frz i;exact h pins s σ H Q I ⟨_,F',b,r',e,q⟩
def jj(env:Env)(o k:Expr)(p3:Pos):Prop:=∀v,assign (.Subscript o k p3) env v=(do
     let ov <-holding [v] (eval o env)
     let iv <-holding [v,ov] (eval k env)
     standAt p3
     holding [v,ov,iv] (setItem ov iv v)
     release [v,ov,iv] [])
theorem zv(i:Nat){x:Str}{e k:Expr}{f g:Ex}{p2 p3:Pos}(he:JE X e f)(hk:JE X k g)(hN:X.N[i]? =some x:=by rfl)(hv:L2.cf X.env.scope x:=by first|exact Or.inl rfl|exact Or.inr (Or.inl rfl)|exact Or.inr (Or.inr rfl))(hd:(x==("__debug__":Str))=false:=by decide)
   (Jx:(x==("__classdict__":Str))=false:=by decide)
   (ha:jj X.env (.Name x p2) k p3)
   (hs:swapsWithSole [.Subscript (.Name x p2) k p3] e pos.line X.env=pure false:=by rfl) (hw:swappedStores [.Subscript (.Name x p2) k p3] e X.env=pure none:=by rfl) (h1:(assignEach [.Subscript (.Name x p2) k p3] X.env).map (·.2)=[assign (.Subscript (.Name x p2) k p3) X.env]:=by rfl):
   JS X (.Assign [.Subscript (.Name x p2) k p3] e pos) (lM i g f):=λF0=>
 cm (L2.pW he (L2.vz (L2.pv i hN hv hd Jx) hk L2.set_list ha) hs hw h1) λD σ H ⟨ρ,F,fl,r,e,q⟩=>by
   obtain⟨d,ed,e⟩:=av.mp e;obtain⟨y,ey,e⟩:=av.mp e;split at e
   · rename_i xs j q1
     split at e
     · rename_i m hm
       cases e;have oi:bp ρ i:=.inl ⟨_,q1⟩;obtain⟨a,ys,ea,fa,R1,rs⟩:=r.rs.ol i _ q1;refine⟨ρ,F,d,r.rs,ed,λv H1 s1 rv=>⟨_,ea,ρ,F,_,(r.same s1).rs,ey,λz H2 s2 rz=>?_⟩⟩;have r2:=(r.same s1).same s2;refine⟨a,ys,j,m,rfl,br rz,s2 _ _ (s1 _ _ R1),by rw[<-rs.length];exact hm,?_⟩
       obtain⟨mv,r'⟩:=r2.chg (s:=.ol (xs.set m d)) oi ea (.inl ⟨_,ys.set m v,rfl,rfl,ag.set m (rv.mv (.same s2)) (rs.mv (.same (s1.trans s2)))⟩);exact q _ _ _ (Mv.trans (.same (s1.trans s2)) mv) r'
     ·cases e
   ·cases e
end
section
variable{X:Cx}{M:Md}{G H H':Hp}{F0:Gf}{F F':Addr->Prop}{σ:L2.St}{ρ:En}{pos:Pos}{pins:List (Addr×Obj)}{s:Shared}
theorem D3{a b:Expr}{fa fb:Ex}(ha:JE X a fa)(hb:JE X b fb):JF X (.BinOp a .Add b pos) (e2 bj fa fb):=
 bz (L2.rB wN ha hb) λσ H Q ⟨ρ,F,ds,hr,e,q⟩=>by
   obtain⟨x,ex,e⟩:=av.mp e;obtain⟨y,ey,e⟩:=av.mp e;refine⟨ρ,F,x,hr,ex,λv H1 s1 rv=>⟨ρ,F,y,hr.same s1,ey,λw H2 s2 Km=>?_⟩⟩;have OP:=rv.mv (M:=aB X) (F':=F) (.same s2);unfold bj at e;split at e
   ·cases e
   ·split at e<;>cases e
   · split at e
     · rename_i hz
       cases e;simp only[Rep]at OP Km;obtain⟨l,xs,rfl,h1,r1⟩:=OP;obtain⟨b,zs,rfl,h2,r2⟩:=Km;exact⟨F,l,b,xs,zs,rfl,rfl,h1,h2,by rw[<-r1.length, <-r2.length];exact hz,λp hp=>q p H2 _ (s1.trans s2) hp (r1.append r2)⟩
     ·cases e
   ·split at e<;>cases e
   ·cases e
structure dA(P:Program)(w:World)(K:PySem.W.Frag)(mg:Str->Option Value)(base:Heap)(x:Str)(k n:Nat)(m:List D->R D):Prop where
 ex:∃f fd ps,L2.d3 P w K mg base L2.cI k f fd ps (lU ⟨K,P,w⟩ m n)/\L2.Binds K fd ps []/\PySem.W.keepIn K (.ref f)=true/\mg x=some (.ref f)
theorem B1{m:List D->R D}{n:Nat}{fs:List Ex}{Q:VK}{E:XK}(hn:fs.length=n)(h:j6 M (bc m fs) σ H Q):L2.om (lU M m n) [] E (jP M (eList fs)) σ H Q:=by
 obtain⟨ρ,F,d,hr,e,q⟩:=h;obtain⟨ds,MM,e⟩:=av.mp e;refine⟨ρ,F,ds,hr,MM,λvs H1 s1 rs=>?_⟩;show lU M m n (vs++[]) H1 Q E;rw[List.append_nil];exact⟨F,ds,d,(hr.same s1).aX,rs,by rw[iM MM];exact hn,e,λp H2 xs s2 hp rv=>q p H2 xs (s1.trans s2) hp rv⟩
theorem vV{x:Str}{k j n:Nat}{m:List D->R D}{e:Expr}{es:List Expr}{fs:List Ex}{p:Pos}(d:dA X.prog X.w X.K X.mg X.base x k n m)(hr:L2.bC j X.A)(hg:L2.Gl X x)(ha:JA X (e::es) (eList fs))(hk:k<=j:=by decide)(hn:fs.length=n:=by rfl)
   (Kf:(x==("__debug__":Str))=false:=by decide) (he:starEach (e::es) X.env=(false,eval e X.env)::starEach es X.env:=by rfl) (JV:(backTo pos (starEach es X.env)).any (·.1)=false:=by rfl):JF X (.Call (.Name x p) (e::es) [] pos) (bc m fs):=by
 obtain⟨f,fd,ps,h1,h2,h3,h4⟩:=d.ex;exact bz (L2.mW h1 (hr.mono hk) hg h4 h3 h2 .nil L2.nz ha Kf he JV) λσ H Q h=>B1 hn h
theorem Bm{n:Nat}{body:Sm}{ds:List D}{d:D}(h:fH n body ds=.ok d):∃xs,d=.lst xs:=by
 obtain⟨f,_,e⟩:=av.mp h;split at e
 ·cases e;exact⟨_,rfl⟩
 ·cases e
theorem EB{x:Str}{k j n N:Nat}{body:Sm}{m:List D->R D}{e:Expr}{es:List Expr}{fs:List Ex}{p:Pos}(d:dA X.prog X.w X.K X.mg X.base x k n m)(hm:m=fH N body)(hr:L2.bC j X.A)(hg:L2.Gl X x)(ha:JA X (e::es) (eList fs))(hk:k<=j:=by decide)(hn:fs.length=n:=by rfl)
   (Kf:(x==("__debug__":Str))=false:=by decide) (he:starEach (e::es) X.env=(false,eval e X.env)::starEach es X.env:=by rfl) (JV:(backTo pos (starEach es X.env)).any (·.1)=false:=by rfl):JE X (.Call (.Name x p) (e::es) [] pos) (bc m fs):=
 pF (vV d hr hg ha hk hn Kf he JV) λρ d h=>by
   obtain⟨ds,_,e⟩:=av.mp h;rw[hm]at e;exact Bm e
theorem CB{P:Program}{w:World}{K:PySem.W.Frag}{mg:Str->Option Value}{base:Heap}{x qual:Str}{st:Stmt}{f:Addr}{fd:FuncData}{N ps:List Str}{k n:Nat}{body:Sm}(Fu:L2.eW K x qual st f fd)(S:L2.bG N ps (L2.aS st))
   (h:∀(Jq:Value) (A:Around) (outer:List Env) (s:Shared) (H:Hp) (E:XK),L2.bC k (A.deeper (PyProof.Rows.envOfC qual (L2.aS st) s.heap.objs.size f Jq))->cC (L2.e6 L2.cI P w K mg base N qual (L2.aS st) f Jq A outer s H E).fT (L2.dY st) body)
   (hn:ps.length=n:=by rfl):L2.d3 P w K mg base L2.cI (k+1) f fd ps (lU ⟨K,P,w⟩ (fH N.length body) n):=by
 refine Fu.ok S (λvs H Q E h=>?_) (λJq A outer s H vs Q E hr Lg=>?_)
 · obtain⟨F,ds,d,_,rs,hl,_⟩:=h
   rw[<-rs.length,hl,hn]
 · refine⟨λD σ H'=>∃F0:Gf,de ⟨K,P,w⟩ F0.g F0 body D σ H',λpins s' σ H' D I ⟨F0,q⟩=>h Jq A outer s H E hr F0 pins s' σ H' D I q,?_⟩
   refine HU (G:=H) (t:=λD σ H'=>∃F0:Gf,de ⟨K,P,w⟩ F0.g F0 body D σ H') (λF0 D σ H' h=>⟨F0,h⟩) Lg ?_;have:=congrArg List.length S.pre;rw[List.length_take]at this;omega
theorem AJ{P:Program}{w:World}{K:PySem.W.Frag}{mg:Str->Option Value}{base:Heap}{x qual:Str}{st:Stmt}{f:Addr}{fd:FuncData}{N ps:List Str}{k n:Nat}{body:Sm}(Fu:L2.eW K x qual st f fd)(hm:mg x=some (.ref f))(S:L2.bG N ps (L2.aS st))(hb:L2.Binds K fd ps [])
   (h:∀(Jq:Value) (A:Around) (outer:List Env) (s:Shared) (H:Hp) (E:XK),L2.bC k (A.deeper (PyProof.Rows.envOfC qual (L2.aS st) s.heap.objs.size f Jq))->cC (L2.e6 L2.cI P w K mg base N qual (L2.aS st) f Jq A outer s H E).fT (L2.dY st) body)
   (hn:ps.length=n:=by rfl):dA P w K mg base x (k+1) n (fH N.length body):=⟨f,fd,ps,CB Fu S h hn,hb,Fu.kp,hm⟩
end
noncomputable def intsOf:List D->Option (List Int)
 |[]=>some []
 |.int i::r=>(intsOf r).map (i:: ·)
 |_=>none
@[simp] noncomputable def Iq:D->R D
 | .lst xs=>match intsOf xs with
   |some ns=>.ok (.int ns.sum)
   |none=>.bad
 | .tup xs=>match intsOf xs with
   |some ns=>.ok (.int ns.sum)
   |none=>.bad
 |_=>.bad
noncomputable def xr:List D->Option (List Bool)
 |[]=>some []
 |.bl i::r=>(xr r).map (i:: ·)
 |_=>none
@[simp] noncomputable def HZ:D->R D
 | .lst xs=>match xr xs with
   |some ns=>.ok (.bl (ns.any id))
   |none=>.bad
 |_=>.bad
noncomputable def unlike(ns:List Int):Nat:=(PyProof.Rows.firstMet (λi=>ns.getD i 0) ns.length).length
@[simp] noncomputable def IP:D->R D
 | .lst xs=>match intsOf xs with
   |some ns=>if ns.length<=4000 then .ok (.int (unlike ns))else .bad
   |none=>.bad
 |_=>.bad
@[simp] noncomputable def IS:D->D->R D
 |.tup x,.int j=>if 1<j/\j<1000/\x.length<=1000/\x.isEmpty=false then .ok (.tup (List.replicate j.toNat x).flatten)else .bad
 |_,_=>.bad
@[simp] noncomputable def Ir:D->D->R D
 |.int i,.int j=>if inR i=true/\inR j=true/\j - i<=16777216 then .ok (.lst (dn i j))else .bad
 |_,_=>.bad
section
variable{X:Cx}{M:Md}{G H H':Hp}{F0:Gf}{F F':Addr->Prop}{σ:L2.St}{ρ:En}{pos:Pos}{pins:List (Addr×Obj)}{s:Shared}
end
@[simp] noncomputable def rK(e:Ex):Sm:=λρ=>(e ρ).bind λd=>.ok (.di d)
section
variable{X:Cx}{M:Md}{G H H':Hp}{F0:Gf}{F F':Addr->Prop}{σ:L2.St}{ρ:En}{pos:Pos}{pins:List (Addr×Obj)}{s:Shared}
theorem Hk{a:Expr}{fa:Ex}(ha:JF X a fa)(hl:∀ρ d,fa ρ=.ok d->∃ds,d=.lst ds):JS X (.Return (some a) pos) (rK fa):=λF0=>
 cm (L2.jZ ha) λD σ H ⟨ρ,F,fl,r,e,q⟩=>by
   obtain⟨d,ed,e⟩:=av.mp e;cases e;obtain⟨ds,rfl⟩:=hl _ _ ed;exact⟨ρ,F,ds,r.rs,ed,λp H1 xs s1 hp rv=>q p H1 F xs ds rfl (.same s1) (r.sm.trans s1) r.sub hp rv⟩
end
section
variable{prog:Program}{w:World}{A:Around}{E:Value->Shared->Prop}{s:Shared}{e it:Addr}{fp:List Addr}{n i:Nat}{c:Int}{P:Nat->Value->Prop}{St:Nat->Heap->Prop}{old:Value}
end
section
variable{X:Cx}{M:Md}{G H H':Hp}{F0:Gf}{F F':Addr->Prop}{σ:L2.St}{ρ:En}{pos:Pos}{pins:List (Addr×Obj)}{s:Shared}
noncomputable def wX:Int->List D->List D
 |_,[]=>[]
 |k,x::xs=>.tup [.int k,x]::wX (k+1) xs
@[simp] noncomputable def IH(c:Int)(a:Ex):bB:=λρ=>(a ρ).bind λx=>(items x).bind λxs=>.ok (wX c xs)
end
section
variable{prog:Program}{w:World}{A:Around}{E:Value->Shared->Prop}{s:Shared}
end
section
variable{X:Cx}{M:Md}{G H H':Hp}{F0:Gf}{F F':Addr->Prop}{σ:L2.St}{ρ:En}{pos:Pos}{pins:List (Addr×Obj)}{s:Shared}
end
end PL
namespace PL
open PySem PySem.Spec PySem.W
open L2 (V Hp HO Cx PE PT PW PA PS bQ PG cH VK TE TT TA TS TI TG Inv RelV Vals Rd a8 bo upd ak Key XK Ends aZ c9 bE R2 EP It Turn cq Un bH cF d6)
section
variable{P:Program}{w:World}{K:PySem.W.Frag}{mg:Str->Option Value}{base:Heap}{N:List Str}{qual:Str}{scope:Scope}{f:Addr}{Jq:Value}{A:Around}{outer:List Env}{s:Shared}{H:Hp}{E:XK}
noncomputable def rz(n:Nat)(c:Str)(t:aL):List D->R D:=λds=>match t (ds.map Slot.sh++List.replicate (n - ds.length) .un)with
 |.ok true=>.exc (.df c [] [])
 |_=>.bad
end
section
variable{M:Model}{A:Around}{E:Value->Shared->Prop}{K:PySem.W.Frag}{h:Heap}{g:Array GenState}{d:Drawn}{t:Nat}{os:OsState}{e C U:Addr}{oe:Obj}
end
section
variable{X:Cx}{pins:List (Addr×Obj)}{σ:L2.St}{H:Hp}{s:Shared}
end
section
variable{P:Program}{w:World}{C:Addr}{l:List Env}{H1 H':Hp}{h1 h h5:Heap}{a t:Addr}{B:Heap}
end
section
variable{X:Cx}{pins:List (Addr×Obj)}{σ:L2.St}{H:Hp}{s:Shared}{a:Addr}
end
section
variable{X:Cx}
end
section
variable{X:Cx}{pos:Pos}
end
end PL
namespace PL
open PySem PySem.Spec
open L2 (V Hp HO Cx PE PT PW PA PS bQ PG cH VK TE TT TA TS TI TG Inv RelV Vals Rd a8 bo upd ak Key XK Ends aZ c9 bE R2 EP It Turn cq Un gO)
noncomputable abbrev dT(xs:List D):D:=.df ⟨#[]⟩ [⟨#[116]⟩] xs
@[simp] noncomputable def yi:D->R D
 |.tup xs=>.ok (dT xs)
 |_=>.bad
@[simp] noncomputable def Jf:D->R D
 |.df _ (_::_) xs=>.ok (.tup xs)
 |_=>.bad
@[simp] noncomputable def Iu:D->D->R D
 | .df _ (_::_) xs,.int k=>match intsOf xs with
   |some ns=>.ok (.int (ns.count k:Nat))
   |none=>.bad
 |_,_=>.bad
@[simp] noncomputable def Io(a:Ex)(lo hi:Option Ex):Ex:=e1 yi (bK a lo hi)
section
variable{X:Cx}{M:Md}{G H H':Hp}{F0:Gf}{F F':Addr->Prop}{σ:L2.St}{ρ:En}{pos:Pos}{pins:List (Addr×Obj)}{s:Shared}
end
section
variable{X:Cx}{M:Md}
end
section
variable{X:Cx}{M:Md}{G H H':Hp}{F0:Gf}{F F':Addr->Prop}{σ:L2.St}{ρ:En}{pos:Pos}{pins:List (Addr×Obj)}{s:Shared}
@[simp] noncomputable def IZ(a:Ex):bB:=λρ=>(a ρ).bind λx=>match x with
 |.lst xs=>.ok xs.reverse
 |_=>.bad
end
end PL
set_option maxHeartbeats 2000000
namespace PL
open PySem PySem.Spec PySem.W
section
variable{prog:Program}{w:World}{A:Around}{E:Value->Shared->Prop}{s:Shared}
end
section
open L2 (V Hp HO Cx PE PT PW PA PS bQ PG cH VK TE TT TA TS TI TG Inv RelV Vals Rd a8 bo upd ak Key XK Ends aZ c9 bE R2 EP It Turn cq Un)
variable{X:Cx}{M:Md}{G H H':Hp}{F0:Gf}{F F':Addr->Prop}{σ:L2.St}{ρ:En}{pos:Pos}{pins:List (Addr×Obj)}{s:Shared}
@[simp] noncomputable def Ia(a:Ex):bB:=λρ=>(a ρ).bind λx=>match x with
 |.lst xs=>.ok xs.reverse
 |.tup xs=>.ok xs.reverse
 |_=>.bad
end
end PL
namespace PL
open PySem PySem.Spec
open PyProof.Rows (assign_Tuple)
open L2 (V Hp HO Cx PE PT PW PA PS bQ PG cH VK TE TT TA TS TI TG Inv RelV Vals Rd a8 bo upd ak Key XK Ends aZ c9 bE R2 EP)
section
variable{prog:Program}{w:World}{A:Around}{E:Value->Shared->Prop}{s:Shared}
theorem uq{it t:Addr}{items:Array Value}(C':t≠it):∀(n i:Nat) (s:Shared) (Q:List Value->Shared->Prop),s.heap.IsListIter it t i->s.heap.IsList t items->i+n<=items.size->
   (∀h',h'.IsListIter it t (i+n)->Heap.SameBut it s.heap h'->Q ((items.toList.drop i).take n) {s with heap:=h'})->wpAny (model prog w) A (draw (.ref it) n) Q E s
 | 0,i,s,Q,hit,_,_,hQ=>by
   show wpAny _ _ (pure []) Q E s;exact wpAny_pure (by simpa using hQ s.heap hit (Heap.SameBut.refl ..))
 | n+1,i,s,Q,hit,ht,hle,hQ=>by
   have JC:i<items.size:=by omega
   show wpAny _ _ (pyNext (.ref it) >>= _) Q E s;refine wpAny_bind (wpAny_pyNext_list_item hit ht (x:=items[i]) (by simp[JC]) λKI Lo K7=>?_)
   refine wpAny_bind (wpAny_holding (uq C' n (i+1) _ _ Lo (ht.extBut K7.extBut C') (by omega) λL0 M8 Ox=>wpAny_pure ?_))
   have hd:items.toList.drop i=items[i]::items.toList.drop (i+1):=by simp[List.drop_eq_getElem_cons,JC]
   have:=hQ L0 (by rw[show i+(n+1)=i+1+n by omega];exact M8) (K7.trans Ox)
   rw[hd,List.take_succ_cons]at this;exact this
theorem AQ{t:Addr}{items:Array Value}{Q:List Value->Shared->Prop}(hh:A.handled=none)(ht:s.heap.IsList t items)
   (hQ:∀h',Heap.ExtBut s.heap.objs.size s.heap h'->Q items.toList {s with heap:=h'}):wpAny (model prog w) A (unpackItems (.ref t) items.size none) Q E s:=by
 have JC:t≠s.heap.objs.size:=by obtain⟨o,ho,_⟩:=ht;exact Nat.ne_of_lt (Heap.lt_size ho)
 unfold unpackItems;refine wpAny_bind ?_
 · unfold notIterableAtAll
   refine wpAny_bind (wpAny_specialOf ht.typeIs slot_list_iter.lookup ?_);refine wpAny_pure ?_;simp only[Bool.false_eq_true,if_false];refine wpAny_bind (wpAny_holding (wpAny_pyIter_list ht ?_));refine wpAny_bind (wpAny_holding (uq JC items.size 0 _ _ ⟨_,Heap.get?_push_size _ rfl,rfl,rfl⟩ (ht.push _) (by omega) λKI Lo K7=>?_))
   have Kk:List.take items.size (List.drop 0 items.toList)=items.toList:=by
     rw[List.drop_zero];exact List.take_of_length_le (by simp)
   rw[Kk];rw[if_neg (by simp)]
   have NP:KI.IsList t items:=(ht.push _).extBut K7.extBut JC;refine wpAny_bind (wpAny_holding (wpAny_pyNext_list_end hh Lo NP (by simp) λL0 NL=>?_))
   simp only[Option.isSome_none,Bool.false_eq_true,if_false];refine wpAny_pure (hQ L0 λb o hb e=>NL b o hb (K7.extBut b o hb (Heap.get?_push_of_some _ e)))
theorem AB{t:Addr}{items:Array Value}{targets:List (Bool×(Value->Sem Unit))}{Q:Unit->Shared->Prop}(hh:A.handled=none)(ht:s.heap.IsList t items)
   (hn:targets.length=items.size) (L3:targets.findIdx? (·.1)=none)
   (h:∀h',Heap.ExtBut s.heap.objs.size s.heap h'->wpAny (model prog w) A (assignInOrder (targets.map (·.2)) items.toList) Q E {s with heap:=h'}):
   wpAny (model prog w) A (unpack (.ref t) targets) Q E s:=by
 unfold unpack;rw[hn,L3];exact wpAny_bind (wpAny_holding (AQ hh ht h))
theorem E2{env:Env}{elts:List Expr}{x1}{pos:Pos}{t:Addr}{items:Array Value}{Q:Unit->Shared->Prop}(hh:A.handled=none)(ht:s.heap.IsList t items)
   (hn:(assignEach elts env).length=items.size) (L3:(assignEach elts env).findIdx? (·.1)=none)
   (h:∀h',Heap.ExtBut s.heap.objs.size s.heap h'->wpAny (model prog w) A (assignInOrder ((assignEach elts env).map (·.2)) items.toList) Q E {s with heap:=h'}):
   wpAny (model prog w) A (assign (.Tuple elts x1 pos) env (.ref t)) Q E s:=by
 rw[assign_Tuple];exact wpAny_bind (wpAny_standAt (AB hh ht hn L3 h))
end
noncomputable def mP(is:List Nat):bA:=λd ρ=>match d with
 |.tup ds=>c6 is ds ρ
 |.lst ds=>c6 is ds ρ
 |_=>.bad
section
variable{X:Cx}{M:Md}{G H H':Hp}{F0:Gf}{F F':Addr->Prop}{σ:L2.St}{ρ:En}{pos:Pos}{DE:Ends}
theorem Fs{is:List Nat}{es:List Expr}{k:Nat}(hc:X.calm=true)(h:ke X es (c6 is))(hn:(assignEach es X.env).length=is.length:=by rfl)(Mm:(assignEach es X.env).findIdx? (·.1)=none:=by rfl):JG X (.Tuple es k pos) (mP is):=by
 intro F0 pins s σ H v u Q I Rn ⟨ρ,F,d,ρ',r,rv,e,q⟩;cases d with
 |tup ds=>exact vP hc h hn Mm F0 pins s σ H v u Q I Rn ⟨ρ,F,.tup ds,ρ',r,rv,e,q⟩
 | lst ds=>
   simp only[Rep]at rv;obtain⟨a,xs,rfl,h1,rs⟩:=rv;cases Rn;obtain⟨aj,Km,⟨o,n,ho,So,Mh,Nz⟩,hz⟩:=I.list h1.sq;have hl:ds.length=is.length:=pE e;refine E2 (I.ok.hd hc) (items:=aj.toArray) ⟨o,ho,So,n,Nz⟩ (by rw[hn, <-hl,rs.length];simp[Km.length]) Mm λh' hx=>?_
   have I1:Inv X pins σ H {s with heap:=h'}:=I.kept (t':=s.toks) λb o e=>hx b o (Nat.ne_of_lt (Heap.lt_size e)) e;exact h F0 pins _ σ H xs _ Q I1 (by simpa using Km) ⟨ρ,F,ds,ρ',r,rs,e,q⟩
 |_=>cases e
end
end PL
set_option maxHeartbeats 1000000
namespace PL
open PySem PySem.Spec
open L2 (V Hp HO Cx PE PT PW PA PS bQ PG cH VK TE TT TA TS TI TG Inv RelV Vals Rd a8 bo upd ak Key XK Ends aZ c9 bE R2 EP It Turn cq Un)
section
variable{X:Cx}{M:Md}{G H H':Hp}{F0:Gf}{F F':Addr->Prop}{σ:L2.St}{ρ:En}{pos:Pos}{pins:List (Addr×Obj)}{s:Shared}
end
noncomputable def gp:Ky->D
 |.inl i=>.int i
 |.inr x=>.str x
def iC(P:Program)(w:World)(K:PySem.W.Frag)(H:Hp)(a:Addr)(ob:Obj)(kvs:List (Key×V)):Prop:=
 H a=some (.frz ob (.dK kvs))\/(K.lookup a=some ob/\∃(es:Array DictEntry) (ep:Nat) (vs:List (Key×Value)),ob.ExactDict/\ob.data=.dict es ep/\KeysOf (L2.bx P w) es/\Pairs (L2.bx P w) es.toList vs/\
   (vs.map (·.1)).Nodup/\L2.KV kvs vs/\kvs.length<=sizeLine/\(a==sysModules)=false)
theorem zQ{M:Md}{H:Hp}{F:Addr->Prop}{a:Addr}{kvs:List (Key×V)}(h:er M H F a kvs):∃ob,((¬F a/\H a=some (.frz ob (.dK kvs)))\/iC M.P M.w M.K (λ_=>none) a ob kvs)/\iC M.P M.w M.K H a ob kvs:=by
 rcases h with⟨n,ob,h⟩|⟨o,es,ep,vs,h1,h2,h3,h4,h5,h6,h7,h8,h9⟩
 ·exact⟨ob,.inl ⟨n,h⟩,.inl h⟩
 ·exact⟨o,.inr (.inr ⟨h1,es,ep,vs,h2,h3,h4,h5,h6,h7,h8,h9⟩),.inr ⟨h1,es,ep,vs,h2,h3,h4,h5,h6,h7,h8,h9⟩⟩
section
variable{X:Cx}{M:Md}{G H H':Hp}{F0:Gf}{F F':Addr->Prop}{σ:L2.St}{ρ:En}{pos:Pos}{pins:List (Addr×Obj)}{s:Shared}
theorem rM{a:Addr}{ob:Obj}{kvs:List (Key×V)}(I:Inv X pins σ H s)(h:iC X.prog X.w X.K H a ob kvs):kvs.length<=sizeLine/\(a==sysModules)=false/\∃vs es ep,L2.KV kvs vs/\ob.data=.dict es ep/\s.heap.DictAt (L2.bx X.prog X.w) a vs ep:=by
 rcases h with h|⟨h1,es,ep,vs,h2,h3,h4,h5,h6,h7,h8,h9⟩
 · obtain⟨e0,z,y,vs,r,T5,es,ep,e1,c1,c2,c3,c4,c5⟩:=I.aH a _ h
   rw[e0]at e1;cases e1;exact⟨z,y,vs,es,ep,r,c2,ob,es,e0,c1,c2,c3,c4,c5⟩
 ·exact⟨h8,h9,vs,es,ep,h7,h3,ob,es,I.dy a ob h1,h2,h3,h4,h5,h6⟩
noncomputable def rQ(P:Program)(w:World)(K:PySem.W.Frag)(a:Addr)(ob:Obj)(kvs:List (Key×V)):It:=
 ⟨λi H=>iC P w K H a ob kvs/\i<kvs.length,λi H x H'=>H'=H/\∃kv,kvs[i]? =some kv/\x=L2.kV kv.1,λi H=>iC P w K H a ob kvs/\i=kvs.length⟩
theorem gS{kvs:List (Key×V)}{vs:List (Key×Value)}(h:L2.KV kvs vs):kvs.length=vs.length:=by
 unfold L2.KV at h
 induction h with
 |nil=>rfl
 |cons _ _ ih=>simp[ih]
theorem wH{kvs:List (Key×V)}{vs:List (Key×Value)}(h:L2.KV kvs vs):∀ {i:Nat} {p:Key×Value},vs[i]? =some p->∃q,kvs[i]? =some q/\q.1=p.1:=by
 unfold L2.KV at h
 induction h with
 |nil=>intro i p e;simp at e
 | cons hd _ ih=>
   intro i p e;cases i with
   |zero=>simp at e;subst e;exact⟨_,rfl,hd.1⟩
   |succ i=>simpa using ih (i:=i) (by simpa using e)
theorem sH{k:Key}{u:Value}(h:L2.jy k u=true):RelV (L2.kV k) u:=by
 rcases L2.gN h with⟨i,t,rfl,rfl⟩|⟨x,t,rfl,rfl⟩
 ·exact⟨t,rfl⟩
 ·exact⟨t,rfl⟩
theorem DV{P:Program}{w:World}{K:PySem.W.Frag}{tg:Expr}(a it:Addr)(ob:Obj)(es:Array DictEntry)(ep:Nat)(Nz:ob.data=.dict es ep)(kvs:List (Key×V)):Turn P w K tg (rQ P w K a ob kvs) [it] it (λi h=>h.IsKeyIter it a i kvs.length ep) where
 mem:=by simp
 obj:=λi h st b hb=>by
   have e:b=it:=by simpa using hb
   subst e;obtain⟨o,e,c,d⟩:=st;exact⟨o,e,λv z=>by rw[d]at z;cases z⟩
 keep:=λi h h' st k=>st.at λo e=>k it (by simp) o e
 item:=by
   intro X hP hw hK hc i pins s σ H E I hf st hg;subst hP hw hK;obtain⟨dz,hi⟩:=hg;obtain⟨hz,hs,vs,ME,Oa,rel,L8,dat⟩:=rM I dz;rw[Nz]at L8;cases L8;have hl:=gS rel;have hx:vs[i]? =some vs[i]:=List.getElem?_eq_getElem (by omega)
   obtain⟨q,hq,eq⟩:=wH rel hx;obtain⟨f0,f1,f2,f3,f4,f5⟩:=hf it (by simp)
   rw[hl]at st;refine wpAny_pyNext_dict_item (k:=vs[i].1) (v:=vs[i].2) st dat hx λkey h' Pg KG sb=>?_;have I1:Inv X pins σ H {s with heap:=h'}:=I.turned (t':=s.toks) (λb o hb e=>(sb.2 b hb).trans e) f0 f1 f3 f4 f5;obtain⟨o,e,c,d⟩:=id KG;rw[<-hl]at KG;exact⟨key,rfl,L2.kh (s:={s with heap:=h'}) e c d (by decide) ⟨L2.kV q.1,H,I1,by rw[eq];exact sH Pg,⟨rfl,q,hq,rfl⟩,KG,λb hb=>(hf b hb).1⟩⟩
 done:=by
   intro X hP hw hK hc i pins s σ H E I hf st hg;subst hP hw hK;obtain⟨dz,hi⟩:=hg;obtain⟨hz,hs,vs,ME,Oa,rel,L8,dat⟩:=rM I dz;rw[Nz]at L8;cases L8;have hl:=gS rel;obtain⟨f0,f1,f2,f3,f4,f5⟩:=hf it (by simp)
   rw[hl]at st;exact wpAny_pyNext_dict_end (I.ok.hd hc) st dat (List.getElem?_eq_none_iff.mpr (by omega)) λh' eb=>⟨rfl,I.turned (t':=s.toks) (λb o hb e=>eb b o hb e) f0 f1 f3 f4 f5⟩
 self:=λ_ _ _ _ _ st h=>wpAny_pyIter_keyiter st h
def zf(P:Program)(w:World)(K:PySem.W.Frag)(tl:TE):TI:=λσ H R=>tl σ H λx H1=>∃a ob kvs,x=.ref a/\iC P w K H1 a ob kvs/\R (rQ P w K a ob kvs) H1
theorem Dm{tg l:Expr}{tl:TE}(hl:PE X l tl):L2.PI X tg l (zf X.prog X.w X.K tl):=by
 intro pins s σ H R I h;refine L2.aJ (hl pins s σ H _ I h) λv s1 ⟨x,H1,I1,r1,q1⟩=>?_;obtain⟨a,ob,kvs,e,dz,q⟩:=q1;subst e;cases r1;obtain⟨hz,hs,vs,es,ep,rel,Nz,dat⟩:=rM I1 dz;have hlen:=gS rel;refine wpAny_pyIter_dict hs dat ?_;rw[<-hlen];refine⟨s1.heap.objs.size,[s1.heap.objs.size],_,_,H1,rfl,I1.kept (t':=s1.toks) λb o e=>Heap.get?_push_of_some _ e,DV a _ ob es ep Nz kvs,⟨_,Heap.get?_push_size _ rfl,rfl,rfl⟩,λb hb=>?_,q⟩;have e:b=s1.heap.objs.size:=by simpa using hb
 subst e;exact I1.mz (Nat.le_refl _) (I1.aH.fresh (Nat.le_refl _))
noncomputable def fe(a:Ex):bB:=λρ=>(a ρ).bind λx=>match x with
 |.aN ks _=>.ok (ks.map gp)
 |_=>.bad
theorem xm{k:Ky}:Rep M H F (gp k) (L2.kV k):=by
 cases k with
 |inl i=>exact dN
 |inr x=>exact j9
theorem yL{a:Addr}{ob:Obj}{ks:List Ky}{xs:List V}(hd:(¬F a/\H a=some (.frz ob (.dK (ks.zip xs))))\/iC M.P M.w M.K (λ_=>none) a ob (ks.zip xs))(hl:ks.length=xs.length):Gives M (rQ M.P M.w M.K a ob (ks.zip xs)) H F (ks.map gp):=by
 intro H' F' mv tr;have Nu:(ks.zip xs).length=ks.length:=by rw[List.length_zip];omega
 have dz:iC M.P M.w M.K H' a ob (ks.zip xs):=by
   rcases hd with⟨n,h⟩|h
   ·exact .inl (mv _ _ n h).2
   · rcases h with h|h
     ·cases h
     ·exact .inr h
 refine⟨λi d NY=>?_,?_⟩
 · obtain⟨hi,_⟩:=List.getElem?_eq_some_iff.mp NY
   rw[List.length_map]at hi;rw[List.getElem?_map,List.getElem?_eq_getElem hi]at NY;cases NY;refine⟨⟨dz,by omega⟩,λy H2 hy=>?_⟩
   obtain⟨rfl,kv,Td,rfl⟩:=hy;obtain⟨hk,e⟩:=List.getElem?_eq_some_iff.mp Td;have:kv.1=ks[i]:=by rw[<-e,List.getElem_zip]
   rw[this];exact⟨ak.refl _,xm⟩
 ·exact⟨dz,by rw[List.length_map,Nu]⟩
theorem BZ{tg l:Expr}{fa:Ex}(ha:JE X l fa):JI X tg l (fe fa):=
 k8 (Dm ha) λσ H Q ⟨ρ,F,ds,r,e,q⟩=>by
   obtain⟨d,ed,e⟩:=av.mp e;cases d with
   | aN ks vs=>
     cases e;refine⟨ρ,F,_,r,ed,λv H1 s1 rv=>?_⟩;simp only[Rep]at rv;obtain⟨a,xs,rfl,h,hl,rs⟩:=rv;obtain⟨ob,h1,h2⟩:=zQ h;exact⟨a,ob,_,rfl,h2,q _ H1 s1 (yL (M:=aB X) h1 hl)⟩
   |_=>cases e
end
noncomputable def putL(k:Ky)(d:D)(ks:List Ky)(vs:List D):List Ky×List D:=if(ks.any λa=>decide (a=k))=true then(ks,List.zipWith (λa v=>if a=k then d else v) ks vs)else(ks++[k],vs++[d])
noncomputable def jU(i:Nat)(k e:Ex):Sm:=λρ=>(e ρ).bind λd=>(k ρ).bind λq=>match ρ[i]?,keyOf q with
 |some (.od ks vs),some y=>if ks.length<1000 then .ok (.next (ρ.set i (.od (putL y d ks vs).1 (putL y d ks vs).2)))else .bad
 |_,_=>.bad
section
variable{X:Cx}{M:Md}{G H H':Hp}{F0:Gf}{F F':Addr->Prop}{σ:L2.St}{ρ:En}{pos:Pos}{pins:List (Addr×Obj)}{s:Shared}
theorem EZ(i:Nat){x:Str}{p1 p2:Pos}(hN:X.N.Nodup)(hi:X.N[i]? =some x:=by rfl)(hx:L2.Loc X.env.scope x:=by exact Or.inl rfl)(hf:X.fn x=true\/X.env.scope.names.lookup x=some .local:=by first|exact .inl rfl|exact .inr rfl)
   (hs:swapsWith (.Dict [] [] p1) (some (.Name x p2)) pos.line X.env=pure false:=by rfl):JS X (.Assign [.Name x p2] (.Dict [] [] p1) pos) (g8 i (cS [] [])):=λF0=>
 cm (L2.lL hN hi hx L2.rW hs hf) λD σ H ⟨ρ,F,fl,r,e,q⟩=>by
   obtain⟨d,ed,e⟩:=av.mp e;cases ed;cases e;intro p hp;obtain⟨mv,r'⟩:=r.new (i:=i) (s:=.od [] []) hp (.inr ⟨[],[],[],rfl,rfl,rfl,ag.nil⟩);exact q _ _ _ mv r'
theorem oO{ks:List Ky}{xs:List V}(k:Ky)(v:V)(hl:ks.length=xs.length):
   L2.putK (ks.zip xs) k v=(if(ks.any λa=>decide (a=k))=true then ks.zip (List.zipWith (λa x=>if a=k then v else x) ks xs)else(ks++[k]).zip (xs++[v])):=by
 have QX:∀ {ks:List Ky} {xs:List V},ks.length=xs.length->((ks.zip xs).any λkv=>decide (kv.1=k))=(ks.any λa=>decide (a=k)):=by
   intro ks
   induction ks with
   |nil=>intro xs _;simp
   | cons a ks ih=>
     intro xs hl;cases xs with
     |nil=>simp at hl
     |cons x xs=>rw[List.zip_cons_cons,List.any_cons,List.any_cons,ih (by simpa using hl)]
 unfold L2.putK;rw[QX hl];by_cases h:(ks.any λa=>decide (a=k))=true
 · rw[if_pos h,if_pos h]
   have e:∀ {ks:List Ky} {xs:List V},ks.length=xs.length->(ks.zip xs).map (λkv=>if kv.1=k then(kv.1,v)else kv)=ks.zip (List.zipWith (λa x=>if a=k then v else x) ks xs):=by
     intro ks
     induction ks with
     |nil=>intro xs _;simp
     | cons a ks ih=>
       intro xs hl;cases xs with
       |nil=>simp at hl
       | cons x xs=>
         rw[List.zip_cons_cons,List.map_cons,ih (by simpa using hl),List.zipWith_cons_cons,List.zip_cons_cons]
         by_cases h:a=k
         ·simp[h]
         ·simp[h]
   exact e hl
 · rw[if_neg h,if_neg h,List.zip_append hl]
   rfl
theorem qf{k:Ky}{d:D}{v:V}(rd:Rep M H F d v):∀ {ks:List Ky} {ds:List D} {xs:List V},ag M H F ds xs->ag M H F (List.zipWith (λa y=>if a=k then d else y) ks ds) (List.zipWith (λa x=>if a=k then v else x) ks xs)
 |[],_,_,_=>by simpa using ag.nil
 | a::ks,[],xs,r=>by
   simp only[ag]at r;subst r;simpa using ag.nil
 | a::ks,y::ds,xs,r=>by
   simp only[ag]at r;obtain⟨x,Ku,rfl,r1,r2⟩:=r;rw[List.zipWith_cons_cons,List.zipWith_cons_cons];refine ag.cons ?_ (qf rd r2);by_cases h:a=k
   ·rw[if_pos h,if_pos h];exact rd
   ·rw[if_neg h,if_neg h];exact r1
theorem yx(i:Nat){x:Str}{e k:Expr}{f g:Ex}{p2 p3:Pos}(hu:X.A.units+64<cLine)(hk:JE X k g)(he:JE X e f)(hN:X.N[i]? =some x:=by rfl)(hv:L2.cf X.env.scope x:=by first|exact Or.inl rfl|exact Or.inr (Or.inl rfl)|exact Or.inr (Or.inr rfl))(hd:(x==("__debug__":Str))=false:=by decide)
   (Jx:(x==("__classdict__":Str))=false:=by decide) (hs:swapsWith e (some (.Subscript (.Name x p2) k p3)) pos.line X.env=pure false:=by rfl):
   JS X (.Assign [.Subscript (.Name x p2) k p3] e pos) (jU i g f):=λF0=>
 cm (L2.qY (by omega) (L2.pv i hN hv hd Jx) hk he hs) λD σ H ⟨ρ,F,fl,r,e,q⟩=>by
   obtain⟨d,ed,e⟩:=av.mp e;obtain⟨y,ey,e⟩:=av.mp e
   have ⟨ks,vs,z,q1,hk,e9⟩:∃ks vs z,ρ[i]? =some (.od ks vs)/\keyOf y=some z/\(if ks.length<1000 then R.ok (Fl.next (ρ.set i (.od (putL z d ks vs).1 (putL z d ks vs).2)))else .bad)=.ok fl:=by
     cases hq:ρ[i]? with
     |none=>rw[hq]at e;cases e
     | some s=>
       rw[hq]at e;cases s with
       | od ks vs=>
         cases hz:keyOf y with
         |none=>rw[hz]at e;cases e
         |some z=>rw[hz]at e;exact⟨ks,vs,z,rfl,rfl,e⟩
       |_=>cases e
   by_cases JC:ks.length<1000
   · rw[if_pos JC]at e9
     cases e9;have oi:bp ρ i:=.inr ⟨_,_,q1⟩;obtain⟨a,xs,ea,fa,ha,hl,rs⟩:=r.rs.od i _ _ q1;refine⟨ρ,F,d,r.rs,ed,λv H1 s1 rv=>⟨_,ea,ρ,F,y,(r.same s1).rs,ey,λw H2 s2 Km=>?_⟩⟩;have r2:=(r.same s1).same s2;have S0:=s2 _ _ (s1 _ _ ha);cases iB hk Km;have Nw:=rv.mv (M:=aB X) (F':=F) (.same s2);have Nf:=rs.mv (M:=aB X) (F':=F) (.same (s1.trans s2))
     have Nu:(ks.zip xs).length<sizeLine:=by
       have:(sizeLine:Nat)=16777216:=sizeLine_eq;rw[List.length_zip];omega
     refine⟨a,_,rfl,L2.i9.k S0 Nu,?_⟩;rw[oO z v hl];unfold putL at q;by_cases hm:(ks.any λa=>decide (a=z))=true
     · rw[if_pos hm]at q ⊢
       obtain⟨mv,r'⟩:=r2.chg (s:=.od ks (List.zipWith (λa y=>if a=z then d else y) ks vs)) oi ea (.inr ⟨_,_,_,rfl,rfl,by rw[List.length_zipWith];omega,qf Nw Nf⟩)
       exact q _ _ _ (Mv.trans (.same (s1.trans s2)) mv) r'
     · rw[if_neg hm]at q ⊢
       obtain⟨mv,r'⟩:=r2.chg (s:=.od (ks++[z]) (vs++[d])) oi ea (.inr ⟨_,_,_,rfl,rfl,by rw[List.length_append,List.length_append,hl];rfl,Nf.append (ag.cons Nw ag.nil)⟩)
       exact q _ _ _ (Mv.trans (.same (s1.trans s2)) mv) r'
   ·rw[if_neg JC]at e9;cases e9
end
section
variable{X:Cx}{M:Md}{G H H':Hp}{F0:Gf}{F F':Addr->Prop}{σ:L2.St}{ρ:En}{pos:Pos}{pins:List (Addr×Obj)}{s:Shared}
end
noncomputable def rL:D->R D
 |.aN ks _=>.ok (.lst (ks.map gp))
 |x=>gH x
section
variable{X:Cx}{M:Md}{G H H':Hp}{F0:Gf}{F F':Addr->Prop}{σ:L2.St}{ρ:En}{pos:Pos}{pins:List (Addr×Obj)}{s:Shared}
theorem yS{P:Nat->Value->Prop}{xs:List V}:∀ {l:List Value},l.length=xs.length->(∀(j:Nat) v,l[j]? =some v->∃x,xs[j]? =some x/\RelV x v)->Vals xs l:=by
 intro l
 induction l generalizing xs with
 | nil=>intro hl _;cases xs with
   |nil=>exact .nil
   |cons _ _=>cases hl
 | cons v l ih=>
   intro hl h;cases xs with
   |nil=>cases hl
   | cons x xs=>
     obtain⟨y,e,r⟩:=h 0 v rfl;cases e;exact .cons r (ih (by simpa using hl) λj w hw=>by simpa using h (j+1) w (by simpa using hw))
theorem Gg(hc:X.calm=true):bE X (.type "list") (λxs H Q=>(∃p ys,xs=[.ref p]/\(a8 X.K H p ys\/bo X.K H p ys)/\∀l,H l=none->Q (.ref l) (upd H l (.lst ys)))\/∃F p kvs,xs=[.ref p]/\er (aB X) H F p kvs/\∀l,H l=none->Q (.ref l) (upd H l (.lst (kvs.map λkv=>L2.kV kv.1)))):=by
 intro pins s σ H xs us Q I r h;rcases h with h|⟨F,p,kvs,rfl,hd,q⟩
 ·exact L2.pb pins s σ H xs us Q I r h
 · obtain⟨u,rfl,ru⟩:=L2.vals1 r
   cases ru;obtain⟨z,LC,vs,rel,dd⟩:=gz I hd;obtain⟨ep,JQ⟩:=dd.dictAt;have hl:=gS rel;refine PySem.W.kdl_call (PySem.W.kdl_dict (knd:=L2.bx X.prog X.w) (kvs:=vs) (ep:=ep) LC) (I.ok.hd hc) JQ (by omega) λh' tk acc c' hk Tf My=>?_
   have hv:Vals (kvs.map λkv=>L2.kV kv.1) acc.toList:=by
     refine yS (P:=λ_ _=>True) (by rw[List.length_map,hl];simpa using My.1) λj v hj=>?_
     obtain⟨k,x,h1,h2⟩:=My.2 j v (by simpa using hj)
     obtain⟨y,h3,h4⟩:=wH rel h1;refine⟨L2.kV k,by rw[List.getElem?_map,h3];show some (L2.kV y.1)=_;rw[h4],sH h2⟩
   have hlen:(kvs.map λkv=>L2.kV kv.1).length<=sizeLine:=by rw[List.length_map];exact z
   have I3:=I.laid (o:=.lst (kvs.map λkv=>L2.kV kv.1)) (h':=h') (t':=tk) hk (Nat.le_refl _) ⟨hlen,acc.toList,c',hv,by simpa using Tf⟩
   exact⟨.ref _,_,I3,rfl,q _ I.fresh⟩
theorem v5:∀ks:List Ky,ag M H F (ks.map gp) (ks.map L2.kV)
 |[]=>ag.nil
 |k::ks=>ag.cons xm (v5 ks)
theorem Co:hW M (g1 rL) (λxs H Q=>(∃p ys,xs=[.ref p]/\(a8 M.K H p ys\/bo M.K H p ys)/\∀l,H l=none->Q (.ref l) (upd H l (.lst ys)))\/∃F p kvs,xs=[.ref p]/\er M H F p kvs/\∀l,H l=none->Q (.ref l) (upd H l (.lst (kvs.map λkv=>L2.kV kv.1)))):=by
 intro F H xs as d Q tr rs e q;have e0:=e;unfold g1 at e;split at e
 · rename_i a
   by_cases hd:∃ks vs,a=.aN ks vs
   · obtain⟨ks,vs,rfl⟩:=hd
     cases e;obtain⟨x,rfl,r⟩:=rs.one;simp only[Rep]at r;obtain⟨p,ys,rfl,h1,hl,rs⟩:=r;refine .inr ⟨F,p,_,rfl,h1,λl hn=>?_⟩
     have e:((ks.zip ys).map λkv=>L2.kV kv.1)=ks.map L2.kV:=by
       rw[show(λkv:Key×V=>L2.kV kv.1)=L2.kV∘Prod.fst from rfl, <-List.map_map,List.map_fst_zip (by omega)]
     rw[e];exact q _ _ (ak.bR hn _) (iQ tr hn (v5 ks))
   · refine .inl (oh F H xs _ d Q tr rs ?_ q)
     show gH a=.ok d;cases a with
     |aN ks vs=>exact absurd ⟨ks,vs,rfl⟩ hd
     |_=>exact e
 ·cases e
end
section
variable{X:Cx}{M:Md}{G H H':Hp}{F0:Gf}{F F':Addr->Prop}{σ:L2.St}{ρ:En}{pos:Pos}{pins:List (Addr×Obj)}{s:Shared}
end
section
variable{X:Cx}{M:Md}{G H H':Hp}{F0:Gf}{F F':Addr->Prop}{σ:L2.St}{ρ:En}{pos:Pos}{pins:List (Addr×Obj)}{s:Shared}
end
section
variable{X:Cx}{M:Md}{G H H':Hp}{F0:Gf}{F F':Addr->Prop}{σ:L2.St}{ρ:En}{pos:Pos}{pins:List (Addr×Obj)}{s:Shared}
end
section
variable{X:Cx}{M:Md}{G H H':Hp}{F0:Gf}{F F':Addr->Prop}{σ:L2.St}{ρ:En}{pos:Pos}{pins:List (Addr×Obj)}{s:Shared}
end
noncomputable def g7(t:aL)(body:Sm):Nat->En->R Fl
 |0,_=>.bad
 | n+1,ρ=>(t ρ).bind λb=>if b=true then(body ρ).bind λf=>match f with
   |.next J7=>g7 t body n J7
   |.cont J7=>g7 t body n J7
   |.brk J7=>.ok (.next J7)
   |.ret d=>.ok (.ret d)
   |.di d=>.ok (.di d)
   |.dD d=>.ok (.dD d)
   |.dR i ρ=>.ok (.dR i ρ)else .ok (.next ρ)
noncomputable def jD(n:Nat)(t:aL)(body:Sm):Sm:=g7 t body n
section
variable{X:Cx}{M:Md}{G H H':Hp}{F0:Gf}{F F':Addr->Prop}{σ:L2.St}{ρ:En}{pos:Pos}{pins:List (Addr×Obj)}{s:Shared}
theorem Fw(n:Nat){c:Expr}{body:List Stmt}{t:aL}{f:Sm}(hp:PassesOwn (model X.prog X.w) X.A X.env X.xe)(hc:JT X c t)(hb:cC X body f):JS X (.While c body [] pos) (jD n t f):=λF0=>
 cm (L2.Gv hp hc (hb F0)) λD σ H ⟨ρ,F,fl,r,e,q⟩=>by
   refine⟨λm LR H1=>∃JN F1,Mv F H F1 H1/\aT (aB X) F0.g F0 H1 F1 LR JN/\g7 t f m JN=.ok fl,⟨n,ρ,F,Mv.refl,r,e⟩,?_⟩;rintro m LR H1 ⟨JN,F1,m1,r1,e1⟩;cases m with
   |zero=>cases e1
   | succ m=>
     unfold g7 at e1;obtain⟨b,eb,e1⟩:=av.mp e1;refine⟨JN,F1,b,r1.rs,eb,λH2 s2=>?_⟩;have m2:Mv F H F1 H2:=m1.trans (.same s2);have r2:=r1.same s2;cases b with
     | false=>
       cases e1;exact q _ _ _ m2 r2
     | true=>
       obtain⟨f1,ef,e1⟩:=av.mp e1;refine⟨λKj H3=>∃Ph F3,Mv F H F3 H3/\aT (aB X) F0.g F0 H3 F3 Kj Ph/\g7 t f m Ph=.ok fl,λKj H3 h3=>⟨m,Nat.lt_succ_self m,h3⟩,JN,F1,f1,r2,ef,?_⟩;cases f1 with
       |next J7=>exact λKj H3 F3 m3 r3=>⟨J7,F3,m2.trans m3,r3,e1⟩
       |cont J7=>exact λKj H3 F3 m3 r3=>⟨J7,F3,m2.trans m3,r3,e1⟩
       |brk J7=>cases e1;exact λKj H3 F3 m3 r3=>q Kj H3 F3 (m2.trans m3) r3
       |ret d=>cases e1;exact λv H3 F3 m3 a b rv=>q v H3 F3 (m2.trans m3) a b rv
       |di d=>cases e1;exact λp H3 F3 xs ds e m3 a b c rv=>q p H3 F3 xs ds e (m2.trans m3) a b c rv
       |dD d=>cases e1;exact λv H3 F3 F4 as m3 a b c d e rv=>q v H3 F3 F4 as (m2.trans m3) a b c d e rv
       |dR i ρ=>cases e1;exact λJl H' F' v m3=>q Jl H' F' v (m2.trans m3)
theorem Dw{a b:Expr}{fa fb:Ex}(ha:JE X a fa)(hb:JE X b fb):JF X (.BinOp a .Mult b pos) (e2 ic fa fb):=
 bz (L2.rB tN ha hb) λσ H Q ⟨ρ,F,ds,hr,e,q⟩=>by
   obtain⟨x,ex,e⟩:=av.mp e;obtain⟨y,ey,e⟩:=av.mp e;refine⟨ρ,F,x,hr,ex,λv H1 s1 rv=>⟨ρ,F,y,hr.same s1,ey,λw H2 s2 Km=>?_⟩⟩;have OP:=rv.mv (M:=aB X) (F':=F) (.same s2);unfold ic at e;split at e
   · split at e
     · rename_i h
       cases e;simp only[Rep]at OP;obtain⟨l,xs,rfl,h1,r1⟩:=OP;exact⟨F,l,_,xs,rfl,br Km,h1,h.1,h.2.1,by rw[<-r1.length];exact h.2.2,λp hp=>q p H2 _ (s1.trans s2) hp (r1.pG _)⟩
     ·cases e
   ·cases e
end
end PL
namespace PySem
section
variable{prog:Program}{w:World}{A:Around}{R:Result->Shared->Prop}{I ax:Addr}
end
end PySem
namespace PL
open PySem PySem.Spec
open L2 (V Hp HO Cx PE PT PW PA PS bQ PG cH VK TE TT TA TS TI TG Inv RelV Vals Rd a8 bo upd ak Key XK Ends aZ c9 bE R2 EP It Turn cq Un)
noncomputable def CL:List D->List Ky->List D->R D
 |[],ks,vs=>.ok (.aN ks vs)
 | .tup [k,v]::r,ks,vs=>match keyOf k with
   |some q=>CL r (putL q v ks vs).1 (putL q v ks vs).2
   |none=>.bad
 |_,_,_=>.bad
section
variable{X:Cx}{M:Md}{G H H':Hp}{F0:Gf}{F F':Addr->Prop}{σ:L2.St}{ρ:En}{pos:Pos}{pins:List (Addr×Obj)}{s:Shared}
theorem Dy{k:Ky}{d:D}{v:V}{ks:List Ky}{vs:List D}{xs:List V}(hl:ks.length=xs.length)(rs:ag M H F vs xs)(rd:Rep M H F d v):
   ∃ys,L2.putK (ks.zip xs) k v=(putL k d ks vs).1.zip ys/\(putL k d ks vs).1.length=ys.length/\ag M H F (putL k d ks vs).2 ys:=by
 rw[oO k v hl];unfold putL;by_cases hm:(ks.any λa=>decide (a=k))=true
 · rw[if_pos hm,if_pos hm]
   exact⟨_,rfl,by rw[List.length_zipWith];show ks.length=min ks.length xs.length;omega,qf rd rs⟩
 · rw[if_neg hm,if_neg hm]
   exact⟨_,rfl,by rw[List.length_append,List.length_append,hl];rfl,rs.append (ag.cons rd ag.nil)⟩
def EA(M:Md)(f:Ex):TE:=λσ H Q=>∃ρ F ks ds,aV M H F σ ρ/\f ρ=.ok (.aN ks ds)/\∀p H' xs,ak H H'->H' p=none->ks.length=xs.length->ag M H' F ds xs->Q (.ref p) (upd H' p (.dK (ks.zip xs)))
abbrev JD(X:Cx)(e:Expr)(f:Ex):Prop:=PE X e (EA (aB X) f)
theorem HL(i:Nat){x:Str}{e:Expr}{f:Ex}{p2:Pos}(hN:X.N.Nodup)(he:JD X e f)(hi:X.N[i]? =some x)(hx:L2.Loc X.env.scope x)(hf:X.fn x=true\/X.env.scope.names.lookup x=some .local)
   (hs:swapsWith e (some (.Name x p2)) pos.line X.env=pure false):JS X (.Assign [.Name x p2] e pos) (g8 i f):=λF0=>
 cm (L2.lL hN hi hx he hs hf) λD σ H ⟨ρ,F,fl,r,e,q⟩=>by
   obtain⟨d,ed,e⟩:=av.mp e;split at e
   · cases e
     refine⟨ρ,F,_,_,r.rs,ed,λp H1 xs s1 hp hl rs=>?_⟩;obtain⟨mv,r'⟩:=(r.same s1).new (i:=i) (s:=.od _ _) hp (.inr ⟨_,_,xs,rfl,rfl,hl,rs⟩);exact q _ _ _ (Mv.trans (.same s1) mv) r'
   ·cases e
theorem zl{e:Expr}{f:Ex}(he:JD X e f)(hl:∀ρ d,f ρ=.ok d->∃ks ds,d=.aN ks ds):JE X e f:=
 qw he λσ H Q ⟨ρ,F,d,hr,e,q⟩=>by
   obtain⟨ks,ds,rfl⟩:=hl _ _ e;refine⟨ρ,F,ks,ds,hr,e,λp H1 xs s1 hp hl rs=>⟨p,ks.zip xs,rfl,L2.bf,λob=>?_⟩⟩;rw[L2.qJ];refine q _ _ (s1.trans (ak.bR hp _)) ?_;simp only[Rep];exact⟨p,xs,rfl,.inl ⟨k7 (hr.same s1).aX hp,ob,L2.bf⟩,hl,rs.mv (.same (ak.bR hp _))⟩
noncomputable def dU:List Ky->List D->List Ky->List D->List Ky×List D
 |k::ks,v::vs,as,bs=>dU ks vs (putL k v as bs).1 (putL k v as bs).2
 |_,_,as,bs=>(as,bs)
theorem xt:∀ {ks:List Ky} {vs:List D} {ys:List V} {as:List Ky} {bs:List D} {xs:List V},ks.length=ys.length->ag M H F vs ys->as.length=xs.length->ag M H F bs xs->
   ∃zs,L2.ft (as.zip xs) (ks.zip ys)=(dU ks vs as bs).1.zip zs/\(dU ks vs as bs).1.length=zs.length/\ag M H F (dU ks vs as bs).2 zs
 | [],vs,ys,as,bs,xs,_,_,hl,rs=>by
   have:dU [] vs as bs=(as,bs):=by unfold dU;cases vs<;>rfl
   rw[this];exact⟨xs,rfl,hl,rs⟩
 | k::ks,vs,ys,as,bs,xs,h,rv,hl,rs=>by
   cases ys with
   |nil=>cases h
   | cons y ys=>
     cases vs with
     |nil=>simp only[ag]at rv;cases rv
     | cons v vs=>
       simp only[ag]at rv;obtain⟨_,_,e,r1,r2⟩:=rv;cases e;obtain⟨zs,e1,l1,NH⟩:=Dy (k:=k) hl rs r1;obtain⟨ws,e2,l2,Nf⟩:=xt (by simpa using h) r2 l1 NH
       refine⟨ws,?_,l2,Nf⟩;show L2.ft (L2.putK (as.zip xs) k y) (ks.zip ys)=_;rw[e1];exact e2
theorem Gu{H1:Hp}{s1:Shared}{a:Addr}{ob:Obj}{kvs:List (Key×V)}(I0:Inv X pins σ H s)(e0:H a=some (.dK kvs))(I1:Inv X pins σ H1 s1)(e1:H1 a=some (.frz ob (.dK kvs))):Inv X pins σ (upd H1 a (.dK kvs)) s1:=by
 have nn:∀ {b},H1 b=none->upd H1 a (.dK kvs) b=none:=λ{b} h=>by rw[L2.aE (λz=>by subst z;rw[e1]at h;cases h)];exact h
 refine⟨I1.ok,I1.os,I1.bare,⟨I1.base.keep,I1.base.slot,λb o h n x=>nn (I1.base.free b o h n x),I1.base.there,λb xs h=>?_,λb o u h=>?_,λb ps h=>?_⟩,I1.loc,I1.cell,nn I1.free,λx c h=>nn (I1.fI x c h),λp hp=>?_,λb o h=>?_,I1.len⟩
 · have h1:=I1.base.gC b xs h
   rw[L2.aE (λz=>by subst z;rw[e1]at h1;cases h1)];exact h1
 · have h0:=I0.base.fu b o u h
   rw[L2.aE (λz=>by subst z;rw[e0]at h0;cases h0)];exact I1.base.fu b o u h
 · obtain⟨more,h1⟩:=I1.base.gJ b ps h
   exact⟨more,by rw[L2.aE (λz=>by subst z;rw[e1]at h1;cases h1)];exact h1⟩
 · obtain⟨h1,h2,h3⟩:=I1.pin p hp
   exact⟨h1,nn h2,h3⟩
 · by_cases hb:b=a
   · subst hb
     rw[L2.bf]at h;cases h;obtain⟨_,z,y,vs,r,dd⟩:=I1.aH b _ e1;exact⟨z,y,vs,r,dd⟩
   · rw[L2.aE hb]at h
     refine(I1.aH b o h).gW (λc u _ q=>q) (λc q=>?_) λc xs q=>?_
     ·rw[L2.aE (λz=>by subst z;rw[e1]at q;cases q)];exact q
     ·rw[L2.aE (λz=>by subst z;rw[e1]at q;cases q)];exact q
mutual
theorem Rep.kf{H2:Hp}{F2:Addr->Prop}(o:∀a xs,dI M H F a xs->dI M H2 F2 a xs):∀ {d:D} {v:V},iN d=true->Rep M H F d v->Rep M H2 F2 d v
 |.aD,_,_,h=>by simp only[Rep]at h ⊢;exact h
 |.bl _,_,_,h=>by simp only[Rep]at h ⊢;exact h
 |.int _,_,_,h=>by simp only[Rep]at h ⊢;exact h
 |.str _,_,_,h=>by simp only[Rep]at h ⊢;exact h
 | .tup ds,_,n,h=>by
   simp only[Rep]at h ⊢;obtain⟨a,xs,e,t,r⟩:=h;exact⟨a,xs,e,o _ _ t,ag.kf o (by unfold PL.iN at n;exact n) r⟩
 |.lst _,_,n,_=>by unfold PL.iN at n;cases n
 |.aN _ _,_,n,_=>by unfold PL.iN at n;cases n
 |.df _ _ _,_,n,_=>by unfold PL.iN at n;cases n
theorem ag.kf{H2:Hp}{F2:Addr->Prop}(o:∀a xs,dI M H F a xs->dI M H2 F2 a xs):∀ {ds:List D} {xs:List V},f7 ds=true->ag M H F ds xs->ag M H2 F2 ds xs
 |[],_,_,h=>by simp only[ag]at h ⊢;exact h
 | d::ds,_,n,h=>by
   unfold f7 at n;rw[Bool.and_eq_true]at n;simp only[ag]at h ⊢;obtain⟨x,r,e,h1,h2⟩:=h;exact⟨x,r,e,Rep.kf o n.1 h1,ag.kf o n.2 h2⟩
end
end
end PL
namespace PySem
namespace F
end F
section
variable{prog:Program}{w:World}{A:Around}{E:Value->Shared->Prop}{s:Shared}{a:Addr}{o:Obj}{ep:Nat}{t:SetTable}
end
end PySem
namespace PL
open PySem PySem.Spec
open L2 (V Hp HO Cx PE PT PW PA PS bQ PG cH VK TE TT TA TS TI TG Inv RelV Vals Rd a8 bo upd ak Key XK Ends aZ c9 bE R2 EP It Turn cq Un)
section
variable{X:Cx}{M:Md}{G H H':Hp}{F0:Gf}{F F':Addr->Prop}{σ:L2.St}{ρ:En}{pos:Pos}{pins:List (Addr×Obj)}{s:Shared}
end
mutual
noncomputable def T.toD:T->D
 |.d x=>x
 |.l ts=>.lst (T.cQ ts)
 |.m ks ts=>.aN ks (T.cQ ts)
 |.tu ts=>.tup (T.cQ ts)
noncomputable def T.cQ:List T->List D
 |[]=>[]
 |t::ts=>T.toD t::T.cQ ts
end
noncomputable def T.at:T->List Nat->Option T
 |t,[]=>some t
 | .l ts,k::p=>match ts[k]? with
   |some t=>T.at t p
   |none=>none
 | .m _ ts,k::p=>match ts[k]? with
   |some t=>T.at t p
   |none=>none
 | .tu ts,k::p=>match ts[k]? with
   |some t=>T.at t p
   |none=>none
 |.d _,_::_=>none
noncomputable def T.put(n:T):T->List Nat->T
 |_,[]=>n
 | .l ts,k::p=>match ts[k]? with
   |some t=>.l (ts.set k (T.put n t p))
   |none=>.l ts
 | .m ks ts,k::p=>match ts[k]? with
   |some t=>.m ks (ts.set k (T.put n t p))
   |none=>.m ks ts
 | .tu ts,k::p=>match ts[k]? with
   |some t=>.tu (ts.set k (T.put n t p))
   |none=>.tu ts
 |.d x,_::_=>.d x
section
variable{X:Cx}{M:Md}{G H H':Hp}{F0:Gf}{F F':Addr->Prop}{σ:L2.St}{ρ:En}{pos:Pos}{pins:List (Addr×Obj)}{s:Shared}
mutual
theorem ah.less(hs:∀a,F' a->F a):∀ {t:T} {v:V} {as:List Addr},(∀b∈as,F' b)->ah M H F t v as->ah M H F' t v as
 | .d x,v,as,_,h=>by
   simp only[ah]at h ⊢;exact⟨h.1,h.2.sub hs⟩
 | .l ts,v,as,k,h=>by
   simp only[ah]at h ⊢;obtain⟨a,xs,bs,e1,rfl,f,e2,r⟩:=h;exact⟨a,xs,bs,e1,rfl,k a List.mem_cons_self,e2,au.less hs (λb hb=>k b (List.mem_cons_of_mem _ hb)) r⟩
 | .m ks ts,v,as,k,h=>by
   simp only[ah]at h ⊢;obtain⟨a,xs,bs,e1,rfl,f,e2,l,r⟩:=h;exact⟨a,xs,bs,e1,rfl,k a List.mem_cons_self,e2,l,au.less hs (λb hb=>k b (List.mem_cons_of_mem _ hb)) r⟩
 | .tu ts,v,as,k,h=>by
   simp only[ah]at h ⊢;obtain⟨a,xs,e1,f,e2,r⟩:=h;exact⟨a,xs,e1,λz=>f (hs a z),e2,au.less hs k r⟩
theorem au.less(hs:∀a,F' a->F a):∀ {ts:List T} {xs:List V} {as:List Addr},(∀b∈as,F' b)->au M H F ts xs as->au M H F' ts xs as
 |[],xs,as,_,h=>by simp only[au]at h ⊢;exact h
 | t::ts,xs,as,k,h=>by
   simp only[au]at h ⊢;obtain⟨x,r,bs,cs,e1,rfl,h1,h2⟩:=h;exact⟨x,r,bs,cs,e1,rfl,ah.less hs (λb hb=>k b (List.mem_append_left _ hb)) h1,au.less hs (λb hb=>k b (List.mem_append_right _ hb)) h2⟩
end
theorem au.part:∀ {ts:List T} {xs:List V} {as:List Addr} {k:Nat} {t:T},au M H F ts xs as->ts[k]? =some t->∃x bs,xs[k]? =some x/\ah M H F t x bs/\bs.Sublist as
 |[],_,_,_,_,_,e=>by simp at e
 | t::ts,xs,as,0,_,h,e=>by
   simp only[au]at h;obtain⟨x,r,bs,cs,rfl,rfl,h1,h2⟩:=h;cases e;exact⟨x,bs,rfl,h1,List.sublist_append_left _ _⟩
 | t::ts,xs,as,k+1,_,h,e=>by
   simp only[au]at h;obtain⟨x,r,bs,cs,rfl,rfl,h1,h2⟩:=h;obtain⟨y,ds,h3,h4,h5⟩:=au.part h2 (by simpa using e)
   exact⟨y,ds,by simpa using h3,h4,h5.trans (List.sublist_append_right _ _)⟩
theorem au.chg{H2:Hp}{F2:Addr->Prop}{N:List Addr}{c:Addr}{t':T}{x:V}(m:Mv F H F2 H2)(hk:∀b u,b≠c->H b=some u->H2 b=some u)(Na:∀b,F b->F2 b):∀ {j:Nat} {ts:List T} {xs:List V} {as:List Addr} {t:T},au M H F ts xs as->as.Nodup->ts[j]? =some t->xs[j]? =some x->
   (∀bs,ah M H F t x bs->bs.Nodup->c∈bs/\∃bs',ah M H2 F2 t' x bs'/\bs'.Nodup/\(∀b∈bs',b∈bs\/(b∈N/\H b=none))/\∀b∈N,b∈bs')->
   c∈as/\∃as',au M H2 F2 (ts.set j t') xs as'/\as'.Nodup/\(∀b∈as',b∈as\/(b∈N/\H b=none))/\∀b∈N,b∈as'
 |j,[],_,_,_,_,_,e,_,_=>by simp at e
 | 0,t::ts,xs,as,_,h,nd,e,ex,k=>by
   simp only[au]at h;obtain⟨y,r,bs,cs,rfl,rfl,h1,h2⟩:=h;cases e;cases ex;have Jv:=List.nodup_append.mp nd;obtain⟨hc,bs',k1,k2,k3,k4⟩:=k bs h1 Jv.1;refine⟨List.mem_append_left _ hc,bs'++cs,?_,List.nodup_append.mpr ⟨k2,Jv.2.1,λa ha b hb z=>?_⟩,λb hb=>?_,λb hb=>List.mem_append_left _ (k4 b hb)⟩
   · rw[List.set_cons_zero]
     simp only[au];refine⟨_,r,bs',cs,rfl,rfl,k1,h2.mv m λb hb u f hu=>⟨Na b f,hk b u (λz=>?_) hu⟩⟩;subst z;exact Jv.2.2 b hc b hb rfl
   · subst z
     rcases k3 a ha with h|⟨_,h⟩
     ·exact Jv.2.2 a h a hb rfl
     · obtain⟨_,u,hu⟩:=h2.fs a hb
       rw[h]at hu;cases hu
   · rcases List.mem_append.mp hb with hb|hb
     ·exact(k3 b hb).imp (List.mem_append_left _) id
     ·exact .inl (List.mem_append_right _ hb)
 | j+1,t::ts,xs,as,_,h,nd,e,ex,k=>by
   simp only[au]at h;obtain⟨y,r,bs,cs,rfl,rfl,h1,h2⟩:=h;have Jv:=List.nodup_append.mp nd;obtain⟨hc,Kt,k1,k2,k3,k4⟩:=au.chg m hk Na h2 Jv.2.1 (by simpa using e) (by simpa using ex) k
   refine⟨List.mem_append_right _ hc,bs++Kt,?_,List.nodup_append.mpr ⟨Jv.1,k2,λa ha b hb z=>?_⟩,λb hb=>?_,λb hb=>List.mem_append_right _ (k4 b hb)⟩
   · rw[List.set_cons_succ]
     simp only[au];refine⟨y,r,bs,Kt,rfl,rfl,h1.mv m λb hb u f hu=>⟨Na b f,hk b u (λz=>?_) hu⟩,k1⟩;subst z;exact Jv.2.2 b hb b hc rfl
   · subst z
     rcases k3 a hb with h|⟨_,h⟩
     ·exact Jv.2.2 a ha a h rfl
     · obtain⟨_,u,hu⟩:=h1.fs a ha
       rw[h]at hu;cases hu
   · rcases List.mem_append.mp hb with hb|hb
     ·exact .inl (List.mem_append_left _ hb)
     ·exact(k3 b hb).imp (List.mem_append_right _) id
theorem zip_inj{ks:List Ky}{xs ys:List V}(l1:ks.length=xs.length)(l2:ks.length=ys.length)(h:ks.zip xs=ks.zip ys):xs=ys:=by
 have h1:=congrArg (List.map Prod.snd) h;rw[List.map_snd_zip (by omega),List.map_snd_zip (by omega)]at h1
 exact h1
structure en(M:Md)(H H2:Hp)(F F2:Addr->Prop)(c:Addr)(n0 n1:T)(LG KY:List Addr):Prop where
 old:ah M H F n0 (.ref c) LG
 mem:c∈LG
 new:ah M H2 F2 n1 (.ref c) KY
 nd:KY.Nodup
 out:∀b u,b≠c->H b=some u->H2 b=some u
 fs:∀b,F2 b↔F b\/b∈KY
 gU:∀b∈KY,b∈LG\/H b=none
theorem en.fc{H2:Hp}{F2:Addr->Prop}{c:Addr}{n0 n1:T}{LG KY:List Addr}(C:en M H H2 F F2 c n0 n1 LG KY):F c:=(C.old.fs c C.mem).1
theorem en.mv{H2:Hp}{F2:Addr->Prop}{c:Addr}{n0 n1:T}{LG KY:List Addr}(C:en M H H2 F F2 c n0 n1 LG KY):Mv F H F2 H2:=λb o n e=>
 ⟨λf=>((C.fs b).mp f).elim n λhb=>(C.gU b hb).elim (λh=>n (C.old.fs b h).1) (λh=>by rw[h]at e;cases e),C.out b o (λz=>by subst z;exact n C.fc) e⟩
theorem ah.put{H2:Hp}{F2:Addr->Prop}{n0 n1:T}{c:Addr}{LG KY:List Addr}(C:en M H H2 F F2 c n0 n1 LG KY):∀ {p:List Nat} {t:T} {v:V} {as:List Addr},ah M H F t v as->as.Nodup->aq H t v p n0 (.ref c)->
   c∈as/\∃Kw,ah M H2 F2 (T.put n1 t p) v Kw/\Kw.Nodup/\(∀b∈Kw,b∈as\/(b∈KY/\H b=none))/\∀b∈KY,b∈Kw
 | [],t,v,as,h,nd,e=>by
   have e':t=n0/\v=.ref c:=by cases t<;>exact e
   obtain⟨rfl,rfl⟩:=e';have:=ah.gX C.old h;subst this;have ep:T.put n1 t []=n1:=by cases t<;>rfl
   rw[ep];exact⟨C.mem,KY,C.new,C.nd,λb hb=>(C.gU b hb).imp id λh=>⟨hb,h⟩,λb hb=>hb⟩
 | k::p,.l ts,v,as,h,nd,e=>by
   simp only[aq]at e;simp only[ah]at h;obtain⟨a,xs,t1,x1,rfl,e2,et,ex,e⟩:=e;obtain⟨a',ys,bs,ea,rfl,f,Ke,r⟩:=h;cases ea;have e9:xs=ys:=by rw[Ke]at e2;injection e2 with e2;injection e2 with e2;exact e2.symm
   subst e9;have Jv:=List.nodup_cons.mp nd;obtain⟨hc,as',k1,k2,k3,k4⟩:=au.chg (t':=T.put n1 t1 p) C.mv C.out (λb f=>(C.fs b).mpr (.inl f)) r Jv.2 et ex λbs' J1 Oh=>ah.put C J1 Oh e;have Mr:a≠c:=λz=>by subst z;exact Jv.1 hc
   refine⟨List.mem_cons_of_mem _ hc,a::as',?_,List.nodup_cons.mpr ⟨λha=>?_,k2⟩,λb hb=>?_,λb hb=>List.mem_cons_of_mem _ (k4 b hb)⟩
   · show ah M _ _ (match ts[k]? with|some t=>T.l (ts.set k (T.put n1 t p))|none=>T.l ts) _ _
     rw[et];simp only[ah];exact⟨a,_,as',rfl,rfl,(C.fs a).mpr (.inl f),C.out a _ Mr Ke,k1⟩
   · rcases k3 a ha with h|⟨_,h⟩
     ·exact Jv.1 h
     ·rw[h]at Ke;cases Ke
   · rcases List.mem_cons.mp hb with rfl|hb
     ·exact .inl List.mem_cons_self
     ·exact(k3 b hb).imp (List.mem_cons_of_mem _) id
 | k::p,.m ks0 ts,v,as,h,nd,e=>by
   simp only[aq]at e;simp only[ah]at h;obtain⟨a,xs,t1,x1,rfl,e2,l1,et,ex,e⟩:=e;obtain⟨a',ys,bs,ea,rfl,f,Ke,l2,r⟩:=h;cases ea;have e9:xs=ys:=zip_inj l1 l2 (by rw[Ke]at e2;injection e2 with z;injection z with z;exact z.symm)
   subst e9;have Jv:=List.nodup_cons.mp nd;obtain⟨hc,as',k1,k2,k3,k4⟩:=au.chg (t':=T.put n1 t1 p) C.mv C.out (λb f=>(C.fs b).mpr (.inl f)) r Jv.2 et ex λbs' J1 Oh=>ah.put C J1 Oh e;have Mr:a≠c:=λz=>by subst z;exact Jv.1 hc
   refine⟨List.mem_cons_of_mem _ hc,a::as',?_,List.nodup_cons.mpr ⟨λha=>?_,k2⟩,λb hb=>?_,λb hb=>List.mem_cons_of_mem _ (k4 b hb)⟩
   · show ah M _ _ (match ts[k]? with|some t=>T.m ks0 (ts.set k (T.put n1 t p))|none=>T.m ks0 ts) _ _
     rw[et];simp only[ah];exact⟨a,xs,as',rfl,rfl,(C.fs a).mpr (.inl f),C.out a _ Mr Ke,l1,k1⟩
   · rcases k3 a ha with h|⟨_,h⟩
     ·exact Jv.1 h
     ·rw[h]at Ke;cases Ke
   · rcases List.mem_cons.mp hb with rfl|hb
     ·exact .inl List.mem_cons_self
     ·exact(k3 b hb).imp (List.mem_cons_of_mem _) id
 | k::p,.tu ts,v,as,h,nd,e=>by
   simp only[aq]at e;simp only[ah]at h;obtain⟨a,xs,t1,x1,rfl,e2,et,ex,e⟩:=e;obtain⟨a',ys,ea,f,Ke,r⟩:=h;cases ea;have e9:xs=ys:=by rw[Ke]at e2;injection e2 with e2;injection e2 with e2;exact e2.symm
   subst e9;obtain⟨hc,as',k1,k2,k3,k4⟩:=au.chg (t':=T.put n1 t1 p) C.mv C.out (λb f=>(C.fs b).mpr (.inl f)) r nd et ex λbs' J1 Oh=>ah.put C J1 Oh e;refine⟨hc,as',?_,k2,k3,k4⟩;show ah M _ _ (match ts[k]? with|some t=>T.tu (ts.set k (T.put n1 t p))|none=>T.tu ts) _ _
   rw[et];simp only[ah];exact⟨a,_,rfl,(C.mv _ _ f Ke).1,(C.mv _ _ f Ke).2,k1⟩
 |k::p,.d _,v,as,h,nd,e=>e.elim
end
section
variable{X:Cx}{M:Md}{G H H':Hp}{F0:Gf}{F F':Addr->Prop}{σ:L2.St}{ρ:En}{pos:Pos}{pins:List (Addr×Obj)}{s:Shared}
theorem T.BM{n:T}(hn:n.own=true):∀ {t:T} {p:List Nat},t.own=true->(T.put n t p).own=true
 |t,[],_=>by cases t<;>exact hn
 |.l ts,k::p,_=>by unfold T.put;split<;>rfl
 |.m ks ts,k::p,_=>by unfold T.put;split<;>rfl
 |.d x,k::p,h=>by cases h
 |.tu ts,k::p,h=>by cases h
theorem aq.part:∀ {p:List Nat} {t:T} {v:V} {t1:T} {w:V} {as:List Addr},ah M H F t v as->aq H t v p t1 w->∃bs,ah M H F t1 w bs/\bs.Sublist as
 | [],t,v,t1,w,as,tr,h=>by
   have e':t=t1/\v=w:=by cases t<;>exact h
   obtain⟨rfl,rfl⟩:=e';exact⟨as,tr,List.Sublist.refl _⟩
 | k::p,.l ts,v,t1,w,as,tr,h=>by
   simp only[aq]at h;simp only[ah]at tr;obtain⟨a,xs,tp,xp,rfl,e2,Kg,exp,h⟩:=h;obtain⟨a2,ys,bs,La,rfl,f,Kv,r⟩:=tr;cases La;have e9:xs=ys:=by rw[Kv]at e2;injection e2 with z;injection z with z;exact z.symm
   subst e9;obtain⟨Nj,dp,JM,rp,J0⟩:=r.part Kg;rw[exp]at JM;cases JM;obtain⟨cs,h1,h2⟩:=aq.part rp h;exact⟨cs,h1,(h2.trans J0).trans (List.sublist_cons_self _ _)⟩
 | k::p,.m ks0 ts,v,t1,w,as,tr,h=>by
   simp only[aq]at h;simp only[ah]at tr;obtain⟨a,xs,tp,xp,rfl,e2,l1,Kg,exp,h⟩:=h;obtain⟨a2,ys,bs,La,rfl,f,Kv,l2,r⟩:=tr;cases La;have e9:xs=ys:=zip_inj l1 l2 (by rw[Kv]at e2;injection e2 with z;injection z with z;exact z.symm)
   subst e9;obtain⟨Nj,dp,JM,rp,J0⟩:=r.part Kg;rw[exp]at JM;cases JM;obtain⟨cs,h1,h2⟩:=aq.part rp h;exact⟨cs,h1,(h2.trans J0).trans (List.sublist_cons_self _ _)⟩
 | k::p,.tu ts,v,t1,w,as,tr,h=>by
   simp only[aq]at h;simp only[ah]at tr;obtain⟨a,xs,tp,xp,rfl,e2,Kg,exp,h⟩:=h;obtain⟨a2,ys,La,f,Kv,r⟩:=tr;cases La;have e9:xs=ys:=by rw[Kv]at e2;injection e2 with z;injection z with z;exact z.symm
   subst e9;obtain⟨Nj,dp,JM,rp,J0⟩:=r.part Kg;rw[exp]at JM;cases JM;obtain⟨cs,h1,h2⟩:=aq.part rp h;exact⟨cs,h1,h2.trans J0⟩
 |k::p,.d _,v,t1,w,as,tr,h=>h.elim
theorem au.apart:∀ {ts:List T} {xs:List V} {as:List Addr} {j k:Nat} {tj tk:T} {xj xk:V} {bs cs:List Addr},au M H F ts xs as->as.Nodup->j≠k->ts[j]? =some tj->ts[k]? =some tk->xs[j]? =some xj->xs[k]? =some xk->ah M H F tj xj bs->ah M H F tk xk cs->∀b∈bs,b∉cs
 |[],_,_,_,_,_,_,_,_,_,_,_,_,_,e,_,_,_,_,_=>by simp at e
 | t::ts,xs,as,j,k,tj,tk,xj,xk,bs,cs,h,nd,C',ej,ek,QU,QB,rj,rk=>by
   simp only[au]at h;obtain⟨x,r,b1,c1,rfl,rfl,h1,h2⟩:=h;have Jv:=List.nodup_append.mp nd;cases j with
   | zero=>
     cases k with
     |zero=>exact absurd rfl C'
     | succ k=>
       cases ej;cases QU;have:=ah.gX h1 rj;subst this;obtain⟨y,ds,ey,ry,sub⟩:=h2.part (k:=k) (by simpa using ek)
       have Nb:r[k]? =some xk:=by simpa using QB
       rw[ey]at Nb;cases Nb;have:=ah.gX ry rk;subst this;exact λb hb hc=>Jv.2.2 b hb b (sub.subset hc) rfl
   | succ j=>
     cases k with
     | zero=>
       cases ek;cases QB;have:=ah.gX h1 rk;subst this;obtain⟨y,ds,ey,ry,sub⟩:=h2.part (k:=j) (by simpa using ej)
       have Nb:r[j]? =some xj:=by simpa using QU
       rw[ey]at Nb;cases Nb;have:=ah.gX ry rj;subst this;exact λb hb hc=>Jv.2.2 b hc b (sub.subset hb) rfl
     |succ k=>exact au.apart (j:=j) (k:=k) h2 Jv.2.1 (by omega) (by simpa using ej) (by simpa using ek) (by simpa using QU) (by simpa using QB) rj rk
theorem qi{α:Type}{l:List α}{k:Nat}{a b:α}(h:l[k]? =some a):(l.set k b)[k]? =some b:=by
 rw[List.getElem?_set_self (List.getElem?_eq_some_iff.mp h).1]
noncomputable def below:List Nat->List Nat->Bool
 |[],_::_=>true
 |k::p,j::q=>decide (k=j)&&below p q
 |_,_=>false
theorem ah.ne_nil{t:T}{v:V}{as:List Addr}(h:ah M H F t v as)(ho:t.own=true):as≠[]:=by
 cases t with
 |d x=>cases ho
 |tu ts=>cases ho
 |l ts=>simp only[ah]at h;obtain⟨a,xs,bs,_,rfl,_⟩:=h;simp
 |m ks ts=>simp only[ah]at h;obtain⟨a,xs,bs,_,rfl,_⟩:=h;simp
theorem ah.head{t:T}{c:Addr}{as:List Addr}(h:ah M H F t (.ref c) as)(ho:t.own=true):c∈as:=by
 cases t with
 |d x=>cases ho
 |tu ts=>cases ho
 |l ts=>simp only[ah]at h;obtain⟨a,xs,bs,e,rfl,_⟩:=h;cases e;exact List.mem_cons_self
 |m ks ts=>simp only[ah]at h;obtain⟨a,xs,bs,e,rfl,_⟩:=h;cases e;exact List.mem_cons_self
theorem aq.gU:∀ {p q:List Nat} {t:T} {v:V} {n0 t1:T} {x w:V},aq H t v p n0 x->aq H t v q t1 w->below p q=true->∃k r,aq H n0 x (k::r) t1 w
 |[],[],_,_,_,_,_,_,_,_,hb=>by cases hb
 | [],k::r,t,v,n0,t1,x,w,hp,hq,_=>by
   have e':t=n0/\v=x:=by cases t<;>exact hp
   obtain⟨rfl,rfl⟩:=e';exact⟨k,r,hq⟩
 |k::p,[],_,_,_,_,_,_,_,_,hb=>by cases hb
 | k::p,k'::q,.l ts,v,n0,t1,x,w,hp,hq,hb=>by
   unfold below at hb;rw[Bool.and_eq_true,decide_eq_true_eq]at hb;obtain⟨rfl,hb⟩:=hb;simp only[aq]at hp hq;obtain⟨a,xs,tp,xp,rfl,e2,Kg,exp,hp⟩:=hp;obtain⟨a1,LX,tq,xq,LA,K4,Kq,Kr,hq⟩:=hq;cases LA;have e8:LX=xs:=by rw[e2]at K4;injection K4 with z;injection z with z;exact z.symm
   subst e8;rw[Kg]at Kq;cases Kq;rw[exp]at Kr;cases Kr;exact aq.gU hp hq hb
 | k::p,k'::q,.m ks ts,v,n0,t1,x,w,hp,hq,hb=>by
   unfold below at hb;rw[Bool.and_eq_true,decide_eq_true_eq]at hb;obtain⟨rfl,hb⟩:=hb;simp only[aq]at hp hq;obtain⟨a,xs,tp,xp,rfl,e2,l1,Kg,exp,hp⟩:=hp;obtain⟨a1,LX,tq,xq,LA,K4,l2,Kq,Kr,hq⟩:=hq;cases LA;have e8:LX=xs:=zip_inj l2 l1 (by rw[e2]at K4;injection K4 with z;injection z with z;exact z.symm)
   subst e8;rw[Kg]at Kq;cases Kq;rw[exp]at Kr;cases Kr;exact aq.gU hp hq hb
 | k::p,k'::q,.tu ts,v,n0,t1,x,w,hp,hq,hb=>by
   unfold below at hb;rw[Bool.and_eq_true,decide_eq_true_eq]at hb;obtain⟨rfl,hb⟩:=hb;simp only[aq]at hp hq;obtain⟨a,xs,tp,xp,rfl,e2,Kg,exp,hp⟩:=hp;obtain⟨a1,LX,tq,xq,LA,K4,Kq,Kr,hq⟩:=hq;cases LA;have e8:LX=xs:=by rw[e2]at K4;injection K4 with z;injection z with z;exact z.symm
   subst e8;rw[Kg]at Kq;cases Kq;rw[exp]at Kr;cases Kr;exact aq.gU hp hq hb
 |k::p,k'::q,.d _,v,n0,t1,x,w,hp,hq,hb=>hp.elim
theorem aq.leaf{n0:T}{c:Addr}{k:Nat}{q:List Nat}{t1:T}{w:V}(h0:ah M H F n0 (.ref c) [c])(hn:n0.own=true)(h:aq H n0 (.ref c) (k::q) t1 w)(ho:t1.own=true):False:=by
 cases n0 with
 |d x=>exact h.elim
 |tu ts=>cases hn
 | l ts=>
   simp only[aq]at h;simp only[ah]at h0;obtain⟨a,xs,tp,xp,ea,e2,Kg,exp,h⟩:=h;obtain⟨a2,ys,bs,La,eb,f,Kv,r⟩:=h0;cases ea;cases La;cases eb;have e9:xs=ys:=by rw[Kv]at e2;injection e2 with z;injection z with z;exact z.symm
   subst e9;obtain⟨Nj,dp,JM,rp,J0⟩:=r.part Kg;rw[exp]at JM;cases JM;obtain⟨cs,h1,h2⟩:=aq.part rp h;exact h1.ne_nil ho (List.sublist_nil.mp (h2.trans J0))
 | m ks0 ts=>
   simp only[aq]at h;simp only[ah]at h0;obtain⟨a,xs,tp,xp,ea,e2,l1,Kg,exp,h⟩:=h;obtain⟨a2,ys,bs,La,eb,f,Kv,l2,r⟩:=h0;cases ea;cases La;cases eb;have e9:xs=ys:=zip_inj l1 l2 (by rw[Kv]at e2;injection e2 with z;injection z with z;exact z.symm)
   subst e9;obtain⟨Nj,dp,JM,rp,J0⟩:=r.part Kg;rw[exp]at JM;cases JM;obtain⟨cs,h1,h2⟩:=aq.part rp h;exact h1.ne_nil ho (List.sublist_nil.mp (h2.trans J0))
theorem aq.put{H2:Hp}{F2:Addr->Prop}{n0 n1:T}{c:Addr}{LG KY:List Addr}(C:en M H H2 F F2 c n0 n1 LG KY)(o1:n1.own=true):∀ {q:List Nat} {p:List Nat} {t:T} {v:V} {t1:T} {w:V} {as:List Addr},ah M H F t v as->as.Nodup->aq H t v p n0 (.ref c)->aq H t v q t1 w->t1.own=true->below p q=false->
   ∃t2,t2.own=true/\aq H2 (T.put n1 t p) v q t2 w
 | [],p,t,v,t1,w,as,tr,nd,hp,hq,ho,_=>by
   have e':t=t1/\v=w:=by cases t<;>exact hq
   obtain⟨rfl,rfl⟩:=e';refine⟨T.put n1 t p,T.BM o1 ho,?_⟩;generalize T.put n1 t p=t2;cases t2<;>exact⟨rfl,rfl⟩
 |k'::q,[],t,v,t1,w,as,tr,nd,hp,hq,ho,hb=>by cases hb
 | k'::q,k::p,.l ts,v,t1,w,as,tr,nd,hp,hq,ho,hb=>by
   simp only[aq]at hp hq;simp only[ah]at tr;obtain⟨a,xs,tp,xp,rfl,e2,Kg,exp,hp⟩:=hp;obtain⟨a1,LX,tq,xq,LA,K4,Kq,Kr,hq⟩:=hq;obtain⟨a2,ys,bs,La,rfl,f,Kv,r⟩:=tr;cases LA;cases La;have e8:LX=ys:=by rw[Kv]at K4;injection K4 with z;injection z with z;exact z.symm
   have e9:xs=ys:=by rw[Kv]at e2;injection e2 with z;injection z with z;exact z.symm
   subst e8 e9;have Jv:=List.nodup_cons.mp nd;obtain⟨Nj,dp,JM,rp,J0⟩:=r.part Kg;rw[exp]at JM;cases JM;obtain⟨hc,_⟩:=ah.put C rp (Jv.2.sublist J0) hp;have Mr:a≠c:=λz=>by subst z;exact Jv.1 (J0.subset hc)
   show ∃t2,t2.own=true/\aq _ (match ts[k]? with|some t=>T.l (ts.set k (T.put n1 t p))|none=>T.l ts) _ _ t2 w
   rw[Kg];by_cases KH:k=k'
   · subst KH
     rw[Kg]at Kq;cases Kq;rw[exp]at Kr;cases Kr;obtain⟨t2,o2,h2⟩:=aq.put C o1 rp (Jv.2.sublist J0) hp hq ho (by simpa[below] using hb)
     refine⟨t2,o2,?_⟩;simp only[aq];exact⟨a,_,_,_,rfl,C.out a _ Mr Kv,qi Kg,exp,h2⟩
   · obtain⟨Rq,dq,K8,rq,ON⟩:=r.part Kq
     rw[Kr]at K8;cases K8;refine⟨t1,ho,?_⟩;simp only[aq];refine⟨a,_,tq,xq,rfl,C.out a _ Mr Kv,by rw[List.getElem?_set_ne KH];exact Kq,Kr,hq.mv (λa o n e=>(C.mv a o n e).2) rq λb hb u fb hu=>C.out b u (λz=>?_) hu⟩
     subst z;exact au.apart r Jv.2 KH Kg Kq exp Kr rp rq _ hc hb
 | k'::q,k::p,.m ks0 ts,v,t1,w,as,tr,nd,hp,hq,ho,hb=>by
   simp only[aq]at hp hq;simp only[ah]at tr;obtain⟨a,xs,tp,xp,rfl,e2,l0,Kg,exp,hp⟩:=hp;obtain⟨a1,LX,tq,xq,LA,K4,l1,Kq,Kr,hq⟩:=hq;obtain⟨a2,ys,bs,La,rfl,f,Kv,l2,r⟩:=tr;cases LA;cases La;have e8:LX=ys:=zip_inj l1 l2 (by rw[Kv]at K4;injection K4 with z;injection z with z;exact z.symm)
   have e9:xs=ys:=zip_inj l0 l2 (by rw[Kv]at e2;injection e2 with z;injection z with z;exact z.symm)
   subst e8 e9;have Jv:=List.nodup_cons.mp nd;obtain⟨Nj,dp,JM,rp,J0⟩:=r.part Kg;rw[exp]at JM;cases JM;obtain⟨hc,_⟩:=ah.put C rp (Jv.2.sublist J0) hp;have Mr:a≠c:=λz=>by subst z;exact Jv.1 (J0.subset hc)
   show ∃t2,t2.own=true/\aq _ (match ts[k]? with|some t=>T.m ks0 (ts.set k (T.put n1 t p))|none=>T.m ks0 ts) _ _ t2 w
   rw[Kg];by_cases KH:k=k'
   · subst KH
     rw[Kg]at Kq;cases Kq;rw[exp]at Kr;cases Kr;obtain⟨t2,o2,h2⟩:=aq.put C o1 rp (Jv.2.sublist J0) hp hq ho (by simpa[below] using hb)
     refine⟨t2,o2,?_⟩;simp only[aq];exact⟨a,_,_,_,rfl,C.out a _ Mr Kv,l2,qi Kg,exp,h2⟩
   · obtain⟨Rq,dq,K8,rq,ON⟩:=r.part Kq
     rw[Kr]at K8;cases K8;refine⟨t1,ho,?_⟩;simp only[aq];refine⟨a,_,tq,xq,rfl,C.out a _ Mr Kv,l2,by rw[List.getElem?_set_ne KH];exact Kq,Kr,hq.mv (λa o n e=>(C.mv a o n e).2) rq λb hb u fb hu=>C.out b u (λz=>?_) hu⟩
     subst z;exact au.apart r Jv.2 KH Kg Kq exp Kr rp rq _ hc hb
 | k'::q,k::p,.tu ts,v,t1,w,as,tr,nd,hp,hq,ho,hb=>by
   simp only[aq]at hp hq;simp only[ah]at tr;obtain⟨a,xs,tp,xp,rfl,e2,Kg,exp,hp⟩:=hp;obtain⟨a1,LX,tq,xq,LA,K4,Kq,Kr,hq⟩:=hq;obtain⟨a2,ys,La,f,Kv,r⟩:=tr;cases LA;cases La;have e8:LX=ys:=by rw[Kv]at K4;injection K4 with z;injection z with z;exact z.symm
   have e9:xs=ys:=by rw[Kv]at e2;injection e2 with z;injection z with z;exact z.symm
   subst e8 e9;obtain⟨Nj,dp,JM,rp,J0⟩:=r.part Kg;rw[exp]at JM;cases JM;obtain⟨hc,_⟩:=ah.put C rp (nd.sublist J0) hp;show ∃t2,t2.own=true/\aq _ (match ts[k]? with|some t=>T.tu (ts.set k (T.put n1 t p))|none=>T.tu ts) _ _ t2 w
   rw[Kg];by_cases KH:k=k'
   · subst KH
     rw[Kg]at Kq;cases Kq;rw[exp]at Kr;cases Kr;obtain⟨t2,o2,h2⟩:=aq.put C o1 rp (nd.sublist J0) hp hq ho (by simpa[below] using hb)
     refine⟨t2,o2,?_⟩;simp only[aq];exact⟨a,_,_,_,rfl,(C.mv _ _ f Kv).2,qi Kg,exp,h2⟩
   · obtain⟨Rq,dq,K8,rq,ON⟩:=r.part Kq
     rw[Kr]at K8;cases K8;refine⟨t1,ho,?_⟩;simp only[aq];refine⟨a,_,tq,xq,rfl,(C.mv _ _ f Kv).2,by rw[List.getElem?_set_ne KH];exact Kq,Kr,hq.mv (λa o n e=>(C.mv a o n e).2) rq λb hb u fb hu=>C.out b u (λz=>?_) hu⟩
     subst z;exact au.apart r nd KH Kg Kq exp Kr rp rq _ hc hb
 |k'::q,k::p,.d _,v,t1,w,as,tr,nd,hp,hq,ho,_=>hp.elim
theorem aT.un{ρ':En}(r:aT M G F0 H F σ ρ)(hl:ρ'.length=ρ.length)(h:∀(j:Nat) s,ρ'[j]? =some s->s=.un\/ρ[j]? =some s):aT M G F0 H F σ ρ':=by
 have ow:∀j,bp ρ' j->bp ρ j:=λj o=>by
   rcases o with⟨ds,e⟩|⟨ks,ds,e⟩
   · rcases h j _ e with z|z
     ·cases z
     ·exact .inl ⟨_,z⟩
   · rcases h j _ e with z|z
     ·cases z
     ·exact .inr ⟨_,_,z⟩
 have on:∀(j:Nat) x,ρ'[j]? =some (.on x)->ρ[j]? =some (.on x):=λj x e=>(h j _ e).resolve_left λz=>nomatch z
 have at':∀(j:Nat) b,bO M H F σ ρ' j b->bO M H F σ ρ j b:=λj b ⟨t,v,as,e,z⟩=>⟨t,v,as,on j _ e,z⟩;refine⟨⟨by rw[hl,r.rs.len],r.rs.aX,λi d e=>?_,λi d e=>?_,λi k d e=>?_,λi j a oi oj=>r.rs.b4 i j a (ow i oi) (ow j oj),λi x e=>?_⟩,r.sm,r.sub,r.dk,λi a o=>r.own i a (ow i o),λi x b e hb=>r.dS i x b (on i x e) (at' i b hb),λw hw t e=>r.pin w hw t (on _ _ e)⟩
 ·exact r.rs.sh i d ((h i _ e).resolve_left λz=>nomatch z)
 ·exact r.rs.ol i d ((h i _ e).resolve_left λz=>nomatch z)
 ·exact r.rs.od i k d ((h i _ e).resolve_left λz=>nomatch z)
 · obtain⟨h1,h2,h3⟩:=r.rs.on i x (on i x e)
   refine⟨?_,λb hb k ok=>h2 b (at' i b hb) k (ow k ok),λt ht j t' ej hj b h4 h5=>h3 t ht j t' (on j _ ej) hj b (at' i b h4) (at' j b h5)⟩;cases x with
   |tr t=>exact h1
   |al k p=>exact λt et=>h1 t (on k _ et)
noncomputable def dQ(i:Nat)(p:List Nat)(ρ:En):En:=ρ.map λs=>match s with
 |.on (.al k q)=>if k=i/\below p q=true then .un else s
 |s=>s
noncomputable def ni(i:Nat)(p:List Nat)(s:Slot):Slot:=match s with
 |.on (.al k q)=>if k=i/\below p q=true then .un else s
 |s=>s
theorem ED{i:Nat}{p:List Nat}:∀(z:Slot),ni i p z=.un\/(ni i p z=z/\∀q,z=.on (.al i q)->below p q=false)
 |.un=>.inl rfl
 |.sh _=>.inr ⟨rfl,λ_ h=>nomatch h⟩
 |.ol _=>.inr ⟨rfl,λ_ h=>nomatch h⟩
 |.od _ _=>.inr ⟨rfl,λ_ h=>nomatch h⟩
 |.on (.tr _)=>.inr ⟨rfl,λ_ h=>nomatch h⟩
 | .on (.al k q)=>by
   by_cases hc:k=i/\below p q=true
   ·exact .inl (if_pos hc)
   · refine .inr ⟨if_neg hc,λq' hq=>?_⟩
     injection hq with hq;injection hq with h1 h2;subst h1 h2;cases hb:below p q with
     |false=>rfl
     |true=>exact absurd ⟨rfl,hb⟩ hc
theorem qU{i:Nat}{p:List Nat}{j:Nat}{s:Slot}(h:(dQ i p ρ)[j]? =some s):s=.un\/(ρ[j]? =some s/\∀q,s=.on (.al i q)->below p q=false):=by
 have h:(ρ.map (ni i p))[j]? =some s:=h;rw[List.getElem?_map]at h;cases e:ρ[j]? with
 |none=>rw[e]at h;cases h
 | some z=>
   rw[e]at h;have h:ni i p z=s:=Option.some.inj h;rcases ED (i:=i) (p:=p) z with h1|⟨h1,h2⟩
   ·exact .inl (h.symm.trans h1)
   ·rw[h1]at h;subst h;exact .inr ⟨rfl,h2⟩
theorem aT.drop(i:Nat)(p:List Nat)(r:aT M G F0 H F σ ρ):aT M G F0 H F σ (dQ i p ρ):=r.un (by unfold dQ;simp) λj s h=>(qU h).imp id And.left
theorem aV.oK{i:Nat}{t t':T}{v:V}{as as':List Addr}(r:aV M H F σ ρ)(e:ρ[i]? =some (.on (.tr t)))(ev:σ[i]? =some (some v))(tr:ah M H F t v as)(KC:∀b∈as',b∈as\/H b=none)(mv:Mv F H F' H')(K6:∀b u,b∉as->F b->H b=some u->F' b/\H' b=some u)(aX:∀a,F' a->∃o,H' a=some o)
   (Kx:ah M H' F' t' v as') (nd:as'.Nodup) (Nm:∀(j:Nat) p,ρ[j]? =some (Slot.on (.al i p))->∀t1 w,aq H t v p t1 w->t1.own=true->∃t2,t2.own=true/\aq H' t' v p t2 w):
   aV M H' F' σ (ρ.set i (.on (.tr t')))/\∀j b,bO M H' F' σ (ρ.set i (.on (.tr t'))) j b->(j=i/\b∈as')\/(j≠i/\bO M H F σ ρ j b/\b∉as'):=by
 have Li:∀b∈as,bO M H F σ ρ i b:=λb hb=>⟨t,v,as,e,ev,tr,hb⟩;have fs:=tr.fs;have ro:=r.on i _ e;have hi:i<ρ.length:=(List.getElem?_eq_some_iff.mp e).1;have old:∀(j:Nat) x,j≠i->(ρ.set i (.on (.tr t')))[j]? =some x->ρ[j]? =some x:=λj x hj h=>by rw[List.getElem?_set_ne (Ne.symm hj)]at h;exact h
 have self:(ρ.set i (.on (.tr t')))[i]? =some (.on (.tr t')):=List.getElem?_set_self hi
 have Lb:∀(j:Nat) x,(∀y,x≠Slot.on y)->(ρ.set i (.on (.tr t')))[j]? =some x->ρ[j]? =some x:=λj x hx h=>by
   by_cases hj:j=i
   ·subst hj;rw[self]at h;cases h;exact absurd rfl (hx _)
   ·exact old j x hj h
 have Mf:∀j,bp (ρ.set i (.on (.tr t'))) j->bp ρ j:=λj h=>by
   rcases h with⟨ds,h⟩|⟨ks,ds,h⟩
   ·exact .inl ⟨ds,Lb j _ (λy z=>nomatch z) h⟩
   ·exact .inr ⟨ks,ds,Lb j _ (λy z=>nomatch z) h⟩
 have keep:∀(j:Nat) b u,bp ρ j->σ[j]? =some (some (.ref b))->F b->H b=some u->F' b/\H' b=some u:=λj b u oj ej fb hu=>K6 b u (λh=>ro.2.1 b (Li b h) j oj ej) fb hu
 have Pp:∀(j:Nat) t1,j≠i->ρ[j]? =some (.on (.tr t1))->∃v1 Kw,σ[j]? =some (some v1)/\ah M H F t1 v1 Kw/\Kw.Nodup/\ah M H' F' t1 v1 Kw/\∀b∈Kw,bO M H F σ ρ j b/\b∉as:=λj t1 hj e1=>by
   obtain⟨⟨v1,Kw,LH,LV,NT⟩,_,_⟩:=r.on j _ e1;have h1:∀b∈Kw,bO M H F σ ρ j b/\b∉as:=λb hb=>⟨⟨t1,v1,Kw,e1,LH,LV,hb⟩,λh=>ro.2.2 t rfl j t1 e1 hj b (Li b h) ⟨t1,v1,Kw,e1,LH,LV,hb⟩⟩;exact⟨v1,Kw,LH,LV,NT,LV.mv mv λb hb u f hu=>K6 b u (h1 b hb).2 f hu,h1⟩
 have Kp:∀j b,bO M H' F' σ (ρ.set i (.on (.tr t'))) j b->(j=i/\b∈as')\/(j≠i/\bO M H F σ ρ j b/\b∉as'):=λj b ⟨t1,v1,Kw,e1,LH,LV,hb⟩=>by
   by_cases hj:j=i
   · subst hj
     rw[self]at e1;cases e1;rw[ev]at LH;cases LH;have:=ah.gX Kx LV;subst this;exact .inl ⟨rfl,hb⟩
   · obtain⟨v2,NA,NG,QE,_,Qe,h3⟩:=Pp j t1 hj (old j _ hj e1)
     rw[NG]at LH;cases LH;have:=ah.gX Qe LV;subst this;refine .inr ⟨hj,(h3 b hb).1,λh=>(KC b h).elim (h3 b hb).2 λh=>?_⟩;obtain⟨_,u,hu⟩:=QE.fs b hb;rw[h]at hu;cases hu
 refine⟨⟨by simp[r.len],aX,λj d h=>?_,λj ds h=>?_,λj ks ds h=>?_,λj k a oj ok ej ek=>r.b4 j k a (Mf j oj) (Mf k ok) ej ek,λj x h=>⟨?_,λb hb k ok ek=>?_,λt1 ht k t2 hk Ol b h1 h2=>?_⟩⟩,Kp⟩
 · obtain⟨w,e1,g⟩:=r.sh j d (Lb j _ (λy z=>nomatch z) h)
   exact⟨w,e1,g.mv mv⟩
 · have h0:=Lb j (.ol ds) (λy z=>nomatch z) h
   obtain⟨a,xs,e1,f,e2,g⟩:=r.ol j ds h0;obtain⟨f',e3⟩:=keep j a _ (.inl ⟨_,h0⟩) e1 f e2;exact⟨a,xs,e1,f',e3,g.mv mv⟩
 · have h0:=Lb j (.od ks ds) (λy z=>nomatch z) h
   obtain⟨a,xs,e1,f,e2,l,g⟩:=r.od j ks ds h0;obtain⟨f',e3⟩:=keep j a _ (.inr ⟨_,_,h0⟩) e1 f e2;exact⟨a,xs,e1,f',e3,l,g.mv mv⟩
 · by_cases hj:j=i
   · subst hj
     rw[self]at h;cases h;exact⟨v,as',ev,Kx,nd⟩
   · have h0:=old j _ hj h
     cases x with
     | tr t1=>
       obtain⟨v2,NA,NG,_,Jv,Qe,_⟩:=Pp j t1 hj h0;exact⟨v2,NA,NG,Qe,Jv⟩
     | al k p=>
       intro t1 Q3;by_cases hk:k=i
       · subst hk
         rw[self]at Q3;cases Q3;obtain⟨v1,w,t2,e1,e2,at2,o2⟩:=(r.on j _ h0).1 t e;rw[ev]at e1;cases e1;obtain⟨t3,o3,N6⟩:=Nm j p h0 t2 w at2 o2;exact⟨v,w,t3,ev,e2,N6,o3⟩
       · have Ru:=old k _ hk Q3
         obtain⟨v2,NA,NG,QE,_,_,h3⟩:=Pp k t1 hk Ru;obtain⟨v1,w,t2,e1,e2,at2,o2⟩:=(r.on j _ h0).1 t1 Ru;rw[NG]at e1;cases e1;exact⟨v2,w,t2,NG,e2,at2.mv (λa o n e=>(mv a o n e).2) QE (λb hb u f hu=>(K6 b u (h3 b hb).2 f hu).2),o2⟩
 · rcases Kp j b hb with⟨rfl,J1⟩|⟨_,J1,_⟩
   · rcases KC b J1 with h2|h2
     ·exact ro.2.1 b (Li b h2) k (Mf k ok) ek
     · obtain⟨a,_,u,_,e1,_,e2,_⟩:=r.ownAt (Mf k ok)
       rw[ek]at e1;cases e1;rw[h2]at e2;cases e2
   · obtain⟨t9,v9,Qq,e9,_⟩:=id J1
     exact(r.on j _ e9).2.1 b J1 k (Mf k ok) ek
 · rcases Kp j b h1 with⟨h3,h4⟩|⟨h3,h4,h6⟩
   · rcases Kp k b h2 with⟨h5,_⟩|⟨_,_,h5⟩
     ·exact Ol (h5.trans h3.symm)
     ·exact h5 h4
   · rcases Kp k b h2 with⟨_,h5⟩|⟨h5,h7,_⟩
     ·exact h6 h5
     ·exact(r.on j _ (old j _ h3 h)).2.2 t1 ht k t2 (old k _ h5 hk) Ol b h4 h7
theorem aT.oK{i:Nat}{t t':T}{v:V}{as as':List Addr}(r:aT M G F0 H F σ ρ)(e:ρ[i]? =some (.on (.tr t)))(ev:σ[i]? =some (some v))(tr:ah M H F t v as)(KC:∀b∈as',b∈as\/H b=none)(mv:Mv F H F' H')(K6:∀b u,b∉as->F b->H b=some u->F' b/\H' b=some u)(aX:∀a,F' a->∃o,H' a=some o)
   (Kx:ah M H' F' t' v as') (nd:as'.Nodup) (Nm:∀(j:Nat) p,ρ[j]? =some (Slot.on (.al i p))->∀t1 w,aq H t v p t1 w->t1.own=true->∃t2,t2.own=true/\aq H' t' v p t2 w) (sm:∀b u,b∉as->H b=some u->H' b=some u) (sub:∀b,F b->b∉as->F' b):
   Mv F H F' H'/\aT M G F0 H' F' σ (ρ.set i (.on (.tr t'))):=by
 have Li:∀b∈as,G b=none:=λb hb=>r.dS i _ b e ⟨t,v,as,e,ev,tr,hb⟩;obtain⟨rs,Kp⟩:=r.rs.oK e ev tr KC mv K6 aX Kx nd Nm;refine⟨mv,⟨rs,λb u hb=>sm b u (λh=>by rw[Li b h]at hb;cases hb) (r.sm b u hb),λb f=>sub b (r.sub b f) λh=>?_,r.dk,λj a oj ej=>r.own j a ?_ ej,λj x b h hb=>?_,λw hw t2 e2=>?_⟩⟩
 · obtain⟨o,eo⟩:=r.dk b f
   rw[Li b h]at eo;cases eo
 · rcases oj with⟨ds,h⟩|⟨ks,ds,h⟩
   · rcases get_set h with⟨_,z,_⟩|⟨_,h⟩
     ·cases z
     ·exact .inl ⟨_,h⟩
   · rcases get_set h with⟨_,z,_⟩|⟨_,h⟩
     ·cases z
     ·exact .inr ⟨_,_,h⟩
 · rcases Kp j b hb with⟨_,h1⟩|⟨_,h1,_⟩
   · rcases KC b h1 with h2|h2
     ·exact Li b h2
     ·exact r.sm.free h2
   · obtain⟨t9,v9,Qq,e9,_⟩:=id h1
     exact r.dS j _ b e9 h1
 · rcases get_set e2 with⟨z,_,_⟩|⟨_,e2⟩
   ·rw[<-z];have:=r.pin w hw t (by rw[<-z];exact e);rw[<-z]at this;exact this
   ·exact r.pin w hw t2 e2
theorem aT.xR{i:Nat}{t t':T}{v:V}{as as':List Addr}(r:aT M G F0 H F σ ρ)(e:ρ[i]? =some (.on (.tr t)))(ev:σ[i]? =some (some v))(tr:ah M H F t v as)(KC:∀b∈as',b∈as\/H b=none)(KL:∀b u,b∉as'->H b=some u->H' b=some u)
   (hF:∀b,F' b↔F b\/b∈as') (Kx:ah M H' F' t' v as') (nd:as'.Nodup) (Nm:∀(j:Nat) p,ρ[j]? =some (Slot.on (.al i p))->∀t1 w,aq H t v p t1 w->t1.own=true->∃t2,t2.own=true/\aq H' t' v p t2 w):
   Mv F H F' H'/\aT M G F0 H' F' σ (ρ.set i (.on (.tr t'))):=by
 have fs:=tr.fs
 have nb:∀b u,b∉as->H b=some u->b∉as':=λb u n eo hb=>by
   rcases KC b hb with h|h
   ·exact n h
   ·rw[h]at eo;cases eo
 refine r.oK e ev tr KC (λb o n eo=>?_) (λb u n f hu=>⟨(hF b).mpr (.inl f),KL b u (nb b u n hu) hu⟩) (λa fa=>?_) Kx nd Nm (λb u n hu=>KL b u (nb b u n hu) hu) λb f _=>(hF b).mpr (.inl f)
 · have h:=nb b o (λh=>n (fs b h).1) eo
   exact⟨λf=>((hF b).mp f).elim n h,KL b _ h eo⟩
 · by_cases ha:a∈as'
   ·exact(Kx.fs a ha).2
   · obtain⟨o,ho⟩:=r.rs.aX a (((hF a).mp fa).resolve_right ha)
     exact⟨o,KL a _ ha ho⟩
theorem wq{i j:Nat}{p:List Nat}{t:T}(h:ρ[j]? =some (.on (.tr t))):(dQ i p ρ)[j]? =some (.on (.tr t)):=by
 unfold dQ;rw[List.getElem?_map,h];rfl
theorem aT.oJ{H2:Hp}{F2:Addr->Prop}{i:Nat}{t n0 n1:T}{w:V}{p:List Nat}{c:Addr}{LG KY:List Addr}(r:aT M G F0 H F σ ρ)(e1:ρ[i]? =some (.on (.tr t)))(e2:σ[i]? =some (some w))(JQ:aq H t w p n0 (.ref c))(C:en M H H2 F F2 c n0 n1 LG KY)(o1:n1.own=true):
   Mv F H F2 H2/\aT M G F0 H2 F2 σ ((dQ i p ρ).set i (.on (.tr (T.put n1 t p)))):=by
 obtain⟨⟨w',as,ew,tr,nd⟩,_,_⟩:=r.rs.on i _ e1;rw[e2]at ew;cases ew;obtain⟨hc,Kw,Kx,NT,k1,k2⟩:=ah.put C tr nd JQ;have Pl:c∈Kw:=k2 c (C.new.head o1)
 exact(r.drop i p).xR (wq e1) e2 tr (λb hb=>(k1 b hb).imp id And.right) (λb u hb hu=>C.out b u (λz=>by subst z;exact hb Pl) hu) (λb=>by
     rw[C.fs b];exact⟨λh=>h.imp id (k2 b),λh=>h.elim .inl λhb=>(k1 b hb).elim (λh=>.inl (tr.fs b h).1) λh=>.inr h.1⟩) Kx NT
   λj q hq t1 w1 OS ho=>aq.put C o1 tr nd JQ OS ho (((qU hq).resolve_left λz=>nomatch z).2 q rfl)
theorem aT.uU{i:Nat}{t n0 n1:T}{w:V}{p:List Nat}{c:Addr}{o:HO}(r:aT M G F0 H F σ ρ)(e1:ρ[i]? =some (.on (.tr t)))(e2:σ[i]? =some (some w))(JQ:aq H t w p n0 (.ref c))(h0:ah M H F n0 (.ref c) [c])(o0:n0.own=true)(o1:n1.own=true)(h1:ah M (upd H c o) F n1 (.ref c) [c]):
   Mv F H F (upd H c o)/\aT M G F0 (upd H c o) F σ (ρ.set i (.on (.tr (T.put n1 t p)))):=by
 obtain⟨⟨w',as,ew,tr,nd⟩,_,_⟩:=r.rs.on i _ e1;rw[e2]at ew;cases ew;have fc:=(h0.fs c List.mem_cons_self).1;have C:en M H (upd H c o) F F c n0 n1 [c] [c]:=⟨h0,List.mem_cons_self,h1,by simp,λb u n e=>by rw[L2.aE n];exact e,λb=>⟨.inl,λh=>h.elim id λhb=>by rw[List.mem_singleton.mp hb];exact fc⟩,λb hb=>.inl hb⟩
 obtain⟨hc,Kw,Kx,NT,k1,k2⟩:=ah.put C tr nd JQ;have Pl:c∈Kw:=k2 c List.mem_cons_self
 exact r.xR e1 e2 tr (λb hb=>(k1 b hb).imp id And.right) (λb u hb hu=>C.out b u (λz=>by subst z;exact hb Pl) hu) (λb=>⟨.inl,λh=>h.elim id λhb=>(k1 b hb).elim (λh=>(tr.fs b h).1) λh=>by rw[List.mem_singleton.mp h.1];exact fc⟩) Kx NT
   λj q hq t1 w1 OS ho=>aq.put C o1 tr nd JQ OS ho (by
     cases hb:below p q with
     |false=>rfl
     |true=>obtain⟨k,r',h9⟩:=aq.gU JQ OS hb;exact(aq.leaf h0 o0 h9 ho).elim)
end
noncomputable def gf(i:Nat)(ρ:En):Bool:=ρ.all λs=>match s with
 |.on (.al k _)=> !decide (k=i)
 |_=>true
noncomputable def xF(e:Ex):Xt:=λρ=>(e ρ).bind λd=>match d with
 |.lst ds=>.ok (.l (ds.map .d))
 |_=>.bad
noncomputable def dC:List Xt->En->R (List T)
 |[],_=>.ok []
 |f::fs,ρ=>(f ρ).bind λt=>(dC fs ρ).bind λts=>.ok (t::ts)
noncomputable def xL(fs:List Xt):Xt:=λρ=>(dC fs ρ).bind λts=>.ok (.l ts)
noncomputable def pj:Xt:=λ_=>.ok (.m [] [])
noncomputable def gx(i:Nat)(f:Xt):Sm:=λρ=>(f ρ).bind λt=>if gf i ρ=true/\2<=i then .ok (.next (ρ.set i (.on (.tr t))))else .bad
section
variable{X:Cx}{M:Md}{G H H':Hp}{F0:Gf}{F F':Addr->Prop}{σ:L2.St}{ρ:En}{pos:Pos}{pins:List (Addr×Obj)}{s:Shared}{as:List Addr}
def qR(M:Md)(f:En->R (List T)):TA:=λσ H Q=>∃ρ F ts,aV M H F σ ρ/\f ρ=.ok ts/\∀vs H' F' as,ak H H'->(∀b∈as,H b=none)->as.Nodup->(∀b,F' b↔F b\/b∈as)->au M H' F' ts vs as->Q vs H'
abbrev mn(X:Cx)(es:List Expr)(f:En->R (List T)):Prop:=PA X es (qR (aB X) f)
theorem zG{e:Expr}{f:Ex}(h:JF X e f):JX X e (xF f):=
 bz h λσ H Q ⟨ρ,F,t,hr,e,q⟩=>by
   obtain⟨d,ed,e⟩:=av.mp e;cases d with
   | lst ds=>
     cases e;refine⟨ρ,F,ds,hr,ed,λp H1 xs s1 hp rs=>?_⟩;refine q (.ref p) _ (λb=>F b\/b=p) [p] (s1.trans (ak.bR hp _)) (λb hb=>by rw[List.mem_singleton.mp hb];exact s1.free hp) (by simp) (λb=>by simp) ?_
     simp only[ah];refine⟨p,xs,[],rfl,rfl,.inr rfl,L2.bf,gg.mpr ⟨rfl,rs.mv λb o n e=>?_⟩⟩;have hb:b≠p:=λz=>by subst z;rw[hp]at e;cases e
     exact⟨λf=>f.elim n hb,by rw[L2.aE hb];exact e⟩
   |_=>cases e
theorem Gy:mn X [] (dC []):=
 nN L2.kY λσ H Q ⟨ρ,F,ts,hr,e,q⟩=>by
   cases e;exact q [] H F [] (ak.refl _) (λ_ hb=>nomatch hb) List.nodup_nil (λb=>by simp) (by rw[au];exact⟨rfl,rfl⟩)
theorem yo{f:Xt}{fs:List Xt}{Q:List V->Hp->Prop}{te:TE}{ta:TA}(h1:∀σ H Q,pV M f σ H Q->te σ H Q)(h2:∀σ H Q,qR M (dC fs) σ H Q->ta σ H Q)(h:qR M (dC (f::fs)) σ H Q):L2.uf te ta σ H Q:=by
 obtain⟨ρ,F,ts,hr,e,q⟩:=h;obtain⟨t,et,e⟩:=av.mp e;obtain⟨us,eu,e⟩:=av.mp e;cases e;refine h1 _ _ _ ⟨ρ,F,t,hr,et,λv H1 F1 as s1 hn nd hF tr=>?_⟩;obtain⟨LW,r1⟩:=hr.wide s1 hn hF (λb hb=>(tr.fs b hb).2);refine h2 _ _ _ ⟨ρ,F1,us,r1,eu,λvs H2 F2 bs s2 OE Jv Na JR=>?_⟩
 have apart:∀a∈as,∀b∈bs,a≠b:=λa ha b hb z=>by
   subst z;obtain⟨_,u,hu⟩:=tr.fs a ha;rw[OE a hb]at hu;cases hu
 have O8:Mv F1 H1 F2 H2:=λb o n e=>⟨λf=>((Na b).mp f).elim n (λhb=>by rw[OE b hb]at e;cases e),s2 _ _ e⟩
 refine q (v::vs) H2 F2 (as++bs) (s1.trans s2) (λb hb=>?_) (List.nodup_append.mpr ⟨nd,Jv,apart⟩) (λb=>?_) ?_
 · rcases List.mem_append.mp hb with hb|hb
   ·exact hn b hb
   ·exact s1.free (OE b hb)
 ·rw[Na b,hF b,List.mem_append,or_assoc]
 · simp only[au]
   exact⟨v,vs,as,bs,rfl,rfl,tr.mv O8 λb hb u f hu=>⟨(Na b).mpr (.inl f),s2 _ _ hu⟩,JR⟩
theorem HD{e:Expr}{es:List Expr}{f:Xt}{fs:List Xt}(h1:JX X e f)(h2:mn X es (dC fs))(hs:starEach (e::es) X.env=(false,eval e X.env)::starEach es X.env:=by rfl):mn X (e::es) (dC (f::fs)):=
 nN (L2.jz h1 h2 hs) λσ H Q h=>yo (λ_ _ _ h=>h) (λ_ _ _ h=>h) h
theorem uu:∀ {fs:List Xt} {ts:List T},dC fs ρ=.ok ts->ts.length=fs.length
 |[],ts,h=>by cases h;rfl
 | f::fs,ts,h=>by
   obtain⟨t,et,h⟩:=av.mp h;obtain⟨us,eu,h⟩:=av.mp h;cases h;simp[uu eu]
theorem zO{ts:List T}{vs:List V}{p:Addr}(s1:ak H H')(hn:∀b∈as,H b=none)(nd:as.Nodup)(hF:∀b,F' b↔F b\/b∈as)(tr:au M H' F' ts vs as)(hp:H' p=none):
   ak H (upd H' p (.lst vs))/\(∀b∈p::as,H b=none)/\(p::as).Nodup/\ah M (upd H' p (.lst vs)) (λb=>F b\/b∈p::as) (.l ts) (.ref p) (p::as):=by
 have LU:p∉as:=λhb=>by obtain⟨_,u,hu⟩:=tr.fs p hb;rw[hp]at hu;cases hu
 refine⟨s1.trans (ak.bR hp _),λb hb=>?_,List.nodup_cons.mpr ⟨LU,nd⟩,?_⟩
 · rcases List.mem_cons.mp hb with rfl|hb
   ·exact s1.free hp
   ·exact hn b hb
 · simp only[ah]
   refine⟨p,vs,as,rfl,rfl,.inr List.mem_cons_self,L2.bf,tr.mv (λb o n e=>?_) λb hb u f hu=>?_⟩
   · have hb:b≠p:=λz=>by subst z;rw[hp]at e;cases e
     refine⟨λf=>?_,by rw[L2.aE hb];exact e⟩
     rcases f with f|f
     ·exact n ((hF b).mpr (.inl f))
     · rcases List.mem_cons.mp f with f|f
       ·exact hb f
       ·exact n ((hF b).mpr (.inr f))
   · have J1:b≠p:=λz=>by subst z;exact LU hb
     exact⟨.inr (List.mem_cons_of_mem _ hb),by rw[L2.aE J1];exact hu⟩
theorem zU{es:List Expr}{fs:List Xt}(h:mn X es (dC fs))(hl:fs.length<=1000:=by decide):JX X (.List es pos) (xL fs):=
 bz (L2.qd h) λσ H Q ⟨ρ,F,t,hr,e,q⟩=>by
   obtain⟨ts,Rw,e⟩:=av.mp e;cases e;refine⟨ρ,F,ts,hr,Rw,λvs H1 F1 as s1 hn nd hF tr=>⟨?_,λp hp=>?_⟩⟩
   ·rw[<-tr.len,uu Rw];exact Nat.le_trans hl (by decide)
   · obtain⟨a,b,c,d⟩:=zO s1 hn nd hF tr hp
     exact q _ _ _ _ a b c (λ_=>Iff.rfl) d
theorem Dz:JX X (.Dict [] [] pos) pj:=
 bz L2.rW λσ H Q ⟨ρ,F,t,hr,e,q⟩=>by
   cases e;intro p hp;refine q (.ref p) _ (λb=>F b\/b∈[p]) [p] (ak.bR hp _) (λb hb=>by rw[List.mem_singleton.mp hb];exact hp) (by simp) (λ_=>Iff.rfl) ?_
   simp only[ah,au];exact⟨p,[],[],rfl,rfl,.inr List.mem_cons_self,L2.bf,rfl,rfl,rfl⟩
theorem nA{i j:Nat}{x:Sp}(h:bp (ρ.set i (.on x)) j):i≠j/\bp ρ j:=by
 rcases h with⟨ds,q⟩|⟨ks,ds,q⟩
 · rcases get_set q with⟨_,z,_⟩|⟨C',q⟩
   ·cases z
   ·exact⟨C',.inl ⟨ds,q⟩⟩
 · rcases get_set q with⟨_,z,_⟩|⟨C',q⟩
   ·cases z
   ·exact⟨C',.inr ⟨ks,ds,q⟩⟩
theorem E5{i:Nat}(h:gf i ρ=true)(j:Nat)(p:List Nat):ρ[j]? ≠some (.on (.al i p)):=λe=>by
 have:=List.all_eq_true.mp h _ (List.mem_of_getElem? e);simp at this
theorem aT.xE{i:Nat}{t:T}{v:V}(r:aT M G F0 H F σ ρ)(no:gf i ρ=true)(Ue:2<=i)(s1:ak H H')(hn:∀b∈as,H b=none)(nd:as.Nodup)(hF:∀b,F' b↔F b\/b∈as)(tr:ah M H' F' t v as):
   Mv F H F' H'/\aT M G F0 H' F' (σ.set i (some v)) (ρ.set i (.on (.tr t))):=by
 obtain⟨mv,rs⟩:=r.rs.wide s1 hn hF (λb hb=>(tr.fs b hb).2)
 have get:∀(j:Nat) x,(ρ.set i (.on (.tr t)))[j]? =some (.on x)->(i=j/\x=.tr t/\i<ρ.length)\/(i≠j/\ρ[j]? =some (.on x)):=λj x h=>by
   rcases get_set h with⟨h1,h2,h3⟩|h
   ·injection h2 with h2;exact .inl ⟨h1,h2.symm,h3⟩
   ·exact .inr h
 have self:i<ρ.length->(σ.set i (some v))[i]? =some (some v):=λh=>List.getElem?_set_self (by rw[<-r.rs.len];exact h)
 have Kp:∀(j:Nat) b,bO M H' F' (σ.set i (some v)) (ρ.set i (.on (.tr t))) j b->(i=j/\b∈as)\/(i≠j/\bO M H F σ ρ j b/\bO M H' F' σ ρ j b):=λj b hb=>by
   have Su:=hb;obtain⟨t1,v1,Kw,e1,LH,LV,hb⟩:=hb;rcases get j _ e1 with⟨rfl,z,hl⟩|⟨C',e2⟩
   · cases z
     rw[self hl]at LH;cases LH;have:=ah.gX tr LV;subst this;exact .inl ⟨rfl,hb⟩
   · rw[List.getElem?_set_ne C']at LH
     exact .inr ⟨C',r.rs.on.back (λx hx=>((get j x hx).resolve_left λz=>C' z.1).2) (List.getElem?_set_ne C') (λa u _ _ hu=>s1 _ _ hu) (λa o _ e=>s1 _ _ e) Su,t1,v1,Kw,e2,LH,LV,hb⟩
 have new:∀(j:Nat) b,b∈as->¬bO M H F σ ρ j b:=λj b hb h=>by
   obtain⟨_,u,hu⟩:=fz.f h;rw[hn b hb]at hu;cases hu
 refine⟨mv,⟨⟨by simp[rs.len],rs.aX,λj d q=>?_,λj d q=>?_,λj k d q=>?_,λj k b oj ok ej ek=>?_,λj x h=>⟨?_,λb hb k ok ek=>?_,λt1 ht k t2 hk Ol b h1 h2=>?_⟩⟩,r.sm.trans s1,λb f=>(hF b).mpr (.inl (r.sub b f)),r.dk,λj a oj e=>?_,λj x b e hb=>?_,λw hw t2 e2=>?_⟩⟩
 · rcases get_set q with⟨_,z,_⟩|⟨C',q⟩
   ·cases z
   · obtain⟨w,e1,g⟩:=rs.sh j d q
     exact⟨w,by rw[List.getElem?_set_ne C'];exact e1,g⟩
 · rcases get_set q with⟨_,z,_⟩|⟨C',q⟩
   ·cases z
   · obtain⟨a,xs,e1,g⟩:=rs.ol j d q
     exact⟨a,xs,by rw[List.getElem?_set_ne C'];exact e1,g⟩
 · rcases get_set q with⟨_,z,_⟩|⟨C',q⟩
   ·cases z
   · obtain⟨a,xs,e1,g⟩:=rs.od j k d q
     exact⟨a,xs,by rw[List.getElem?_set_ne C'];exact e1,g⟩
 · obtain⟨nj,oj⟩:=nA oj
   obtain⟨nk,ok⟩:=nA ok;rw[List.getElem?_set_ne nj]at ej;rw[List.getElem?_set_ne nk]at ek;exact rs.b4 j k b oj ok ej ek
 · rcases get j x h with⟨rfl,rfl,hl⟩|⟨C',h0⟩
   ·exact⟨v,as,self hl,tr,nd⟩
   · have h1:=(rs.on j x h0).1
     cases x with
     | tr t1=>
       obtain⟨v1,Kw,e1,h2⟩:=h1;exact⟨v1,Kw,by rw[List.getElem?_set_ne C'];exact e1,h2⟩
     | al k p=>
       intro t1 e1;rcases get k _ e1 with⟨z,_,_⟩|⟨hk,e1⟩
       ·subst z;exact absurd h0 (E5 no j p)
       · obtain⟨v1,w,t2,a1,a2,a3⟩:=h1 t1 e1
         exact⟨v1,w,t2,by rw[List.getElem?_set_ne hk];exact a1,by rw[List.getElem?_set_ne C'];exact a2,a3⟩
 · obtain⟨nk,ok⟩:=nA ok
   rw[List.getElem?_set_ne nk]at ek;rcases Kp j b hb with⟨_,hb⟩|⟨_,hb,_⟩
   · obtain⟨a,_,u,_,e1,_,e2,_⟩:=r.rs.ownAt ok
     rw[ek]at e1;cases e1;rw[hn _ hb]at e2;cases e2
   · obtain⟨t9,v9,Qq,e9,_⟩:=id hb
     exact(r.rs.on j _ e9).2.1 b hb k ok ek
 · rcases Kp j b h1 with⟨h3,h4⟩|⟨h3,h4,_⟩
   · rcases Kp k b h2 with⟨h5,_⟩|⟨_,h5,_⟩
     ·exact Ol (h5.symm.trans h3)
     ·exact new k b h4 h5
   · rcases Kp k b h2 with⟨_,h5⟩|⟨h5,h6,_⟩
     ·exact new j b h5 h4
     ·exact(r.rs.on j _ ((get j x h).resolve_left λz=>h3 z.1).2).2.2 t1 ht k t2 ((get k _ hk).resolve_left λz=>h5 z.1).2 Ol b h4 h6
 · obtain⟨nj,oj⟩:=nA oj
   rw[List.getElem?_set_ne nj]at e;exact r.own j a oj e
 · rcases Kp j b hb with⟨_,hb⟩|⟨_,hb,_⟩
   ·exact r.sm.free (hn b hb)
   · obtain⟨t9,v9,Qq,e9,_⟩:=id hb
     exact r.dS j _ b e9 hb
 · have RW:i≠w.1.toNat:=λz=>by have:=Bool.toNat_lt w.1;omega
   rcases get _ _ e2 with⟨z,_,_⟩|⟨_,e2⟩
   ·exact absurd z RW
   ·rw[List.getElem?_set_ne RW];exact r.pin w hw t2 e2
theorem D4(i:Nat){x:Str}{e:Expr}{f:Xt}{p2:Pos}(hN:X.N.Nodup)(he:JX X e f)(hi:X.N[i]? =some x:=by rfl)(hx:L2.Loc X.env.scope x:=by exact Or.inl rfl)(hf:X.fn x=true\/X.env.scope.names.lookup x=some .local:=by first|exact .inl rfl|exact .inr rfl)
   (hs:swapsWith e (some (.Name x p2)) pos.line X.env=pure false:=by rfl):JS X (.Assign [.Name x p2] e pos) (gx i f):=λF0=>
 cm (L2.lL hN hi hx he hs hf) λD σ H ⟨ρ,F,fl,r,e,q⟩=>by
   obtain⟨t,et,e⟩:=av.mp e;by_cases no:gf i ρ=true/\2<=i
   · rw[if_pos no]at e
     cases e;refine⟨ρ,F,t,r.rs,et,λv H1 F1 as s1 hn nd hF tr=>?_⟩;obtain⟨mv,r'⟩:=r.xE (i:=i) no.1 no.2 s1 hn nd hF tr;exact q _ _ _ mv r'
   ·rw[if_neg no]at e;cases e
end
noncomputable abbrev Pt:=En->R (List Nat)
noncomputable def pN:Pt:=λ_=>.ok []
noncomputable def Jh(j i:Nat)(f:Pt):Sm:=λρ=>(f ρ).bind λp=>match ρ[i]? with
 | some (.on (.tr t))=>match T.at t p with
   |some t1=>if t1.own=true/\i≠j then .ok (.next (ρ.set j (.on (.al i p))))else .bad
   |none=>.bad
 |_=>.bad
noncomputable def fq:List T->Option (List D)
 |[]=>some []
 |.d x::r=>(fq r).map (x:: ·)
 |_::_=>none
section
variable{X:Cx}{M:Md}{G H H':Hp}{F0:Gf}{F F':Addr->Prop}{σ:L2.St}{ρ:En}{pos:Pos}{pins:List (Addr×Obj)}{s:Shared}{as:List Addr}
theorem sr:∀ {ts:List T} {vs:List D},fq ts=some vs->ts=vs.map .d
 |[],vs,h=>by cases h;rfl
 | .d x::r,vs,h=>by
   unfold fq at h;cases e:fq r with
   |none=>rw[e]at h;cases h
   |some us=>rw[e]at h;cases h;rw[sr e];rfl
 |.l _::r,vs,h=>by cases h
 |.m _ _::r,vs,h=>by cases h
 |.tu _::r,vs,h=>by cases h
theorem aq.oY:∀ {p:List Nat} {t:T} {v:V} {t1:T} {w:V},aq H t v p t1 w->T.at t p=some t1
 | [],t,v,t1,w,h=>by
   have e':t=t1/\v=w:=by cases t<;>exact h
   rw[e'.1];cases t1<;>rfl
 | k::p,.l ts,v,t1,w,h=>by
   simp only[aq]at h;obtain⟨a,xs,t2,x2,_,_,e1,_,h⟩:=h;unfold T.at
   rw[e1];exact h.oY
 | k::p,.m ks ts,v,t1,w,h=>by
   simp only[aq]at h;obtain⟨a,xs,t2,x2,_,_,_,e1,_,h⟩:=h;unfold T.at
   rw[e1];exact h.oY
 | k::p,.tu ts,v,t1,w,h=>by
   simp only[aq]at h;obtain⟨a,xs,t2,x2,_,_,e1,_,h⟩:=h;unfold T.at
   rw[e1];exact h.oY
 |k::p,.d _,v,t1,w,h=>h.elim
theorem aq.snoc{n0:T}{x:V}{m:Nat}{t1:T}{x1:V}(h1:aq H n0 x [m] t1 x1):∀ {p:List Nat} {t:T} {v:V},aq H t v p n0 x->aq H t v (p++[m]) t1 x1
 | [],t,v,h=>by
   have e':t=n0/\v=x:=by cases t<;>exact h
   obtain⟨rfl,rfl⟩:=e';exact h1
 | k::p,.l us,v,h=>by
   show aq H (.l us) v (k::(p++[m])) t1 x1;simp only[aq]at h ⊢;obtain⟨b,ys,t2,x2,MV,h2,h3,h4,h⟩:=h;exact⟨b,ys,t2,x2,MV,h2,h3,h4,aq.snoc h1 h⟩
 | k::p,.m ks us,v,h=>by
   show aq H (.m ks us) v (k::(p++[m])) t1 x1;simp only[aq]at h ⊢;obtain⟨b,ys,t2,x2,MV,h2,h0,h3,h4,h⟩:=h;exact⟨b,ys,t2,x2,MV,h2,h0,h3,h4,aq.snoc h1 h⟩
 | k::p,.tu us,v,h=>by
   show aq H (.tu us) v (k::(p++[m])) t1 x1;simp only[aq]at h ⊢;obtain⟨b,ys,t2,x2,MV,h2,h3,h4,h⟩:=h;exact⟨b,ys,t2,x2,MV,h2,h3,h4,aq.snoc h1 h⟩
 |k::p,.d _,v,h=>h.elim
theorem aq.here(t:T)(v:V):aq H t v [] t v:=by cases t<;>exact⟨rfl,rfl⟩
theorem aq.Ac{a:Addr}{xs:List V}{ts:List T}{m:Nat}{t1:T}{x1:V}(ha:H a=some (.lst xs))(h1:ts[m]? =some t1)(hx:xs[m]? =some x1):aq H (.l ts) (.ref a) [m] t1 x1:=by
 unfold aq;exact⟨a,xs,t1,x1,rfl,ha,h1,hx,aq.here _ _⟩
theorem aq.C9{a:Addr}{xs:List V}{ts:List T}{m:Nat}{t1:T}{x1:V}(ha:H a=some (.tup xs))(h1:ts[m]? =some t1)(hx:xs[m]? =some x1):aq H (.tu ts) (.ref a) [m] t1 x1:=by
 unfold aq;exact⟨a,xs,t1,x1,rfl,ha,h1,hx,aq.here _ _⟩
theorem aq.Cp{a:Addr}{xs:List V}{ks:List Ky}{ts:List T}{m:Nat}{t1:T}{x1:V}(ha:H a=some (.dK (ks.zip xs)))(hl:ks.length=xs.length)(h1:ts[m]? =some t1)(hx:xs[m]? =some x1):aq H (.m ks ts) (.ref a) [m] t1 x1:=by
 unfold aq;exact⟨a,xs,t1,x1,rfl,ha,hl,h1,hx,aq.here _ _⟩
theorem T.oq{n0:T}{m:Nat}:∀ {p:List Nat} {t:T},T.at t p=some n0->T.at t (p++[m])=T.at n0 [m]
 | [],t,h=>by
   have:t=n0:=by cases t<;>(injection h)
   subst this;rfl
 | k::p,.l us,h=>by
   have h:(match us[k]? with|some t=>T.at t p|none=>none)=some n0:=h
   show(match us[k]? with|some t=>T.at t (p++[m])|none=>none)=T.at n0 [m]
   cases e:us[k]? with
   |none=>rw[e]at h;cases h
   |some u=>rw[e]at h;exact T.oq h
 | k::p,.m ks us,h=>by
   have h:(match us[k]? with|some t=>T.at t p|none=>none)=some n0:=h
   show(match us[k]? with|some t=>T.at t (p++[m])|none=>none)=T.at n0 [m]
   cases e:us[k]? with
   |none=>rw[e]at h;cases h
   |some u=>rw[e]at h;exact T.oq h
 | k::p,.tu us,h=>by
   have h:(match us[k]? with|some t=>T.at t p|none=>none)=some n0:=h
   show(match us[k]? with|some t=>T.at t (p++[m])|none=>none)=T.at n0 [m]
   cases e:us[k]? with
   |none=>rw[e]at h;cases h
   |some u=>rw[e]at h;exact T.oq h
 |k::p,.d _,h=>by cases h
theorem T.AN{ts:List T}{m:Nat}:T.at (.l ts) [m]=ts[m]? :=by
 unfold T.at
 cases e:ts[m]? with
 |none=>rfl
 |some u=>cases u<;>rfl
def Gi(M:Md)(i:Nat)(f:Pt):TE:=λσ H Q=>∃ρ F t w p t1,aV M H F σ ρ/\ρ[i]? =some (.on (.tr t))/\σ[i]? =some (some w)/\f ρ=.ok p/\T.at t p=some t1/\∀v H',ak H H'->aq H' t w p t1 v->Q v H'
abbrev JL(X:Cx)(i:Nat)(e:Expr)(f:Pt):Prop:=PE X e (Gi (aB X) i f)
theorem zS(i:Nat){x:Str}(hN:X.N[i]? =some x:=by rfl)(hv:L2.cf X.env.scope x:=by first|exact Or.inl rfl|exact Or.inr (Or.inl rfl)|exact Or.inr (Or.inr rfl))(hd:(x==("__debug__":Str))=false:=by decide)
   (Jx:(x==("__classdict__":Str))=false:=by decide):JL X i (.Name x pos) pN:=
 bz (L2.pv i hN hv hd Jx) λσ H Q ⟨ρ,F,t,w,p,t1,r,e1,e2,ef,Oq,q⟩=>by
   cases ef;have:t1=t:=by cases t<;>(injection Oq with Oq;exact Oq.symm)
   subst this;exact⟨w,e2,q w H (ak.refl _) (by cases t1<;>exact⟨rfl,rfl⟩)⟩
theorem aq.same{t:T}{v w:V}{p:List Nat}{t1:T}{i:Nat}(r:aV M H F σ ρ)(e1:ρ[i]? =some (.on (.tr t)))(e2:σ[i]? =some (some v))(s1:ak H H')(h:aq H t v p t1 w):aq H' t v p t1 w:=by
 obtain⟨⟨v',as,ev,tr,_⟩,_,_⟩:=r.on i _ e1;rw[e2]at ev;cases ev;exact h.mv (λ_ _ _ e=>s1 _ _ e) tr λb hb u f hu=>s1 _ _ hu
end
noncomputable def jk(i:Nat):Sm:=λρ=>match ρ[i]? with
 |some (.on (.tr t))=>.ok (.next (ρ.set i (.sh (T.toD t))))
 |_=>.bad
noncomputable def IC(i:Nat)(f:Pt):Sm:=λρ=>(f ρ).bind λp=>match ρ[i]? with
 | some (.on (.tr t))=>match T.at t p with
   | some (.l ts)=>match fq ts with
     |some _=>.ok (.next (ρ.set i (.on (.tr (T.put (.l []) t p)))))
     |none=>.bad
   |_=>.bad
 |_=>.bad
noncomputable def i8(i:Nat)(f:Pt)(e:Ex):Sm:=λρ=>(f ρ).bind λp=>(e ρ).bind λd=>match ρ[i]? with
 | some (.on (.tr t))=>match T.at t p with
   | some (.l ts)=>match fq ts with
     |some vs=>if vs.length<dP then .ok (.next (ρ.set i (.on (.tr (T.put (.l ((vs++[d]).map .d)) t p)))))else .bad
     |none=>.bad
   |_=>.bad
 |_=>.bad
section
variable{X:Cx}{M:Md}{G H H':Hp}{F0:Gf}{F F':Addr->Prop}{σ:L2.St}{ρ:En}{pos:Pos}{pins:List (Addr×Obj)}{s:Shared}{as:List Addr}
def gE(H H':Hp)(b:Addr):Prop:=(H' b=H b/\∃xs,H b=some (.lst xs))\/∃ob kvs,H b=some (.dK kvs)/\H' b=some (.frz ob (.dK kvs))
mutual
theorem ah.frz:∀ {t:T} {H:Hp} {v:V} {as:List Addr},Inv X pins σ H s->ah M H F t v as->as.Nodup->∃H',Inv X pins σ H' s/\(∀b,b∉as->H' b=H b)/\∀b∈as,gE H H' b
 | .d x,H,v,as,I,h,_=>by
   simp only[ah]at h;exact⟨H,I,λ_ _=>rfl,λb hb=>by rw[h.1]at hb;cases hb⟩
 | .l ts,H,v,as,I,h,nd=>by
   simp only[ah]at h;obtain⟨a,xs,bs,rfl,rfl,f,e2,r⟩:=h;have Jv:=List.nodup_cons.mp nd;obtain⟨H1,I1,h1,k1⟩:=au.frz I r Jv.2;refine⟨H1,I1,λb hb=>h1 b λKl=>hb (List.mem_cons_of_mem _ Kl),λb hb=>?_⟩;rcases List.mem_cons.mp hb with rfl|hb
   ·exact .inl ⟨h1 b Jv.1,_,e2⟩
   ·exact k1 b hb
 | .m ks ts,H,v,as,I,h,nd=>by
   simp only[ah]at h;obtain⟨a,xs,bs,rfl,rfl,f,e2,l,r⟩:=h;have Jv:=List.nodup_cons.mp nd;obtain⟨H1,I1,h1,k1⟩:=au.frz I r Jv.2;have ha:H1 a=some (.dK (ks.zip xs)):=by rw[h1 a Jv.1];exact e2
   obtain⟨ob,I2⟩:=rV I1 ha;refine⟨_,I2,λb hb=>?_,λb hb=>?_⟩
   · have J1:b≠a:=λz=>by subst z;exact hb List.mem_cons_self
     rw[L2.aE J1];exact h1 b λKl=>hb (List.mem_cons_of_mem _ Kl)
   · rcases List.mem_cons.mp hb with h9|h9
     ·subst h9;exact .inr ⟨ob,_,e2,L2.bf⟩
     · have J1:b≠a:=λz=>Jv.1 (z▸h9)
       unfold gE;rw[L2.aE J1];exact k1 b h9
 | .tu ts,H,v,as,I,h,nd=>by
   simp only[ah]at h;obtain⟨a,xs,rfl,f,e2,r⟩:=h;exact au.frz I r nd
theorem au.frz:∀ {ts:List T} {H:Hp} {xs:List V} {as:List Addr},Inv X pins σ H s->au M H F ts xs as->as.Nodup->∃H',Inv X pins σ H' s/\(∀b,b∉as->H' b=H b)/\∀b∈as,gE H H' b
 | [],H,xs,as,I,h,_=>by
   simp only[au]at h;exact⟨H,I,λ_ _=>rfl,λb hb=>by rw[h.2]at hb;cases hb⟩
 | t::ts,H,xs,as,I,h,nd=>by
   simp only[au]at h;obtain⟨x,r,bs,cs,rfl,rfl,h1,h2⟩:=h;have Jv:=List.nodup_append.mp nd;obtain⟨H1,I1,o1,k1⟩:=ah.frz I h1 Jv.1;have QS:=h1.fs;have LW:Mv F H F H1:=λb o n e=>⟨n,by rw[o1 b λhb=>n (QS b hb).1];exact e⟩
   have Mg:au M H1 F ts r cs:=au.mv LW (λb hb u f hu=>⟨f,by rw[o1 b λKl=>Jv.2.2 b Kl b hb rfl];exact hu⟩) h2
   obtain⟨H2,I2,o2,k2⟩:=au.frz I1 Mg Jv.2.1;refine⟨H2,I2,λb hb=>?_,λb hb=>?_⟩
   ·rw[o2 b λKl=>hb (List.mem_append_right _ Kl),o1 b λKl=>hb (List.mem_append_left _ Kl)]
   · rcases List.mem_append.mp hb with hb|hb
     · have:=k1 b hb
       unfold gE at this ⊢;rw[o2 b λKl=>Jv.2.2 b hb b Kl rfl];exact this
     · have:=k2 b hb
       unfold gE at this ⊢;rw[o1 b λKl=>Jv.2.2 b Kl b hb rfl]at this;exact this
end
mutual
theorem ah.seen(m:Mv F H F' H'):∀ {t:T} {v:V} {as:List Addr},ah M H F t v as->(∀b∈as,gE H H' b/\¬F' b)->Rep M H' F' (T.toD t) v
 | .d x,v,as,h,_=>by
   simp only[ah]at h;exact h.2.mv m
 | .l ts,v,as,h,k=>by
   simp only[ah]at h;obtain⟨a,xs,bs,rfl,rfl,f,e2,r⟩:=h;obtain⟨ka,na⟩:=k a List.mem_cons_self;simp only[T.toD,Rep];refine⟨a,xs,rfl,.inl ⟨na,.inl ?_⟩,au.seen m r λb hb=>k b (List.mem_cons_of_mem _ hb)⟩;rcases ka with⟨z,_⟩|⟨ob,kvs,z,_⟩
   ·rw[z];exact e2
   ·rw[e2]at z;cases z
 | .m ks ts,v,as,h,k=>by
   simp only[ah]at h;obtain⟨a,xs,bs,rfl,rfl,f,e2,l,r⟩:=h;obtain⟨ka,na⟩:=k a List.mem_cons_self;simp only[T.toD,Rep];rcases ka with⟨_,ys,z⟩|⟨ob,kvs,z,z2⟩
   ·rw[e2]at z;cases z
   · rw[e2]at z;cases z
     exact⟨a,xs,rfl,.inl ⟨na,ob,z2⟩,l,au.seen m r λb hb=>k b (List.mem_cons_of_mem _ hb)⟩
 | .tu ts,v,as,h,k=>by
   simp only[ah]at h;obtain⟨a,xs,rfl,f,e2,r⟩:=h;simp only[T.toD,Rep];exact⟨a,xs,rfl,.inl ⟨(m _ _ f e2).1,.inl (m _ _ f e2).2⟩,au.seen m r k⟩
theorem au.seen(m:Mv F H F' H'):∀ {ts:List T} {xs:List V} {as:List Addr},au M H F ts xs as->(∀b∈as,gE H H' b/\¬F' b)->ag M H' F' (T.cQ ts) xs
 | [],xs,as,h,_=>by
   simp only[au]at h;rw[h.1];exact ag.nil
 | t::ts,xs,as,h,k=>by
   simp only[au]at h;obtain⟨x,r,bs,cs,rfl,rfl,h1,h2⟩:=h;exact ag.cons (ah.seen m h1 λb hb=>k b (List.mem_append_left _ hb)) (au.seen m h2 λb hb=>k b (List.mem_append_right _ hb))
end
theorem aV.zw{i:Nat}{t:T}{w:V}{d:D}(r:aV M H F σ ρ)(e1:ρ[i]? =some (.on (.tr t)))(e2:σ[i]? =some (some w))(tr:ah M H F t w as)(hH:∀b,b∉as->H' b=H b)(hF:∀b,F' b↔F b/\b∉as)(hd:Rep M H' F' d w):
   Mv F H F' H'/\aV M H' F' σ (ρ.set i (.sh d)):=by
 have fs:=tr.fs;have mv:Mv F H F' H':=λb o n e=>⟨λh=>n ((hF b).mp h).1,by rw[hH b λhb=>n (fs b hb).1];exact e⟩
 have ro:=r.on i _ e1;have Li:∀b∈as,bO M H F σ ρ i b:=λb hb=>⟨t,w,as,e1,e2,tr,hb⟩
 have keep:∀(j:Nat) b u,bp ρ j->σ[j]? =some (some (.ref b))->F b->H b=some u->F' b/\H' b=some u:=λj b u oj ej fb hu=>by
   have hb:b∉as:=λhb=>ro.2.1 b (Li b hb) j oj ej;exact⟨(hF b).mpr ⟨fb,hb⟩,by rw[hH b hb];exact hu⟩
 refine⟨mv,⟨by simp[r.len],λb h=>?_,λj e q=>?_,λj ds q=>?_,λj ks ds q=>?_,λj k b oj ok ej ek=>r.b4 j k b oj.d8.2 ok.d8.2 ej ek,?_⟩⟩
 · obtain⟨f,hb⟩:=(hF b).mp h
   obtain⟨o,e⟩:=r.aX b f;exact⟨o,by rw[hH b hb];exact e⟩
 · rcases get_set q with⟨rfl,hx,hl⟩|⟨C',q⟩
   · cases hx
     exact⟨_,e2,hd⟩
   · obtain⟨w,e1,g⟩:=r.sh j e q
     exact⟨w,e1,g.mv mv⟩
 · rcases get_set q with⟨rfl,x,hl⟩|⟨C',q⟩
   ·cases x
   · obtain⟨b,ys,e1,f,e3,g⟩:=r.ol j ds q
     obtain⟨f',e'⟩:=keep j b _ (.inl ⟨_,q⟩) e1 f e3;exact⟨b,ys,e1,f',e',g.mv mv⟩
 · rcases get_set q with⟨rfl,x,hl⟩|⟨C',q⟩
   ·cases x
   · obtain⟨b,ys,e1,f,e3,l,g⟩:=r.od j ks ds q
     obtain⟨f',e'⟩:=keep j b _ (.inr ⟨_,_,q⟩) e1 f e3;exact⟨b,ys,e1,f',e',l,g.mv mv⟩
 · have old:∀(j:Nat) x,(ρ.set i (.sh d))[j]? =some (.on x)->i≠j/\ρ[j]? =some (.on x):=λj x e=>by
     rcases get_set e with⟨_,z,_⟩|⟨C',e⟩
     ·cases z
     ·exact⟨C',e⟩
   refine r.on.mv mv (λj x e=>⟨(old j x e).2,rfl⟩) (λj x b u e hb f hu=>?_) λj x b e hb k ok=>(r.on j x (old j x e).2).2.1 b hb k ok.d8.2;obtain⟨t2,v2,NA,h2,_⟩:=id hb;have J1:b∉as:=λh=>ro.2.2 t rfl j t2 h2 (Ne.symm (old j x e).1) b (Li b h) hb;exact⟨(hF b).mpr ⟨f,J1⟩,by rw[hH b J1];exact hu⟩
theorem Gh(i:Nat){rest:List Stmt}{fs:List Sm}(h:cC X rest (aw fs)):cC X rest (aw (jk i::fs)):=λF0 pins s σ H D I ⟨ρ,F,fl,r,e,q⟩=>by
 obtain⟨f1,e1,e⟩:=av.mp e;unfold jk at e1;split at e1
 · rename_i t q1
   cases e1;obtain⟨⟨w,as,ew,tr,nd⟩,_,_⟩:=r.rs.on i _ q1;obtain⟨H1,I1,o1,k1⟩:=ah.frz I tr nd;have QS:=tr.fs;have TC:Mv F H (λb=>F b/\b∉as) H1:=λb o n e=>⟨λh=>n h.1,by rw[o1 b λhb=>n (QS b hb).1];exact e⟩
   obtain⟨mv,rs⟩:=r.rs.zw q1 ew tr o1 (F':=λb=>F b/\b∉as) (λ_=>Iff.rfl) (ah.seen TC tr λb hb=>⟨k1 b hb,λh=>h.2 hb⟩);have hG:∀b∈as,F0.g b=none:=λb hb=>r.dS i _ b q1 ⟨t,w,as,q1,ew,tr,hb⟩;refine h F0 pins s σ H1 D I1 ⟨_,_,fl,⟨rs,λb u hb=>?_,λb f=>⟨r.sub b f,λhb=>?_⟩,r.dk,λj b oj ej=>r.own j b oj.d8.2 ej,λj x b ex hb=>?_,r.pin.oC λ_ h=>nomatch h⟩,e,q.mv mv⟩
   ·rw[o1 b λKl=>by rw[hG b Kl]at hb;cases hb];exact r.sm b u hb
   · obtain⟨o,eo⟩:=r.dk b f
     rw[hG b hb]at eo;cases eo
   · rcases get_set ex with⟨_,z,_⟩|⟨C',ex⟩
     ·cases z
     · refine r.dS j x b ex (r.rs.on.back (λy hy=>?_) rfl (λa u ha f hu=>?_) (λa o n e=>(mv a o n e).2) hb)
       ·rw[List.getElem?_set_ne C']at hy;exact hy
       · obtain⟨t2,v2,NA,h2,_⟩:=id ha
         rw[o1 a λh=>(r.rs.on i _ q1).2.2 t rfl j t2 h2 (Ne.symm C') a ⟨t,w,as,q1,ew,tr,h⟩ ha];exact hu
 ·cases e1
theorem sX{i:Nat}{t:T}{w v:V}{p:List Nat}{vs:List D}(r:aV M H F σ ρ)(e1:ρ[i]? =some (.on (.tr t)))(e2:σ[i]? =some (some w))(h:aq H t w p (.l (vs.map .d)) v):∃a xs,v=.ref a/\F a/\H a=some (.lst xs)/\ag M H F vs xs/\ah M H F (.l (vs.map .d)) (.ref a) [a]:=by
 obtain⟨⟨w',as,ew,tr,nd⟩,_,_⟩:=r.on i _ e1;rw[e2]at ew;cases ew;obtain⟨bs,tp,_⟩:=aq.part tr h;have M5:=tp;simp only[ah]at tp;obtain⟨a,xs,cs,rfl,rfl,fa,ha,JR⟩:=tp;obtain⟨rfl,rs⟩:=gg.mp JR;exact⟨a,xs,rfl,fa,ha,rs,M5⟩
theorem DX (i:Nat) {o e:Expr} {f:Pt} {g:Ex} {apos A':Pos} (ho:JL X i o f) (he:JE X e g) (Jz:attributeBase o "append" X.env (eval o X.env)=eval o X.env)
   (J9:((backTo A' (starEach [e] X.env)).all (λx=> !x.1)&&(backToKw A' (keywordEach [] X.env)).all (λx=>x.1.isSome)
     &&decide (([e]:List Expr).length+([]:List Keyword).length+(if([]:List Keyword).isEmpty then 0 else 1)<30))=true)
   (JB:(apos.endLine==A'.line)=true) (hs:starEach [e] X.env=(false,eval e X.env)::starEach [] X.env)
   (KJ:swapsWith (.Call (.Attribute o "append" apos) [e] [] A') none pos.line X.env=pure false):
   JS X (.Expr (.Call (.Attribute o "append" apos) [e] [] A') pos) (i8 i f g):=λF0=>
 cm (L2.oG (L2.nQ PySem.F.plainAttrs_list PySem.F.slot_list_append PySem.F.type_list_append L2.rY ho (fm he fQ hs) Jz J9 JB hs) KJ) λD σ H ⟨ρ,F,fl,r,e,q⟩=>by
   obtain⟨p,ep,e⟩:=av.mp e;obtain⟨d,ed,e⟩:=av.mp e;split at e
   · rename_i t q1
     split at e
     · rename_i ts q2
       split at e
       · rename_i vs q3
         split at e
         · rename_i JC
           cases e;cases sr q3;obtain⟨⟨w,as,ew,tr,nd⟩,_,_⟩:=r.rs.on i _ q1;refine⟨ρ,F,t,w,p,_,r.rs,q1,ew,ep,q2,λv H1 s1 LI=>?_⟩;have r1:=r.same s1;obtain⟨a,xs,rfl,fa,ha,rs,tp⟩:=sX r1.rs q1 ew LI;refine⟨.inl ⟨rfl,xs,a8.of ha⟩,ρ,F,[d],r1.rs,by show(g ρ).bind _=_;rw[ed];rfl,λus H2 s2 rv=>?_⟩
           obtain⟨y,rfl,ry⟩:=rv.one;have r2:=r1.same s2;have at2:=LI.same r1.rs q1 ew s2;obtain⟨a',Ku,Q2,SD,MU,Le,M5⟩:=sX r2.rs q1 ew at2;cases Q2;have e9:Ku=xs:=by rw[s2 _ _ ha]at MU;injection MU with z;injection z with z;exact z.symm
           subst e9;refine⟨a,Ku,y,rfl,rfl,MU,by rw[<-rs.length];exact JC,?_⟩
           have Ni:∀o:HO,Mv F H2 F (upd H2 a o):=λo b u n e=>⟨n,by rw[L2.aE (λz=>by subst z;exact n fa)];exact e⟩
           obtain⟨mv,r'⟩:=r2.uU (n1:=.l ((vs++[d]).map .d)) (o:=.lst (Ku++[y])) q1 ew at2 M5 rfl rfl (by
             simp only[ah];exact⟨a,_,[],rfl,rfl,fa,L2.bf,gg.mpr ⟨rfl,(Le.append (ag.cons ry ag.nil)).mv (Ni _)⟩⟩)
           exact q _ _ _ (Mv.trans (.same (s1.trans s2)) mv) r'
         ·cases e
       ·cases e
     ·cases e
   ·cases e
end
section
variable{X:Cx}{M:Md}{G H H':Hp}{F0:Gf}{F F':Addr->Prop}{σ:L2.St}{ρ:En}{pos:Pos}{pins:List (Addr×Obj)}{s:Shared}
end
end PL
namespace PL
open PySem PySem.Spec
theorem kO{o b:Expr}{p:Pos}{a:Str}{env:Env}{w:Sem Value}:attributeBase (.Subscript o b p) a env w=w:=rfl
end PL
namespace PL
open PySem PySem.Spec
open L2 (V Hp HO Cx PE PT PW PA PS bQ PG cH VK TE TT TA TS TI TG Inv RelV Vals Rd a8 bo upd ak Key XK Ends aZ c9 bE R2 EP It Turn cq Un)
noncomputable def nI(f:Xt):Sm:=λρ=>(f ρ).bind λt=>.ok (.dD t)
noncomputable def jl(i:Nat):Sm:=λρ=>match ρ[i]? with
 |some (.on (.tr t))=>.ok (.dD t)
 |_=>.bad
noncomputable def gi(n:Nat)(body:Sm):List D->R T:=λds=>(body (ds.map .sh++List.replicate (n - ds.length) .un)).bind λf=>match f with
 |.dD t=>.ok t
 |_=>.bad
noncomputable def spT(M:Md)(m:List D->R T)(n:Nat):L2.Sp:=λvs H Q _=>∃F ds t,(∀p,F p->∃o,H p=some o)/\ag M H F ds vs/\ds.length=n/\m ds=.ok t/\∀v H' F' as,ak H H'->(∀b∈as,H b=none)->as.Nodup->(∀b,F' b↔F b\/b∈as)->ah M H' F' t v as->Q v H'
noncomputable def eU(m:List D->R T)(fs:List Ex):Xt:=λρ=>(eList fs ρ).bind m
noncomputable def eX(f:Xt):Ex:=λρ=>(f ρ).bind λt=>.ok (T.toD t)
section
variable{X:Cx}{M:Md}{G H H':Hp}{F0:Gf}{F F':Addr->Prop}{σ:L2.St}{ρ:En}{pos:Pos}{pins:List (Addr×Obj)}{s:Shared}{as:List Addr}
theorem AK{a:Expr}{f:Xt}(ha:JX X a f):JS X (.Return (some a) pos) (nI f):=λF0=>
 cm (L2.jZ ha) λD σ H ⟨ρ,F,fl,r,e,q⟩=>by
   obtain⟨t,et,e⟩:=av.mp e;cases e;exact⟨ρ,F,t,r.rs,et,λv H1 F1 as s1 hn nd hF tr=>q v H1 F F1 as (.same s1) (r.sm.trans s1) r.sub (λb hb=>r.sm.free (hn b hb)) nd hF tr⟩
theorem AD(i:Nat){x:Str}{p2:Pos}(hN:X.N[i]? =some x:=by rfl)(hv:L2.cf X.env.scope x:=by first|exact Or.inl rfl|exact Or.inr (Or.inl rfl)|exact Or.inr (Or.inr rfl))(hd:(x==("__debug__":Str))=false:=by decide)
   (Jx:(x==("__classdict__":Str))=false:=by decide):JS X (.Return (some (.Name x p2)) pos) (jl i):=λF0=>
 cm (L2.jZ (L2.pv i hN hv hd Jx)) λD σ H ⟨ρ,F,fl,r,e,q⟩=>by
   unfold jl at e;split at e
   · rename_i t q1
     cases e;obtain⟨⟨w,as,ew,tr,nd⟩,_,_⟩:=r.rs.on i _ q1;have hG:∀b∈as,F0.g b=none:=λb hb=>r.dS i _ b q1 ⟨t,w,as,q1,ew,tr,hb⟩;have fs:=tr.fs;refine⟨w,ew,q w H (λb=>F b/\b∉as) F as (λb o n e=>⟨λh=>n h.1,e⟩) r.sm (λb f=>⟨r.sub b f,λhb=>?_⟩) hG nd (λb=>?_) tr⟩
     · obtain⟨o,e⟩:=r.dk b f
       rw[hG b hb]at e;cases e
     · by_cases hb:b∈as
       ·exact⟨λ_=>.inr hb,λ_=>(fs b hb).1⟩
       ·exact⟨λf=>.inl ⟨f,hb⟩,λh=>h.elim And.left λh=>absurd h hb⟩
   ·cases e
theorem FE{N:List Str}{n:Nat}{body:Sm}{vs:List V}{Q:VK}{E:XK}{t:TS}(ht:∀(F0:Gf) D σ H,de M F0.g F0 body D σ H->t D σ H)(h:spT M (gi N.length body) n vs G Q E)(hn:n<=N.length):t {nx:=λ_ H'=>Q .aD H',rt:=Q} (L2.start N vs) G:=by
 obtain⟨F,ds,t',tr,rs,hl,e,q⟩:=h;obtain⟨f,ef,e⟩:=av.mp e;refine ht ⟨G,F,none⟩ _ _ _ ⟨_,F,f,qE tr rs hl hn,ef,?_⟩;cases f with
 | dD t1=>
   cases e;exact λv H' F1 F2 as mv sm sub hG nd hF tr=>q v H' (λb=>F b\/b∈as) as sm hG nd (λ_=>Iff.rfl) (ah.less (λb f=>(hF b).mpr (f.imp (sub b) id)) (λb hb=>.inr hb) tr)
 |_=>cases e
structure eR(P:Program)(w:World)(K:PySem.W.Frag)(mg:Str->Option Value)(base:Heap)(x:Str)(k n:Nat)(m:List D->R T):Prop where
 ex:∃f fd ps,L2.d3 P w K mg base L2.cI k f fd ps (spT ⟨K,P,w⟩ m n)/\L2.Binds K fd ps []/\PySem.W.keepIn K (.ref f)=true/\mg x=some (.ref f)
theorem Eh{P:Program}{w:World}{K:PySem.W.Frag}{mg:Str->Option Value}{base:Heap}{x qual:Str}{st:Stmt}{f:Addr}{fd:FuncData}{N ps:List Str}{k n:Nat}{body:Sm}(Fu:L2.eW K x qual st f fd)(hm:mg x=some (.ref f))(S:L2.bG N ps (L2.aS st))(hb:L2.Binds K fd ps [])
   (h:∀(Jq:Value) (A:Around) (outer:List Env) (s:Shared) (H:Hp) (E:XK),L2.bC k (A.deeper (PyProof.Rows.envOfC qual (L2.aS st) s.heap.objs.size f Jq))->cC (L2.e6 L2.cI P w K mg base N qual (L2.aS st) f Jq A outer s H E).fT (L2.dY st) body)
   (hn:ps.length=n:=by rfl):eR P w K mg base x (k+1) n (gi N.length body):=by
 refine⟨f,fd,ps,Fu.ok S (λvs H Q E h=>?_) (λJq A outer s H vs Q E hr Lg=>?_),hb,Fu.kp,hm⟩
 · obtain⟨F,ds,d,_,rs,hl,_⟩:=h
   rw[<-rs.length,hl,hn]
 · refine⟨λD σ H'=>∃F0:Gf,de ⟨K,P,w⟩ F0.g F0 body D σ H',λpins s' σ H' D I ⟨F0,q⟩=>h Jq A outer s H E hr F0 pins s' σ H' D I q,?_⟩
   refine FE (G:=H) (t:=λD σ H'=>∃F0:Gf,de ⟨K,P,w⟩ F0.g F0 body D σ H') (λF0 D σ H' h=>⟨F0,h⟩) Lg ?_;have:=congrArg List.length S.pre;rw[List.length_take]at this;omega
theorem HJ{m:List D->R T}{n:Nat}{fs:List Ex}{Q:VK}{E:XK}(hn:fs.length=n)(h:pV M (eU m fs) σ H Q):L2.om (spT M m n) [] E (jP M (eList fs)) σ H Q:=by
 obtain⟨ρ,F,t,hr,e,q⟩:=h;obtain⟨ds,MM,e⟩:=av.mp e;refine⟨ρ,F,ds,hr,MM,λvs H1 s1 rs=>?_⟩;show spT M m n (vs++[]) H1 Q E;rw[List.append_nil];exact⟨F,ds,t,(hr.same s1).aX,rs,by rw[iM MM];exact hn,e,λv H2 F2 as s2 hn nd hF tr=>q v H2 F2 as (s1.trans s2) (λb hb=>s1.free (hn b hb)) nd hF tr⟩
theorem EK{x:Str}{k j n:Nat}{m:List D->R T}{e:Expr}{es:List Expr}{fs:List Ex}{p:Pos}(d:eR X.prog X.w X.K X.mg X.base x k n m)(hr:L2.bC j X.A)(hg:L2.Gl X x)(ha:JA X (e::es) (eList fs))(hk:k<=j:=by decide)(hn:fs.length=n:=by rfl)
   (Kf:(x==("__debug__":Str))=false:=by decide) (he:starEach (e::es) X.env=(false,eval e X.env)::starEach es X.env:=by rfl) (JV:(backTo pos (starEach es X.env)).any (·.1)=false:=by rfl):JX X (.Call (.Name x p) (e::es) [] pos) (eU m fs):=by
 obtain⟨f,fd,ps,h1,h2,h3,h4⟩:=d.ex;exact bz (L2.mW h1 (hr.mono hk) hg h4 h3 h2 .nil L2.nz ha Kf he JV) λσ H Q h=>HJ hn h
theorem EU{e:Expr}{f:Xt}(h:JX X e f):JE X e (eX f):=by
 intro pins s σ H Q I ⟨ρ,F,d,hr,e,q⟩;obtain⟨t,et,e⟩:=av.mp e;cases e;refine L2.aJ (h pins s σ H (λv H'=>∃F' as,ak H H'/\(∀b∈as,H b=none)/\as.Nodup/\(∀b,F' b↔F b\/b∈as)/\ah (aB X) H' F' t v as) I ⟨ρ,F,t,hr,et,λv H' F' as a b c d e=>⟨F',as,a,b,c,d,e⟩⟩) λu s1 ⟨v,H1,I1,rv,F1,as,sm,hn,nd,hF,tr⟩=>?_;obtain⟨H2,I2,o2,k2⟩:=ah.frz I1 tr nd;have fs:=tr.fs;have nF:∀b∈as,¬F b:=λb hb f=>by obtain⟨o,e⟩:=hr.aX b f;rw[hn b hb]at e;cases e
 refine⟨v,H2,I2,rv,q v H2 (λb o e=>?_) (ah.seen (λb o n e=>⟨λf=>n ((hF b).mpr (.inl f)),?_⟩) tr λb hb=>⟨k2 b hb,nF b hb⟩)⟩
 ·rw[o2 b λhb=>by rw[hn b hb]at e;cases e];exact sm _ _ e
 ·rw[o2 b λhb=>n ((hF b).mpr (.inr hb))];exact e
end
noncomputable def o9(i:Nat)(t:T):Slot->Slot
 | .on (.al k p)=>if k=i then(match T.at t p with
   |some t1=>.sh (T.toD t1)
   |none=>.un)else .un
 |s=>s
noncomputable def dw(i:Nat)(t:T)(ρ:En):En:=(ρ.map (o9 i t)).set i (.sh (T.toD t))
noncomputable def Jc(i:Nat)(f:Ex):Ex:=λρ=>match ρ[i]? with
 |some (.on (.tr t))=>(f (dw i t ρ)).bind λd=>if iN d=true then .ok d else .bad
 |_=>.bad
noncomputable def d9(i:Nat)(f:aL):aL:=λρ=>match ρ[i]? with
 |some (.on (.tr t))=>f (dw i t ρ)
 |_=>.bad
noncomputable def dW(i:Nat)(f:Ex):Ex:=λρ=>match ρ[i]? with
 | some (.on (.tr t))=>(f (dw i t ρ)).bind λd=>match d with
   |.lst ds=>if f7 ds=true then .ok (.lst ds)else .bad
   |_=>.bad
 |_=>.bad
section
variable{X:Cx}{M:Md}{G H H':Hp}{F0:Gf}{F F':Addr->Prop}{σ:L2.St}{ρ:En}{pos:Pos}{pins:List (Addr×Obj)}{s:Shared}{as:List Addr}
theorem vY(I0:Inv X pins σ H s):∀ {as:List Addr} {H1:Hp} {s1:Shared},Inv X pins σ H1 s1->(∀b∈as,H1 b=H b\/∃ob kvs,H b=some (.dK kvs)/\H1 b=some (.frz ob (.dK kvs)))->as.Nodup->∃H2,Inv X pins σ H2 s1/\(∀b∈as,H2 b=H b)/\∀b,b∉as->H2 b=H1 b
 |[],H1,s1,I1,_,_=>⟨H1,I1,(λ_ hb=>nomatch hb),λ_ _=>rfl⟩
 | a::as,H1,s1,I1,k,nd=>by
   have Jv:=List.nodup_cons.mp nd;obtain⟨H2,I2,k2,o2⟩:=vY I0 I1 (λb hb=>k b (List.mem_cons_of_mem _ hb)) Jv.2;have ea:H2 a=H1 a:=o2 a Jv.1;rcases k a List.mem_cons_self with h|⟨ob,kvs,h1,h2⟩
   · refine⟨H2,I2,λb hb=>?_,λb hb=>o2 b λKl=>hb (List.mem_cons_of_mem _ Kl)⟩
     rcases List.mem_cons.mp hb with rfl|hb
     ·rw[ea];exact h
     ·exact k2 b hb
   · refine⟨_,Gu I0 h1 I2 (by rw[ea];exact h2),λb hb=>?_,λb hb=>?_⟩
     · by_cases Ls:b=a
       ·subst Ls;rw[L2.bf,h1]
       · rw[L2.aE Ls]
         exact k2 b ((List.mem_cons.mp hb).resolve_left Ls)
     · have Ls:b≠a:=λz=>by subst z;exact hb List.mem_cons_self
       rw[L2.aE Ls];exact o2 b λKl=>hb (List.mem_cons_of_mem _ Kl)
theorem aV.dw{i:Nat}{t:T}{w:V}(r:aV M H F σ ρ)(e1:ρ[i]? =some (.on (.tr t)))(e2:σ[i]? =some (some w))(tr:ah M H F t w as)(hH:∀b,b∉as->H' b=H b)(hz:∀b∈as,gE H H' b):
   Mv F H (λb=>F b/\b∉as) H'/\aV M H' (λb=>F b/\b∉as) σ (PL.dw i t ρ):=by
 have fs:=tr.fs;have mv:Mv F H (λb=>F b/\b∉as) H':=λb o n e=>⟨λh=>n h.1,by rw[hH b λhb=>n (fs b hb).1];exact e⟩
 have ro:=r.on i _ e1;have Li:∀b∈as,bO M H F σ ρ i b:=λb hb=>⟨t,w,as,e1,e2,tr,hb⟩
 have keep:∀(j:Nat) b u,bp ρ j->σ[j]? =some (some (.ref b))->F b->H b=some u->(F b/\b∉as)/\H' b=some u:=λj b u oj ej fb hu=>by
   have hb:b∉as:=λhb=>ro.2.1 b (Li b hb) j oj ej;exact⟨⟨fb,hb⟩,by rw[hH b hb];exact hu⟩
 have root:Rep M H' (λb=>F b/\b∉as) (T.toD t) w:=ah.seen mv tr λb hb=>⟨hz b hb,λh=>h.2 hb⟩
 have get:∀(j:Nat) s,(PL.dw i t ρ)[j]? =some s->(j=i/\s=.sh (T.toD t))\/(j≠i/\∃z,ρ[j]? =some z/\o9 i t z=s):=λj s h=>by
   unfold PL.dw at h;rcases get_set h with⟨h1,h2,_⟩|⟨C',h⟩
   ·exact .inl ⟨h1.symm,h2.symm⟩
   · rw[List.getElem?_map]at h
     cases e:ρ[j]? with
     |none=>rw[e]at h;cases h
     |some z=>rw[e]at h;exact .inr ⟨Ne.symm C',z,rfl,by simpa using h⟩
 have same:∀ {z s:Slot},o9 i t z=s->(s=z/\∀k p,z≠.on (.al k p))\/s=.un\/∃p t1,z=.on (.al i p)/\T.at t p=some t1/\s=.sh (T.toD t1):=λ{z s} h=>by
   unfold o9 at h;split at h
   · rename_i k p
     by_cases hk:k=i
     · subst hk
       rw[if_pos rfl]at h;split at h
       · rename_i t1 h1
         exact .inr (.inr ⟨p,t1,rfl,h1,h.symm⟩)
       ·exact .inr (.inl h.symm)
     ·rw[if_neg hk]at h;exact .inr (.inl h.symm)
   · rename_i C'
     exact .inl ⟨h.symm,λk p z=>C' k p z⟩
 have owned:∀j,bp (PL.dw i t ρ) j->bp ρ j:=λj h=>by
   rcases h with⟨ds,h⟩|⟨ks,ds,h⟩
   · rcases get j _ h with⟨_,z⟩|⟨_,z,KO,K3⟩
     ·cases z
     · rcases same K3 with⟨z1,_⟩|z1|⟨_,_,_,_,z1⟩
       ·subst z1;exact .inl ⟨_,KO⟩
       ·cases z1
       ·cases z1
   · rcases get j _ h with⟨_,z⟩|⟨_,z,KO,K3⟩
     ·cases z
     · rcases same K3 with⟨z1,_⟩|z1|⟨_,_,_,_,z1⟩
       ·subst z1;exact .inr ⟨_,_,KO⟩
       ·cases z1
       ·cases z1
 have on:∀(j:Nat) x,(PL.dw i t ρ)[j]? =some (.on x)->j≠i/\ρ[j]? =some (.on x):=λj x h=>by
   rcases get j _ h with⟨_,z⟩|⟨hj,z,KO,K3⟩
   ·cases z
   · rcases same K3 with⟨z1,_⟩|z1|⟨_,_,_,_,z1⟩
     ·subst z1;exact⟨hj,KO⟩
     ·cases z1
     ·cases z1
 refine⟨mv,⟨by unfold PL.dw;simp[r.len],λb h=>?_,λj d h=>?_,λj ds h=>?_,λj ks ds h=>?_,λj k b oj ok ej ek=>r.b4 j k b (owned j oj) (owned k ok) ej ek,r.on.mv mv (λj x h=>⟨(on j x h).2,rfl⟩) (λj x b u h hb f hu=>?_) λj x b h hb k ok=>(r.on j x (on j x h).2).2.1 b hb k (owned k ok)⟩⟩
 · obtain⟨o,e⟩:=r.aX b h.1
   exact⟨o,by rw[hH b h.2];exact e⟩
 · rcases get j _ h with⟨rfl,z⟩|⟨_,z,KO,K3⟩
   ·cases z;exact⟨w,e2,root⟩
   · rcases same K3 with⟨z1,_⟩|z1|⟨p,t1,z1,JQ,z2⟩
     · subst z1
       obtain⟨v,ev,rv⟩:=r.sh j d KO;exact⟨v,ev,rv.mv mv⟩
     ·cases z1
     · subst z1
       cases z2;obtain⟨v0,w1,t2,a1,a2,a3,_⟩:=(r.on j _ KO).1 t e1;rw[e2]at a1;cases a1;have:=a3.oY;rw[JQ]at this;cases this;obtain⟨bs,tp,sub⟩:=aq.part tr a3;exact⟨w1,a2,ah.seen mv tp λb hb=>⟨hz b (sub.subset hb),λh=>h.2 (sub.subset hb)⟩⟩
 · rcases get j _ h with⟨_,z⟩|⟨_,z,KO,K3⟩
   ·cases z
   · rcases same K3 with⟨z1,_⟩|z1|⟨_,_,_,_,z1⟩
     · subst z1
       obtain⟨b,ys,e3,f,e4,g⟩:=r.ol j ds KO;obtain⟨f',e'⟩:=keep j b _ (.inl ⟨_,KO⟩) e3 f e4;exact⟨b,ys,e3,f',e',g.mv mv⟩
     ·cases z1
     ·cases z1
 · rcases get j _ h with⟨_,z⟩|⟨_,z,KO,K3⟩
   ·cases z
   · rcases same K3 with⟨z1,_⟩|z1|⟨_,_,_,_,z1⟩
     · subst z1
       obtain⟨b,ys,e3,f,e4,l,g⟩:=r.od j ks ds KO;obtain⟨f',e'⟩:=keep j b _ (.inr ⟨_,_,KO⟩) e3 f e4;exact⟨b,ys,e3,f',e',l,g.mv mv⟩
     ·cases z1
     ·cases z1
 · obtain⟨t2,v2,NA,h2,_⟩:=id hb
   have J1:b∉as:=λh9=>ro.2.2 t rfl j t2 h2 (on j x h).1 b (Li b h9) hb;exact⟨⟨f,J1⟩,by rw[hH b J1];exact hu⟩
theorem vf{H1:Hp}{s1:Shared}(I:Inv X pins σ H s)(nd:as.Nodup)(hH:∀b,b∉as->H' b=H b)(hz:∀b∈as,gE H H' b)(I1:Inv X pins σ H1 s1)(sm:ak H' H1):
   ∃H2,Inv X pins σ H2 s1/\ak H H2/\(∀b,b∉as->H2 b=H1 b)/\(∀b∈as,H2 b=H b)/\(∀b∈as,∃u,H1 b=some u)/\∀a xs,dI M H1 (λb=>F b/\b∉as) a xs->dI M H2 F a xs:=by
 have k1:∀b∈as,(H1 b=H b/\∃xs,H b=some (.lst xs))\/∃ob kvs,H b=some (.dK kvs)/\H1 b=some (.frz ob (.dK kvs)):=λb hb=>by
   rcases hz b hb with⟨h1,xs,h2⟩|⟨ob,kvs,h1,h2⟩
   ·exact .inl ⟨by rw[h2]at h1 ⊢;exact sm _ _ h1,xs,h2⟩
   ·exact .inr ⟨ob,kvs,h1,sm _ _ h2⟩
 obtain⟨H2,I2,a2,o2⟩:=vY I I1 (λb hb=>(k1 b hb).imp And.left id) nd;refine⟨H2,I2,λb o e=>?_,o2,a2,λb hb=>?_,λa xs h=>?_⟩
 · by_cases hb:b∈as
   ·rw[a2 b hb];exact e
   ·rw[o2 b hb];exact sm _ _ (by rw[hH b hb];exact e)
 · rcases k1 b hb with⟨h1,xs,h2⟩|⟨ob,kvs,h1,h2⟩
   ·exact⟨_,h1.trans h2⟩
   ·exact⟨_,h2⟩
 · rcases h with⟨n,h⟩|h
   · have ha:a∉as:=λha=>by
       rcases k1 a ha with⟨h1,ys,h2⟩|⟨ob,kvs,h1,h2⟩
       · rcases h with h|⟨o,h⟩
         ·rw[h1,h2]at h;cases h
         ·rw[h1,h2]at h;cases h
       · rcases h with h|⟨o,h⟩
         ·rw[h2]at h;cases h
         ·rw[h2]at h;cases h
     refine .inl ⟨λf=>n ⟨f,ha⟩,?_⟩;rcases h with h|⟨o,h⟩
     ·exact .inl (by rw[o2 a ha];exact h)
     ·exact .inr ⟨o,by rw[o2 a ha];exact h⟩
   ·exact .inr h
theorem FN(i:Nat){e:Expr}{f:aL}(h:JT X e f):JT X e (d9 i f):=by
 intro pins s σ H Q I ⟨ρ,F,d,hr,e,q⟩;unfold d9 at e;split at e
 · rename_i t q1
   obtain⟨⟨w,as,ew,tr,nd⟩,_,_⟩:=hr.on i _ q1;obtain⟨H',I',hH,hz⟩:=ah.frz I tr nd;obtain⟨mv,rs⟩:=hr.dw q1 ew tr hH hz;refine L2.aJ (h pins s σ _ (λb H1=>b=d/\ak H' H1) I' ⟨_,_,_,rs,e,λH1 s1=>⟨rfl,s1⟩⟩) λb s1 ⟨H1,I1,hb,sm⟩=>?_;subst hb;obtain⟨H2,I2,s2,_,_,_,tp⟩:=vf (M:=aB X) (F:=F) I nd hH hz I1 sm;exact⟨H2,I2,q _ s2⟩
 ·cases e
theorem EW (i:Nat) {e:Expr} {f:Ex} (h:JF X e f):JF X e (dW i f):=by
 intro pins s σ H Q I ⟨ρ,F,ds,hr,e,q⟩;unfold dW at e;split at e
 · rename_i t q1
   obtain⟨d',ed,e⟩:=av.mp e;split at e
   · rename_i OW
     by_cases hf:PL.f7 OW=true
     · rw[if_pos hf]at e
       cases e;obtain⟨⟨w,as,ew,tr,nd⟩,_,_⟩:=hr.on i _ q1;obtain⟨H',I',hH,hz⟩:=ah.frz I tr nd;obtain⟨mv,rs⟩:=hr.dw q1 ew tr hH hz;refine L2.aJ (h pins s σ _ (λv H9=>∃p H1 xs,v=.ref p/\H9=upd H1 p (.lst xs)/\ak H' H1/\H1 p=none/\ag (aB X) H1 (λb=>F b/\b∉as) ds xs) I' ⟨_,_,_,rs,ed,λp H1 xs s1 hp rv=>⟨p,H1,xs,rfl,rfl,s1,hp,rv⟩⟩) λu s1 ⟨x,H9,I1,rx,p,H1,xs,ex,eH,sm,hp,rv⟩=>?_;subst ex eH;obtain⟨H2,I2,s2,o2,a2,t2,tp⟩:=vf (M:=aB X) (F:=F) I nd hH hz I1 (sm.trans (ak.bR hp _))
       have LU:p∉as:=λhb=>by
         rcases hz p hb with⟨h1,ys,h2⟩|⟨ob,kvs,h1,h2⟩
         ·rw[sm _ _ (h1.trans h2)]at hp;cases hp
         ·rw[sm _ _ h2]at hp;cases hp
       have e2:H2=upd (λb=>if b=p then none else H2 b) p (.lst xs):=by
         funext b;unfold upd;by_cases hb:b=p
         ·simp only[if_pos hb];rw[hb,o2 p LU,L2.bf]
         ·simp only[if_neg hb]
       rw[e2]at I2;refine⟨.ref p,_,I2,rx,q p _ xs (λb o e=>?_) (by simp) (ag.kf (λa ys ht=>?_) hf (rv.mv (F':=λb=>F b/\b∉as) (.same (ak.bR hp (.lst xs)))))⟩
       · have hb:b≠p:=λz=>by subst z;have:=hH b LU;rw[e]at this;rw[sm _ _ this]at hp;cases hp
         simp only[if_neg hb];exact s2 _ _ e
       · have NI:=tp a ys ht
         have Qd:¬F a->Rd H2 a (.tup ys)->Rd (λb=>if b=p then none else H2 b) a (.tup ys):=λn h=>by
           have ha:a≠p:=λz=>by
             subst z;rw[e2]at h;rcases h with h|⟨o,h⟩
             ·rw[L2.bf]at h;cases h
             ·rw[L2.bf]at h;cases h
           rcases h with h|⟨o,h⟩
           ·exact .inl (by simp only[if_neg ha];exact h)
           ·exact .inr ⟨o,by simp only[if_neg ha];exact h⟩
         rcases NI with⟨n,h⟩|h
         ·exact .inl ⟨n,Qd n h⟩
         ·exact .inr h
     ·rw[if_neg hf]at e;cases e
   ·cases e
 ·cases e
end
noncomputable def gZ(z:Ky):List Ky->Option Nat
 |[]=>none
 |a::ks=>if a=z then some 0 else(gZ z ks).map (· +1)
noncomputable def stepT:T->D->Option Nat
 |.l ts,.int k=>bJ ts.length k
 |.tu ts,.int k=>bJ ts.length k
 | .m ks _,x=>match keyOf x with
   |some z=>gZ z ks
   |none=>none
 |_,_=>none
noncomputable def pX(i:Nat)(f:Pt)(e:Ex):Pt:=λρ=>(f ρ).bind λp=>(e ρ).bind λx=>match ρ[i]? with
 | some (.on (.tr t))=>match T.at t p with
   | some n=>match stepT n x with
     |some m=>.ok (p++[m])
     |none=>.bad
   |none=>.bad
 |_=>.bad
noncomputable def iz(z:Ky)(u:T)(ks:List Ky)(ts:List T):List Ky×List T:=if(ks.any λa=>decide (a=z))=true then(ks,List.zipWith (λa t=>if a=z then u else t) ks ts)else(ks++[z],ts++[u])
noncomputable def fo(i:Nat)(f:Pt)(k e:Ex):Sm:=λρ=>(e ρ).bind λd=>(f ρ).bind λp=>(k ρ).bind λq=>match ρ[i]?,keyOf q with
 | some (.on (.tr t)),some z=>match T.at t p with
   |some (.m ks ts)=>if ks.length<1000 then .ok (.next ((dQ i p ρ).set i (.on (.tr (T.put (.m (iz z (.d d) ks ts).1 (iz z (.d d) ks ts).2) t p)))))else .bad
   |_=>.bad
 |_,_=>.bad
section
variable{X:Cx}{M:Md}{G H H':Hp}{F0:Gf}{F F':Addr->Prop}{σ:L2.St}{ρ:En}{pos:Pos}{pins:List (Addr×Obj)}{s:Shared}{as:List Addr}
def zC:R2:=λx y H Q=>∃p kvs k v,x=.ref p/\y=L2.kV k/\Rd H p (.dK kvs)/\L2.c8 kvs k=some v/\Q v H
theorem G9:L2.fB X (λx y H Q=>L2.oE X.K x y H Q\/zC x y H Q):=by
 refine L2.fB.or L2.uT ?_;intro value slice pins s σ H x y v u Q I rx ry h hs;obtain⟨p,kvs,k,w,rfl,rfl,hd,hv,q⟩:=h;cases rx;obtain⟨z,LC,vs,rel,dd⟩:=L2.qS I.aH hd;have r:=L2.KV.val rel k;rw[hv]at r;obtain⟨w',hw,Km⟩:=L2.fj.some_of r;exact PyProof.Rows.tail_any dd.typeIs PySem.F.slot_dict_getitem.lookup (wpAny_getItem_of (L2.jn ry) dd.mapOf hw ⟨w,H,I.tok _,Km,q⟩) hs
theorem uF{z:Ky}:∀ {ks:List Ky} {xs:List V} {m:Nat},ks.length=xs.length->gZ z ks=some m->∃x,xs[m]? =some x/\L2.c8 (ks.zip xs) z=some x
 |[],_,_,_,h=>by cases h
 |a::ks,[],_,l,_=>by simp at l
 | a::ks,x::xs,m,l,h=>by
   unfold gZ at h;unfold L2.c8;rw[List.zip_cons_cons,List.find?_cons];by_cases hz:a=z
   · rw[if_pos hz]at h
     cases h;exact⟨x,rfl,by simp[hz]⟩
   · rw[if_neg hz]at h
     cases e:gZ z ks with
     |none=>rw[e]at h;cases h
     | some j=>
       rw[e]at h;cases h;obtain⟨y,h1,h2⟩:=uF (xs:=xs) (by simpa using l) e
       refine⟨y,by simpa using h1,?_⟩
       simp only[decide_eq_false hz];exact h2
theorem FI{i:Nat}{a b:Expr}{f:Pt}{fb:Ex}(ha:JL X i a f)(hb:JE X b fb)(hs:L2.jT b:=by exact λ_ _=>rfl):JL X i (.Subscript a b pos) (pX i f fb):=
 bz (L2.wR G9 ha hb hs) λσ H Q ⟨ρ,F,t,w,p',t1,r,e1,e2,ef,Oq,q⟩=>by
   obtain⟨p,ep,ef⟩:=av.mp ef;obtain⟨x,ex,ef⟩:=av.mp ef;rw[e1]at ef;have ef:(match T.at t p with|some n=>(match stepT n x with|some m=>R.ok (p++[m])|none=>.bad)|none=>.bad)=.ok p':=ef
   cases JQ:T.at t p with
   |none=>rw[JQ]at ef;cases ef
   | some n=>
     rw[JQ]at ef;have ef:(match stepT n x with|some m=>R.ok (p++[m])|none=>.bad)=.ok p':=ef
     cases hm:stepT n x with
     |none=>rw[hm]at ef;cases ef
     | some m=>
       rw[hm]at ef;cases ef;refine⟨ρ,F,t,w,p,n,r,e1,e2,ep,JQ,λv H1 s1 LI=>⟨ρ,F,x,r.same s1,ex,λy H2 s2 ry=>?_⟩⟩;have r2:=(r.same s1).same s2;obtain⟨⟨w',as,ew,tr,nd⟩,_,_⟩:=r2.on i _ e1;rw[e2]at ew;cases ew;have at2:=LI.same (r.same s1) e1 e2 s2;obtain⟨bs,tp,_⟩:=aq.part tr at2;have h1:=Oq;rw[T.oq JQ]at h1;cases n with
       |d _=>cases x<;>cases hm
       | l ts=>
         cases x with
         | int k=>
           simp only[ah]at tp;obtain⟨a,xs,cs,rfl,rfl,fa,ha,JR⟩:=tp;rw[T.AN]at h1;have hlen:=JR.len
           have hx:∃x1,xs[m]? =some x1:=by
             obtain⟨hl,_⟩:=List.getElem?_eq_some_iff.mp h1;exact⟨xs[m]'(by omega),List.getElem?_eq_getElem (by omega)⟩
           obtain⟨x1,hx⟩:=hx;have hm:bJ ts.length k=some m:=hm;have h3:bY xs k=some x1:=by unfold bY;rw[<-hlen,hm];exact hx
           exact .inl (.inl ⟨a,xs,k,x1,rfl,br ry,a8.of ha,h3,q x1 H2 (s1.trans s2) (aq.snoc (aq.Ac ha h1 hx) at2)⟩)
         |_=>cases hm
       | tu ts=>
         cases x with
         | int k=>
           simp only[ah]at tp;obtain⟨a,xs,rfl,fa,ha,JR⟩:=tp
           have h1:ts[m]? =some t1:=by
             unfold T.at at h1;cases e:ts[m]? with
             |none=>rw[e]at h1;cases h1
             |some u=>rw[e]at h1;cases u<;>exact h1
           have hlen:=JR.len
           have hx:∃x1,xs[m]? =some x1:=by
             obtain⟨hl,_⟩:=List.getElem?_eq_some_iff.mp h1;exact⟨xs[m]'(by omega),List.getElem?_eq_getElem (by omega)⟩
           obtain⟨x1,hx⟩:=hx;have hm:bJ ts.length k=some m:=hm;have h3:bY xs k=some x1:=by unfold bY;rw[<-hlen,hm];exact hx
           exact .inl (.inr (.inl ⟨a,xs,k,x1,rfl,br ry,.inl (.inl ha),h3,q x1 H2 (s1.trans s2) (aq.snoc (aq.C9 ha h1 hx) at2)⟩))
         |_=>cases hm
       | m ks ts=>
         have hm:(match keyOf x with|some z=>gZ z ks|none=>none)=some m:=by cases x<;>exact hm
         cases hz:keyOf x with
         |none=>rw[hz]at hm;cases hm
         | some z=>
           rw[hz]at hm;have hm:gZ z ks=some m:=hm;simp only[ah]at tp;obtain⟨a,xs,cs,rfl,rfl,fa,ha,hl,JR⟩:=tp
           have h1:ts[m]? =some t1:=by
             unfold T.at at h1;cases e:ts[m]? with
             |none=>rw[e]at h1;cases h1
             |some u=>rw[e]at h1;cases u<;>exact h1
           obtain⟨x1,hx,hv⟩:=uF hl hm;exact .inr ⟨a,_,z,x1,rfl,iB hz ry,.inl ha,hv,q x1 H2 (s1.trans s2) (aq.snoc (aq.Cp ha hl h1 hx) at2)⟩
theorem en.of{n0 n1:T}{c:Addr}{cs Kt:List Addr}{o:HO}(h0:ah M H F n0 (.ref c) (c::cs))(nd:(c::cs).Nodup)(sub:Kt.Sublist cs)(h1:ah M (upd H c o) F n1 (.ref c) (c::Kt)):en M H (upd H c o) F F c n0 n1 (c::cs) (c::Kt):=
 have s2:(c::Kt).Sublist (c::cs):=List.Sublist.cons₂ c sub
 ⟨h0,List.mem_cons_self,h1,nd.sublist s2,λb u n e=>by rw[L2.aE n];exact e,λb=>⟨.inl,λh=>h.elim id λhb=>(h0.fs b (s2.subset hb)).1⟩,λb hb=>.inl (s2.subset hb)⟩
theorem au.xA{d:D}{v:V}{z:Ky}(rd:Rep M H F d v):∀ {ks:List Ky} {ts:List T} {xs:List V} {as:List Addr},au M H F ts xs as->∃as',au M H F (List.zipWith (λa t=>if a=z then T.d d else t) ks ts) (List.zipWith (λa x=>if a=z then v else x) ks xs) as'/\as'.Sublist as
 |[],ts,xs,as,h=>⟨[],by simp[au],List.nil_sublist _⟩
 | a::ks,[],xs,as,h=>by
   simp only[au]at h;obtain⟨rfl,rfl⟩:=h;exact⟨[],by simp[au],List.Sublist.refl _⟩
 | a::ks,t::ts,xs,as,h=>by
   simp only[au]at h;obtain⟨x,r,bs,cs,rfl,rfl,h1,h2⟩:=h;obtain⟨Kt,k1,k2⟩:=au.xA (z:=z) rd (ks:=ks) h2;rw[List.zipWith_cons_cons,List.zipWith_cons_cons];by_cases hz:a=z
   · refine⟨Kt,?_,k2.trans (List.sublist_append_right _ _)⟩
     rw[if_pos hz,if_pos hz];simp only[au,ah];exact⟨v,_,[],Kt,rfl,rfl,⟨rfl,rd⟩,k1⟩
   · refine⟨bs++Kt,?_,List.Sublist.append (List.Sublist.refl _) k2⟩
     rw[if_neg hz,if_neg hz];simp only[au];exact⟨x,_,bs,Kt,rfl,rfl,h1,k1⟩
theorem BI (i:Nat) {o e k:Expr} {f:Pt} {g h:Ex} {p3:Pos} (hu:X.A.units+64<cLine) (ho:JL X i o f) (hk:JE X k g) (he:JE X e h) (hs:swapsWith e (some (.Subscript o k p3)) pos.line X.env=pure false:=by rfl):
   JS X (.Assign [.Subscript o k p3] e pos) (fo i f g h):=λF0=>
 cm (L2.qY (by omega) ho hk he hs) λD σ H ⟨ρ,F,fl,r,e,q⟩=>by
   obtain⟨d,ed,e⟩:=av.mp e;obtain⟨p,ep,e⟩:=av.mp e;obtain⟨y,ey,e⟩:=av.mp e;split at e
   · rename_i t z q1 hz
     split at e
     · rename_i ks ts JQ
       split at e
       · rename_i JC
         cases e;obtain⟨⟨w,as,ew,tr,nd⟩,_,_⟩:=r.rs.on i _ q1;refine⟨ρ,F,d,r.rs,ed,λv H1 s1 rv=>⟨ρ,F,t,w,p,_,(r.same s1).rs,q1,ew,ep,JQ,λv0 H2 s2 at2=>⟨ρ,F,y,((r.same s1).same s2).rs,ey,λw2 H3 s3 Km=>?_⟩⟩⟩;have r2:=(r.same s1).same s2;have r3:=r2.same s3;have N6:=at2.same r2.rs q1 ew s3;obtain⟨⟨w',as',Q5,Kx,QR⟩,_,_⟩:=r3.rs.on i _ q1;rw[ew]at Q5;cases Q5;obtain⟨bs,tp,sub⟩:=aq.part Kx N6;have ND:=tp;simp only[ah]at tp;obtain⟨a,xs,cs,rfl,rfl,fa,ha,hl,JR⟩:=tp;have Lp:=QR.sublist sub;have Ms:=List.nodup_cons.mp Lp;cases iB hz Km;have RN:=rv.mv (M:=aB X) (F':=F) (.same (s2.trans s3))
         have Nu:(ks.zip xs).length<sizeLine:=by
           have:(sizeLine:Nat)=16777216:=sizeLine_eq;rw[List.length_zip];omega
         refine⟨a,_,rfl,L2.i9.k ha Nu,?_⟩;rw[oO z v hl];have Ni:∀o:HO,Mv F H3 F (upd H3 a o):=λo b u n e=>⟨n,by rw[L2.aE (λz=>by subst z;exact n fa)];exact e⟩
         have kp:∀(o:HO) {Kt:List Addr},Kt.Sublist cs->∀b∈Kt,∀u,F b->H3 b=some u->F b/\upd H3 a o b=some u:=λo Kt hs b hb u f hu=>⟨f,by rw[L2.aE (λz=>by subst z;exact Ms.1 (hs.subset hb))];exact hu⟩
         unfold iz at q;by_cases hm:(ks.any λa=>decide (a=z))=true
         · rw[if_pos hm]at q ⊢
           obtain⟨Kt,k1,k2⟩:=au.xA (z:=z) RN (ks:=ks) JR
           obtain⟨mv,r'⟩:=r3.oJ (H2:=upd H3 a (.dK (ks.zip (List.zipWith (λa x=>if a=z then v else x) ks xs)))) (F2:=F) (n1:=.m ks (List.zipWith (λa t=>if a=z then T.d d else t) ks ts)) q1 ew N6 (en.of ND Lp k2 (by
             simp only[ah];exact⟨a,_,Kt,rfl,rfl,fa,L2.bf,by rw[List.length_zipWith];omega,k1.mv (Ni _) (kp _ k2)⟩)) rfl
           exact q _ _ _ (Mv.trans (.same (s1.trans (s2.trans s3))) mv) r'
         · rw[if_neg hm]at q ⊢
           obtain⟨mv,r'⟩:=r3.oJ (H2:=upd H3 a (.dK ((ks++[z]).zip (xs++[v])))) (F2:=F) (n1:=.m (ks++[z]) (ts++[T.d d])) q1 ew N6 (en.of ND Lp (List.Sublist.refl _) (by
             simp only[ah];refine⟨a,_,cs,rfl,rfl,fa,L2.bf,by rw[List.length_append,List.length_append,hl];rfl,?_⟩
             have:=au.append (JR.mv (Ni (.dK ((ks++[z]).zip (xs++[v])))) (kp _ (List.Sublist.refl _))) (gg (vs:=[d]) (xs:=[v]) (as:=[]) |>.mpr ⟨rfl,ag.cons (RN.mv (Ni _)) ag.nil⟩);simpa using this)) rfl
           exact q _ _ _ (Mv.trans (.same (s1.trans (s2.trans s3))) mv) r'
       ·cases e
     ·cases e
   ·cases e
end
noncomputable def fF:D->R D
 |.aN ks vs=>.ok (.aN ks vs)
 |_=>.bad
section
variable{X:Cx}{M:Md}{G H H':Hp}{F0:Gf}{F F':Addr->Prop}{σ:L2.St}{ρ:En}{pos:Pos}{pins:List (Addr×Obj)}{s:Shared}{as:List Addr}
theorem yK:bE X (.type "dict") (λxs H Q=>∃F p kvs,xs=[.ref p]/\er (aB X) H F p kvs/\∀l,H l=none->Q (.ref l) (upd H l (.dK kvs))):=by
 intro pins s σ H xs us Q I r h;obtain⟨F,p,kvs,rfl,hd,q⟩:=h;obtain⟨u,rfl,ru⟩:=L2.vals1 r;cases ru;obtain⟨z,LC,vs,rel,dd⟩:=gz I hd;have hl:=gS rel;refine kt_call_dict (knd:=L2.bx X.prog X.w) LC dd (by omega) λh' d1 sb=>?_
 have keep:∀b o,s.heap.get? b=some o->h'.get? b=some o:=λb o e=>by
   rw[sb.2 b (Nat.ne_of_lt (Heap.lt_size e))];exact Heap.get?_push_of_some _ e
 exact⟨.ref _,_,I.laid (a:=s.heap.objs.size) (o:=.dK kvs) (t':=s.toks) keep (Nat.le_refl _) (L2.oz z (beq_eq_false_iff_ne.mpr (Ne.symm (Nat.ne_of_lt I.big))) rel d1),rfl,q _ (I.aH.fresh (Nat.le_refl _))⟩
theorem Cv{a:Expr}{fa:Ex}{p:Pos}(hg:L2.Gl X "dict")(hm:X.mg "dict"=none)(ha:JE X a fa)(hs:starEach [a] X.env=(false,eval a X.env)::starEach [] X.env):JD X (.Call (.Name "dict" p) [a] [] pos) (e1 fF fa):=
 bz (L2.qT yK hg hm Dv (fm ha fQ hs) (by decide) (by decide) hs) λσ H Q ⟨ρ,F,ks,ds,hr,e,q⟩=>by
   obtain⟨d1,ed,e⟩:=av.mp e;refine⟨ρ,F,[d1],hr,by show(fa ρ).bind _=_;rw[ed];rfl,λvs H1 s1 rv=>?_⟩
   obtain⟨y,rfl,ry⟩:=rv.one;unfold fF at e;split at e
   · cases e
     simp only[Rep]at ry;obtain⟨a,xs,rfl,h1,hl,rs⟩:=ry;exact⟨F,a,_,rfl,h1,λl hn=>q l H1 xs s1 hn hl rs⟩
   ·cases e
theorem ya{fa:Ex}(ρ:En)(d:D)(h:e1 fF fa ρ=.ok d):∃ks ds,d=.aN ks ds:=by
 obtain⟨x,ex,e⟩:=av.mp h;unfold fF at e;split at e
 ·cases e;exact⟨_,_,rfl⟩
 ·cases e
theorem er.ne{a b:Addr}{kvs more:List (Key×V)}(I:Inv X pins σ H s)(ha:H a=some (.dK kvs))(hb:er (aB X) H F b more):a≠b:=by
 rintro rfl;rcases hb with⟨_,ob,hb⟩|⟨o,es,ep,vs,hk,_⟩
 ·rw[ha]at hb;cases hb
 · have:=(I.bs a o (I.mod.oS a o hk)).2
   rw[ha]at this;cases this
def G8(M:Md):V->List V->Hp->VK->Prop:=λx vs H Q=>∃F a b kvs more,x=.ref a/\vs=[.ref b]/\H a=some (.dK kvs)/\er M H F b more/\kvs.length+more.length<=1000/\Q .aD (upd H a (.dK (L2.ft kvs more)))
theorem C1:L2.qQ X "dict.update" (G8 (aB X)):=by
 intro pins s σ H x vs v us Q I rx rv h;obtain⟨F,a,b,kvs,more,rfl,rfl,ha,hb,hz,q⟩:=h;cases rx;obtain⟨u,rfl,ru⟩:=rv.one;cases ru;obtain⟨z,LC,ws,rel,dd⟩:=L2.qk I.aH ha;obtain⟨z2,N3,Th,Oc,OZ⟩:=gz I hb;have h3:(sizeLine:Nat)=16777216:=sizeLine_eq;refine call_meetsIn PySem.F.slot_dict_update dd.typeIs PySem.F.entry_dict_update (PySem.F.args_dict_update_2 _ _) (meets_dict_update (L2.bx X.prog X.w) a b (er.ne I ha hb) N3) ⟨ws,Th,dd,OZ,by rw[<-rel.length, <-Oc.length];omega,λh' d1 d2 hs=>?_⟩
 have he:∃q,h'.get? a=some q:=let⟨q,_,_,hq,_⟩:=d1;⟨q,hq⟩
 have hl:(L2.ft kvs more).length<=sizeLine:=by have:=L2.pY more kvs;omega
 exact⟨.aD,_,L2.mZ I (by rw[ha];exact True.intro) hs he (L2.oz hl LC (Oc.merge rel) d1),rfl,q⟩
noncomputable def hR:List (Ex×Xt)->En->R (List Ky×List T)
 |[],_=>.ok ([],[])
 | (fk,fv)::r,ρ=>(fk ρ).bind λq=>(fv ρ).bind λt=>match keyOf q with
   |some z=>(hR r ρ).bind λy=>.ok (z::y.1,t::y.2)
   |none=>.bad
noncomputable def ki(Ks:List (Ex×Xt)):Xt:=λρ=>(hR Ks ρ).bind λy=>if y.1.Nodup then .ok (.m y.1 y.2)else .bad
def kX(X:Cx)(pos:Pos)(keys:List (Option Expr))(values:List Expr)(Ks:List (Ex×Xt)):Prop:=
 ∃JR,L2.kU X pos keys values JR/\∀(F:Addr->Prop) (σ:L2.St) (H:Hp) (ρ:En) (ks:List Ky) (ts:List T) (Q:List (V×V)->Hp->Prop),aV (aB X) H F σ ρ->hR Ks ρ=.ok (ks,ts)->
   (∀xs H' F' as,ak H H'->(∀b∈as,H b=none)->as.Nodup->(∀b,F' b↔F b\/b∈as)->ks.length=xs.length->au (aB X) H' F' ts xs as->Q ((ks.zip xs).map λkv=>(L2.kV kv.1,kv.2)) H')->L2.lu JR σ H Q
theorem yZ:kX X pos [] [] []:=⟨[],L2.ve,λF σ H ρ ks ts Q r e q=>by
 cases e;exact q [] H F [] (ak.refl _) (λ_ hb=>nomatch hb) List.nodup_nil (λb=>by simp) rfl (by rw[au];exact⟨rfl,rfl⟩)⟩
theorem A7{k v:Expr}{fk:Ex}{fv:Xt}{keys:List (Option Expr)}{values:List Expr}{Ks:List (Ex×Xt)}(hk:JE X k fk)(hv:JX X v fv)(hr:kX X pos keys values Ks):kX X pos (some k::keys) (v::values) ((fk,fv)::Ks):=by
 obtain⟨JR,h,g⟩:=hr;refine⟨_,L2.vD hk hv h,λF σ H ρ ks ts Q r e q=>?_⟩;obtain⟨d,ed,e⟩:=av.mp e;obtain⟨t,et,e⟩:=av.mp e;cases hz:keyOf d with
 |none=>rw[hz]at e;cases e
 | some z=>
   rw[hz]at e;obtain⟨⟨ks',ts'⟩,ey,e⟩:=av.mp e;cases e;refine⟨ρ,F,d,r,ed,λx H1 s1 rx=>⟨ρ,F,t,r.same s1,et,λy H2 F2 as s2 hn nd hF tr=>?_⟩⟩;obtain⟨O8,r2⟩:=(r.same s1).wide s2 hn hF (λb hb=>(tr.fs b hb).2);refine g F2 σ H2 ρ ks' ts' _ r2 ey λxs H3 F3 bs s3 Oy Sv QV hl JR=>?_
   have apart:∀a∈as,∀b∈bs,a≠b:=λa ha b hb z=>by
     subst z;obtain⟨_,u,hu⟩:=tr.fs a ha;rw[Oy a hb]at hu;cases hu
   have TL:Mv F2 H2 F3 H3:=λb o n e=>⟨λf=>((QV b).mp f).elim n (λhb=>by rw[Oy b hb]at e;cases e),s3 _ _ e⟩
   cases iB hz rx;refine q (y::xs) H3 F3 (as++bs) (s1.trans (s2.trans s3)) (λb hb=>?_) (List.nodup_append.mpr ⟨nd,Sv,apart⟩) (λb=>?_) (by simp[hl]) ?_
   · rcases List.mem_append.mp hb with hb|hb
     ·exact s1.free (hn b hb)
     ·exact s1.free (s2.free (Oy b hb))
   ·rw[QV b,hF b,List.mem_append,or_assoc]
   · simp only[au]
     exact⟨y,xs,as,bs,rfl,rfl,tr.mv TL λb hb u f hu=>⟨(QV b).mpr (.inl f),s3 _ _ hu⟩,JR⟩
theorem wK:∀ {Ks:List (Ex×Xt)} {y:List Ky×List T},hR Ks ρ=.ok y->y.1.length=Ks.length
 |[],y,h=>by cases h;rfl
 | (fk,fv)::r,y,h=>by
   obtain⟨q,eq,h⟩:=av.mp h;obtain⟨t,et,h⟩:=av.mp h;split at h
   · obtain⟨z,ez,h⟩:=av.mp h
     cases h;simp[wK ez]
   ·cases h
theorem zd{keys:List (Option Expr)}{values:List Expr}{Ks:List (Ex×Xt)}(h:kX X pos keys values Ks)(Kk:keys.all (·.isSome)=true)(hl:keys.length=values.length)(h0:keys≠[])(Mu:keys.length<=15)(hk:Ks.length<=15):JX X (.Dict keys values pos) (ki Ks):=by
 obtain⟨JR,hp,g⟩:=h;refine bz (L2.vL hp Kk hl h0 Mu) λσ H Q ⟨ρ,F,t,hr,e,q⟩=>?_;obtain⟨⟨ks,ts⟩,ey,e⟩:=av.mp e;by_cases OL:ks.Nodup
 · rw[if_pos OL]at e
   cases e;intro p hp;have QM:=hr.fresh (o:=.dK []) hp;refine g _ σ _ ρ ks ts _ QM ey λxs H2 F2 as s2 hn nd hF P7 rs=>?_;have e2:H2 p=some (.dK []):=s2 _ _ L2.bf
   have hm:L2.ft [] (ks.zip xs)=ks.zip xs:=by
     rw[pM (by simp only[List.map_nil,List.nil_append];rw[show(ks.zip xs).map (·.1)=ks from by rw[List.map_fst_zip];omega];exact OL)]
     rfl
   have Ua:ks.length=Ks.length:=wK ey;refine⟨e2,ks.zip xs,rfl,by rw[List.length_zip];omega,?_⟩
   rw[hm];have LU:p∉as:=λhb=>by have:=hn p hb;rw[L2.bf]at this;cases this
   have sm:ak H (upd H2 p (.dK (ks.zip xs))):=λb u e=>by
     have ne:b≠p:=λz=>by subst z;rw[hp]at e;cases e
     rw[L2.aE ne];exact s2 _ _ (by rw[L2.aE ne];exact e)
   refine q _ _ F2 (p::as) sm (λb hb=>?_) (List.nodup_cons.mpr ⟨LU,nd⟩) (λb=>?_) ?_
   · rcases List.mem_cons.mp hb with h9|h9
     ·rw[h9];exact hp
     · have:=hn b h9
       have C':b≠p:=λz=>by rw[z]at h9;exact LU h9
       rwa[L2.aE C']at this
   ·rw[hF b,List.mem_cons,or_assoc]
   · simp only[ah]
     have fp:F2 p:=(hF p).mpr (.inl (.inr rfl));exact⟨p,xs,as,rfl,rfl,fp,L2.bf,P7,rs.mv (λb o n e=>⟨n,by rw[L2.aE (λz=>by subst z;exact n fp)];exact e⟩) λb hb u f hu=>⟨f,by rw[L2.aE (λz=>by subst z;exact LU hb)];exact hu⟩⟩
 ·rw[if_neg OL]at e;cases e
end
section
variable{X:Cx}{M:Md}{G H H':Hp}{F0:Gf}{F F':Addr->Prop}{σ:L2.St}{ρ:En}{pos:Pos}{pins:List (Addr×Obj)}{s:Shared}{as:List Addr}
end
section
variable{X:Cx}{M:Md}{G H H':Hp}{F0:Gf}{F F':Addr->Prop}{σ:L2.St}{ρ:En}{pos:Pos}{pins:List (Addr×Obj)}{s:Shared}{as:List Addr}
end
section
variable{X:Cx}{M:Md}{G H H':Hp}{F0:Gf}{F F':Addr->Prop}{σ:L2.St}{ρ:En}{pos:Pos}{pins:List (Addr×Obj)}{s:Shared}{as:List Addr}
end
section
variable{X:Cx}{M:Md}{G H H':Hp}{F0:Gf}{F F':Addr->Prop}{σ:L2.St}{ρ:En}{pos:Pos}{pins:List (Addr×Obj)}{s:Shared}
end
section
variable{X:Cx}{M:Md}{G H H':Hp}{F0:Gf}{F F':Addr->Prop}{σ:L2.St}{ρ:En}{pos:Pos}{pins:List (Addr×Obj)}{s:Shared}
end
section
variable{X:Cx}{M:Md}{G H H':Hp}{F0:Gf}{F F':Addr->Prop}{σ:L2.St}{ρ:En}{pos:Pos}{pins:List (Addr×Obj)}{s:Shared}{as:List Addr}
end
section
variable{X:Cx}{M:Md}{G H H':Hp}{F0:Gf}{F F':Addr->Prop}{σ:L2.St}{ρ:En}{pos:Pos}{pins:List (Addr×Obj)}{s:Shared}{as:List Addr}
theorem aT.DY{i:Nat}{t t':T}{v:V}{as as':List Addr}(r:aT M G F0 H F σ ρ)(e:ρ[i]? =some (.on (.tr t)))(ev:σ[i]? =some (some v))(tr:ah M H F t v as)(KC:∀b∈as',b∈as\/H b=none)(KL:∀b u,b∉as->H b=some u->H' b=some u)
   (hF:∀b,F' b↔(F b/\b∉as)\/b∈as') (Kx:ah M H' F' t' v as') (nd:as'.Nodup) (Nm:∀(j:Nat) p,ρ[j]? =some (Slot.on (.al i p))->∀t1 w,aq H t v p t1 w->t1.own=true->∃t2,t2.own=true/\aq H' t' v p t2 w):
   Mv F H F' H'/\aT M G F0 H' F' σ (ρ.set i (.on (.tr t'))):=by
 have fs:=tr.fs;refine r.oK e ev tr KC (λb o n eo=>?_) (λb u n f hu=>⟨(hF b).mpr (.inl ⟨f,n⟩),KL b u n hu⟩) (λa fa=>?_) Kx nd Nm KL λb f n=>(hF b).mpr (.inl ⟨f,n⟩)
 · have nb:b∉as':=λhb=>by
     rcases KC b hb with h|h
     ·exact n (fs b h).1
     ·rw[h]at eo;cases eo
   exact⟨λh=>((hF b).mp h).elim (λz=>n z.1) nb,KL b _ (λh=>n (fs b h).1) eo⟩
 · by_cases ha:a∈as'
   ·exact(Kx.fs a ha).2
   · have z:=((hF a).mp fa).resolve_right ha
     obtain⟨o,ho⟩:=r.rs.aX a z.1;exact⟨o,KL a _ z.2 ho⟩
noncomputable def without(H:Hp)(as:List Addr):Hp:=λb=>if b∈as then none else H b
end
section
variable{X:Cx}{M:Md}{G H H':Hp}{F0:Gf}{F F':Addr->Prop}{σ:L2.St}{ρ:En}{pos:Pos}{pins:List (Addr×Obj)}{s:Shared}{as:List Addr}
theorem Cz{H1:Hp}{s1:Shared}{a:Addr}{ob:Obj}{kvs:List (Key×V)}(nf:∀o u,X.iH a≠some (.frz o u))(I1:Inv X pins σ H1 s1)(e1:H1 a=some (.frz ob (.dK kvs))):Inv X pins σ (upd H1 a (.dK kvs)) s1:=by
 have nn:∀ {b},H1 b=none->upd H1 a (.dK kvs) b=none:=λ{b} h=>by rw[L2.aE (λz=>by subst z;rw[e1]at h;cases h)];exact h
 refine⟨I1.ok,I1.os,I1.bare,⟨I1.base.keep,I1.base.slot,λb o h n x=>nn (I1.base.free b o h n x),I1.base.there,λb xs h=>?_,λb o u h=>?_,λb ps h=>?_⟩,I1.loc,I1.cell,nn I1.free,λx c h=>nn (I1.fI x c h),λp hp=>?_,λb o h=>?_,I1.len⟩
 · have h1:=I1.base.gC b xs h
   rw[L2.aE (λz=>by subst z;rw[e1]at h1;cases h1)];exact h1
 ·rw[L2.aE (λz=>by subst z;exact nf _ _ h)];exact I1.base.fu b o u h
 · obtain⟨more,h1⟩:=I1.base.gJ b ps h
   exact⟨more,by rw[L2.aE (λz=>by subst z;rw[e1]at h1;cases h1)];exact h1⟩
 · obtain⟨h1,h2,h3⟩:=I1.pin p hp
   exact⟨h1,nn h2,h3⟩
 · by_cases hb:b=a
   · subst hb
     rw[L2.bf]at h;cases h;obtain⟨_,z,y,vs,r,dd⟩:=I1.aH b _ e1;exact⟨z,y,vs,r,dd⟩
   · rw[L2.aE hb]at h
     refine(I1.aH b o h).gW (λc u _ q=>q) (λc q=>?_) λc xs q=>?_
     ·rw[L2.aE (λz=>by subst z;rw[e1]at q;cases q)];exact q
     ·rw[L2.aE (λz=>by subst z;rw[e1]at q;cases q)];exact q
theorem uo:∀ {as:List Addr} {H1:Hp} {s1:Shared},Inv X pins σ H1 s1->(∀b∈as,∀o u,X.iH b≠some (.frz o u))->(∀b∈as,H1 b=H b\/∃ob kvs,H b=some (.dK kvs)/\H1 b=some (.frz ob (.dK kvs)))->as.Nodup->∃H2,Inv X pins σ H2 s1/\(∀b∈as,H2 b=H b)/\∀b,b∉as->H2 b=H1 b
 |[],H1,s1,I1,_,_,_=>⟨H1,I1,(λ_ hb=>nomatch hb),λ_ _=>rfl⟩
 | a::as,H1,s1,I1,nf,k,nd=>by
   have Jv:=List.nodup_cons.mp nd;obtain⟨H2,I2,k2,o2⟩:=uo I1 (λb hb=>nf b (List.mem_cons_of_mem _ hb)) (λb hb=>k b (List.mem_cons_of_mem _ hb)) Jv.2;have ea:H2 a=H1 a:=o2 a Jv.1;rcases k a List.mem_cons_self with h|⟨ob,kvs,h1,h2⟩
   · refine⟨H2,I2,λb hb=>?_,λb hb=>o2 b λKl=>hb (List.mem_cons_of_mem _ Kl)⟩
     rcases List.mem_cons.mp hb with rfl|hb
     ·rw[ea];exact h
     ·exact k2 b hb
   · refine⟨_,Cz (nf a List.mem_cons_self) I2 (by rw[ea];exact h2),λb hb=>?_,λb hb=>?_⟩
     · by_cases Ls:b=a
       ·subst Ls;rw[L2.bf,h1]
       · rw[L2.aE Ls]
         exact k2 b ((List.mem_cons.mp hb).resolve_left Ls)
     · have Ls:b≠a:=λz=>by subst z;exact hb List.mem_cons_self
       rw[L2.aE Ls];exact o2 b λKl=>hb (List.mem_cons_of_mem _ Kl)
end
section
variable{X:Cx}{M:Md}{G H H':Hp}{F0:Gf}{F F':Addr->Prop}{σ:L2.St}{ρ:En}{pos:Pos}{pins:List (Addr×Obj)}{s:Shared}{as:List Addr}
end
noncomputable def xM(f:Ex):Xt:=λρ=>(f ρ).bind λd=>match d with
 |.aN ks vs=>.ok (.m ks (vs.map .d))
 |_=>.bad
section
variable{X:Cx}{M:Md}{G H H':Hp}{F0:Gf}{F F':Addr->Prop}{σ:L2.St}{ρ:En}{pos:Pos}{pins:List (Addr×Obj)}{s:Shared}{as:List Addr}
theorem Dl{e:Expr}{f:Ex}(he:JD X e f):JX X e (xM f):=
 bz he λσ H Q ⟨ρ,F,t,hr,e,q⟩=>by
   obtain⟨d,ed,e⟩:=av.mp e;cases d with
   | aN ks vs=>
     cases e;refine⟨ρ,F,ks,vs,hr,ed,λp H1 xs s1 hp hl rs=>?_⟩;have ne:∀b u,H1 b=some u->b≠p:=λb u e z=>by subst z;rw[hp]at e;cases e
     refine q (.ref p) _ (λb=>F b\/b∈[p]) [p] (s1.trans (ak.bR hp _)) (λb hb=>?_) (by simp) (λb=>Iff.rfl) ?_
     ·rw[List.mem_singleton.mp hb];exact s1.free hp
     · simp only[ah]
       exact⟨p,xs,[],rfl,rfl,.inr (List.mem_singleton.mpr rfl),L2.bf,hl,gg.mpr ⟨rfl,rs.mv λb u n e=>⟨λh=>h.elim n λhb=>ne b u e (List.mem_singleton.mp hb),by rw[L2.aE (ne b u e)];exact e⟩⟩⟩
   |_=>cases e
theorem oI{i:Nat}{f:Ex}(ρ:En)(d:D)(h:dW i f ρ=.ok d):∃ds,d=.lst ds:=by
 unfold dW at h;split at h
 · obtain⟨d',_,h⟩:=av.mp h
   split at h
   · split at h
     ·cases h;exact⟨_,rfl⟩
     ·cases h
   ·cases h
 ·cases h
end
end PL
namespace PL
open PySem PySem.Spec
section
variable{prog:Program}{w:World}{A:Around}{E:Value->Shared->Prop}{s:Shared}{knd:KeyKind prog w L2.Key}
end
section
variable{prog:Program}{w:World}{A:Around}{E:Value->Shared->Prop}{s:Shared}{knd:KeyKind prog w L2.Key}
end
set_option maxHeartbeats 3200000
section
variable{prog:Program}{w:World}{A:Around}{E:Value->Shared->Prop}{s:Shared}{knd:KeyKind prog w L2.Key}{R:Result->Shared->Prop}{I:Addr}{fp wr:List Addr}{G:Array GenState->Array GenState->Prop}{n:Nat}{P:Nat->Value->Prop}{St:Nat->Shared->Prop}
end
section
variable{prog:Program}{w:World}{A:Around}{E:Value->Shared->Prop}{s:Shared}{knd:KeyKind prog w L2.Key}
end
end PL
namespace PL
open PySem PySem.Spec
open L2 (V Hp HO Cx PE PT PW PA PS bQ PG cH VK TE TT TA TS TI TG Inv RelV Vals Rd a8 bo upd ak Key XK Ends aZ c9 bE R2 EP It Turn cq Un)
section
variable{X:Cx}{M:Md}{G H H':Hp}{F0:Gf}{F F':Addr->Prop}{σ:L2.St}{ρ:En}{pos:Pos}{pins:List (Addr×Obj)}{s:Shared}
end
section
variable{X:Cx}{M:Md}{G H H':Hp}{F0:Gf}{F F':Addr->Prop}{σ:L2.St}{ρ:En}{pos:Pos}{pins:List (Addr×Obj)}{s:Shared}
end
noncomputable def kA(i:Nat)(f:Pt)(k:Ex)(x:Xt):Sm:=λρ=>(x ρ).bind λu=>(f ρ).bind λp=>(k ρ).bind λq=>match ρ[i]?,keyOf q with
 | some (.on (.tr t)),some z=>match T.at t p with
   |some (.m ks ts)=>if ks.length<1000/\¬(ks.any λa=>decide (a=z))=true then .ok (.next ((dQ i p ρ).set i (.on (.tr (T.put (.m (ks++[z]) (ts++[u])) t p)))))else .bad
   |_=>.bad
 |_,_=>.bad
section
variable{X:Cx}{M:Md}{G H H':Hp}{F0:Gf}{F F':Addr->Prop}{σ:L2.St}{ρ:En}{pos:Pos}{pins:List (Addr×Obj)}{s:Shared}{as:List Addr}
theorem aq.ex:∀ {p:List Nat} {t:T} {v:V} {as:List Addr} {n0:T},ah M H F t v as->T.at t p=some n0->∃w,aq H t v p n0 w
 | [],t,v,as,n0,_,e=>by
   have:t=n0:=by cases t<;>(injection e)
   subst this;exact⟨v,aq.here _ _⟩
 | k::p,.l ts,v,as,n0,h,e=>by
   simp only[ah]at h;obtain⟨a,xs,bs,rfl,rfl,f,ha,r⟩:=h;have e:(match ts[k]? with|some t=>T.at t p|none=>none)=some n0:=e
   cases et:ts[k]? with
   |none=>rw[et]at e;cases e
   | some t1=>
     rw[et]at e;obtain⟨x,cs,ex,tr,_⟩:=r.part et;obtain⟨w,hw⟩:=aq.ex tr e;exact⟨w,by unfold aq;exact⟨a,xs,t1,x,rfl,ha,et,ex,hw⟩⟩
 | k::p,.m ks ts,v,as,n0,h,e=>by
   simp only[ah]at h;obtain⟨a,xs,bs,rfl,rfl,f,ha,hl,r⟩:=h;have e:(match ts[k]? with|some t=>T.at t p|none=>none)=some n0:=e
   cases et:ts[k]? with
   |none=>rw[et]at e;cases e
   | some t1=>
     rw[et]at e;obtain⟨x,cs,ex,tr,_⟩:=r.part et;obtain⟨w,hw⟩:=aq.ex tr e;exact⟨w,by unfold aq;exact⟨a,xs,t1,x,rfl,ha,hl,et,ex,hw⟩⟩
 | k::p,.tu ts,v,as,n0,h,e=>by
   simp only[ah]at h;obtain⟨a,xs,rfl,f,ha,r⟩:=h;have e:(match ts[k]? with|some t=>T.at t p|none=>none)=some n0:=e
   cases et:ts[k]? with
   |none=>rw[et]at e;cases e
   | some t1=>
     rw[et]at e;obtain⟨x,cs,ex,tr,_⟩:=r.part et;obtain⟨w,hw⟩:=aq.ex tr e;exact⟨w,by unfold aq;exact⟨a,xs,t1,x,rfl,ha,et,ex,hw⟩⟩
 |k::p,.d _,v,as,n0,_,e=>by cases e
theorem aq.lV:∀ {p:List Nat} {t:T} {v:V} {n n':T} {w w':V},aq H t v p n w->aq H t v p n' w'->w=w'
 | [],t,v,n,n',w,w',h,h'=>by
   have e:t=n/\v=w:=by cases t<;>exact h
   have e':t=n'/\v=w':=by cases t<;>exact h'
   exact e.2.symm.trans e'.2
 | k::p,.l ts,v,n,n',w,w',h,h'=>by
   simp only[aq]at h h';obtain⟨a,xs,t1,x1,rfl,e2,et,ex,h⟩:=h;obtain⟨a',Ku,RF,Q6,ea,Ke,MO,Mw,h'⟩:=h';cases ea;rw[e2]at Ke;cases Ke;rw[et]at MO;cases MO;rw[ex]at Mw;cases Mw;exact aq.lV h h'
 | k::p,.m ks ts,v,n,n',w,w',h,h'=>by
   simp only[aq]at h h';obtain⟨a,xs,t1,x1,rfl,e2,hl,et,ex,h⟩:=h;obtain⟨a',Ku,RF,Q6,ea,Ke,O',MO,Mw,h'⟩:=h';cases ea;have e9:xs=Ku:=zip_inj hl O' (by rw[e2]at Ke;injection Ke with z;injection z)
   subst e9;rw[et]at MO;cases MO;rw[ex]at Mw;cases Mw;exact aq.lV h h'
 | k::p,.tu ts,v,n,n',w,w',h,h'=>by
   simp only[aq]at h h';obtain⟨a,xs,t1,x1,rfl,e2,et,ex,h⟩:=h;obtain⟨a',Ku,RF,Q6,ea,Ke,MO,Mw,h'⟩:=h';cases ea;rw[e2]at Ke;cases Ke;rw[et]at MO;cases MO;rw[ex]at Mw;cases Mw;exact aq.lV h h'
 |k::p,.d _,v,n,n',w,w',h,_=>h.elim
theorem zh (i:Nat) {o e k:Expr} {f:Pt} {g:Ex} {h:Xt} {p3:Pos} (hu:X.A.units+64<cLine) (ho:JL X i o f) (hk:JE X k g) (he:JX X e h) (hs:swapsWith e (some (.Subscript o k p3)) pos.line X.env=pure false:=by rfl):
   JS X (.Assign [.Subscript o k p3] e pos) (kA i f g h):=λF0=>
 cm (L2.qY (by omega) ho hk he hs) λD σ H ⟨ρ,F,fl,r,e,q⟩=>by
   obtain⟨u,eu,e⟩:=av.mp e;obtain⟨p,ep,e⟩:=av.mp e;obtain⟨y,ey,e⟩:=av.mp e;split at e
   · rename_i t z q1 hz
     split at e
     · rename_i ks ts JQ
       split at e
       · rename_i hc
         cases e;obtain⟨⟨w,Ow,ew,tr,nd⟩,_,_⟩:=r.rs.on i _ q1;refine⟨ρ,F,u,r.rs,eu,λv H1 F1 as s1 hn PQ hF Od=>?_⟩;obtain⟨LW,r1⟩:=r.rs.wide s1 hn hF (λb hb=>(Od.fs b hb).2);refine⟨ρ,F1,t,w,p,_,r1,q1,ew,ep,JQ,λv0 H2 s2 at2=>⟨ρ,F1,y,r1.same s2,ey,λw2 H3 s3 Km=>?_⟩⟩;have L6:ak H H3:=s1.trans (s2.trans s3);obtain⟨v',Mn⟩:=aq.ex tr JQ;have ev:v'=v0:=aq.lV (aq.same r.rs q1 ew L6 Mn) (aq.same (r1.same s2) q1 ew s3 at2);subst ev;obtain⟨bs,tp,sub⟩:=aq.part tr Mn;have ND:=tp;simp only[ah]at tp;obtain⟨a,xs,cs,rfl,rfl,fa,ha,hl,JR⟩:=tp;have Lp:=nd.sublist sub;have Ms:=List.nodup_cons.mp Lp;cases iB hz Km
         have Nu:(ks.zip xs).length<sizeLine:=by
           have:(sizeLine:Nat)=16777216:=sizeLine_eq;rw[List.length_zip];omega
         refine⟨a,_,rfl,L2.i9.k (L6 _ _ ha) Nu,?_⟩;rw[oO z v hl,if_neg hc.2];have Np:a∉as:=λhb=>by rw[hn a hb]at ha;cases ha
         have Nq:∀b,F b->F1 b:=λb f=>(hF b).mpr (.inl f);have N1:Mv F H F1 (upd H3 a (.dK ((ks++[z]).zip (xs++[v])))):=λb o n e=>⟨λf=>((hF b).mp f).elim n λhb=>(by rw[hn b hb]at e;cases e),by rw[L2.aE (λz=>by subst z;exact n fa)];exact L6 _ _ e⟩
         have Qa:Mv F1 H1 F1 (upd H3 a (.dK ((ks++[z]).zip (xs++[v])))):=λb o n e=>⟨n,by rw[L2.aE (λz=>by subst z;exact n (Nq _ fa))];exact(s2.trans s3) _ _ e⟩
         have QC:au (aB X) (upd H3 a (.dK ((ks++[z]).zip (xs++[v])))) F1 (ts++[u]) (xs++[v]) (cs++as):=by
           refine au.append (au.mv N1 (λb hb o f e=>⟨Nq b f,by rw[L2.aE (λz=>by subst z;exact Ms.1 hb)];exact L6 _ _ e⟩) JR) ?_
           rw[show as=as++[] by simp]
           simp only[au];exact⟨v,[],as,[],rfl,rfl,Od.mv Qa λb hb o f e=>⟨f,by rw[L2.aE (λz=>by subst z;exact Np hb)];exact(s2.trans s3) _ _ e⟩,rfl,rfl⟩
         have C:en (aB X) H (upd H3 a (.dK ((ks++[z]).zip (xs++[v])))) F F1 a (.m ks ts) (.m (ks++[z]) (ts++[u])) (a::cs) (a::(cs++as)):=
           {
             old:=ND
             mem:=List.mem_cons_self
             new:=by
               simp only[ah];exact⟨a,_,_,rfl,rfl,Nq a fa,L2.bf,by rw[List.length_append,List.length_append,hl];rfl,QC⟩
             nd:=List.nodup_cons.mpr ⟨λhb=>(List.mem_append.mp hb).elim Ms.1 Np,List.nodup_append.mpr ⟨Ms.2,PQ,λb hb b' J1 z=>by
               subst z;obtain⟨_,o,e⟩:=JR.fs b hb;rw[hn b J1]at e;cases e⟩⟩
             out:=λb o n e=>by rw[L2.aE n];exact L6 _ _ e
             fs := λb=>by
               rw[hF b];constructor
               · rintro(f|hb)
                 ·exact .inl f
                 ·exact .inr (List.mem_cons_of_mem _ (List.mem_append_right _ hb))
               · rintro(f|hb)
                 ·exact .inl f
                 · rcases List.mem_cons.mp hb with rfl|hb
                   ·exact .inl fa
                   · rcases List.mem_append.mp hb with hb|hb
                     ·exact .inl (JR.fs b hb).1
                     ·exact .inr hb
             gU:=λb hb=>by
               rcases List.mem_cons.mp hb with rfl|hb
               ·exact .inl List.mem_cons_self
               · rcases List.mem_append.mp hb with hb|hb
                 ·exact .inl (List.mem_cons_of_mem _ hb)
                 ·exact .inr (hn b hb)}
         obtain⟨mv,r'⟩:=r.oJ q1 ew Mn C rfl;exact q _ _ _ mv r'
       ·cases e
     ·cases e
   ·cases e
end
section
variable{X:Cx}{M:Md}{G H H':Hp}{F0:Gf}{F F':Addr->Prop}{σ:L2.St}{ρ:En}{pos:Pos}{pins:List (Addr×Obj)}{s:Shared}
end
end PL
namespace PL
open PySem PySem.Spec
section
variable{prog:Program}{w:World}{A:Around}{E:Value->Shared->Prop}{s:Shared}
end
section
variable{prog:Program}{w:World}{A:Around}{E:Value->Shared->Prop}{s:Shared}
end
section
variable{prog:Program}{w:World}{A:Around}{E:Value->Shared->Prop}{s:Shared}{R:Result->Shared->Prop}
end
end PL
namespace PL
open PySem PySem.Spec
open L2 (V Hp HO Cx PE PT PW PA PS bQ PG cH VK TE TT TA TS TI TG Inv RelV Vals Rd a8 bo upd ak Key XK Ends aZ c9 bE R2 EP It Turn cq Un)
section
variable{X:Cx}{M:Md}{G H H':Hp}{F0:Gf}{F F':Addr->Prop}{σ:L2.St}{ρ:En}{pos:Pos}{pins:List (Addr×Obj)}{s:Shared}{h':Heap}
end
section
variable{X:Cx}{M:Md}{G H H':Hp}{F0:Gf}{F F':Addr->Prop}{σ:L2.St}{ρ:En}{pos:Pos}{pins:List (Addr×Obj)}{s:Shared}
end
def ui(E:D->D->Prop)(a b:D):Prop:=∃(ks ks':List Int) (vs NJ:List D),a=.aN (ks.map Sum.inl) vs/\b=.aN (ks'.map Sum.inl) NJ/\ks.length=ks'.length/\
 ∀(i:Nat) (k:Int) (v:D),ks[i]? =some k->vs[i]? =some v->∃(j:Nat) (y:D),ks'[j]? =some k/\NJ[j]? =some y/\E v y
def xN(v y:D):Prop:=∃i:Int,v=.int i/\y=.int i
def CJ(c c':D):Prop:=(∃ns:List Int,c=.lst (ns.map .int)/\c'=.lst (ns.map .int))\/ui xN c c'
section
variable{X:Cx}{M:Md}{G H H':Hp}{F F':Addr->Prop}{σ:L2.St}{ρ:En}{pos:Pos}{pins:List (Addr×Obj)}{s:Shared}
theorem mT{kvs:List (Key×V)}{vs:List (Key×Value)}(h:L2.KV kvs vs):∀ {i:Nat} {p:Key×Value},vs[i]? =some p->∃q,kvs[i]? =some q/\q.1=p.1/\RelV q.2 p.2:=by
 unfold L2.KV at h
 induction h with
 |nil=>intro i p e;simp at e
 | cons hd _ ih=>
   intro i p e;cases i with
   |zero=>simp at e;subst e;exact⟨_,rfl,hd⟩
   |succ i=>simpa using ih (i:=i) (by simpa using e)
theorem vS{kvs:List (Key×V)}{vs:List (Key×Value)}(h:L2.KV kvs vs):∀ {i:Nat} {q:Key×V},kvs[i]? =some q->∃p,vs[i]? =some p/\q.1=p.1/\RelV q.2 p.2:=by
 unfold L2.KV at h
 induction h with
 |nil=>intro i p e;simp at e
 | cons hd _ ih=>
   intro i p e;cases i with
   |zero=>simp at e;subst e;exact⟨_,rfl,hd⟩
   |succ i=>simpa using ih (i:=i) (by simpa using e)
theorem ue{P:Program}{w:World}{h:Heap}{a:Addr}{vs:List (Key×Value)}(d:h.DictOf (L2.bx P w) a vs)(hi:∀p∈vs,∃i:Int,p.1=Sum.inl i)(P2:Program)(w2:World):h.DictOf (L2.bx P2 w2) a vs:=by
 obtain⟨o,es,ep,ho,hex,hd,hk,hp,hn⟩:=d
 have aux:∀ {es:List DictEntry} {vs:List (Key×Value)},Pairs (L2.bx P w) es vs->(∀e∈es,∃k,(L2.bx P w).is k e.key=true/\e.hash=(L2.bx P w).hash k)->(∀p∈vs,∃i:Int,p.1=Sum.inl i)->Pairs (L2.bx P2 w2) es vs/\∀e∈es,∃k,(L2.bx P2 w2).is k e.key=true/\e.hash=(L2.bx P2 w2).hash k:=by
   intro es vs hp
   induction hp with
   |nil=>intro _ _;exact⟨.nil,λe he=>by simp at he⟩
   | @cons e kv es kvs h1 h2 _ ih=>
     intro hk hi;obtain⟨q1,q2⟩:=ih (λe he=>hk e (List.mem_cons_of_mem _ he)) (λp hp=>hi p (List.mem_cons_of_mem _ hp));refine⟨.cons h1 h2 q1,λe' QG=>?_⟩;rcases List.mem_cons.mp QG with rfl|QG
     · obtain⟨k,TJ,K9⟩:=hk _ List.mem_cons_self
       obtain⟨i,QL⟩:=hi kv List.mem_cons_self;have:k=kv.1:=(L2.bx P w).inj _ _ _ TJ h1;rw[this,QL]at K9;rw[QL]at h1;exact⟨Sum.inl i,h1,K9⟩
     ·exact q2 e' QG
 obtain⟨q1,q2⟩:=aux hp (λe he=>hk e (by simpa using he)) hi
 exact⟨o,es,ep,ho,hex,hd,λe he=>q2 e (by simpa using he),q1,hn⟩
theorem p4{A:Around}{kb:List (Key×Value)}:∀ {ka:List (Key×Value)},(∀p∈ka,∃y,valueAt kb p.1=some y/\SeqAt.EqAt A s p.2 y true)->PySem.W.KeqHits A s kb ka true
 |[],_=>.nil
 | (k,v)::r,h=>by
   obtain⟨y,h1,h2⟩:=h (k,v) List.mem_cons_self;exact PySem.W.KeqHits.hit (e:=true) (b:=true) h1 h2 (p4 λp hp=>h p (List.mem_cons_of_mem _ hp))
theorem FJ{E:D->D->Prop}{A:Around}{a b:D}{x y:V}{u v:Value}(I:Inv X pins σ H s)(ra:Rep (aB X) H F a x)(rb:Rep (aB X) H F b y)(rx:RelV x u)(ry:RelV y v)(h:ui E a b)
   (hE:∀ {c c':D} {z z':V} {m m':Value},E c c'->Rep (aB X) H F c z->Rep (aB X) H F c' z'->RelV z m->RelV z' m'->SeqAt.EqAt A s m m' true):
   ∃p q ka kb,u=.ref p/\v=.ref q/\(p==sysModules)=false/\(q==sysModules)=false/\(∀P w,s.heap.DictOf (L2.bx P w) p ka)/\(∀P w,s.heap.DictOf (L2.bx P w) q kb)/\ka.length=kb.length/\PySem.W.KeqHits A s kb ka true:=by
 obtain⟨ks,ks',vs,NJ,rfl,rfl,hl,hm⟩:=h;simp only[Rep]at ra rb;obtain⟨p,xs,rfl,hp,lp,rs⟩:=ra;obtain⟨q,ys,rfl,hq,lq,Le⟩:=rb;cases rx;cases ry;obtain⟨_,Me,ka,rel,dd⟩:=gz I hp;obtain⟨_,Kd,kb,Lz,LJ⟩:=gz I hq;have la:=gS rel;have lb:=gS Lz;simp only[List.length_map]at lp lq
 have ia:∀p∈ka,∃i:Int,p.1=Sum.inl i:=λp hp=>by
   obtain⟨i,hi⟩:=List.getElem?_of_mem hp;obtain⟨q,hq,e,_⟩:=mT rel hi;have:=List.of_mem_zip (List.mem_of_getElem? (show(ks.map Sum.inl |>.zip xs)[i]? =some (q.1,q.2)from hq))
   obtain⟨n,_,hn⟩:=List.mem_map.mp this.1;exact⟨n,by rw[<-e, <-hn]⟩
 have ib:∀p∈kb,∃i:Int,p.1=Sum.inl i:=λp hp=>by
   obtain⟨i,hi⟩:=List.getElem?_of_mem hp;obtain⟨q,hq,e,_⟩:=mT Lz hi;have:=List.of_mem_zip (List.mem_of_getElem? (show(ks'.map Sum.inl |>.zip ys)[i]? =some (q.1,q.2)from hq))
   obtain⟨n,_,hn⟩:=List.mem_map.mp this.1;exact⟨n,by rw[<-e, <-hn]⟩
 refine⟨p,q,ka,kb,rfl,rfl,Me,Kd,ue dd ia,ue LJ ib,?_,p4 λpr OD=>?_⟩
 ·rw[<-la, <-lb,List.length_zip,List.length_zip,List.length_map,List.length_map];omega
 · obtain⟨i,hi⟩:=List.getElem?_of_mem OD
   obtain⟨z,hz,e1,r1⟩:=mT rel hi;obtain⟨KO,K3⟩:=List.getElem?_zip_eq_some.mp (show(ks.map Sum.inl |>.zip xs)[i]? =some (z.1,z.2)from hz)
   rw[List.getElem?_map]at KO;obtain⟨k,hk,ek⟩:=Option.map_eq_some_iff.mp KO;obtain⟨d,hd,rd⟩:=rs.get' K3;obtain⟨j,d',QN,RU,he⟩:=hm i k d hk hd;obtain⟨z',OF,Oe⟩:=Le.get RU;obtain⟨P0,Nc,e2,r2⟩:=vS Lz (i:=j) (q:=(Sum.inl k,z')) (List.getElem?_zip_eq_some.mpr ⟨by rw[List.getElem?_map,QN];rfl,OF⟩)
   obtain⟨_,_,_,_,_,_,_,_,nd⟩:=LJ;refine⟨P0.2,?_,hE he rd Oe r1 r2⟩;rw[<-e1, <-ek];refine valueAt_of_get nd (i:=j) ?_;rw[Nc];exact congrArg some (Prod.ext e2.symm rfl)
theorem eq_int{A:Around}{c c':D}{z z':V}{m m':Value}(h:xN c c')(rc:Rep M H F c z)(L':Rep M H F c' z')(r:RelV z m)(r':RelV z' m'):SeqAt.EqAt A s m m' true:=by
 obtain⟨i,rfl,rfl⟩:=h;cases br rc;cases br L';obtain⟨t,rfl⟩:=r;obtain⟨t',rfl⟩:=r';have:=SeqAt.EqAt.int_int (A:=A) (s:=s) i t i t';simpa using this
theorem lay_ints:∀(ns:List Int),lay (.lst (ns.map D.int))=true:=λns=>by
 simp only[lay]
 induction ns with
 |nil=>rfl
 |cons n ns ih=>simp only[List.map_cons,cN,lay,ih,Bool.and_self]
theorem B6(ns:List Int):bq (.lst (ns.map D.int)) (.lst (ns.map D.int))=true:=by
 simp only[bq]
 induction ns with
 |nil=>rfl
 |cons n ns ih=>simp only[List.map_cons,d4,bq,ih,beq_self_eq_true,decide_true,Bool.and_self]
theorem Ez:∀(ns:List Int),dep (.lst (ns.map D.int))<=2:=λns=>by
 simp only[dep]
 have:fM (ns.map D.int)<=1:=by
   induction ns with
   |nil=>simp[fM]
   |cons n ns ih=>simp only[List.map_cons,fM,dep];omega
 omega
theorem HQ{A:Around}{c c':D}{z z':V}{m m':Value}(I:Inv X pins σ H s)(hu:A.units+8<cLine)(h:CJ c c')(rc:Rep (aB X) H F c z)(L':Rep (aB X) H F c' z')(r:RelV z m)(r':RelV z' m'):SeqAt.EqAt A s m m' true:=by
 rcases h with⟨ns,rfl,rfl⟩|h
 · obtain⟨as,h1⟩:=gP I (lay_ints ns) rc r
   obtain⟨bs,h2⟩:=gP I (lay_ints ns) L' r';have:=SeqAt.eqAt_reads _ _ A s m m' as bs h1 h2 (g6 _ (lay_ints ns)) (g6 _ (lay_ints ns)) (by rw[i7 _ (lay_ints ns)];have:=Ez ns;omega)
   rw[ml _ _ (lay_ints ns) (lay_ints ns),B6]at this;exact this
 · obtain⟨p,q,ka,kb,rfl,rfl,hp,hq,da,db,hl,hh⟩:=FJ (A:=A.in1) I rc L' r r' h eq_int
   by_cases e:p=q
   ·subst e;exact .same _
   · refine .of_refs e λP2 w2 E Q PH=>PySem.W.keq_eq (r:=true) hp hq (da P2 w2) (db P2 w2) (by omega) (λ_=>hh) ?_
     rw[hl];simpa using PH
end
section
variable{X:Cx}{M:Md}{G H H':Hp}{F0:Gf}{F F':Addr->Prop}{σ:L2.St}{ρ:En}{pos:Pos}{pins:List (Addr×Obj)}{s:Shared}{as:List Addr}
end
def FK(K:PySem.W.Frag)(mg:Str->Option Value)(x:Str)(st:Stmt):Prop:=∃f fd,L2.eW K x x st f fd/\mg x=some (.ref f)
def FH(P:Program)(w:World)(K:PySem.W.Frag)(mg:Str->Option Value)(base:Heap)(x:Str)(st:Stmt):Prop:=FK K mg x st
theorem FK.up{P:Program}{w:World}{K:PySem.W.Frag}{mg:Str->Option Value}{base:Heap}{x:Str}{st:Stmt}(h:FK K mg x st):FH P w K mg base x st:=h
theorem FK.mk{K:PySem.W.Frag}{h:Heap}{mg:Str->Option Value}{x:Str}{st:Stmt}{f:Addr}{oc:Value}{od an:Option Addr}{L4:Array (Option Value)}{kV doc pm Jq ct:Value}(X:K.In h)(G:h.Ns mainGlobals mg)(a:PySem.W.nsIn K mainGlobals x=some (some (.ref f)))(l:K.lookup f=some ⟨oc,od,.func (PySem.W.fnOf x x (L2.ji st) (L2.dY st) (L2.aS st) .none kV doc pm an Jq ct),L4⟩)
   (c:PySem.W.codeIn K Jq x=true) (k:PySem.W.keepIn K (.ref f)=true):FK K mg x st:=⟨f,_,L2.Ab l c k,PySem.W.mg_of X G a⟩
theorem cO{N P:List Str}{sc:Scope}(a:sc.kind=.function:=by rfl)(b:sc.isCoroutine=false:=by rfl)(c:sc.isGenerator=false:=by rfl)(d:N.Nodup:=by decide+kernel)(e:N.take P.length=P:=by rfl)(f:∀x∈P,sc.names.lookup x=some .local\/sc.names.lookup x=some .cell:=by decide+kernel)(g:∀y∈sc.names,y.2≠.free:=by decide+kernel):L2.bG N P sc:=⟨a,b,c,d,e,f,g⟩
section
variable{P:Program}{w:World}{K:PySem.W.Frag}{mg:Str->Option Value}{base:Heap}{x:Str}{st:Stmt}{N ps:List Str}{k n:Nat}{body:Sm}
abbrev Bd(x:Str)(st:Stmt)(ps:List Str):Prop:=∀(kV doc pm:Value) (an:Option Addr) (Jq ct:Value) (us:List Value),us.length=ps.length->bindArgs (PySem.W.fnOf x x (L2.ji st) (L2.dY st) (L2.aS st) .none kV doc pm an Jq ct) ⟨us,[]⟩=pure (ps.zip us)
abbrev Jd(P:Program)(w:World)(K:PySem.W.Frag)(mg:Str->Option Value)(base:Heap)(x:Str)(st:Stmt)(N:List Str)(k:Nat)(body:Sm):Prop:=∀(f:Addr) (Jq:Value) (A:Around) (outer:List Env) (s:Shared) (H:Hp) (E:XK),L2.bC k (A.deeper (PyProof.Rows.envOfC x (L2.aS st) s.heap.objs.size f Jq))->cC (L2.e6 L2.cI P w K mg base N x (L2.aS st) f Jq A outer s H E).fT (L2.dY st) body
theorem dF(F:FH P w K mg base x st)(S:L2.bG N ps (L2.aS st))(h:Jd P w K mg base x st N k body)(b:Bd x st ps:=by first|exact λ_ _ _ _ _ _ us hl=>(match us,hl with|[_],_=>rfl)|exact λ_ _ _ _ _ _ us hl=>(match us,hl with|[_,_],_=>rfl)|exact λ_ _ _ _ _ _ us hl=>(match us,hl with|[_,_,_],_=>rfl)|exact λ_ _ _ _ _ _ us hl=>(match us,hl with|[_,_,_,_],_=>rfl)|exact λ_ _ _ _ _ _ us hl=>(match us,hl with|[],_=>rfl))(hn:ps.length=n:=by rfl):Df P w K mg base x (k+1) n (fn N.length body):=by
 obtain⟨f,fd,Fu,hm⟩:=F;exact AW Fu hm S (Fu.binds b) (h f) hn
theorem pD(F:FH P w K mg base x st)(S:L2.bG N ps (L2.aS st))(h:Jd P w K mg base x st N k body)(b:Bd x st ps:=by first|exact λ_ _ _ _ _ _ us hl=>(match us,hl with|[_],_=>rfl)|exact λ_ _ _ _ _ _ us hl=>(match us,hl with|[_,_],_=>rfl)|exact λ_ _ _ _ _ _ us hl=>(match us,hl with|[_,_,_],_=>rfl))(hn:ps.length=n:=by rfl):dA P w K mg base x (k+1) n (fH N.length body):=by
 obtain⟨f,fd,Fu,hm⟩:=F;exact AJ Fu hm S (Fu.binds b) (h f) hn
theorem mr(F:FH P w K mg base x st)(S:L2.bG N ps (L2.aS st))(h:Jd P w K mg base x st N k body)(b:Bd x st ps:=by first|exact λ_ _ _ _ _ _ us hl=>(match us,hl with|[_],_=>rfl)|exact λ_ _ _ _ _ _ us hl=>(match us,hl with|[_,_],_=>rfl)|exact λ_ _ _ _ _ _ us hl=>(match us,hl with|[_,_,_],_=>rfl))(hn:ps.length=n:=by rfl):eR P w K mg base x (k+1) n (gi N.length body):=by
 obtain⟨f,fd,Fu,hm⟩:=F;exact Eh Fu hm S (Fu.binds b) (h f) hn
end
noncomputable def mD(i:Nat)(k e:Ex):Sm:=λρ=>(k ρ).bind λq=>(e ρ).bind λd=>match ρ[i]?,q with
 |some (.ol xs),.int j=>if xs.length<1000/\0<=j/\j<=xs.length then .ok (.next (ρ.set i (.ol (xs.take j.toNat++d::xs.drop j.toNat))))else .bad
 |_,_=>.bad
noncomputable def gb(i:Nat)(f:Pt)(e:Ex):Sm:=λρ=>(f ρ).bind λp=>(e ρ).bind λd=>match ρ[i]?,d with
 | some (.on (.tr t)),.aN ks vs=>match T.at t p with
   | some (.m as ts)=>match fq ts with
     |some bs=>if ks.length+as.length<1000 then .ok (.next (ρ.set i (.on (.tr (T.put (.m (dU ks vs as bs).1 ((dU ks vs as bs).2.map .d)) t p)))))else .bad
     |none=>.bad
   |_=>.bad
 |_,_=>.bad
noncomputable def kK(i:Nat)(f:Pt)(k:Ex)(x:Xt):Sm:=λρ=>(x ρ).bind λu=>(f ρ).bind λp=>(k ρ).bind λq=>match ρ[i]?,q with
 | some (.on (.tr t)),.int j=>match T.at t p with
   | some (.l ts)=>match bJ ts.length j with
     |some m=>.ok (.next ((dQ i p ρ).set i (.on (.tr (T.put (.l (ts.set m u)) t p)))))
     |none=>.bad
   |_=>.bad
 |_,_=>.bad
section
variable{X:Cx}{M:Md}{G H H':Hp}{F0:Gf}{F F':Addr->Prop}{σ:L2.St}{ρ:En}{pos:Pos}{pins:List (Addr×Obj)}{s:Shared}{as:List Addr}
def xU:V->List V->Hp->VK->Prop:=λx vs H Q=>∃l xs j y,x=.ref l/\vs=[.int j,y]/\H l=some (.lst xs)/\xs.length<1000/\0<=j/\j<=xs.length/\Q .aD (upd H l (.lst (xs.take j.toNat++y::xs.drop j.toNat)))
theorem zL:L2.qQ X "list.insert" xU:=by
 intro pins s σ H x vs v us Q I rx rv h;obtain⟨l,xs,j,y,rfl,rfl,hH,hz,hj,RU,q⟩:=h;cases rx;obtain⟨u,w,rfl,ru,Km⟩:=rv.two;obtain⟨z,aj,n,r,hl,e⟩:=I.v8 hH;have h3:(sizeLine:Nat)=16777216:=sizeLine_eq;obtain⟨tk,rfl⟩:=ru;refine call_meets PySem.F.slot_list_insert ⟨_,e,rfl⟩ PySem.F.entry_list_insert (PySem.F.args_list_insert_3 _ _ _) (PySem.AutoSeq1.list_insert_list_int_val_1 l aj.toArray n j _ w (by unfold Builtin.List.listFitsIndex;simp;omega) (by rw[List.size_toArray];omega)) ⟨e,?_⟩
 refine⟨.aD,_,I.sY (its':=aj.take j.toNat++w::aj.drop j.toNat) hH e ?_ ((r.take j.toNat).append (.cons Km (r.drop j.toNat))) ?_,rfl,q⟩
 · have h1:¬j<0:=by omega
   have h2:min j.toNat aj.toArray.size=j.toNat:=by rw[List.size_toArray];omega
   simp only[if_neg h1,h2];rw[<-Array.toList_inj];simp;exact List.take_of_length_le (by simp)
 ·simp only[List.length_append,List.length_cons,List.length_take,List.length_drop];omega
theorem ET(i:Nat){x:Str}{k e:Expr}{g f:Ex}{p2 apos A':Pos}(ha:JA X [k,e] (eList [g,f]))(hN:X.N[i]? =some x)(hv:L2.cf X.env.scope x)(hd:(x==("__debug__":Str))=false)
   (Jx:(x==("__classdict__":Str))=false) (Jz:attributeBase (.Name x p2) "insert" X.env (eval (.Name x p2) X.env)=eval (.Name x p2) X.env)
   (J9:((backTo A' (starEach [k,e] X.env)).all (λx=> !x.1)&&(backToKw A' (keywordEach [] X.env)).all (λx=>x.1.isSome)
     &&decide (([k,e]:List Expr).length+([]:List Keyword).length+(if([]:List Keyword).isEmpty then 0 else 1)<30))=true)
   (JB:(apos.endLine==A'.line)=true) (hs:starEach [k,e] X.env=(false,eval k X.env)::starEach [e] X.env) (JV:(backTo A' (starEach [e] X.env)).any (·.1)=false)
   (KJ:swapsWith (.Call (.Attribute (.Name x p2) "insert" apos) [k,e] [] A') none pos.line X.env=pure false):
   JS X (.Expr (.Call (.Attribute (.Name x p2) "insert" apos) [k,e] [] A') pos) (mD i g f):=λF0=>
 cm (L2.oG (L2.nQ PySem.F.plainAttrs_list PySem.F.slot_list_insert PySem.F.type_list_insert zL (L2.pv i hN hv hd Jx) ha Jz J9 JB hs JV) KJ) λD σ H ⟨ρ,F,fl,r,e,q⟩=>by
   obtain⟨y,ey,e⟩:=av.mp e;obtain⟨d,ed,e⟩:=av.mp e;split at e
   · rename_i xs j q1 _
     split at e
     · rename_i JC
       cases e;have oi:bp ρ i:=.inl ⟨_,q1⟩;obtain⟨a,ys,ea,fa,ha,rs⟩:=r.rs.ol i _ q1;refine⟨_,ea,.inl ⟨rfl,ys,a8.of ha⟩,ρ,F,[.int j,d],r.rs,by show(g ρ).bind _=_;rw[ey];show((f ρ).bind _).bind _=_;rw[ed];rfl,λvs H1 s1 rv=>?_⟩
       obtain⟨y1,y2,rfl,TQ,Sh⟩:=rv.two;cases br TQ;have r1:=r.same s1;have hlen:=rs.length;have NH:=rs.mv (M:=aB X) (F':=F) (.same s1);refine⟨a,ys,j,y2,rfl,rfl,s1 _ _ ha,by omega,JC.2.1,by omega,?_⟩
       obtain⟨mv,r'⟩:=r1.chg (s:=.ol (xs.take j.toNat++d::xs.drop j.toNat)) oi ea (.inl ⟨_,ys.take j.toNat++y2::ys.drop j.toNat,rfl,rfl,(NH.take j.toNat).append (ag.cons Sh (NH.drop j.toNat))⟩);exact q _ _ _ (Mv.trans (.same s1) mv) r'
     ·cases e
   ·cases e
theorem uj{i:Nat}{t:T}{w v:V}{p:List Nat}{ks:List Ky}{vs:List D}(r:aV M H F σ ρ)(e1:ρ[i]? =some (.on (.tr t)))(e2:σ[i]? =some (some w))(h:aq H t w p (.m ks (vs.map .d)) v):∃a xs,v=.ref a/\F a/\H a=some (.dK (ks.zip xs))/\ks.length=xs.length/\ag M H F vs xs/\ah M H F (.m ks (vs.map .d)) (.ref a) [a]:=by
 obtain⟨⟨w',as,ew,tr,nd⟩,_,_⟩:=r.on i _ e1;rw[e2]at ew;cases ew;obtain⟨bs,tp,_⟩:=aq.part tr h;have M5:=tp;simp only[ah]at tp;obtain⟨a,xs,cs,rfl,rfl,fa,ha,hl,JR⟩:=tp;obtain⟨rfl,rs⟩:=gg.mp JR;exact⟨a,xs,rfl,fa,ha,hl,rs,M5⟩
theorem Dg (i:Nat) {o e:Expr} {f:Pt} {g:Ex} {apos A':Pos} (ho:JL X i o f) (he:JE X e g) (Jz:attributeBase o "update" X.env (eval o X.env)=eval o X.env)
   (J9:((backTo A' (starEach [e] X.env)).all (λx=> !x.1)&&(backToKw A' (keywordEach [] X.env)).all (λx=>x.1.isSome)
     &&decide (([e]:List Expr).length+([]:List Keyword).length+(if([]:List Keyword).isEmpty then 0 else 1)<30))=true)
   (JB:(apos.endLine==A'.line)=true) (hs:starEach [e] X.env=(false,eval e X.env)::starEach [] X.env)
   (KJ:swapsWith (.Call (.Attribute o "update" apos) [e] [] A') none pos.line X.env=pure false):
   JS X (.Expr (.Call (.Attribute o "update" apos) [e] [] A') pos) (gb i f g):=λF0=>
 cm (L2.oG (L2.nQ PySem.F.plainAttrs_dict PySem.F.slot_dict_update PySem.F.type_dict_update C1 ho (fm he fQ hs) Jz J9 JB hs) KJ) λD σ H ⟨ρ,F,fl,r,e,q⟩=>by
   obtain⟨p,ep,e⟩:=av.mp e;obtain⟨d,ed,e⟩:=av.mp e;split at e
   · rename_i t ks vs q1
     split at e
     · rename_i Ow ts q2
       split at e
       · rename_i bs q3
         split at e
         · rename_i JC
           cases e;cases sr q3;obtain⟨⟨w,as,ew,tr,nd⟩,_,_⟩:=r.rs.on i _ q1;refine⟨ρ,F,t,w,p,_,r.rs,q1,ew,ep,q2,λv H1 s1 LI=>?_⟩;have r1:=r.same s1;obtain⟨a,xs,rfl,fa,ha,hl,rs,tp⟩:=uj r1.rs q1 ew LI;refine⟨.inr (.inr (.inl ⟨rfl,.inl ⟨_,ha⟩⟩)),ρ,F,[.aN ks vs],r1.rs,by show(g ρ).bind _=_;rw[ed];rfl,λus H2 s2 rv=>?_⟩
           obtain⟨y,rfl,ry⟩:=rv.one;simp only[Rep]at ry;obtain⟨b,ys,rfl,h1,Sw,ry⟩:=ry;have r2:=r1.same s2;have at2:=LI.same r1.rs q1 ew s2;obtain⟨a',Ku,Q2,SD,MU,O',Le,M5⟩:=uj r2.rs q1 ew at2;cases Q2;have e9:Ku=xs:=zip_inj O' hl (by rw[s2 _ _ ha]at MU;injection MU with z;injection z with z;exact z.symm)
           subst e9;obtain⟨zs,e1,l1,NH⟩:=xt (M:=aB X) (H:=H2) (F:=F) Sw ry hl Le;refine⟨F,a,b,_,_,rfl,rfl,MU,h1,by rw[List.length_zip,List.length_zip];omega,?_⟩
           rw[e1];have Ni:∀o:HO,Mv F H2 F (upd H2 a o):=λo b u n e=>⟨n,by rw[L2.aE (λz=>by subst z;exact n fa)];exact e⟩
           obtain⟨mv,r'⟩:=r2.uU (n1:=.m (dU ks vs Ow bs).1 ((dU ks vs Ow bs).2.map .d)) (o:=.dK ((dU ks vs Ow bs).1.zip zs)) q1 ew at2 M5 rfl rfl (by
             simp only[ah];exact⟨a,zs,[],rfl,rfl,fa,L2.bf,l1,gg.mpr ⟨rfl,NH.mv (Ni _)⟩⟩)
           exact q _ _ _ (Mv.trans (.same (s1.trans s2)) mv) r'
         ·cases e
       ·cases e
     ·cases e
   ·cases e
theorem au.vW{u:T}{v:V}{bs:List Addr}(ru:ah M H F u v bs)(RR:bs.Nodup):∀ {m:Nat} {ts:List T} {xs:List V} {cs:List Addr},m<ts.length->au M H F ts xs cs->cs.Nodup->(∀b∈bs,b∉cs)->
   ∃Kt,au M H F (ts.set m u) (xs.set m v) Kt/\Kt.Nodup/\(∀b∈Kt,b∈cs\/b∈bs)/\∀b∈bs,b∈Kt
 |m,[],xs,cs,hm,h,_,_=>by simp at hm
 | 0,t::ts,xs,cs,hm,h,nd,ap=>by
   simp only[au]at h;obtain⟨x,r,b1,c1,rfl,rfl,h1,h2⟩:=h;have Jv:=List.nodup_append.mp nd;refine⟨bs++c1,?_,List.nodup_append.mpr ⟨RR,Jv.2.1,λa ha b hb z=>?_⟩,λb hb=>?_,λb hb=>List.mem_append_left _ hb⟩
   · rw[List.set_cons_zero,List.set_cons_zero]
     simp only[au];exact⟨v,r,bs,c1,rfl,rfl,ru,h2⟩
   ·subst z;exact ap a ha (List.mem_append_right _ hb)
   · rcases List.mem_append.mp hb with h|h
     ·exact .inr h
     ·exact .inl (List.mem_append_right _ h)
 | m+1,t::ts,xs,cs,hm,h,nd,ap=>by
   simp only[au]at h;obtain⟨x,r,b1,c1,rfl,rfl,h1,h2⟩:=h;have Jv:=List.nodup_append.mp nd;obtain⟨c2,k1,k2,k3,k4⟩:=au.vW ru RR (m:=m) (by simpa using hm) h2 Jv.2.1 λb hb hc=>ap b hb (List.mem_append_right _ hc)
   refine⟨b1++c2,?_,List.nodup_append.mpr ⟨Jv.1,k2,λa ha b hb z=>?_⟩,λb hb=>?_,λb hb=>List.mem_append_right _ (k4 b hb)⟩
   · rw[List.set_cons_succ,List.set_cons_succ]
     simp only[au];exact⟨x,_,b1,c2,rfl,rfl,h1,k1⟩
   · subst z
     rcases k3 a hb with h|h
     ·exact Jv.2.2 a ha a h rfl
     ·exact ap a h (List.mem_append_left _ ha)
   · rcases List.mem_append.mp hb with h|h
     ·exact .inl (List.mem_append_left _ h)
     ·exact(k3 b h).imp (List.mem_append_right _) id
theorem EM{n m:Nat}{i:Int}(h:bJ n i=some m):m<n:=by
 unfold bJ at h;split at h
 · split at h
   ·cases h;omega
   ·cases h
 · split at h
   ·cases h;omega
   ·cases h
theorem Ax (i:Nat) {o e k:Expr} {f:Pt} {g:Ex} {h:Xt} {p3:Pos} (ho:JL X i o f) (he:JX X e h) (hk:JE X k g)
   (ha:jj X.env o k p3)
   (hs:swapsWithSole [.Subscript o k p3] e pos.line X.env=pure false:=by rfl) (hw:swappedStores [.Subscript o k p3] e X.env=pure none:=by rfl) (h1:(assignEach [.Subscript o k p3] X.env).map (·.2)=[assign (.Subscript o k p3) X.env]:=by rfl):
   JS X (.Assign [.Subscript o k p3] e pos) (kK i f g h):=λF0=>
 cm (L2.pW he (L2.vz ho hk L2.set_list ha) hs hw h1) λD σ H ⟨ρ,F,fl,r,e,q⟩=>by
   obtain⟨u,eu,e⟩:=av.mp e;obtain⟨p,ep,e⟩:=av.mp e;obtain⟨y,ey,e⟩:=av.mp e;split at e
   · rename_i t j q1
     split at e
     · rename_i ts JQ
       split at e
       · rename_i m hm
         cases e;obtain⟨⟨w,Ow,ew,tr,nd⟩,_,_⟩:=r.rs.on i _ q1;refine⟨ρ,F,u,r.rs,eu,λv H1 F1 as s1 hn PQ hF Od=>?_⟩;obtain⟨LW,r1⟩:=r.rs.wide s1 hn hF (λb hb=>(Od.fs b hb).2);refine⟨ρ,F1,t,w,p,_,r1,q1,ew,ep,JQ,λv0 H2 s2 at2=>⟨ρ,F1,_,r1.same s2,ey,λw2 H3 s3 Km=>?_⟩⟩;have L6:ak H H3:=s1.trans (s2.trans s3);obtain⟨v',Mn⟩:=aq.ex tr JQ;have ev:v'=v0:=aq.lV (aq.same r.rs q1 ew L6 Mn) (aq.same (r1.same s2) q1 ew s3 at2);subst ev;obtain⟨bs,tp,sub⟩:=aq.part tr Mn;have ND:=tp;simp only[ah]at tp;obtain⟨a,xs,cs,rfl,rfl,fa,ha,JR⟩:=tp;have Lp:=nd.sublist sub;have Ms:=List.nodup_cons.mp Lp;refine⟨a,xs,j,m,rfl,br Km,L6 _ _ ha,by rw[<-JR.len];exact hm,?_⟩
         have Np:a∉as:=λhb=>by rw[hn a hb]at ha;cases ha
         have Nq:∀b,F b->F1 b:=λb f=>(hF b).mpr (.inl f);have N1:Mv F H F1 (upd H3 a (.lst (xs.set m v))):=λb o n e=>⟨λf=>((hF b).mp f).elim n λhb=>(by rw[hn b hb]at e;cases e),by rw[L2.aE (λz=>by subst z;exact n fa)];exact L6 _ _ e⟩
         have Qa:Mv F1 H1 F1 (upd H3 a (.lst (xs.set m v))):=λb o n e=>⟨n,by rw[L2.aE (λz=>by subst z;exact n (Nq _ fa))];exact(s2.trans s3) _ _ e⟩
         have PN:=au.mv N1 (λb hb o f e=>⟨Nq b f,by rw[L2.aE (λz=>by subst z;exact Ms.1 hb)];exact L6 _ _ e⟩) JR
         have Qi:=Od.mv Qa λb hb o f e=>⟨f,by rw[L2.aE (λz=>by subst z;exact Np hb)];exact(s2.trans s3) _ _ e⟩
         obtain⟨Kt,k1,k2,k3,k4⟩:=au.vW Qi PQ (m:=m) (EM hm) PN Ms.2 λb hb hc=>by
           obtain⟨_,o,e⟩:=JR.fs b hc;rw[hn b hb]at e;cases e
         have C:en (aB X) H (upd H3 a (.lst (xs.set m v))) F F1 a (.l ts) (.l (ts.set m u)) (a::cs) (a::Kt):=
           {
             old:=ND
             mem:=List.mem_cons_self
             new:=by
               simp only[ah];exact⟨a,_,_,rfl,rfl,Nq a fa,L2.bf,k1⟩
             nd:=List.nodup_cons.mpr ⟨λhb=>(k3 a hb).elim Ms.1 Np,k2⟩
             out:=λb o n e=>by rw[L2.aE n];exact L6 _ _ e
             fs:=λb=>by
               rw[hF b];refine⟨λh=>h.imp id λhb=>List.mem_cons_of_mem _ (k4 b hb),λh=>h.elim .inl λhb=>?_⟩;rcases List.mem_cons.mp hb with rfl|hb
               ·exact .inl fa
               ·exact(k3 b hb).imp (λh=>(JR.fs b h).1) id
             gU:=λb hb=>by
               rcases List.mem_cons.mp hb with rfl|hb
               ·exact .inl List.mem_cons_self
               ·exact(k3 b hb).imp (List.mem_cons_of_mem _) (hn b)}
         obtain⟨mv,r'⟩:=r.oJ q1 ew Mn C rfl;exact q _ _ _ mv r'
       ·cases e
     ·cases e
   ·cases e
end
noncomputable def nu(i:Nat):Sm:=λρ=>match ρ[i]? with
 |some (.on (.tr _))=>.ok (.dR i ρ)
 |_=>.bad
noncomputable def jY(n:Nat)(b:Sm):D->T->R (T×T):=λd t=>(b (.sh d::.on (.tr t)::List.replicate (n - 2) .un)).bind λ(f:Fl)=>match f with
 | .dR i ρ=>(match ρ[i]?,ρ[1]? with
   |some (Slot.on (.tr u)),some (Slot.on (.tr t'))=>if i≠1 then .ok (u,t')else .bad
   |_,_=>.bad)
 |_=>.bad
noncomputable def wQ(M:Md)(m:D->T->R (T×T)):L2.Sp:=λvs H Q _=>∃F d t u t' w as v0,vs=[v0,w]/\(∀p,F p->∃o,H p=some o)/\ah M H F t w as/\as.Nodup/\Rep M H F d v0/\m d t=.ok (u,t')/\
 ∀v H' F' as' bs,(∀b o,b∉as->H b=some o->H' b=some o)->(∀b∈as',b∈as\/H b=none)->(∀b∈bs,b∈as\/H b=none)->as'.Nodup->bs.Nodup->(∀b∈as',b∉bs)->(∀b,F' b↔((F b/\b∉as)\/b∈as')\/b∈bs)->ah M H' F' t' w as'->ah M H' F' u v bs->Q v H'
structure ky(P:Program)(w:World)(K:PySem.W.Frag)(mg:Str->Option Value)(base:Heap)(x:Str)(k:Nat)(m:D->T->R (T×T)):Prop where
 ex:∃f fd ps,L2.d3 P w K mg base L2.cI k f fd ps (wQ ⟨K,P,w⟩ m)/\L2.Binds K fd ps []/\PySem.W.keepIn K (.ref f)=true/\mg x=some (.ref f)
section
variable{X:Cx}{M:Md}{G H H':Hp}{F0:Gf}{F F':Addr->Prop}{σ:L2.St}{ρ:En}{pos:Pos}{pins:List (Addr×Obj)}{s:Shared}{as:List Addr}
theorem Ew(i:Nat){x:Str}{p2:Pos}(hN:X.N[i]? =some x)(hv:L2.cf X.env.scope x)(hd:(x==("__debug__":Str))=false)(Jx:(x==("__classdict__":Str))=false):JS X (.Return (some (.Name x p2)) pos) (nu i):=λF0=>
 cm (L2.jZ (L2.pv i hN hv hd Jx)) λD σ H ⟨ρ,F,fl,r,e,q⟩=>by
   unfold nu at e;split at e
   · rename_i t q1
     cases e;obtain⟨⟨w,as,ew,tr,nd⟩,_,_⟩:=r.rs.on i _ q1;exact⟨w,ew,q σ H F w Mv.refl r ew⟩
   ·cases e
theorem C7{N:List Str}{d:D}{v0:V}{t:T}{w:V}(tk:∀p,F p->∃o,G p=some o)(tr:ah M G F t w as)(nd:as.Nodup)(rd:Rep M G F d v0)(hn:2<=N.length):
   aT M (without G as) ⟨without G as,λb=>F b/\b∉as,some (true,w)⟩ G F (L2.start N [v0,w]) (.sh d::.on (.tr t)::List.replicate (N.length - 2) .un):=by
 generalize LN:(.sh d::.on (.tr t)::List.replicate (N.length - 2) .un:En)=ρ
 have get:∀(i:Nat) s,ρ[i]? =some s->(i=0/\s=.sh d)\/(i=1/\s=.on (.tr t))\/s=.un:=by
   intro i s hs;rw[<-LN]at hs;cases i with
   |zero=>cases hs;exact .inl ⟨rfl,rfl⟩
   | succ j=>
     cases j with
     |zero=>cases hs;exact .inr (.inl ⟨rfl,rfl⟩)
     | succ j=>
       rw[List.getElem?_cons_succ,List.getElem?_cons_succ,List.getElem?_replicate]at hs;split at hs<;>cases hs;exact .inr (.inr rfl)
 have s1:(L2.start N [v0,w])[1]? =some (some w):=by unfold L2.start;rfl
 have no:∀i,¬bp ρ i:=by
   intro i hi;rcases hi with⟨x,hx⟩|⟨k,x,hx⟩
   ·rcases get _ _ hx with⟨_,h⟩|⟨_,h⟩|h<;>cases h
   ·rcases get _ _ hx with⟨_,h⟩|⟨_,h⟩|h<;>cases h
 have Qw:∀(i:Nat) x,ρ[i]? =some (.on x)->i=1/\x=.tr t:=by
   intro i x hx;rcases get _ _ hx with⟨_,h⟩|⟨h0,h⟩|h
   ·cases h
   ·injection h with h;exact⟨h0,h⟩
   ·cases h
 have Li:∀(i:Nat) b,bO M G F (L2.start N [v0,w]) ρ i b->b∈as:=by
   intro i b ⟨t1,v1,Kw,e1,ev,LV,hb⟩;obtain⟨rfl,h⟩:=Qw i _ e1;injection h with h;subst h;rw[s1]at ev;cases ev;have:=ah.gX tr LV;subst this;exact hb
 refine⟨⟨?_,tk,?_,?_,?_,?_,?_⟩,λb o e=>?_,λb h=>h.1,λb h=>?_,λi a oi=>absurd oi (no i),λi x b e hb=>if_pos (Li i b hb),λv hv t1 e1=>by cases hv;exact s1⟩
 ·rw[<-LN];unfold L2.start;simp
 · intro i d' hd
   rcases get _ _ hd with⟨rfl,h⟩|⟨_,h⟩|h
   ·cases h;exact⟨v0,by unfold L2.start;rfl,rd⟩
   ·cases h
   ·cases h
 ·intro i d hd;exact absurd (.inl ⟨_,hd⟩) (no i)
 ·intro i k d hd;exact absurd (.inr ⟨_,_,hd⟩) (no i)
 ·intro i j a oi;exact absurd oi (no i)
 · intro i x hx
   obtain⟨rfl,rfl⟩:=Qw i x hx;exact⟨⟨w,as,s1,tr,nd⟩,λb _ j oj=>absurd oj (no j),λt1 _ j t2 h2 hj=>absurd (Qw j _ h2).1 hj⟩
 · unfold without at e
   split at e
   ·cases e
   ·exact e
 · obtain⟨o,e⟩:=tk b h.1
   exact⟨o,by show(if b∈as then none else G b)=_;rw[if_neg h.2];exact e⟩
theorem D5{N:List Str}{body:Sm}{vs:List V}{Q:VK}{E:XK}{t:TS}(ht:∀(F0:Gf) D σ H,de M F0.g F0 body D σ H->t D σ H)(h:wQ M (jY N.length body) vs G Q E)(hn:2<=N.length):t {nx:=λ_ H'=>Q .aD H',rt:=Q} (L2.start N vs) G:=by
 obtain⟨F,d,t0,u,t',w,as,v0,rfl,tk,tr,nd,rd,e,q⟩:=h;obtain⟨f,ef,e⟩:=av.mp e;refine ht ⟨without G as,λb=>F b/\b∉as,some (true,w)⟩ _ _ _ ⟨_,F,f,C7 tk tr nd rd hn,ef,?_⟩;cases f with
 | dR i ρ'=>
   have e:(match ρ'[i]?,ρ'[1]? with|some (Slot.on (.tr u)),some (Slot.on (.tr t'))=>if i≠1 then R.ok (u,t')else .bad|_,_=>.bad)=.ok (u,t'):=e
   split at e
   · rename_i u1 t1 ei e1
     split at e
     · rename_i hi
       cases e;intro Jl H' F' v mv r' ev;obtain⟨⟨w',as',ew,Kx,QR⟩,_,h3⟩:=r'.rs.on 1 _ e1;obtain⟨⟨v',bs,Nx,Qp,Lp⟩,_,_⟩:=r'.rs.on i _ ei;have hw:Jl[1]? =some (some w):=r'.pin (true,w) rfl _ e1;rw[ew]at hw;cases hw;rw[ev]at Nx;cases Nx;have Rx:∀b∈as',bO M H' F' Jl ρ' 1 b:=λb hb=>⟨_,_,as',e1,ew,Kx,hb⟩;have Ri:∀b∈bs,bO M H' F' Jl ρ' i b:=λb hb=>⟨_,_,bs,ei,ev,Qp,hb⟩
       have old:∀b,(if b∈as then none else G b)=none->b∈as\/G b=none:=λb hg=>by
         by_cases hb:b∈as
         ·exact .inl hb
         ·rw[if_neg hb]at hg;exact .inr hg
       have less:∀b,((F b/\b∉as)\/b∈as')\/b∈bs->F' b:=λb hb=>by
         rcases hb with(z|z)|z
         ·exact r'.sub b z
         ·exact(Kx.fs b z).1
         ·exact(Qp.fs b z).1
       exact q v H' (λb=>((F b/\b∉as)\/b∈as')\/b∈bs) as' bs (λb o hb ho=>r'.sm b o (by show(if b∈as then none else G b)=_;rw[if_neg hb];exact ho)) (λb hb=>old b (r'.dS 1 _ b e1 (Rx b hb))) (λb hb=>old b (r'.dS i _ b ei (Ri b hb))) QR Lp
         (λb ha hb=>h3 _ rfl i _ ei hi b (Rx b ha) (Ri b hb)) (λb=>Iff.rfl) (ah.less (F:=F') less (λb hb=>.inl (.inr hb)) Kx) (ah.less (F:=F') less (λb hb=>.inr hb) Qp)
     ·cases e
   ·cases e
 |_=>cases e
theorem Dc{P:Program}{w:World}{K:PySem.W.Frag}{mg:Str->Option Value}{base:Heap}{x qual:Str}{st:Stmt}{f:Addr}{fd:FuncData}{N ps:List Str}{k:Nat}{body:Sm}(Fu:L2.eW K x qual st f fd)(hm:mg x=some (.ref f))(S:L2.bG N ps (L2.aS st))(hb:L2.Binds K fd ps [])
   (h:∀(Jq:Value) (A:Around) (outer:List Env) (s:Shared) (H:Hp) (E:XK),L2.bC k (A.deeper (PyProof.Rows.envOfC qual (L2.aS st) s.heap.objs.size f Jq))->cC (L2.e6 L2.cI P w K mg base N qual (L2.aS st) f Jq A outer s H E).fT (L2.dY st) body)
   (hn:ps.length=2):ky P w K mg base x (k+1) (jY N.length body):=by
 refine⟨f,fd,ps,Fu.ok S (λvs H Q E h=>?_) (λJq A outer s H vs Q E hr Lg=>?_),hb,Fu.kp,hm⟩
 · obtain⟨F,d,t0,u,t',w,as,v0,rfl,_⟩:=h
   rw[hn];rfl
 · refine⟨λD σ H'=>∃F0:Gf,de ⟨K,P,w⟩ F0.g F0 body D σ H',λpins s' σ H' D I ⟨F0,q⟩=>h Jq A outer s H E hr F0 pins s' σ H' D I q,?_⟩
   refine D5 (G:=H) (t:=λD σ H'=>∃F0:Gf,de ⟨K,P,w⟩ F0.g F0 body D σ H') (λF0 D σ H' h=>⟨F0,h⟩) Lg ?_;have:=congrArg List.length S.pre;rw[List.length_take]at this;omega
noncomputable def mw(k i:Nat)(m:D->T->R (T×T))(f:Ex):Sm:=λρ=>(f ρ).bind λd=>match ρ[i]? with
 |some (.on (.tr t))=>(m d t).bind λy=>if y.2.own=true/\gf k (dQ i [] ρ)=true/\2<=k/\k≠i then .ok (.next (((dQ i [] ρ).set i (.on (.tr y.2))).set k (.on (.tr y.1))))else .bad
 |_=>.bad
theorem zi{k i:Nat}{t:T}(h:gf k ρ=true):gf k (ρ.set i (.on (.tr t)))=true:=by
 unfold gf at h ⊢;rw[List.all_eq_true]at h ⊢;intro x hx;rcases List.mem_or_eq_of_mem_set hx with h1|rfl
 ·exact h x h1
 ·rfl
theorem Es (k i:Nat) {z x y:Str} {c j:Nat} {m:D->T->R (T×T)} {e:Expr} {f:Ex} {p p2 p3 A':Pos} (d:ky X.prog X.w X.K X.mg X.base y c m) (hr:L2.bC j X.A) (hg:L2.Gl X y) (hX:X.N.Nodup) (he:JE X e f) (hN:X.N[i]? =some x) (hv:L2.cf X.env.scope x) (hd:(x==("__debug__":Str))=false) (Jx:(x==("__classdict__":Str))=false)
   (hz:X.N[k]? =some z) (hx:L2.Loc X.env.scope z) (hf:X.fn z=true\/X.env.scope.names.lookup z=some .local)
   (hk:c<=j) (Kf:(y==("__debug__":Str))=false) (Me:starEach [e,.Name x p2] X.env=(false,eval e X.env)::starEach [.Name x p2] X.env) (Kd:starEach [.Name x p2] X.env=(false,eval (.Name x p2) X.env)::starEach [] X.env) (JV:(backTo A' (starEach [.Name x p2] X.env)).any (·.1)=false)
   (hs:swapsWith (.Call (.Name y p) [e,.Name x p2] [] A') (some (.Name z p3)) pos.line X.env=pure false):JS X (.Assign [.Name z p3] (.Call (.Name y p) [e,.Name x p2] [] A') pos) (mw k i m f):=λF0=>by
 obtain⟨g,fd,ps,h1,h2,h3,h4⟩:=d.ex;refine cm (L2.lL hX hz hx (L2.mW h1 (hr.mono hk) hg h4 h3 h2 .nil L2.nz (L2.jz he (L2.jz (L2.pv i hN hv hd Jx) L2.kY Kd) Me) Kf Me JV) hs hf) λD σ H ⟨ρ,F,fl,r,e,q⟩=>?_;obtain⟨d1,ed,e⟩:=av.mp e;split at e
 · rename_i t q1
   obtain⟨⟨u,t'⟩,et,e⟩:=av.mp e;split at e
   · rename_i hc
     obtain⟨PY,OH,K9,KD⟩:=hc;cases e;refine⟨ρ,F,d1,r.rs,ed,λv0 H1 s1 rv=>?_⟩;have r1:=r.same s1;obtain⟨⟨w,as,ew,tr,nd⟩,_,_⟩:=r1.rs.on i _ q1;refine⟨w,ew,?_⟩;refine⟨F,d1,t,u,t',w,as,v0,rfl,r1.rs.aX,tr,nd,rv,et,λv H' F' as' bs ho Np Te R6 Lp b4 hF TV Ss=>?_⟩
     have e2:Mv F' H' (λb=>(F b/\b∉as)\/b∈as') (without H' bs):=λb o n e=>by
       have nb:b∉bs:=λhb=>n ((hF b).mpr (.inr hb));exact⟨λh=>n ((hF b).mpr (.inl h)),by show(if b∈bs then none else H' b)=_;rw[if_neg nb];exact e⟩
     obtain⟨mv,r'⟩:=(r1.drop i []).DY (H':=without H' bs) (F':=λb=>(F b/\b∉as)\/b∈as') (t':=t') (wq q1) ew tr Np (λb o hb hu=>by
         have nb:b∉bs:=λh=>(Te b h).elim hb λz=>by rw[z]at hu;cases hu
         show(if b∈bs then none else H' b)=_;rw[if_neg nb];exact ho b o hb hu) (λ_=>Iff.rfl)
       (TV.mv e2 λb hb o f hu=>⟨.inr hb,by show(if b∈bs then none else H' b)=_;rw[if_neg (b4 b hb)];exact hu⟩) R6 (λj p h t1 w' LI o1=>by
       rcases qU h with z|⟨_,z⟩
       ·cases z
       · have:=z p rfl
         cases p with
         | nil=>
           simp only[aq]at LI;exact⟨t',PY,by unfold aq;exact⟨rfl,LI.2⟩⟩
         |cons a b=>cases this)
     obtain⟨O8,r2⟩:=r'.xE (i:=k) (H':=H') (F':=F') (as:=bs) (zi OH) K9 (λb o e=>by
         have e:(if b∈bs then none else H' b)=some o:=e
         split at e
         ·cases e
         ·exact e) (λb hb=>if_pos hb) Lp (λb=>hF b) Ss
     exact q _ _ _ (Mv.trans (.same s1) (mv.trans O8)) r2
   ·cases e
 ·cases e
theorem DB{P:Program}{w:World}{K:PySem.W.Frag}{mg:Str->Option Value}{base:Heap}{x:Str}{st:Stmt}{N ps:List Str}{k:Nat}{body:Sm}(F:FH P w K mg base x st)(S:L2.bG N ps (L2.aS st))(h:Jd P w K mg base x st N k body)(b:Bd x st ps:=by exact λ_ _ _ _ _ _ us hl=>(match us,hl with|[_,_],_=>rfl))(hn:ps.length=2:=by rfl):ky P w K mg base x (k+1) (jY N.length body):=by
 obtain⟨f,fd,Fu,hm⟩:=F;exact Dc Fu hm S (Fu.binds b) (h f) hn
end
def j8(v:D):Prop:=(lay v=true/\dep v<=6)\/∃(ks ns:List Int),v=.aN (ks.map Sum.inl) (ns.map .int)
def uG(d:D):Prop:=d=.aD\/∃ks vs,d=.aN ks vs/\∀v∈vs,j8 v
def kl(a:D):Prop:=∃ds,a=.lst ds/\∀d∈ds,uG d
noncomputable def fX(a b:D):R D:=@ite _ (a=b/\kl a) (Classical.propDecidable _) (.ok (.bl true)) .bad
theorem tG{a:D}(h:kl a):fX a a=.ok (.bl true):=by unfold fX;rw[if_pos ⟨rfl,h⟩]
def nq(P:Program)(w:World)(A:Around)(s:Shared)(y x:Value):Prop:=∀(E:Value->Shared->Prop) (Q:Bool->Shared->Prop),Q true s->wpAny (model P w) A (eqBool y x) Q E s
section
variable{X:Cx}{M:Md}{G H H':Hp}{F F':Addr->Prop}{σ:L2.St}{ρ:En}{pos:Pos}{pins:List (Addr×Obj)}{s:Shared}
open PySem.AutoSeq1 (wpAny_loadPart') in
open PySem PySem.SeqAt PySem.MeetsSeq PySem.MeetsSeq2 PySem.MeetsSeq3 PySem.SeqRoads2 in
theorem HB{P:Program}{w:World}{a b:Addr}{xs ys:Array Value}{n m:Nat}{d1 d2:Option Addr}{t1 t2:Array (Option Value)}(hz:xs.size=ys.size)(k:Nat):
   ∀i:Nat,xs.size - i=k->MeetsIn P w (Builtin.«list.__eq__.loop» ⟨[.ref a,.ref b,rawInt i,rawInt 2],[]⟩)
     (λA R s=>s.heap.get? a=some {cls:=.type "list",dict:=d1,data:=.seq xs n,slots:=t1}/\s.heap.get? b=some {cls:=.type "list",dict:=d2,data:=.seq ys m,slots:=t2}/\(∀j (h1:j<xs.size) (h2:j<ys.size),nq P w A.in1 s xs[j] ys[j])/\R (.ok (.ret (.bool true))) s):=by
 induction k with
 | zero=>
   intro i hk A R s ⟨g1,g2,he,q⟩;obtain⟨hp,g,d,tk,os⟩:=s
   wp_walk using wpAny_loadPart' g1,wpAny_loadPart' g2
   have e1:xs[((i:Nat):Int).toNat]? =none:=by simp;omega
   have e2:ys[((i:Nat):Int).toNat]? =none:=by simp;omega
   rw[e1,e2]
   wp_walk using wpAny_loadPart' g1,wpAny_loadPart' g2
   show R (.ok (.ret (.bool (xs.size==ys.size)))) _;rw[hz];simpa using q
 | succ k ih=>
   intro i hk A R s ⟨g1,g2,he,q⟩;obtain⟨hp,g,d,tk,os⟩:=s
   wp_walk using wpAny_loadPart' g1,wpAny_loadPart' g2
   have l1:i<xs.size:=by omega
   have l2:i<ys.size:=by omega
   have e1:xs[((i:Nat):Int).toNat]? =some xs[i]:=by simp[l1]
   have e2:ys[((i:Nat):Int).toNat]? =some ys[i]:=by simp[l2]
   have hc:((i:Int)+1)=((i+1:Nat):Int):=by push_cast;rfl
   rw[e1,e2];refine wpAny_bind (he i l1 l2 _ _ ?_)
   wp_walk
   rw[hc];refine⟨plainId_quiet plain_eq_loop _,codeAny_builtin entry_eq_loop ?_⟩;rw[Around.under_plainId plain_eq_loop _];exact ih (i+1) (by omega) A R _ ⟨g1,g2,he,q⟩
open PySem.AutoSeq1 (wpAny_loadPart') in
open PySem PySem.SeqAt PySem.MeetsSeq PySem.MeetsSeq2 PySem.MeetsSeq3 PySem.SeqRoads2 in
theorem CM{P:Program}{w:World}{a b:Addr}{xs ys:Array Value}{n m:Nat}{d1 d2:Option Addr}{t1 t2:Array (Option Value)}(hz:xs.size=ys.size):
   MeetsIn P w (Builtin.«list.__eq__» ⟨[.ref a,.ref b],[]⟩)
     (λA R s=>s.heap.get? a=some {cls:=.type "list",dict:=d1,data:=.seq xs n,slots:=t1}/\s.heap.get? b=some {cls:=.type "list",dict:=d2,data:=.seq ys m,slots:=t2}/\(∀j (h1:j<xs.size) (h2:j<ys.size),nq P w A.in1 s xs[j] ys[j])/\R (.ok (.ret (.bool true))) s):=by
 intro A R s ⟨g1,g2,he,q⟩;obtain⟨hp,g,d,tk,os⟩:=s;have f3:=AutoSeq1.sub_list_list;have C':¬(xs.size != ys.size)=true:=by simp[hz]
 wp_walk using wpAny_loadPart' g1,wpAny_loadPart' g2
 refine⟨plainId_quiet plain_eq_loop _,codeAny_builtin entry_eq_loop ?_⟩;rw[Around.under_plainId plain_eq_loop _];exact HB hz _ 0 rfl A R _ ⟨g1,g2,he,q⟩
mutual
theorem vC:∀d:D,lay d=true->bq d d=true
 |.aD,_=>rfl
 |.bl b,_=>by simp
 |.int i,_=>by simp
 |.str x,_=>by simp
 |.tup xs,h=>by unfold bq;exact qN xs (by unfold lay at h;exact h)
 |.lst xs,h=>by unfold bq;exact qN xs (by unfold lay at h;exact h)
 |.aN _ _,h=>by unfold lay at h;cases h
 |.df _ _ _,h=>by unfold lay at h;cases h
theorem qN:∀ds:List D,cN ds=true->d4 ds ds=true
 |[],_=>rfl
 | d::ds,h=>by
   unfold cN at h;rw[Bool.and_eq_true]at h;unfold d4;rw[vC d h.1,qN ds h.2];rfl
end
theorem rX{A:Around}{c:D}{z z':V}{m m':Value}(I:Inv X pins σ H s)(hu:A.units+16<cLine)(h:j8 c)(rc:Rep (aB X) H F c z)(L':Rep (aB X) H F c z')(r:RelV z m)(r':RelV z' m'):SeqAt.EqAt A s m m' true:=by
 rcases h with⟨h,hd⟩|⟨ks,ns,rfl⟩
 · obtain⟨as,h1⟩:=gP I h rc r
   obtain⟨bs,h2⟩:=gP I h L' r';have:=SeqAt.eqAt_reads _ _ A s m m' as bs h1 h2 (g6 _ h) (g6 _ h) (by rw[i7 _ h];omega)
   rw[ml _ _ h h,vC _ h]at this;exact this
 · by_cases hl:ks.length=ns.length
   · refine HQ I (by omega) (.inr ⟨ks,ks,_,_,rfl,rfl,rfl,λi k v hk hv=>⟨i,v,hk,hv,?_⟩⟩) rc L' r r'
     rw[List.getElem?_map]at hv;obtain⟨n,_,rfl⟩:=Option.map_eq_some_iff.mp hv;exact⟨n,rfl,rfl⟩
   · exfalso
     simp only[Rep]at rc;obtain⟨p,xs,_,_,l,rs⟩:=rc;have:=rs.length;simp at l this;omega
theorem G7{c:D}{z z':V}{m m':Value}{A:Around}(I:Inv X pins σ H s)(hu:A.units+40<cLine)(h:uG c)(rc:Rep (aB X) H F c z)(L':Rep (aB X) H F c z')(r:RelV z m)(r':RelV z' m'):nq X.prog X.w A s m m':=by
 rcases h with rfl|⟨ks,vs,rfl,h⟩
 · cases kS rc
   cases kS L';cases r;cases r';exact λE Q q=>SeqAt.EqAt.same _ _ _ E Q q
 · simp only[Rep]at rc L'
   obtain⟨p,xs,rfl,hp,lp,rs⟩:=rc;obtain⟨q,ys,rfl,hq,lq,Le⟩:=L';cases r;cases r';by_cases e:p=q
   ·subst e;exact λE Q q=>SeqAt.EqAt.same _ _ _ E Q q
   · obtain⟨_,Me,ka,rel,dd⟩:=gz I hp
     obtain⟨_,Kd,kb,Lz,LJ⟩:=gz I hq;have la:=gS rel;have lb:=gS Lz;have hl:ka.length=kb.length:=by rw[<-la, <-lb,List.length_zip,List.length_zip];omega
     have Qb:A.in1.units+16<cLine:=by rw[PySem.Around.in1_units];omega
     have hh:PySem.W.KeqHits A.in1 s kb ka true:=p4 λpr OD=>by
       obtain⟨i,hi⟩:=List.getElem?_of_mem OD;obtain⟨z,hz,e1,r1⟩:=mT rel hi;obtain⟨KO,K3⟩:=List.getElem?_zip_eq_some.mp (show(ks.zip xs)[i]? =some (z.1,z.2)from hz)
       obtain⟨d,hd,rd⟩:=rs.get' K3;obtain⟨z',OF,Oe⟩:=Le.get hd;obtain⟨P0,Nc,e2,r2⟩:=vS Lz (i:=i) (q:=(z.1,z')) (List.getElem?_zip_eq_some.mpr ⟨KO,OF⟩);obtain⟨_,_,_,_,_,_,_,_,nd⟩:=LJ;refine⟨P0.2,?_,rX I Qb (h d (List.mem_of_getElem? hd)) rd Oe r1 r2⟩;rw[<-e1];refine valueAt_of_get nd (i:=i) ?_;rw[Nc];exact congrArg some (Prod.ext e2.symm rfl)
     intro E Q PH;unfold eqBool;refine wpAny_holding ?_;refine wpAny_ite_split (λTM=>absurd (by have:=eq_of_beq TM;injection this) e) (λ_=>?_)
     refine wpAny_bind (PySem.W.keq_eq (r:=true) Me Kd dd LJ (by omega) (λ_=>hh) (wpAny_truthy_bool ?_))
     rw[hl];simpa using PH
def vg(M:Md):R2:=λx y H Q=>∃F a,Rep M H F a x/\Rep M H F a y/\kl a/\Q (.bl true) H
theorem t8(hu:X.A.units+64<cLine):aZ X (compareOp .Eq) (vg (aB X)):=by
 intro pins s σ H x y v u Q I rx ry h;obtain⟨F,a,ra,rb,⟨ds,rfl,h⟩,q⟩:=h;simp only[Rep]at ra rb;obtain⟨p,xs,rfl,hp,rs⟩:=ra;obtain⟨r,ys,rfl,hr,Le⟩:=rb;cases rx;cases ry;obtain⟨us,n,t1,v1,g1,_⟩:=jg I hp;obtain⟨ws,m,t2,v2,g2,_⟩:=jg I hr;have Qb:X.A.in1.units+40<cLine:=by rw[PySem.Around.in1_units];omega
 have hz:us.toArray.size=ws.toArray.size:=by
   rw[List.size_toArray,List.size_toArray, <-v1.length, <-v2.length, <-rs.length, <-Le.length]
 refine wpAny_richCompare_same_room (op:=.Eq) ⟨_,g1,rfl⟩ ⟨_,g2,rfl⟩ PySem.F.slot_list_eq (call_meetsIn PySem.F.slot_list_eq ⟨_,g1,rfl⟩ PySem.F.entry_list_eq (PySem.F.args_list_eq_2 _ _) (CM hz) ⟨g1,g2,λj h1 h2=>?_,?_⟩) (by omega)
 · rw[List.size_toArray]at h1 h2
   have e1:us[j]? =some us[j]:=List.getElem?_eq_getElem h1;have e2:ws[j]? =some ws[j]:=List.getElem?_eq_getElem h2;have l1:j<xs.length:=by rw[v1.length];exact h1
   have l2:j<ys.length:=by rw[v2.length];exact h2
   obtain⟨u1,f1,r1⟩:=v1.get (List.getElem?_eq_getElem l1);obtain⟨u2,f2,r2⟩:=v2.get (List.getElem?_eq_getElem l2);rw[e1]at f1;cases f1;rw[e2]at f2;cases f2;obtain⟨d,hd,rd⟩:=rs.get' (List.getElem?_eq_getElem l1);obtain⟨y2,hy,Oe⟩:=Le.get hd;rw[List.getElem?_eq_getElem l2]at hy;cases hy;show nq _ _ _ _ us.toArray[j] ws.toArray[j];rw[List.getElem_toArray,List.getElem_toArray];exact G7 I Qb (h d (List.mem_of_getElem? hd)) rd Oe r1 r2
 ·exact⟨(λz=>nomatch z),.bl true,H,I,rfl,q⟩
theorem Hv{a b d:D}(h:fX a b=.ok d):d=.bl true/\a=b/\kl a:=by
 unfold fX at h;split at h
 ·rename_i hh;cases h;exact⟨rfl,hh.1,hh.2⟩
 ·cases h
theorem wa:cz M fX (vg M):=by
 intro F H x y a b d Q tr ra rb e q;obtain⟨rfl,rfl,h⟩:=Hv e;exact⟨F,a,ra,rb,h,q _ _ (ak.refl _) eE⟩
end
noncomputable def kG:D->D->R D
 |.int i,.int n=>.ok (.bl (decide (0<=i/\i<n)))
 |_,_=>.bad
section
variable{X:Cx}{M:Md}{G H H':Hp}{F F':Addr->Prop}{σ:L2.St}{ρ:En}{pos:Pos}{pins:List (Addr×Obj)}{s:Shared}
theorem Ge(r:Addr)(a b c i:Int)(t1 t2 t3 t:Tok):
   Meets (Builtin.«range.__contains__» ⟨[.ref r,.int i t],[]⟩) (λ_ R s=>s.heap.get? r=some {cls:=.type "range",dict:=none,data:=.fields #[.int a t1,.int b t2,.int c t3],slots:= #[]}/\R (.ok (.ret (.bool (Builtin.Range.rangePlace? a b c i).isSome))) s):=
 .of_wp λprog w A R s ⟨g1,q⟩=>by obtain⟨hp,g,d,tk,os⟩:=s;wp_walk;exact⟨_,rfl,q⟩
theorem Ba:bE X (.type "range") (λxs H Q=>∃n,xs=[.int n]/\∀l,H l=none->Q (.ref l) (upd H l (.jd 0 n))):=by
 intro pins s σ H xs us Q I r h;obtain⟨n,rfl,q⟩:=h;obtain⟨u,rfl,ru⟩:=L2.vals1 r;obtain⟨t,rfl⟩:=ru;exact call_range_1 ⟨.ref _,_,I.laid (o:=.jd 0 n) (λ_ _ q=>Heap.get?_push_of_some _ q) (Nat.le_refl _) ⟨_,_,_,Heap.get?_push_size _ rfl⟩,rfl,q _ I.fresh⟩
def xl:R2:=λx y H Q=>∃p n i,x=.int i/\y=.ref p/\H p=some (.jd 0 n)/\Q (.bl (decide (0<=i/\i<n))) H
theorem HR:aZ X (compareOp .In) xl:=by
 intro pins s σ H x y v u Q I rx ry h;obtain⟨p,n,i,rfl,rfl,hp,q⟩:=h;cases ry;obtain⟨t,rfl⟩:=rx;obtain⟨t1,t2,t3,e⟩:=I.aH p _ hp
 have e0:(Builtin.Range.rangePlace? 0 n 1 i).isSome=decide (0<=i/\i<n):=by
   unfold Builtin.Range.rangePlace?;by_cases h:0<=i/\i<n
   ·simp[h.1,h.2]
   · have h2:(decide (0<=i)&&decide (i<n))=false:=by simpa[Bool.and_eq_false_iff] using λh1=>by omega
     simp[h2,h]
 refine PySem.SeqRoads2.in_meets ⟨_,e,rfl⟩ PySem.F.slot_range_contains PySem.F.entry_range_contains (PySem.F.args_range_contains_2 _ _) (Ge p 0 n 1 i t1 t2 t3 t) ⟨e,_,rfl,?_⟩;rw[e0];exact⟨.bl _,H,I,rfl,q⟩
theorem zR{fa fb:Ex}{Q:VK}(h:tP M (e2 kG fa fb) σ H Q):L2.kL xl (tP M fa) (L2.oy (λxs H Q=>∃n,xs=[.int n]/\∀l,H l=none->Q (.ref l) (upd H l (.jd 0 n))) (jP M (eList [fb]))) σ H Q:=by
 obtain⟨ρ,F,d,r,e,q⟩:=h;obtain⟨x,ex,e⟩:=av.mp e;obtain⟨y,ey,e⟩:=av.mp e;cases x with
 | int i=>
   cases y with
   | int n=>
     cases e;refine⟨ρ,F,_,r,ex,λv H1 s1 rv=>⟨ρ,F,[.int n],r.same s1,by show(fb ρ).bind _=_;rw[ey];rfl,λvs H2 s2 Sz=>?_⟩⟩
     obtain⟨v2,rfl,Nw⟩:=Sz.one;cases br rv;cases br Nw;exact⟨n,rfl,λl hl=>⟨l,n,i,rfl,rfl,L2.bf,q _ _ ((s1.trans s2).trans (ak.bR hl _)) eE⟩⟩
   |_=>cases e
 |_=>cases e
theorem yH{a b:Expr}{fa fb:Ex}{p Ma:Pos}(ha:JE X a fa)(hb:JE X b fb)(hg:L2.Gl X "range")(hm:X.mg "range"=none)(hs:starEach [b] X.env=(false,eval b X.env)::starEach [] X.env)(QT:behindInMarks .In (.Call (.Name "range" p) [b] [] Ma)=false):
   JT X (.Compare a [.In] [.Call (.Name "range" p) [b] [] Ma] pos) (tV (e2 kG fa fb)):=
 jN (L2.uE HR ha (L2.qT Ba hg hm PyProof.Rows.boot_range (fm hb fQ hs) (by decide) (by decide) hs (by rfl)) QT) λσ H Q ⟨ρ,F,t,hr,e,q⟩=>by
   obtain⟨d,ed,e⟩:=av.mp e;refine zR ⟨ρ,F,d,hr,ed,λv H1 s1 rv=>?_⟩
   have⟨k,hk⟩:∃k,d=.bl k:=by
     obtain⟨x,ex,h⟩:=av.mp ed;obtain⟨y,ey,h⟩:=av.mp h;cases x<;>cases y<;>cases h;exact⟨_,rfl⟩
   subst hk;cases gD rv;cases e;exact⟨_,rfl,q H1 s1⟩
end
section
variable{X:Cx}{M:Md}{G H H':Hp}{F0:Gf}{F F':Addr->Prop}{σ:L2.St}{ρ:En}{pos:Pos}{pins:List (Addr×Obj)}{s:Shared}{as:List Addr}
theorem BR{H1:Hp}{s1:Shared}{Kj:L2.St}(I:Inv X pins σ H s)(nd:as.Nodup)(hH:∀b,b∉as->H' b=H b)(hz:∀b∈as,gE H H' b)(I1:Inv X pins Kj H1 s1)(sm:ak H' H1):
   ∃H2,Inv X pins Kj H2 s1/\ak H H2/\(∀b,b∉as->H2 b=H1 b)/\∀a xs,dI M H1 (λb=>F b/\b∉as) a xs->dI M H2 F a xs:=by
 have nf:∀b∈as,∀o u,X.iH b≠some (.frz o u):=λb hb o u e0=>by
   have h0:=I.base.fu b o u e0;rcases hz b hb with⟨_,xs,h2⟩|⟨ob,kvs,h1,_⟩
   ·rw[h2]at h0;cases h0
   ·rw[h1]at h0;cases h0
 have k1:∀b∈as,(H1 b=H b/\∃xs,H b=some (.lst xs))\/∃ob kvs,H b=some (.dK kvs)/\H1 b=some (.frz ob (.dK kvs)):=λb hb=>by
   rcases hz b hb with⟨h1,xs,h2⟩|⟨ob,kvs,h1,h2⟩
   ·exact .inl ⟨by rw[h2]at h1 ⊢;exact sm _ _ h1,xs,h2⟩
   ·exact .inr ⟨ob,kvs,h1,sm _ _ h2⟩
 obtain⟨H2,I2,a2,o2⟩:=uo (H:=H) I1 nf (λb hb=>(k1 b hb).imp And.left id) nd;refine⟨H2,I2,λb o e=>?_,o2,λa xs h=>?_⟩
 · by_cases hb:b∈as
   ·rw[a2 b hb];exact e
   ·rw[o2 b hb];exact sm _ _ (by rw[hH b hb];exact e)
 · rcases h with⟨n,h⟩|h
   · have ha:a∉as:=λha=>by
       rcases k1 a ha with⟨h1,ys,h2⟩|⟨ob,kvs,h1,h2⟩
       · rcases h with h|⟨o,h⟩
         ·rw[h1,h2]at h;cases h
         ·rw[h1,h2]at h;cases h
       · rcases h with h|⟨o,h⟩
         ·rw[h2]at h;cases h
         ·rw[h2]at h;cases h
     refine .inl ⟨λf=>n ⟨f,ha⟩,?_⟩;rcases h with h|⟨o,h⟩
     ·exact .inl (by rw[o2 a ha];exact h)
     ·exact .inr ⟨o,by rw[o2 a ha];exact h⟩
   ·exact .inr h
theorem Aa (i k:Nat) {st:Stmt} {f:Ex} (h:PS X st (L2.kC (j6 (aB X) f) (L2.az k))):PS X st (L2.kC (j6 (aB X) (dW i f)) (L2.az k)):=by
 intro pins s σ H D I ⟨ρ,F,ds,hr,e,q⟩;unfold dW at e;split at e
 · rename_i t q1
   obtain⟨d',ed,e⟩:=av.mp e;split at e
   · rename_i OW
     by_cases hf:PL.f7 OW=true
     · rw[if_pos hf]at e
       cases e;obtain⟨⟨w,as,ew,tr,nd⟩,_,_⟩:=hr.on i _ q1;obtain⟨H',I',hH,hz⟩:=ah.frz I tr nd;obtain⟨mv,rs⟩:=hr.dw q1 ew tr hH hz;refine wpAny_mono (h pins s σ H' {nx:=λKj H9=>∃p H1 xs,Kj=σ.set k (some (.ref p))/\H9=upd H1 p (.lst xs)/\ak H' H1/\H1 p=none/\ag (aB X) H1 (λb=>F b/\b∉as) ds xs,rt:=λ_ _=>False} I' ⟨_,_,_,rs,ed,λp H1 xs s1 hp rv=>⟨p,H1,xs,rfl,rfl,s1,hp,rv⟩⟩) (λfw s1 hs=>?_) λ_ _ x=>x;cases fw with
       | next=>
         obtain⟨Kj,H9,I1,p,H1,xs,ex,eH,sm,hp,rv⟩:=hs;subst ex eH;obtain⟨H2,I2,s2,o2,tp⟩:=BR (M:=aB X) (F:=F) I nd hH hz I1 (sm.trans (ak.bR hp _))
         have LU:p∉as:=λhb=>by
           rcases hz p hb with⟨h1,ys,h2⟩|⟨ob,kvs,h1,h2⟩
           ·rw[sm _ _ (h1.trans h2)]at hp;cases hp
           ·rw[sm _ _ h2]at hp;cases hp
         have e2:H2=upd (λb=>if b=p then none else H2 b) p (.lst xs):=by
           funext b;unfold upd;by_cases hb:b=p
           ·simp only[if_pos hb];rw[hb,o2 p LU,L2.bf]
           ·simp only[if_neg hb]
         rw[e2]at I2;refine⟨_,_,I2,q p _ xs (λb o e=>?_) (by simp) (ag.kf (λa ys ht=>?_) hf (rv.mv (F':=λb=>F b/\b∉as) (.same (ak.bR hp (.lst xs)))))⟩
         · have hb:b≠p:=λz=>by subst z;have:=hH b LU;rw[e]at this;rw[sm _ _ this]at hp;cases hp
           simp only[if_neg hb];exact s2 _ _ e
         · have NI:=tp a ys ht
           have Qd:¬F a->Rd H2 a (.tup ys)->Rd (λb=>if b=p then none else H2 b) a (.tup ys):=λn h=>by
             have ha:a≠p:=λz=>by
               subst z;rw[e2]at h;rcases h with h|⟨o,h⟩
               ·rw[L2.bf]at h;cases h
               ·rw[L2.bf]at h;cases h
             rcases h with h|⟨o,h⟩
             ·exact .inl (by simp only[if_neg ha];exact h)
             ·exact .inr ⟨o,by simp only[if_neg ha];exact h⟩
           rcases NI with⟨n,h⟩|h
           ·exact .inl ⟨n,Qd n h⟩
           ·exact .inr h
       |ret v=>obtain⟨_,_,_,_,_,z⟩:=hs;exact z.elim
       |brk=>obtain⟨_,_,_,z⟩:=hs;exact z.elim
       |cont=>obtain⟨_,_,_,z⟩:=hs;exact z.elim
     ·rw[if_neg hf]at e;cases e
   ·cases e
 ·cases e
end
noncomputable def iO(a b:Ex):Ex:=λρ=>(a ρ).bind λx=>match x with
 |.aD=>b ρ
 |.tup (y::ys)=>.ok (.tup (y::ys))
 |_=>.bad
section
variable{X:Cx}{M:Md}{G H H':Hp}{F0:Gf}{F F':Addr->Prop}{σ:L2.St}{ρ:En}{pos:Pos}{pins:List (Addr×Obj)}{s:Shared}{as:List Addr}
theorem zI{a b:Expr}{rest:List Expr}{fa fb:Ex}(ha:JE X a fa)(hb:JE X (.BoolOp .Or (b::rest) pos) fb):JE X (.BoolOp .Or (a::b::rest) pos) (iO fa fb):=by
 intro pins s σ H Q I ⟨ρ,F,d,hr,e,q⟩;obtain⟨x,ex,e⟩:=av.mp e;refine PyProof.Rows.BoolOp_or (L2.aJ (ha pins s σ H (λv H1=>ak H H1/\Rep (aB X) H1 F x v) I ⟨ρ,F,x,hr,ex,λv H1 s1 rv=>⟨s1,rv⟩⟩) λv s1 ⟨z,H1,I1,rz,sm,rx⟩=>?_);split at e
 · cases kS rx
   cases rz;refine PyProof.Rows.truthy_none ?_;rw[if_neg (by decide)]
   exact hb pins s1 σ H1 Q I1 ⟨ρ,F,d,hr.same sm,e,λv H2 s2 rv=>q v H2 (sm.trans s2) rv⟩
 · rename_i y ys
   cases e;have Tt:=rx;simp only[Rep]at rx;obtain⟨t,xs,rfl,ht,rs⟩:=rx;cases rz;obtain⟨aj,tv,tt,hl⟩:=l8 I1 ht;have h3:(sizeLine:Nat)=16777216:=sizeLine_eq;have l1:=rs.length;have l2:=tv.length;refine PyProof.Rows.truthy_tuple tt (by rw[List.size_toArray];omega) ?_
   have C':(!aj.toArray.isEmpty)=true:=by
     cases aj with
     |nil=>rw[<-l1]at l2;cases l2
     |cons a b=>rfl
   rw[if_pos C'];exact⟨.ref t,H1,I1.tok _,rfl,q _ _ sm Tt⟩
 ·cases e
end
end PL
namespace PL
namespace gL
open PySem
noncomputable abbrev S(x:String):D:=.str (Str.ofString x)
noncomputable def o6:D:=(.int 15)
noncomputable def lW:D:=(.int 8)
noncomputable def l9:Sm:=aw [mD 2 (e2 oMod (aa 0) (e2 bj (aa 3) (eC (.int 1)))) (e2 bj (aa 3) (eC (.int 1))),aK (az 0) (e2 bt (aa 0) (e2 bj (aa 3) (eC (.int 1))))]
noncomputable def fE:List D->R D:=fH 4 (aw [gR 2 (bh []),b0 (cK (aa 1)) (az 3) l9,lz 2])
noncomputable def cY:List D->R D:=fn 3 (aw [aK (az 2) (eC (.int 0)),bM (tV (e2 oLt (aa 1) (e1 cU (aa 0)))) (aK (az 2) (e2 af (aa 0) (aa 1))) (bI),b3 (e2 i6 (e2 bj (e2 bj (e2 oMod (aa 2) (e2 bL (e2 bL (eC (.int 10)) (eC (.int 50))) (eC (.int 8)))) (eC (.int 1))) (e2 i6 (eC (.int 7919)) (aa 1))) (e2 bL (e2 bL (eC (.int 10007)) (eC (.int 50))) (eC (.int 2))))])
noncomputable def l5:Sm:=aw [js 2 (e2 oMod (aa 0) (e2 bL (eC (.int 2)) (eC (.int 32)))),aK (az 0) (e2 bt (aa 0) (e2 bL (eC (.int 2)) (eC (.int 32))))]
noncomputable def iZ:List D->R D:=fH 4 (aw [gR 2 (bh []),b0 (cK (aa 1)) (az 3) l5,lz 2])
noncomputable def j4:Sm:=aw [bM (tV (e2 oEq (e2 oMod (aa 0) (eC (.int 3))) (eC (.int 1)))) (jU 7 (aa 8) (e2 bj (eC (.int 14)) (e2 oMod (e2 bt (aa 0) (eC (.int 3))) (eC (.int 186))))) (bI),aK (az 0) (e2 bt (aa 0) (eC (.int 558)))]
noncomputable def k9:List D->R T:=gi 10 (aw [aK (az 2) (e2 oMod (aa 0) (eC (.int 4))),aK (az 3) (e2 oEq (e2 oMod (e2 bt (aa 0) (eC (.int 4))) (eC (.int 3))) (eC (.int 1))),aK (az 4) (e2 af (bh [eC (.int 0),eC (.int 0),eC (.int 7),e2 oMod (e2 bt (aa 0) (eC (.int 96))) (e2 bL (eC (.int 2)) (eC (.int 32)))]) (e2 oMod (e2 bt (aa 0) (eC (.int 12))) (eC (.int 4)))),aK (az 5) (e2 oEq (e2 oMod (e2 bt (aa 0) (eC (.int 48))) (eC (.int 2))) (eC (.int 1))),aK (az 0) (e2 bt (e2 bt (aa 0) (eC (.int 96))) (e2 bL (eC (.int 2)) (eC (.int 32)))),aK (az 6) (bc iZ [aa 0,eC (.int 18)]),aK (az 0) (e2 bt (aa 0) (e2 bL (e2 bL (eC (.int 2)) (eC (.int 32))) (eC (.int 18)))),g8 7 (cS [] []),b0 (dM (eC (.int 1)) (eC (.int 8))) (az 8) j4,aK (az 9) (e2 af (bh [eC .aD,cn [bK (aa 6) (some (eC (.int 9))) (some (eC (.int 17))),e2 af (aa 6) (eC (.int 17))]]) (e1 nJ (aa 5))),eA 7,nI (ki [(eC (S "parent"),xD (aa 1)),(eC (S "rank"),xD (aa 2)),(eC (S "regs"),xD (bK (aa 6) none (some (eC (.int 8))))),(eC (S "row"),xD (e2 af (aa 6) (eC (.int 8)))),(eC (S "handles"),xD (aa 7)),(eC (S "waits"),xD (eC .aD)),(eC (S "handler"),xD (aa 4)),(eC (S "rung"),xD (aa 3)),(eC (S "saved"),xD (aa 9)),(eC (S "word"),xD (eC (.int 0)))])])
noncomputable def jM:Sm:=aw [aK (az 4) (bc cY [aa 0,aa 3]),bM (tV (e2 je (e2 oMod (aa 4) (eC (.int 5))) (eC (.int 0)))) (aw [aK (az 5) (dW 2 (e2 bj (bh [eC (.int 0)]) (e1 rL (aa 2)))),kA 2 (pN) (aa 3) (eU k9 [e2 bt (aa 4) (eC (.int 80)),e2 af (aa 5) (e2 oMod (e2 oMod (e2 bt (aa 4) (eC (.int 5))) (eC (.int 16))) (e1 cU (aa 5)))])]) (bI)]
noncomputable def lG:List D->R T:=gi 6 (aw [gx 2 (pj),b0 (cM (bc fE [bc cY [aa 0,eC (.int 31)],eC (.int 15)])) (az 3) jM,jl 2])
noncomputable def iF:List D->R D:=fH 3 (rK (bW (cM (aa 2)) 1 [0,1] (az 0) [ba (tV (e2 cu (aa 0) (aa 1))) (tV (e2 oEq (e2 af (e2 af (aa 1) (aa 0)) (eC (S "parent"))) (aa 2)))] (aa 0)))
noncomputable def kz:Sm:=bM (d9 2 (tV (e2 cu (aa 5) (aa 2)))) (aw [aK (az 6) (dW 2 (bc iF [aa 2,aa 5,aa 3])),bM (d9 2 (ba (tV (e2 oEq (aa 6) (bh []))) (ba (tV (e2 a7 (e2 af (e2 af (aa 2) (aa 5)) (eC (S "parent"))) (eC (.int 0)))) (tV (e2 oEq (e2 oMod (aa 4) (eC (.int 3))) (eC (.int 1))))))) (aw [gb 2 (pX 2 (pN) (aa 5)) (cS [(.inr (Str.ofString "waits")),(.inr (Str.ofString "handles"))] [cn [eC (S "ended"),e2 oMod (e2 bt (aa 4) (eC (.int 3))) (e2 bL (eC (.int 2)) (eC (.int 32)))],cS [] []]),gb 2 (pX 2 (pN) (aa 5)) (cS [(.inr (Str.ofString "rung")),(.inr (Str.ofString "saved"))] [eC (.bl false),eC .aD])]) (bI),aK (az 4) (e2 bt (e2 bt (aa 4) (eC (.int 3))) (e2 bL (eC (.int 2)) (eC (.int 32))))]) (bI)
noncomputable def ko:Sm:=bM (d9 2 (tV (e2 cu (aa 5) (aa 2)))) (aw [aK (az 6) (dW 2 (bc iF [aa 2,aa 5,aa 3])),aK (az 7) (dW 2 (bW (cM (aa 6)) 1 [2] (az 0) [tV (e2 oEq (e2 af (iO (e2 af (e2 af (aa 1) (aa 0)) (eC (S "waits"))) (cn [eC (S "ready")])) (eC (.int 0))) (eC (S "ended")))] (aa 0))),bM (d9 2 (ba (tV (e2 a7 (aa 6) (bh []))) (ba (tV (e2 oEq (aa 7) (bh []))) (ba (tV (e1 cR (e2 af (e2 af (aa 2) (aa 5)) (eC (S "waits"))))) (tV (e2 oEq (e2 oMod (aa 4) (eC (.int 3))) (eC (.int 1)))))))) (fo 2 (pX 2 (pN) (aa 5)) (eC (S "waits")) (cn [eC (S "child")])) (bI),aK (az 4) (e2 bt (aa 4) (eC (.int 3)))]) (bI)
noncomputable def lR:List D->R T:=gi 8 (aw [gx 2 (eU lG [aa 0]),aK (az 3) (bc fE [bc cY [aa 0,eC (.int 32)],eC (.int 15)]),aK (az 4) (bc cY [aa 0,eC (.int 33)]),b0 (cM (aa 3)) (az 5) kz,b0 (cM (aa 3)) (az 5) ko,jl 2])
noncomputable def kq:Sm:=aw [aK (az 4) (bc cY [aa 0,e2 bj (eC (.int 15)) (aa 3)]),bM (tV (e2 je (e2 oMod (aa 4) (eC (.int 3))) (eC (.int 0)))) (aw [aK (az 5) (e2 bj (eC (.int 1)) (e2 oMod (e2 bt (aa 4) (eC (.int 3))) (eC (.int 8)))),aK (az 6) (e2 af (bh [eC (.int 0),aa 5,e2 oMod (e2 bt (aa 4) (eC (.int 96))) (e2 bj (aa 5) (eC (.int 1)))]) (e2 oMod (e2 bt (aa 4) (eC (.int 24))) (eC (.int 3)))),kA 2 (pN) (aa 3) (xL [xD (aa 5),xF (bc iZ [e2 bt (e2 bt (aa 4) (eC (.int 96))) (eC (.int 9)),aa 6]),xL [],xD (e2 oMod (e2 bt (aa 4) (eC (.int 72))) (eC (.int 8)))])]) (bI)]
noncomputable def jL:Sm:=aw [aK (az 8) (dW 2 (bW (fe (aa 2)) 1 [2] (az 0) [tV (e2 cu (e1 cU (e2 af (e2 af (aa 1) (aa 0)) (eC (.int 1)))) (cn [eC (.int 0),e2 af (e2 af (aa 1) (aa 0)) (eC (.int 0))]))] (aa 0))),bM (d9 1 (ba (tV (e2 cu (aa 7) (aa 1))) (ba (tV (e1 cR (e2 af (e2 af (aa 1) (aa 7)) (eC (S "waits"))))) (ba (tV (e2 a7 (aa 8) (bh []))) (tV (e2 oEq (e2 oMod (aa 4) (eC (.int 2))) (eC (.int 1)))))))) (aw [aK (az 3) (e2 af (aa 8) (e2 oMod (e2 oMod (e2 bt (aa 4) (eC (.int 2))) (eC (.int 15))) (e1 cU (aa 8)))),aK (az 9) (eC (.int 0)),aK (az 10) (cn [eC (S "take"),aa 3]),bM (d9 2 (tV (e2 a7 (e2 af (e2 af (aa 2) (aa 3)) (eC (.int 1))) (bh [])))) (aw [aK (az 9) (e2 oMod (e2 bt (aa 4) (eC (.int 30))) (e2 bL (eC (.int 2)) (eC (.int 32)))),aK (az 10) (cn [eC (S "send"),aa 3])]) (bI),gb 1 (pX 1 (pN) (aa 7)) (cS [(.inr (Str.ofString "waits")),(.inr (Str.ofString "word"))] [aa 10,aa 9]),i8 2 (pX 2 (pX 2 (pN) (aa 3)) (eC (.int 2))) (aa 7)]) (bI),aK (az 4) (e2 bt (e2 bt (aa 4) (eC (.int 30))) (e2 bL (eC (.int 2)) (eC (.int 32))))]
noncomputable def l3:D->T->R (T×T):=jY 11 (aw [gx 2 (pj),b0 (dM (eC (.int 1)) (eC (.int 16))) (az 3) kq,aK (az 4) (bc cY [aa 0,eC (.int 34)]),b0 (cM (bc fE [bc cY [aa 0,eC (.int 35)],eC (.int 15)])) (az 7) jL,nu 2])
noncomputable def kP:Sm:=aw [kK 3 (pN) (aa 4) (xM (e1 fF (e2 af (aa 0) (aa 4)))),fo 3 (pX 3 (pN) (aa 4)) (eC (S "regs")) (e1 gH (e2 af (e2 af (aa 0) (aa 4)) (eC (S "regs")))),fo 3 (pX 3 (pN) (aa 4)) (eC (S "handles")) (e1 fF (e2 af (e2 af (aa 0) (aa 4)) (eC (S "handles")))),gb 3 (pX 3 (pN) (aa 4)) (cS [(.inr (Str.ofString "next")),(.inr (Str.ofString "first")),(.inr (Str.ofString "sibling"))] [eC (.int 0),eC (.int 0),eC (.int 0)]),bM (tV (e1 dB (e2 af (e2 af (aa 0) (aa 4)) (eC (S "saved"))))) (fo 3 (pX 3 (pN) (aa 4)) (eC (S "saved")) (cn [e1 gH (e2 af (e2 af (e2 af (aa 0) (aa 4)) (eC (S "saved"))) (eC (.int 0))),e2 af (e2 af (e2 af (aa 0) (aa 4)) (eC (S "saved"))) (eC (.int 1))])) (bI)]
noncomputable def mX:Sm:=fo 3 (pX 3 (pN) (aa 6)) (eC (S "sibling")) (aa 7)
noncomputable def kR:Sm:=aw [aK (az 5) (e2 bj (bc iF [aa 0,aa 4,aa 2]) (bh [eC (.int 0)])),fo 3 (pX 3 (pN) (aa 4)) (eC (S "first")) (e2 af (aa 5) (eC (.int 0))),b0 (jh (bK (aa 5) none (some (e1 gq (eC (.int 1))))) (bK (aa 5) (some (eC (.int 1))) none)) (hV [6,7]) mX]
noncomputable def m9:Sm:=fo 3 (pX 3 (pN) (aa 6)) (eC (S "next")) (aa 7)
noncomputable def jE:Sm:=aw [aK (az 5) (e2 af (e2 af (aa 1) (aa 8)) (eC (.int 2))),b0 (jh (bK (aa 5) none (some (e1 gq (eC (.int 1))))) (bK (aa 5) (some (eC (.int 1))) none)) (hV [6,7]) m9]
noncomputable def jB:List D->R T:=gi 9 (aw [gx 3 (xF (e2 ic (bh [eC .aD]) (eC (.int 16)))),b0 (fe (aa 0)) (az 4) kP,b0 (fe (aa 0)) (az 4) kR,b0 (fe (aa 1)) (az 8) jE,jl 3])
noncomputable def kr:Sm:=lM 8 (e2 oMod (e2 bj (aa 7) (aa 9)) (eC (.int 8))) (e2 af (aa 5) (aa 9))
noncomputable def j7:Sm:=aw [aK (mP [4,5,6,7]) (e2 af (aa 0) (aa 3)),gR 8 (e2 ic (bh [eC (.int 0)]) (eC (.int 8))),b0 (cK (e1 cU (aa 5))) (az 9) kr,aK (az 10) (e2 bj (bK (e2 bj (bh [eC (.int 0)]) (aa 6)) (some (e1 gq (eC (.int 1)))) none) (bK (e2 bj (aa 6) (bh [eC (.int 0)])) none (some (eC (.int 1))))),eA 8,kK 2 (pN) (aa 3) (ki [(eC (S "room"),xD (aa 4)),(eC (S "places"),xD (aa 8)),(eC (S "start"),xD (aa 7)),(eC (S "many"),xD (e1 cU (aa 5)))]),gb 2 (pX 2 (pN) (aa 3)) (cS [(.inr (Str.ofString "head")),(.inr (Str.ofString "tail"))] [e2 af (aa 10) (eC (.int 1)),e2 af (aa 10) (eC (.int 0))])]
noncomputable def iV:List D->R T:=gi 11 (aw [gx 2 (xF (e2 ic (bh [eC .aD]) (eC (.int 16)))),b0 (fe (aa 0)) (az 3) j7,jl 2])
noncomputable def mj:List D->R D:=fn 4 (aw [aK (az 2) (bW (dM (eC (.int 1)) (e2 bj (eC o6) (eC (.int 1)))) 1 [0] (az 0) [tV (e1 cR (e2 af (aa 1) (aa 0)))] (aa 0)),bM (tV (e2 oEq (e1 cU (aa 2)) (eC (.int 0)))) (b3 (cn [e1 gH (aa 0),eC .aD])) (bI),aK (az 3) (cS [(.inr (Str.ofString "room")),(.inr (Str.ofString "places")),(.inr (Str.ofString "start")),(.inr (Str.ofString "many")),(.inr (Str.ofString "head")),(.inr (Str.ofString "tail"))] [aa 1,e2 ic (bh [eC (.int 0)]) (eC lW),eC (.int 0),eC (.int 0),eC (.int 0),eC (.int 0)]),b3 (cn [e2 bj (e2 bj (bK (aa 0) none (some (e2 af (aa 2) (eC (.int 0))))) (bh [aa 3])) (bK (aa 0) (some (e2 bj (e2 af (aa 2) (eC (.int 0))) (eC (.int 1)))) none),e2 af (aa 2) (eC (.int 0))])])
noncomputable def ma:Sm:=aw [js 3 (aa 1),aK (az 1) (e2 af (e2 af (aa 0) (aa 1)) (aa 2))]
noncomputable def ly:List D->R D:=fn 4 (aw [gR 3 (bh []),jD 18 (ba (tV (e2 a7 (aa 1) (eC (.int 0)))) (ba (tV (e2 oLt (iW 3) (eC (.int 16)))) (ba (tV (e2 kG (aa 1) (eC (.int 16)))) (tV (e1 dB (e2 af (aa 0) (aa 1))))))) ma,eA 3,b3 (aa 3)])
noncomputable def kN:Sm:=aw [bM (tV (e2 a7 (e1 cR (e2 af (aa 1) (aa 4))) (e2 ck (aa 4) (aa 2)))) (b3 (eC (.bl false))) (bI),bM (tV (e2 cu (aa 4) (aa 2))) (aw [aK (mP [5,6,7,8]) (e2 af (aa 2) (aa 4)),aK (az 9) (e2 af (aa 1) (aa 4)),aK (az 10) (bW (cK (e2 af (aa 9) (eC (S "many")))) 1 [9] (az 0) [] (e2 oMod (e2 bj (e2 af (aa 1) (eC (S "start"))) (aa 0)) (eC (.int 8)))),bM (ee (tV (e2 a7 (e2 af (aa 9) (eC (S "room"))) (aa 5))) (tV (e2 a7 (e2 af (aa 9) (eC (S "many"))) (e1 cU (aa 6))))) (b3 (eC (.bl false))) (bI),bM (tV (e2 a7 (bW (cM (aa 10)) 1 [9] (az 0) [] (e2 af (e2 af (aa 1) (eC (S "places"))) (aa 0))) (aa 6))) (b3 (eC (.bl false))) (bI),bM (tV (e2 a7 (bW (cK (eC (.int 8))) 1 [10,9] (az 0) [ba (tV (e2 ck (aa 0) (aa 1))) (tV (e2 a7 (e2 af (e2 af (aa 2) (eC (S "places"))) (aa 0)) (eC (.int 0))))] (aa 0)) (bh []))) (b3 (eC (.bl false))) (bI),bM (ee (tV (e2 a7 (bc ly [aa 0,e2 af (aa 9) (eC (S "head")),eC (S "next")]) (aa 7))) (tV (e2 a7 (e2 af (aa 9) (eC (S "tail"))) (e2 af (e2 bj (bh [eC (.int 0)]) (aa 7)) (e1 gq (eC (.int 1))))))) (b3 (eC (.bl false))) (bI),aK (az 3) (e2 bj (aa 3) (aa 7))]) (bI)]
noncomputable def mI:Sm:=bM (ba (tV (e1 dB (e2 af (aa 0) (aa 9)))) (ba (tV (e2 ck (aa 9) (aa 3))) (tV (e2 a7 (e2 af (e2 af (aa 0) (aa 9)) (eC (S "next"))) (eC (.int 0)))))) (b3 (eC (.bl false))) (bI)
noncomputable def lO:List D->R D:=fn 11 (aw [bM (ee (eY (tV (e1 (dH .list) (aa 1)))) (tV (e2 a7 (e1 cU (aa 1)) (eC (.int 16))))) (b3 (eC (.bl false))) (bI),aK (az 3) (bh []),b0 (cK (eC (.int 16))) (az 4) kN,b0 (dM (eC (.int 1)) (eC (.int 16))) (az 9) mI,b3 (eC (.bl true))])
noncomputable def lE:List D->R D:=fn 1 (b3 (bW (cK (e2 af (aa 0) (eC (S "many")))) 1 [0] (az 0) [] (e2 oMod (e2 bj (e2 af (aa 1) (eC (S "start"))) (aa 0)) (eC lW))))
noncomputable def l6:List D->R D:=fn 1 (b3 (bW (cM (bc lE [aa 0])) 1 [0] (az 0) [] (e2 af (e2 af (aa 1) (eC (S "places"))) (aa 0))))
noncomputable def lK:Sm:=aw [js 2 (aa 3),aK (az 3) (e2 af (e2 af (aa 0) (aa 3)) (eC (S "next")))]
noncomputable def lx:List D->R D:=fn 4 (aw [gR 2 (bh []),aK (az 3) (e2 af (aa 1) (eC (S "head"))),jD 18 (mS 2 (ba (tV (e2 a7 (aa 3) (eC (.int 0)))) (ba (tV (e1 dB (e2 af (aa 0) (aa 3)))) (tV (e2 ck (aa 3) (aa 2)))))) lK,eA 2,b3 (aa 2)])
noncomputable def mh:Sm:=aw [aK (az 8) (bc l6 [aa 1]),aK (az 9) (bc lx [aa 0,aa 1]),bM (ee (eY (tV (e1 (dH .list) (aa 8)))) (ee (tV (e2 a7 (aa 8) (aa 4))) (ee (eY (tV (e1 (dH .list) (aa 9)))) (tV (e2 a7 (aa 9) (aa 5)))))) (b3 (eC (.bl false))) (bI)]
noncomputable def lC:List D->R D:=fn 10 (aw [aK (mP [3,4,5,6]) (aa 2),b0 (cK (eC (.int 2))) (az 7) mh,b3 (eC (.bl true))])
noncomputable def nH:List D->R D:=fn 1 (b3 (jq (e1 (dH .int) (aa 0)) (e1 lJ (e1 (dH .bool) (aa 0)))))
noncomputable def mM:Sm:=bM (eY (tV (bc lC [aa 5,e2 af (aa 6) (aa 7),e2 af (aa 3) (aa 7)]))) (b3 (eC (.bl false))) (bI)
noncomputable def lA:Sm:=jU 11 (aa 7) (bh [aa 8,bh [],bh [],eC (.int 0)])
noncomputable def mC:List D->R D:=fn 12 (aw [gx 2 (eU lR [aa 0]),mw 3 2 l3 (aa 0),jk 2,jk 3,aK (az 4) (bc fE [bc cY [aa 0,eC (.int 32)],eC (.int 15)]),aK (az 5) (eX (eU jB [aa 2,aa 3,aa 4])),aK (az 6) (eX (eU iV [aa 3])),b0 (fe (aa 3)) (az 7) mM,aK (az 8) (e2 bj (eC (.int 1)) (e2 oMod (bc cY [aa 0,eC (.int 36)]) (eC (.int 8)))),aK (az 9) (bc mj [aa 6,aa 8]),bM (ee (eY (tV (e1 (dH .tuple) (aa 9)))) (tV (e2 a7 (e1 cU (aa 9)) (eC (.int 2))))) (b3 (eC (.bl false))) (bI),aK (az 10) (bK (bW (dM (eC (.int 1)) (eC (.int 16))) 1 [3] (az 0) [tV (e2 ck (aa 0) (aa 1))] (aa 0)) none (some (eC (.int 1)))),bM (ee (ba (tV (e2 oEq (aa 10) (bh []))) (tV (e1 dB (e2 af (aa 9) (eC (.int 1)))))) (ba (tV (e2 a7 (aa 10) (bh []))) (ee (eY (tV (bc nH [e2 af (aa 9) (eC (.int 1))]))) (tV (e2 a7 (e2 af (aa 9) (eC (.int 1))) (e2 af (aa 10) (eC (.int 0)))))))) (b3 (eC (.bl false))) (bI),g8 11 (e1 fF (aa 3)),b0 (cM (aa 10)) (az 7) lA,eA 11,bM (eY (tV (bc lO [aa 5,e2 af (aa 9) (eC (.int 0)),aa 11]))) (b3 (eC (.bl false))) (bI),b3 (jq (e2 fX (aa 6) (eX (eU iV [aa 3]))) (e2 fX (aa 5) (eX (eU jB [aa 2,aa 3,aa 4]))))])
end gL
end PL
set_option maxRecDepth 1000
namespace PL
open PySem
theorem we{tg:bA}{body:Sm}(P:Nat->En->Prop):∀ {ds:List D} (n:Nat),(∀i d,ds[i]? =some d->∀ρ,P (n+i) ρ->∃JN,tg d ρ=.ok JN/\∃J7,body JN=.ok (.next J7)/\P (n+i+1) J7)->
   ∀ {ρ:En},P n ρ->∃ρ',forL tg body ds ρ=.ok (.next ρ')/\P (n+ds.length) ρ'
 |[],n,_,ρ,h=>⟨ρ,rfl,h⟩
 | d::ds,n,hs,ρ,h=>by
   obtain⟨JN,e1,J7,e2,h2⟩:=hs 0 d rfl ρ h
   obtain⟨ρ',e,h'⟩:=we (ds:=ds) P (n+1) (λi d hd ρ hp=>by
     have:=hs (i+1) d (by simpa using hd) ρ (by rw[show n+(i+1)=n+1+i by omega];exact hp)
     rw[show n+1+i+1=n+(i+1)+1 by omega];exact this) h2
   refine⟨ρ',by simp[forL,e1,e2,e],?_⟩
   rw[List.length_cons,show n+(ds.length+1)=n+1+ds.length by omega];exact h'
theorem jo{a b:Int}{i:Nat}{d:D}(h:(dn a b)[i]? =some d):d=.int (a+i)/\(i:Int)<b - a:=by
 unfold dn at h;rw[List.getElem?_map]at h;cases e:(List.range (b - a).toNat)[i]? with
 |none=>rw[e]at h;cases h
 | some k=>
   rw[e]at h;obtain⟨JC,hk⟩:=List.getElem?_eq_some_iff.mp e;simp at hk JC h;subst hk;exact⟨h.symm,by omega⟩
theorem oA(a b:Int):(dn a b).length=(b - a).toNat:=by simp[dn]
theorem me{α:Type}{xs:List α}{j:Nat}(h:j<xs.length):bY xs (j:Int)=some xs[j]:=by
 unfold bY bJ;rw[if_pos (by omega),if_pos (by omega)]
 simp[h]
theorem rF{α:Type}{xs:List α}{i:Int}(h0:0<=i)(h:i<xs.length):bY xs i=some (xs[i.toNat]'(by omega)):=by
 unfold bY bJ;rw[if_pos h0,if_pos h];have:i.toNat<xs.length:=by omega
 simp[this]
theorem iu{xs:List Int}{i:Int}(h0:0<=i)(h:i<xs.length):∃x,x∈xs/\bY (xs.map D.int) i=some (.int x):=by
 refine⟨xs[i.toNat]'(by omega),List.getElem_mem _,?_⟩
 rw[rF h0 (by simpa using h)]
 simp
theorem rD{i:Int}(h1: -1000000<i)(h2:i<1000000):inR i=true:=by
 unfold inR;rw[decide_eq_true (show -4611686018427387904<=i by omega),decide_eq_true (show i<4611686018427387904 by omega)];rfl
theorem eZ{c:aL}{a b:Sm}{ρ:En}(h:c ρ=.ok true):bM c a b ρ=a ρ:=by simp[h]
theorem ao{a:Sm}{r:List Sm}{ρ ρ':En}(h:a ρ=.ok (.next ρ')):aw (a::r) ρ=aw r ρ':=by
 show(a ρ).bind _=_;rw[h];rfl
theorem gk{a:Sm}{r:List Sm}{ρ:En}{d:D}(h:a ρ=.ok (.ret d)):aw (a::r) ρ=.ok (.ret d):=by
 show(a ρ).bind _=_;rw[h];rfl
theorem bX{c:aL}{a:Sm}{ρ:En}(h:c ρ=.ok false):bM c a bI ρ=.ok (.next ρ):=by simp[h]
theorem gr{n:Nat}{b:Sm}{ds:List D}{d:D}(h:b (ds.map .sh++List.replicate (n - ds.length) .un)=.ok (.ret d)):fn n b ds=.ok d:=by
 unfold fn;rw[h];rfl
theorem ju{a:Ex}{ρ:En}{L:Int}(h:a ρ=.ok (.int L))(h2:inR L=true):cK a ρ=.ok (dn 0 L):=by
 simp[h,h2]
theorem lg{a b:Ex}{ρ:En}{I L:Int}(h:a ρ=.ok (.int I))(h':b ρ=.ok (.int L))(h1:inR I=true)(h2:inR L=true):dM a b ρ=.ok (dn I L):=by
 simp[h,h',h1,h2]
set_option maxRecDepth 2000
namespace G
theorem b5{o:D->R D}{a:Ex}{ρ:En}{x d:D}(ha:a ρ=.ok x)(h:o x=.ok d):e1 o a ρ=.ok d:=by
 show(a ρ).bind _=_;rw[ha,R.aQ,h]
theorem aA{o:D->D->R D}{a b:Ex}{ρ:En}{x y d:D}(ha:a ρ=.ok x)(hb:b ρ=.ok y)(h:o x y=.ok d):e2 o a b ρ=.ok d:=by
 show(a ρ).bind _=_;rw[ha,R.aQ];show(b ρ).bind _=_;rw[hb,R.aQ,h]
theorem pB{f:List D->R D}{a:Ex}{ρ:En}{x d:D}(ha:a ρ=.ok x)(h:f [x]=.ok d):bc f [a] ρ=.ok d:=by
 simp only[bc,eList,ha,R.aQ];exact h
theorem dh{f:List D->R D}{a b:Ex}{ρ:En}{x y d:D}(ha:a ρ=.ok x)(hb:b ρ=.ok y)(h:f [x,y]=.ok d):bc f [a,b] ρ=.ok d:=by
 simp only[bc,eList,ha,hb,R.aQ];exact h
theorem jr{f:List D->R D}{a b c:Ex}{ρ:En}{x y z d:D}(ha:a ρ=.ok x)(hb:b ρ=.ok y)(hc:c ρ=.ok z)(h:f [x,y,z]=.ok d):bc f [a,b,c] ρ=.ok d:=by
 simp only[bc,eList,ha,hb,hc,R.aQ];exact h
theorem eV{a b:Ex}{ρ:En}{i u:Int}(ha:a ρ=.ok (.int i))(hb:b ρ=.ok (.int u)):e2 bj a b ρ=.ok (.int (i+u)):=aA ha hb rfl
theorem bV{a b:Ex}{ρ:En}{i u:Int}(ha:a ρ=.ok (.int i))(hb:b ρ=.ok (.int u))(h:0<u):e2 oMod a b ρ=.ok (.int (i % u)):=aA ha hb (if_pos h)
theorem bZ{a b:Ex}{ρ:En}{i u:Int}(ha:a ρ=.ok (.int i))(hb:b ρ=.ok (.int u))(h:0<u/\u.natAbs.log2<9000):e2 bt a b ρ=.ok (.int (i / u)):=aA ha hb (if_pos h)
theorem aO{a:Ex}{ρ:En}{b:Bool}(ha:a ρ=.ok (.bl b)):tV a ρ=.ok b:=by
 simp only[tV,ha,R.aQ,truth]
theorem g9{t:aL}{ρ:En}{b:Bool}(h:t ρ=.ok b):eY t ρ=.ok (!b):=by
 simp only[eY,h,R.aQ]
theorem fU{t u:aL}{ρ:En}{b c:Bool}(h:t ρ=.ok b)(h':u ρ=.ok c):ee t u ρ=.ok (b||c):=by
 simp only[ee,h,R.aQ];cases b
 ·rw[if_neg (by decide),h'];rfl
 ·rfl
theorem c7{t u:aL}{ρ:En}{b c:Bool}(h:t ρ=.ok b)(h':u ρ=.ok c):ba t u ρ=.ok (b&&c):=by
 simp only[ba,h,R.aQ];cases b
 ·rfl
 ·rw[if_pos rfl,h'];rfl
theorem jf{t u:aL}{ρ:En}(h:t ρ=.ok false):ba t u ρ=.ok false:=by
 simp only[ba,h,R.aQ];rfl
theorem De{a b:Ex}{ρ:En}{x:Bool}{d:D}(ha:a ρ=.ok (.bl true))(hb:b ρ=.ok d):jq a b ρ=.ok d:=by
 simp only[jq,ha,R.aQ];exact hb
theorem ix{a:Ex}{ρ:En}{d:D}(h:a ρ=.ok d):b3 a ρ=.ok (.ret d):=by
 simp only[b3,h,R.aQ]
theorem aW{i:Nat}{a:Ex}{ρ:En}{d:D}(h:a ρ=.ok d):aK (az i) a ρ=.ok (.next (ρ.set i (.sh d))):=by
 simp only[aK,h,R.aQ,az]
theorem sk{i:Nat}{a:Ex}{ρ:En}{d:D}{xs:List D}(h:a ρ=.ok d)(hi:ρ[i]? =some (.ol xs))(hl:xs.length<16777216):js i a ρ=.ok (.next (ρ.set i (.ol (xs++[d])))):=by
 simp only[js,h,R.aQ,hi];exact if_pos hl
theorem lZ{i:Nat}{a:Ex}{ρ:En}{xs:List D}(h:a ρ=.ok (.lst xs)):gR i a ρ=.ok (.next (ρ.set i (.ol xs))):=by
 simp only[gR,h,R.aQ]
theorem Af{i:Nat}{k a:Ex}{ρ:En}{d:D}{j:Int}{m:Nat}{xs:List D}(h:a ρ=.ok d)(hk:k ρ=.ok (.int j))(hi:ρ[i]? =some (.ol xs))(hm:bJ xs.length j=some m):lM i k a ρ=.ok (.next (ρ.set i (.ol (xs.set m d)))):=by
 simp only[lM,h,hk,R.aQ,hi,hm]
theorem m4{n:Nat}{j:Int}(h0:0<=j)(h1:j<n):bJ n j=some j.toNat:=by
 unfold bJ;rw[if_pos h0,if_pos h1]
theorem dX{xs:List D}{i:Int}{d:D}(h:bY xs i=some d):af (.lst xs) (.int i)=.ok d:=by simp[h]
theorem qH{xs:List D}{i:Int}{d:D}(h:bY xs i=some d):af (.tup xs) (.int i)=.ok d:=by simp[h]
theorem eq_int(i j:Int):oEq (.int i) (.int j)=.ok (.bl (decide (i=j))):=by
 unfold oEq;rw[zg,if_pos rfl];show R.ok (D.bl (i==j))=_;rfl
theorem lt_int(i j:Int):oLt (.int i) (.int j)=.ok (.bl (decide (i<j))):=rfl
theorem uQ{n d:Nat}{v:Int}(h:0<=v):aU n d (some v)=min v.toNat n:=if_neg (by omega)
theorem sU{n d:Nat}{v:Int}(h:v<0):aU n d (some v)=(v+n).toNat:=if_pos h
theorem B3{α:Type}(xs:List α){v:Int}(h:0<=v):cut xs none (some v)=xs.take v.toNat:=by
 unfold cut;rw[uQ h];show((xs.drop 0).take _)=_;rw[List.drop_zero];show xs.take (min v.toNat xs.length - 0)=_;rw[Nat.sub_zero];by_cases hl:v.toNat<=xs.length
 ·rw[Nat.min_eq_left hl]
 ·rw[Nat.min_eq_right (by omega),List.take_length,List.take_of_length_le (by omega)]
theorem DG{α:Type}(xs:List α){v:Int}(h:0<=v):cut xs (some v) none=xs.drop v.toNat:=by
 unfold cut;rw[uQ h];show(xs.drop (min v.toNat xs.length)).take (xs.length - min v.toNat xs.length)=_;by_cases hl:v.toNat<=xs.length
 · rw[Nat.min_eq_left hl]
   exact List.take_of_length_le (by rw[List.length_drop];omega)
 ·rw[Nat.min_eq_right (by omega),List.drop_length,List.drop_of_length_le (by omega),List.take_nil]
theorem rO{a b:Ex}{ρ:En}{xs:List D}{v:Int}(ha:a ρ=.ok (.lst xs))(hb:b ρ=.ok (.int v))(h:0<=v):bK a none (some b) ρ=.ok (.lst (xs.take v.toNat)):=by
 simp only[bK,ha,R.aQ,mJ,hb,m8];rw[B3 _ h]
theorem uz{a b:Ex}{ρ:En}{xs:List D}{v:Int}(ha:a ρ=.ok (.lst xs))(hb:b ρ=.ok (.int v))(h:0<=v):bK a (some b) none ρ=.ok (.lst (xs.drop v.toNat)):=by
 simp only[bK,ha,R.aQ,mJ,hb,m8];rw[DG _ h]
theorem iR{xs ys:List D}(h:xs.length+ys.length<=16777216):bj (.lst xs) (.lst ys)=.ok (.lst (xs++ys)):=if_pos h
theorem w4{i:Int}{n:Nat}(h:i.natAbs<2 ^ n)(hn:n<=100000):cV i=true:=by
 unfold cV;rw[decide_eq_true_eq];by_cases h0:i.natAbs=0
 ·rw[h0];decide
 ·exact Nat.lt_of_lt_of_le ((Nat.log2_lt h0).mpr h) hn
theorem rA{α:Type}{tg:bA}{el:Ex}{ρ:En}(u:α->D)(v:α->D):∀ {xs:List α},(∀x∈xs,∃JN,tg (u x) ρ=.ok JN/\el JN=.ok (v x))->cJ tg [] el ρ (xs.map u)=.ok (xs.map v)
 |[],_=>rfl
 | x::xs,h=>by
   obtain⟨JN,e1,e2⟩:=h x List.mem_cons_self;rw[List.map_cons,cJ,e1,R.aQ];show(R.ok true).bind _=_;rw[R.aQ,if_pos rfl,e2,R.aQ,rA u v (λy hy=>h y (List.mem_cons_of_mem _ hy))];rfl
theorem i5{α:Type}{tg:bA}{cs:List aL}{el:Ex}{ρ:En}(u:α->D)(p:α->Bool)(v:α->D):∀ {xs:List α},(∀x∈xs,∃JN,tg (u x) ρ=.ok JN/\cJ.fN cs JN=.ok (p x)/\(p x=true->el JN=.ok (v x)))->cJ tg cs el ρ (xs.map u)=.ok ((xs.filter p).map v)
 |[],_=>rfl
 | x::xs,h=>by
   obtain⟨JN,e1,e2,e3⟩:=h x List.mem_cons_self;have ih:=i5 (cs:=cs) (el:=el) (ρ:=ρ) u p v (xs:=xs) (λy hy=>h y (List.mem_cons_of_mem _ hy));rw[List.map_cons,cJ,e1,R.aQ,e2,R.aQ];cases hp:p x with
   |true=>rw[if_pos rfl,e3 hp,R.aQ,ih,List.filter_cons_of_pos hp];rfl
   |false=>rw[if_neg (by decide),ih,List.filter_cons_of_neg (by rw[hp];decide)]
theorem iw{it:bB}{n:Nat}{fv:List Nat}{tg:bA}{cs:List aL}{el:Ex}{ρ:En}{ds ys:List D}(hi:it ρ=.ok ds)(hl:ds.length<=16777216)(hc:cJ tg cs el (List.replicate n .un++frees ρ fv) ds=.ok ys):bW it n fv tg cs el ρ=.ok (.lst ys):=by
 show(it ρ).bind _=_;rw[hi,R.aQ,if_pos hl,hc];rfl
theorem qB{it:bB}{tg:bA}{body:Sm}{ρ:En}{ds:List D}{r:R Fl}(hi:it ρ=.ok ds)(h:forL tg body ds ρ=r):b0 it tg body ρ=r:=by
 show(it ρ).bind _=_;rw[hi,R.aQ,h]
theorem so{n:Nat}{b:Sm}{ds xs:List D}(h:b (ds.map .sh++List.replicate (n - ds.length) .un)=.ok (.di (.lst xs))):fH n b ds=.ok (.lst xs):=by
 unfold fH;rw[h];rfl
theorem uZ{a:Sm}{r:List Sm}{ρ:En}{d:D}(h:a ρ=.ok (.di d)):aw (a::r) ρ=.ok (.di d):=by
 show(a ρ).bind _=_;rw[h];rfl
theorem A5{i:Nat}{ρ:En}{xs:List D}(hi:ρ[i]? =some (.ol xs)):iW i ρ=.ok (.int xs.length):=by
 simp only[iW,hi]
end G
end PL
set_option maxRecDepth 4000
set_option maxHeartbeats 400000
namespace PL
namespace gL
open PySem G
noncomputable abbrev L(xs:List Int):D:=.lst (xs.map .int)
theorem kI{i j:Int}(h:0<=j/\j<=1000/\cV i=true):bL (.int i) (.int j)=.ok (.int (i ^ j.toNat)):=if_pos h
theorem tJ{a b:Ex}{ρ:En}{i u:Int}(ha:a ρ=.ok (.int i))(hb:b ρ=.ok (.int u))(h1:cV i=true)(h2:cV u=true):e2 i6 a b ρ=.ok (.int (i*u)):=aA ha hb (if_pos (by rw[h1,h2];rfl))
theorem iU(ρ:En):(e2 bL (eC (.int 2)) (eC (.int 32))) ρ=.ok (.int 4294967296):=rfl
theorem A8{i:Int}(h1: -1000000000000<i)(h2:i<1000000000000):cV i=true:=w4 (n:=40) (by omega) (by decide)
theorem dv{j:Int}(h1:0<j)(h2:j<1000000000000):0<j/\j.natAbs.log2<9000:=⟨h1,by
 have:j.natAbs≠0:=by omega
 exact Nat.lt_of_lt_of_le ((Nat.log2_lt this).mpr (show j.natAbs<2 ^ 40 by omega)) (by decide)⟩
theorem fV{a:Ex}{ρ:En}{xs:List D}(h:a ρ=.ok (.lst xs)):e1 cU a ρ=.ok (.int xs.length):=b5 h rfl
theorem vZ{a b:Ex}{ρ:En}{i u:Int}(ha:a ρ=.ok (.int i))(hb:b ρ=.ok (.int u)):e2 je a b ρ=.ok (.bl (decide (u<i))):=aA ha hb rfl
theorem Br{a b:Ex}{ρ:En}{i u:Int}(ha:a ρ=.ok (.int i))(hb:b ρ=.ok (.int u)):e2 oLt a b ρ=.ok (.bl (decide (i<u))):=aA ha hb rfl
theorem gT{a b:Ex}{ρ:En}{i u:Int}(ha:a ρ=.ok (.int i))(hb:b ρ=.ok (.int u)):e2 oEq a b ρ=.ok (.bl (decide (i=u))):=aA ha hb (G.eq_int i u)
theorem ne_int(i j:Int):a7 (.int i) (.int j)=.ok (.bl (!decide (i=j))):=by
 have h:eS (.int i) (.int j)=true:=rfl;have h2:bq (.int i) (.int j)=decide (i=j):=by by_cases h:i=j<;>simp[bq,h]
 unfold a7;rw[if_pos h,h2]
theorem eO{a b:Ex}{ρ:En}{i u:Int}(ha:a ρ=.ok (.int i))(hb:b ρ=.ok (.int u)):e2 a7 a b ρ=.ok (.bl (!decide (i=u))):=aA ha hb (ne_int i u)
theorem cX{tg:bA}{body:Sm}{it:bB}{ρ:En}{ds:List D}(P:Nat->En->Prop)(hi:it ρ=.ok ds)(h0:P 0 ρ)(h:∀i d,ds[i]? =some d->∀ρ,P i ρ->∃JN,tg d ρ=.ok JN/\∃J7,body JN=.ok (.next J7)/\P (i+1) J7):∃ρ',b0 it tg body ρ=.ok (.next ρ')/\P ds.length ρ':=by
 obtain⟨ρ',e,p⟩:=we (tg:=tg) (body:=body) P (ds:=ds) 0 (λi d hd ρ hp=>by
   rw[Nat.zero_add]at hp ⊢;exact h i d hd ρ hp) h0
 exact⟨ρ',qB hi e,by rw[Nat.zero_add]at p;exact p⟩
noncomputable def PP:Int:=((10:Int) ^ (50:Int).toNat) ^ (8:Int).toNat
noncomputable def QQ:Int:=((10007:Int) ^ (50:Int).toNat) ^ (2:Int).toNat
theorem zZ(ρ:En):(e2 bL (e2 bL (eC (.int 10)) (eC (.int 50))) (eC (.int 8))) ρ=.ok (.int PP):=aA (aA rfl rfl (kI ⟨by decide,by decide,by decide+kernel⟩)) rfl (kI ⟨by decide,by decide,by decide+kernel⟩)
theorem Hg(ρ:En):(e2 bL (e2 bL (eC (.int 10007)) (eC (.int 50))) (eC (.int 2))) ρ=.ok (.int QQ):=aA (aA rfl rfl (kI ⟨by decide,by decide,by decide+kernel⟩)) rfl (kI ⟨by decide,by decide,by decide+kernel⟩)
theorem qq:0<PP:=by decide+kernel
theorem Bt:PP.natAbs<2 ^ 2000:=by decide+kernel
theorem HE:cV QQ=true:=by decide+kernel
theorem v3{ns:List Int}{c k:Int}(h0:0<=k)(h1:k<=1000):(e2 i6 (e2 bj (e2 bj (e2 oMod (aa 2) (e2 bL (e2 bL (eC (.int 10)) (eC (.int 50))) (eC (.int 8)))) (eC (.int 1))) (e2 i6 (eC (.int 7919)) (aa 1))) (e2 bL (e2 bL (eC (.int 10007)) (eC (.int 50))) (eC (.int 2)))) [.sh (L ns),.sh (.int k),.sh (.int c)]=.ok (.int ((c % PP+1+7919*k)*QQ)):=by
 refine tJ (eV (eV (bV rfl (zZ _) qq) rfl) (tJ rfl rfl (by decide+kernel) (A8 (by omega) (by omega)))) (Hg _) ?_ HE
 have h2:=Int.emod_nonneg c (Int.ne_of_gt qq);have h3:=Int.emod_lt_of_pos c qq;have h4:=Bt;refine w4 (n:=2001) ?_ (by decide)
 have h5:(2:Nat) ^ 2001=2 ^ 2000+2 ^ 2000:=by rw[show 2001=2000+1 from rfl,Nat.pow_succ];omega
 have h6:100000000<2 ^ 2000:=Nat.lt_of_lt_of_le (show 100000000<2 ^ 30 by decide) (Nat.pow_le_pow_right (by decide) (by decide))
 generalize (2:Nat) ^ 2000=Z at*;omega
theorem ig(ns:List Int){k:Int}(hk:0<=k)(K9:k<=1000):∃n:Int,cY [L ns,.int k]=.ok (.int n):=by
 rw[cY];by_cases hl:k<ns.length
 · obtain⟨c,_,hc⟩:=iu (xs:=ns) hk hl
   refine⟨(c % PP+1+7919*k)*QQ,gr ?_⟩;rw[ao (aW rfl)];show aw _ [.sh (L ns),.sh (.int k),.sh (.int 0)]=_
   rw[ao (show _=R.ok (Fl.next [.sh (L ns),.sh (.int k),.sh (.int c)]) by
     rw[eZ (aO (aA (x:=.int k) (y:=.int ns.length) rfl (by rw[fV rfl,List.length_map]) (by rw[lt_int,decide_eq_true hl])))]
     exact aW (aA rfl rfl (dX hc)))]
   exact gk (ix (v3 hk K9))
 · refine⟨(0 % PP+1+7919*k)*QQ,gr ?_⟩
   rw[ao (aW rfl)];show aw _ [.sh (L ns),.sh (.int k),.sh (.int 0)]=_;rw[ao (bX (aO (aA (x:=.int k) (y:=.int ns.length) rfl (by rw[fV rfl,List.length_map]) (by rw[lt_int,decide_eq_false hl]))))]
   exact gk (ix (v3 hk K9))
theorem zB{O:List Int}{j:Nat}{x:Int}:(O.take j++x::O.drop j).Perm (x::O):=by
 have:=List.perm_middle (a:=x) (l₁:=O.take j) (l₂:=O.drop j);rw[List.take_append_drop]at this;exact this
theorem yq{i:Nat}{k e:Ex}{ρ:En}{j:Int}{x:Int}{O:List Int}(hk:k ρ=.ok (.int j))(he:e ρ=.ok (.int x))(hi:ρ[i]? =some (.ol (O.map .int)))(h1:O.length<1000)(h2:0<=j)(h3:j<=O.length):mD i k e ρ=.ok (.next (ρ.set i (.ol ((O.take j.toNat++x::O.drop j.toNat).map .int)))):=by
 unfold mD;rw[hk,R.aQ,he,R.aQ,hi];show(if(O.map D.int).length<1000/\0<=j/\j<=(O.map D.int).length then _ else _)=_
 rw[if_pos ⟨by simpa using h1,h2,by simpa using h3⟩]
 simp[List.map_take,List.map_drop]
theorem oU(n:Int):∃O:List Int,fE [.int n,.int 15]=.ok (L O)/\O.Nodup/\(∀x∈O,1<=x/\x<=15)/\O.length=15:=by
 rw[fE]
 obtain⟨ρ',e,m,O,s3,rfl,nd,hb,hl⟩:=cX (it:=cK (aa 1)) (tg:=az 3) (body:=l9) (ρ:=[.sh (.int n),.sh (.int 15),.ol [],.un]) (λi ρ=>∃(m:Int) (O:List Int) (s3:Slot),ρ=[.sh (.int m),.sh (.int 15),.ol (O.map .int),s3]/\O.Nodup/\(∀x∈O,1<=x/\x<=(i:Int))/\O.length=i) (ju rfl (by decide)) ⟨n,[],.un,rfl,List.nodup_nil,(λx hx=>nomatch hx),rfl⟩ (by
   rintro i d hd ρ ⟨m,O,s3,rfl,nd,hb,hl⟩;obtain⟨rfl,hi⟩:=jo hd;refine⟨[.sh (.int m),.sh (.int 15),.ol (O.map .int),.sh (.int (0+i))],rfl,?_⟩;have h0:=Int.emod_nonneg m (show(0+(i:Int)+1)≠0 by omega)
   have h1:=Int.emod_lt_of_pos m (show 0<(0+(i:Int)+1) by omega)
   rw[l9,ao (yq (j:=m % (0+i+1)) (x:=0+i+1) (O:=O) (bV rfl (eV rfl rfl) (by omega)) (eV rfl rfl) rfl (by omega) h0 (by omega))]
   show ∃J7,aw _ [.sh (.int m),.sh (.int 15),.ol ((O.take (m % (0+i+1)).toNat++(0+(i:Int)+1)::O.drop (m % (0+i+1)).toNat).map .int),.sh (.int (0+i))]=_/\_;rw[ao (aW (bZ rfl (eV rfl rfl) (dv (by omega) (by omega))))]
   have hp:=zB (O:=O) (j:=(m % (0+i+1)).toNat) (x:=0+i+1);refine⟨_,rfl,_,_,_,rfl,hp.nodup_iff.mpr (List.nodup_cons.mpr ⟨λh=>?_,nd⟩),λx hx=>?_,?_⟩
   ·have:=hb _ h;omega
   · rcases List.mem_cons.mp (hp.mem_iff.mp hx)with rfl|h
     ·omega
     ·have:=hb x h;omega
   ·rw[hp.length_eq,List.length_cons,hl])
 have hlen:(dn 0 15).length=15:=rfl;rw[hlen]at hb hl;refine⟨O,so ?_,nd,λx hx=>hb x hx,hl⟩;rw[ao (lZ (xs:=[]) rfl)];show aw _ [.sh (.int n),.sh (.int 15),.ol [],.un]=_;rw[ao e];exact uZ rfl
theorem uV(n:Int){m:Int}(h0:0<=m)(h1:m<=1000):∃ws:List Int,iZ [.int n,.int m]=.ok (L ws)/\ws.length=m.toNat:=by
 rw[iZ]
 obtain⟨ρ',e,q,O,s3,rfl,hl⟩:=cX (it:=cK (aa 1)) (tg:=az 3) (body:=l5) (ρ:=[.sh (.int n),.sh (.int m),.ol [],.un]) (λi ρ=>∃(q:Int) (O:List Int) (s3:Slot),ρ=[.sh (.int q),.sh (.int m),.ol (O.map .int),s3]/\O.length=i) (ju rfl (rD (by omega) (by omega))) ⟨n,[],.un,rfl,rfl⟩ (by
   rintro i d hd ρ ⟨q,O,s3,rfl,hl⟩;obtain⟨rfl,hi⟩:=jo hd;refine⟨[.sh (.int q),.sh (.int m),.ol (O.map .int),.sh (.int (0+i))],rfl,?_⟩;rw[l5,ao (sk (bV rfl (iU _) (by decide)) rfl (by rw[List.length_map];omega))]
   show ∃J7,aw _ [.sh (.int q),.sh (.int m),.ol (O.map .int++[.int (q % 4294967296)]),.sh (.int (0+i))]=_/\_;rw[ao (aW (bZ rfl (iU _) (dv (by decide) (by decide))))]
   exact⟨_,rfl,q / 4294967296,O++[q % 4294967296],.sh (.int (0+i)),by rw[List.map_append];rfl,by simp[hl]⟩)
 rw[oA]at hl;refine⟨O,so ?_,by rw[hl];omega⟩
 rw[ao (lZ (xs:=[]) rfl)];show aw _ [.sh (.int n),.sh (.int m),.ol [],.un]=_;rw[ao e];exact uZ rfl
noncomputable def ae:Option D->Slot
 |none=>.un
 |some d=>.sh d
noncomputable def c0:Slot->Bool
 |.on (.al _ _)=>false
 |_=>true
@[simp] theorem Jj(x:Option D):c0 (ae x)=true:=by cases x<;>rfl
@[simp] theorem IM(d:D):c0 (.sh d)=true:=rfl
@[simp] theorem IQ(d:List D):c0 (.ol d)=true:=rfl
@[simp] theorem IY(t:T):c0 (.on (.tr t))=true:=rfl
@[simp] theorem IU:c0 .un=true:=rfl
variable{ρ:En}
theorem uh{i:Nat}{t:T}(h:ρ.all c0=true):dw i t ρ=ρ.set i (.sh (T.toD t)):=by
 unfold dw;rw[List.map_congr_left (g:=id) λs hs=>?_,List.map_id];have:=List.all_eq_true.mp h s hs;cases s with
 | on x=>cases x with
   |tr t=>rfl
   |al k p=>cases this
 |_=>rfl
theorem m6{i:Nat}{p:List Nat}(h:ρ.all c0=true):dQ i p ρ=ρ:=by
 unfold dQ;rw[List.map_congr_left (g:=id) λs hs=>?_,List.map_id];have:=List.all_eq_true.mp h s hs;cases s with
 | on x=>cases x with
   |tr t=>rfl
   |al k p=>cases this
 |_=>rfl
theorem uc{i:Nat}(h:ρ.all c0=true):gf i ρ=true:=by
 unfold gf;rw[List.all_eq_true]at h ⊢;intro s hs;have:=h s hs;cases s with
 | on x=>cases x with
   |tr t=>rfl
   |al k p=>cases this
 |_=>rfl
theorem yQ{i:Nat}{f:aL}{t:T}{b:Bool}(hi:ρ[i]? =some (.on (.tr t)))(h:ρ.all c0=true)(hf:f (ρ.set i (.sh (T.toD t)))=.ok b):d9 i f ρ=.ok b:=by
 unfold d9;rw[hi];show f (dw i t ρ)=_;rw[uh h,hf]
theorem vj{i:Nat}{f:Ex}{t:T}{ds:List D}(hi:ρ[i]? =some (.on (.tr t)))(h:ρ.all c0=true)(hf:f (ρ.set i (.sh (T.toD t)))=.ok (.lst ds))(hn:f7 ds=true):dW i f ρ=.ok (.lst ds):=by
 unfold dW;rw[hi];show(f (dw i t ρ)).bind _=_;rw[uh h,hf];exact if_pos hn
theorem j2{i:Nat}{f:Xt}{t:T}(h:f ρ=.ok t)(hn:ρ.all c0=true)(hi:2<=i):gx i f ρ=.ok (.next (ρ.set i (.on (.tr t)))):=by
 unfold gx;rw[h,R.aQ,if_pos ⟨uc hn,hi⟩]
theorem eN(t:T):T.at t []=some t:=by cases t<;>rfl
theorem kx(n t:T):T.put n t []=n:=by cases t<;>rfl
theorem vh{ks:List Ky}{ts:List T}{m:Nat}{t:T}(h:ts[m]? =some t):T.at (.m ks ts) [m]=some t:=by
 show(match ts[m]? with|some t=>T.at t []|none=>none)=_
 rw[h];exact eN t
theorem AG{ks:List Ky}{ts:List T}{m:Nat}{n t:T}(h:ts[m]? =some t):T.put n (.m ks ts) [m]=.m ks (ts.set m n):=by
 show(match ts[m]? with|some t=>T.m ks (ts.set m (T.put n t []))|none=>.m ks ts)=_
 rw[h];simp only[kx]
theorem j3{ts:List T}{m:Nat}{t:T}(h:ts[m]? =some t):T.at (.l ts) [m]=some t:=by
 show(match ts[m]? with|some t=>T.at t []|none=>none)=_
 rw[h];exact eN t
theorem kH{ts:List T}{m:Nat}{n t:T}(h:ts[m]? =some t):T.put n (.l ts) [m]=.l (ts.set m n):=by
 show(match ts[m]? with|some t=>T.l (ts.set m (T.put n t []))|none=>.l ts)=_
 rw[h];simp only[kx]
theorem hJ{i m:Nat}{f:Pt}{e:Ex}{p:List Nat}{x:D}{t n:T}(hf:f ρ=.ok p)(he:e ρ=.ok x)(hi:ρ[i]? =some (.on (.tr t)))(JQ:T.at t p=some n)(hs:stepT n x=some m):pX i f e ρ=.ok (p++[m]):=by
 unfold pX;rw[hf,R.aQ,he,R.aQ,hi];show(match T.at t p with|some n=>(match stepT n x with|some m=>R.ok (p++[m])|none=>.bad)|none=>.bad)=_
 rw[JQ];show(match stepT n x with|some m=>R.ok (p++[m])|none=>.bad)=_
 rw[hs]
theorem wg{i:Nat}{f:Pt}{k:Ex}{x:Xt}{u t:T}{p:List Nat}{q:D}{z:Ky}{ks:List Ky}{ts:List T}(hx:x ρ=.ok u)(hf:f ρ=.ok p)(hk:k ρ=.ok q)(hi:ρ[i]? =some (.on (.tr t)))(hz:keyOf q=some z)(JQ:T.at t p=some (.m ks ts))(hl:ks.length<1000)(hn:z∉ks)(h:ρ.all c0=true):
   kA i f k x ρ=.ok (.next (ρ.set i (.on (.tr (T.put (.m (ks++[z]) (ts++[u])) t p))))):=by
 unfold kA;rw[hx,R.aQ,hf,R.aQ,hk,R.aQ,hi,hz];show(match T.at t p with|some (.m ks ts)=>if ks.length<1000/\¬(ks.any λa=>decide (a=z))=true then R.ok (Fl.next ((dQ i p ρ).set i (.on (.tr (T.put (.m (ks++[z]) (ts++[u])) t p)))))else .bad|_=>.bad)=_
 rw[JQ,m6 h];exact if_pos ⟨hl,by simpa using hn⟩
theorem pC:∀vs:List D,fq (vs.map .d)=some vs
 |[]=>rfl
 |v::vs=>by rw[List.map_cons,fq,pC vs];rfl
theorem lj{i:Nat}{f:Pt}{e:Ex}{t:T}{p:List Nat}{ks as as':List Ky}{vs bs bs':List D}(hf:f ρ=.ok p)(he:e ρ=.ok (.aN ks vs))(hi:ρ[i]? =some (.on (.tr t)))(JQ:T.at t p=some (.m as (bs.map .d)))(hl:ks.length+as.length<1000)(hp:dU ks vs as bs=(as',bs')):
   gb i f e ρ=.ok (.next (ρ.set i (.on (.tr (T.put (.m as' (bs'.map .d)) t p))))):=by
 unfold gb;rw[hf,R.aQ,he,R.aQ,hi];show(match T.at t p with|some (.m as ts)=>(match fq ts with|some bs=>if ks.length+as.length<1000 then R.ok (Fl.next (ρ.set i (.on (.tr (T.put (.m (dU ks vs as bs).1 ((dU ks vs as bs).2.map .d)) t p)))))else .bad|none=>.bad)|_=>.bad)=_
 rw[JQ];show(match fq (bs.map .d)with|some bs=>if ks.length+as.length<1000 then R.ok (Fl.next (ρ.set i (.on (.tr (T.put (.m (dU ks vs as bs).1 ((dU ks vs as bs).2.map .d)) t p)))))else .bad|none=>.bad)=_
 rw[pC];show(if ks.length+as.length<1000 then _ else _)=_
 rw[if_pos hl,hp]
theorem lQ{i:Nat}{f:Pt}{k e:Ex}{d q:D}{p:List Nat}{z:Ky}{t:T}{ks ks':List Ky}{ts ts':List T}(he:e ρ=.ok d)(hf:f ρ=.ok p)(hk:k ρ=.ok q)(hz:keyOf q=some z)(hi:ρ[i]? =some (.on (.tr t)))(JQ:T.at t p=some (.m ks ts))(hl:ks.length<1000)(hp:iz z (.d d) ks ts=(ks',ts'))(h:ρ.all c0=true):
   fo i f k e ρ=.ok (.next (ρ.set i (.on (.tr (T.put (.m ks' ts') t p))))):=by
 unfold fo;rw[he,R.aQ,hf,R.aQ,hk,R.aQ,hi,hz];show(match T.at t p with|some (.m ks ts)=>if ks.length<1000 then R.ok (Fl.next ((dQ i p ρ).set i (.on (.tr (T.put (.m (iz z (.d d) ks ts).1 (iz z (.d d) ks ts).2) t p)))))else .bad|_=>.bad)=_
 rw[JQ,m6 h];show(if ks.length<1000 then _ else _)=_
 rw[if_pos hl,hp]
theorem vM{i:Nat}{f:Pt}{k:Ex}{x:Xt}{u t:T}{p:List Nat}{j:Int}{m:Nat}{ts:List T}(hx:x ρ=.ok u)(hf:f ρ=.ok p)(hk:k ρ=.ok (.int j))(hi:ρ[i]? =some (.on (.tr t)))(JQ:T.at t p=some (.l ts))(hm:bJ ts.length j=some m)(h:ρ.all c0=true):
   kK i f k x ρ=.ok (.next (ρ.set i (.on (.tr (T.put (.l (ts.set m u)) t p))))):=by
 unfold kK;rw[hx,R.aQ,hf,R.aQ,hk,R.aQ,hi];show(match T.at t p with|some (.l ts)=>(match bJ ts.length j with|some m=>R.ok (Fl.next ((dQ i p ρ).set i (.on (.tr (T.put (.l (ts.set m u)) t p)))))|none=>.bad)|_=>.bad)=_
 rw[JQ,m6 h];show(match bJ ts.length j with|some m=>_|none=>_)=_
 rw[hm]
theorem Cm{i:Nat}{f:Pt}{e:Ex}{t:T}{p:List Nat}{d:D}{vs:List D}(hf:f ρ=.ok p)(he:e ρ=.ok d)(hi:ρ[i]? =some (.on (.tr t)))(JQ:T.at t p=some (.l (vs.map .d)))(hl:vs.length<16777216):
   i8 i f e ρ=.ok (.next (ρ.set i (.on (.tr (T.put (.l ((vs++[d]).map .d)) t p))))):=by
 unfold i8;rw[hf,R.aQ,he,R.aQ,hi];show(match T.at t p with|some (.l ts)=>(match fq ts with|some vs=>if vs.length<dP then R.ok (Fl.next (ρ.set i (.on (.tr (T.put (.l ((vs++[d]).map .d)) t p)))))else .bad|none=>.bad)|_=>.bad)=_
 rw[JQ];show(match fq (vs.map .d)with|some vs=>_|none=>_)=_
 rw[pC];exact if_pos hl
theorem kE:∀vs:List D,T.cQ (vs.map .d)=vs
 |[]=>rfl
 |v::vs=>by rw[List.map_cons,T.cQ,kE vs];rfl
theorem mi{α:Type}(f:α->T)(g:α->D)(h:∀a,T.toD (f a)=g a):∀xs:List α,T.cQ (xs.map f)=xs.map g
 |[]=>rfl
 |x::xs=>by rw[List.map_cons,T.cQ,mi f g h xs,h];rfl
theorem a9:eList [] ρ=.ok []:=rfl
theorem aR{e:Ex}{es:List Ex}{x:D}{xs:List D}(h:e ρ=.ok x)(h2:eList es ρ=.ok xs):eList (e::es) ρ=.ok (x::xs):=by
 unfold eList;rw[h,R.aQ,h2,R.aQ]
theorem b8{es:List Ex}{xs:List D}(h:eList es ρ=.ok xs):bh es ρ=.ok (.lst xs):=by
 unfold bh;rw[h];rfl
theorem il{es:List Ex}{xs:List D}(h:eList es ρ=.ok xs):cn es ρ=.ok (.tup xs):=by
 unfold cn;rw[h];rfl
theorem jK{ks:List Ky}{es:List Ex}{xs:List D}(h:eList es ρ=.ok xs):cS ks es ρ=.ok (.aN ks xs):=by
 unfold cS;rw[h];rfl
theorem dE{e:Ex}{d:D}(h:e ρ=.ok d):xD e ρ=.ok (.d d):=by
 unfold xD;rw[h];rfl
theorem eK{k:Ex}{f:Xt}{r:List (Ex×Xt)}{q:D}{z:Ky}{t:T}{ks:List Ky}{ts:List T}(hk:k ρ=.ok q)(hf:f ρ=.ok t)(hz:keyOf q=some z)(h:hR r ρ=.ok (ks,ts)):hR ((k,f)::r) ρ=.ok (z::ks,t::ts):=by
 unfold hR;rw[hk,R.aQ,hf,R.aQ,hz];show(hR r ρ).bind _=_;rw[h];rfl
theorem wo{Ks:List (Ex×Xt)}{ks:List Ky}{ts:List T}(h:hR Ks ρ=.ok (ks,ts))(nd:ks.Nodup):ki Ks ρ=.ok (.m ks ts):=by
 unfold ki;rw[h];exact if_pos nd
theorem ll{n:Nat}{b:Sm}{ds:List D}{t:T}(h:b (ds.map .sh++List.replicate (n - ds.length) .un)=.ok (.dD t)):gi n b ds=.ok t:=by
 unfold gi;rw[h];rfl
theorem mE{a:Sm}{r:List Sm}{t:T}(h:a ρ=.ok (.dD t)):aw (a::r) ρ=.ok (.dD t):=by
 show(a ρ).bind _=_;rw[h];rfl
theorem nO{α β:Type}(f:α->β)(xs:List α)(lo hi:Option Int):cut (xs.map f) lo hi=(cut xs lo hi).map f:=by
 unfold cut;rw[List.length_map,List.map_take,List.map_drop]
theorem rJ{v:D}{k:Int}:∀ {K:List Int} {m:Nat} {vs:List D},K.Nodup->K[m]? =some k->vs[m]? =some v->cA (.inl k) (K.map .inl) vs=some v
 |[],m,vs,_,h,_=>by simp at h
 | a::K,0,v'::vs,_,h,h2=>by
   simp at h h2;subst h h2;exact if_pos rfl
 |a::K,0,[],_,_,h2=>by simp at h2
 |a::K,m+1,[],_,_,h2=>by simp at h2
 | a::K,m+1,v'::vs,nd,h,h2=>by
   have Jv:=List.nodup_cons.mp nd;have hk:k∈K:=List.mem_of_getElem? (by simpa using h)
   have C':¬(Sum.inl a:Ky)=.inl k:=λz=>by injection z with z;subst z;exact Jv.1 hk
   show(if(Sum.inl a:Ky)=.inl k then some v' else cA (.inl k) (K.map .inl) vs)=_
   rw[if_neg C'];exact rJ Jv.2 (by simpa using h) (by simpa using h2)
theorem vQ{k:Int}:∀ {K:List Int} {vs:List D},k∉K->cA (.inl k) (K.map .inl) vs=none
 |[],vs,_=>by cases vs<;>rfl
 |a::K,[],_=>rfl
 | a::K,v::vs,h=>by
   have C':¬(Sum.inl a:Ky)=.inl k:=λz=>by injection z with z;subst z;exact h List.mem_cons_self
   show(if(Sum.inl a:Ky)=.inl k then some v else cA (.inl k) (K.map .inl) vs)=_
   rw[if_neg C'];exact vQ λh2=>h (List.mem_cons_of_mem _ h2)
theorem jA{K:List Int}{vs:List D}(k:Int)(nd:K.Nodup)(hl:vs.length=K.length):cu (.int k) (.aN (K.map .inl) vs)=.ok (.bl (decide (k∈K))):=by
 show R.ok (D.bl (cA (.inl k) (K.map .inl) vs).isSome)=_;by_cases h:k∈K
 · obtain⟨m,hm⟩:=List.getElem?_of_mem h
   have JC:=(List.getElem?_eq_some_iff.mp hm).1;rw[rJ (v:=vs[m]'(by omega)) nd hm (List.getElem?_eq_getElem (by omega)),decide_eq_true h];rfl
 ·rw[vQ h,decide_eq_false h];rfl
theorem fK{K:List Int}{vs:List D}{k:Int}{m:Nat}{v:D}(nd:K.Nodup)(hm:K[m]? =some k)(hv:vs[m]? =some v):af (.aN (K.map .inl) vs) (.int k)=.ok v:=by
 show kc (.aN (K.map .inl) vs) (.int k)=_;unfold kc;show(match cA (.inl k) (K.map .inl) vs with|some v=>R.ok v|none=>_)=_
 rw[rJ nd hm hv]
theorem qV{k:Int}:∀ {K:List Int} {m:Nat},K.Nodup->K[m]? =some k->gZ (.inl k) (K.map .inl)=some m
 |[],m,_,h=>by simp at h
 | a::K,0,_,h=>by
   simp at h;subst h;exact if_pos rfl
 | a::K,m+1,nd,h=>by
   have Jv:=List.nodup_cons.mp nd;have hk:k∈K:=List.mem_of_getElem? (by simpa using h)
   have C':¬(Sum.inl a:Ky)=.inl k:=λz=>by injection z with z;subst z;exact Jv.1 hk
   show(if(Sum.inl a:Ky)=.inl k then some 0 else(gZ (.inl k) (K.map .inl)).map (· +1))=_
   rw[if_neg C',qV Jv.2 (by simpa using h)];rfl
theorem jW:∀xs:List Int,f7 (xs.map D.int)=true
 |[]=>rfl
 |x::xs=>by rw[List.map_cons,f7,jW xs];rfl
noncomputable abbrev Q(x:String):Ky:=.inr (Str.ofString x)
noncomputable def TK:List Ky:=[Q "parent",Q "rank",Q "regs",Q "row",Q "handles",Q "waits",Q "handler",Q "rung",Q "saved",Q "word"]
structure Tk where
 p:Int
 r:Int
 rg:List Int
 ro:Int
 hk:List Int
 hn:List Int
 wt:D
 hd:Int
 rn:Bool
 sv:D
 wd:Int
noncomputable def Tk.v(t:Tk):List D:=[.int t.p,.int t.r,L t.rg,.int t.ro,.aN (t.hk.map Sum.inl) (t.hn.map .int),t.wt,.int t.hd,.bl t.rn,t.sv,.int t.wd]
noncomputable def Tk.T(t:Tk):T:=.m TK (t.v.map .d)
noncomputable def Tk.D(t:Tk):D:=.aN TK t.v
def WT(w:D):Prop:=w=.aD\/∃(s:Str) (xs:List Int),w=.tup (.str s::xs.map .int)/\lay (.str s)=true
def SV(w:D):Prop:=w=.aD\/∃(ws:List Int) (x:Int),w=.tup [L ws,.int x]
def Tk.ok(t:Tk):Prop:=WT t.wt/\SV t.sv
theorem DA(t:Tk):T.toD t.T=t.D:=by
 show D.aN TK (T.cQ (t.v.map .d))=_;rw[kE];rfl
theorem CZ{hk hn:List Int}{k v:Int}(h:hk.length=hn.length):∃LZ Lh:List Int,putL (.inl k) (.int v) (hk.map .inl) (hn.map .int)=(LZ.map .inl,Lh.map .int)/\LZ.length=Lh.length/\LZ.length<=hk.length+1:=by
 unfold putL;split
 · have:∀ {hk hn:List Int},List.zipWith (λa v'=>if a=(Sum.inl k:Ky)then D.int v else v') (hk.map Sum.inl) (hn.map D.int)=(List.zipWith (λa v'=>if a=k then v else v') hk hn).map D.int:=by
     intro hk
     induction hk with
     |nil=>intro hn;rfl
     | cons a hk ih=>
       intro hn;cases hn with
       |nil=>rfl
       | cons b hn=>
         simp only[List.map_cons,List.zipWith_cons_cons,ih];by_cases hak:a=k
         ·simp[hak]
         ·rw[if_neg hak,if_neg (λz=>hak (by injection z))]
   exact⟨hk,_,by rw[this],by rw[List.length_zipWith];omega,by omega⟩
 ·exact⟨hk++[k],hn++[v],by simp,by simp[h],by simp⟩
theorem u3{i:Nat}{k e:Ex}{ρ:En}{d q:D}{z:Ky}{ks ks':List Ky}{vs NJ:List D}(he:e ρ=.ok d)(hk:k ρ=.ok q)(hz:keyOf q=some z)(hi:ρ[i]? =some (.od ks vs))(hl:ks.length<1000)(hp:putL z d ks vs=(ks',NJ)):jU i k e ρ=.ok (.next (ρ.set i (.od ks' NJ))):=by
 unfold jU;rw[he,R.aQ,hk,R.aQ,hi,hz];show(if ks.length<1000 then _ else _)=_
 rw[if_pos hl,hp]
theorem BN{a b c d j:Int}(h0:0<=j)(h1:j<4):∃x:Int,af (.lst [.int a,.int b,.int c,.int d]) (.int j)=.ok (.int x):=by
 obtain⟨x,_,h⟩:=iu (xs:=[a,b,c,d]) h0 (by simpa using h1)
 exact⟨x,dX h⟩
theorem BQ{r a3 a4 a5 a6:D}{p m:Int}:∃(m':Int) (hk hn:List Int) (x:Option D),b0 (dM (eC (.int 1)) (eC (.int 8))) (az 8) j4 [.sh (.int m),.sh (.int p),.sh r,.sh a3,.sh a4,.sh a5,.sh a6,.od [] [],.un,.un]=.ok (.next [.sh (.int m'),.sh (.int p),.sh r,.sh a3,.sh a4,.sh a5,.sh a6,.od (hk.map .inl) (hn.map .int),ae x,.un])/\hk.length=hn.length:=by
 obtain⟨ρ',e,m',hk,hn,x,rfl,h1,h2⟩:=cX (it:=dM (eC (.int 1)) (eC (.int 8))) (tg:=az 8) (body:=j4) (ρ:=[.sh (.int m),.sh (.int p),.sh r,.sh a3,.sh a4,.sh a5,.sh a6,.od [] [],.un,.un])
   (λi ρ=>∃(m':Int) (hk hn:List Int) (x:Option D),ρ=[.sh (.int m'),.sh (.int p),.sh r,.sh a3,.sh a4,.sh a5,.sh a6,.od (hk.map .inl) (hn.map .int),ae x,.un]/\hk.length=hn.length/\hk.length<=i) (lg rfl rfl (by decide) (by decide)) ⟨m,[],[],none,rfl,rfl,Nat.le_refl _⟩ (by
   rintro i d hd ρ ⟨q,hk,hn,x,rfl,h1,h2⟩;obtain⟨rfl,hi⟩:=jo hd;refine⟨[.sh (.int q),.sh (.int p),.sh r,.sh a3,.sh a4,.sh a5,.sh a6,.od (hk.map .inl) (hn.map .int),.sh (.int (1+i)),.un],rfl,?_⟩;rw[j4];obtain⟨LZ,Lh,hp,l1,l2⟩:=CZ (k:=1+i) (v:=14+q / 3 % 186) h1
   have fin:∀(hk hn:List Int),hk.length=hn.length->hk.length<=i+1->∃J7,aw [aK (az 0) (e2 bt (aa 0) (eC (.int 558)))] [.sh (.int q),.sh (.int p),.sh r,.sh a3,.sh a4,.sh a5,.sh a6,.od (hk.map .inl) (hn.map .int),.sh (.int (1+i)),.un]=.ok (.next J7)/\∃(m':Int) (hk hn:List Int) (x:Option D),J7=[.sh (.int m'),.sh (.int p),.sh r,.sh a3,.sh a4,.sh a5,.sh a6,.od (hk.map .inl) (hn.map .int),ae x,.un]/\hk.length=hn.length/\hk.length<=i+1:=λhk hn h1 h2=>by
     rw[ao (aW (bZ rfl rfl (dv (by decide) (by decide))))]
     exact⟨_,rfl,q / 558,hk,hn,some _,rfl,h1,h2⟩
   have ht:=aO (gT (ρ:=[.sh (.int q),.sh (.int p),.sh r,.sh a3,.sh a4,.sh a5,.sh a6,.od (hk.map .inl) (hn.map .int),.sh (.int (1+i)),.un]) (a:=e2 oMod (aa 0) (eC (.int 3))) (b:=eC (.int 1)) (bV rfl rfl (by decide)) rfl)
   by_cases hc:q % 3=1
   · rw[decide_eq_true hc]at ht
     rw[ao (show _=R.ok (Fl.next [.sh (.int q),.sh (.int p),.sh r,.sh a3,.sh a4,.sh a5,.sh a6,.od (LZ.map .inl) (Lh.map .int),.sh (.int (1+i)),.un]) by
       rw[eZ ht];exact u3 (ks:=hk.map .inl) (vs:=hn.map .int) (d:=.int (14+q / 3 % 186)) (q:=.int (1+i)) (z:=.inl (1+i)) (eV (i:=14) rfl (bV (bZ (u:=3) rfl rfl (dv (by decide) (by decide))) (u:=186) rfl (by decide))) rfl rfl rfl (by rw[List.length_map];omega) hp)]
     exact fin LZ Lh l1 (by omega)
   · rw[decide_eq_false hc]at ht
     rw[ao (bX ht)];exact fin hk hn h1 (by omega))
 exact⟨m',hk,hn,x,e,h1⟩
theorem CW:TK.Nodup:=by decide+kernel
theorem Cb(n p:Int):∃t:Tk,k9 [.int n,.int p]=.ok t.T/\t.ok:=by
 rw[k9];have hm:=Int.emod_nonneg (n / 12) (show(4:Int)≠0 by decide)
 have MZ:=Int.emod_lt_of_pos (n / 12) (show(0:Int)<4 by decide)
 obtain⟨hd,To⟩:=BN (a:=0) (b:=0) (c:=7) (d:=n / 96 % 4294967296) hm MZ;obtain⟨ws,PU,MY⟩:=uV (n / 96 / 4294967296) (m:=18) (by decide) (by decide)
 obtain⟨m',hk,hn,x,eL,Uk⟩:=BQ (p:=p) (r:=.int (n % 4)) (a3:=.bl (decide (n / 4 % 3=1))) (a4:=.int hd) (a5:=.bl (decide (n / 48 % 2=1))) (a6:=L ws) (m:=n / 96 / 4294967296 / ((2:Int) ^ (32:Int).toNat) ^ (18:Int).toNat);obtain⟨w8,_,h8⟩:=iu (xs:=ws) (i:=8) (by decide) (by rw[MY];decide)
 obtain⟨Tv,_,RX⟩:=iu (xs:=ws) (i:=17) (by decide) (by rw[MY];decide)
 have P4:∃sv,SV sv/\(e2 af (bh [eC .aD,cn [bK (aa 6) (some (eC (.int 9))) (some (eC (.int 17))),e2 af (aa 6) (eC (.int 17))]]) (e1 nJ (aa 5))) [.sh (.int m'),.sh (.int p),.sh (.int (n % 4)),.sh (.bl (decide (n / 4 % 3=1))),.sh (.int hd),.sh (.bl (decide (n / 48 % 2=1))),.sh (L ws),.od (hk.map .inl) (hn.map .int),ae x,.un]=.ok sv:=by
   have Pd:(cn [bK (aa 6) (some (eC (.int 9))) (some (eC (.int 17))),e2 af (aa 6) (eC (.int 17))]) [.sh (.int m'),.sh (.int p),.sh (.int (n % 4)),.sh (.bl (decide (n / 4 % 3=1))),.sh (.int hd),.sh (.bl (decide (n / 48 % 2=1))),.sh (L ws),.od (hk.map .inl) (hn.map .int),ae x,.un]=.ok (.tup [L (cut ws (some 9) (some 17)),.int Tv]):=
     il (aR (show R.ok (D.lst (cut (ws.map .int) (some 9) (some 17)))=_ by rw[nO]) (aR (aA rfl rfl (dX RX)) a9))
   have Ke:=b8 (aR (ρ:=[.sh (.int m'),.sh (.int p),.sh (.int (n % 4)),.sh (.bl (decide (n / 4 % 3=1))),.sh (.int hd),.sh (.bl (decide (n / 48 % 2=1))),.sh (L ws),.od (hk.map .inl) (hn.map .int),ae x,.un]) (e:=eC .aD) rfl (aR Pd a9));by_cases hc:n / 48 % 2=1
   · rw[decide_eq_true hc]at Ke ⊢
     exact⟨_,.inr ⟨_,_,rfl⟩,aA Ke (b5 (x:=.bl true) rfl rfl) rfl⟩
   · rw[decide_eq_false hc]at Ke ⊢
     exact⟨_,.inl rfl,aA Ke (b5 (x:=.bl false) rfl rfl) rfl⟩
 obtain⟨sv,MF,P4⟩:=P4;refine⟨⟨p,n % 4,cut ws none (some 8),w8,hk,hn,.aD,hd,decide (n / 4 % 3=1),sv,0⟩,ll ?_,.inl rfl,MF⟩;rw[ao (aW (bV rfl rfl (by decide)))]
 show aw _ [.sh (.int n),.sh (.int p),.sh (.int (n % 4)),.un,.un,.un,.un,.un,.un,.un]=_;rw[ao (aW (gT (bV (bZ rfl rfl (dv (by decide) (by decide))) rfl (by decide)) rfl))]
 show aw _ [.sh (.int n),.sh (.int p),.sh (.int (n % 4)),.sh (.bl (decide (n / 4 % 3=1))),.un,.un,.un,.un,.un,.un]=_;rw[ao (aW (aA (b8 (aR (x:=.int 0) rfl (aR (x:=.int 0) rfl (aR (x:=.int 7) rfl (aR (bV (bZ rfl rfl (dv (by decide) (by decide))) (iU _) (by decide)) a9))))) (bV (bZ rfl rfl (dv (by decide) (by decide))) rfl (by decide)) To))]
 show aw _ [.sh (.int n),.sh (.int p),.sh (.int (n % 4)),.sh (.bl (decide (n / 4 % 3=1))),.sh (.int hd),.un,.un,.un,.un,.un]=_;rw[ao (aW (gT (bV (bZ rfl rfl (dv (by decide) (by decide))) rfl (by decide)) rfl))]
 show aw _ [.sh (.int n),.sh (.int p),.sh (.int (n % 4)),.sh (.bl (decide (n / 4 % 3=1))),.sh (.int hd),.sh (.bl (decide (n / 48 % 2=1))),.un,.un,.un,.un]=_;rw[ao (aW (bZ (bZ rfl rfl (dv (by decide) (by decide))) (iU _) (dv (by decide) (by decide))))]
 show aw _ [.sh (.int (n / 96 / 4294967296)),.sh (.int p),.sh (.int (n % 4)),.sh (.bl (decide (n / 4 % 3=1))),.sh (.int hd),.sh (.bl (decide (n / 48 % 2=1))),.un,.un,.un,.un]=_;rw[ao (aW (dh rfl rfl PU))];show aw _ [.sh (.int (n / 96 / 4294967296)),.sh (.int p),.sh (.int (n % 4)),.sh (.bl (decide (n / 4 % 3=1))),.sh (.int hd),.sh (.bl (decide (n / 48 % 2=1))),.sh (L ws),.un,.un,.un]=_;rw[ao (aW (bZ rfl (aA (o:=bL) (aA (o:=bL) rfl rfl (kI ⟨by decide,by decide,by decide+kernel⟩)) rfl (kI ⟨by decide,by decide,by decide+kernel⟩)) (by decide+kernel)))]
 rw[ao (show g8 7 (cS [] []) _=R.ok (Fl.next _)from rfl)]
 show aw _ [.sh (.int (n / 96 / 4294967296 / ((2:Int) ^ (32:Int).toNat) ^ (18:Int).toNat)),.sh (.int p),.sh (.int (n % 4)),.sh (.bl (decide (n / 4 % 3=1))),.sh (.int hd),.sh (.bl (decide (n / 48 % 2=1))),.sh (L ws),.od [] [],.un,.un]=_;rw[ao eL,ao (aW P4)];show aw _ [.sh (.int m'),.sh (.int p),.sh (.int (n % 4)),.sh (.bl (decide (n / 4 % 3=1))),.sh (.int hd),.sh (.bl (decide (n / 48 % 2=1))),.sh (L ws),.od (hk.map .inl) (hn.map .int),ae x,.sh sv]=_;rw[ao (show eA 7 _=R.ok (Fl.next [.sh (.int m'),.sh (.int p),.sh (.int (n % 4)),.sh (.bl (decide (n / 4 % 3=1))),.sh (.int hd),.sh (.bl (decide (n / 48 % 2=1))),.sh (L ws),.sh (.aN (hk.map .inl) (hn.map .int)),ae x,.sh sv])from rfl)]
 refine mE ?_;unfold nI;rw[wo (eK rfl (dE rfl) rfl (eK rfl (dE rfl) rfl (eK rfl (dE (d:=L (cut ws none (some 8))) (show R.ok (D.lst (cut (ws.map .int) none (some 8)))=_ by rw[nO])) rfl (eK rfl (dE (aA rfl rfl (dX h8))) rfl (eK rfl (dE rfl) rfl (eK rfl (dE rfl) rfl (eK rfl (dE rfl) rfl (eK rfl (dE rfl) rfl (eK rfl (dE rfl) rfl (eK rfl (dE rfl) rfl rfl)))))))))) CW]
 rfl
def TS(K:List Int)(Y:List Tk):Prop:=K.Nodup/\(∀k∈K,1<=k/\k<=15)/\Y.length=K.length/\∀t∈Y,t.ok
noncomputable abbrev tT(K:List Int)(Y:List Tk):T:=.m (K.map .inl) (Y.map Tk.T)
noncomputable abbrev tD(K:List Int)(Y:List Tk):D:=.aN (K.map .inl) (Y.map Tk.D)
theorem gB(K:List Int)(Y:List Tk):T.toD (tT K Y)=tD K Y:=by
 show D.aN (K.map .inl) (T.cQ (Y.map Tk.T))=_;rw[mi Tk.T Tk.D DA]
theorem lP(K:List Int):(K.map (Sum.inl:Int->Ky)).map gp=K.map D.int:=by
 rw[List.map_map];rfl
theorem x_call{m:List D->R T}{fs:List Ex}{ρ:En}{ds:List D}{t:T}(h:eList fs ρ=.ok ds)(h2:m ds=.ok t):eU m fs ρ=.ok t:=by
 unfold eU;rw[h,R.aQ,h2]
theorem ip{a:Ex}{ρ:En}{xs:List D}(h:a ρ=.ok (.lst xs)):cM a ρ=.ok xs:=by
 unfold cM;rw[h];rfl
theorem zc{ns K:List Int}{Y:List Tk}{k:Int}{x4 x5:Option D}(h:TS K Y)(hk:k∉K)(h1:1<=k)(h2:k<=15)(hl:K.length<=15):
   ∃(K':List Int) (Y':List Tk) (x3 RK RE:Option D),jM [.sh (L ns),.un,.on (.tr (tT K Y)),.sh (.int k),ae x4,ae x5]=.ok (.next [.sh (L ns),.un,.on (.tr (tT K' Y')),ae x3,ae RK,ae RE])/\TS K' Y'/\K'.length<=K.length+1/\∀x∈K',x∈K\/x=k:=by
 obtain⟨n,hn⟩:=ig ns (k:=k) (by omega) (by omega)
 rw[jM,ao (aW (dh rfl rfl hn))];show ∃(K':List Int) (Y':List Tk) (x3 RK RE:Option D),aw _ [.sh (L ns),.un,.on (.tr (tT K Y)),.sh (.int k),.sh (.int n),ae x5]=_/\_;have ht:=aO (vZ (ρ:=[.sh (L ns),.un,.on (.tr (tT K Y)),.sh (.int k),.sh (.int n),ae x5]) (a:=e2 oMod (aa 4) (eC (.int 5))) (b:=eC (.int 0)) (bV rfl rfl (by decide)) rfl)
 by_cases hc:0<n % 5
 · rw[decide_eq_true hc]at ht
   obtain⟨nd,hb,SO,aH⟩:=h;have Sq:=Int.emod_nonneg (n / 5 % 16) (show(((0::K).length:Nat):Int)≠0 by simp only[List.length_cons];omega)
   have QN:=Int.emod_lt_of_pos (n / 5 % 16) (show 0<(((0::K).length:Nat):Int) by simp only[List.length_cons];omega)
   obtain⟨pr,_,OD⟩:=iu (xs:=0::K) Sq QN;obtain⟨t,et,LQ⟩:=Cb (n / 80) pr;refine⟨K++[k],Y++[t],some (.int k),some (.int n),some (L (0::K)),?_,⟨?_,?_,by simp[SO],?_⟩,by simp,?_⟩
   · rw[ao (show _=R.ok (Fl.next [.sh (L ns),.un,.on (.tr (tT (K++[k]) (Y++[t]))),.sh (.int k),.sh (.int n),.sh (L (0::K))]) by
       rw[eZ ht,ao (aW (vj (ds:=(0::K).map .int) rfl (by simp) (aA (x:=.lst [.int 0]) (y:=.lst (K.map .int)) rfl (b5 (x:=D.aN (K.map .inl) (T.cQ (Y.map Tk.T))) rfl (by rw[rL,lP])) (G.iR (by simp;omega))) (jW _)))]
       show aw _ [.sh (L ns),.un,.on (.tr (tT K Y)),.sh (.int k),.sh (.int n),.sh (L (0::K))]=_;rw[ao (wg (p:=[]) (t:=tT K Y) (q:=.int k) (z:=.inl k) (x_call (aR (bZ rfl rfl (dv (by decide) (by decide))) (aR (aA rfl (bV (bV (bZ rfl rfl (dv (by decide) (by decide))) rfl (by decide)) (fV (xs:=(0::K).map .int) rfl) (by simp only[List.length_map,List.length_cons];omega)) (dX (by rw[List.length_map];exact OD))) a9)) et) rfl rfl rfl rfl (eN _) (by simp;omega) (by simpa using hk) (by simp))]
       rw[kx];show R.ok (Fl.next [.sh (L ns),.un,.on (.tr (.m (K.map .inl++[.inl k]) (Y.map Tk.T++[t.T]))),.sh (.int k),.sh (.int n),.sh (L (0::K))])=_;rw[tT,List.map_append,List.map_append];rfl)]
     rfl
   ·exact List.nodup_append.mpr ⟨nd,by simp,λa ha b hb z=>by rw[List.mem_singleton]at hb;subst z hb;exact hk ha⟩
   · intro x hx
     rcases List.mem_append.mp hx with hx|hx
     ·exact hb x hx
     ·rw[List.mem_singleton]at hx;subst hx;exact⟨h1,h2⟩
   · intro x hx
     rcases List.mem_append.mp hx with hx|hx
     ·exact aH x hx
     ·rw[List.mem_singleton]at hx;subst hx;exact LQ
   · intro x hx
     rcases List.mem_append.mp hx with hx|hx
     ·exact .inl hx
     ·exact .inr (List.mem_singleton.mp hx)
 · rw[decide_eq_false hc]at ht
   rw[ao (bX ht)];exact⟨K,Y,some (.int k),some (.int n),x5,rfl,h,by omega,λx hx=>.inl hx⟩
theorem pH{O:List Int}{i:Nat}{k:Int}(nd:O.Nodup)(h:O[i]? =some k):k∉O.take i:=λhk=>by
 obtain⟨j,hj⟩:=List.getElem?_of_mem hk;rw[List.getElem?_take]at hj;split at hj
 · have JC:=(List.getElem?_eq_some_iff.mp hj).1
   have:=(List.getElem?_inj JC nd).mp (hj.trans h.symm);omega
 ·cases hj
theorem xH{O:List Int}{i:Nat}{k x:Int}(h:O[i]? =some k)(hx:x∈O.take i\/x=k):x∈O.take (i+1):=by
 rw[List.take_add_one,h];rcases hx with h|rfl
 ·exact List.mem_append_left _ h
 ·exact List.mem_append_right _ (by simp)
theorem g0{O:List Int}{i:Nat}{d:D}(h:(O.map D.int)[i]? =some d):∃k,d=.int k/\O[i]? =some k:=by
 rw[List.getElem?_map]at h;obtain⟨k,hk,rfl⟩:=Option.map_eq_some_iff.mp h;exact⟨k,rfl,hk⟩
theorem Hi(ns:List Int):∃(K:List Int) (Y:List Tk),lG [L ns]=.ok (tT K Y)/\TS K Y:=by
 rw[lG];obtain⟨n,hn⟩:=ig ns (k:=31) (by decide) (by decide)
 obtain⟨O,hO,nd,hb,hl⟩:=oU n
 obtain⟨ρ',e,K,Y,x3,x4,x5,rfl,h,RH,hk⟩:=cX (it:=cM (bc fE [bc cY [aa 0,eC (.int 31)],eC (.int 15)])) (tg:=az 3) (body:=jM) (ρ:=[.sh (L ns),.un,.on (.tr (tT [] [])),.un,.un,.un])
   (λi ρ=>∃(K:List Int) (Y:List Tk) (x3 x4 x5:Option D),ρ=[.sh (L ns),.un,.on (.tr (tT K Y)),ae x3,ae x4,ae x5]/\TS K Y/\K.length<=i/\∀x∈K,x∈O.take i) (ip (dh (dh rfl rfl hn) rfl hO)) ⟨[],[],none,none,none,rfl,⟨List.nodup_nil,(λ_ h=>nomatch h),rfl,λ_ h=>nomatch h⟩,Nat.le_refl _,λ_ h=>nomatch h⟩ (by
   rintro i d hd ρ ⟨K,Y,x3,x4,x5,rfl,h,RH,hk⟩;obtain⟨k,rfl,KD⟩:=g0 hd;refine⟨[.sh (L ns),.un,.on (.tr (tT K Y)),.sh (.int k),ae x4,ae x5],rfl,?_⟩;have Kl:=hb k (List.mem_of_getElem? KD);have hi:=(List.getElem?_eq_some_iff.mp KD).1;obtain⟨K',Y',y3,y4,y5,e,h',O',hs⟩:=zc (ns:=ns) (x4:=x4) (x5:=x5) h (λz=>pH nd KD (hk k z)) Kl.1 Kl.2 (by omega)
   exact⟨_,e,K',Y',y3,y4,y5,rfl,h',by omega,λx hx=>xH KD ((hs x hx).imp (hk x) id)⟩)
 refine⟨K,Y,ll ?_,h⟩;rw[ao (j2 (t:=tT [] []) rfl (by simp) (by decide))]
 show aw _ [.sh (L ns),.un,.on (.tr (tT [] [])),.un,.un,.un]=_;rw[ao e];exact mE rfl
theorem uP(t:Tk):af t.D (S "parent")=.ok (.int t.p):=by kernel_rfl
theorem p0(t:Tk):af t.D (S "waits")=.ok t.wt:=by kernel_rfl
theorem yR{t u:aL}{ρ:En}{b c:Bool}(h:t ρ=.ok b)(h':b=true->u ρ=.ok c):ba t u ρ=.ok (b&&c):=by
 unfold ba;rw[h,R.aQ];cases b with
 |true=>rw[if_pos rfl,h' rfl];rfl
 |false=>rfl
theorem at_of{K:List Int}{Y:List Tk}{k:Int}(hl:Y.length=K.length)(h:k∈K):∃(m:Nat) (t:Tk),K[m]? =some k/\Y[m]? =some t:=by
 obtain⟨m,hm⟩:=List.getElem?_of_mem h;have JC:=(List.getElem?_eq_some_iff.mp hm).1;exact⟨m,Y[m]'(by omega),hm,List.getElem?_eq_getElem (by omega)⟩
theorem qG{K O:List Int}{Y:List Tk}(k:Int)(nd:K.Nodup)(hl:Y.length=K.length)(hO:O.length<=1000):∃own:List Int,iF [tD K Y,.int k,L O]=.ok (L own)/\(∀x∈own,x∈K)/\own.length<=O.length:=by
 have hp:∀x:Int,∃b:Bool,(b=true->x∈K)/\ba (tV (e2 cu (aa 0) (aa 1))) (tV (e2 oEq (e2 af (e2 af (aa 1) (aa 0)) (eC (S "parent"))) (aa 2))) [.sh (.int x),.sh (tD K Y),.sh (.int k)]=.ok b:=λx=>by
   have h1:=aO (aA (ρ:=[.sh (.int x),.sh (tD K Y),.sh (.int k)]) (a:=aa 0) (b:=aa 1) rfl rfl (jA x nd (vs:=Y.map Tk.D) (by rw[List.length_map];exact hl)))
   by_cases hx:x∈K
   · rw[decide_eq_true hx]at h1
     obtain⟨m,t,hm,ht⟩:=at_of hl hx;refine⟨decide (t.p=k),λ_=>hx,?_⟩;rw[yR h1 λ_=>aO (gT (aA (aA rfl rfl (fK (v:=t.D) nd hm (by rw[List.getElem?_map,ht];rfl))) rfl (uP t)) rfl)]
     rfl
   · rw[decide_eq_false hx]at h1
     exact⟨false,(λz=>nomatch z),jf h1⟩
 obtain⟨p,NB⟩:=Classical.axiomOfChoice hp;have SM:=λx=>(NB x).1;have SN:=λx=>(NB x).2;refine⟨O.filter p,?_,λx hx=>SM x (List.mem_filter.mp hx).2,List.length_filter_le _ _⟩;rw[iF];refine so ?_;have:=iw (ρ:=[.sh (tD K Y),.sh (.int k),.sh (L O)]) (it:=cM (aa 2)) (n:=1) (fv:=[0,1]) (tg:=az 0) (cs:=[ba (tV (e2 cu (aa 0) (aa 1))) (tV (e2 oEq (e2 af (e2 af (aa 1) (aa 0)) (eC (S "parent"))) (aa 2)))]) (el:=aa 0) (ip rfl) (by rw[List.length_map];omega) (i5 D.int p D.int (xs:=O) λx _=>⟨[.sh (.int x),.sh (tD K Y),.sh (.int k)],rfl,by rw[cJ.fN,SN];cases p x<;>rfl,λ_=>rfl⟩)
 show(bW _ _ _ _ _ _ [.sh (tD K Y),.sh (.int k),.sh (L O)]).bind _=_;rw[this];rfl
theorem lN:∀xs:List Int,cN (xs.map D.int)=true
 |[]=>rfl
 |x::xs=>by rw[List.map_cons,cN,lN xs];rfl
theorem k6:∀xs:List Int,fM (xs.map D.int)=0
 |[]=>rfl
 |x::xs=>by rw[List.map_cons,fM,k6 xs];rfl
theorem q8:∀(xs ys:List Int),d4 (xs.map D.int) (ys.map D.int)=decide (xs=ys)
 |[],[]=>by simp[d4]
 |[],y::ys=>by simp[d4]
 |x::xs,[]=>by simp[d4]
 | x::xs,y::ys=>by
   rw[List.map_cons,List.map_cons,d4,q8 xs ys];show((x==y)&&decide (xs=ys))=_;by_cases h:x=y
   ·subst h;by_cases h2:xs=ys<;>simp[h2]
   ·simp[h]
theorem t5(xs ys:List Int):eS (L xs) (L ys)=true:=by
 unfold eS;have h1:∀zs,lay (L zs)=true:=λzs=>by rw[L,lay,lN]
 have h2:∀zs,dep (L zs)=1:=λzs=>by rw[L,dep,k6]
 rw[h1,h1,h2,h2];simp
theorem gM(xs ys:List Int):a7 (L xs) (L ys)=.ok (.bl (!decide (xs=ys))):=by
 unfold a7;rw[if_pos (t5 xs ys)];show R.ok (D.bl (!d4 _ _))=_;rw[q8]
theorem oo(xs ys:List Int):oEq (L xs) (L ys)=.ok (.bl (decide (xs=ys))):=by
 unfold oEq;have:cZ (L xs) (L ys)=true:=by unfold cZ;rw[t5];rfl
 rw[if_pos this];show R.ok (D.bl (d4 _ _))=_;rw[q8]
theorem eq_str(x y:Str):oEq (.str x) (.str y)=.ok (.bl (decide (x=y))):=by
 unfold oEq;rw[B7,if_pos rfl];rfl
theorem iY{ρ:En}{i:Nat}{f:aL}{t:T}{d:D}{b:Bool}(hi:ρ[i]? =some (.on (.tr t)))(h:ρ.all c0=true)(hd:T.toD t=d)(hf:f (ρ.set i (.sh d))=.ok b):d9 i f ρ=.ok b:=yQ hi h (by rw[hd];exact hf)
theorem pd{ρ:En}{i:Nat}{f:Ex}{t:T}{d:D}{ds:List D}(hi:ρ[i]? =some (.on (.tr t)))(h:ρ.all c0=true)(hd:T.toD t=d)(hf:f (ρ.set i (.sh d))=.ok (.lst ds))(hn:f7 ds=true):dW i f ρ=.ok (.lst ds):=vj hi h (by rw[hd];exact hf) hn
theorem TS.set{K:List Int}{Y:List Tk}{m:Nat}{t:Tk}(h:TS K Y)(ht:t.ok):TS K (Y.set m t):=⟨h.1,h.2.1,by rw[List.length_set];exact h.2.2.1,λx hx=>(List.mem_or_eq_of_mem_set hx).elim (h.2.2.2 x) λz=>z▸ht⟩
theorem ng{K:List Int}{Y:List Tk}{m:Nat}{t:Tk}(h:Y[m]? =some t):T.at (tT K Y) [m]=some (.m TK (t.v.map .d)):=vh (t:=t.T) (by rw[List.getElem?_map,h];rfl)
theorem ny{K:List Int}{Y:List Tk}{m:Nat}{t t':Tk}(h:Y[m]? =some t):T.put (.m TK (t'.v.map .d)) (tT K Y) [m]=tT K (Y.set m t'):=by
 rw[tT,AG (t:=t.T) (by rw[List.getElem?_map,h];rfl),tT,List.map_set];rfl
theorem ox{K:List Int}{Y:List Tk}{m:Nat}{k:Int}(nd:K.Nodup)(h:K[m]? =some k):stepT (tT K Y) (.int k)=some m:=qV nd h
theorem yC{ns K O:List Int}{Y:List Tk}{k n:Int}{x6 x7:Option D}(h:TS K Y)(hO:O.length<=1000):
   ∃(Y':List Tk) (n':Int) (x5 Mi Ml:Option D),kz [.sh (L ns),.un,.on (.tr (tT K Y)),.sh (L O),.sh (.int n),.sh (.int k),ae x6,ae x7]=.ok (.next [.sh (L ns),.un,.on (.tr (tT K Y')),.sh (L O),.sh (.int n'),ae x5,ae Mi,ae Ml])/\TS K Y':=by
 rw[kz];have Lw:=iY (ρ:=[.sh (L ns),.un,.on (.tr (tT K Y)),.sh (L O),.sh (.int n),.sh (.int k),ae x6,ae x7]) (i:=2) rfl (by simp) (gB K Y) (aO (aA (a:=aa 5) (b:=aa 2) rfl rfl (jA k h.1 (vs:=Y.map Tk.D) (by rw[List.length_map];exact h.2.2.1))))
 by_cases hk:k∈K
 · rw[decide_eq_true hk]at Lw
   obtain⟨m,t,hm,ht⟩:=at_of h.2.2.1 hk;obtain⟨own,LY,_,_⟩:=qG (O:=O) k h.1 h.2.2.1 hO;rw[eZ Lw,ao (aW (pd rfl (by simp) (gB K Y) (jr rfl rfl rfl LY) (jW own)))]
   show ∃(Y':List Tk) (n':Int) (x5 Mi Ml:Option D),aw _ [.sh (L ns),.un,.on (.tr (tT K Y)),.sh (L O),.sh (.int n),.sh (.int k),.sh (L own),ae x7]=_/\_;have LO:=iY (ρ:=[.sh (L ns),.un,.on (.tr (tT K Y)),.sh (L O),.sh (.int n),.sh (.int k),.sh (L own),ae x7]) (i:=2) rfl (by simp) (gB K Y) (c7 (aO (aA (a:=aa 6) (b:=bh []) rfl (b8 a9) (oo own []))) (c7 (aO (eO (b:=eC (.int 0)) (aA (b:=eC (S "parent")) (aA (a:=aa 2) (b:=aa 5) rfl rfl (fK (v:=t.D) h.1 hm (by rw[List.getElem?_map,ht];rfl))) rfl (uP t)) rfl)) (aO (gT (a:=e2 oMod (aa 4) (eC (.int 3))) (b:=eC (.int 1)) (bV rfl rfl (by decide)) rfl))))
   have fin:∀(Z:List Tk),TS K Z->∃(Y':List Tk) (n':Int) (x5 Mi Ml:Option D),aw [aK (az 4) (e2 bt (e2 bt (aa 4) (eC (.int 3))) (e2 bL (eC (.int 2)) (eC (.int 32))))] [.sh (L ns),.un,.on (.tr (tT K Z)),.sh (L O),.sh (.int n),.sh (.int k),.sh (L own),ae x7]=.ok (.next [.sh (L ns),.un,.on (.tr (tT K Y')),.sh (L O),.sh (.int n'),ae x5,ae Mi,ae Ml])/\TS K Y':=λZ h'=>by
     rw[ao (aW (bZ (bZ rfl rfl (dv (by decide) (by decide))) (iU _) (dv (by decide) (by decide))))]
     exact⟨Z,n / 3 / 4294967296,some _,some _,x7,rfl,h'⟩
   generalize (decide (own=[])&&(!decide (t.p=0)&&decide (n % 3=1)))=b at LO;cases b with
   | false=>
     rw[ao (bX LO)];exact fin Y h
   | true=>
     have LQ:=h.2.2.2 t (List.mem_of_getElem? ht);have MZ:m<Y.length:=(List.getElem?_eq_some_iff.mp ht).1
     rw[ao (show _=R.ok (Fl.next [.sh (L ns),.un,.on (.tr (tT K ((Y.set m {t with wt:=.tup [S "ended",.int (n / 3 % 4294967296)],hk:=[],hn:=[]}).set m {t with wt:=.tup [S "ended",.int (n / 3 % 4294967296)],hk:=[],hn:=[],rn:=false,sv:=.aD}))),.sh (L O),.sh (.int n),.sh (.int k),.sh (L own),ae x7]) by
       rw[eZ LO,ao (lj (p:=[m]) (t:=tT K Y) (bs:=t.v) (as':=TK) (bs':=Tk.v {t with wt:=.tup [S "ended",.int (n / 3 % 4294967296)],hk:=[],hn:=[]}) (hJ (p:=[]) (n:=tT K Y) rfl rfl rfl (eN _) (ox h.1 hm)) (jK (aR (il (aR rfl (aR (bV (bZ rfl rfl (dv (by decide) (by decide))) (iU _) (by decide)) a9))) (aR rfl a9))) rfl (ng ht) (by decide) (by kernel_rfl)),ny ht]
       show aw _ [.sh (L ns),.un,.on (.tr (tT K (Y.set m {t with wt:=.tup [S "ended",.int (n / 3 % 4294967296)],hk:=[],hn:=[]}))),.sh (L O),.sh (.int n),.sh (.int k),.sh (L own),ae x7]=_;have NI:(Y.set m {t with wt:=.tup [S "ended",.int (n / 3 % 4294967296)],hk:=[],hn:=[]})[m]? =some {t with wt:=.tup [S "ended",.int (n / 3 % 4294967296)],hk:=[],hn:=[]}:=List.getElem?_set_self MZ;rw[ao (lj (p:=[m]) (t:=tT K _) (bs:=Tk.v {t with wt:=.tup [S "ended",.int (n / 3 % 4294967296)],hk:=[],hn:=[]}) (as':=TK) (bs':=Tk.v {t with wt:=.tup [S "ended",.int (n / 3 % 4294967296)],hk:=[],hn:=[],rn:=false,sv:=.aD}) (hJ (p:=[]) (n:=tT K _) rfl rfl rfl (eN _) (ox h.1 hm)) (jK (aR rfl (aR rfl a9))) rfl (ng NI) (by decide) (by kernel_rfl)),ny NI]
       rfl)]
     refine fin _ ((h.set ?_).set ?_)
     ·exact⟨.inr ⟨_,[n / 3 % 4294967296],rfl,by kernel_rfl⟩,LQ.2⟩
     ·exact⟨.inr ⟨_,[n / 3 % 4294967296],rfl,by kernel_rfl⟩,.inl rfl⟩
 · rw[decide_eq_false hk]at Lw
   rw[bX Lw];exact⟨Y,n,some _,x6,x7,rfl,h⟩
theorem Dx{w:D}(h:WT w){a:Ex}{ρ:En}(ha:a ρ=.ok w):∃s,(e2 af (iO a (cn [eC (S "ready")])) (eC (.int 0))) ρ=.ok (.str s):=by
 rcases h with rfl|⟨s,xs,rfl,_⟩
 · refine⟨Str.ofString "ready",aA (x:=.tup [S "ready"]) (y:=.int 0) ?_ rfl rfl⟩
   unfold iO;rw[ha];rfl
 · refine⟨s,aA (x:=.tup (.str s::xs.map .int)) (y:=.int 0) ?_ rfl (qH (by rw[show(0:Int)=((0:Nat):Int)from rfl,me (by simp)];rfl))⟩
   unfold iO;rw[ha];rfl
theorem y0{ns K O:List Int}{Y:List Tk}{k n:Int}{x6 x7:Option D}(h:TS K Y)(hO:O.length<=1000):
   ∃(Y':List Tk) (n':Int) (x5 Mi Ml:Option D),ko [.sh (L ns),.un,.on (.tr (tT K Y)),.sh (L O),.sh (.int n),.sh (.int k),ae x6,ae x7]=.ok (.next [.sh (L ns),.un,.on (.tr (tT K Y')),.sh (L O),.sh (.int n'),ae x5,ae Mi,ae Ml])/\TS K Y':=by
 rw[ko];have Lw:=iY (ρ:=[.sh (L ns),.un,.on (.tr (tT K Y)),.sh (L O),.sh (.int n),.sh (.int k),ae x6,ae x7]) (i:=2) rfl (by simp) (gB K Y) (aO (aA (a:=aa 5) (b:=aa 2) rfl rfl (jA k h.1 (vs:=Y.map Tk.D) (by rw[List.length_map];exact h.2.2.1))))
 by_cases hk:k∈K
 · rw[decide_eq_true hk]at Lw
   obtain⟨m,t,hm,ht⟩:=at_of h.2.2.1 hk;obtain⟨own,LY,Kb,Sg⟩:=qG (O:=O) k h.1 h.2.2.1 hO
   have hp:∀x:Int,∃b:Bool,x∈K->tV (e2 oEq (e2 af (iO (e2 af (e2 af (aa 1) (aa 0)) (eC (S "waits"))) (cn [eC (S "ready")])) (eC (.int 0))) (eC (S "ended"))) [.sh (.int x),.sh (tD K Y)]=.ok b:=λx=>by
     by_cases hx:x∈K
     · obtain⟨m',t',QD,RQ⟩:=at_of h.2.2.1 hx
       obtain⟨s,hs⟩:=Dx (h.2.2.2 t' (List.mem_of_getElem? RQ)).1 (ρ:=[.sh (.int x),.sh (tD K Y)]) (a:=e2 af (e2 af (aa 1) (aa 0)) (eC (S "waits"))) (aA (aA rfl rfl (fK (v:=t'.D) h.1 QD (by rw[List.getElem?_map,RQ];rfl))) rfl (p0 t'))
       exact⟨_,λ_=>aO (aA hs rfl (eq_str _ _))⟩
     ·exact⟨true,λz=>absurd z hx⟩
   obtain⟨p,NB⟩:=Classical.axiomOfChoice hp
   have N8:(bW (cM (aa 6)) 1 [2] (az 0) [tV (e2 oEq (e2 af (iO (e2 af (e2 af (aa 1) (aa 0)) (eC (S "waits"))) (cn [eC (S "ready")])) (eC (.int 0))) (eC (S "ended")))] (aa 0)) [.sh (L ns),.un,.sh (tD K Y),.sh (L O),.sh (.int n),.sh (.int k),.sh (L own),ae x7]=.ok (L (own.filter p)):=
     iw (ip rfl) (by rw[List.length_map];omega) (i5 D.int p D.int (xs:=own) λx hx=>⟨[.sh (.int x),.sh (tD K Y)],rfl,by rw[cJ.fN,NB x (Kb x hx)];cases p x<;>rfl,λ_=>rfl⟩)
   rw[eZ Lw,ao (aW (pd rfl (by simp) (gB K Y) (jr rfl rfl rfl LY) (jW own)))]
   show ∃(Y':List Tk) (n':Int) (x5 Mi Ml:Option D),aw _ [.sh (L ns),.un,.on (.tr (tT K Y)),.sh (L O),.sh (.int n),.sh (.int k),.sh (L own),ae x7]=_/\_;rw[ao (aW (pd rfl (by simp) (gB K Y) N8 (jW _)))]
   show ∃(Y':List Tk) (n':Int) (x5 Mi Ml:Option D),aw _ [.sh (L ns),.un,.on (.tr (tT K Y)),.sh (L O),.sh (.int n),.sh (.int k),.sh (L own),.sh (L (own.filter p))]=_/\_
   have Py:∃b:Bool,cR t.wt=.ok (.bl b):=by
     rcases(h.2.2.2 t (List.mem_of_getElem? ht)).1 with e|⟨s,xs,e,_⟩
     ·rw[e];exact⟨_,rfl⟩
     ·rw[e];exact⟨_,rfl⟩
   obtain⟨bw,Pu⟩:=Py;have LO:=iY (ρ:=[.sh (L ns),.un,.on (.tr (tT K Y)),.sh (L O),.sh (.int n),.sh (.int k),.sh (L own),.sh (L (own.filter p))]) (i:=2) rfl (by simp) (gB K Y) (c7 (aO (aA (a:=aa 6) (b:=bh []) rfl (b8 a9) (gM own []))) (c7 (aO (aA (a:=aa 7) (b:=bh []) rfl (b8 a9) (oo (own.filter p) []))) (c7 (aO (b5 (o:=cR) (aA (b:=eC (S "waits")) (aA (a:=aa 2) (b:=aa 5) rfl rfl (fK (v:=t.D) h.1 hm (by rw[List.getElem?_map,ht];rfl))) rfl (p0 t)) Pu)) (aO (gT (a:=e2 oMod (aa 4) (eC (.int 3))) (b:=eC (.int 1)) (bV rfl rfl (by decide)) rfl)))))
   have fin:∀(Z:List Tk),TS K Z->∃(Y':List Tk) (n':Int) (x5 Mi Ml:Option D),aw [aK (az 4) (e2 bt (aa 4) (eC (.int 3)))] [.sh (L ns),.un,.on (.tr (tT K Z)),.sh (L O),.sh (.int n),.sh (.int k),.sh (L own),.sh (L (own.filter p))]=.ok (.next [.sh (L ns),.un,.on (.tr (tT K Y')),.sh (L O),.sh (.int n'),ae x5,ae Mi,ae Ml])/\TS K Y':=λZ h'=>by
     rw[ao (aW (bZ rfl rfl (dv (by decide) (by decide))))]
     exact⟨Z,n / 3,some _,some _,some _,rfl,h'⟩
   generalize (!decide (own=[])&&(decide (own.filter p=[])&&(bw&&decide (n % 3=1))))=b at LO;cases b with
   | false=>
     rw[ao (bX LO)];exact fin Y h
   | true=>
     have LQ:=h.2.2.2 t (List.mem_of_getElem? ht)
     rw[ao (show _=R.ok (Fl.next [.sh (L ns),.un,.on (.tr (tT K (Y.set m {t with wt:=.tup [S "child"]}))),.sh (L O),.sh (.int n),.sh (.int k),.sh (L own),.sh (L (own.filter p))]) by
       rw[eZ LO,lQ (p:=[m]) (t:=tT K Y) (d:=.tup [S "child"]) (q:=S "waits") (z:=Q "waits") (ks:=TK) (ks':=TK) (ts:=t.v.map .d) (ts':=(Tk.v {t with wt:=.tup [S "child"]}).map .d) rfl (hJ (p:=[]) (n:=tT K Y) rfl rfl rfl (eN _) (ox h.1 hm)) rfl rfl rfl (ng ht) (by decide) (by kernel_rfl) (by simp),ny ht]
       rfl)]
     exact fin _ (h.set ⟨.inr ⟨_,[],rfl,by kernel_rfl⟩,LQ.2⟩)
 · rw[decide_eq_false hk]at Lw
   rw[bX Lw];exact⟨Y,n,some _,x6,x7,rfl,h⟩
theorem xV(ns:List Int):∃(K:List Int) (Y:List Tk),lR [L ns]=.ok (tT K Y)/\TS K Y:=by
 obtain⟨K,Y,eT,h⟩:=Hi ns;obtain⟨n,hn⟩:=ig ns (k:=32) (by decide) (by decide)
 obtain⟨O,hO,nd,hb,hl⟩:=oU n;obtain⟨n3,Oy⟩:=ig ns (k:=33) (by decide) (by decide)
 obtain⟨JN,e1,Y1,q1,x5,x6,x7,rfl,h1⟩:=cX (it:=cM (aa 3)) (tg:=az 5) (body:=kz) (ρ:=[.sh (L ns),.un,.on (.tr (tT K Y)),.sh (L O),.sh (.int n3),.un,.un,.un])
   (λi ρ=>∃(Y:List Tk) (q:Int) (x5 x6 x7:Option D),ρ=[.sh (L ns),.un,.on (.tr (tT K Y)),.sh (L O),.sh (.int q),ae x5,ae x6,ae x7]/\TS K Y) (ip rfl) ⟨Y,n3,none,none,none,rfl,h⟩ (by
   rintro i d hd ρ ⟨Y,q,x5,x6,x7,rfl,h⟩;obtain⟨k,rfl,KD⟩:=g0 hd;obtain⟨Y',q',y5,y6,y7,e,h'⟩:=yC (ns:=ns) (O:=O) (k:=k) (n:=q) (x6:=x6) (x7:=x7) h (by omega)
   exact⟨_,rfl,_,e,Y',q',y5,y6,y7,rfl,h'⟩)
 obtain⟨J7,e2,Y2,q2,y5,y6,y7,rfl,h2⟩:=cX (it:=cM (aa 3)) (tg:=az 5) (body:=ko) (ρ:=[.sh (L ns),.un,.on (.tr (tT K Y1)),.sh (L O),.sh (.int q1),ae x5,ae x6,ae x7])
   (λi ρ=>∃(Y:List Tk) (q:Int) (x5 x6 x7:Option D),ρ=[.sh (L ns),.un,.on (.tr (tT K Y)),.sh (L O),.sh (.int q),ae x5,ae x6,ae x7]/\TS K Y) (ip rfl) ⟨Y1,q1,x5,x6,x7,rfl,h1⟩ (by
   rintro i d hd ρ ⟨Y,q,x5,x6,x7,rfl,h⟩;obtain⟨k,rfl,KD⟩:=g0 hd;obtain⟨Y',q',y5,y6,y7,e,h'⟩:=y0 (ns:=ns) (O:=O) (k:=k) (n:=q) (x6:=x6) (x7:=x7) h (by omega)
   exact⟨_,rfl,_,e,Y',q',y5,y6,y7,rfl,h'⟩)
 refine⟨K,Y2,?_,h2⟩;rw[lR];refine ll ?_;rw[ao (j2 (x_call (aR rfl a9) eT) (by simp) (by decide))]
 show aw _ [.sh (L ns),.un,.on (.tr (tT K Y)),.un,.un,.un,.un,.un]=_;rw[ao (aW (dh (dh rfl rfl hn) rfl hO))];show aw _ [.sh (L ns),.un,.on (.tr (tT K Y)),.sh (L O),.un,.un,.un,.un]=_;rw[ao (aW (dh rfl rfl Oy))];show aw _ [.sh (L ns),.un,.on (.tr (tT K Y)),.sh (L O),.sh (.int n3),.un,.un,.un]=_;rw[ao e1,ao e2];exact mE rfl
structure Bx where
 rm:Int
 ls:List Int
 row:List Int
 st:Int
noncomputable abbrev dL(xs:List Int):T:=.l ((xs.map D.int).map .d)
noncomputable def Bx.T(b:Bx):T:=.l [.d (.int b.rm),dL b.ls,dL b.row,.d (.int b.st)]
noncomputable def Bx.D(b:Bx):D:=.lst [.int b.rm,L b.ls,L b.row,.int b.st]
def Bx.ok(b:Bx):Prop:=1<=b.rm/\b.rm<=8/\(b.ls.length:Int)<=b.rm/\0<=b.st/\b.st<8
theorem Bw(b:Bx):T.toD b.T=b.D:=by
 show D.lst [.int b.rm,.lst (T.cQ ((b.ls.map D.int).map .d)),.lst (T.cQ ((b.row.map D.int).map .d)),.int b.st]=_;rw[kE,kE];rfl
noncomputable abbrev bT(B:List Int)(X:List Bx):T:=.m (B.map .inl) (X.map Bx.T)
noncomputable abbrev bD(B:List Int)(X:List Bx):D:=.aN (B.map .inl) (X.map Bx.D)
theorem p8(B:List Int)(X:List Bx):T.toD (bT B X)=bD B X:=by
 show D.aN (B.map .inl) (T.cQ (X.map Bx.T))=_;rw[mi Bx.T Bx.D Bw]
noncomputable abbrev rows(X:List Bx):List Int:=(X.map Bx.row).flatten
def BS(K B:List Int)(X:List Bx):Prop:=B.Nodup/\(∀b∈B,1<=b/\b<=15)/\X.length=B.length/\(∀x∈X,x.ok)/\(rows X).Nodup/\∀x∈rows X,x∈K
theorem nZ{ρ:En}{f:Xt}{fs:List Xt}{t:T}{ts:List T}(h:f ρ=.ok t)(h2:dC fs ρ=.ok ts):dC (f::fs) ρ=.ok (t::ts):=by
 unfold dC;rw[h,R.aQ,h2];rfl
theorem uJ{ρ:En}{fs:List Xt}{ts:List T}(h:dC fs ρ=.ok ts):xL fs ρ=.ok (.l ts):=by
 unfold xL;rw[h];rfl
theorem p7{ρ:En}{e:Ex}{ds:List D}(h:e ρ=.ok (.lst ds)):xF e ρ=.ok (.l (ds.map .d)):=by
 unfold xF;rw[h];rfl
theorem GJ{a b c j:Int}(h0:0<=j)(h1:j<3):∃x:Int,af (.lst [.int a,.int b,.int c]) (.int j)=.ok (.int x)/\(x=a\/x=b\/x=c):=by
 obtain⟨x,hm,h⟩:=iu (xs:=[a,b,c]) h0 (by simpa using h1)
 exact⟨x,dX h,by simpa using hm⟩
theorem zD{ns B:List Int}{K:List Int}{Y:List Tk}{X:List Bx}{k:Int}{x4 x5 x6:Option D}(hB:B.Nodup)(hk:k∉B)(h1:1<=k)(h2:k<=15)(hl:B.length<=15)(hX:X.length=B.length)(aH:∀x∈X,x.ok/\x.row=[]):
   ∃(B':List Int) (X':List Bx) (y3 y4 y5 y6:Option D),kq [.sh (L ns),.on (.tr (tT K Y)),.on (.tr (bT B X)),.sh (.int k),ae x4,ae x5,ae x6,.un,.un,.un,.un]=.ok (.next [.sh (L ns),.on (.tr (tT K Y)),.on (.tr (bT B' X')),ae y3,ae y4,ae y5,ae y6,.un,.un,.un,.un])/\B'.Nodup/\X'.length=B'.length/\(∀x∈X',x.ok/\x.row=[])/\B'.length<=B.length+1/\∀x∈B',x∈B\/x=k:=by
 obtain⟨n,hn⟩:=ig ns (k:=15+k) (by omega) (by omega)
 rw[kq,ao (aW (dh rfl (eV rfl rfl) hn))];show ∃(B':List Int) (X':List Bx) (y3 y4 y5 y6:Option D),aw _ [.sh (L ns),.on (.tr (tT K Y)),.on (.tr (bT B X)),.sh (.int k),.sh (.int n),ae x5,ae x6,.un,.un,.un,.un]=_/\_;have ht:=aO (vZ (ρ:=[.sh (L ns),.on (.tr (tT K Y)),.on (.tr (bT B X)),.sh (.int k),.sh (.int n),ae x5,ae x6,.un,.un,.un,.un]) (a:=e2 oMod (aa 4) (eC (.int 3))) (b:=eC (.int 0)) (bV rfl rfl (by decide)) rfl)
 by_cases hc:0<n % 3
 · rw[decide_eq_true hc]at ht
   have r0:=Int.emod_nonneg (n / 3) (show(8:Int)≠0 by decide)
   have r1:=Int.emod_lt_of_pos (n / 3) (show(0:Int)<8 by decide)
   have j0:=Int.emod_nonneg (n / 24) (show(3:Int)≠0 by decide)
   have j1:=Int.emod_lt_of_pos (n / 24) (show(0:Int)<3 by decide)
   have m0:=Int.emod_nonneg (n / 96) (show 1+n / 3 % 8+1≠0 by omega)
   have m1:=Int.emod_lt_of_pos (n / 96) (show 0<1+n / 3 % 8+1 by omega)
   have s0:=Int.emod_nonneg (n / 72) (show(8:Int)≠0 by decide)
   have s1:=Int.emod_lt_of_pos (n / 72) (show(0:Int)<8 by decide)
   obtain⟨mm,Qv,SQ⟩:=GJ (a:=0) (b:=1+n / 3 % 8) (c:=n / 96 % (1+n / 3 % 8+1)) j0 j1;have Pb:0<=mm/\mm<=1+n / 3 % 8:=by rcases SQ with h|h|h<;>omega
   obtain⟨ws,PU,MY⟩:=uV (n / 96 / 9) (m:=mm) Pb.1 (by omega)
   refine⟨B++[k],X++[⟨1+n / 3 % 8,ws,[],n / 72 % 8⟩],some (.int k),some (.int n),some (.int (1+n / 3 % 8)),some (.int mm),?_,?_,by simp[hX],?_,by simp,?_⟩
   · rw[ao (show _=R.ok (Fl.next [.sh (L ns),.on (.tr (tT K Y)),.on (.tr (bT (B++[k]) (X++[⟨1+n / 3 % 8,ws,[],n / 72 % 8⟩]))),.sh (.int k),.sh (.int n),.sh (.int (1+n / 3 % 8)),.sh (.int mm),.un,.un,.un,.un]) by
       rw[eZ ht,ao (aW (eV rfl (bV (bZ rfl rfl (dv (by decide) (by decide))) rfl (by decide))))]
       show aw _ [.sh (L ns),.on (.tr (tT K Y)),.on (.tr (bT B X)),.sh (.int k),.sh (.int n),.sh (.int (1+n / 3 % 8)),ae x6,.un,.un,.un,.un]=_;rw[ao (aW (aA (b8 (aR (x:=.int 0) rfl (aR (x:=.int (1+n / 3 % 8)) rfl (aR (bV (bZ rfl rfl (dv (by decide) (by decide))) (eV rfl rfl) (by omega)) a9)))) (bV (bZ rfl rfl (dv (by decide) (by decide))) rfl (by decide)) Qv))]
       show aw _ [.sh (L ns),.on (.tr (tT K Y)),.on (.tr (bT B X)),.sh (.int k),.sh (.int n),.sh (.int (1+n / 3 % 8)),.sh (.int mm),.un,.un,.un,.un]=_;rw[ao (wg (p:=[]) (t:=bT B X) (q:=.int k) (z:=.inl k) (uJ (nZ (dE rfl) (nZ (p7 (dh (bZ (bZ rfl rfl (dv (by decide) (by decide))) rfl (dv (by decide) (by decide))) rfl PU)) (nZ (uJ rfl) (nZ (dE (bV (bZ rfl rfl (dv (by decide) (by decide))) rfl (by decide))) rfl))))) rfl rfl rfl rfl (eN _) (by simp;omega) (by simpa using hk) (by simp)),kx]
       show R.ok (Fl.next [.sh (L ns),.on (.tr (tT K Y)),.on (.tr (.m (B.map .inl++[.inl k]) (X.map Bx.T++[Bx.T ⟨1+n / 3 % 8,ws,[],n / 72 % 8⟩]))),.sh (.int k),.sh (.int n),.sh (.int (1+n / 3 % 8)),.sh (.int mm),.un,.un,.un,.un])=_;rw[bT,List.map_append,List.map_append];rfl)]
     rfl
   ·exact List.nodup_append.mpr ⟨hB,by simp,λa ha b hb z=>by rw[List.mem_singleton]at hb;subst z hb;exact hk ha⟩
   · intro x hx
     rcases List.mem_append.mp hx with hx|hx
     ·exact aH x hx
     · rw[List.mem_singleton]at hx
       subst hx;exact⟨⟨by show 1<=1+n / 3 % 8;omega,by show 1+n / 3 % 8<=8;omega,by show(ws.length:Int)<=1+n / 3 % 8;omega,s0,s1⟩,rfl⟩
   · intro x hx
     rcases List.mem_append.mp hx with hx|hx
     ·exact .inl hx
     ·exact .inr (List.mem_singleton.mp hx)
 · rw[decide_eq_false hc]at ht
   rw[ao (bX ht)];exact⟨B,X,some _,some _,x5,x6,rfl,hB,hX,aH,by omega,λx hx=>.inl hx⟩
theorem wG{k:Int}:∀ {R:List (List Int)} {m:Nat} {r:List Int},R[m]? =some r->((R.set m (r++[k])).flatten).Perm (k::R.flatten)
 |[],m,r,h=>by simp at h
 | a::R,0,r,h=>by
   simp at h;subst h;rw[List.set_cons_zero,List.flatten_cons,List.flatten_cons,List.append_assoc];exact List.perm_middle
 | a::R,m+1,r,h=>by
   rw[List.set_cons_succ,List.flatten_cons,List.flatten_cons];exact((wG (by simpa using h)).append_left a).trans List.perm_middle
theorem sF{B:List Int}{X:List Bx}{k:Int}(hl:X.length=B.length)(h:k∈B):∃(m:Nat) (t:Bx),B[m]? =some k/\X[m]? =some t:=by
 obtain⟨m,hm⟩:=List.getElem?_of_mem h;have JC:=(List.getElem?_eq_some_iff.mp hm).1;exact⟨m,X[m]'(by omega),hm,List.getElem?_eq_getElem (by omega)⟩
theorem Ca{ks:List Ky}{ts:List T}{m:Nat}{t:T}{p:List Nat}(h:ts[m]? =some t):T.at (.m ks ts) (m::p)=T.at t p:=by
 show(match ts[m]? with|some t=>T.at t p|none=>none)=_
 rw[h]
theorem E7{ks:List Ky}{ts:List T}{m:Nat}{n t:T}{p:List Nat}(h:ts[m]? =some t):T.put n (.m ks ts) (m::p)=.m ks (ts.set m (T.put n t p)):=by
 show(match ts[m]? with|some t=>T.m ks (ts.set m (T.put n t p))|none=>.m ks ts)=_
 rw[h]
theorem Cf{B:List Int}{X:List Bx}{m:Nat}{b:Bx}{r:List Int}(h:X[m]? =some b):T.put (dL r) (bT B X) [m,2]=bT B (X.set m {b with row:=r}):=by
 rw[bT,E7 (t:=b.T) (by rw[List.getElem?_map,h];rfl),bT,List.map_set];rfl
theorem Bv{B:List Int}{X:List Bx}{m:Nat}{k:Int}(nd:B.Nodup)(h:B[m]? =some k):stepT (bT B X) (.int k)=some m:=qV nd h
theorem zV{ns K B:List Int}{Y:List Tk}{X:List Bx}{k n:Int}{x3 x5 x6 x8 x9 x10:Option D}(h:TS K Y)(hb:BS K B X)(hk:k∉rows X)(R7:B.length<=15)(RH:(rows X).length<=100):
   ∃(Y':List Tk) (X':List Bx) (n':Int) (y3 y7 y8 y9 K1:Option D),jL [.sh (L ns),.on (.tr (tT K Y)),.on (.tr (bT B X)),ae x3,.sh (.int n),ae x5,ae x6,.sh (.int k),ae x8,ae x9,ae x10]=.ok (.next [.sh (L ns),.on (.tr (tT K Y')),.on (.tr (bT B X')),ae y3,.sh (.int n'),ae x5,ae x6,ae y7,ae y8,ae y9,ae K1])/\TS K Y'/\BS K B X'/\(rows X').length<=(rows X).length+1/\∀x∈rows X',x∈rows X\/x=k:=by
 obtain⟨Ki,bb,bl,KU,L9,rk⟩:=hb
 have hp:∀x:Int,∃c:Bool,x∈B->tV (e2 cu (e1 cU (e2 af (e2 af (aa 1) (aa 0)) (eC (.int 1)))) (cn [eC (.int 0),e2 af (e2 af (aa 1) (aa 0)) (eC (.int 0))])) [.sh (.int x),.sh (bD B X)]=.ok c:=λx=>by
   by_cases hx:x∈B
   · obtain⟨m,b,hm,TF⟩:=sF bl hx
     have KZ:=aA (o:=af) (ρ:=[.sh (.int x),.sh (bD B X)]) (a:=aa 1) (b:=aa 0) rfl rfl (fK (v:=b.D) Ki hm (by rw[List.getElem?_map,TF];rfl))
     exact⟨_,λ_=>aO (aA (o:=cu) (fV (xs:=b.ls.map .int) (aA KZ rfl rfl)) (il (aR (x:=.int 0) rfl (aR (x:=.int b.rm) (aA KZ rfl rfl) a9))) rfl)⟩
   ·exact⟨true,λz=>absurd z hx⟩
 obtain⟨p,NB⟩:=Classical.axiomOfChoice hp;rw[jL]
 have Om:(bW (fe (aa 2)) 1 [2] (az 0) [tV (e2 cu (e1 cU (e2 af (e2 af (aa 1) (aa 0)) (eC (.int 1)))) (cn [eC (.int 0),e2 af (e2 af (aa 1) (aa 0)) (eC (.int 0))]))] (aa 0)) [.sh (L ns),.on (.tr (tT K Y)),.sh (bD B X),ae x3,.sh (.int n),ae x5,ae x6,.sh (.int k),ae x8,ae x9,ae x10]=.ok (L (B.filter p)):=
   iw (ds:=B.map .int) (by show R.ok ((B.map (Sum.inl:Int->Ky)).map gp)=_;rw[lP]) (by rw[List.length_map];omega) (i5 D.int p D.int (xs:=B) λx hx=>⟨[.sh (.int x),.sh (bD B X)],rfl,by rw[cJ.fN,NB x hx];cases p x<;>rfl,λ_=>rfl⟩)
 rw[ao (aW (pd rfl (by simp) (p8 B X) Om (jW _)))]
 generalize O7:B.filter p=sm;have Kb:∀x∈sm,x∈B:=λx hx=>by rw[<-O7]at hx;exact(List.mem_filter.mp hx).1
 show ∃(Y':List Tk) (X':List Bx) (n':Int) (y3 y7 y8 y9 K1:Option D),aw _ [.sh (L ns),.on (.tr (tT K Y)),.on (.tr (bT B X)),ae x3,.sh (.int n),ae x5,ae x6,.sh (.int k),.sh (L sm),ae x9,ae x10]=_/\_
 have fin:∀(Z:List Tk) (W:List Bx) (z3 z9 MX:Option D),TS K Z->BS K B W->(rows W).length<=(rows X).length+1->(∀x∈rows W,x∈rows X\/x=k)->∃(Y':List Tk) (X':List Bx) (n':Int) (y3 y7 y8 y9 K1:Option D),aw [aK (az 4) (e2 bt (e2 bt (aa 4) (eC (.int 30))) (e2 bL (eC (.int 2)) (eC (.int 32))))] [.sh (L ns),.on (.tr (tT K Z)),.on (.tr (bT B W)),ae z3,.sh (.int n),ae x5,ae x6,.sh (.int k),.sh (L sm),ae z9,ae MX]=.ok (.next [.sh (L ns),.on (.tr (tT K Y')),.on (.tr (bT B X')),ae y3,.sh (.int n'),ae x5,ae x6,ae y7,ae y8,ae y9,ae K1])/\TS K Y'/\BS K B X'/\(rows X').length<=(rows X).length+1/\∀x∈rows X',x∈rows X\/x=k:=λZ W z3 z9 MX h1 h2 h3 h4=>by
   rw[ao (aW (bZ (bZ rfl rfl (dv (by decide) (by decide))) (iU _) (dv (by decide) (by decide))))]
   exact⟨Z,W,n / 30 / 4294967296,z3,some _,some _,z9,MX,rfl,h1,h2,h3,h4⟩
 have LO:∃c:Bool,d9 1 (ba (tV (e2 cu (aa 7) (aa 1))) (ba (tV (e1 cR (e2 af (e2 af (aa 1) (aa 7)) (eC (S "waits"))))) (ba (tV (e2 a7 (aa 8) (bh []))) (tV (e2 oEq (e2 oMod (aa 4) (eC (.int 2))) (eC (.int 1))))))) [.sh (L ns),.on (.tr (tT K Y)),.on (.tr (bT B X)),ae x3,.sh (.int n),ae x5,ae x6,.sh (.int k),.sh (L sm),ae x9,ae x10]=.ok c/\(c=true->k∈K/\sm≠[]):=by
   have h1:=aO (aA (ρ:=[.sh (L ns),.sh (tD K Y),.on (.tr (bT B X)),ae x3,.sh (.int n),ae x5,ae x6,.sh (.int k),.sh (L sm),ae x9,ae x10]) (a:=aa 7) (b:=aa 1) rfl rfl (jA k h.1 (vs:=Y.map Tk.D) (by rw[List.length_map];exact h.2.2.1)))
   by_cases Ny:k∈K
   · obtain⟨m,t,hm,ht⟩:=at_of h.2.2.1 Ny
     have Py:∃b:Bool,cR t.wt=.ok (.bl b):=by
       rcases(h.2.2.2 t (List.mem_of_getElem? ht)).1 with e|⟨s,xs,e,_⟩
       ·rw[e];exact⟨_,rfl⟩
       ·rw[e];exact⟨_,rfl⟩
     obtain⟨bw,Pu⟩:=Py;refine⟨_,iY rfl (by simp) (gB K Y) (c7 h1 (c7 (aO (b5 (o:=cR) (aA (b:=eC (S "waits")) (aA (a:=aa 1) (b:=aa 7) rfl rfl (fK (v:=t.D) h.1 hm (by rw[List.getElem?_map,ht];rfl))) rfl (p0 t)) Pu)) (c7 (aO (aA (a:=aa 8) (b:=bh []) rfl (b8 a9) (gM sm []))) (aO (gT (a:=e2 oMod (aa 4) (eC (.int 2))) (b:=eC (.int 1)) (bV rfl rfl (by decide)) rfl))))),λhc=>⟨Ny,λz=>?_⟩⟩
     subst z;simp at hc
   · rw[decide_eq_false Ny]at h1
     exact⟨false,iY rfl (by simp) (gB K Y) (jf h1),λz=>nomatch z⟩
 obtain⟨c,LO,hc⟩:=LO;cases c with
 | false=>
   rw[ao (bX LO)];exact fin Y X x3 x9 x10 h ⟨Ki,bb,bl,KU,L9,rk⟩ (by omega) λx hx=>.inl hx
 | true=>
   obtain⟨Ny,C'⟩:=hc rfl;obtain⟨m,t,hm,ht⟩:=at_of h.2.2.1 Ny;have LQ:=h.2.2.2 t (List.mem_of_getElem? ht)
   have Tg:0<sm.length:=by cases sm with
     |nil=>exact absurd rfl C'
     |cons a b=>simp
   have j0:=Int.emod_nonneg (n / 2 % 15) (show((sm.length:Nat):Int)≠0 by omega)
   have j1:=Int.emod_lt_of_pos (n / 2 % 15) (show 0<((sm.length:Nat):Int) by omega)
   obtain⟨b,SS,KS⟩:=iu (xs:=sm) j0 j1;obtain⟨mb,x,Pb,OG⟩:=sF bl (Kb b SS);have MQ:=List.mem_of_getElem? OG;have Lj:(X.map Bx.row)[mb]? =some x.row:=by rw[List.getElem?_map,OG];rfl
   have Lx:(rows (X.set mb {x with row:=x.row++[k]})).Perm (k::rows X):=by
     rw[rows,List.map_set];exact wG Lj
   have hlen:x.row.length<=(rows X).length:=by
     have:x.row.Sublist (rows X):=List.sublist_flatten_of_mem (List.mem_of_getElem? Lj);exact this.length_le
   have Tx:BS K B (X.set mb {x with row:=x.row++[k]}):=⟨Ki,bb,by rw[List.length_set];exact bl,λy hy=>(List.mem_or_eq_of_mem_set hy).elim (KU y) λz=>by rw[z];exact KU x MQ,Lx.nodup_iff.mpr (List.nodup_cons.mpr ⟨hk,L9⟩),λy hy=>(List.mem_cons.mp (Lx.mem_iff.mp hy)).elim (λz=>z▸Ny) (rk y)⟩
   have goal:∃(w:Int) (wt:D),WT wt/\bM (d9 1 (ba (tV (e2 cu (aa 7) (aa 1))) (ba (tV (e1 cR (e2 af (e2 af (aa 1) (aa 7)) (eC (S "waits"))))) (ba (tV (e2 a7 (aa 8) (bh []))) (tV (e2 oEq (e2 oMod (aa 4) (eC (.int 2))) (eC (.int 1)))))))) (aw [aK (az 3) (e2 af (aa 8) (e2 oMod (e2 oMod (e2 bt (aa 4) (eC (.int 2))) (eC (.int 15))) (e1 cU (aa 8)))),aK (az 9) (eC (.int 0)),aK (az 10) (cn [eC (S "take"),aa 3]),bM (d9 2 (tV (e2 a7 (e2 af (e2 af (aa 2) (aa 3)) (eC (.int 1))) (bh [])))) (aw [aK (az 9) (e2 oMod (e2 bt (aa 4) (eC (.int 30))) (e2 bL (eC (.int 2)) (eC (.int 32)))),aK (az 10) (cn [eC (S "send"),aa 3])]) (bI),gb 1 (pX 1 (pN) (aa 7)) (cS [(.inr (Str.ofString "waits")),(.inr (Str.ofString "word"))] [aa 10,aa 9]),i8 2 (pX 2 (pX 2 (pN) (aa 3)) (eC (.int 2))) (aa 7)]) (bI) [.sh (L ns),.on (.tr (tT K Y)),.on (.tr (bT B X)),ae x3,.sh (.int n),ae x5,ae x6,.sh (.int k),.sh (L sm),ae x9,ae x10]=.ok (.next [.sh (L ns),.on (.tr (tT K (Y.set m {t with wt:=wt,wd:=w}))),.on (.tr (bT B (X.set mb {x with row:=x.row++[k]}))),.sh (.int b),.sh (.int n),ae x5,ae x6,.sh (.int k),.sh (L sm),.sh (.int w),.sh wt]):=by
     rw[eZ LO,ao (aW (aA rfl (bV (bV (bZ rfl rfl (dv (by decide) (by decide))) rfl (by decide)) (fV (xs:=sm.map .int) rfl) (by rw[List.length_map];omega)) (dX (by rw[List.length_map];exact KS))))]
     show ∃(w:Int) (wt:D),WT wt/\aw _ [.sh (L ns),.on (.tr (tT K Y)),.on (.tr (bT B X)),.sh (.int b),.sh (.int n),ae x5,ae x6,.sh (.int k),.sh (L sm),ae x9,ae x10]=_;rw[ao (aW rfl)];show ∃(w:Int) (wt:D),WT wt/\aw _ [.sh (L ns),.on (.tr (tT K Y)),.on (.tr (bT B X)),.sh (.int b),.sh (.int n),ae x5,ae x6,.sh (.int k),.sh (L sm),.sh (.int 0),ae x10]=_;rw[ao (aW (il (aR (x:=S "take") rfl (aR (x:=.int b) rfl a9))))];show ∃(w:Int) (wt:D),WT wt/\aw _ [.sh (L ns),.on (.tr (tT K Y)),.on (.tr (bT B X)),.sh (.int b),.sh (.int n),ae x5,ae x6,.sh (.int k),.sh (L sm),.sh (.int 0),.sh (.tup [S "take",.int b])]=_
     have rest:∀(w0:Int) (RO:D),WT RO->∃(w:Int) (wt:D),WT wt/\aw [gb 1 (pX 1 (pN) (aa 7)) (cS [(.inr (Str.ofString "waits")),(.inr (Str.ofString "word"))] [aa 10,aa 9]),i8 2 (pX 2 (pX 2 (pN) (aa 3)) (eC (.int 2))) (aa 7)] [.sh (L ns),.on (.tr (tT K Y)),.on (.tr (bT B X)),.sh (.int b),.sh (.int n),ae x5,ae x6,.sh (.int k),.sh (L sm),.sh (.int w0),.sh RO]=.ok (.next [.sh (L ns),.on (.tr (tT K (Y.set m {t with wt:=wt,wd:=w}))),.on (.tr (bT B (X.set mb {x with row:=x.row++[k]}))),.sh (.int b),.sh (.int n),ae x5,ae x6,.sh (.int k),.sh (L sm),.sh (.int w),.sh wt]):=λw wt hw=>by
       refine⟨w,wt,hw,?_⟩;rw[ao (lj (p:=[m]) (t:=tT K Y) (bs:=t.v) (as':=TK) (bs':=Tk.v {t with wt:=wt,wd:=w}) (hJ (p:=[]) (n:=tT K Y) rfl rfl rfl (eN _) (ox h.1 hm)) (jK (aR rfl (aR rfl a9))) rfl (ng ht) (by decide) (by kernel_rfl)),ny ht]
       show aw _ [.sh (L ns),.on (.tr (tT K (Y.set m {t with wt:=wt,wd:=w}))),.on (.tr (bT B X)),.sh (.int b),.sh (.int n),ae x5,ae x6,.sh (.int k),.sh (L sm),.sh (.int w),.sh wt]=_;have Q9:(X.map Bx.T)[mb]? =some x.T:=by rw[List.getElem?_map,OG];rfl
       rw[ao (Cm (p:=[mb,2]) (t:=bT B X) (d:=.int k) (vs:=x.row.map .int) (hJ (p:=[mb]) (n:=x.T) (hJ (p:=[]) (n:=bT B X) rfl rfl rfl (eN _) (Bv Ki Pb)) (x:=.int 2) rfl rfl (vh Q9) rfl) rfl rfl (by rw[bT,Ca Q9];rfl) (by rw[List.length_map];omega))]
       have e9:(x.row.map D.int++[D.int k])=(x.row++[k]).map D.int:=by rw[List.map_append];rfl
       rw[e9,Cf OG];rfl
     have KZ:=aA (o:=af) (ρ:=[.sh (L ns),.on (.tr (tT K Y)),.sh (bD B X),.sh (.int b),.sh (.int n),ae x5,ae x6,.sh (.int k),.sh (L sm),.sh (.int 0),.sh (.tup [S "take",.int b])]) (a:=aa 2) (b:=aa 3) rfl rfl (fK (v:=x.D) Ki Pb (by rw[List.getElem?_map,OG];rfl))
     have Q1:=iY (ρ:=[.sh (L ns),.on (.tr (tT K Y)),.on (.tr (bT B X)),.sh (.int b),.sh (.int n),ae x5,ae x6,.sh (.int k),.sh (L sm),.sh (.int 0),.sh (.tup [S "take",.int b])]) (i:=2) rfl (by simp) (p8 B X) (aO (aA (x:=L x.ls) (y:=L []) (aA (o:=af) KZ (b:=eC (.int 1)) rfl rfl) (b8 a9) (gM x.ls [])))
     generalize (!decide (x.ls=[]))=c at Q1;cases c with
     | false=>
       rw[ao (bX Q1)];exact rest 0 _ (.inr ⟨_,[b],rfl,by kernel_rfl⟩)
     | true=>
       rw[ao (show _=R.ok (Fl.next [.sh (L ns),.on (.tr (tT K Y)),.on (.tr (bT B X)),.sh (.int b),.sh (.int n),ae x5,ae x6,.sh (.int k),.sh (L sm),.sh (.int (n / 30 % 4294967296)),.sh (.tup [S "send",.int b])]) by
         rw[eZ Q1,ao (aW (bV (bZ rfl rfl (dv (by decide) (by decide))) (iU _) (by decide)))]
         show aw _ [.sh (L ns),.on (.tr (tT K Y)),.on (.tr (bT B X)),.sh (.int b),.sh (.int n),ae x5,ae x6,.sh (.int k),.sh (L sm),.sh (.int (n / 30 % 4294967296)),.sh (.tup [S "take",.int b])]=_;rw[ao (aW (il (aR (x:=S "send") rfl (aR (x:=.int b) rfl a9))))];rfl)]
       exact rest _ _ (.inr ⟨_,[b],rfl,by kernel_rfl⟩)
   obtain⟨w,wt,hw,eg⟩:=goal;rw[ao eg];exact fin _ _ (some _) (some _) (some _) (h.set ⟨hw,LQ.2⟩) Tx (by rw[Lx.length_eq];simp) λy hy=>(List.mem_cons.mp (Lx.mem_iff.mp hy)).elim .inr .inl
theorem yG{n i:Nat}{b:Sm}{d:D}{t u t':T}{ρ:En}(h:b (.sh d::.on (.tr t)::List.replicate (n - 2) .un)=.ok (.dR i ρ))(h1:ρ[i]? =some (.on (.tr u)))(h2:ρ[1]? =some (.on (.tr t')))(hi:i≠1):jY n b d t=.ok (u,t'):=by
 unfold jY;rw[h];show(match ρ[i]?,ρ[1]? with|some (Slot.on (.tr u)),some (Slot.on (.tr t'))=>if i≠1 then R.ok (u,t')else .bad|_,_=>.bad)=_
 rw[h1,h2];exact if_pos hi
theorem EX{a:Sm}{r:List Sm}{ρ ρ':En}{i:Nat}(h:a ρ=.ok (.dR i ρ')):aw (a::r) ρ=.ok (.dR i ρ'):=by
 show(a ρ).bind _=_;rw[h];rfl
theorem vb:∀ {X:List Bx},(∀x∈X,x.ok/\x.row=[])->rows X=[]
 |[],_=>rfl
 | x::X,h=>by
   rw[rows,List.map_cons,List.flatten_cons,(h x List.mem_cons_self).2];exact vb λy hy=>h y (List.mem_cons_of_mem _ hy)
theorem CN(ns:List Int){K:List Int}{Y:List Tk}(h:TS K Y):∃(Y':List Tk) (B:List Int) (X:List Bx),l3 (L ns) (tT K Y)=.ok (bT B X,tT K Y')/\TS K Y'/\BS K B X/\(rows X).length<=15/\B.length<=15:=by
 obtain⟨n,hn⟩:=ig ns (k:=34) (by decide) (by decide)
 obtain⟨n5,T1⟩:=ig ns (k:=35) (by decide) (by decide)
 obtain⟨O,hO,nd,hb,hl⟩:=oU n5
 obtain⟨JN,e1,B,X,x3,x4,x5,x6,rfl,Ki,bl,KU,bb⟩:=cX (it:=dM (eC (.int 1)) (eC (.int 16))) (tg:=az 3) (body:=kq) (ρ:=[.sh (L ns),.on (.tr (tT K Y)),.on (.tr (bT [] [])),.un,.un,.un,.un,.un,.un,.un,.un])
   (λi ρ=>∃(B:List Int) (X:List Bx) (x3 x4 x5 x6:Option D),ρ=[.sh (L ns),.on (.tr (tT K Y)),.on (.tr (bT B X)),ae x3,ae x4,ae x5,ae x6,.un,.un,.un,.un]/\B.Nodup/\X.length=B.length/\(∀x∈X,x.ok/\x.row=[])/\B.length<=i/\∀b∈B,1<=b/\b<=(i:Int)) (lg rfl rfl (by decide) (by decide)) ⟨[],[],none,none,none,none,rfl,List.nodup_nil,rfl,(λ_ h=>nomatch h),Nat.le_refl _,λ_ h=>nomatch h⟩ (by
   rintro i d hd ρ ⟨B,X,x3,x4,x5,x6,rfl,Ki,bl,KU,QF,bb⟩;obtain⟨rfl,hi⟩:=jo hd;obtain⟨B',X',y3,y4,y5,y6,e,k1,k2,k3,k4,k5⟩:=zD (ns:=ns) (K:=K) (Y:=Y) (x4:=x4) (x5:=x5) (x6:=x6) (k:=1+i) Ki (λz=>by have:=bb _ z;omega) (by omega) (by omega) (by omega) bl KU
   exact⟨_,rfl,_,e,B',X',y3,y4,y5,y6,rfl,k1,k2,k3,by omega,λb hb=>by
     rcases k5 b hb with h|rfl
     ·have:=bb b h;omega
     ·omega⟩)
 obtain⟨QF,bb⟩:=bb;rw[oA]at QF bb;have Pc:=vb KU
 obtain⟨J7,e2,Y',X',n',z3,z7,z8,z9,MX,rfl,h',J1,OQ,OO⟩:=cX (it:=cM (bc fE [bc cY [aa 0,eC (.int 35)],eC (.int 15)])) (tg:=az 7) (body:=jL) (ρ:=[.sh (L ns),.on (.tr (tT K Y)),.on (.tr (bT B X)),ae x3,.sh (.int n),ae x5,ae x6,.un,.un,.un,.un])
   (λi ρ=>∃(Y:List Tk) (X:List Bx) (n:Int) (x3 x7 x8 x9 x10:Option D),ρ=[.sh (L ns),.on (.tr (tT K Y)),.on (.tr (bT B X)),ae x3,.sh (.int n),ae x5,ae x6,ae x7,ae x8,ae x9,ae x10]/\TS K Y/\BS K B X/\(rows X).length<=i/\∀x∈rows X,x∈O.take i) (ip (dh (dh rfl rfl T1) rfl hO)) ⟨Y,X,n,x3,none,none,none,none,rfl,h,⟨Ki,λb hb=>by have:=bb b hb;omega,bl,λx hx=>(KU x hx).1,by rw[Pc];exact List.nodup_nil,by rw[Pc];exact λ_ h=>nomatch h⟩,by rw[Pc];exact Nat.le_refl _,by rw[Pc];exact λ_ h=>nomatch h⟩ (by
   rintro i d hd ρ ⟨Y,X,n,x3,x7,x8,x9,x10,rfl,h,MC,OQ,OO⟩;obtain⟨k,rfl,KD⟩:=g0 hd;have hi:=(List.getElem?_eq_some_iff.mp KD).1;obtain⟨Y',X',n',y3,y7,y8,y9,K1,e,k1,k2,k3,k4⟩:=zV (ns:=ns) (x3:=x3) (x5:=x5) (x6:=x6) (x8:=x8) (x9:=x9) (x10:=x10) (k:=k) (n:=n) h MC (λz=>pH nd KD (OO k z)) (by omega) (by omega)
   exact⟨_,rfl,_,e,Y',X',n',y3,y7,y8,y9,K1,rfl,k1,k2,by omega,λx hx=>xH KD ((k4 x hx).imp (OO x) id)⟩)
 refine⟨Y',B,X',?_,h',J1,by rw[List.length_map,hl]at OQ;exact OQ,QF⟩
 rw[l3];refine yG (i:=2) (ρ:=[.sh (L ns),.on (.tr (tT K Y')),.on (.tr (bT B X')),ae z3,.sh (.int n'),ae x5,ae x6,ae z7,ae z8,ae z9,ae MX]) ?_ rfl rfl (by decide)
 show aw _ [.sh (L ns),.on (.tr (tT K Y)),.un,.un,.un,.un,.un,.un,.un,.un,.un]=_;rw[ao (j2 (t:=bT [] []) rfl (by simp) (by decide))]
 show aw _ [.sh (L ns),.on (.tr (tT K Y)),.on (.tr (bT [] [])),.un,.un,.un,.un,.un,.un,.un,.un]=_;rw[ao e1,ao (aW (dh rfl rfl hn))];show aw _ [.sh (L ns),.on (.tr (tT K Y)),.on (.tr (bT B X)),ae x3,.sh (.int n),ae x5,ae x6,.un,.un,.un,.un]=_;rw[ao e2];exact EX rfl
noncomputable def SK:List Ky:=[Q "parent",Q "rank",Q "regs",Q "row",Q "handles",Q "waits",Q "handler",Q "rung",Q "saved",Q "word",Q "next",Q "first",Q "sibling"]
structure Sl where
 t:Tk
 nx:Int
 fi:Int
 si:Int
noncomputable def Sl.v(s:Sl):List D:=[.int s.t.p,.int s.t.r,L s.t.rg,.int s.t.ro,.aN (s.t.hk.map Sum.inl) (s.t.hn.map .int),s.t.wt,.int s.t.hd,.bl s.t.rn,s.t.sv,.int s.t.wd,.int s.nx,.int s.fi,.int s.si]
noncomputable def Sl.T(s:Sl):T:=.m SK (s.v.map .d)
noncomputable def Sl.D(s:Sl):D:=.aN SK s.v
noncomputable def oT:Option Sl->T
 |none=>.d .aD
 |some s=>s.T
noncomputable def oD:Option Sl->D
 |none=>.aD
 |some s=>s.D
theorem DH:∀o:Option Sl,T.toD (oT o)=oD o
 |none=>rfl
 | some s=>by
   show D.aN SK (T.cQ (s.v.map .d))=_;rw[kE];rfl
noncomputable abbrev sT(G:List (Option Sl)):T:=.l (G.map oT)
noncomputable abbrev sD(G:List (Option Sl)):D:=.lst (G.map oD)
theorem xf(G:List (Option Sl)):T.toD (sT G)=sD G:=by
 show D.lst (T.cQ (G.map oT))=_;rw[mi oT oD DH]
theorem yW(G:List (Option Sl))(j:Nat)(s:Sl):(T.l ((G.map oT).set j s.T))=sT (G.set j (some s)):=by
 rw[sT,List.map_set];rfl
theorem E8(t:Tk):af t.D (S "regs")=.ok (L t.rg):=by kernel_rfl
theorem B9(t:Tk):af t.D (S "handles")=.ok (.aN (t.hk.map Sum.inl) (t.hn.map .int)):=by kernel_rfl
theorem yY(t:Tk):af t.D (S "saved")=.ok t.sv:=by kernel_rfl
theorem Gp{K B O:List Int}{Y:List Tk}{X:List Bx}{G:List (Option Sl)}{k:Int}{m:Nat}{t:Tk}(nd:K.Nodup)(hm:K[m]? =some k)(ht:Y[m]? =some t)(LQ:t.ok)(h1:1<=k)(h2:k<=15)(hG:G.length=16):
   kP [.sh (tD K Y),.sh (bD B X),.sh (L O),.on (.tr (sT G)),.sh (.int k),.un,.un,.un,.un]=.ok (.next [.sh (tD K Y),.sh (bD B X),.sh (L O),.on (.tr (sT (G.set k.toNat (some ⟨t,0,0,0⟩)))),.sh (.int k),.un,.un,.un,.un]):=by
 have KZ:∀u:T,(e2 af (aa 0) (aa 4)) [.sh (tD K Y),.sh (bD B X),.sh (L O),.on (.tr u),.sh (.int k),.un,.un,.un,.un]=.ok t.D:=λu=>aA rfl rfl (fK (v:=t.D) nd hm (by rw[List.getElem?_map,ht];rfl))
 have hj:bJ 16 k=some k.toNat:=m4 (by omega) (by omega)
 have JC:k.toNat<(G.map oT).length:=by rw[List.length_map,hG];omega
 have JQ:∀u:T,((G.map oT).set k.toNat u)[k.toNat]? =some u:=λu=>List.getElem?_set_self JC;have NC:∀u:T,(pX 3 pN (aa 4)) [.sh (tD K Y),.sh (bD B X),.sh (L O),.on (.tr (.l ((G.map oT).set k.toNat u))),.sh (.int k),.un,.un,.un,.un]=.ok [k.toNat]:=λu=>hJ (p:=[]) (n:=.l ((G.map oT).set k.toNat u)) rfl rfl rfl (eN _) (by show bJ ((G.map oT).set k.toNat u).length k=_;rw[List.length_set,List.length_map,hG];exact hj)
 rw[kP];rw[ao (vM (p:=[]) (t:=sT G) (u:=t.T) (j:=k) (m:=k.toNat) (ts:=G.map oT) (by unfold xM;rw[b5 (o:=fF) (KZ _) (d:=t.D) rfl];rfl) rfl rfl rfl (eN _) (by rw[List.length_map,hG];exact hj) (by simp)),kx]
 show aw _ [.sh (tD K Y),.sh (bD B X),.sh (L O),.on (.tr (.l ((G.map oT).set k.toNat t.T))),.sh (.int k),.un,.un,.un,.un]=_;rw[ao (lQ (p:=[k.toNat]) (t:=.l ((G.map oT).set k.toNat t.T)) (d:=L t.rg) (q:=S "regs") (z:=Q "regs") (ks:=TK) (ks':=TK) (ts:=t.v.map .d) (ts':=t.v.map .d) (b5 (o:=gH) (aA (KZ _) rfl (E8 t)) rfl) (NC _) rfl rfl rfl (j3 (JQ _)) (by decide) (by kernel_rfl) (by simp)),kH (JQ _),List.set_set]
 show aw _ [.sh (tD K Y),.sh (bD B X),.sh (L O),.on (.tr (.l ((G.map oT).set k.toNat t.T))),.sh (.int k),.un,.un,.un,.un]=_;rw[ao (lQ (p:=[k.toNat]) (t:=.l ((G.map oT).set k.toNat t.T)) (d:=.aN (t.hk.map Sum.inl) (t.hn.map .int)) (q:=S "handles") (z:=Q "handles") (ks:=TK) (ks':=TK) (ts:=t.v.map .d) (ts':=t.v.map .d) (b5 (o:=fF) (aA (KZ _) rfl (B9 t)) rfl) (NC _) rfl rfl rfl (j3 (JQ _)) (by decide) (by kernel_rfl) (by simp)),kH (JQ _),List.set_set]
 show aw _ [.sh (tD K Y),.sh (bD B X),.sh (L O),.on (.tr (.l ((G.map oT).set k.toNat t.T))),.sh (.int k),.un,.un,.un,.un]=_;rw[ao (lj (p:=[k.toNat]) (t:=.l ((G.map oT).set k.toNat t.T)) (bs:=t.v) (as':=SK) (bs':=Sl.v ⟨t,0,0,0⟩) (NC _) (jK (aR rfl (aR rfl (aR rfl a9)))) rfl (j3 (JQ _)) (by decide) (by kernel_rfl)),kH (JQ _),List.set_set]
 show aw _ [.sh (tD K Y),.sh (bD B X),.sh (L O),.on (.tr (.l ((G.map oT).set k.toNat (Sl.T ⟨t,0,0,0⟩)))),.sh (.int k),.un,.un,.un,.un]=_;have MF:=aA (o:=af) (KZ (.l ((G.map oT).set k.toNat (Sl.T ⟨t,0,0,0⟩)))) (b:=eC (S "saved")) rfl (yY t);rw[<-yW];rcases LQ.2 with e|⟨ws,x,e⟩
 · rw[e]at MF
   rw[ao (bX (aO (b5 (o:=dB) MF rfl)))];rfl
 · rw[e]at MF
   rw[ao (show _=R.ok (Fl.next [.sh (tD K Y),.sh (bD B X),.sh (L O),.on (.tr (.l ((G.map oT).set k.toNat (Sl.T ⟨t,0,0,0⟩)))),.sh (.int k),.un,.un,.un,.un]) by
     rw[eZ (aO (b5 (o:=dB) MF rfl)),lQ (p:=[k.toNat]) (t:=.l ((G.map oT).set k.toNat (Sl.T ⟨t,0,0,0⟩))) (d:=.tup [L ws,.int x]) (q:=S "saved") (z:=Q "saved") (ks:=SK) (ks':=SK) (ts:=(Sl.v ⟨t,0,0,0⟩).map .d) (ts':=(Sl.v ⟨{t with sv:=.tup [L ws,.int x]},0,0,0⟩).map .d) (il (aR (b5 (o:=gH) (aA (o:=af) MF rfl rfl) rfl) (aR (aA (o:=af) MF rfl rfl) a9))) (NC _) rfl rfl rfl (j3 (JQ _)) (by decide) (by kernel_rfl) (by simp),kH (JQ _),List.set_set]
     rw[<-e];rfl)]
   rfl
def LS(K:List Int)(G:List (Option Sl)):Prop:=G.length=16/\(∀k∈K,∃s,G[k.toNat]? =some (some s))/\∀s,some s∈G->s.t.ok
theorem LS.set{K:List Int}{G:List (Option Sl)}{j:Nat}{s:Sl}(h:LS K G)(hs:s.t.ok):LS K (G.set j (some s)):=by
 refine⟨by rw[List.length_set];exact h.1,λk hk=>?_,λx hx=>?_⟩
 · obtain⟨s1,e⟩:=h.2.1 k hk
   by_cases hj:j=k.toNat
   · subst hj
     exact⟨s,List.getElem?_set_self (List.getElem?_eq_some_iff.mp e).1⟩
   ·exact⟨s1,by rw[List.getElem?_set_ne hj];exact e⟩
 · rcases List.mem_or_eq_of_mem_set hx with h1|h1
   ·exact h.2.2 x h1
   ·injection h1 with h1;subst h1;exact hs
theorem B8{G:List (Option Sl)}{k:Int}(hG:G.length=16)(h1:1<=k)(h2:k<=15):stepT (sT G) (.int k)=some k.toNat:=by
 show bJ (G.map oT).length k=_;rw[List.length_map,hG];exact m4 (by omega) (by omega)
theorem Dj{G:List (Option Sl)}{j:Nat}{s:Sl}(h:G[j]? =some (some s)):T.at (sT G) [j]=some (.m SK (s.v.map .d)):=j3 (t:=s.T) (by rw[List.getElem?_map,h];rfl)
theorem zy{G:List (Option Sl)}{j:Nat}{s s':Sl}(h:G[j]? =some (some s)):T.put (.m SK (s'.v.map .d)) (sT G) [j]=sT (G.set j (some s')):=by
 rw[sT,kH (t:=s.T) (by rw[List.getElem?_map,h];rfl),sT,List.map_set];rfl
theorem Dp(xs:List Int):cut xs none (some (-1))=xs.dropLast:=by
 unfold cut;show(xs.drop 0).take (aU xs.length xs.length (some (-1)) - 0)=_;rw[sU (by decide),List.drop_zero,List.dropLast_eq_take]
 congr 1;omega
noncomputable def cP(r:List Int):List (Int×Int):=r.dropLast.zip r.tail
theorem vE:∀(xs ys:List Int),ij (xs.map .int) (ys.map .int)=(xs.zip ys).map λp=>.tup [.int p.1,.int p.2]
 |[],ys=>by cases ys<;>rfl
 |x::xs,[]=>rfl
 |x::xs,y::ys=>by rw[List.map_cons,List.map_cons,ij,vE xs ys];rfl
theorem Az{ρ:En}{r:List Int}(h:(aa 5) ρ=.ok (L r)):jh (bK (aa 5) none (some (e1 gq (eC (.int 1))))) (bK (aa 5) (some (eC (.int 1))) none) ρ=.ok ((cP r).map λp=>.tup [.int p.1,.int p.2]):=by
 have h1:(bK (aa 5) none (some (e1 gq (eC (.int 1))))) ρ=.ok (L r.dropLast):=by
   unfold bK;rw[h,R.aQ];show R.ok (D.lst (cut (r.map .int) none (some (-1))))=_;rw[nO,Dp]
 have h2:(bK (aa 5) (some (eC (.int 1))) none) ρ=.ok (L r.tail):=by
   rw[uz (v:=1) h rfl (by decide)]
   show R.ok (D.lst ((r.map .int).drop 1))=_;rw[<-List.map_drop,List.drop_one]
 unfold jh;rw[h1,R.aQ,h2,R.aQ];show R.ok (ij (r.dropLast.map .int) (r.tail.map .int))=_;rw[vE];rfl
theorem nW:∀r:List Int,(cP r).map Prod.fst=r.dropLast
 |[]=>rfl
 |[a]=>rfl
 | a::b::r=>by
   have:=nW (b::r);unfold cP at this ⊢;simpa using this
theorem uw{ρ:En}{G:List (Option Sl)}{e v:Ex}{x:D}{z:Ky}{a b:Int}{s s':Sl}(hi:ρ[3]? =some (.on (.tr (sT G))))(h:ρ.all c0=true)(he:e ρ=.ok (.int a))(hv:v ρ=.ok (.int b))(hz:keyOf x=some z)(hG:G.length=16)(h1:1<=a)(h2:a<=15)(hs:G[a.toNat]? =some (some s))(hp:iz z (.d (.int b)) SK (s.v.map .d)=(SK,s'.v.map .d)):
   fo 3 (pX 3 pN e) (eC x) v ρ=.ok (.next (ρ.set 3 (.on (.tr (sT (G.set a.toNat (some s'))))))):=by
 rw[lQ (p:=[a.toNat]) (t:=sT G) (q:=x) hv (hJ (p:=[]) (n:=sT G) rfl he hi (eN _) (B8 hG h1 h2)) rfl hz hi (Dj hs) (by decide) hp h,zy hs]
noncomputable abbrev cL(a0 a1 a2:D)(G:List (Option Sl))(x4 x5 x6 x7 x8:Option D):En:=[.sh a0,.sh a1,.sh a2,.on (.tr (sT G)),ae x4,ae x5,ae x6,ae x7,ae x8]
theorem tX{x:D}{z:Ky}{body:Sm}(up:Sl->Int->Sl)(hb:body=fo 3 (pX 3 pN (aa 6)) (eC x) (aa 7))(hz:keyOf x=some z)(M9:∀s b,iz z (.d (.int b)) SK (s.v.map .d)=(SK,(up s b).v.map .d))
   {r:List Int} (I:Nat->List (Option Sl)->Prop) (hI:∀(i:Nat) p,(cP r)[i]? =some p->∀G,G.length=16->I i G->1<=p.1/\p.1<=15/\∃s,G[p.1.toNat]? =some (some s)/\I (i+1) (G.set p.1.toNat (some (up s p.2))))
   {a0 a1 a2:D} {G:List (Option Sl)} {x4 x6 x7 x8:Option D} (hG:G.length=16) (h0:I 0 G):
   ∃(G':List (Option Sl)) (y6 y7:Option D),b0 (jh (bK (aa 5) none (some (e1 gq (eC (.int 1))))) (bK (aa 5) (some (eC (.int 1))) none)) (hV [6,7]) body (cL a0 a1 a2 G x4 (some (L r)) x6 x7 x8)=.ok (.next (cL a0 a1 a2 G' x4 (some (L r)) y6 y7 x8))/\G'.length=16/\I (cP r).length G':=by
 obtain⟨ρ',e,G',y6,y7,rfl,hl,hi⟩:=cX (tg:=hV [6,7]) (body:=body) (λi ρ=>∃(G':List (Option Sl)) (y6 y7:Option D),ρ=cL a0 a1 a2 G' x4 (some (L r)) y6 y7 x8/\G'.length=16/\I i G') (Az (ρ:=cL a0 a1 a2 G x4 (some (L r)) x6 x7 x8) (r:=r) rfl) ⟨G,x6,x7,rfl,hG,h0⟩ (by
   rintro i d hd ρ ⟨G,x6,x7,rfl,hG,h0⟩;rw[List.getElem?_map]at hd;obtain⟨p,hp,rfl⟩:=Option.map_eq_some_iff.mp hd;obtain⟨k1,k2,s,hs,hi⟩:=hI i p hp G hG h0;refine⟨cL a0 a1 a2 G x4 (some (L r)) (some (.int p.1)) (some (.int p.2)) x8,rfl,_,?_,G.set p.1.toNat (some (up s p.2)),some (.int p.1),some (.int p.2),rfl,by rw[List.length_set];exact hG,hi⟩
   rw[hb,uw (s':=up s p.2) rfl (by simp) rfl rfl hz hG k1 k2 hs (M9 s p.2)];rfl)
 rw[List.length_map]at hi;exact⟨G',y6,y7,e,hl,hi⟩
def Z0(G:List (Option Sl)):Prop:=∀s,some s∈G->s.nx=0
theorem Z0.set{G:List (Option Sl)}{j:Nat}{s:Sl}(h:Z0 G)(hs:s.nx=0):Z0 (G.set j (some s)):=λx hx=>by
 rcases List.mem_or_eq_of_mem_set hx with h1|h1
 ·exact h x h1
 ·injection h1 with h1;subst h1;exact hs
theorem tE{r:List Int}{i:Nat}{p:Int×Int}(h:(cP r)[i]? =some p):p.1∈r.dropLast:=by
 rw[<-nW r];exact List.mem_map.mpr ⟨p,List.mem_of_getElem? h,rfl⟩
theorem GG{K B O:List Int}{Y:List Tk}{X:List Bx}{G:List (Option Sl)}{k:Int}{x5 x6 x7:Option D}(hT:TS K Y)(hk:k∈K)(hO:O.length<=1000)(h:LS K G)(hz:Z0 G):
   ∃(G':List (Option Sl)) (y4 y5 y6 y7:Option D),kR (cL (tD K Y) (bD B X) (L O) G (some (.int k)) x5 x6 x7 none)=.ok (.next (cL (tD K Y) (bD B X) (L O) G' y4 y5 y6 y7 none))/\LS K G'/\Z0 G':=by
 obtain⟨own,LY,Kb,Sg⟩:=qG (O:=O) k hT.1 hT.2.2.1 hO;have hb:=hT.2.1 k hk;obtain⟨s,hs⟩:=h.2.1 k hk;have O7:=List.mem_of_getElem? hs;obtain⟨f,_,hf⟩:=iu (xs:=own++[0]) (i:=0) (by decide) (by simp only[List.length_append,List.length_singleton];omega)
 rw[kR,ao (aW (aA (o:=bj) (x:=L own) (y:=L [0]) (d:=L (own++[0])) (jr rfl rfl rfl LY) (b8 (aR rfl a9)) (by rw[L,L,PL.G.iR (by simp;omega), <-List.map_append])))]
 show ∃(G':List (Option Sl)) (y4 y5 y6 y7:Option D),aw _ (cL (tD K Y) (bD B X) (L O) G (some (.int k)) (some (L (own++[0]))) x6 x7 none)=_/\_;rw[ao (uw (s':={s with fi:=f}) (z:=Q "first") (a:=k) (b:=f) rfl (by simp) rfl (aA rfl rfl (dX hf)) rfl h.1 hb.1 hb.2 hs (by kernel_rfl))]
 show ∃(G':List (Option Sl)) (y4 y5 y6 y7:Option D),aw _ (cL (tD K Y) (bD B X) (L O) (G.set k.toNat (some {s with fi:=f})) (some (.int k)) (some (L (own++[0]))) x6 x7 none)=_/\_
 obtain⟨G',y6,y7,e,hl,h1,h2⟩:=tX (x:=S "sibling") (z:=Q "sibling") (body:=mX) (λs b=>{s with si:=b}) rfl rfl (λs b=>by kernel_rfl) (r:=own++[0]) (λ_ G=>LS K G/\Z0 G) (λi p hp G hG hi=>by
   have hm:=tE hp;rw[List.dropLast_concat]at hm;have KH:=Kb _ hm;have MD:=hT.2.1 _ KH;obtain⟨s,hs⟩:=hi.1.2.1 _ KH;exact⟨MD.1,MD.2,s,hs,hi.1.set (hi.1.2.2 s (List.mem_of_getElem? hs)),hi.2.set (hi.2 s (List.mem_of_getElem? hs))⟩) (a0:=tD K Y) (a1:=bD B X) (a2:=L O) (x4:=some (.int k)) (x6:=x6) (x7:=x7) (x8:=none) (G:=G.set k.toNat (some {s with fi:=f})) (by rw[List.length_set];exact h.1) ⟨h.set (h.2.2 s O7),hz.set (hz s O7)⟩
 rw[ao e];exact⟨G',some _,some _,y6,y7,rfl,h1,h2⟩
noncomputable def fG(G:List (Option Sl))(j:Nat):Int:=match G[j]? with
 |some (some s)=>s.nx
 |_=>0
def NX(G:List (Option Sl))(P:List (Int×Int)):Prop:=(∀p∈P,1<=p.1/\fG G p.1.toNat=p.2)/\∀j:Nat,(j:Int)∉P.map Prod.fst->fG G j=0
theorem NX.z0{G:List (Option Sl)}(h:Z0 G):NX G []:=⟨(λ_ h=>nomatch h),λj _=>by
 unfold fG;split
 ·rename_i s hs;exact h s (List.mem_of_getElem? hs)
 ·rfl⟩
theorem NX.put{G:List (Option Sl)}{P:List (Int×Int)}{a b:Int}{s:Sl}(h:NX G P)(h1:1<=a)(ha:a∉P.map Prod.fst)(hs:G[a.toNat]? =some (some s)):NX (G.set a.toNat (some {s with nx:=b})) (P++[(a,b)]):=by
 have NQ:fG (G.set a.toNat (some {s with nx:=b})) a.toNat=b:=by
   unfold fG;rw[List.getElem?_set_self (List.getElem?_eq_some_iff.mp hs).1]
 have C':∀j:Nat,j≠a.toNat->fG (G.set a.toNat (some {s with nx:=b})) j=fG G j:=λj hj=>by
   unfold fG;rw[List.getElem?_set_ne (Ne.symm hj)]
 refine⟨λp hp=>?_,λj hj=>?_⟩
 · rcases List.mem_append.mp hp with hp|hp
   · obtain⟨k1,k2⟩:=h.1 p hp
     refine⟨k1,?_⟩;rw[C' _ λz=>?_]
     ·exact k2
     ·exact ha (List.mem_map.mpr ⟨p,hp,by omega⟩)
   · rw[List.mem_singleton]at hp
     subst hp;exact⟨h1,NQ⟩
 · rw[List.map_append,List.mem_append,not_or]at hj
   have:(j:Int)≠a:=λz=>hj.2 (by simp[z])
   rw[C' j (by omega)]
   exact h.2 j hj.1
theorem FD{K B O:List Int}{Y:List Tk}{X:List Bx}{G:List (Option Sl)}{b:Int}{m:Nat}{x:Bx}{P:List (Int×Int)}{x4 x5 x6 x7:Option D}(hT:TS K Y)(OL:B.Nodup)(hm:B[m]? =some b)(hx:X[m]? =some x)(Kb:∀y∈x.row,y∈K)(hP:((P++cP x.row).map Prod.fst).Nodup)(h:LS K G)(hn:NX G P):
   ∃(G':List (Option Sl)) (y5 y6 y7 y8:Option D),jE (cL (tD K Y) (bD B X) (L O) G x4 x5 x6 x7 (some (.int b)))=.ok (.next (cL (tD K Y) (bD B X) (L O) G' x4 y5 y6 y7 y8))/\LS K G'/\NX G' (P++cP x.row):=by
 rw[jE,ao (aW (aA (o:=af) (x:=x.D) (y:=.int 2) (d:=L x.row) (aA (o:=af) rfl rfl (fK (v:=x.D) OL hm (by rw[List.getElem?_map,hx];rfl))) rfl rfl))]
 show ∃(G':List (Option Sl)) (y5 y6 y7 y8:Option D),aw _ (cL (tD K Y) (bD B X) (L O) G x4 (some (L x.row)) x6 x7 (some (.int b)))=_/\_
 obtain⟨G',y6,y7,e,hl,h1,h2⟩:=tX (x:=S "next") (z:=Q "next") (body:=m9) (λs b=>{s with nx:=b}) rfl rfl (λs b=>by kernel_rfl) (r:=x.row) (λi G=>LS K G/\NX G (P++(cP x.row).take i)) (λi p hp G hG hi=>by
   have KH:=Kb _ ((List.dropLast_sublist _).subset (tE hp));have MD:=hT.2.1 _ KH;obtain⟨s,hs⟩:=hi.1.2.1 _ KH;have et:(cP x.row).take (i+1)=(cP x.row).take i++[p]:=by rw[List.take_add_one,hp];rfl
   have OH:p.1∉(P++(cP x.row).take i).map Prod.fst:=λPD=>by
     have sub:((P++(cP x.row).take (i+1)).map Prod.fst).Sublist ((P++cP x.row).map Prod.fst):=((List.Sublist.refl P).append (List.take_sublist _ _)).map _;have nd:=hP.sublist sub;rw[et, <-List.append_assoc,List.map_append]at nd;exact(List.nodup_append.mp nd).2.2 _ PD _ (by simp) rfl
   refine⟨MD.1,MD.2,s,hs,hi.1.set (hi.1.2.2 s (List.mem_of_getElem? hs)),?_⟩;rw[et, <-List.append_assoc];exact hi.2.put MD.1 OH hs) (a0:=tD K Y) (a1:=bD B X) (a2:=L O) (x4:=x4) (x6:=x6) (x7:=x7) (x8:=some (.int b)) (G:=G) h.1 ⟨h,by rw[List.take_zero,List.append_nil];exact hn⟩
 rw[List.take_length]at h2;rw[ao e];exact⟨G',some _,y6,y7,some _,rfl,h1,h2⟩
noncomputable abbrev PR(X:List Bx):List (Int×Int):=(X.map λb=>cP b.row).flatten
theorem oW:∀X:List Bx,((PR X).map Prod.fst).Sublist (rows X)
 |[]=>List.Sublist.refl _
 | x::X=>by
   rw[PR,List.map_cons,List.flatten_cons,List.map_append,nW,rows,List.map_cons,List.flatten_cons];exact(List.dropLast_sublist _).append (oW X)
theorem Ds{X:List Bx}{i:Nat}{x:Bx}(h:X[i]? =some x):PR (X.take (i+1))=PR (X.take i)++cP x.row:=by
 rw[PR,List.take_add_one,h,List.map_append,List.flatten_append];simp[PR]
theorem za{α:Type}(Z:List (List α))(i:Nat):(Z.take i).flatten.Sublist Z.flatten:=by
 have:=List.flatten_append (L₁:=Z.take i) (L₂:=Z.drop i);rw[List.take_append_drop]at this;rw[this];exact List.sublist_append_left _ _
theorem Fg{K B O:List Int}{Y:List Tk}{X:List Bx}(hT:TS K Y)(hB:BS K B X)(hO:O.length<=1000):∃G:List (Option Sl),jB [tD K Y,bD B X,L O]=.ok (sT G)/\LS K G/\NX G (PR X):=by
 obtain⟨Ki,bb,bl,KU,L9,rk⟩:=hB
 have ik:∀(K:List Int) (vs:List D) (i:Nat) (ρ:En),(aa i) ρ=.ok (.aN (K.map .inl) vs)->fe (aa i) ρ=.ok (K.map .int):=λK vs i ρ h=>by
   unfold fe;rw[h];show R.ok ((K.map (Sum.inl:Int->Ky)).map gp)=_;rw[lP]
 obtain ⟨JN,e1,G1,x4,rfl,AZ,Me,RD⟩:=cX (tg:=az 4) (body:=kP) (λi ρ=>∃(G:List (Option Sl)) (x4:Option D),ρ=cL (tD K Y) (bD B X) (L O) G x4 none none none none/\G.length=16/\(∀k∈K.take i,∃s,G[k.toNat]? =some (some s))/\∀s,some s∈G->s.t.ok/\s.nx=0) (ik K (Y.map Tk.D) 0 (cL (tD K Y) (bD B X) (L O) (List.replicate 16 none) none none none none none) rfl) ⟨List.replicate 16 none,none,rfl,rfl,(λk hk=>by rw[List.take_zero]at hk;cases hk),λs hs=>by have:=List.eq_of_mem_replicate hs;cases this⟩ (by
   rintro i d hd ρ ⟨G,x4,rfl,hG,h1,h2⟩;obtain⟨k,rfl,KD⟩:=g0 hd;have hb:=hT.2.1 k (List.mem_of_getElem? KD);have hi:=(List.getElem?_eq_some_iff.mp KD).1;have ht:Y[i]? =some (Y[i]'(by rw[hT.2.2.1];exact hi)):=List.getElem?_eq_getElem _
   have LQ:=hT.2.2.2 _ (List.mem_of_getElem? ht);refine⟨cL (tD K Y) (bD B X) (L O) G (some (.int k)) none none none none,rfl,_,Gp hT.1 KD ht LQ hb.1 hb.2 hG,G.set k.toNat (some ⟨_,0,0,0⟩),some (.int k),rfl,by rw[List.length_set];exact hG,λk' LZ=>?_,λs hs=>?_⟩
   · by_cases KH:k.toNat=k'.toNat
     · rw[<-KH]
       exact⟨_,List.getElem?_set_self (by rw[hG];omega)⟩
     · rw[List.getElem?_set_ne KH]
       rw[List.take_add_one,KD]at LZ;rcases List.mem_append.mp LZ with h|h
       ·exact h1 k' h
       · have:k'=k:=by simpa using h
         exact absurd (by rw[this]) KH
   · rcases List.mem_or_eq_of_mem_set hs with h|h
     ·exact h2 s h
     ·injection h with h;subst h;exact⟨LQ,rfl⟩)
 rw[List.length_map,List.take_length]at Me;have Qg:LS K G1:=⟨AZ,Me,λs hs=>(RD s hs).1⟩
 obtain⟨J7,e2,G2,y4,y5,y6,y7,rfl,Qk,TR⟩:=cX (tg:=az 4) (body:=kR) (λi ρ=>∃(G:List (Option Sl)) (y4 y5 y6 y7:Option D),ρ=cL (tD K Y) (bD B X) (L O) G y4 y5 y6 y7 none/\LS K G/\Z0 G) (ik K (Y.map Tk.D) 0 (cL (tD K Y) (bD B X) (L O) G1 x4 none none none none) rfl) ⟨G1,x4,none,none,none,rfl,Qg,λs hs=>(RD s hs).2⟩ (by
   rintro i d hd ρ ⟨G,y4,y5,y6,y7,rfl,h1,h2⟩;obtain⟨k,rfl,KD⟩:=g0 hd;obtain⟨G',z4,z5,z6,z7,e,k1,k2⟩:=GG (B:=B) (X:=X) (x5:=y5) (x6:=y6) (x7:=y7) hT (List.mem_of_getElem? KD) hO h1 h2;exact⟨_,rfl,_,e,G',z4,z5,z6,z7,rfl,k1,k2⟩)
 obtain⟨Ph,e3,G3,z5,z6,z7,z8,rfl,PF,RG⟩:=cX (tg:=az 8) (body:=jE) (λi ρ=>∃(G:List (Option Sl)) (z5 z6 z7 z8:Option D),ρ=cL (tD K Y) (bD B X) (L O) G y4 z5 z6 z7 z8/\LS K G/\NX G (PR (X.take i))) (ik B (X.map Bx.D) 1 (cL (tD K Y) (bD B X) (L O) G2 y4 y5 y6 y7 none) rfl) ⟨G2,y5,y6,y7,none,rfl,Qk,NX.z0 TR⟩ (by
   rintro i d hd ρ ⟨G,z5,z6,z7,z8,rfl,h1,h2⟩;obtain⟨b,rfl,KS⟩:=g0 hd;have hi:=(List.getElem?_eq_some_iff.mp KS).1;have hx:X[i]? =some (X[i]'(by omega)):=List.getElem?_eq_getElem _
   have hp:=Ds hx
   obtain⟨G',w5,w6,w7,w8,e,k1,k2⟩:=FD (O:=O) (x4:=y4) (x5:=z5) (x6:=z6) (x7:=z7) hT Ki KS hx (λy hy=>rk y (List.mem_flatten.mpr ⟨_,List.mem_map.mpr ⟨_,List.mem_of_getElem? hx,rfl⟩,hy⟩)) (by
     rw[<-hp];refine(L9.sublist (oW X)).sublist (List.Sublist.map _ ?_);rw[PR,PR,List.map_take];exact za _ _) h1 h2
   exact⟨_,rfl,_,e,G',w5,w6,w7,w8,rfl,k1,by rw[hp];exact k2⟩)
 rw[List.length_map, <-bl,List.take_length]at RG;refine⟨G3,?_,PF,RG⟩;rw[jB];refine ll ?_;rw[ao (j2 (t:=sT (List.replicate 16 none)) (p7 (ds:=List.replicate 16 .aD) (aA (b8 (aR rfl a9)) rfl rfl)) (by simp) (by decide))]
 show aw _ (cL (tD K Y) (bD B X) (L O) (List.replicate 16 none) none none none none none)=_;rw[ao e1,ao e2,ao e3];exact mE rfl
noncomputable def BK:List Ky:=[Q "room",Q "places",Q "start",Q "many",Q "head",Q "tail"]
structure Hb where
 b:Bx
 pl:List Int
noncomputable def hd(r:List Int):Int:=r.headD 0
noncomputable def tl(r:List Int):Int:=r.getLastD 0
noncomputable def Hb.v(h:Hb):List D:=[.int h.b.rm,L h.pl,.int h.b.st,.int h.b.ls.length,.int (hd h.b.row),.int (tl h.b.row)]
noncomputable def Hb.T(h:Hb):T:=.m BK (h.v.map .d)
noncomputable def Hb.D(h:Hb):D:=.aN BK h.v
noncomputable def hT:Option Hb->T
 |none=>.d .aD
 |some s=>s.T
noncomputable def hD:Option Hb->D
 |none=>.aD
 |some s=>s.D
theorem Bg:∀o:Option Hb,T.toD (hT o)=hD o
 |none=>rfl
 | some s=>by
   show D.aN BK (T.cQ (s.v.map .d))=_;rw[kE];rfl
noncomputable abbrev lT(H:List (Option Hb)):T:=.l (H.map hT)
noncomputable abbrev lD(H:List (Option Hb)):D:=.lst (H.map hD)
theorem uk(H:List (Option Hb)):T.toD (lT H)=lD H:=by
 show D.lst (T.cQ (H.map hT))=_;rw[mi hT hD Bg]
def kg(st:Int)(ls pl:List Int)(i:Nat):Prop:=pl.length=8/\(∀k:Nat,k<i->pl[((st+k) % 8).toNat]? =ls[k]?)/\∀j:Nat,j<8->(∀k:Nat,k<i->(st+k) % 8≠j)->pl[j]? =some 0
def iI(b:Bx)(pl:List Int):Prop:=kg b.st b.ls pl b.ls.length
theorem kg.put{st:Int}{ls pl:List Int}{i:Nat}{x:Int}(h:kg st ls pl i)(hi:i<8)(hx:ls[i]? =some x):kg st ls (pl.set ((st+i) % 8).toNat x) (i+1):=by
 obtain⟨h1,h2,h3⟩:=h;refine⟨by rw[List.length_set];exact h1,λk hk=>?_,λj hj hn=>?_⟩
 · by_cases KD:k=i
   · subst KD
     rw[hx];exact List.getElem?_set_self (by omega)
   · rw[List.getElem?_set_ne (by omega)]
     exact h2 k (by omega)
 · have:=hn i (by omega)
   rw[List.getElem?_set_ne (by omega)]
   exact h3 j hj λk hk=>hn k (by omega)
theorem pO:∀r:List Int,(0::r).drop r.length=[tl r]
 |[]=>rfl
 |[a]=>rfl
 | a::b::r=>by
   have:=pO (b::r);unfold tl at this ⊢;simpa using this
theorem Fq:∀r:List Int,(r++[0]).take 1=[hd r]
 |[]=>rfl
 |a::r=>rfl
theorem Bk(xs:List Int)(h:xs≠[]):cut xs (some (-1)) none=xs.drop (xs.length - 1):=by
 unfold cut
 have hl:0<xs.length:=by cases xs with
   |nil=>exact absurd rfl h
   |cons a b=>simp
 rw[sU (by decide)]
 show(xs.drop (-1+(xs.length:Int)).toNat).take (xs.length - (-1+(xs.length:Int)).toNat)=_;rw[show(-1+(xs.length:Int)).toNat=xs.length - 1 by omega]
 exact List.take_of_length_le (by rw[List.length_drop];omega)
noncomputable abbrev d7(a0:D)(H:List (Option Hb))(x3 x4 x5 x6 x7:Option D)(s8:Slot)(x9 x10:Option D):En:=[.sh a0,.un,.on (.tr (lT H)),ae x3,ae x4,ae x5,ae x6,ae x7,s8,ae x9,ae x10]
theorem Ej{a0:D}{H:List (Option Hb)}{x3 x4 x6 x9 x10:Option D}{ls:List Int}{st:Int}(hl:ls.length<=8):
   ∃(pl:List Int) (y9:Option D),b0 (cK (e1 cU (aa 5))) (az 9) kr (d7 a0 H x3 x4 (some (L ls)) x6 (some (.int st)) (.ol ((List.replicate 8 0).map .int)) x9 x10)=.ok (.next (d7 a0 H x3 x4 (some (L ls)) x6 (some (.int st)) (.ol (pl.map .int)) y9 x10))/\kg st ls pl ls.length:=by
 obtain⟨ρ',e,pl,y9,rfl,h⟩:=cX (tg:=az 9) (body:=kr) (λi ρ=>∃(pl:List Int) (y9:Option D),ρ=d7 a0 H x3 x4 (some (L ls)) x6 (some (.int st)) (.ol (pl.map .int)) y9 x10/\kg st ls pl i) (ju (ρ:=d7 a0 H x3 x4 (some (L ls)) x6 (some (.int st)) (.ol ((List.replicate 8 0).map .int)) x9 x10) (fV (a:=aa 5) (xs:=ls.map .int) rfl) (by rw[List.length_map];exact rD (by omega) (by omega))) ⟨List.replicate 8 0,x9,rfl,rfl,(λk hk=>absurd hk (Nat.not_lt_zero _)),λj hj _=>by rw[List.getElem?_replicate,if_pos hj]⟩ (by
   rintro i d hd ρ ⟨pl,y9,rfl,h⟩;obtain⟨rfl,hi⟩:=jo hd;rw[List.length_map]at hi;have RL:i<ls.length:=by omega
   refine⟨d7 a0 H x3 x4 (some (L ls)) x6 (some (.int st)) (.ol (pl.map .int)) (some (.int (0+i))) x10,rfl,_,?_,pl.set ((st+(i:Nat)) % 8).toNat ls[i],some (.int (0+i)),rfl,h.put (by omega) (List.getElem?_eq_getElem RL)⟩
   rw[kr,Af (j:=(st+(0+i)) % 8) (m:=((st+(0+i)) % 8).toNat) (d:=.int ls[i]) (xs:=pl.map .int) (aA rfl rfl (dX (by
     rw[show(0+(i:Int))=((i:Nat):Int) by omega,me (by rw[List.length_map];exact RL),List.getElem_map]))) (bV (eV rfl rfl) rfl (by decide)) rfl (by rw[List.length_map,h.1];exact m4 (by omega) (by omega))]
   rw[<-List.map_set,show(0+(i:Int))=(i:Int) by omega];rfl)
 rw[oA,List.length_map]at h;exact⟨pl,y9,e,by rw[show((ls.length:Int) - 0).toNat=ls.length by omega]at h;exact h⟩
theorem qK{tg:bA}{a:Ex}{ρ ρ':En}{d:D}(h:a ρ=.ok d)(ht:tg d ρ=.ok ρ'):aK tg a ρ=.ok (.next ρ'):=by
 unfold aK;rw[h,R.aQ,ht];rfl
theorem Ef{B:List Int}{X:List Bx}{H:List (Option Hb)}{b:Int}{m:Nat}{x:Bx}{x4 x5 x6 x7 x9 x10:Option D}{s8:Slot}(nd:B.Nodup)(hm:B[m]? =some b)(hx:X[m]? =some x)(aH:x.ok)(h1:1<=b)(h2:b<=15)(PV:x.row.length<=1000)(hH:H.length=16):
   ∃(pl:List Int) (y4 y5 y6 y7 y8 y9 K1:Option D),j7 (d7 (bD B X) H (some (.int b)) x4 x5 x6 x7 s8 x9 x10)=.ok (.next (d7 (bD B X) (H.set b.toNat (some ⟨x,pl⟩)) (some (.int b)) y4 y5 y6 y7 (ae y8) y9 K1))/\iI x pl:=by
 obtain⟨o1,o2,o3,o4,o5⟩:=aH;obtain⟨pl,y9,eL,JV⟩:=Ej (a0:=bD B X) (H:=H) (x3:=some (.int b)) (x4:=some (.int x.rm)) (x6:=some (L x.row)) (x9:=x9) (x10:=x10) (ls:=x.ls) (st:=x.st) (by omega)
 have hj:bJ 16 b=some b.toNat:=m4 (by omega) (by omega)
 have JC:b.toNat<(H.map hT).length:=by rw[List.length_map,hH];omega
 have JQ:∀u:T,((H.map hT).set b.toNat u)[b.toNat]? =some u:=λu=>List.getElem?_set_self JC;refine⟨pl,some (.int x.rm),some (L x.ls),some (L x.row),some (.int x.st),some (L pl),y9,some (L [tl x.row,hd x.row]),?_,JV⟩;rw[j7,ao (qK (aA rfl rfl (fK (v:=x.D) nd hm (by rw[List.getElem?_map,hx];rfl))) rfl)]
 show aw _ (d7 (bD B X) H (some (.int b)) (some (.int x.rm)) (some (L x.ls)) (some (L x.row)) (some (.int x.st)) s8 x9 x10)=_;rw[ao (lZ (xs:=(List.replicate 8 0).map .int) (aA (b8 (aR rfl a9)) rfl rfl))];show aw _ (d7 (bD B X) H (some (.int b)) (some (.int x.rm)) (some (L x.ls)) (some (L x.row)) (some (.int x.st)) (.ol ((List.replicate 8 0).map .int)) x9 x10)=_;rw[ao eL]
 have LA:∀ρ:En,(aa 6) ρ=.ok (L x.row)->(bK (e2 bj (bh [eC (.int 0)]) (aa 6)) (some (e1 gq (eC (.int 1)))) none) ρ=.ok (L [tl x.row]):=λρ h=>by
   unfold bK;rw[aA (o:=bj) (x:=L [0]) (d:=L (0::x.row)) (b8 (aR rfl a9)) h (G.iR (by simp;omega)),R.aQ]
   show R.ok (D.lst (cut ((0::x.row).map .int) (some (-1)) none))=_;rw[nO,Bk _ (by simp),List.length_cons,Nat.add_sub_cancel,pO]
 have La:∀ρ:En,(aa 6) ρ=.ok (L x.row)->(bK (e2 bj (aa 6) (bh [eC (.int 0)])) none (some (eC (.int 1)))) ρ=.ok (L [hd x.row]):=λρ h=>by
   rw[rO (xs:=(x.row++[0]).map .int) (v:=1) (aA (o:=bj) (y:=L [0]) h (b8 (aR rfl a9)) (by rw[L,L,G.iR (by simp;omega), <-List.map_append])) rfl (by decide)]
   show R.ok (D.lst (((x.row++[0]).map D.int).take 1))=_;rw[<-List.map_take,Fq]
 rw[ao (aW (aA (o:=bj) (d:=L [tl x.row,hd x.row]) (LA _ rfl) (La _ rfl) rfl))];show aw _ (d7 (bD B X) H (some (.int b)) (some (.int x.rm)) (some (L x.ls)) (some (L x.row)) (some (.int x.st)) (.ol (pl.map .int)) y9 (some (L [tl x.row,hd x.row])))=_;rw[ao (show eA 8 _=R.ok (Fl.next (d7 (bD B X) H (some (.int b)) (some (.int x.rm)) (some (L x.ls)) (some (L x.row)) (some (.int x.st)) (.sh (L pl)) y9 (some (L [tl x.row,hd x.row]))))from rfl)]
 rw[ao (vM (p:=[]) (t:=lT H) (u:=.m [Q "room",Q "places",Q "start",Q "many"] ([D.int x.rm,L pl,.int x.st,.int x.ls.length].map .d)) (j:=b) (m:=b.toNat) (ts:=H.map hT) (wo (eK rfl (dE rfl) rfl (eK rfl (dE rfl) rfl (eK rfl (dE rfl) rfl (eK rfl (dE (by rw[fV (xs:=x.ls.map .int) rfl,List.length_map])) rfl rfl)))) (by decide+kernel)) rfl rfl rfl (eN _) (by rw[List.length_map,hH];exact hj) (by simp)),kx]
 have NC:∀u:T,(pX 2 pN (aa 3)) [.sh (bD B X),.un,.on (.tr (.l ((H.map hT).set b.toNat u))),.sh (.int b),.sh (.int x.rm),.sh (L x.ls),.sh (L x.row),.sh (.int x.st),.sh (L pl),ae y9,.sh (L [tl x.row,hd x.row])]=.ok [b.toNat]:=λu=>hJ (p:=[]) (n:=.l ((H.map hT).set b.toNat u)) rfl rfl rfl (eN _) (by show bJ ((H.map hT).set b.toNat u).length b=_;rw[List.length_set,List.length_map,hH];exact hj)
 show aw _ [.sh (bD B X),.un,.on (.tr (.l ((H.map hT).set b.toNat (.m [Q "room",Q "places",Q "start",Q "many"] ([D.int x.rm,L pl,.int x.st,.int x.ls.length].map .d))))),.sh (.int b),.sh (.int x.rm),.sh (L x.ls),.sh (L x.row),.sh (.int x.st),.sh (L pl),ae y9,.sh (L [tl x.row,hd x.row])]=_;rw[ao (lj (p:=[b.toNat]) (t:=.l ((H.map hT).set b.toNat _)) (bs:=[D.int x.rm,L pl,.int x.st,.int x.ls.length]) (as':=BK) (bs':=Hb.v ⟨x,pl⟩) (NC _) (jK (aR (x:=.int (hd x.row)) rfl (aR (x:=.int (tl x.row)) rfl a9))) rfl (j3 (JQ _)) (by decide) (by kernel_rfl)),kH (JQ _),List.set_set]
 show R.ok (Fl.next [.sh (bD B X),.un,.on (.tr (.l ((H.map hT).set b.toNat (Hb.T ⟨x,pl⟩)))),.sh (.int b),.sh (.int x.rm),.sh (L x.ls),.sh (L x.row),.sh (.int x.st),.sh (L pl),ae y9,.sh (L [tl x.row,hd x.row])])=_;rw[d7,lT,List.map_set];rfl
def Laid(B:List Int)(X:List Bx)(H:List (Option Hb)):Prop:=H.length=16/\(∀(m:Nat) b x,B[m]? =some b->X[m]? =some x->∃pl,H[b.toNat]? =some (some ⟨x,pl⟩)/\iI x pl)/\∀j:Nat,j<16->(j:Int)∉B->H[j]? =some none
theorem Ea{K B:List Int}{X:List Bx}(hB:BS K B X)(hr:∀x∈X,x.row.length<=1000):∃H:List (Option Hb),iV [bD B X]=.ok (lT H)/\Laid B X H:=by
 obtain⟨Ki,bb,bl,KU,_,_⟩:=hB
 obtain ⟨JN,e1,H,y3,y4,y5,y6,y7,y8,y9,K1,rfl,h1,h2,h3⟩:=cX (it:=fe (aa 0)) (tg:=az 3) (body:=j7) (λi ρ=>∃(H:List (Option Hb)) (y3 y4 y5 y6 y7 y8 y9 K1:Option D),ρ=d7 (bD B X) H y3 y4 y5 y6 y7 (ae y8) y9 K1/\H.length=16/\(∀(m:Nat) b x,m<i->B[m]? =some b->X[m]? =some x->∃pl,H[b.toNat]? =some (some ⟨x,pl⟩)/\iI x pl)/\∀j:Nat,j<16->(j:Int)∉B.take i->H[j]? =some none) (ds:=B.map .int) (ρ:=d7 (bD B X) (List.replicate 16 none) none none none none none .un none none) (by
     show R.ok ((B.map (Sum.inl:Int->Ky)).map gp)=_;rw[lP]) ⟨List.replicate 16 none,none,none,none,none,none,none,none,none,rfl,rfl,(λm _ _ hm=>absurd hm (Nat.not_lt_zero _)),λj hj _=>by rw[List.getElem?_replicate,if_pos hj]⟩ (by
   rintro i d hd ρ ⟨H,y3,y4,y5,y6,y7,y8,y9,K1,rfl,h1,h2,h3⟩;obtain⟨b,rfl,KS⟩:=g0 hd;have hi:=(List.getElem?_eq_some_iff.mp KS).1;have hx:X[i]? =some (X[i]'(by omega)):=List.getElem?_eq_getElem _
   have hb:=bb b (List.mem_of_getElem? KS);obtain⟨pl,z4,z5,z6,z7,z8,z9,MX,e,JV⟩:=Ef (H:=H) (x4:=y4) (x5:=y5) (x6:=y6) (x7:=y7) (s8:=ae y8) (x9:=y9) (x10:=K1) Ki KS hx (KU _ (List.mem_of_getElem? hx)) hb.1 hb.2 (hr _ (List.mem_of_getElem? hx)) h1;refine⟨_,rfl,_,e,_,_,z4,z5,z6,z7,z8,z9,MX,rfl,by rw[List.length_set];exact h1,λm b' x hm J1 Kn=>?_,λj hj hn=>?_⟩
   · by_cases hmi:m=i
     · subst hmi
       rw[KS]at J1;cases J1;rw[hx]at Kn;cases Kn;exact⟨pl,List.getElem?_set_self (by rw[h1];omega),JV⟩
     · have C':b≠b':=λz=>by
         subst z;exact hmi ((List.getElem?_inj (List.getElem?_eq_some_iff.mp J1).1 Ki).mp (J1.trans KS.symm))
       have Kl:=bb b' (List.mem_of_getElem? J1);rw[List.getElem?_set_ne (by omega)]
       exact h2 m b' x (by omega) J1 Kn
   · rw[List.take_add_one,KS,List.mem_append,not_or]at hn
     have:(j:Int)≠b:=λz=>hn.2 (by simp[z])
     rw[List.getElem?_set_ne (by omega)]
     exact h3 j hj hn.1)
 rw[List.length_map]at h2 h3;rw[List.take_length]at h3;refine⟨H,?_,h1,λm b x hb hx=>h2 m b x (List.getElem?_eq_some_iff.mp hb).1 hb hx,h3⟩;rw[iV];refine ll ?_;rw[ao (j2 (t:=lT (List.replicate 16 none)) (p7 (ds:=List.replicate 16 .aD) (aA (b8 (aR rfl a9)) rfl rfl)) (by simp) (by decide))]
 show aw _ (d7 (bD B X) (List.replicate 16 none) none none none none none .un none none)=_;rw[ao e1];exact mE rfl
theorem D9(h:Hb):af h.D (S "room")=.ok (.int h.b.rm):=by kernel_rfl
theorem u9(h:Hb):af h.D (S "places")=.ok (L h.pl):=by kernel_rfl
theorem ye(h:Hb):af h.D (S "start")=.ok (.int h.b.st):=by kernel_rfl
theorem wO(h:Hb):af h.D (S "many")=.ok (.int h.b.ls.length):=by kernel_rfl
theorem xG(h:Hb):af h.D (S "head")=.ok (.int (hd h.b.row)):=by kernel_rfl
theorem GK(h:Hb):af h.D (S "tail")=.ok (.int (tl h.b.row)):=by kernel_rfl
theorem qz(s:Sl):af s.D (S "next")=.ok (.int s.nx):=by kernel_rfl
noncomputable def dO(b:Bx):List Int:=(List.range b.ls.length).map λ(k:Nat)=>(b.st+(0+(k:Int))) % 8
theorem HN(n:Nat):dn 0 (n:Int)=(List.range n).map λ(k:Nat)=>D.int (0+(k:Int)):=by
 unfold dn;rw[show((n:Int) - 0).toNat=n by omega]
theorem ud{h:Hb}{ρ:En}{e:Ex}{i:Nat}(hl:h.b.ls.length<=8)(hi:ρ[i]? =some (.sh h.D))(he:∀k:Nat,e [.sh (.int (0+(k:Int))),.sh h.D]=.ok (.int 8)):bW (cK (e2 af (aa i) (eC (S "many")))) 1 [i] (az 0) [] (e2 oMod (e2 bj (e2 af (aa 1) (eC (S "start"))) (aa 0)) e) ρ=.ok (L (dO h.b)):=by
 have hv:(aa i) ρ=.ok h.D:=by unfold aa;rw[hi]
 refine iw (ds:=(List.range h.b.ls.length).map λ(k:Nat)=>D.int (0+(k:Int))) (ys:=(dO h.b).map .int) ?_ (by rw[List.length_map,List.length_range];omega) ?_
 ·rw[ju (aA hv rfl (wO h)) (rD (by omega) (by omega)),HN]
 · have hf:frees ρ [i]=[.sh h.D]:=by
     show [m5 ρ[i]?]=_;rw[hi];rfl
   rw[hf,dO,List.map_map];exact rA (λ(k:Nat)=>D.int (0+(k:Int))) (λ(k:Nat)=>D.int ((h.b.st+(0+(k:Int))) % 8)) λk _=>⟨[.sh (.int (0+(k:Int))),.sh h.D],rfl,bV (eV (aA rfl rfl (ye h)) rfl) (he k) (by decide)⟩
theorem DF{h:Hb}(hl:h.b.ls.length<=8):lE [h.D]=.ok (L (dO h.b)):=by
 rw[lE];exact gr (ix (ud (i:=0) hl rfl λk=>rfl))
theorem Hj{h:Hb}(hp:iI h.b h.pl){k:Nat}(hk:k<h.b.ls.length):bY (h.pl.map D.int) ((h.b.st+(0+(k:Int))) % 8)=some (.int (h.b.ls.getD k 0)):=by
 obtain⟨h1,h2,_⟩:=hp;have e:=h2 k hk;have hn:0<=(h.b.st+(k:Int)) % 8:=by omega
 have JC:((h.b.st+(k:Int)) % 8).toNat<h.pl.length:=by omega
 rw[show(h.b.st+(0+(k:Int))) % 8=(((h.b.st+(k:Int)) % 8).toNat:Int) by omega,me (by rw[List.length_map];exact JC),List.getElem_map]
 rw[List.getElem?_eq_getElem JC]at e;rw[List.getD_eq_getElem?_getD, <-e];rfl
theorem range_getD(ls:List Int):(List.range ls.length).map (λk=>ls.getD k 0)=ls:=by
 apply List.ext_getElem
 ·simp
 · intro i h1 h2
   simp[List.getElem?_eq_getElem h2]
theorem xa{h:Hb}{ρ:En}{it:bB}{i:Nat}(hp:iI h.b h.pl)(hl:h.b.ls.length<=8)(hi:ρ[i]? =some (.sh h.D))(hit:it ρ=.ok ((dO h.b).map .int)):bW it 1 [i] (az 0) [] (e2 af (e2 af (aa 1) (eC (S "places"))) (aa 0)) ρ=.ok (L h.b.ls):=by
 refine iw (ds:=(dO h.b).map .int) (ys:=h.b.ls.map .int) hit (by rw[List.length_map,dO,List.length_map,List.length_range];omega) ?_
 have hf:frees ρ [i]=[.sh h.D]:=by
   show [m5 ρ[i]?]=_;rw[hi];rfl
 rw[hf,dO,List.map_map];have:=rA (tg:=az 0) (el:=e2 af (e2 af (aa 1) (eC (S "places"))) (aa 0)) (ρ:=List.replicate 1 .un++[.sh h.D]) (λ(k:Nat)=>D.int ((h.b.st+(0+(k:Int))) % 8)) (λ(k:Nat)=>D.int (h.b.ls.getD k 0)) (xs:=List.range h.b.ls.length) λk hk=>⟨[.sh (.int ((h.b.st+(0+(k:Int))) % 8)),.sh h.D],rfl,aA (aA rfl rfl (u9 h)) rfl (dX (Hj hp (List.mem_range.mp hk)))⟩
 rw[show(List.range h.b.ls.length).map (λ(k:Nat)=>D.int (h.b.ls.getD k 0))=h.b.ls.map .int by
   have e9:=congrArg (List.map D.int) (range_getD h.b.ls);rw[List.map_map]at e9;exact e9]at this
 exact this
theorem HS{h:Hb}(hp:iI h.b h.pl)(hl:h.b.ls.length<=8):l6 [h.D]=.ok (L h.b.ls):=by
 rw[l6];exact gr (ix (xa (i:=0) hp hl rfl (ip (pB rfl (DF hl)))))
theorem pK{t:aL}{body:Sm}(st:Nat->En)(n:Nat)(ht:∀i,i<n->t (st i)=.ok true/\body (st i)=.ok (.next (st (i+1))))(hn:t (st n)=.ok false):∀(k i f:Nat),i+k=n->k<f->g7 t body f (st i)=.ok (.next (st n))
 | 0,i,f+1,h,_=>by
   have:i=n:=by omega
   subst this;unfold g7;rw[hn];rfl
 | k+1,i,f+1,h,hf=>by
   obtain⟨h1,h2⟩:=ht i (by omega)
   unfold g7;rw[h1,R.aQ,if_pos rfl,h2];exact pK st n ht hn k (i+1) f (by omega) (by omega)
 |k,i,0,_,hf=>by omega
def CH(G:List (Option Sl))(r:List Int):Prop:=r.Nodup/\r.length<=15/\∀(i:Nat) a,r[i]? =some a->1<=a/\a<=15/\∃s,G[a.toNat]? =some (some s)/\s.nx=r.getD (i+1) 0
theorem FO(x:Int):∀xs:List Int,cu (.int x) (L xs)=.ok (.bl (decide (x∈xs))):=λxs=>by
 have h1:(xs.map D.int).all flat=true:=by rw[List.all_eq_true];intro d hd;obtain⟨a,_,rfl⟩:=List.mem_map.mp hd;rfl
 show(if flat (.int x)=true/\(xs.map D.int).all flat=true then R.ok (D.bl ((xs.map D.int).any λy=>bq y (.int x)))else .bad)=_
 rw[if_pos ⟨rfl,h1⟩];congr 2;rw[List.any_map];by_cases h:x∈xs
 · rw[decide_eq_true h,List.any_eq_true]
   exact⟨x,h,by simp[bq]⟩
 · rw[decide_eq_false h,List.any_eq_false]
   intro y hy;have:y≠x:=λz=>h (z▸hy);simp[bq,this]
theorem sd(x:Int)(xs:List Int):ck (.int x) (L xs)=.ok (.bl (!decide (x∈xs))):=by
 unfold ck;rw[FO];rfl
theorem mN{G:List (Option Sl)}{a:Int}{o:Option Sl}(h1:0<=a)(h2:a<=15)(hG:G.length=16)(h:G[a.toNat]? =some o):af (sD G) (.int a)=.ok (oD o):=by
 refine dX ?_;rw[rF (xs:=G.map oD) h1 (by rw[List.length_map,hG];omega),List.getElem_map,(List.getElem?_eq_some_iff.mp h).2]
theorem tH(r:List Int):hd r=r.getD 0 0:=by cases r<;>rfl
theorem getD_some{r:List Int}{i:Nat}{a:Int}(h:r[i]? =some a):r.getD i 0=a:=by rw[List.getD_eq_getElem?_getD,h];rfl
theorem take_snoc{r:List Int}{i:Nat}{a:Int}(h:r[i]? =some a):(r.take (i+1)).map D.int=(r.take i).map D.int++[.int a]:=by
 rw[List.take_add_one,h,List.map_append];rfl
theorem Cq{G:List (Option Sl)}{h:Hb}(hG:G.length=16)(hc:CH G h.b.row):lx [sD G,h.D]=.ok (L h.b.row):=by
 obtain⟨nd,hl,hs⟩:=hc;generalize hr:h.b.row=r at*
 have hw:=pK (t:=mS 2 (ba (tV (e2 a7 (aa 3) (eC (.int 0)))) (ba (tV (e1 dB (e2 af (aa 0) (aa 3)))) (tV (e2 ck (aa 3) (aa 2)))))) (body:=lK) (λi=>[.sh (sD G),.sh h.D,.ol ((r.take i).map .int),.sh (.int (r.getD i 0))]) r.length (λi hi=>by
   have MN:r[i]? =some r[i]:=List.getElem?_eq_getElem hi;obtain⟨k1,k2,s,MK,Nl⟩:=hs i _ MN;have P9:=getD_some MN;rw[P9];refine⟨?_,?_⟩
   · show ba (tV (e2 a7 (aa 3) (eC (.int 0)))) (ba (tV (e1 dB (e2 af (aa 0) (aa 3)))) (tV (e2 ck (aa 3) (aa 2)))) [.sh (sD G),.sh h.D,.sh (L (r.take i)),.sh (.int r[i])]=_
     rw[c7 (aO (eO (i:=r[i]) (u:=0) rfl rfl)) (c7 (aO (b5 (o:=dB) (x:=s.D) (d:=.bl true) (aA (o:=af) rfl rfl (mN (by omega) k2 hG MK)) rfl)) (aO (aA (o:=ck) rfl rfl (sd r[i] (r.take i)))))]
     rw[decide_eq_false (show ¬r[i]=0 by omega),decide_eq_false (pH nd MN)];rfl
   · rw[lK,ao (sk rfl rfl (by rw[List.length_map,List.length_take];omega))]
     show aw _ [.sh (sD G),.sh h.D,.ol ((r.take i).map .int++[.int r[i]]),.sh (.int r[i])]=_;rw[ao (aW (aA (o:=af) (x:=s.D) (aA (o:=af) rfl rfl (mN (by omega) k2 hG MK)) rfl (qz s))),Nl, <-take_snoc MN]
     rfl) (by
   show ba (tV (e2 a7 (aa 3) (eC (.int 0)))) _ [.sh (sD G),.sh h.D,.sh (L (r.take r.length)),.sh (.int (r.getD r.length 0))]=_;refine jf (aO ?_);rw[eO (i:=r.getD r.length 0) (u:=0) rfl rfl,List.getD_eq_getElem?_getD,List.getElem?_eq_none (Nat.le_refl _)];rfl) r.length 0 18 (by omega) (by omega)
 rw[lx];refine gr ?_;rw[ao (lZ (xs:=[]) rfl)];show aw _ [.sh (sD G),.sh h.D,.ol [],.un]=_;rw[ao (aW (aA (o:=af) rfl rfl (xG h))),hr,tH];show aw _ [.sh (sD G),.sh h.D,.ol ((r.take 0).map .int),.sh (.int (r.getD 0 0))]=_;rw[ao (show jD 18 _ _ _=_ from hw),List.take_length]
 rw[ao (show eA 2 _=R.ok (Fl.next [.sh (sD G),.sh h.D,.sh (L r),.sh (.int (r.getD r.length 0))])from rfl)]
 exact gk rfl
theorem G5{G:List (Option Sl)}{r:List Int}(hG:G.length=16)(hc:CH G r):ly [sD G,.int (hd r),S "next"]=.ok (L r):=by
 obtain⟨nd,hl,hs⟩:=hc
 have hw:=pK (t:=ba (tV (e2 a7 (aa 1) (eC (.int 0)))) (ba (tV (e2 oLt (iW 3) (eC (.int 16)))) (ba (tV (e2 kG (aa 1) (eC (.int 16)))) (tV (e1 dB (e2 af (aa 0) (aa 1))))))) (body:=ma) (λi=>[.sh (sD G),.sh (.int (r.getD i 0)),.sh (S "next"),.ol ((r.take i).map .int)]) r.length (λi hi=>by
   have MN:r[i]? =some r[i]:=List.getElem?_eq_getElem hi;obtain⟨k1,k2,s,MK,Nl⟩:=hs i _ MN;have P9:=getD_some MN;rw[P9];refine⟨?_,?_⟩
   · rw[c7 (aO (eO (i:=r[i]) (u:=0) rfl rfl)) (c7 (aO (Br (A5 (xs:=(r.take i).map .int) rfl) rfl)) (c7 (aO (aA (o:=kG) (x:=.int r[i]) (y:=.int 16) rfl rfl rfl)) (aO (b5 (o:=dB) (x:=s.D) (d:=.bl true) (aA (o:=af) rfl rfl (mN (by omega) k2 hG MK)) rfl))))]
     rw[decide_eq_false (show ¬r[i]=0 by omega),decide_eq_true (show(((r.take i).map D.int).length:Int)<16 by rw[List.length_map,List.length_take];omega),decide_eq_true (show 0<=r[i]/\r[i]<16 by omega)];rfl
   · rw[ma,ao (sk rfl rfl (by rw[List.length_map,List.length_take];omega))]
     show aw _ [.sh (sD G),.sh (.int r[i]),.sh (S "next"),.ol ((r.take i).map .int++[.int r[i]])]=_
     rw[ao (aW (aA (o:=af) (x:=s.D) (aA (o:=af) rfl rfl (mN (by omega) k2 hG MK)) rfl (qz s))),Nl, <-take_snoc MN]
     rfl) (by
   refine jf (aO ?_);rw[eO (i:=r.getD r.length 0) (u:=0) rfl rfl,List.getD_eq_getElem?_getD,List.getElem?_eq_none (Nat.le_refl _)];rfl) r.length 0 18 (by omega) (by omega)
 rw[ly];refine gr ?_;rw[ao (lZ (xs:=[]) rfl),tH];show aw _ [.sh (sD G),.sh (.int (r.getD 0 0)),.sh (S "next"),.ol ((r.take 0).map .int)]=_
 rw[ao (show jD 18 _ _ _=_ from hw),List.take_length]
 rw[ao (show eA 3 _=R.ok (Fl.next [.sh (sD G),.sh (.int (r.getD r.length 0)),.sh (S "next"),.sh (L r)])from rfl)]
 exact gk rfl
theorem Bq{r:List Int}{i:Nat}{a:Int}(nd:r.Nodup)(h:r[i]? =some a)(hl:i+1=r.length):a∉r.dropLast:=λhm=>by
 obtain⟨j,hj⟩:=List.getElem?_of_mem hm;have JC:=(List.getElem?_eq_some_iff.mp hj).1;rw[List.length_dropLast]at JC;rw[List.getElem?_dropLast,if_pos JC]at hj;have:=(List.getElem?_inj (by omega) nd).mp (hj.trans h.symm)
 omega
theorem wW{i:Nat}{a:Int}:∀ {X:List Bx},(rows X).Nodup->∀ {x:Bx},x∈X->x.row[i]? =some a->i+1=x.row.length->a∉(PR X).map Prod.fst
 |[],_,x,hx,_,_=>nomatch hx
 | y::X,nd,x,hx,h,hl=>by
   rw[rows,List.map_cons,List.flatten_cons]at nd;obtain⟨n1,n2,n3⟩:=List.nodup_append.mp nd;rw[PR,List.map_cons,List.flatten_cons,List.map_append,nW,List.mem_append,not_or];rcases List.mem_cons.mp hx with rfl|hx
   ·exact⟨Bq n1 h hl,λhm=>n3 a (List.mem_of_getElem? h) a ((oW X).subset hm) rfl⟩
   ·exact⟨λhm=>n3 a ((List.dropLast_sublist _).subset hm) a (List.mem_flatten.mpr ⟨_,List.mem_map.mpr ⟨x,hx,rfl⟩,List.mem_of_getElem? h⟩) rfl,wW n2 hx h hl⟩
theorem yj{r:List Int}{i:Nat}{a b:Int}(h:r[i]? =some a)(h2:r[i+1]? =some b):(a,b)∈cP r:=by
 have hl:=(List.getElem?_eq_some_iff.mp h2).1;refine List.mem_of_getElem? (i:=i) ?_;unfold cP;rw[List.getElem?_zip_eq_some];refine⟨?_,?_⟩
 ·rw[List.getElem?_dropLast,if_pos (by omega)];exact h
 ·rw[List.getElem?_tail];exact h2
theorem t7{K B:List Int}{Y:List Tk}{X:List Bx}{G:List (Option Sl)}(hT:TS K Y)(hB:BS K B X)(h:LS K G)(hn:NX G (PR X)){x:Bx}(hx:x∈X)(T2:x.row.length<=15):CH G x.row:=by
 obtain⟨Ki,bb,bl,KU,L9,rk⟩:=hB;have Lj:x.row.Sublist (rows X):=List.sublist_flatten_of_mem (List.mem_map.mpr ⟨x,hx,rfl⟩);refine⟨L9.sublist Lj,T2,λi a ha=>?_⟩;have hk:=rk a (Lj.subset (List.mem_of_getElem? ha));have hb:=hT.2.1 a hk;obtain⟨s,hs⟩:=h.2.1 a hk;refine⟨hb.1,hb.2,s,hs,?_⟩;have Nl:fG G a.toNat=s.nx:=by unfold fG;rw[hs]
 rw[<-Nl];by_cases hl:i+1<x.row.length
 · have h2:x.row[i+1]? =some x.row[i+1]:=List.getElem?_eq_getElem hl
   rw[getD_some h2];exact(hn.1 _ (List.mem_flatten.mpr ⟨_,List.mem_map.mpr ⟨x,hx,rfl⟩,yj ha h2⟩)).2
 · have hi:=(List.getElem?_eq_some_iff.mp ha).1
   rw[List.getD_eq_getElem?_getD,List.getElem?_eq_none (by omega)]
   refine hn.2 a.toNat ?_;rw[show((a.toNat:Nat):Int)=a by omega]
   exact wW L9 hx ha (by omega)
theorem G6{G:List (Option Sl)}{h:Hb}(hG:G.length=16)(hc:CH G h.b.row)(hp:iI h.b h.pl)(hl:h.b.ls.length<=8):lC [sD G,h.D,h.b.D]=.ok (.bl true):=by
 obtain⟨ρ',e,_⟩:=cX (it:=cK (eC (.int 2))) (tg:=az 7) (body:=mh) (ρ:=[.sh (sD G),.sh h.D,.sh h.b.D,.sh (.int h.b.rm),.sh (L h.b.ls),.sh (L h.b.row),.sh (.int h.b.st),.un,.un,.un]) (λi ρ=>∃(x7 x8 x9:Option D),ρ=[.sh (sD G),.sh h.D,.sh h.b.D,.sh (.int h.b.rm),.sh (L h.b.ls),.sh (L h.b.row),.sh (.int h.b.st),ae x7,ae x8,ae x9]) (ju rfl (by decide)) ⟨none,none,none,rfl⟩ (by
   rintro i d hd ρ ⟨x7,x8,x9,rfl⟩;refine⟨[.sh (sD G),.sh h.D,.sh h.b.D,.sh (.int h.b.rm),.sh (L h.b.ls),.sh (L h.b.row),.sh (.int h.b.st),.sh d,ae x8,ae x9],rfl,[.sh (sD G),.sh h.D,.sh h.b.D,.sh (.int h.b.rm),.sh (L h.b.ls),.sh (L h.b.row),.sh (.int h.b.st),.sh d,.sh (L h.b.ls),.sh (L h.b.row)],?_,some _,some _,some _,rfl⟩;rw[mh,ao (aW (pB rfl (HS hp hl)))];show aw _ [.sh (sD G),.sh h.D,.sh h.b.D,.sh (.int h.b.rm),.sh (L h.b.ls),.sh (L h.b.row),.sh (.int h.b.st),.sh d,.sh (L h.b.ls),ae x9]=_;rw[ao (aW (dh rfl rfl (Cq hG hc)))];show aw _ [.sh (sD G),.sh h.D,.sh h.b.D,.sh (.int h.b.rm),.sh (L h.b.ls),.sh (L h.b.row),.sh (.int h.b.st),.sh d,.sh (L h.b.ls),.sh (L h.b.row)]=_;refine(ao (bX ?_)).trans rfl;rw[fU (g9 (aO (b5 (o:=dH .list) (x:=L h.b.ls) rfl rfl))) (fU (aO (aA (o:=a7) rfl rfl (gM h.b.ls h.b.ls))) (fU (g9 (aO (b5 (o:=dH .list) (x:=L h.b.row) rfl rfl))) (aO (aA (o:=a7) rfl rfl (gM h.b.row h.b.row)))))];simp)
 rw[lC];refine gr ?_;rw[ao (qK (d:=h.b.D) rfl rfl)];show aw _ [.sh (sD G),.sh h.D,.sh h.b.D,.sh (.int h.b.rm),.sh (L h.b.ls),.sh (L h.b.row),.sh (.int h.b.st),.un,.un,.un]=_;rw[ao e];exact gk rfl
noncomputable def hZ:List Int:=(List.range 15).map λ(k:Nat)=>1+(k:Int)
theorem tZ:dn 1 16=hZ.map .int:=by
 rw[hZ,List.map_map];rfl
theorem mF{n:Int}:n∈hZ↔1<=n/\n<=15:=by
 unfold hZ;rw[List.mem_map];constructor
 · rintro⟨k,hk,rfl⟩
   have:=List.mem_range.mp hk;omega
 · intro h
   exact⟨(n - 1).toNat,List.mem_range.mpr (by omega),by omega⟩
theorem rh{H:List (Option Hb)}{a:Int}{o:Option Hb}(h1:0<=a)(h2:a<=15)(hH:H.length=16)(h:H[a.toNat]? =some o):af (lD H) (.int a)=.ok (hD o):=by
 refine dX ?_;rw[rF (xs:=H.map hD) h1 (by rw[List.length_map,hH];omega),List.getElem_map,(List.getElem?_eq_some_iff.mp h).2]
theorem tf{B:List Int}{X:List Bx}{H:List (Option Hb)}{n:Int}(hl:X.length=B.length)(hL:Laid B X H)(h0:0<=n)(h1:n<=15):(n∉B/\af (lD H) (.int n)=.ok .aD)\/∃(m:Nat) (x:Bx) (pl:List Int),B[m]? =some n/\X[m]? =some x/\iI x pl/\af (lD H) (.int n)=.ok (Hb.D ⟨x,pl⟩):=by
 by_cases hn:n∈B
 · obtain⟨m,x,hm,hx⟩:=sF hl hn
   obtain⟨pl,hp,JV⟩:=hL.2.1 m n x hm hx;exact .inr ⟨m,x,pl,hm,hx,JV,rh h0 h1 hL.1 hp⟩
 ·exact .inl ⟨hn,rh h0 h1 hL.1 (hL.2.2 n.toNat (by omega) (by rw[show((n.toNat:Nat):Int)=n by omega];exact hn))⟩
noncomputable def fr(B:List Int):List Int:=hZ.filter λn=>decide (n∉B)
theorem tw{B:List Int}{X:List Bx}{H:List (Option Hb)}{n:Int}(hl:X.length=B.length)(hL:Laid B X H)(h0:0<=n)(h1:n<=15){ρ:En}{a:Ex}(ha:a ρ=af (lD H) (.int n)):e1 cR a ρ=.ok (.bl (decide (n∉B))):=by
 rcases tf hl hL h0 h1 with⟨hn,e⟩|⟨m,x,pl,hm,_,_,e⟩
 · rw[e]at ha
   rw[b5 (o:=cR) (d:=.bl true) ha rfl,decide_eq_true hn]
 · rw[e]at ha
   rw[b5 (o:=cR) (d:=.bl false) ha rfl,decide_eq_false (λz=>z (List.mem_of_getElem? hm))]
noncomputable abbrev nb(r:Int):Bx:=⟨r,[],[],0⟩
theorem yd{B:List Int}{X:List Bx}{H:List (Option Hb)}{r:Int}(hl:X.length=B.length)(hL:Laid B X H):mj [lD H,.int r]=.ok (match fr B with|[]=>.tup [lD H,.aD]|f::_=>.tup [lD (H.set f.toNat (some ⟨nb r,List.replicate 8 0⟩)),.int f]):=by
 have ef:(bW (dM (eC (.int 1)) (e2 bj (eC o6) (eC (.int 1)))) 1 [0] (az 0) [tV (e1 cR (e2 af (aa 1) (aa 0)))] (aa 0)) [.sh (lD H),.sh (.int r),.un,.un]=.ok (L (fr B)):=by
   refine iw (ds:=hZ.map .int) (by rw[lg (I:=1) (L:=16) rfl rfl (by decide) (by decide),tZ]) (by rw[List.length_map,hZ,List.length_map,List.length_range];decide) ?_
   exact i5 D.int (λn=>decide (n∉B)) D.int λn hn=>⟨[.sh (.int n),.sh (lD H)],rfl,by
     have hb:=mF.mp hn;rw[cJ.fN,aO (tw (ρ:=[.sh (.int n),.sh (lD H)]) (a:=e2 af (aa 1) (aa 0)) hl hL (by omega) hb.2 rfl)]
     cases decide (n∉B)<;>rfl,λ_=>rfl⟩
 rw[mj];refine gr ?_;show aw _ [.sh (lD H),.sh (.int r),.un,.un]=_;rw[ao (aW ef)];show aw _ [.sh (lD H),.sh (.int r),.sh (L (fr B)),.un]=_;cases hf:fr B with
 | nil=>
   refine gk ?_;rw[eZ (show _=R.ok true by rw[aO (gT (fV (xs:=[]) rfl) rfl)];rfl)]
   exact ix (il (aR (b5 (o:=gH) rfl rfl) (aR rfl a9)))
 | cons f F=>
   have OC:f∈fr B:=by rw[hf];exact List.mem_cons_self
   have Qr:=mF.mp (List.mem_filter.mp OC).1;rw[ao (bX (by rw[aO (gT (fV (xs:=(f::F).map .int) rfl) rfl),List.length_map,List.length_cons,decide_eq_false (by omega)]))]
   rw[ao (aW (jK (xs:=Hb.v ⟨nb r,List.replicate 8 0⟩) (aR rfl (aR (aA (b8 (aR rfl a9)) rfl rfl) (aR rfl (aR rfl (aR rfl (aR rfl a9))))))))];show aw _ [.sh (lD H),.sh (.int r),.sh (L (f::F)),.sh (Hb.D ⟨nb r,List.replicate 8 0⟩)]=_;have QA:(e2 af (aa 2) (eC (.int 0))) [.sh (lD H),.sh (.int r),.sh (L (f::F)),.sh (Hb.D ⟨nb r,List.replicate 8 0⟩)]=.ok (.int f):=aA (o:=af) rfl rfl (dX (by rw[show(0:Int)=((0:Nat):Int)from rfl,me (by simp)];rfl))
   refine gk (ix (il (aR ?_ (aR QA a9))));have hlen:(H.map hD).length=16:=by rw[List.length_map,hL.1]
   rw[aA (o:=bj) (d:=lD (H.set f.toNat (some ⟨nb r,List.replicate 8 0⟩))) (aA (o:=bj) (rO (xs:=H.map hD) (v:=f) rfl QA (by omega)) (b8 (aR rfl a9)) (PL.G.iR (by rw[List.length_take];simp;have:=hL.1;omega))) (uz (xs:=H.map hD) (v:=f+1) rfl (eV QA rfl) (by omega)) ?_]
   rw[PL.G.iR (by rw[List.length_append,List.length_take,List.length_drop];simp;have:=hL.1;omega)]
   have:(H.set f.toNat (some ⟨nb r,List.replicate 8 0⟩)).map hD=(H.map hD).take f.toNat++[Hb.D ⟨nb r,List.replicate 8 0⟩]++(H.map hD).drop (f+1).toNat:=by
     rw[List.map_set,List.set_eq_take_append_cons_drop,if_pos (by omega),show(f+1).toNat=f.toNat+1 by omega,List.append_assoc]
     rfl
   rw[lD,this]
theorem Al{B:List Int}{X:List Bx}{H:List (Option Hb)}{r f:Int}(hl:X.length=B.length)(bb:∀b∈B,1<=b/\b<=15)(hL:Laid B X H)(hf:f∈fr B):Laid (B++[f]) (X++[nb r]) (H.set f.toNat (some ⟨nb r,List.replicate 8 0⟩)):=by
 have Qr:=mF.mp (List.mem_filter.mp hf).1;have MA:f∉B:=by simpa using(List.mem_filter.mp hf).2
 refine⟨by rw[List.length_set];exact hL.1,λm b x hm hx=>?_,λj hj hn=>?_⟩
 · by_cases JC:m<B.length
   · rw[List.getElem?_append_left JC]at hm
     rw[List.getElem?_append_left (by omega)]at hx
     obtain⟨pl,h1,h2⟩:=hL.2.1 m b x hm hx;have hb:=bb b (List.mem_of_getElem? hm);have C':f≠b:=λz=>MA (z▸List.mem_of_getElem? hm);exact⟨pl,by rw[List.getElem?_set_ne (by omega)];exact h1,h2⟩
   · have MZ:m=B.length:=by
       have:=(List.getElem?_eq_some_iff.mp hm).1;rw[List.length_append,List.length_singleton]at this;omega
     subst MZ;rw[List.getElem?_append_right (Nat.le_refl _),Nat.sub_self]at hm;rw[<-hl,List.getElem?_append_right (Nat.le_refl _),Nat.sub_self]at hx;cases hm;cases hx;refine⟨List.replicate 8 0,List.getElem?_set_self (by rw[hL.1];omega),rfl,(λk hk=>absurd hk (Nat.not_lt_zero _)),λj hj _=>by rw[List.getElem?_replicate,if_pos hj]⟩
 · rw[List.mem_append,not_or]at hn
   have:(j:Int)≠f:=λz=>hn.2 (by simp[z])
   rw[List.getElem?_set_ne (by omega)]
   exact hL.2.2 j hj hn.1
theorem qc(X:List Bx)(r:Int):rows (X++[nb r])=rows X:=by
 rw[rows,List.map_append,List.flatten_append];simp
theorem Bi(X:List Bx)(r:Int):PR (X++[nb r])=PR X:=by
 rw[PR,List.map_append,List.flatten_append];simp[cP,PR]
theorem Hh{K B:List Int}{X:List Bx}{r f:Int}(h:BS K B X)(h1:1<=r)(h2:r<=8)(hf:f∈fr B):BS K (B++[f]) (X++[nb r]):=by
 obtain⟨Ki,bb,bl,KU,L9,rk⟩:=h;have Qr:=mF.mp (List.mem_filter.mp hf).1;have MA:f∉B:=by simpa using(List.mem_filter.mp hf).2
 refine⟨List.nodup_append.mpr ⟨Ki,by simp,λa ha b hb z=>by rw[List.mem_singleton]at hb;subst z hb;exact MA ha⟩,λb hb=>?_,by simp[bl],λx hx=>?_,by rw[qc];exact L9,by rw[qc];exact rk⟩
 · rcases List.mem_append.mp hb with h|h
   ·exact bb b h
   ·rw[List.mem_singleton]at h;subst h;exact Qr
 · rcases List.mem_append.mp hx with h|h
   ·exact KU x h
   · rw[List.mem_singleton]at h;subst h
     exact⟨h1,h2,by show((0:Nat):Int)<=r;omega,Int.le_refl 0,by show(0:Int)<8;decide⟩
theorem yy(r:List Int):bY ((0::r).map D.int) (-1)=some (.int (tl r)):=by
 unfold bY bJ;rw[if_neg (by decide),if_pos (by rw[List.length_map,List.length_cons];omega)]
 show((0::r).map D.int)[(-1+(((0::r).map D.int).length:Int)).toNat]? =_;rw[List.length_map,List.length_cons,show(-1+((r.length+1:Nat):Int)).toNat=r.length by omega,List.getElem?_map]
 have:=pO r;have h2:((0::r).drop r.length)[0]? =some (tl r):=by rw[this];rfl
 rw[List.getElem?_drop,Nat.add_zero]at h2;rw[h2];rfl
noncomputable abbrev tS(G:List (Option Sl))(H:List (Option Hb))(B:List Int)(X:List Bx)(w:List Int)(x4 x5 x6 x7 x8 x9 x10:Option D):En:=[.sh (sD G),.sh (lD H),.sh (bD B X),.sh (L w),ae x4,ae x5,ae x6,ae x7,ae x8,ae x9,ae x10]
theorem GB{G:List (Option Sl)}{H:List (Option Hb)}{B w:List Int}{X:List Bx}{n:Int}{x5 x6 x7 x8 x9 x10:Option D}(hG:G.length=16)(Ki:B.Nodup)(hl:X.length=B.length)(aH:∀x∈X,x.ok)(KN:∀x∈X,CH G x.row)(hL:Laid B X H)(h0:0<=n)(h1:n<=15)(hw:w.length<=10000):
   ∃(w':List Int) (y5 y6 y7 y8 y9 K1:Option D),kN (tS G H B X w (some (.int n)) x5 x6 x7 x8 x9 x10)=.ok (.next (tS G H B X w' (some (.int n)) y5 y6 y7 y8 y9 K1))/\w'.length<=w.length+15/\(∀y∈w,y∈w')/\∀(m:Nat) x,B[m]? =some n->X[m]? =some x->∀y∈x.row,y∈w':=by
 have Nn:ck (.int n) (bD B X)=.ok (.bl (!decide (n∈B))):=by unfold ck;rw[jA n Ki (by rw[List.length_map];exact hl)];rfl
 have Pr:(e2 a7 (e1 cR (e2 af (aa 1) (aa 4))) (e2 ck (aa 4) (aa 2))) (tS G H B X w (some (.int n)) x5 x6 x7 x8 x9 x10)=.ok (.bl false):=by
   refine aA (o:=a7) (tw (a:=e2 af (aa 1) (aa 4)) hl hL h0 h1 rfl) (aA (o:=ck) rfl rfl Nn) ?_;by_cases hn:n∈B<;>simp[hn,a7]
 rw[kN,ao (bX (aO Pr))];have Lw:=aO (aA (o:=cu) (ρ:=tS G H B X w (some (.int n)) x5 x6 x7 x8 x9 x10) (a:=aa 4) (b:=aa 2) rfl rfl (jA n Ki (vs:=X.map Bx.D) (by rw[List.length_map];exact hl)))
 rcases tf hl hL h0 h1 with⟨hn,_⟩|⟨m,x,pl,hm,hx,JV,KZ⟩
 · rw[decide_eq_false hn]at Lw
   rw[ao (bX Lw)];exact⟨w,x5,x6,x7,x8,x9,x10,rfl,by omega,λy hy=>hy,λm x hm=>absurd (List.mem_of_getElem? hm) hn⟩
 · rw[decide_eq_true (List.mem_of_getElem? hm)]at Lw
   have MQ:=List.mem_of_getElem? hx;obtain⟨o1,o2,o3,o4,o5⟩:=aH x MQ;have KN:=KN x MQ;have RJ:x.ls.length<=8:=by omega
   refine⟨w++x.row,some (.int x.rm),some (L x.ls),some (L x.row),some (.int x.st),some (Hb.D ⟨x,pl⟩),some (L (dO x)),?_,by rw[List.length_append];have:=KN.2.1;omega,λy hy=>List.mem_append_left _ hy,λm' x' QD Kn y hy=>?_⟩
   · refine(ao ?_).trans rfl
     rw[eZ Lw,ao (qK (aA (o:=af) rfl rfl (fK (v:=x.D) Ki hm (by rw[List.getElem?_map,hx];rfl))) rfl)]
     show aw _ (tS G H B X w (some (.int n)) (some (.int x.rm)) (some (L x.ls)) (some (L x.row)) (some (.int x.st)) x9 x10)=_;rw[ao (aW (aA (o:=af) rfl rfl KZ))];show aw _ (tS G H B X w (some (.int n)) (some (.int x.rm)) (some (L x.ls)) (some (L x.row)) (some (.int x.st)) (some (Hb.D ⟨x,pl⟩)) x10)=_;rw[ao (aW (ud (h:=⟨x,pl⟩) (i:=9) RJ rfl λk=>rfl))];show aw _ (tS G H B X w (some (.int n)) (some (.int x.rm)) (some (L x.ls)) (some (L x.row)) (some (.int x.st)) (some (Hb.D ⟨x,pl⟩)) (some (L (dO x))))=_
     rw[ao (bX (by
       rw[fU (aO (eO (aA (o:=af) rfl rfl (D9 ⟨x,pl⟩)) rfl)) (aO (eO (aA (o:=af) rfl rfl (wO ⟨x,pl⟩)) (fV (xs:=x.ls.map .int) rfl)))];simp))]
     rw[ao (bX (by
       rw[aO (aA (o:=a7) (xa (h:=⟨x,pl⟩) (i:=9) JV RJ rfl (ip rfl)) rfl (gM x.ls x.ls))];simp))]
     have Ob:(bW (cK (eC (.int 8))) 1 [10,9] (az 0) [ba (tV (e2 ck (aa 0) (aa 1))) (tV (e2 a7 (e2 af (e2 af (aa 2) (eC (S "places"))) (aa 0)) (eC (.int 0))))] (aa 0)) (tS G H B X w (some (.int n)) (some (.int x.rm)) (some (L x.ls)) (some (L x.row)) (some (.int x.st)) (some (Hb.D ⟨x,pl⟩)) (some (L (dO x))))=.ok (L []):=by
       have:=i5 (tg:=az 0) (cs:=[ba (tV (e2 ck (aa 0) (aa 1))) (tV (e2 a7 (e2 af (e2 af (aa 2) (eC (S "places"))) (aa 0)) (eC (.int 0))))]) (el:=aa 0) (ρ:=[.un,.sh (L (dO x)),.sh (Hb.D ⟨x,pl⟩)]) (λ(k:Nat)=>D.int (0+(k:Int))) (λ_=>false) (λ_=>D.aD) (xs:=List.range 8) λk hk=>⟨[.sh (.int (0+(k:Int))),.sh (L (dO x)),.sh (Hb.D ⟨x,pl⟩)],rfl,by
         have OT:=List.mem_range.mp hk
         have h2:bY (pl.map D.int) (0+(k:Int))=some (.int (pl[k]'(by rw[JV.1];exact OT))):=by
           rw[show(0+(k:Int))=((k:Nat):Int) by omega,me (by rw[List.length_map,JV.1];exact OT),List.getElem_map]
         have ht:=c7 (aO (aA (o:=ck) (ρ:=[.sh (.int (0+(k:Int))),.sh (L (dO x)),.sh (Hb.D ⟨x,pl⟩)]) (a:=aa 0) (b:=aa 1) rfl rfl (sd (0+(k:Int)) (dO x)))) (aO (eO (b:=eC (.int 0)) (aA (o:=af) (aA (o:=af) (a:=aa 2) (b:=eC (S "places")) rfl rfl (u9 ⟨x,pl⟩)) (b:=aa 0) rfl (dX h2)) rfl));rw[cJ.fN,ht];by_cases hp:(0+(k:Int))∈dO x
         ·rw[decide_eq_true hp];rfl
         · have h3:=JV.2.2 k OT λj hj z=>hp (List.mem_map.mpr ⟨j,List.mem_range.mpr hj,by omega⟩)
           rw[List.getElem?_eq_getElem (by rw[JV.1];exact OT)]at h3
           injection h3 with h3;rw[h3,decide_eq_false hp];rfl,λz=>nomatch z⟩
       refine iw (ds:=(List.range 8).map λ(k:Nat)=>D.int (0+(k:Int))) (by rw[ju (L:=8) rfl (by decide)];rfl) (by decide) ?_
       refine Eq.trans this ?_;simp
     rw[ao (bX (by
       rw[aO (aA (o:=a7) Ob (b8 a9) (gM [] []))];simp))]
     rw[ao (bX (by
       rw[fU (aO (aA (o:=a7) (x:=L x.row) (jr rfl (aA (o:=af) rfl rfl (xG ⟨x,pl⟩)) rfl (G5 hG KN)) rfl (gM x.row x.row))) (aO (eO (i:=tl x.row) (aA (o:=af) rfl rfl (GK ⟨x,pl⟩)) (aA (o:=af) (x:=L (0::x.row)) (y:=.int (-1)) (aA (o:=bj) (x:=L [0]) (b8 (aR rfl a9)) rfl (PL.G.iR (by simp;have:=KN.2.1;omega))) rfl (dX (yy x.row)))))]
       simp))]
     rw[ao (aW (aA (o:=bj) (x:=L w) (y:=L x.row) (d:=L (w++x.row)) rfl rfl (by rw[L,L,PL.G.iR (by simp;have:=KN.2.1;omega), <-List.map_append])))]
     rfl
   · have Qv:=(List.getElem?_inj (List.getElem?_eq_some_iff.mp hm).1 Ki).mp (hm.trans QD.symm)
     subst Qv;rw[hx]at Kn;cases Kn;exact List.mem_append_right _ hy
end gL
end PL
set_option maxRecDepth 100000
namespace PL
open PySem PySem.Spec
open L2 (V Hp HO Cx PE PT PW PA PS bQ PG cH VK TE TT TA TS TI TG Inv RelV Vals Rd a8 bo upd ak Key XK Ends aZ c9 bE R2 EP It Turn cq)
structure XE(X:Cx)(e:Expr)(f:Ex):Prop where
 out:JE X e f
structure XF(X:Cx)(e:Expr)(f:Ex):Prop where
 out:JF X e f
structure XT(X:Cx)(e:Expr)(f:aL):Prop where
 out:JT X e f
structure XW(X:Cx)(e:Expr)(f:aL):Prop where
 out:JW X e f
structure XA(X:Cx)(e:List Expr)(f:En->R (List D)):Prop where
 out:JA X e f
structure XO(X:Cx)(e:Option Expr)(f:Option Ex):Prop where
 out:JO X e f
structure XS(X:Cx)(e:Stmt)(f:Sm):Prop where
 out:JS X e f
structure fA(X:Cx)(e:List Stmt)(f:Sm):Prop where
 out:cC X e f
structure XG(X:Cx)(e:Expr)(f:bA):Prop where
 out:JG X e f
structure lY(X:Cx)(e:List Expr)(f:List D->En->R En):Prop where
 out:ke X e f
structure jV(X:Cx)(e:List Expr)(f:List aL):Prop where
 out:kj X e f
structure XP(X:Cx)(pos:Pos)(keys:List (Option Expr))(values:List Expr)(ks:List Ky)(fs:List Ex):Prop where
 out:JP X pos keys values ks fs
structure XI(X:Cx)(tg e:Expr)(f:bB):Prop where
 out:JI X tg e f
structure XD(X:Cx)(e:Expr)(f:Ex):Prop where
 out:JD X e f
structure XX(X:Cx)(e:Expr)(f:Xt):Prop where
 out:JX X e f
structure mR(X:Cx)(e:List Expr)(f:En->R (List T)):Prop where
 out:mn X e f
structure XL(X:Cx)(i:Nat)(e:Expr)(f:Pt):Prop where
 out:JL X i e f
structure oF(X:Cx)(pos:Pos)(keys:List (Option Expr))(values:List Expr)(Ks:List (Ex×Xt)):Prop where
 out:kX X pos keys values Ks
theorem ab{X:L2.Cx}{pos:Pos}(i:Nat){x:Str}(hN:X.N[i]? =some x:=by rfl)(hv:L2.cf X.env.scope x:=by first|exact Or.inl rfl|exact Or.inr (Or.inl rfl)|exact Or.inr (Or.inr rfl))(hd:(x==("__debug__":Str))=false:=by decide)(Jx:(x==("__classdict__":Str))=false:=by decide):XE X (.Name x pos) (aa i):=⟨Ed i hN hv hd Jx⟩
theorem ai{X:L2.Cx}{pos:Pos}{i:Int}{j:Nat}:XE X (.Constant (.int i) j pos) (eC (.int i)):=⟨Ao ⟩
theorem d5{X:L2.Cx}{pos:Pos}{b:Bool}{j:Nat}:XE X (.Constant (.bool b) j pos) (eC (.bl b)):=⟨Au ⟩
theorem jR{X:L2.Cx}{pos:Pos}{j:Nat}:XE X (.Constant .none j pos) (eC .aD):=⟨Fz ⟩
theorem aP{X:L2.Cx}{pos:Pos}{x:Str}{j:Nat}:XE X (.Constant (.str x) j pos) (eC (.str x)):=⟨G4 ⟩
theorem aF{X:L2.Cx}{pos:Pos}{op:Operator}{g:D->D->R D}{r:R2}{a b:Expr}{fa fb:Ex}(ho:aZ X (binaryOp op) r)(hg:cz (aB X) g r)(ha:XE X a fa)(hb:XE X b fb):XE X (.BinOp a op b pos) (e2 g fa fb):=⟨CV ho hg ha.out hb.out⟩
theorem lh{X:L2.Cx}{pos:Pos}{op:CmpOp}{g:D->D->R D}{r:R2}{a b:Expr}{fa fb:Ex}(ho:aZ X (compareOp op) r)(hg:cz (aB X) g r)(ha:XE X a fa)(hb:XE X b fb)(hm:behindInMarks op b=false:=by first|exact L2.uH _|rfl):XE X (.Compare a [op] [b] pos) (e2 g fa fb):=⟨yf ho hg ha.out hb.out hm⟩
theorem nE{X:L2.Cx}{pos:Pos}{op:UnaryOp}{g:D->R D}{r:V->Hp->VK->Prop}{a:Expr}{fa:Ex}(ho:c9 X (unaryOp op) r)(hg:mQ (aB X) g r)(ha:XE X a fa):XE X (.UnaryOp op a pos) (e1 g fa):=⟨yg ho hg ha.out⟩
theorem DP{X:L2.Cx}{pos:Pos}{j:Nat}{p2:Pos}{a:Expr}{fa:Ex}(ha:XE X a fa):XE X (.Compare a [.Is] [.Constant .none j p2] pos) (e1 cR fa):=⟨FG ha.out⟩
theorem rT{X:L2.Cx}{pos:Pos}{op:BoolOp}{a:Expr}{fa:Ex}(h:XE X a fa):XE X (.BoolOp op [a] pos) fa:=⟨GA h.out⟩
theorem xo{X:L2.Cx}{pos:Pos}{a b:Expr}{rest:List Expr}{fa fb:Ex}(ha:XE X a fa)(hb:XE X (.BoolOp .And (b::rest) pos) fb):XE X (.BoolOp .And (a::b::rest) pos) (jq fa fb):=⟨Di ha.out hb.out⟩
theorem i4{X:L2.Cx}{a:Expr}{fa:Ex}(ha:XE X a fa)(he:∀whole,isTrue a X.env whole=(do let v <-whole;standAt a.pos;holding [v] (truthy v)):=by exact ym (by rfl)):XT X a (tV fa):=⟨Fb ha.out he⟩
theorem bg{X:L2.Cx}{pos:Pos}{op:CmpOp}{g:D->D->R D}{r:R2}{a b:Expr}{fa fb:Ex}(ho:aZ X (compareOp op) r)(hg:cz (aB X) g r)(hB:iD g)(ha:XE X a fa)(hb:XE X b fb)(hm:behindInMarks op b=false:=by first|exact L2.uH _|rfl):XT X (.Compare a [op] [b] pos) (tV (e2 g fa fb)):=⟨A4 ho hg hB ha.out hb.out hm⟩
theorem pR{X:L2.Cx}{pos:Pos}{j:Nat}{p2:Pos}{a:Expr}{fa:Ex}(ha:XE X a fa):XT X (.Compare a [.Is] [.Constant .none j p2] pos) (tV (e1 cR fa)):=⟨An ha.out⟩
theorem lI{X:L2.Cx}{pos:Pos}{j:Nat}{p2:Pos}{a:Expr}{fa:Ex}(ha:XE X a fa):XT X (.Compare a [.IsNot] [.Constant .none j p2] pos) (tV (e1 dB fa)):=⟨FT ha.out⟩
theorem i3{X:L2.Cx}{pos:Pos}{a:Expr}{c:aL}(ha:XT X a c):XT X (.UnaryOp .Not a pos) (eY c):=⟨C6 ha.out⟩
theorem gA{X:L2.Cx}{pos:Pos}{a:Expr}{c:aL}(ha:XT X a c):XW X (.BoolOp .And [a] pos) c:=⟨yB ha.out⟩
theorem jt{X:L2.Cx}{pos:Pos}{a:Expr}{c:aL}(ha:XT X a c):XW X (.BoolOp .Or [a] pos) c:=⟨C0 ha.out⟩
theorem cT{X:L2.Cx}{pos:Pos}{a b:Expr}{rest:List Expr}{c c':aL}(ha:XT X a c)(hb:XW X (.BoolOp .And (b::rest) pos) c'):XW X (.BoolOp .And (a::b::rest) pos) (ba c c'):=⟨Av ha.out hb.out⟩
theorem gY{X:L2.Cx}{pos:Pos}{a b:Expr}{rest:List Expr}{c c':aL}(ha:XT X a c)(hb:XW X (.BoolOp .Or (b::rest) pos) c'):XW X (.BoolOp .Or (a::b::rest) pos) (ee c c'):=⟨Hy ha.out hb.out⟩
theorem dj{X:L2.Cx}{e:Expr}{c:aL}(h:XW X e c):XT X e c:=⟨Fx h.out⟩
theorem EY{X:L2.Cx}{pos:Pos}{a:Expr}{fa:Ex}(ha:XE X a fa):XE X (.UnaryOp .Not a pos) (e1 lJ fa):=⟨E4 ha.out⟩
theorem aM{X:L2.Cx}:XA X [] (eList []):=⟨fQ ⟩
theorem aC{X:L2.Cx}{e:Expr}{es:List Expr}{f:Ex}{fs:List Ex}(ha:XE X e f)(hr:XA X es (eList fs))(hs:starEach (e::es) X.env=(false,eval e X.env)::starEach es X.env:=by exact bF (by rfl)):XA X (e::es) (eList (f::fs)):=⟨fm ha.out hr.out hs⟩
theorem gI{X:L2.Cx}{pos:Pos}{es:List Expr}{fs:List Ex}{k:Nat}(h:XA X es (eList fs))(hl:fs.length<=1000:=by decide):XE X (.Tuple es k pos) (cn fs):=⟨yl h.out hl⟩
theorem cj{X:L2.Cx}{pos:Pos}{es:List Expr}{fs:List Ex}(h:XA X es (eList fs))(hl:fs.length<=1000:=by decide):XE X (.List es pos) (bh fs):=⟨B5 h.out hl⟩
theorem BF{X:L2.Cx}{pos:Pos}:XE X (.Dict [] [] pos) (cS [] []):=⟨GI ⟩
theorem gK{X:L2.Cx}:XO X none none:=⟨Fj ⟩
theorem fP{X:L2.Cx}{e:Expr}{f:Ex}(h:XE X e f):XO X (some e) (some f):=⟨A1 h.out⟩
theorem fW{X:L2.Cx}{pos:Pos}{a:Expr}{lo hi:Option Expr}{fa:Ex}{fl fh:Option Ex}{p2:Pos}(ha:XE X a fa)(hl:XO X lo fl)(hh:XO X hi fh):XE X (.Subscript a (.Slice lo hi none p2) pos) (bK fa fl fh):=⟨DN ha.out hl.out hh.out⟩
theorem gm{X:L2.Cx}{pos:Pos}{g:D->R D}{r:List V->Hp->VK->Prop}{x:Str}{id:String}{a:Expr}{fa:Ex}{p:Pos}(hc:bE X (.builtin id) r)(hg:hW (aB X) (g1 g) r)(hm:X.mg x=none)(hv:bootBuiltins x=some (.builtin id))(ha:XE X a fa)(MW:L2.Gl X x:=by rfl)(hs:starEach [a] X.env=(false,eval a X.env)::starEach [] X.env:=by exact bF (by rfl))(hn:x≠"__name__":=by decide)(Kf:(x==("__debug__":Str))=false:=by decide):XE X (.Call (.Name x p) [a] [] pos) (e1 g fa):=⟨Cj hc hg MW hm hv ha.out hs hn Kf⟩
theorem lF{X:L2.Cx}{pos:Pos}{g:D->R D}{r:List V->Hp->VK->Prop}{x:Str}{T:String}{a:Expr}{fa:Ex}{p:Pos}(hc:bE X (.type T) r)(hg:hW (aB X) (g1 g) r)(hm:X.mg x=none)(hv:bootBuiltins x=some (.type T))(ha:XE X a fa)(MW:L2.Gl X x:=by rfl)(hs:starEach [a] X.env=(false,eval a X.env)::starEach [] X.env:=by exact bF (by rfl))(hn:x≠"__name__":=by decide)(Kf:(x==("__debug__":Str))=false:=by decide):XE X (.Call (.Name x p) [a] [] pos) (e1 g fa):=⟨Gk hc hg MW hm hv ha.out hs hn Kf⟩
theorem kW{X:L2.Cx}{pos:Pos}(ty:Ty){a:Expr}{fa:Ex}{p p2:Pos}{T:Str}(ha:XE X a fa)(hm:X.mg "isinstance"=none)(P8:X.mg T=none)(QK:bootBuiltins T=some (.type (mf ty)))(hg:L2.Gl X "isinstance":=by rfl)(P5:L2.Gl X T:=by rfl)(hs:starEach [a,.Name T p2] X.env=(false,eval a X.env)::starEach [.Name T p2] X.env:=by exact bF (by rfl))(Kd:starEach [.Name T p2] X.env=(false,eval (.Name T p2) X.env)::starEach [] X.env:=by exact bF (by rfl))(Ql:T≠"__name__":=by decide)(QH:(T==("__debug__":Str))=false:=by decide):XE X (.Call (.Name "isinstance" p) [a,.Name T p2] [] pos) (e1 (dH ty) fa):=⟨xX ty ha.out hg hm P5 P8 QK hs Kd Ql QH⟩
theorem bu{X:L2.Cx}:fA X [] (aw []):=⟨xn ⟩
theorem cb{X:L2.Cx}:fA X [] bI:=⟨Ce ⟩
theorem ar{X:L2.Cx}{st:Stmt}{rest:List Stmt}{f:Sm}{fs:List Sm}(h1:XS X st f)(h2:fA X rest (aw fs)):fA X (st::rest) (aw (f::fs)):=⟨Aj h1.out h2.out⟩
theorem bS{X:L2.Cx}{st:Stmt}{f:Sm}(h:XS X st f):fA X [st] f:=⟨Fe h.out⟩
theorem cg{X:L2.Cx}{pos:Pos}{c:Expr}{a b:List Stmt}{fc:aL}{fa fb:Sm}(hc:XT X c fc)(ha:fA X a fa)(hb:fA X b fb):XS X (.If c a b pos) (bM fc fa fb):=⟨AO hc.out ha.out hb.out⟩
theorem cx{X:L2.Cx}{pos:Pos}{a:Expr}{fa:Ex}(ha:XE X a fa):XS X (.Return (some a) pos) (b3 fa):=⟨ER ha.out⟩
theorem aG{X:L2.Cx}{pos:Pos}(i:Nat){x:Str}(hN:X.N.Nodup)(hi:X.N[i]? =some x:=by rfl)(hx:L2.Loc X.env.scope x:=by first|exact Or.inl rfl|exact Or.inr rfl)(hf:X.fn x=true\/X.env.scope.names.lookup x=some .local:=by first|exact .inl rfl|exact .inr rfl):XG X (.Name x pos) (az i):=⟨D0 i hN hi hx hf⟩
theorem kZ{X:L2.Cx}:lY X [] (c6 []):=⟨E9 ⟩
theorem dG{X:L2.Cx}(i:Nat){is:List Nat}{e:Expr}{es:List Expr}(h1:XG X e (az i))(h2:lY X es (c6 is))(hs:(assignEach (e::es) X.env).map (·.2)=assign e X.env::(assignEach es X.env).map (·.2):=by exact mV (by rfl)):lY X (e::es) (c6 (i::is)):=⟨BL i h1.out h2.out hs⟩
theorem u0{X:L2.Cx}{pos:Pos}{is:List Nat}{es:List Expr}{k:Nat}(h:lY X es (c6 is))(hn:(assignEach es X.env).length=is.length)(hc:X.calm=true:=by rfl)(Mm:(assignEach es X.env).findIdx? (·.1)=none:=by exact rC (by rfl)):XG X (.Tuple es k pos) (hV is):=⟨vP hc h.out hn Mm⟩
theorem aY{X:L2.Cx}{pos:Pos}{tg e:Expr}{fa:Ex}{g:bA}(ha:XE X e fa)(hg:XG X tg g)(hs:swapsWithSole [tg] e pos.line X.env=pure false:=by first|exact qu (by rfl)|rfl)(hw:swappedStores [tg] e X.env=pure none:=by first|exact Fo (by rfl)|exact qF (by rfl))(h1:(assignEach [tg] X.env).map (·.2)=[assign tg X.env]:=by exact mV (by rfl)):XS X (.Assign [tg] e pos) (aK g fa):=⟨EI ha.out hg.out hs hw h1⟩
theorem cG{X:L2.Cx}{pos:Pos}{tg iter:Expr}{body:List Stmt}{it:bB}{g:bA}{f:Sm}(hi:XI X tg iter it)(hg:XG X tg g)(hb:fA X body f)(hp:PassesOwn (model X.prog X.w) X.A X.env X.xe:=by exact PassesOwn.never)(hc:X.calm=true:=by exact rfl)(hs:∀x,foldedSetIterable iter X.env x=pure x:=by exact nL (by rfl)):XS X (.For tg iter body [] pos) (b0 it g f):=⟨C8 hp hc hi.out hg.out hb.out hs⟩
theorem ir{X:L2.Cx}{pos:Pos}{tg a:Expr}{fa:Ex}{p:Pos}(hm:X.mg "range"=none)(ha:XE X a fa)(hg:L2.Gl X "range":=by rfl)(hs:starEach [a] X.env=(false,eval a X.env)::starEach [] X.env:=by exact bF (by rfl)):XI X tg (.Call (.Name "range" p) [a] [] pos) (cK fa):=⟨Fi hg hm ha.out hs⟩
theorem lr{X:L2.Cx}{pos:Pos}{tg a b:Expr}{fa fb:Ex}{p:Pos}(hm:X.mg "range"=none)(ha:XE X a fa)(hb:XE X b fb)(hg:L2.Gl X "range":=by rfl)(hs:starEach [a,b] X.env=(false,eval a X.env)::starEach [b] X.env:=by exact bF (by rfl))(Kd:starEach [b] X.env=(false,eval b X.env)::starEach [] X.env:=by exact bF (by rfl)):XI X tg (.Call (.Name "range" p) [a,b] [] pos) (dM fa fb):=⟨AU hg hm ha.out hb.out hs Kd⟩
theorem xu{X:L2.Cx}{pos:Pos}(i:Nat){x:Str}{p2:Pos}(hN:X.N[i]? =some x:=by rfl)(hv:L2.cf X.env.scope x:=by exact Or.inl rfl)(hd:(x==("__debug__":Str))=false:=by decide)(Jx:(x==("__classdict__":Str))=false:=by decide):XS X (.Return (some (.Name x p2)) pos) (lz i):=⟨Aq i hN hv hd Jx⟩
theorem mq{X:L2.Cx}(i:Nat){rest:List Stmt}{fs:List Sm}(h:fA X rest (aw fs)):fA X rest (aw (eA i::fs)):=⟨Ey i h.out⟩
theorem oQ{X:L2.Cx}{pos:Pos}{es:List Expr}{fs:List Ex}(h:XA X es (eList fs))(hl:fs.length<=1000:=by decide):XF X (.List es pos) (bh fs):=⟨Ha h.out hl⟩
theorem mK{X:L2.Cx}{pos:Pos}(i:Nat){x:Str}{e:Expr}{f:Ex}{p2:Pos}(hN:X.N.Nodup)(he:XF X e f)(hi:X.N[i]? =some x:=by rfl)(hx:L2.Loc X.env.scope x:=by exact Or.inl rfl)(hf:X.fn x=true\/X.env.scope.names.lookup x=some .local:=by exact .inl rfl)(hs:swapsWith e (some (.Name x p2)) pos.line X.env=pure false:=by exact fg (by rfl)):XS X (.Assign [.Name x p2] e pos) (gR i f):=⟨AL i hN he.out hi hx hf hs⟩
theorem qh{X:L2.Cx}{pos:Pos}(i:Nat){x:Str}{e:Expr}{f:Ex}{p2 apos A':Pos}(he:XE X e f)(hN:X.N[i]? =some x:=by rfl)(hv:L2.cf X.env.scope x:=by exact Or.inl rfl)(hd:(x==("__debug__":Str))=false:=by decide)(Jx:(x==("__classdict__":Str))=false:=by decide)(Jz:attributeBase (.Name x p2) "append" X.env (eval (.Name x p2) X.env)=eval (.Name x p2) X.env:=by exact tW)(J9:((backTo A' (starEach [e] X.env)).all (λx=> !x.1)&&(backToKw A' (keywordEach [] X.env)).all (λx=>x.1.isSome)&&decide (([e]:List Expr).length+([]:List Keyword).length+(if([]:List Keyword).isEmpty then 0 else 1)<30))=true:=by exact nV (by rfl) (by decide))(JB:(apos.endLine==A'.line)=true:=by rfl)(hs:starEach [e] X.env=(false,eval e X.env)::starEach [] X.env:=by exact bF (by rfl))(KJ:swapsWith (.Call (.Attribute (.Name x p2) "append" apos) [e] [] A') none pos.line X.env=pure false:=by exact fg (by rfl)):XS X (.Expr (.Call (.Attribute (.Name x p2) "append" apos) [e] [] A') pos) (js i f):=⟨zo i he.out hN hv hd Jx Jz J9 JB hs KJ⟩
theorem GQ{X:L2.Cx}{pos:Pos}(i:Nat){x:Str}{p p2:Pos}(hm:X.mg "len"=none)(hg:L2.Gl X "len":=by rfl)(hN:X.N[i]? =some x:=by rfl)(hv:L2.cf X.env.scope x:=by exact Or.inl rfl)(hd:(x==("__debug__":Str))=false:=by decide)(Jx:(x==("__classdict__":Str))=false:=by decide)(hs:starEach [.Name x p2] X.env=(false,eval (.Name x p2) X.env)::starEach [] X.env:=by exact bF (by rfl)):XE X (.Call (.Name "len" p) [.Name x p2] [] pos) (iW i):=⟨D6 i hg hm hN hv hd Jx hs⟩
theorem dm{X:L2.Cx}{pos:Pos}{x:Str}{k j n:Nat}{m:List D->R D}{e:Expr}{es:List Expr}{fs:List Ex}{p:Pos}(d:Df X.prog X.w X.K X.mg X.base x k n m)(hr:L2.bC j X.A)(ha:XA X (e::es) (eList fs))(hg:L2.Gl X x:=by rfl)(hk:k<=j:=by decide)(hn:fs.length=n:=by rfl)(Kf:(x==("__debug__":Str))=false:=by decide)(he:starEach (e::es) X.env=(false,eval e X.env)::starEach es X.env:=by exact bF (by rfl))(JV:(backTo pos (starEach es X.env)).any (·.1)=false:=by exact jc (by rfl)):XE X (.Call (.Name x p) (e::es) [] pos) (bc m fs):=⟨xY d hr hg ha.out hk hn Kf he JV⟩
theorem gQ{X:L2.Cx}{tg l:Expr}{fa:Ex}(ha:XE X l fa):XI X tg l (cM fa):=⟨BJ ha.out⟩
theorem qX{X:Cx}{pos:Pos}{x:Str}{d:D}(g:iP X.prog X.w X.K X.mg x d)(hg:L2.Gl X x:=by rfl)(hd:(x==("__debug__":Str))=false:=by decide):XE X (.Name x pos) (eC d):=⟨El g hg hd⟩
theorem dJ{X:Cx}{e:Expr}{f:Ex}(h:XE X e f):XX X e (xD f):=⟨wI h.out⟩
theorem aI{X:L2.Cx}{pos:Pos}{a b:Expr}{fa fb:Ex}(ha:XE X a fa)(hb:XE X b fb)(hs:L2.jT b:=by exact xb (by rfl)):XE X (.Subscript a b pos) (e2 af fa fb):=⟨Gb ha.out hb.out hs⟩
theorem tR{X:L2.Cx}{pos:Pos}{elts:List Expr}{k:Nat}{tp:Pos}{a b:Expr}{fa fb:Ex}{p:Pos}(hm:X.mg "zip"=none)(ha:XE X a fa)(hb:XE X b fb)(hg:L2.Gl X "zip":=by rfl)(hs:starEach [a,b] X.env=(false,eval a X.env)::starEach [b] X.env:=by exact bF (by rfl))(Kd:starEach [b] X.env=(false,eval b X.env)::starEach [] X.env:=by exact bF (by rfl)):XI X (.Tuple elts k tp) (.Call (.Name "zip" p) [a,b] [] pos) (jh fa fb):=⟨Hw hg hm ha.out hb.out hs Kd⟩
theorem kQ{X:L2.Cx}{pos:Pos}:XP X pos [] [] [] []:=⟨DJ ⟩
theorem dg{X:L2.Cx}{pos:Pos}{k v:Expr}{z:Str}{f:Ex}{keys:List (Option Expr)}{values:List Expr}{ks:List Ky}{fs:List Ex}(hk:XE X k (eC (.str z)))(hv:XE X v f)(hr:XP X pos keys values ks fs):XP X pos (some k::keys) (v::values) (.inr z::ks) (f::fs):=⟨yJ hk.out hv.out hr.out⟩
theorem km{X:L2.Cx}{pos:Pos}{keys:List (Option Expr)}{values:List Expr}{ks:List Ky}{fs:List Ex}(h:XP X pos keys values ks fs)(Kk:keys.all (·.isSome)=true:=by rfl)(hl:keys.length=values.length:=by rfl)(h0:keys≠[]:=by simp)(Mu:keys.length<=15:=by decide)(hk:ks.length=fs.length:=by rfl)(NV:ks.length<=15:=by decide)(hn:ks.Nodup:=by decide+kernel):XE X (.Dict keys values pos) (cS ks fs):=⟨DU h.out Kk hl h0 Mu hk NV hn⟩
theorem yU{X:L2.Cx}(i:Nat){e:Expr}{f:aL}(h:XT X e f):XT X e (mS i f):=⟨Ag i h.out⟩
theorem HM{X:L2.Cx}{pos:Pos}(i:Nat){x:Str}{e k:Expr}{f g:Ex}{p2 p3:Pos}(he:XE X e f)(hk:XE X k g)(ha:jj X.env (.Name x p2) k p3)(hN:X.N[i]? =some x:=by rfl)(hv:L2.cf X.env.scope x:=by exact Or.inl rfl)(hd:(x==("__debug__":Str))=false:=by decide)(Jx:(x==("__classdict__":Str))=false:=by decide)(hs:swapsWithSole [.Subscript (.Name x p2) k p3] e pos.line X.env=pure false:=by exact qu (by rfl))(hw:swappedStores [.Subscript (.Name x p2) k p3] e X.env=pure none:=by exact qF (by rfl))(h1:(assignEach [.Subscript (.Name x p2) k p3] X.env).map (·.2)=[assign (.Subscript (.Name x p2) k p3) X.env]:=by exact mV (by rfl)):XS X (.Assign [.Subscript (.Name x p2) k p3] e pos) (lM i g f):=⟨zv i he.out hk.out hN hv hd Jx ha hs hw h1⟩
theorem Gm{X:L2.Cx}{pos:Pos}{a b:Expr}{fa fb:Ex}(ha:XE X a fa)(hb:XE X b fb):XF X (.BinOp a .Add b pos) (e2 bj fa fb):=⟨D3 ha.out hb.out⟩
theorem sf{X:L2.Cx}{pos:Pos}{x:Str}{k j n:Nat}{m:List D->R D}{e:Expr}{es:List Expr}{fs:List Ex}{p:Pos}(d:dA X.prog X.w X.K X.mg X.base x k n m)(hr:L2.bC j X.A)(ha:XA X (e::es) (eList fs))(hg:L2.Gl X x:=by rfl)(hk:k<=j:=by decide)(hn:fs.length=n:=by rfl)(Kf:(x==("__debug__":Str))=false:=by decide)(he:starEach (e::es) X.env=(false,eval e X.env)::starEach es X.env:=by exact bF (by rfl))(JV:(backTo pos (starEach es X.env)).any (·.1)=false:=by exact jc (by rfl)):XF X (.Call (.Name x p) (e::es) [] pos) (bc m fs):=⟨vV d hr hg ha.out hk hn Kf he JV⟩
theorem j5{X:L2.Cx}{pos:Pos}{x:Str}{k j n N:Nat}{body:Sm}{m:List D->R D}{e:Expr}{es:List Expr}{fs:List Ex}{p:Pos}(d:dA X.prog X.w X.K X.mg X.base x k n m)(hr:L2.bC j X.A)(ha:XA X (e::es) (eList fs))(hm:m=fH N body:=by rfl)(hg:L2.Gl X x:=by rfl)(hk:k<=j:=by decide)(hn:fs.length=n:=by rfl)(Kf:(x==("__debug__":Str))=false:=by decide)(he:starEach (e::es) X.env=(false,eval e X.env)::starEach es X.env:=by exact bF (by rfl))(JV:(backTo pos (starEach es X.env)).any (·.1)=false:=by exact jc (by rfl)):XE X (.Call (.Name x p) (e::es) [] pos) (bc m fs):=⟨EB d hm hr hg ha.out hk hn Kf he JV⟩
theorem Hu{X:L2.Cx}{pos:Pos}{a:Expr}{fa:Ex}(ha:XF X a fa)(hl:∀ρ d,fa ρ=.ok d->∃ds,d=.lst ds):XS X (.Return (some a) pos) (rK fa):=⟨Hk ha.out hl⟩
theorem pU{X:L2.Cx}{pos:Pos}{is:List Nat}{es:List Expr}{k:Nat}(h:lY X es (c6 is))(hn:(assignEach es X.env).length=is.length)(hc:X.calm=true:=by rfl)(Mm:(assignEach es X.env).findIdx? (·.1)=none:=by exact rC (by rfl)):XG X (.Tuple es k pos) (mP is):=⟨Fs hc h.out hn Mm⟩
theorem kB{X:L2.Cx}{tg l:Expr}{fa:Ex}(ha:XE X l fa):XI X tg l (fe fa):=⟨BZ ha.out⟩
theorem DI{X:L2.Cx}{pos:Pos}(i:Nat){x:Str}{p1 p2:Pos}(hN:X.N.Nodup)(hi:X.N[i]? =some x:=by rfl)(hx:L2.Loc X.env.scope x:=by exact Or.inl rfl)(hf:X.fn x=true\/X.env.scope.names.lookup x=some .local:=by exact .inl rfl)(hs:swapsWith (.Dict [] [] p1) (some (.Name x p2)) pos.line X.env=pure false:=by exact fg (by rfl)):XS X (.Assign [.Name x p2] (.Dict [] [] p1) pos) (g8 i (cS [] [])):=⟨EZ i hN hi hx hf hs⟩
theorem xh{X:L2.Cx}{pos:Pos}(i:Nat){x:Str}{e k:Expr}{f g:Ex}{p2 p3:Pos}(hu:X.A.units+64<cLine)(hk:XE X k g)(he:XE X e f)(hN:X.N[i]? =some x:=by rfl)(hv:L2.cf X.env.scope x:=by exact Or.inl rfl)(hd:(x==("__debug__":Str))=false:=by decide)(Jx:(x==("__classdict__":Str))=false:=by decide)(hs:swapsWith e (some (.Subscript (.Name x p2) k p3)) pos.line X.env=pure false:=by exact fg (by rfl)):XS X (.Assign [.Subscript (.Name x p2) k p3] e pos) (jU i g f):=⟨yx i hu hk.out he.out hN hv hd Jx hs⟩
theorem sS{X:L2.Cx}{pos:Pos}(n:Nat){c:Expr}{body:List Stmt}{t:aL}{f:Sm}(hc:XT X c t)(hb:fA X body f)(hp:PassesOwn (model X.prog X.w) X.A X.env X.xe:=by exact PassesOwn.never):XS X (.While c body [] pos) (jD n t f):=⟨Fw n hp hc.out hb.out⟩
theorem qe{X:L2.Cx}{pos:Pos}{a b:Expr}{fa fb:Ex}(ha:XE X a fa)(hb:XE X b fb):XF X (.BinOp a .Mult b pos) (e2 ic fa fb):=⟨Dw ha.out hb.out⟩
theorem yT{X:L2.Cx}{pos:Pos}(i:Nat){x:Str}{e:Expr}{f:Ex}{p2:Pos}(hN:X.N.Nodup)(he:XD X e f)(hi:X.N[i]? =some x:=by rfl)(hx:L2.Loc X.env.scope x:=by exact Or.inl rfl)(hf:X.fn x=true\/X.env.scope.names.lookup x=some .local:=by exact .inl rfl)(hs:swapsWith e (some (.Name x p2)) pos.line X.env=pure false:=by exact fg (by rfl)):XS X (.Assign [.Name x p2] e pos) (g8 i f):=⟨HL i hN he.out hi hx hf hs⟩
theorem DW{X:L2.Cx}{e:Expr}{f:Ex}(he:XD X e f)(hl:∀ρ d,f ρ=.ok d->∃ks ds,d=.aN ks ds):XE X e f:=⟨zl he.out hl⟩
theorem p9{X:L2.Cx}{e:Expr}{f:Ex}(h:XF X e f):XX X e (xF f):=⟨zG h.out⟩
theorem vm{X:L2.Cx}:mR X [] (dC []):=⟨Gy ⟩
theorem pe{X:L2.Cx}{e:Expr}{es:List Expr}{f:Xt}{fs:List Xt}(h1:XX X e f)(h2:mR X es (dC fs))(hs:starEach (e::es) X.env=(false,eval e X.env)::starEach es X.env:=by exact bF (by rfl)):mR X (e::es) (dC (f::fs)):=⟨HD h1.out h2.out hs⟩
theorem vU{X:L2.Cx}{pos:Pos}{es:List Expr}{fs:List Xt}(h:mR X es (dC fs))(hl:fs.length<=1000:=by decide):XX X (.List es pos) (xL fs):=⟨zU h.out hl⟩
theorem tL{X:L2.Cx}{pos:Pos}:XX X (.Dict [] [] pos) pj:=⟨Dz ⟩
theorem kF{X:L2.Cx}{pos:Pos}(i:Nat){x:Str}{e:Expr}{f:Xt}{p2:Pos}(hN:X.N.Nodup)(he:XX X e f)(hi:X.N[i]? =some x:=by rfl)(hx:L2.Loc X.env.scope x:=by first|exact Or.inl rfl|exact Or.inr rfl)(hf:X.fn x=true\/X.env.scope.names.lookup x=some .local:=by exact .inl rfl)(hs:swapsWith e (some (.Name x p2)) pos.line X.env=pure false:=by exact fg (by rfl)):XS X (.Assign [.Name x p2] e pos) (gx i f):=⟨D4 i hN he.out hi hx hf hs⟩
theorem du{X:L2.Cx}{pos:Pos}(i:Nat){x:Str}(hN:X.N[i]? =some x:=by rfl)(hv:L2.cf X.env.scope x:=by first|exact Or.inl rfl|exact Or.inr (Or.inl rfl))(hd:(x==("__debug__":Str))=false:=by decide)(Jx:(x==("__classdict__":Str))=false:=by decide):XL X i (.Name x pos) pN:=⟨zS i hN hv hd Jx⟩
theorem t6{X:L2.Cx}(i:Nat){rest:List Stmt}{fs:List Sm}(h:fA X rest (aw fs)):fA X rest (aw (jk i::fs)):=⟨Gh i h.out⟩
theorem BH{X:L2.Cx}{pos:Pos}(i:Nat){o e:Expr}{f:Pt}{g:Ex}{apos A':Pos}(ho:XL X i o f)(he:XE X e g)(Jz:attributeBase o "append" X.env (eval o X.env)=eval o X.env)(J9:((backTo A' (starEach [e] X.env)).all (λx=> !x.1)&&(backToKw A' (keywordEach [] X.env)).all (λx=>x.1.isSome)&&decide (([e]:List Expr).length+([]:List Keyword).length+(if([]:List Keyword).isEmpty then 0 else 1)<30))=true:=by exact nV (by rfl) (by decide))(JB:(apos.endLine==A'.line)=true:=by rfl)(hs:starEach [e] X.env=(false,eval e X.env)::starEach [] X.env:=by exact bF (by rfl))(KJ:swapsWith (.Call (.Attribute o "append" apos) [e] [] A') none pos.line X.env=pure false:=by exact fg (by rfl)):XS X (.Expr (.Call (.Attribute o "append" apos) [e] [] A') pos) (i8 i f g):=⟨DX i ho.out he.out Jz J9 JB hs KJ⟩
theorem ze{X:L2.Cx}{pos:Pos}{a:Expr}{f:Xt}(ha:XX X a f):XS X (.Return (some a) pos) (nI f):=⟨AK ha.out⟩
theorem oR{X:L2.Cx}{pos:Pos}(i:Nat){x:Str}{p2:Pos}(hN:X.N[i]? =some x:=by rfl)(hv:L2.cf X.env.scope x:=by first|exact Or.inl rfl|exact Or.inr (Or.inl rfl))(hd:(x==("__debug__":Str))=false:=by decide)(Jx:(x==("__classdict__":Str))=false:=by decide):XS X (.Return (some (.Name x p2)) pos) (jl i):=⟨AD i hN hv hd Jx⟩
theorem jv{X:L2.Cx}{pos:Pos}{x:Str}{k j n:Nat}{m:List D->R T}{e:Expr}{es:List Expr}{fs:List Ex}{p:Pos}(d:eR X.prog X.w X.K X.mg X.base x k n m)(hr:L2.bC j X.A)(ha:XA X (e::es) (eList fs))(hg:L2.Gl X x:=by rfl)(hk:k<=j:=by decide)(hn:fs.length=n:=by rfl)(Kf:(x==("__debug__":Str))=false:=by decide)(he:starEach (e::es) X.env=(false,eval e X.env)::starEach es X.env:=by exact bF (by rfl))(JV:(backTo pos (starEach es X.env)).any (·.1)=false:=by exact jc (by rfl)):XX X (.Call (.Name x p) (e::es) [] pos) (eU m fs):=⟨EK d hr hg ha.out hk hn Kf he JV⟩
theorem o7{X:L2.Cx}{e:Expr}{f:Xt}(h:XX X e f):XE X e (eX f):=⟨EU h.out⟩
theorem kM{X:L2.Cx}(i:Nat){e:Expr}{f:aL}(h:XT X e f):XT X e (d9 i f):=⟨FN i h.out⟩
theorem qI{X:L2.Cx}(i:Nat){e:Expr}{f:Ex}(h:XF X e f):XF X e (dW i f):=⟨EW i h.out⟩
theorem eI{X:L2.Cx}{pos:Pos}{i:Nat}{a b:Expr}{f:Pt}{fb:Ex}(ha:XL X i a f)(hb:XE X b fb)(hs:L2.jT b:=by exact xb (by rfl)):XL X i (.Subscript a b pos) (pX i f fb):=⟨FI ha.out hb.out hs⟩
theorem jx{X:L2.Cx}{pos:Pos}(i:Nat){o e k:Expr}{f:Pt}{g h:Ex}{p3:Pos}(hu:X.A.units+64<cLine)(ho:XL X i o f)(hk:XE X k g)(he:XE X e h)(hs:swapsWith e (some (.Subscript o k p3)) pos.line X.env=pure false:=by exact fg (by rfl)):XS X (.Assign [.Subscript o k p3] e pos) (fo i f g h):=⟨BI i hu ho.out hk.out he.out hs⟩
theorem qr{X:L2.Cx}{pos:Pos}{a:Expr}{fa:Ex}{p:Pos}(hm:X.mg "dict"=none)(ha:XE X a fa)(hg:L2.Gl X "dict":=by rfl)(hs:starEach [a] X.env=(false,eval a X.env)::starEach [] X.env:=by exact bF (by rfl)):XD X (.Call (.Name "dict" p) [a] [] pos) (e1 fF fa):=⟨Cv hg hm ha.out hs⟩
theorem tK{X:L2.Cx}{pos:Pos}:oF X pos [] [] []:=⟨yZ ⟩
theorem eM{X:L2.Cx}{pos:Pos}{k v:Expr}{fk:Ex}{fv:Xt}{keys:List (Option Expr)}{values:List Expr}{Ks:List (Ex×Xt)}(hk:XE X k fk)(hv:XX X v fv)(hr:oF X pos keys values Ks):oF X pos (some k::keys) (v::values) ((fk,fv)::Ks):=⟨A7 hk.out hv.out hr.out⟩
theorem vk{X:L2.Cx}{pos:Pos}{keys:List (Option Expr)}{values:List Expr}{Ks:List (Ex×Xt)}(h:oF X pos keys values Ks)(Kk:keys.all (·.isSome)=true:=by rfl)(hl:keys.length=values.length:=by rfl)(h0:keys≠[]:=by simp)(Mu:keys.length<=15:=by decide)(hk:Ks.length<=15:=by decide):XX X (.Dict keys values pos) (ki Ks):=⟨zd h.out Kk hl h0 Mu hk⟩
theorem FZ{X:L2.Cx}{e:Expr}{f:Ex}(he:XD X e f):XX X e (xM f):=⟨Dl he.out⟩
theorem xI{X:L2.Cx}{pos:Pos}(i:Nat){o e k:Expr}{f:Pt}{g:Ex}{h:Xt}{p3:Pos}(hu:X.A.units+64<cLine)(ho:XL X i o f)(hk:XE X k g)(he:XX X e h)(hs:swapsWith e (some (.Subscript o k p3)) pos.line X.env=pure false:=by exact fg (by rfl)):XS X (.Assign [.Subscript o k p3] e pos) (kA i f g h):=⟨zh i hu ho.out hk.out he.out hs⟩
theorem zK{X:L2.Cx}{pos:Pos}(i:Nat){x:Str}{k e:Expr}{g f:Ex}{p2 apos A':Pos}(ha:XA X [k,e] (eList [g,f]))(hN:X.N[i]? =some x:=by rfl)(hv:L2.cf X.env.scope x:=by exact Or.inl rfl)(hd:(x==("__debug__":Str))=false:=by decide)(Jx:(x==("__classdict__":Str))=false:=by decide)(Jz:attributeBase (.Name x p2) "insert" X.env (eval (.Name x p2) X.env)=eval (.Name x p2) X.env:=by exact tW)(J9:((backTo A' (starEach [k,e] X.env)).all (λx=> !x.1)&&(backToKw A' (keywordEach [] X.env)).all (λx=>x.1.isSome)&&decide (([k,e]:List Expr).length+([]:List Keyword).length+(if([]:List Keyword).isEmpty then 0 else 1)<30))=true:=by exact nV (by rfl) (by decide))(JB:(apos.endLine==A'.line)=true:=by rfl)(hs:starEach [k,e] X.env=(false,eval k X.env)::starEach [e] X.env:=by exact bF (by rfl))(JV:(backTo A' (starEach [e] X.env)).any (·.1)=false:=by exact jc (by rfl))(KJ:swapsWith (.Call (.Attribute (.Name x p2) "insert" apos) [k,e] [] A') none pos.line X.env=pure false:=by exact fg (by rfl)):XS X (.Expr (.Call (.Attribute (.Name x p2) "insert" apos) [k,e] [] A') pos) (mD i g f):=⟨ET i ha.out hN hv hd Jx Jz J9 JB hs JV KJ⟩
theorem lH{X:L2.Cx}{pos:Pos}(i:Nat){o e:Expr}{f:Pt}{g:Ex}{apos A':Pos}(ho:XL X i o f)(he:XE X e g)(Jz:attributeBase o "update" X.env (eval o X.env)=eval o X.env)(J9:((backTo A' (starEach [e] X.env)).all (λx=> !x.1)&&(backToKw A' (keywordEach [] X.env)).all (λx=>x.1.isSome)&&decide (([e]:List Expr).length+([]:List Keyword).length+(if([]:List Keyword).isEmpty then 0 else 1)<30))=true:=by exact nV (by rfl) (by decide))(JB:(apos.endLine==A'.line)=true:=by rfl)(hs:starEach [e] X.env=(false,eval e X.env)::starEach [] X.env:=by exact bF (by rfl))(KJ:swapsWith (.Call (.Attribute o "update" apos) [e] [] A') none pos.line X.env=pure false:=by exact fg (by rfl)):XS X (.Expr (.Call (.Attribute o "update" apos) [e] [] A') pos) (gb i f g):=⟨Dg i ho.out he.out Jz J9 JB hs KJ⟩
theorem vv{X:L2.Cx}{pos:Pos}(i:Nat){o e k:Expr}{f:Pt}{g:Ex}{h:Xt}{p3:Pos}(ho:XL X i o f)(he:XX X e h)(hk:XE X k g)(ha:jj X.env o k p3)(hs:swapsWithSole [.Subscript o k p3] e pos.line X.env=pure false:=by exact qu (by rfl))(hw:swappedStores [.Subscript o k p3] e X.env=pure none:=by exact qF (by rfl))(h1:(assignEach [.Subscript o k p3] X.env).map (·.2)=[assign (.Subscript o k p3) X.env]:=by exact mV (by rfl)):XS X (.Assign [.Subscript o k p3] e pos) (kK i f g h):=⟨Ax i ho.out he.out hk.out ha hs hw h1⟩
theorem Er{X:L2.Cx}{pos:Pos}(i:Nat){x:Str}{p2:Pos}(hN:X.N[i]? =some x:=by rfl)(hv:L2.cf X.env.scope x:=by exact Or.inr (Or.inl rfl))(hd:(x==("__debug__":Str))=false:=by decide)(Jx:(x==("__classdict__":Str))=false:=by decide):XS X (.Return (some (.Name x p2)) pos) (nu i):=⟨Ew i hN hv hd Jx⟩
theorem GF{X:L2.Cx}{pos:Pos}(k:Nat)(i:Nat){z x y:Str}{c j:Nat}{m:D->T->R (T×T)}{e:Expr}{f:Ex}{p p2 p3 A':Pos}(d:ky X.prog X.w X.K X.mg X.base y c m)(hr:L2.bC j X.A)(hX:X.N.Nodup)(he:XE X e f)(hg:L2.Gl X y:=by rfl)(hN:X.N[i]? =some x:=by rfl)(hv:L2.cf X.env.scope x:=by exact Or.inl rfl)(hd:(x==("__debug__":Str))=false:=by decide)(Jx:(x==("__classdict__":Str))=false:=by decide)(hz:X.N[k]? =some z:=by rfl)(hx:L2.Loc X.env.scope z:=by exact Or.inr rfl)(hf:X.fn z=true\/X.env.scope.names.lookup z=some .local:=by exact .inl rfl)(hk:c<=j:=by decide)(Kf:(y==("__debug__":Str))=false:=by decide)(Me:starEach [e,.Name x p2] X.env=(false,eval e X.env)::starEach [.Name x p2] X.env:=by exact bF (by rfl))(Kd:starEach [.Name x p2] X.env=(false,eval (.Name x p2) X.env)::starEach [] X.env:=by exact bF (by rfl))(JV:(backTo A' (starEach [.Name x p2] X.env)).any (·.1)=false:=by exact jc (by rfl))(hs:swapsWith (.Call (.Name y p) [e,.Name x p2] [] A') (some (.Name z p3)) pos.line X.env=pure false:=by exact fg (by rfl)):XS X (.Assign [.Name z p3] (.Call (.Name y p) [e,.Name x p2] [] A') pos) (mw k i m f):=⟨Es k i d hr hg hX he.out hN hv hd Jx hz hx hf hk Kf Me Kd JV hs⟩
theorem Gx{X:L2.Cx}{pos:Pos}{a b:Expr}{fa fb:Ex}{p Ma:Pos}(ha:XE X a fa)(hb:XE X b fb)(hm:X.mg "range"=none)(hg:L2.Gl X "range":=by rfl)(hs:starEach [b] X.env=(false,eval b X.env)::starEach [] X.env:=by exact bF (by rfl))(QT:behindInMarks .In (.Call (.Name "range" p) [b] [] Ma)=false:=by rfl):XT X (.Compare a [.In] [.Call (.Name "range" p) [b] [] Ma] pos) (tV (e2 kG fa fb)):=⟨yH ha.out hb.out hg hm hs QT⟩
theorem AI{X:L2.Cx}{pos:Pos}{a b:Expr}{rest:List Expr}{fa fb:Ex}(ha:XE X a fa)(hb:XE X (.BoolOp .Or (b::rest) pos) fb):XE X (.BoolOp .Or (a::b::rest) pos) (iO fa fb):=⟨zI ha.out hb.out⟩
theorem jC{X:L2.Cx}{pos:Pos}(tn:List Str)(fv:List Str)(JH:List Nat){elt iter target:Expr}{ifs:List Expr}{scope:Scope}{it:bB}{tg:bA}{cs:List aL}{el:Ex}(ok:iJ X scope tn fv JH)(hi:XI X target iter it)(ht:∀cl C s H fp,XG (cy X scope cl C (tn++fv) s H fp) target tg)(Lc:∀cl C s H fp,jV (cy X scope cl C (tn++fv) s H fp) ifs cs)(Ly:∀cl C s H fp,XE (cy X scope cl C (tn++fv) s H fp) elt el)(Lf:∀e s,¬X.xe e s:=by exact λ_ _ h=>h)(hc:X.calm=true:=by rfl)(low:iE tn.length tg:=by exact sG (by decide))(hs:∀x,foldedSetIterable iter X.env x=pure x:=by exact nL (by rfl)):XF X (.ListComp elt [⟨target,iter,ifs,0⟩] scope pos) (bW it tn.length JH tg cs el):=
 ⟨Ga tn fv JH Lf hc ok hi.out low (λcl C s H fp=>(ht cl C s H fp).out) (λcl C s H fp=>(Lc cl C s H fp).out) (λcl C s H fp=>(Ly cl C s H fp).out) hs⟩
theorem jH{X:L2.Cx}{e:Expr}{it:bB}{n:Nat}{fv:List Nat}{tg:bA}{cs:List aL}{el:Ex}(h:XF X e (bW it n fv tg cs el)):XE X e (bW it n fv tg cs el):=⟨pF h.out qp⟩
theorem CA{X:L2.Cx}{pos py KW:Pos}{y:Str}(i:Nat)(tn:List Str)(fv:List Str)(JH:List Nat){elt iter target:Expr}{ifs:List Expr}{scope:Scope}{it:bB}{tg:bA}{cs:List aL}{el:Ex}(ok:iJ X scope tn fv JH)(hi:XI X target iter it)(ht:∀cl C s H fp,XG (cy X scope cl C (tn++fv) s H fp) target tg)(Lc:∀cl C s H fp,jV (cy X scope cl C (tn++fv) s H fp) ifs cs)(Ly:∀cl C s H fp,XE (cy X scope cl C (tn++fv) s H fp) elt el)(hN:X.N.Nodup)(Lf:∀e s,¬X.xe e s:=by exact λ_ _ h=>h)(hc:X.calm=true:=by rfl)(low:iE tn.length tg:=by exact sG (by decide))(hs:∀x,foldedSetIterable iter X.env x=pure x:=by exact nL (by rfl))(hy:X.N[i]? =some y:=by rfl)(hx:L2.Loc X.env.scope y:=by exact Or.inl rfl)(hf:X.fn y=true\/X.env.scope.names.lookup y=some .local:=by exact .inl rfl)(KJ:swapsWith (.ListComp elt [⟨target,iter,ifs,0⟩] scope pos) (some (.Name y py)) KW.line X.env=pure true:=by rfl):XS X (.Assign [.Name y py] (.ListComp elt [⟨target,iter,ifs,0⟩] scope pos) KW) (aK (az i) (bW it tn.length JH tg cs el)):=
 ⟨uN i (sL i tn fv JH Lf hc ok hi.out low (λcl C s H fp=>(ht cl C s H fp).out) (λcl C s H fp=>(Lc cl C s H fp).out) (λcl C s H fp=>(Ly cl C s H fp).out) hs hN hy hx hf KJ) qp⟩
theorem qv{X:L2.Cx}{e:Expr}{f:Ex}(h:XF X e f)(hl:∀ρ d,f ρ=.ok d->∃ds,d=.lst ds):XE X e f:=⟨pF h.out hl⟩
theorem gu{X:L2.Cx}:jV X [] []:=⟨.nil⟩
theorem kT{X:L2.Cx}{e:Expr}{es:List Expr}{c:aL}{cs:List aL}(h:XT X e c)(r:jV X es cs):jV X (e::es) (c::cs):=⟨.cons h.out r.out⟩
theorem vF{X:L2.Cx}{pos py KW:Pos}{y:Str}(i:Nat)(j:Nat)(tn:List Str)(fv:List Str)(JH:List Nat){elt iter target:Expr}{ifs:List Expr}{scope:Scope}{it:bB}{tg:bA}{cs:List aL}{el:Ex}(ok:iJ X scope tn fv JH)(hi:XI X target iter it)(ht:∀cl C s H fp,XG (cy X scope cl C (tn++fv) s H fp) target tg)(Lc:∀cl C s H fp,jV (cy X scope cl C (tn++fv) s H fp) ifs cs)(Ly:∀cl C s H fp,XE (cy X scope cl C (tn++fv) s H fp) elt el)(hN:X.N.Nodup)(Lf:∀e s,¬X.xe e s:=by exact λ_ _ h=>h)(hc:X.calm=true:=by rfl)(low:iE tn.length tg:=by exact sG (by decide))(hs:∀x,foldedSetIterable iter X.env x=pure x:=by exact nL (by rfl))(hy:X.N[i]? =some y:=by rfl)(hx:L2.Loc X.env.scope y:=by exact Or.inl rfl)(hf:X.fn y=true\/X.env.scope.names.lookup y=some .local:=by exact .inl rfl)(KJ:swapsWith (.ListComp elt [⟨target,iter,ifs,0⟩] scope pos) (some (.Name y py)) KW.line X.env=pure true:=by rfl):XS X (.Assign [.Name y py] (.ListComp elt [⟨target,iter,ifs,0⟩] scope pos) KW) (aK (az i) (dW j (bW it tn.length JH tg cs el))):=
 ⟨uN i (Aa j i (sL i tn fv JH Lf hc ok hi.out low (λcl C s H fp=>(ht cl C s H fp).out) (λcl C s H fp=>(Lc cl C s H fp).out) (λcl C s H fp=>(Ly cl C s H fp).out) hs hN hy hx hf KJ)) oI⟩
end PL
namespace PL
namespace gL
open PySem PySem.Spec
open L2 (Hp XK)
section
variable{P:Program}{w:World}{K:PySem.W.Frag}{mg:Str->Option Value}{base:Heap}{f:Addr}{fd:FuncData}
noncomputable def top(i:Nat):Stmt:=PySem.Challenge.pw_underfloor_k45_letters_and_chains.main.body.getD i (.Pass ⟨0,0,0,0⟩)
noncomputable abbrev rR:Stmt:=top 9
theorem B4:L2.bG ["_law_number_here","_law_many","_law_order_here","_law_k"] ["_law_number_here","_law_many"] (L2.aS rR):=cO
theorem Ap{P:Program}{w:World}{K:PySem.W.Frag}{mg:Str->Option Value}{base:Heap}(F:FH P w K mg base "_law_order" rR)(i':mg "range"=none):dA P w K mg base "_law_order" 1 2 fE:=by
 have sc:=B4;refine pD F sc (λ_ Jq A outer s H E hr=>?_);exact((ar (mK 2 sc.nd (oQ aM)) (ar (cG (f:=l9) (ir i' (ab 1)) (aG 3 sc.nd) (by delta l9;exact(ar (zK 2 (aC (aF L2.bP bN (ab 0) (aF b9 cw (ab 3) ai)) (aC (aF b9 cw (ab 3) ai) aM))) (ar (aY (aF b7 b6 (ab 0) (aF b9 cw (ab 3) ai)) (aG 0 sc.nd)) bu)))) (ar (xu 2) bu)))).out
noncomputable abbrev pL:Stmt:=top 8
theorem BE:L2.bG ["_law_script","_law_k","_law_cell"] ["_law_script","_law_k"] (L2.aS pL):=cO
theorem Ff{P:Program}{w:World}{K:PySem.W.Frag}{mg:Str->Option Value}{base:Heap}(F:FH P w K mg base "_law_number" pL)(E':mg "len"=none):Df P w K mg base "_law_number" 1 2 cY:=by
 have sc:=BE;refine dF F sc (λ_ Jq A outer s H E hr=>?_);exact((ar (aY ai (aG 2 sc.nd)) (ar (cg (bg L2.ux vH va (ab 1) (gm gj gw E' f6 (ab 0))) (bS (aY (aI (ab 0) (ab 1)) (aG 2 sc.nd))) cb) (ar (cx (aF wF wm (aF b9 cw (aF b9 cw (aF L2.bP bN (ab 2) (aF eP eQ (aF eP eQ ai ai) ai)) ai) (aF wF wm ai (ab 1))) (aF eP eQ (aF eP eQ ai ai) ai))) bu)))).out
noncomputable abbrev sC:Stmt:=top 10
theorem Fh:L2.bG ["_law_number_here","_law_many","_law_found","_law_k"] ["_law_number_here","_law_many"] (L2.aS sC):=cO
theorem A0{P:Program}{w:World}{K:PySem.W.Frag}{mg:Str->Option Value}{base:Heap}(F:FH P w K mg base "_law_words" sC)(i':mg "range"=none):dA P w K mg base "_law_words" 1 2 iZ:=by
 have sc:=Fh;refine pD F sc (λ_ Jq A outer s H E hr=>?_);exact((ar (mK 2 sc.nd (oQ aM)) (ar (cG (f:=l5) (ir i' (ab 1)) (aG 3 sc.nd) (by delta l5;exact(ar (qh 2 (aF L2.bP bN (ab 0) (aF eP eQ ai ai))) (ar (aY (aF b7 b6 (ab 0) (aF eP eQ ai ai)) (aG 0 sc.nd)) bu)))) (ar (xu 2) bu)))).out
noncomputable abbrev sx:Stmt:=top 11
theorem G0:L2.bG ["_law_number_here","_law_parent","_law_rank","_law_ringing","_law_handler","_law_inner","_law_words_here","_law_handles","_law_handle","_law_saved"] ["_law_number_here","_law_parent"] (L2.aS sx):=cO
theorem BD{P:Program}{w:World}{K:PySem.W.Frag}{mg:Str->Option Value}{base:Heap}(F:FH P w K mg base "_law_task" sx)(Ko:mg "int"=none)(i':mg "range"=none)(Ju:dA P w K mg base "_law_words" 1 2 iZ):eR P w K mg base "_law_task" 2 2 k9:=by
 have sc:=G0;refine mr F sc (λ_ Jq A outer s H E hr=>?_);exact((ar (aY (aF L2.bP bN (ab 0) ai) (aG 2 sc.nd)) (ar (aY (lh (fO hr.units) fJ (aF L2.bP bN (aF b7 b6 (ab 0) ai) ai) ai) (aG 3 sc.nd)) (ar (aY (aI (cj (aC ai (aC ai (aC ai (aC (aF L2.bP bN (aF b7 b6 (ab 0) ai) (aF eP eQ ai ai)) aM))))) (aF L2.bP bN (aF b7 b6 (ab 0) ai) ai)) (aG 4 sc.nd)) (ar (aY (lh (fO hr.units) fJ (aF L2.bP bN (aF b7 b6 (ab 0) ai) ai) ai) (aG 5 sc.nd)) (ar (aY (aF b7 b6 (aF b7 b6 (ab 0) ai) (aF eP eQ ai ai)) (aG 0 sc.nd)) (ar (aY (j5 Ju hr (aC (ab 0) (aC ai aM))) (aG 6 sc.nd)) (ar (aY (aF b7 b6 (ab 0) (aF eP eQ (aF eP eQ ai ai) ai)) (aG 0 sc.nd)) (ar (DI 7 sc.nd) (ar (cG (f:=j4) (lr i' ai ai) (aG 8 sc.nd) (by delta j4;exact(ar (cg (bg (fO hr.units) fJ gn (aF L2.bP bN (ab 0) ai) ai) (bS (xh 7 hr.units (ab 8) (aF b9 cw ai (aF L2.bP bN (aF b7 b6 (ab 0) ai) ai)))) cb) (ar (aY (aF b7 b6 (ab 0) ai) (aG 0 sc.nd)) bu)))) (ar (aY (aI (cj (aC jR (aC (gI (aC (fW (ab 6) (fP ai) (fP ai)) (aC (aI (ab 6) ai) aM))) aM))) (lF L2.EJ AA Ko wZ (ab 5))) (aG 9 sc.nd)) (mq 7 (ar (ze (vk (eM aP (dJ (ab 1)) (eM aP (dJ (ab 2)) (eM aP (dJ (fW (ab 6) gK (fP ai))) (eM aP (dJ (aI (ab 6) ai)) (eM aP (dJ (ab 7)) (eM aP (dJ jR) (eM aP (dJ (ab 4)) (eM aP (dJ (ab 3)) (eM aP (dJ (ab 9)) (eM aP (dJ ai) tK)))))))))))) bu))))))))))))).out
noncomputable abbrev qa:Stmt:=top 12
theorem E3:L2.bG ["_law_script","-0","_law_tasks_here","_law_task_here","_law_number_here","_law_elders"] ["_law_script"] (L2.aS qa):=cO
theorem Am{P:Program}{w:World}{K:PySem.W.Frag}{mg:Str->Option Value}{base:Heap}(F:FH P w K mg base "_law_tasks" qa)(E':mg "len"=none)(Jo:mg "list"=none)(j':Df P w K mg base "_law_number" 1 2 cY)(D':dA P w K mg base "_law_order" 1 2 fE)(J8:eR P w K mg base "_law_task" 2 2 k9):eR P w K mg base "_law_tasks" 3 1 lG:=by
 have sc:=E3;refine mr F sc (λ_ Jq A outer s H E hr=>?_);exact((ar (kF 2 sc.nd tL) (ar (cG (f:=jM) (gQ (j5 D' hr (aC (dm j' hr (aC (ab 0) (aC ai aM))) (aC ai aM)))) (aG 3 sc.nd) (by delta jM;exact(ar (aY (dm j' hr (aC (ab 0) (aC (ab 3) aM))) (aG 4 sc.nd)) (ar (cg (bg L2.vd xQ xw (aF L2.bP bN (ab 4) ai) ai) (ar (aY (qv (qI 2 (Gm (cj (aC ai aM)) (lF (Gg rfl) Co Jo iX (ab 2)))) oI) (aG 5 sc.nd)) (ar (xI 2 hr.units (du 2) (ab 3) (jv J8 hr (aC (aF b7 b6 (ab 4) ai) (aC (aI (ab 5) (aF L2.bP bN (aF L2.bP bN (aF b7 b6 (ab 4) ai) ai) (gm gj gw E' f6 (ab 5)))) aM)))) bu)) cb) bu)))) (ar (oR 2) bu)))).out
noncomputable abbrev nB:Stmt:=top 13
theorem zz:L2.bG ["_law_tasks_here","_law_task_here","_law_order_here"] ["_law_tasks_here","_law_task_here","_law_order_here"] (L2.aS nB):=cO
theorem FV{P:Program}{w:World}{K:PySem.W.Frag}{mg:Str->Option Value}{base:Heap}(F:FH P w K mg base "_law_kids" nB):dA P w K mg base "_law_kids" 1 3 iF:=by
 have sc:=zz;refine pD F sc (λ_ Jq A outer s H E hr=>?_);exact((bS (Hu (jC ["_law_one_here"] ["_law_tasks_here","_law_task_here"] [0,1] (gh (L2.aS nB) ["_law_tasks_here","_law_task_here","_law_order_here"] (by rfl) (by rfl) (by decide+kernel)) (gQ (ab 2)) (λcl C s H fp=>by exact(aG 0 (show List.Nodup (["_law_one_here","_law_tasks_here","_law_task_here"]:List Str)from by decide+kernel))) (λcl C s H fp=>by exact(kT (dj (cT (bg (kJ hr.units) jF kn (ab 0) (ab 1)) (gA (bg (fO hr.units) fJ gn (aI (aI (ab 1) (ab 0)) aP) (ab 2))))) gu)) (λcl C s H fp=>by exact(ab 0))) qp))).out
noncomputable abbrev o8:Stmt:=top 14
theorem Ht:L2.bG ["_law_script","-0","_law_tasks_here","_law_order_here","_law_number_here","_law_task_here","_law_own","_law_done"] ["_law_script"] (L2.aS o8):=cO
theorem EG{P:Program}{w:World}{K:PySem.W.Frag}{mg:Str->Option Value}{base:Heap}(F:FH P w K mg base "_law_family" o8)(J2:eR P w K mg base "_law_tasks" 3 1 lG)(j':Df P w K mg base "_law_number" 1 2 cY)(D':dA P w K mg base "_law_order" 1 2 fE)(Jt:dA P w K mg base "_law_kids" 1 3 iF):eR P w K mg base "_law_family" 4 1 lR:=by
 have sc:=Ht;refine mr F sc (λ_ Jq A outer s H E hr=>?_)
 exact((ar (kF 2 sc.nd (jv J2 hr (aC (ab 0) aM))) (ar (aY (j5 D' hr (aC (dm j' hr (aC (ab 0) (aC ai aM))) (aC ai aM))) (aG 3 sc.nd)) (ar (aY (dm j' hr (aC (ab 0) (aC ai aM))) (aG 4 sc.nd)) (ar (cG (f:=kz) (gQ (ab 3)) (aG 5 sc.nd) (by delta kz;exact(bS (cg (kM 2 (bg (kJ hr.units) jF kn (ab 5) (ab 2))) (ar (aY (qv (qI 2 (sf Jt hr (aC (ab 2) (aC (ab 5) (aC (ab 3) aM))))) oI) (aG 6 sc.nd)) (ar (cg (kM 2 (dj (cT (bg (fO hr.units) fJ gn (ab 6) (cj aM)) (cT (bg (cE hr.units) cB cD (aI (aI (ab 2) (ab 5)) aP) ai) (gA (bg (fO hr.units) fJ gn (aF L2.bP bN (ab 4) ai) ai)))))) (ar (lH 2 (eI (du 2) (ab 5)) (km (dg aP (gI (aC aP (aC (aF L2.bP bN (aF b7 b6 (ab 4) ai) (aF eP eQ ai ai)) aM))) (dg aP BF kQ))) kO) (ar (lH 2 (eI (du 2) (ab 5)) (km (dg aP d5 (dg aP jR kQ))) kO) bu)) cb) (ar (aY (aF b7 b6 (aF b7 b6 (ab 4) ai) (aF eP eQ ai ai)) (aG 4 sc.nd)) bu))) cb)))) (ar (cG (f:=ko) (gQ (ab 3)) (aG 5 sc.nd) (by delta ko;exact(bS (cg (kM 2 (bg (kJ hr.units) jF kn (ab 5) (ab 2))) (ar (aY (qv (qI 2 (sf Jt hr (aC (ab 2) (aC (ab 5) (aC (ab 3) aM))))) oI) (aG 6 sc.nd)) (ar (vF 7 2 ["_law_one_here"] ["_law_tasks_here"] [2] (gh (L2.aS o8) ["_law_script","-0","_law_tasks_here","_law_order_here","_law_number_here","_law_task_here","_law_own","_law_done"] (by rfl) (by rfl) (by decide+kernel)) (gQ (ab 6)) (λcl C s H fp=>by exact(aG 0 (show List.Nodup (["_law_one_here","_law_tasks_here"]:List Str)from by decide+kernel))) (λcl C s H fp=>by exact(kT (bg (fO hr.units) fJ gn (aI (AI (aI (aI (ab 1) (ab 0)) aP) (rT (gI (aC aP aM)))) ai) aP) gu)) (λcl C s H fp=>by exact(ab 0)) sc.nd) (ar (cg (kM 2 (dj (cT (bg (cE hr.units) cB cD (ab 6) (cj aM)) (cT (bg (fO hr.units) fJ gn (ab 7) (cj aM)) (cT (pR (aI (aI (ab 2) (ab 5)) aP)) (gA (bg (fO hr.units) fJ gn (aF L2.bP bN (ab 4) ai) ai))))))) (bS (jx 2 hr.units (eI (du 2) (ab 5)) aP (gI (aC aP aM)))) cb) (ar (aY (aF b7 b6 (ab 4) ai) (aG 4 sc.nd)) bu)))) cb)))) (ar (oR 2) bu))))))).out
noncomputable abbrev nr:Stmt:=top 15
theorem Bu:L2.bG ["_law_script","_law_tasks_here","_law_boxes_here","_law_box","_law_number_here","_law_room","_law_many","_law_task_here","_law_some","_law_word","_law_waits"] ["_law_script","_law_tasks_here"] (L2.aS nr):=cO
theorem GR{P:Program}{w:World}{K:PySem.W.Frag}{mg:Str->Option Value}{base:Heap}(F:FH P w K mg base "_law_boxes" nr)(E':mg "len"=none)(i':mg "range"=none)(j':Df P w K mg base "_law_number" 1 2 cY)(Ju:dA P w K mg base "_law_words" 1 2 iZ)(D':dA P w K mg base "_law_order" 1 2 fE):ky P w K mg base "_law_boxes" 2 l3:=by
 have sc:=Bu;refine DB F sc (λ_ Jq A outer s H E hr=>?_)
 exact((ar (kF 2 sc.nd tL) (ar (cG (f:=kq) (lr i' ai ai) (aG 3 sc.nd) (by delta kq;exact(ar (aY (dm j' hr (aC (ab 0) (aC (aF b9 cw ai (ab 3)) aM))) (aG 4 sc.nd)) (ar (cg (bg L2.vd xQ xw (aF L2.bP bN (ab 4) ai) ai) (ar (aY (aF b9 cw ai (aF L2.bP bN (aF b7 b6 (ab 4) ai) ai)) (aG 5 sc.nd)) (ar (aY (aI (cj (aC ai (aC (ab 5) (aC (aF L2.bP bN (aF b7 b6 (ab 4) ai) (aF b9 cw (ab 5) ai)) aM)))) (aF L2.bP bN (aF b7 b6 (ab 4) ai) ai)) (aG 6 sc.nd)) (ar (xI 2 hr.units (du 2) (ab 3) (vU (pe (dJ (ab 5)) (pe (p9 (sf Ju hr (aC (aF b7 b6 (aF b7 b6 (ab 4) ai) ai) (aC (ab 6) aM)))) (pe (vU vm) (pe (dJ (aF L2.bP bN (aF b7 b6 (ab 4) ai) ai)) vm)))))) bu))) cb) bu)))) (ar (aY (dm j' hr (aC (ab 0) (aC ai aM))) (aG 4 sc.nd)) (ar (cG (f:=jL) (gQ (j5 D' hr (aC (dm j' hr (aC (ab 0) (aC ai aM))) (aC ai aM)))) (aG 7 sc.nd) (by delta jL;exact(ar (vF 8 2 ["_law_box"] ["_law_boxes_here"] [2] (gh (L2.aS nr) ["_law_script","_law_tasks_here","_law_boxes_here","_law_box","_law_number_here","_law_room","_law_many","_law_task_here","_law_some","_law_word","_law_waits"] (by rfl) (by rfl) (by decide+kernel)) (kB (ab 2)) (λcl C s H fp=>by exact(aG 0 (show List.Nodup (["_law_box","_law_boxes_here"]:List Str)from by decide+kernel))) (λcl C s H fp=>by exact(kT (bg (kJ hr.units) jF kn (gm gj gw E' f6 (aI (aI (ab 1) (ab 0)) ai)) (gI (aC ai (aC (aI (aI (ab 1) (ab 0)) ai) aM)))) gu)) (λcl C s H fp=>by exact(ab 0)) sc.nd) (ar (cg (kM 1 (dj (cT (bg (kJ hr.units) jF kn (ab 7) (ab 1)) (cT (pR (aI (aI (ab 1) (ab 7)) aP)) (cT (bg (cE hr.units) cB cD (ab 8) (cj aM)) (gA (bg (fO hr.units) fJ gn (aF L2.bP bN (ab 4) ai) ai))))))) (ar (aY (aI (ab 8) (aF L2.bP bN (aF L2.bP bN (aF b7 b6 (ab 4) ai) ai) (gm gj gw E' f6 (ab 8)))) (aG 3 sc.nd)) (ar (aY ai (aG 9 sc.nd)) (ar (aY (gI (aC aP (aC (ab 3) aM))) (aG 10 sc.nd)) (ar (cg (kM 2 (bg (cE hr.units) cB cD (aI (aI (ab 2) (ab 3)) ai) (cj aM))) (ar (aY (aF L2.bP bN (aF b7 b6 (ab 4) ai) (aF eP eQ ai ai)) (aG 9 sc.nd)) (ar (aY (gI (aC aP (aC (ab 3) aM))) (aG 10 sc.nd)) bu)) cb) (ar (lH 1 (eI (du 1) (ab 7)) (km (dg aP (ab 10) (dg aP (ab 9) kQ))) kO) (ar (BH 2 (eI (eI (du 2) (ab 3)) ai) (ab 7) kO) bu)))))) cb) (ar (aY (aF b7 b6 (aF b7 b6 (ab 4) ai) (aF eP eQ ai ai)) (aG 4 sc.nd)) bu))))) (ar (Er 2) bu)))))).out
noncomputable abbrev pS:Stmt:=top 16
theorem Eb:L2.bG ["_law_tasks_here","_law_boxes_here","_law_order_here","_law_slots","_law_task_here","_law_row","_law_one_here","_law_other","_law_box"] ["_law_tasks_here","_law_boxes_here","_law_order_here"] (L2.aS pS):=cO
theorem E6{P:Program}{w:World}{K:PySem.W.Frag}{mg:Str->Option Value}{base:Heap}(F:FH P w K mg base "_law_laid_slots" pS)(J3:mg "dict"=none)(Jo:mg "list"=none)(KR:mg "zip"=none)(Jt:dA P w K mg base "_law_kids" 1 3 iF):eR P w K mg base "_law_laid_slots" 2 3 jB:=by
 have sc:=Eb;refine mr F sc (λ_ Jq A outer s H E hr=>?_);exact((ar (kF 3 sc.nd (p9 (qe (cj (aC jR aM)) ai))) (ar (cG (f:=kP) (kB (ab 0)) (aG 4 sc.nd) (by delta kP;exact(ar (vv 3 (du 3) (FZ (qr J3 (aI (ab 0) (ab 4)))) (ab 4) (by delta jj;intro _;rfl)) (ar (jx 3 hr.units (eI (du 3) (ab 4)) aP (lF L2.pb oh Jo iX (aI (aI (ab 0) (ab 4)) aP))) (ar (jx 3 hr.units (eI (du 3) (ab 4)) aP (DW (qr J3 (aI (aI (ab 0) (ab 4)) aP)) ya)) (ar (lH 3 (eI (du 3) (ab 4)) (km (dg aP ai (dg aP ai (dg aP ai kQ)))) kO) (ar (cg (lI (aI (aI (ab 0) (ab 4)) aP)) (bS (jx 3 hr.units (eI (du 3) (ab 4)) aP (gI (aC (lF L2.pb oh Jo iX (aI (aI (aI (ab 0) (ab 4)) aP) ai)) (aC (aI (aI (aI (ab 0) (ab 4)) aP) ai) aM))))) cb) bu))))))) (ar (cG (f:=kR) (kB (ab 0)) (aG 4 sc.nd) (by delta kR;exact(ar (aY (aF b9 cw (j5 Jt hr (aC (ab 0) (aC (ab 4) (aC (ab 2) aM)))) (cj (aC ai aM))) (aG 5 sc.nd)) (ar (jx 3 hr.units (eI (du 3) (ab 4)) aP (aI (ab 5) ai)) (ar (cG (f:=mX) (tR KR (fW (ab 5) gK (fP (nE L2.oH nc ai))) (fW (ab 5) (fP ai) gK)) (u0 (dG 6 (aG 6 sc.nd) (dG 7 (aG 7 sc.nd) kZ)) kD) (by delta mX;exact(bS (jx 3 hr.units (eI (du 3) (ab 6)) aP (ab 7))))) bu))))) (ar (cG (f:=jE) (kB (ab 1)) (aG 8 sc.nd) (by delta jE;exact(ar (aY (aI (aI (ab 1) (ab 8)) ai) (aG 5 sc.nd)) (ar (cG (f:=m9) (tR KR (fW (ab 5) gK (fP (nE L2.oH nc ai))) (fW (ab 5) (fP ai) gK)) (u0 (dG 6 (aG 6 sc.nd) (dG 7 (aG 7 sc.nd) kZ)) kD) (by delta m9;exact(bS (jx 3 hr.units (eI (du 3) (ab 6)) aP (ab 7))))) bu)))) (ar (oR 3) bu)))))).out
noncomputable abbrev pZ:Stmt:=top 17
theorem xZ:L2.bG ["_law_boxes_here","-0","_law_laid","_law_box","_law_room","_law_letters","_law_row","_law_start","_law_places","_law_k","_law_ends"] ["_law_boxes_here"] (L2.aS pZ):=cO
theorem zA{P:Program}{w:World}{K:PySem.W.Frag}{mg:Str->Option Value}{base:Heap}(F:FH P w K mg base "_law_laid_boxes" pZ)(E':mg "len"=none)(i':mg "range"=none):eR P w K mg base "_law_laid_boxes" 1 1 iV:=by
 have sc:=xZ;refine mr F sc (λ_ Jq A outer s H E hr=>?_);exact((ar (kF 2 sc.nd (p9 (qe (cj (aC jR aM)) ai))) (ar (cG (f:=j7) (kB (ab 0)) (aG 3 sc.nd) (by delta j7;exact(ar (aY (aI (ab 0) (ab 3)) (pU (dG 4 (aG 4 sc.nd) (dG 5 (aG 5 sc.nd) (dG 6 (aG 6 sc.nd) (dG 7 (aG 7 sc.nd) kZ)))) kD)) (ar (mK 8 sc.nd (qe (cj (aC ai aM)) ai)) (ar (cG (f:=kr) (ir i' (gm gj gw E' f6 (ab 5))) (aG 9 sc.nd) (by delta kr;exact(bS (HM 8 (aI (ab 5) (ab 9)) (aF L2.bP bN (aF b9 cw (ab 7) (ab 9)) ai) (by delta jj;intro _;rfl))))) (ar (aY (aF b9 cw (fW (aF b9 cw (cj (aC ai aM)) (ab 6)) (fP (nE L2.oH nc ai)) gK) (fW (aF b9 cw (ab 6) (cj (aC ai aM))) gK (fP ai))) (aG 10 sc.nd)) (mq 8 (ar (vv 2 (du 2) (vk (eM aP (dJ (ab 4)) (eM aP (dJ (ab 8)) (eM aP (dJ (ab 7)) (eM aP (dJ (gm gj gw E' f6 (ab 5))) tK))))) (ab 3) (by delta jj;intro _;rfl)) (ar (lH 2 (eI (du 2) (ab 3)) (km (dg aP (aI (ab 10) ai) (dg aP (aI (ab 10) ai) kQ))) kO) bu))))))))) (ar (oR 2) bu)))).out
noncomputable abbrev oa:Stmt:=top 6
theorem CQ:L2.bG ["boxes","room","free","new"] ["boxes","room"] (L2.aS oa):=cO
theorem EF{P:Program}{w:World}{K:PySem.W.Frag}{mg:Str->Option Value}{base:Heap}(F:FH P w K mg base "box_made" oa)(E':mg "len"=none)(Jo:mg "list"=none)(i':mg "range"=none)(gl_MOST_BOX:iP P w K mg "MOST_BOX" o6)(gl_PLACES:iP P w K mg "PLACES" lW):Df P w K mg base "box_made" 1 2 mj:=by
 have sc:=CQ;refine dF F sc (λ_ Jq A outer s H E hr=>?_);exact((ar (CA 2 ["number"] ["boxes"] [0] (gh (L2.aS oa) ["boxes","room","free","new"] (by rfl) (by rfl) (by decide+kernel)) (lr i' ai (aF b9 cw (qX gl_MOST_BOX) ai)) (λcl C s H fp=>by exact(aG 0 (show List.Nodup (["number","boxes"]:List Str)from by decide+kernel))) (λcl C s H fp=>by exact(kT (pR (aI (ab 1) (ab 0))) gu)) (λcl C s H fp=>by exact(ab 0)) sc.nd) (ar (cg (bg (fO hr.units) fJ gn (gm gj gw E' f6 (ab 2)) ai) (bS (cx (gI (aC (lF L2.pb oh Jo iX (ab 0)) (aC jR aM))))) cb) (ar (aY (km (dg aP (ab 1) (dg aP (aF tN Dk (cj (aC ai aM)) (qX gl_PLACES)) (dg aP ai (dg aP ai (dg aP ai (dg aP ai kQ))))))) (aG 3 sc.nd)) (ar (cx (gI (aC (aF b9 cw (aF b9 cw (fW (ab 0) gK (fP (aI (ab 2) ai))) (cj (aC (ab 3) aM))) (fW (ab 0) (fP (aF b9 cw (aI (ab 2) ai) ai)) gK)) (aC (aI (ab 2) ai) aM)))) bu))))).out
noncomputable abbrev se:Stmt:=top 18
theorem CO:L2.bG ["_law_slots","_law_one_here","_law_key","_law_row"] ["_law_slots","_law_one_here","_law_key"] (L2.aS se):=cO
theorem zE{P:Program}{w:World}{K:PySem.W.Frag}{mg:Str->Option Value}{base:Heap}(F:FH P w K mg base "_law_chain" se)(E':mg "len"=none)(i':mg "range"=none):Df P w K mg base "_law_chain" 1 3 ly:=by
 have sc:=CO;refine dF F sc (λ_ Jq A outer s H E hr=>?_);exact((ar (mK 3 sc.nd (oQ aM)) (ar (sS 18 (f:=ma) (dj (cT (bg (cE hr.units) cB cD (ab 1) ai) (cT (bg L2.ux vH va (GQ 3 E') ai) (cT (Gx (ab 1) ai i') (gA (lI (aI (ab 0) (ab 1)))))))) (by delta ma;exact(ar (qh 3 (ab 1)) (ar (aY (aI (aI (ab 0) (ab 1)) (ab 2)) (aG 1 sc.nd)) bu)))) (mq 3 (ar (cx (ab 3)) bu))))).out
noncomputable abbrev ku:Stmt:=top 20
theorem Ai:L2.bG ["_law_slots","_law_told","_law_boxes_here","_law_waiting","_law_box","_law_room","_law_letters","_law_row","_law_start","_law_one_here","_law_held"] ["_law_slots","_law_told","_law_boxes_here"] (L2.aS ku):=cO
theorem AX{P:Program}{w:World}{K:PySem.W.Frag}{mg:Str->Option Value}{base:Heap}(F:FH P w K mg base "_law_told_boxes" ku)(y':mg "isinstance"=none)(E':mg "len"=none)(Jo:mg "list"=none)(i':mg "range"=none)(J5:Df P w K mg base "_law_chain" 1 3 ly):Df P w K mg base "_law_told_boxes" 2 3 lO:=by
 have sc:=Ai;refine dF F sc (λ_ Jq A outer s H E hr=>?_)
 exact((ar (cg (dj (gY (i3 (i4 (kW .list (ab 1) y' Jo iX))) (jt (bg (cE hr.units) cB cD (gm gj gw E' f6 (ab 1)) ai)))) (bS (cx d5)) cb) (ar (aY (cj aM) (aG 3 sc.nd)) (ar (cG (f:=kN) (ir i' ai) (aG 4 sc.nd) (by delta kN;exact(ar (cg (bg (cE hr.units) cB cD (DP (aI (ab 1) (ab 4))) (lh (k0 hr.units) lS (ab 4) (ab 2))) (bS (cx d5)) cb) (ar (cg (bg (kJ hr.units) jF kn (ab 4) (ab 2)) (ar (aY (aI (ab 2) (ab 4)) (pU (dG 5 (aG 5 sc.nd) (dG 6 (aG 6 sc.nd) (dG 7 (aG 7 sc.nd) (dG 8 (aG 8 sc.nd) kZ)))) kD)) (ar (aY (aI (ab 1) (ab 4)) (aG 9 sc.nd)) (ar (aY (jH (jC ["_law_k"] ["_law_one_here"] [9] (gh (L2.aS ku) ["_law_slots","_law_told","_law_boxes_here","_law_waiting","_law_box","_law_room","_law_letters","_law_row","_law_start","_law_one_here","_law_held"] (by rfl) (by rfl) (by decide+kernel)) (ir i' (aI (ab 9) aP)) (λcl C s H fp=>by exact(aG 0 (show List.Nodup (["_law_k","_law_one_here"]:List Str)from by decide+kernel))) (λcl C s H fp=>by exact gu) (λcl C s H fp=>by exact(aF L2.bP bN (aF b9 cw (aI (ab 1) aP) (ab 0)) ai)))) (aG 10 sc.nd)) (ar (cg (dj (gY (bg (cE hr.units) cB cD (aI (ab 9) aP) (ab 5)) (jt (bg (cE hr.units) cB cD (aI (ab 9) aP) (gm gj gw E' f6 (ab 6)))))) (bS (cx d5)) cb) (ar (cg (bg (cE hr.units) cB cD (jH (jC ["_law_place"] ["_law_one_here"] [9] (gh (L2.aS ku) ["_law_slots","_law_told","_law_boxes_here","_law_waiting","_law_box","_law_room","_law_letters","_law_row","_law_start","_law_one_here","_law_held"] (by rfl) (by rfl) (by decide+kernel)) (gQ (ab 10)) (λcl C s H fp=>by exact(aG 0 (show List.Nodup (["_law_place","_law_one_here"]:List Str)from by decide+kernel))) (λcl C s H fp=>by exact gu) (λcl C s H fp=>by exact(aI (aI (ab 1) aP) (ab 0))))) (ab 6)) (bS (cx d5)) cb) (ar (cg (bg (cE hr.units) cB cD (jH (jC ["_law_place"] ["_law_held","_law_one_here"] [10,9] (gh (L2.aS ku) ["_law_slots","_law_told","_law_boxes_here","_law_waiting","_law_box","_law_room","_law_letters","_law_row","_law_start","_law_one_here","_law_held"] (by rfl) (by rfl) (by decide+kernel)) (ir i' ai) (λcl C s H fp=>by exact(aG 0 (show List.Nodup (["_law_place","_law_held","_law_one_here"]:List Str)from by decide+kernel))) (λcl C s H fp=>by exact(kT (dj (cT (bg (k0 hr.units) lS oM (ab 0) (ab 1)) (gA (bg (cE hr.units) cB cD (aI (aI (ab 2) aP) (ab 0)) ai)))) gu)) (λcl C s H fp=>by exact(ab 0)))) (cj aM)) (bS (cx d5)) cb) (ar (cg (dj (gY (bg (cE hr.units) cB cD (dm J5 hr (aC (ab 0) (aC (aI (ab 9) aP) (aC aP aM)))) (ab 7)) (jt (bg (cE hr.units) cB cD (aI (ab 9) aP) (aI (aF b9 cw (cj (aC ai aM)) (ab 7)) (nE L2.oH nc ai)))))) (bS (cx d5)) cb) (ar (aY (aF b9 cw (ab 3) (ab 7)) (aG 3 sc.nd)) bu)))))))) cb) bu)))) (ar (cG (f:=mI) (lr i' ai ai) (aG 9 sc.nd) (by delta mI;exact(bS (cg (dj (cT (lI (aI (ab 0) (ab 9))) (cT (bg (k0 hr.units) lS oM (ab 9) (ab 3)) (gA (bg (cE hr.units) cB cD (aI (aI (ab 0) (ab 9)) aP) ai))))) (bS (cx d5)) cb)))) (ar (cx d5) bu)))))).out
noncomputable abbrev nY:Stmt:=top 3
theorem yM:L2.bG ["box"] ["box"] (L2.aS nY):=cO
theorem zk{P:Program}{w:World}{K:PySem.W.Frag}{mg:Str->Option Value}{base:Heap}(F:FH P w K mg base "letter_places" nY)(i':mg "range"=none)(gl_PLACES:iP P w K mg "PLACES" lW):Df P w K mg base "letter_places" 1 1 lE:=by
 have sc:=yM;refine dF F sc (λ_ Jq A outer s H E hr=>?_);exact((bS (cx (jH (jC ["step"] ["box"] [0] (gh (L2.aS nY) ["box"] (by rfl) (by rfl) (by decide+kernel)) (ir i' (aI (ab 0) aP)) (λcl C s H fp=>by exact(aG 0 (show List.Nodup (["step","box"]:List Str)from by decide+kernel))) (λcl C s H fp=>by exact gu) (λcl C s H fp=>by exact(aF L2.bP bN (aF b9 cw (aI (ab 1) aP) (ab 0)) (qX gl_PLACES)))))))).out
noncomputable abbrev nP:Stmt:=top 4
theorem zx:L2.bG ["box"] ["box"] (L2.aS nP):=cO
theorem HG{P:Program}{w:World}{K:PySem.W.Frag}{mg:Str->Option Value}{base:Heap}(F:FH P w K mg base "letters_of" nP)(Jy:Df P w K mg base "letter_places" 1 1 lE):Df P w K mg base "letters_of" 2 1 l6:=by
 have sc:=zx;refine dF F sc (λ_ Jq A outer s H E hr=>?_);exact((bS (cx (jH (jC ["place"] ["box"] [0] (gh (L2.aS nP) ["box"] (by rfl) (by rfl) (by decide+kernel)) (gQ (dm Jy hr (aC (ab 0) aM))) (λcl C s H fp=>by exact(aG 0 (show List.Nodup (["place","box"]:List Str)from by decide+kernel))) (λcl C s H fp=>by exact gu) (λcl C s H fp=>by exact(aI (aI (ab 1) aP) (ab 0)))))))).out
noncomputable abbrev qy:Stmt:=top 5
theorem Gn:L2.bG ["slots","box","chain","task"] ["slots","box"] (L2.aS qy):=cO
theorem DR{P:Program}{w:World}{K:PySem.W.Frag}{mg:Str->Option Value}{base:Heap}(F:FH P w K mg base "chain_of" qy):Df P w K mg base "chain_of" 1 2 lx:=by
 have sc:=Gn;refine dF F sc (λ_ Jq A outer s H E hr=>?_);exact((ar (mK 2 sc.nd (oQ aM)) (ar (aY (aI (ab 1) aP) (aG 3 sc.nd)) (ar (sS 18 (f:=lK) (yU 2 (dj (cT (bg (cE hr.units) cB cD (ab 3) ai) (cT (lI (aI (ab 0) (ab 3))) (gA (bg (k0 hr.units) lS oM (ab 3) (ab 2))))))) (by delta lK;exact(ar (qh 2 (ab 3)) (ar (aY (aI (aI (ab 0) (ab 3)) aP) (aG 3 sc.nd)) bu)))) (mq 2 (ar (cx (ab 2)) bu)))))).out
noncomputable abbrev qg:Stmt:=top 22
theorem yN:L2.bG ["_law_slots","_law_box","_law_row","_law_room","_law_letters","_law_due","_law_start","_law_k","_law_told","_law_waiting"] ["_law_slots","_law_box","_law_row"] (L2.aS qg):=cO
theorem Ae{P:Program}{w:World}{K:PySem.W.Frag}{mg:Str->Option Value}{base:Heap}(F:FH P w K mg base "_law_one" qg)(y':mg "isinstance"=none)(Jo:mg "list"=none)(i':mg "range"=none)(JY:Df P w K mg base "letters_of" 2 1 l6)(J':Df P w K mg base "chain_of" 1 2 lx):Df P w K mg base "_law_one" 3 3 lC:=by
 have sc:=yN;refine dF F sc (λ_ Jq A outer s H E hr=>?_);exact((ar (aY (ab 2) (pU (dG 3 (aG 3 sc.nd) (dG 4 (aG 4 sc.nd) (dG 5 (aG 5 sc.nd) (dG 6 (aG 6 sc.nd) kZ)))) kD)) (ar (cG (f:=mh) (ir i' ai) (aG 7 sc.nd) (by delta mh;exact(ar (aY (dm JY hr (aC (ab 1) aM)) (aG 8 sc.nd)) (ar (aY (dm J' hr (aC (ab 0) (aC (ab 1) aM))) (aG 9 sc.nd)) (ar (cg (dj (gY (i3 (i4 (kW .list (ab 8) y' Jo iX))) (gY (bg (cE hr.units) cB cD (ab 8) (ab 4)) (gY (i3 (i4 (kW .list (ab 9) y' Jo iX))) (jt (bg (cE hr.units) cB cD (ab 9) (ab 5))))))) (bS (cx d5)) cb) bu))))) (ar (cx d5) bu)))).out
noncomputable abbrev ql:Stmt:=top 21
theorem BA:L2.bG ["_law_found"] ["_law_found"] (L2.aS ql):=cO
theorem A2{P:Program}{w:World}{K:PySem.W.Frag}{mg:Str->Option Value}{base:Heap}(F:FH P w K mg base "_law_whole" ql)(KQ:mg "bool"=none)(Ko:mg "int"=none)(y':mg "isinstance"=none):Df P w K mg base "_law_whole" 1 1 nH:=by
 have sc:=BA;refine dF F sc (λ_ Jq A outer s H E hr=>?_);exact((bS (cx (xo (kW .int (ab 0) y' Ko wZ) (rT (EY (kW .bool (ab 0) y' KQ EO))))))).out
noncomputable abbrev jm:Stmt:=top 23
theorem Eo:L2.bG ["_law_script","-0","_law_tasks_here","_law_boxes_here","_law_order_here","_law_slots","_law_handed","_law_box","_law_room","_law_found","_law_free","_law_more"] ["_law_script"] (L2.aS jm):=cO
theorem C3(Fu:L2.eW K "law" "law" jm f fd)(hm:mg "law"=some (.ref f))(J3:mg "dict"=none)(y':mg "isinstance"=none)(E':mg "len"=none)(i':mg "range"=none)(KA:mg "tuple"=none)(JZ:eR P w K mg base "_law_family" 4 1 lR)(J4:ky P w K mg base "_law_boxes" 2 l3)(j':Df P w K mg base "_law_number" 1 2 cY)(D':dA P w K mg base "_law_order" 1 2 fE)(Jr:eR P w K mg base "_law_laid_slots" 2 3 jB)(Js:eR P w K mg base "_law_laid_boxes" 1 1 iV)(Kh:Df P w K mg base "_law_one" 3 3 lC)(Ka:Df P w K mg base "box_made" 1 2 mj)(J6:Df P w K mg base "_law_whole" 1 1 nH)(Jw:Df P w K mg base "_law_told_boxes" 2 3 lO):L2.d3 P w K mg base L2.cI 5 f fd ["_law_script"] (hU ⟨K,P,w⟩ mC 1):=by
 have sc:=Eo;refine v7 (k:=4) Fu sc (λJq A outer s H E hr=>?_)
 exact((ar (kF 2 sc.nd (jv JZ hr (aC (ab 0) aM))) (ar (GF 3 2 J4 hr sc.nd (ab 0)) (t6 2 (t6 3 (ar (aY (j5 D' hr (aC (dm j' hr (aC (ab 0) (aC ai aM))) (aC ai aM))) (aG 4 sc.nd)) (ar (aY (o7 (jv Jr hr (aC (ab 2) (aC (ab 3) (aC (ab 4) aM))))) (aG 5 sc.nd)) (ar (aY (o7 (jv Js hr (aC (ab 3) aM))) (aG 6 sc.nd)) (ar (cG (f:=mM) (kB (ab 3)) (aG 7 sc.nd) (by delta mM;exact(bS (cg (i3 (i4 (dm Kh hr (aC (ab 5) (aC (aI (ab 6) (ab 7)) (aC (aI (ab 3) (ab 7)) aM)))))) (bS (cx d5)) cb)))) (ar (aY (aF b9 cw ai (aF L2.bP bN (dm j' hr (aC (ab 0) (aC ai aM))) ai)) (aG 8 sc.nd)) (ar (aY (dm Ka hr (aC (ab 6) (aC (ab 8) aM))) (aG 9 sc.nd)) (ar (cg (dj (gY (i3 (i4 (kW .tuple (ab 9) y' KA Bn))) (jt (bg (cE hr.units) cB cD (gm gj gw E' f6 (ab 9)) ai)))) (bS (cx d5)) cb) (ar (aY (fW (jH (jC ["_law_box"] ["_law_boxes_here"] [3] (gh (L2.aS jm) ["_law_script","-0","_law_tasks_here","_law_boxes_here","_law_order_here","_law_slots","_law_handed","_law_box","_law_room","_law_found","_law_free","_law_more"] (by rfl) (by rfl) (by decide+kernel)) (lr i' ai ai) (λcl C s H fp=>by exact(aG 0 (show List.Nodup (["_law_box","_law_boxes_here"]:List Str)from by decide+kernel))) (λcl C s H fp=>by exact(kT (bg (k0 hr.units) lS oM (ab 0) (ab 1)) gu)) (λcl C s H fp=>by exact(ab 0)))) gK (fP ai)) (aG 10 sc.nd)) (ar (cg (dj (gY (dj (cT (bg (fO hr.units) fJ gn (ab 10) (cj aM)) (gA (lI (aI (ab 9) ai))))) (jt (dj (cT (bg (cE hr.units) cB cD (ab 10) (cj aM)) (gA (dj (gY (i3 (i4 (dm J6 hr (aC (aI (ab 9) ai) aM)))) (jt (bg (cE hr.units) cB cD (aI (ab 9) ai) (aI (ab 10) ai))))))))))) (bS (cx d5)) cb) (ar (yT 11 sc.nd (qr J3 (ab 3))) (ar (cG (f:=lA) (gQ (ab 10)) (aG 7 sc.nd) (by delta lA;exact(bS (xh 11 hr.units (ab 7) (cj (aC (ab 8) (aC (cj aM) (aC (cj aM) (aC ai aM))))))))) (mq 11 (ar (cg (i3 (i4 (dm Jw hr (aC (ab 5) (aC (aI (ab 9) ai) (aC (ab 11) aM)))))) (bS (cx d5)) cb) (ar (cx (xo (lh (t8 hr.units) wa (ab 6) (o7 (jv Js hr (aC (ab 3) aM)))) (rT (lh (t8 hr.units) wa (ab 5) (o7 (jv Jr hr (aC (ab 2) (aC (ab 3) (aC (ab 4) aM))))))))) bu))))))))))))))))))).out
end
theorem all_mk{w:World}{K:PySem.W.Frag}{h:Heap}{mg:Str->Option Value}{fa:Addr}(X:K.In h)(G:h.Ns mainGlobals mg)(RY:mg "law"=some (.ref fa))
   (F0:FK K mg "_law_order" rR)
   (F1:FK K mg "_law_number" pL)
   (F2:FK K mg "_law_words" sC)
   (F3:FK K mg "_law_task" sx)
   (F4:FK K mg "_law_tasks" qa)
   (F5:FK K mg "_law_kids" nB)
   (F6:FK K mg "_law_family" o8)
   (F7:FK K mg "_law_boxes" nr)
   (F8:FK K mg "_law_laid_slots" pS)
   (F9:FK K mg "_law_laid_boxes" pZ)
   (F10:FK K mg "box_made" oa)
   (F11:FK K mg "_law_chain" se)
   (F12:FK K mg "_law_told_boxes" ku)
   (F13:FK K mg "letter_places" nY)
   (F14:FK K mg "letters_of" nP)
   (F15:FK K mg "chain_of" qy)
   (F16:FK K mg "_law_one" qg)
   (F17:FK K mg "_law_whole" ql)
   (F18:FK K mg "law" jm)
   (z_bool:PySem.W.nsIn K mainGlobals "bool"=some none)
   (z_dict:PySem.W.nsIn K mainGlobals "dict"=some none)
   (z_int:PySem.W.nsIn K mainGlobals "int"=some none)
   (z_isinstance:PySem.W.nsIn K mainGlobals "isinstance"=some none)
   (z_len:PySem.W.nsIn K mainGlobals "len"=some none)
   (z_list:PySem.W.nsIn K mainGlobals "list"=some none)
   (z_range:PySem.W.nsIn K mainGlobals "range"=some none)
   (z_tuple:PySem.W.nsIn K mainGlobals "tuple"=some none)
   (z_zip:PySem.W.nsIn K mainGlobals "zip"=some none)
   (gl_PLACES:iP PySem.Challenge.pw_underfloor_k45_letters_and_chains w K mg "PLACES" lW)
   (gl_MOST_BOX:iP PySem.Challenge.pw_underfloor_k45_letters_and_chains w K mg "MOST_BOX" o6):
   ∃fd:FuncData,(∀(s:Shared) (v:Value),BindsTo s fd ⟨[v],[]⟩ [("_law_script",v)])/\∀base:Heap,K.In base->base.Ns mainGlobals mg->L2.d3 PySem.Challenge.pw_underfloor_k45_letters_and_chains w K mg base L2.cI 5 fa fd ["_law_script"] (hU ⟨K,PySem.Challenge.pw_underfloor_k45_letters_and_chains,w⟩ mC 1):=by
 obtain⟨f,fd,Fu,hm⟩:=F18;cases RY.symm.trans hm;obtain⟨oc,od,kV,doc,pm,an,Jq,ct,L4,rfl,lk,Jx⟩:=Fu.ex;have KQ:=PySem.W.mg_none_of X G z_bool;have J3:=PySem.W.mg_none_of X G z_dict;have Ko:=PySem.W.mg_none_of X G z_int;have y':=PySem.W.mg_none_of X G z_isinstance;have E':=PySem.W.mg_none_of X G z_len;have Jo:=PySem.W.mg_none_of X G z_list;have i':=PySem.W.mg_none_of X G z_range;have KA:=PySem.W.mg_none_of X G z_tuple;have KR:=PySem.W.mg_none_of X G z_zip;refine⟨PySem.W.fnOf "law" "law" (L2.ji jm) (L2.dY jm) (L2.aS jm) .none kV doc pm an Jq ct,λs v=>.of_eq rfl,λbase _ _=>?_⟩;have U:=@FK.up PySem.Challenge.pw_underfloor_k45_letters_and_chains w K mg base;have D':=Ap (U F0) i';have j':=Ff (U F1) E';have Ju:=A0 (U F2) i';have J8:=BD (U F3) Ko i' Ju;have J2:=Am (U F4) E' Jo j' D' J8;have Jt:=FV (U F5);have JZ:=EG (U F6) J2 j' D' Jt;have J4:=GR (U F7) E' i' j' Ju D';have Jr:=E6 (U F8) J3 Jo KR Jt;have Js:=zA (U F9) E' i';have Ka:=EF (U F10) E' Jo i' gl_MOST_BOX gl_PLACES;have J5:=zE (U F11) E' i';have Jw:=AX (U F12) y' E' Jo i' J5;have Jy:=zk (U F13) i' gl_PLACES;have JY:=HG (U F14) Jy;have J':=DR (U F15);have Kh:=Ae (U F16) y' Jo i' JY J';have J6:=A2 (U F17) KQ Ko y';exact C3 Fu hm J3 y' E' i' KA JZ J4 j' D' Jr Js Kh Ka J6 Jw
end gL
end PL
set_option maxRecDepth 4000
namespace PL
namespace gL
open PySem G
theorem u7{K B:List Int}{Y:List Tk}{X:List Bx}{G:List (Option Sl)}{H:List (Option Hb)}(hT:TS K Y)(hB:BS K B X)(hr:(rows X).length<=15)(h:LS K G)(hn:NX G (PR X))(hL:Laid B X H):lO [sD G,lD H,bD B X]=.ok (.bl true):=by
 have N':=hB;obtain⟨Ki,bb,bl,KU,L9,rk⟩:=hB
 have KN:∀x∈X,CH G x.row:=λx hx=>t7 hT N' h hn hx (by
   have:x.row.Sublist (rows X):=List.sublist_flatten_of_mem (List.mem_map.mpr ⟨x,hx,rfl⟩);have:=this.length_le;omega)
 obtain⟨JN,e1,w,x4,x5,x6,x7,x8,x9,x10,rfl,hw,Pk⟩:=cX (it:=cK (eC (.int 16))) (tg:=az 4) (body:=kN) (ρ:=tS G H B X [] none none none none none none none) (λi ρ=>∃(w:List Int) (x4 x5 x6 x7 x8 x9 x10:Option D),ρ=tS G H B X w x4 x5 x6 x7 x8 x9 x10/\w.length<=15*i/\∀(m:Nat) b x,b<(i:Int)->B[m]? =some b->X[m]? =some x->∀y∈x.row,y∈w) (ju rfl (by decide)) ⟨[],none,none,none,none,none,none,none,rfl,Nat.le_refl _,λm b x hb hm=>by have:=bb b (List.mem_of_getElem? hm);omega⟩ (by
   rintro i d hd ρ ⟨w,x4,x5,x6,x7,x8,x9,x10,rfl,hw,Pk⟩;obtain⟨rfl,hi⟩:=jo hd;obtain⟨w',y5,y6,y7,y8,y9,K1,e,k1,k2,k3⟩:=GB (n:=0+i) (x5:=x5) (x6:=x6) (x7:=x7) (x8:=x8) (x9:=x9) (x10:=x10) h.1 Ki bl KU KN hL (by omega) (by omega) (show w.length<=10000 by omega)
   refine⟨_,rfl,_,e,w',_,y5,y6,y7,y8,y9,K1,rfl,by omega,λm b x hb hm hx y hy=>?_⟩
   by_cases KS:b=0+i
   ·subst KS;exact k3 m x hm hx y hy
   ·exact k2 y (Pk m b x (by omega) hm hx y hy))
 have Lj:∀y∈rows X,y∈w:=λy hy=>by
   obtain⟨r,OQ,OO⟩:=List.mem_flatten.mp hy;obtain⟨x,hx,rfl⟩:=List.mem_map.mp OQ;obtain⟨m,hm⟩:=List.getElem?_of_mem hx;have JC:=(List.getElem?_eq_some_iff.mp hm).1;have hb:B[m]? =some (B[m]'(by omega)):=List.getElem?_eq_getElem _
   have:=bb _ (List.mem_of_getElem? hb);refine Pk m _ x ?_ hb hm y OO;rw[oA];show _<(16:Int);omega
 obtain ⟨J7,e2,z9,rfl⟩:=cX (it:=dM (eC (.int 1)) (eC (.int 16))) (tg:=az 9) (body:=mI) (ρ:=tS G H B X w x4 x5 x6 x7 x8 x9 x10) (λi ρ=>∃z9:Option D,ρ=tS G H B X w x4 x5 x6 x7 x8 z9 x10) (lg rfl rfl (by decide) (by decide)) ⟨x9,rfl⟩ (by
   rintro i d hd ρ ⟨z9,rfl⟩;obtain⟨rfl,hi⟩:=jo hd;refine⟨tS G H B X w x4 x5 x6 x7 x8 (some (.int (1+i))) x10,rfl,tS G H B X w x4 x5 x6 x7 x8 (some (.int (1+i))) x10,?_,some (.int (1+i)),rfl⟩;rw[mI];refine bX ?_;have JC:(1+(i:Int)).toNat<G.length:=by rw[h.1];omega
   have Pz:G[(1+(i:Int)).toNat]? =some G[(1+(i:Int)).toNat]:=List.getElem?_eq_getElem JC;have KZ:=mN (a:=1+i) (by omega) (by omega) h.1 Pz
   cases ho:G[(1+(i:Int)).toNat]with
   | none=>
     rw[ho]at KZ;exact jf (aO (b5 (o:=dB) (x:=.aD) (aA (o:=af) rfl rfl KZ) rfl))
   | some s=>
     rw[ho]at KZ Pz;have Nl:fG G (1+(i:Int)).toNat=s.nx:=by unfold fG;rw[Pz]
     rw[c7 (aO (b5 (o:=dB) (x:=s.D) (d:=.bl true) (aA (o:=af) rfl rfl KZ) rfl)) (c7 (aO (aA (o:=ck) rfl rfl (sd (1+i) w))) (aO (eO (aA (o:=af) (x:=s.D) (aA (o:=af) rfl rfl KZ) rfl (qz s)) rfl)))];by_cases hm:(1+(i:Int))∈w
     ·rw[decide_eq_true hm];rfl
     · have:s.nx=0:=by
         rw[<-Nl];refine hn.2 _ λz=>hm (Lj _ ((oW X).subset ?_));rw[show(((1+(i:Int)).toNat:Nat):Int)=1+i by omega]at z
         exact z
       rw[this,decide_eq_false hm];rfl)
 rw[lO];refine gr ?_
 rw[ao (bX (by
   rw[fU (g9 (aO (b5 (o:=dH .list) (x:=lD H) (d:=.bl true) rfl rfl))) (aO (eO (fV (xs:=H.map hD) rfl) rfl)),List.length_map,hL.1];rfl))]
 rw[ao (aW (b8 a9))];show aw _ (tS G H B X [] none none none none none none none)=_;rw[ao e1,ao e2];exact gk rfl
theorem ff(i:Int):j8 (.int i):=.inl ⟨rfl,Nat.zero_le _⟩
theorem uS(xs:List Int):j8 (L xs):=.inl ⟨by rw[L,lay,lN],by rw[L,dep,k6];decide⟩
theorem zq{w:D}(h:WT w):j8 w:=by
 rcases h with rfl|⟨s,xs,rfl,hs⟩
 ·exact .inl ⟨rfl,Nat.zero_le _⟩
 · refine .inl ⟨?_,?_⟩
   ·rw[lay,cN,hs,lN];rfl
   ·rw[dep,fM,k6];show max 0 0+1<=6;decide
theorem Fn{w:D}(h:SV w):j8 w:=by
 rcases h with rfl|⟨ws,x,rfl⟩
 ·exact .inl ⟨rfl,Nat.zero_le _⟩
 · refine .inl ⟨?_,?_⟩
   ·rw[lay,cN,L,lay,lN];rfl
   ·rw[dep,fM,L,dep,k6];show max (0+1) (max 0 0)+1<=6;decide
theorem BY{K:List Int}{G:List (Option Sl)}(h:LS K G):kl (sD G):=⟨_,rfl,λd hd=>by
 obtain⟨o,ho,rfl⟩:=List.mem_map.mp hd;cases o with
 |none=>exact .inl rfl
 | some s=>
   have hs:=h.2.2 s ho;refine .inr ⟨SK,s.v,rfl,?_⟩;unfold Sl.v;simp only[List.forall_mem_cons];exact⟨ff _,ff _,uS _,ff _,.inr ⟨_,_,rfl⟩,zq hs.1,ff _,.inl ⟨rfl,Nat.zero_le _⟩,Fn hs.2,ff _,ff _,ff _,ff _,λ_ h=>nomatch h⟩⟩
theorem yz(H:List (Option Hb)):kl (lD H):=⟨_,rfl,λd hd=>by
 obtain⟨o,ho,rfl⟩:=List.mem_map.mp hd;cases o with
 |none=>exact .inl rfl
 | some s=>
   refine .inr ⟨BK,s.v,rfl,?_⟩;unfold Hb.v;simp only[List.forall_mem_cons];exact⟨ff _,uS _,ff _,ff _,ff _,ff _,λ_ h=>nomatch h⟩⟩
theorem Bc{ρ:En}{k i:Nat}{m:D->T->R (T×T)}{f:Ex}{d:D}{t u t':T}(hf:f ρ=.ok d)(hi:ρ[i]? =some (.on (.tr t)))(hm:m d t=.ok (u,t'))(ho:t'.own=true)(h:ρ.all c0=true)(hk:2<=k)(KD:k≠i):mw k i m f ρ=.ok (.next ((ρ.set i (.on (.tr t'))).set k (.on (.tr u)))):=by
 unfold mw;rw[hf,R.aQ,hi];show(m d t).bind _=_;rw[hm,R.aQ,m6 h,if_pos ⟨ho,uc h,hk,KD⟩]
theorem nK{ρ:En}{f:Xt}{t:T}{d:D}(h:f ρ=.ok t)(hd:T.toD t=d):eX f ρ=.ok d:=by
 unfold eX;rw[h,R.aQ,hd]
noncomputable abbrev cW(ns:List Int)(K O B:List Int)(Y:List Tk)(X:List Bx)(G:List (Option Sl))(H:List (Option Hb))(x7 x8 x9 x10:Option D)(O4:Slot):En:=[.sh (L ns),.un,.sh (tD K Y),.sh (bD B X),.sh (L O),.sh (sD G),.sh (lD H),ae x7,ae x8,ae x9,ae x10,O4]
theorem vI{ns K O B:List Int}{Y:List Tk}{X:List Bx}{G:List (Option Sl)}{H:List (Option Hb)}{x7 x8 x9:Option D}(Ki:B.Nodup)(bl:X.length=B.length):(bK (bW (dM (eC (.int 1)) (eC (.int 16))) 1 [3] (az 0) [tV (e2 ck (aa 0) (aa 1))] (aa 0)) none (some (eC (.int 1)))) (cW ns K O B Y X G H x7 x8 x9 none .un)=.ok (L ((fr B).take 1)):=by
 rw[rO (xs:=(fr B).map .int) (v:=1) (iw (ds:=hZ.map .int) (by rw[lg (I:=1) (L:=16) rfl rfl (by decide) (by decide),tZ]) (by rw[List.length_map,hZ,List.length_map,List.length_range];decide) (i5 D.int (λn=>decide (n∉B)) D.int λn hn=>⟨[.sh (.int n),.sh (bD B X)],rfl,by
     have hb:=mF.mp hn;have Nn:ck (.int n) (bD B X)=.ok (.bl (!decide (n∈B))):=by unfold ck;rw[jA n Ki (by rw[List.length_map];exact bl)];rfl
     rw[cJ.fN,aO (aA (o:=ck) (ρ:=[.sh (.int n),.sh (bD B X)]) (a:=aa 0) (b:=aa 1) rfl rfl Nn)];by_cases hnB:n∈B
     ·rw[decide_eq_true hnB,decide_eq_false (λz=>z hnB)];rfl
     ·rw[decide_eq_false hnB,decide_eq_true hnB];rfl,λ_=>rfl⟩)) rfl (by decide)]
 show R.ok (D.lst (((fr B).map D.int).take 1))=_;rw[<-List.map_take]
theorem zX(f:Int):nH [.int f]=.ok (.bl true):=by rfl
theorem Cu(ns:List Int)(_:ns.length<=63):mC [.lst (ns.map .int)]=.ok (.bl true):=by
 obtain⟨K,Y0,eF,Sb⟩:=xV ns;obtain⟨Y,B,X,eB,hT,hB,hr,R7⟩:=CN ns Sb;obtain⟨n,hn⟩:=ig ns (k:=32) (by decide) (by decide)
 obtain⟨O,hO,_,_,Uc⟩:=oU n;obtain⟨G,eG,Oj,Qx⟩:=Fg (O:=O) hT hB (by omega)
 have PV:∀x∈X,x.row.length<=15:=λx hx=>by
   have:x.row.Sublist (rows X):=List.sublist_flatten_of_mem (List.mem_map.mpr ⟨x,hx,rfl⟩);have:=this.length_le;omega
 obtain⟨H,eH,hL⟩:=Ea hB λx hx=>by have:=PV x hx;omega
 obtain⟨n6,SA⟩:=ig ns (k:=36) (by decide) (by decide)
 have T6:=Int.emod_nonneg n6 (show(8:Int)≠0 by decide)
 have T9:=Int.emod_lt_of_pos n6 (show(0:Int)<8 by decide)
 have N':=hB;obtain⟨Ki,bb,bl,KU,L9,rk⟩:=hB;have Si:∀x∈X,x.ls.length<=8:=λx hx=>by have:=KU x hx;have a:=this.2.1;have b:=this.2.2.1;omega
 obtain⟨JN,TZ,x7,rfl⟩:=cX (it:=fe (aa 3)) (tg:=az 7) (body:=mM) (ds:=B.map .int) (ρ:=cW ns K O B Y X G H none none none none .un) (λi ρ=>∃x7:Option D,ρ=cW ns K O B Y X G H x7 none none none .un) (by
     show R.ok ((B.map (Sum.inl:Int->Ky)).map gp)=_;rw[lP]) ⟨none,rfl⟩ (by
   rintro i d hd ρ ⟨x7,rfl⟩;obtain⟨b,rfl,KS⟩:=g0 hd;have hi:=(List.getElem?_eq_some_iff.mp KS).1;have hx:X[i]? =some (X[i]'(by omega)):=List.getElem?_eq_getElem _
   have MQ:=List.mem_of_getElem? hx;have hb:=bb b (List.mem_of_getElem? KS);obtain⟨pl,hp,JV⟩:=hL.2.1 i b _ KS hx;refine⟨cW ns K O B Y X G H (some (.int b)) none none none .un,rfl,cW ns K O B Y X G H (some (.int b)) none none none .un,?_,some (.int b),rfl⟩;rw[mM];refine bX ?_;rw[g9 (aO (jr rfl (aA (o:=af) rfl rfl (rh (by omega) hb.2 hL.1 hp)) (aA (o:=af) rfl rfl (fK Ki KS (by rw[List.getElem?_map,hx];rfl))) (G6 (h:=⟨_,pl⟩) Oj.1 (t7 hT N' Oj Qx MQ (PV _ MQ)) JV (Si _ MQ))))]
   rfl)
 have N4:=yd (r:=1+n6 % 8) bl hL
 have RS:∀(x7 x8 x9 x10:Option D) (O4:Slot),(jq (e2 fX (aa 6) (eX (eU iV [aa 3]))) (e2 fX (aa 5) (eX (eU jB [aa 2,aa 3,aa 4])))) (cW ns K O B Y X G H x7 x8 x9 x10 O4)=.ok (.bl true):=λx7 x8 x9 x10 O4=>
   De (x:=true) (aA (o:=fX) rfl (nK (x_call (aR rfl a9) eH) (uk H)) (tG (yz H))) (aA (o:=fX) rfl (nK (x_call (aR rfl (aR rfl (aR rfl a9))) eG) (xf G)) (tG (BY Oj)))
 rw[mC];refine gr ?_;rw[ao (j2 (t:=tT K Y0) (x_call (aR rfl a9) eF) (by simp) (by decide))]
 show aw _ [.sh (L ns),.un,.on (.tr (tT K Y0)),.un,.un,.un,.un,.un,.un,.un,.un,.un]=_;rw[ao (Bc (i:=2) (k:=3) rfl rfl eB rfl (by simp) (by decide) (by decide))]
 show aw _ [.sh (L ns),.un,.on (.tr (tT K Y)),.on (.tr (bT B X)),.un,.un,.un,.un,.un,.un,.un,.un]=_
 rw[ao (show jk 2 _=R.ok (Fl.next [.sh (L ns),.un,.sh (tD K Y),.on (.tr (bT B X)),.un,.un,.un,.un,.un,.un,.un,.un]) by
   show R.ok (Fl.next [.sh (L ns),.un,.sh (T.toD (tT K Y)),.on (.tr (bT B X)),.un,.un,.un,.un,.un,.un,.un,.un])=_;rw[gB])]
 rw[ao (show jk 3 _=R.ok (Fl.next [.sh (L ns),.un,.sh (tD K Y),.sh (bD B X),.un,.un,.un,.un,.un,.un,.un,.un]) by
   show R.ok (Fl.next [.sh (L ns),.un,.sh (tD K Y),.sh (T.toD (bT B X)),.un,.un,.un,.un,.un,.un,.un,.un])=_;rw[p8])]
 rw[ao (aW (dh (dh rfl rfl hn) rfl hO))];show aw _ [.sh (L ns),.un,.sh (tD K Y),.sh (bD B X),.sh (L O),.un,.un,.un,.un,.un,.un,.un]=_;rw[ao (aW (nK (x_call (aR rfl (aR rfl (aR rfl a9))) eG) (xf G)))];show aw _ [.sh (L ns),.un,.sh (tD K Y),.sh (bD B X),.sh (L O),.sh (sD G),.un,.un,.un,.un,.un,.un]=_;rw[ao (aW (nK (x_call (aR rfl a9) eH) (uk H)))];show aw _ (cW ns K O B Y X G H none none none none .un)=_;rw[ao TZ,ao (aW (eV rfl (bV (dh rfl rfl SA) rfl (by decide))))]
 show aw _ (cW ns K O B Y X G H x7 (some (.int (1+n6 % 8))) none none .un)=_;rw[ao (aW (dh rfl rfl N4))];cases hf:fr B with
 | nil=>
   show aw _ (cW ns K O B Y X G H x7 (some (.int (1+n6 % 8))) (some (.tup [lD H,.aD])) none .un)=_
   rw[ao (bX (by
     rw[fU (g9 (aO (b5 (o:=dH .tuple) (x:=.tup [lD H,.aD]) (d:=.bl true) rfl rfl))) (aO (eO (i:=2) (u:=2) (b5 (o:=cU) (x:=.tup [lD H,.aD]) rfl rfl) rfl))];rfl))]
   rw[ao (aW (vI Ki bl)),hf];show aw _ (cW ns K O B Y X G H x7 (some (.int (1+n6 % 8))) (some (.tup [lD H,.aD])) (some (L [])) .un)=_
   rw[ao (bX (by
     rw[fU (c7 (aO (aA (o:=oEq) rfl (b8 a9) (oo [] []))) (aO (b5 (o:=dB) (x:=.aD) (aA (o:=af) rfl rfl rfl) rfl))) (jf (by rw[aO (aA (o:=a7) rfl (b8 a9) (gM [] []))];rfl))]
     rfl))]
   rw[ao (show g8 11 (e1 fF (aa 3)) _=R.ok (Fl.next (cW ns K O B Y X G H x7 (some (.int (1+n6 % 8))) (some (.tup [lD H,.aD])) (some (L [])) (.od (B.map .inl) (X.map Bx.D))))from rfl)]
   rw[ao (qB (ds:=[]) rfl rfl)];rw[ao (show eA 11 _=R.ok (Fl.next (cW ns K O B Y X G H x7 (some (.int (1+n6 % 8))) (some (.tup [lD H,.aD])) (some (L [])) (.sh (bD B X))))from rfl)]
   rw[ao (bX (by
     rw[g9 (aO (jr rfl (aA (o:=af) (d:=lD H) rfl rfl rfl) rfl (u7 hT N' hr Oj Qx hL)))];rfl))]
   exact gk (ix (RS _ _ _ _ _))
 | cons f F=>
   have OC:f∈fr B:=by rw[hf];exact List.mem_cons_self
   have Rb:=Al (r:=1+n6 % 8) bl bb hL OC;have SJ:=Hh (r:=1+n6 % 8) N' (by omega) (by omega) OC
   have MA:f∉B:=by simpa using(List.mem_filter.mp OC).2
   generalize TY:H.set f.toNat (some ⟨nb (1+n6 % 8),List.replicate 8 0⟩)=H2 at Rb;show aw _ (cW ns K O B Y X G H x7 (some (.int (1+n6 % 8))) (some (.tup [lD (H.set f.toNat (some ⟨nb (1+n6 % 8),List.replicate 8 0⟩)),.int f])) none .un)=_;rw[TY]
   rw[ao (bX (by
     rw[fU (g9 (aO (b5 (o:=dH .tuple) (x:=.tup [lD H2,.int f]) (d:=.bl true) rfl rfl))) (aO (eO (i:=2) (u:=2) (b5 (o:=cU) (x:=.tup [lD H2,.int f]) rfl rfl) rfl))];rfl))]
   rw[ao (aW (vI Ki bl)),hf];show aw _ (cW ns K O B Y X G H x7 (some (.int (1+n6 % 8))) (some (.tup [lD H2,.int f])) (some (L [f])) .un)=_
   rw[ao (bX (by
     rw[fU (jf (by rw[aO (aA (o:=oEq) rfl (b8 a9) (oo [f] []))];rfl)) (c7 (aO (aA (o:=a7) rfl (b8 a9) (gM [f] []))) (fU (g9 (aO (pB (x:=.int f) (aA (o:=af) rfl rfl rfl) (zX f)))) (aO (eO (i:=f) (u:=f) (aA (o:=af) rfl rfl rfl) (aA (o:=af) (x:=L [f]) (y:=.int 0) rfl rfl rfl)))))]
     simp))]
   rw[ao (show g8 11 (e1 fF (aa 3)) _=R.ok (Fl.next (cW ns K O B Y X G H x7 (some (.int (1+n6 % 8))) (some (.tup [lD H2,.int f])) (some (L [f])) (.od (B.map .inl) (X.map Bx.D))))from rfl)]
   have M9:putL (.inl f) (Bx.D (nb (1+n6 % 8))) (B.map .inl) (X.map Bx.D)=((B++[f]).map .inl,(X++[nb (1+n6 % 8)]).map Bx.D):=by
     unfold putL;rw[if_neg (by simpa using MA),List.map_append,List.map_append];rfl
   rw[ao (qB (ds:=[.int f]) (r:=.ok (.next (cW ns K O B Y X G H (some (.int f)) (some (.int (1+n6 % 8))) (some (.tup [lD H2,.int f])) (some (L [f])) (.od ((B++[f]).map .inl) ((X++[nb (1+n6 % 8)]).map Bx.D))))) rfl (by
     rw[forL];show(lA (cW ns K O B Y X G H (some (.int f)) (some (.int (1+n6 % 8))) (some (.tup [lD H2,.int f])) (some (L [f])) (.od (B.map .inl) (X.map Bx.D)))).bind _=_;rw[lA,u3 (d:=Bx.D (nb (1+n6 % 8))) (q:=.int f) (z:=.inl f) (b8 (aR rfl (aR (b8 a9) (aR (b8 a9) (aR rfl a9))))) rfl rfl rfl (by rw[List.length_map];omega) M9]
     rfl))]
   rw[ao (show eA 11 _=R.ok (Fl.next (cW ns K O B Y X G H (some (.int f)) (some (.int (1+n6 % 8))) (some (.tup [lD H2,.int f])) (some (L [f])) (.sh (bD (B++[f]) (X++[nb (1+n6 % 8)])))))from rfl)]
   rw[ao (bX (by
     rw[g9 (aO (jr rfl (aA (o:=af) (d:=lD H2) rfl rfl rfl) rfl (u7 hT SJ (by rw[qc];exact hr) Oj (by rw[Bi];exact Qx) Rb)))]
     rfl))]
   exact gk (ix (RS _ _ _ _ _))
end gL
end PL
namespace PySem.W.Fast
def tw12849380108329891414:=0
def tw1701514104975329531:=0
def tw7427994631896776553:=0
def tw6601862692269545320:=0
def tw372551559265656983:=0
def tw1744484335565332529:=0
def tw12717246487023221161:=0
def tw9242336663113992792:=0
def tw9521310270371081955:=0
def tw5361636759189868527:=0
def tw3171225332675363847:=0
def tw8650379885376503729:=0
def tw3953153572860287512:=0
def tw17557434216530920339:=0
def tw15178155107443416218:=0
def tw822999467896206800:=0
def tw4214981128692230374:=0
def tw16376582996385897762:=0
def tw3430468956126087838:=0
def tw14756721795215999289:=0
def tw9009262090142011703:=0
def tw11484313937561166347:=0
def tw8845888126773730189:=0
def tw17064131217391644180:=0
def tw8620776577308672267:=0
def tw3411773319390416057:=0
def tw14216023572329835757:=0
def tw18402951965587705906:=0
def tw961673545208807306:=0
def tw17602266878326586185:=0
def tw2059725521114914210:=0
def tw17439697782307366890:=0
def tw8043746742381847709:=0
def tw15524796088012105181:=0
def tw8997911079318403302:=0
def tw11493240726225893230:=0
def tw2379072698123929605:=0
def tw16128694076687494673:=0
def tw14707428498455529930:=0
def tw3505612410981992322:=0
end PySem.W.Fast
open PySem PySem.W PyProof.Rows
set_option maxRecDepth 100000 in
set_option maxHeartbeats 0 in
theorem PySem.Challenge.cw_underfloor_k45_letters_and_chains_holds : PySem.Challenge.rw_underfloor_k45_letters_and_chains.Holds := by
  w_on; o_law; k_head; (case hw => w_witness2)
  k_fill
  refine PL.walk (l := PySem.Challenge.rw_underfloor_k45_letters_and_chains) (k := 5) (x := "_law_script") (m := PL.gL.mC) rfl rfl ⟨rfl, by decide, by decide⟩ (fun w h Y => PySem.W.kIn_of Y) ?F PL.gL.Cu
  case F =>
    intro w mg fa h KX G hmg
    refine' PL.gL.all_mk KX G hmg ?F0 ?F1 ?F2 ?F3 ?F4 ?F5 ?F6 ?F7 ?F8 ?F9 ?F10 ?F11 ?F12 ?F13 ?F14 ?F15 ?F16 ?F17 ?F18 ?z_bool ?z_dict ?z_int ?z_isinstance ?z_len ?z_list ?z_range ?z_tuple ?z_zip ?gl_PLACES ?gl_MOST_BOX
    (case z_bool => k_is)
    (case z_dict => k_is)
    (case z_int => k_is)
    (case z_isinstance => k_is)
    (case z_len => k_is)
    (case z_list => k_is)
    (case z_range => k_is)
    (case z_tuple => k_is)
    (case z_zip => k_is)
    (case gl_PLACES => refine' PL.xC KX G ?x1_PLACES ?x2_PLACES; (case x1_PLACES => k_is); (case x2_PLACES => exact ⟨_, rfl⟩))
    (case gl_MOST_BOX => refine' PL.xC KX G ?x1_MOST_BOX ?x2_MOST_BOX; (case x1_MOST_BOX => k_is); (case x2_MOST_BOX => exact ⟨_, rfl⟩))
    all_goals exact PL.FK.mk KX G (by k_is) (by k_is) (by k_is) (by k_is)

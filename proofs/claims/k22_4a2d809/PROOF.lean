import PyProof.Rows.All
import Wide.All
import OpenK.AllK
import Wide.FinOn
import Lean
import PyProof.EqAt
import PyProof.EqKinds
import PyProof.TupleCall
import KE.KRevIter
import PyProof.JoinWalk
import PyProof.CollectIter
import KE.KDictSum
import KE.KSortTup
import OpenK.KRaise
import PyProof.StationsW
import OpenK.KOwn
import KE.KTryMore
import KE.KIsNot
import PyProof.NsDelKeeps
import KE.KIsAll
import PyProof.ExcArgs
import PyProof.ListMulRoad
import PyProof.Rows.SeqMore
import PyProof.FactsAll.tuple_2
import PyProof.ExcInit
import OpenK.KCls
import PyProof.WalkInts
import PyProof.SeqI3
import PySem.Challenge.RW_letterrack_k22_cells_that_break_a_rule
set_option bootstrap.genMatcherCode false
set_option Elab.async false
set_option linter.all false
set_option maxRecDepth 100000
set_option maxHeartbeats 4000000
noncomputable section

section
namespace L2
open PySem PySem.Spec PyProof.Rows
abbrev Key:=Sum Int Str
noncomputable def Av:Key->Value->Bool
 | .inl k,v=>Value.isInt k v
 | .inr x,v=>Value.isStrOf x v
noncomputable def afa (w:World):Key->Int
 | .inl k=>hashInt k
 | .inr x=>hashStr w x
theorem gn:∀{k:Key} {v:Value},Av k v=true->(∃i t,k=Sum.inl i/\v=Value.int i t)\/(∃x t,k=Sum.inr x/\v=Value.str x t)
 | .inl i,v,h=>by
  obtain⟨t,e⟩:=Value.isInt_shape (k:=i) (v:=v) h;exact .inl ⟨i,t,rfl,e⟩
 | .inr x,v,h=>by
  obtain⟨t,e⟩:=Value.isStrOf_shape (x:=x) (v:=v) h;exact .inr ⟨x,t,rfl,e⟩
theorem T6 (i:Int)(t:Tok):Av (.inl i) (.int i t)=true:=by simp[Av,Value.isInt]
theorem T7 (x:Str)(t:Tok):Av (.inr x) (.str x t)=true:=by simp[Av,Value.isStrOf]
theorem ace (a b:Int):decide ((Sum.inl a:Key)=Sum.inl b)=(a==b):=by
 by_cases e:a=b
 ·subst e;simp
 ·have h:¬(Sum.inl a:Key)=Sum.inl b:=λq=>e (Sum.inl.inj q)
  rw[decide_eq_false h];exact(beq_eq_false_iff_ne.mpr e).symm
theorem acf (a b:Str):decide ((Sum.inr a:Key)=Sum.inr b)=decide (a=b):=by
 by_cases e:a=b
 ·subst e;simp
 ·have h:¬(Sum.inr a:Key)=Sum.inr b:=λq=>e (Sum.inr.inj q)
  rw[decide_eq_false h,decide_eq_false e]
theorem acg (a:Int)(b:Str):decide ((Sum.inl a:Key)=Sum.inr b)=false:=decide_eq_false (λq=>nomatch q)
theorem ach (a:Str)(b:Int):decide ((Sum.inr a:Key)=Sum.inl b)=false:=decide_eq_false (λq=>nomatch q)
noncomputable def iu (prog:Program)(w:World):PySem.KeyKind prog w Key where
 is:=Av
 hash:=afa w
 inj:=λv a b ha hb=>by
  rcases gn ha with⟨i,t,rfl,rfl⟩ | ⟨x,t,rfl,rfl⟩
  ·rcases gn hb with⟨j,u,rfl,e⟩ | ⟨y,u,rfl,e⟩
   ·injection e with e1 _;rw[e1]
   ·exact nomatch e
  ·rcases gn hb with⟨j,u,rfl,e⟩ | ⟨y,u,rfl,e⟩
   ·exact nomatch e
   ·injection e with e1 _;rw[e1]
 byValue:=λk v h=>by
  rcases gn h with⟨i,t,rfl,rfl⟩ | ⟨x,t,rfl,rfl⟩ <;> rfl
 pyHash:=λhv h=>by
  rcases gn hv with⟨i,t,rfl,rfl⟩ | ⟨x,t,rfl,rfl⟩
  ·exact wpAny_pyHash_int h
  ·exact wpAny_pyHash_str h
 eqBool:=λhu hv h=>by
  rcases gn hu with⟨i,t,rfl,rfl⟩ | ⟨x,t,rfl,rfl⟩
  ·rcases gn hv with⟨j,u,rfl,rfl⟩ | ⟨y,u,rfl,rfl⟩
   ·rw[ace]at h;exact wpAny_eqBool_int h
   ·rw[acg]at h;exact SeqAt.EqAt.int_str i t y u _ _ _ _ h
  ·rcases gn hv with⟨j,u,rfl,rfl⟩ | ⟨y,u,rfl,rfl⟩
   ·rw[ach]at h;exact SeqAt.EqAt.str_int x t j u _ _ _ _ h
   ·rw[acf]at h;exact wpAny_eqBool_str h
 «strs»:=λk x t v h=>by
  rcases gn h with⟨i,u,rfl,e⟩ | ⟨y,u,rfl,e⟩
  ·exact nomatch e
  ·injection e with e1 _
   subst e1;cases v <;> rfl
theorem Oe (prog:Program)(w:World)(i:Int)(t:Tok):(iu prog w).is (.inl i) (.int i t)=true:=T6 i t
theorem Og (prog:Program)(w:World)(x:Str)(t:Tok):(iu prog w).is (.inr x) (.str x t)=true:=T7 x t
inductive V where
 | non | bl (b:Bool) | int (i:Int) | str (x:Str) | yx (b:Array UInt8) | flt (b:UInt64) | ref (a:Addr) | ty (n:String)
 deriving DecidableEq
noncomputable def RelV:V->Value->Prop
 | .non,u=>u=Value.none
 | .bl b,u=>u=Value.bool b
 | .int i,u=>∃t,u=Value.int i t
 | .str x,u=>∃t,u=Value.str x t
 | .yx b,u=>∃t,u=Value.bytes b t
 | .flt b,u=>∃t,u=Value.float b t
 | .ref a,u=>u=Value.ref a
 | .ty n,u=>u=Value.type n
abbrev Vals:List V->List Value->Prop:=Paired RelV
theorem Vals.length {xs:List V}{us:List Value}(r:Vals xs us):xs.length=us.length:=Paired.length r
theorem Vals.get:∀{xs:List V} {us:List Value} {i:Nat} {x:V},Vals xs us->xs[i]?=some x->∃u,us[i]?=some u/\RelV x u
 | _,_,_,_,.nil,e=>by simp at e
 | _,_,0,_,.cons r _,e=>by simp at e;subst e;exact⟨_,rfl,r⟩
 | _,_,i+1,x,.cons _ t,e=>by
  obtain⟨u,h1,h2⟩:=Vals.get (i:=i) (x:=x) t (by simpa using e);exact⟨u,by simpa using h1,h2⟩
theorem Vals.set {x:V}{u:Value}(r:RelV x u):∀{xs:List V} {us:List Value} (i:Nat),Vals xs us->Vals (xs.set i x) (us.set i u)
 | _,_,_,.nil=>.nil
 | _,_,0,.cons _ t=>.cons r t
 | _,_,i+1,.cons q t=>.cons q (Vals.set r i t)
theorem Vals.append:∀{xs ys:List V} {us ws:List Value},Vals xs us->Vals ys ws->Vals (xs++ys) (us++ws)
 | _,_,_,_,.nil,s=>s
 | _,_,_,_,.cons r t,s=>.cons r (Vals.append t s)
theorem Vals.take:∀{xs:List V} {us:List Value} (n:Nat),Vals xs us->Vals (xs.take n) (us.take n)
 | _,_,0,_=>.nil
 | _,_,_+1,.nil=>.nil
 | _,_,n+1,.cons r t=>.cons r (Vals.take n t)
theorem Vals.drop:∀{xs:List V} {us:List Value} (n:Nat),Vals xs us->Vals (xs.drop n) (us.drop n)
 | _,_,0,r=>r
 | _,_,_+1,.nil=>.nil
 | _,_,n+1,.cons _ t=>Vals.drop n t
noncomputable def jo:Option V->Option Value->Prop
 | some v,some u=>RelV v u
 | none,none=>True
 | _,_=>False
noncomputable def KV {κ:Type}:List (κ × V)->List (κ × Value)->Prop:=Paired λ(p:κ × V) (q:κ × Value)=>p.1=q.1/\RelV p.2 q.2
noncomputable def kV:Key->V
 | .inl i=>.int i
 | .inr x=>.str x
inductive HO where
 | lst (xs:List V)
 | tup (xs:List V)
 | dK (kvs:List (Key × V)) | dT (kvs:List (List Key × V))
 | set (S:Int->Bool) (n:Nat)
 | ins (C dx:Addr) (fs:List (Str × V))
 | own (x:Addr)
 | xd (fs:List (Str × V))
 | met (f x:Addr)
 | rng (lo hi:Int)
 | lM (o:Obj) (u:HO)
 | HX (ps:Array Value)
 | ext (φ:Heap->Prop)
abbrev Hp:=Addr->Option HO
noncomputable def upd (H:Hp)(a:Addr)(o:HO):Hp:=λb=>if b=a then some o else H b
theorem ao {H:Hp}{a:Addr}{o:HO}:upd H a o a=some o:=by unfold upd;rw[if_pos rfl]
theorem aP {H:Hp}{a b:Addr}{o:HO}(h:b≠a):upd H a o b=H b:=by unfold upd;rw[if_neg h]
theorem aeC {H:Hp}{a b:Addr}{o u:HO}(h:H a=some o)(h':H b=some u)(d:o≠u):a≠b:=by
 intro e;subst e;rw[h]at h';exact d (Option.some.inj h')
theorem bV {H:Hp}{a b:Addr}{o:HO}(h:H a=some o)(h':H b=none):a≠b:=by
 intro e;subst e;rw[h]at h';cases h'
section
variable (P:Program)(w:World)
noncomputable def cW (H:Hp)(h:Heap)(a:Addr):HO->Prop
 | .lst xs=>xs.length<=sizeLine/\∃(its:List Value) (n:Nat),Vals xs its/\h.get? a=some { cls:=.type "list",data:=.seq its.toArray n }
 | .tup xs=>xs.length<=sizeLine/\∃its:List Value,Vals xs its/\IsTup h a its.toArray
 | .dK kvs=>kvs.length<=sizeLine/\(a==sysModules)=false/\∃vs,KV kvs vs/\h.DictOf (iu P w) a vs
 | .dT kvs=>kvs.length<=sizeLine/\(a==sysModules)=false/\∃xs:List (List Key × Addr × Value),
   Paired (λ(p:List Key × V) (q:List Key × Addr × Value)=>p.1=q.1/\H q.2.1=some (.tup (p.1.map kV))/\RelV p.2 q.2.2) kvs xs/\
   ∃o es ep,h.get? a=some o/\o.ExactDict/\o.data=.dict es ep/\es.toList=xs.map (entryOfKey (tupleKind (iu P w)))/\(xs.map (·.1)).Nodup
 | .set S n=>h.SetOf (intKind P w) a S n
 | .ins C dx fs=>H dx=some (.own a)/\fs.length<=1000/\dx≠a/\h.get? a=some (W.instObj C dx)/\
   ∃mA,h.Ns1 dx mA/\(∀f,jo (fs.lookup f) (mA f))/\PySem.Within mA (fs.map (·.1))
 | .own _=>∃o,h.get? a=some o
 | .xd fs=>∃mA,h.Ns1 a mA/\∀f,jo (fs.lookup f) (mA f)
 | .rng lo hi=>∃t u v,h.get? a=some { cls:=.type "range",data:=.fields #[.int lo t,.int hi u,.int 1 v] }
 | .lM o u=>h.get? a=some o/\cW H h a u
 | .HX ps=>h.get? a=some { cls:=.none,data:=.fields ps }
 | .met f x=>h.get? a=some (W.methodObj (.ref f) (.ref x))
 | .ext φ=>φ h/\(∃o,h.get? a=some o)/\∀h1 h2:Heap,φ h1->(∀o,h1.get? a=some o->h2.get? a=some o)->φ h2
noncomputable def iy (H:Hp)(h:Heap):Prop:=∀a o,H a=some o->cW P w H h a o
end
section
variable {P:Program}{w:World}{H H':Hp}{h h':Heap}{a:Addr}{o:HO}
theorem cW.lt (x:cW P w H h a o):a < h.objs.size:=by
 cases o with
 | lst xs=>obtain⟨_,_,_,_,e⟩:=x;exact Heap.lt_size e
 | tup xs=>obtain⟨_,_,_,p⟩:=x;exact p.lt
 | dK kvs=>obtain⟨_,_,_,_,o,_,_,e,_⟩:=x;exact Heap.lt_size e
 | dT kvs=>obtain⟨_,_,_,_,o,_,_,e,_⟩:=x;exact Heap.lt_size e
 | set S n=>obtain⟨o,_,_,_,e,_⟩:=x;exact Heap.lt_size e
 | ins C dx fs=>obtain⟨_,_,_,e,_⟩:=x;exact Heap.lt_size e
 | own y=>obtain⟨_,e⟩:=x;exact Heap.lt_size e
 | xd fs=>obtain⟨_,⟨_,_,_,e,_⟩,_⟩:=x;exact Heap.lt_size e
 | rng lo hi=>obtain⟨_,_,_,e⟩:=x;exact Heap.lt_size e
 | lM ob u=>obtain⟨e,_⟩:=x;exact Heap.lt_size e
 | HX ps=>exact Heap.lt_size (show h.get? a=some _ from x)
 | met f y=>exact Heap.lt_size (show h.get? a=some _ from x)
 | ext φ=>obtain⟨_,⟨_,e⟩,_⟩:=x;exact Heap.lt_size e
theorem Paired.Xn {α β:Type}{F G:α->β->Prop}:∀{l₁:List α} {l₂:List β},Paired F l₁ l₂->(∀a b,F a b->G a b)->Paired G l₁ l₂
 | _,_,.nil,_=>.nil
 | _,_,.cons r t,f=>.cons (f _ _ r) (Paired.Xn t f)
theorem cW.stay (x:cW P w H h a o)(k:∀b u,(b=a\/H b=some (.own a))->h.get? b=some u->h'.get? b=some u)
  (ho:∀b,H b=some (.own a)->H' b=some (.own a)) (ht:∀b xs,H b=some (.tup xs)->H' b=some (.tup xs)):cW P w H' h' a o:=by
 induction o with
 | lst xs=>obtain⟨z,its,n,r,e⟩:=x;exact⟨z,its,n,r,k _ _ (.inl rfl) e⟩
 | tup xs=>obtain⟨z,its,r,ob,e,c⟩:=x;exact⟨z,its,r,ob,k _ _ (.inl rfl) e,c⟩
 | dK kvs=>obtain⟨z,y,vs,r,ob,es,ep,e,c⟩:=x;exact⟨z,y,vs,r,ob,es,ep,k _ _ (.inl rfl) e,c⟩
 | dT kvs=>
  obtain⟨z,y,xs,r,ob,es,ep,e,c⟩:=x;exact⟨z,y,xs,Paired.Xn r λp q z=>⟨z.1,ht _ _ z.2.1,z.2.2⟩,ob,es,ep,k _ _ (.inl rfl) e,c⟩
 | set S n=>obtain⟨ob,es,ep,t,e,c⟩:=x;exact⟨ob,es,ep,t,k _ _ (.inl rfl) e,c⟩
 | ins C dx fs=>
  obtain⟨d,z,ne,e,mA,⟨od,es,ep,e2,c⟩,r⟩:=x;exact⟨ho _ d,z,ne,k _ _ (.inl rfl) e,mA,⟨od,es,ep,k _ _ (.inr d) e2,c⟩,r⟩
 | own y=>obtain⟨ob,e⟩:=x;exact⟨ob,k _ _ (.inl rfl) e⟩
 | xd fs=>obtain⟨mA,⟨od,es,ep,e,c⟩,r⟩:=x;exact⟨mA,⟨od,es,ep,k _ _ (.inl rfl) e,c⟩,r⟩
 | rng lo hi=>obtain⟨t,u,v,e⟩:=x;exact⟨t,u,v,k _ _ (.inl rfl) e⟩
 | lM ob u ih=>obtain⟨e,q⟩:=x;exact⟨k _ _ (.inl rfl) e,ih q⟩
 | HX ps=>
  have e:h.get? a=some { cls:=.none,data:=.fields ps }:=x;show h'.get? a=some { cls:=.none,data:=.fields ps };exact k a _ (.inl rfl) e
 | met f y=>
  have e:h.get? a=some (W.methodObj (.ref f) (.ref y)):=x;show h'.get? a=some (W.methodObj (.ref f) (.ref y));exact k a _ (.inl rfl) e
 | ext φ=>obtain⟨p,⟨o,e⟩,st⟩:=x;exact⟨st _ _ p λo q=>k _ _ (.inl rfl) q,⟨o,k _ _ (.inl rfl) e⟩,st⟩
theorem iy.lt (x:iy P w H h)(e:H a=some o):a < h.objs.size:=(x a o e).lt
theorem iy.fresh (x:iy P w H h)(e:h.objs.size<=a):H a=none:=by
 cases q:H a with
 | none=>rfl
 | some u=>exact absurd (Nat.lt_of_lt_of_le (x.lt q) e) (Nat.lt_irrefl _)
theorem iy.kept (x:iy P w H h)(k:∀b u,h.get? b=some u->h'.get? b=some u):iy P w H h':=λa o e=>
 (x a o e).stay (λb u _ q=>k b u q) (λ_ q=>q) λ_ _ q=>q
theorem iy.laid (x:iy P w H h)(k:∀b u,h.get? b=some u->h'.get? b=some u)(hp:h.objs.size<=a)(new:cW P w (upd H a o) h' a o):iy P w (upd H a o) h':=λb u e=>by
 have hn:=x.fresh hp;by_cases hb:b=a
 ·subst hb;rw[ao]at e;cases e;exact new
 ·rw[aP hb]at e
  exact(x b u e).stay (λc v _ q=>k c v q) (λc q=>by rw[aP (bV q hn)];exact q) λc xs q=>by rw[aP (bV q hn)];exact q
end
noncomputable def Rd (H:Hp)(a:Addr)(u:HO):Prop:=H a=some u\/∃o,H a=some (.lM o u)
theorem Rd.ok {P:Program}{w:World}{H:Hp}{h:Heap}{a:Addr}{u:HO}(r:Rd H a u)(x:iy P w H h):cW P w H h a u:=by
 rcases r with r | ⟨o,r⟩
 ·exact x a u r
 ·obtain⟨_,q⟩:=x a _ r
  exact q
noncomputable def T8:Option HO->Prop
 | some (.lst _)=>True
 | some (.dK _)=>True
 | some (.dT _)=>True
 | some (.set _ _)=>True
 | some (.ins _ _ _)=>True
 | some (.ext _)=>True
 | _=>False
section
variable {P:Program}{w:World}{H:Hp}{h h':Heap}{x e:Addr}{o':HO}
theorem iy.write (ok:iy P w H h)(mu:T8 (H x))(he:e=x\/H e=some (.own x))(k:∀b u,b≠e->h.get? b=some u->h'.get? b=some u)(heo:∃u,h'.get? e=some u)
  (new:cW P w (upd H x o') h' x o'):iy P w (upd H x o') h':=λb u q=>by
 have aci:∀c y,H c=some (.own y)->c≠x:=λc y r z=>by subst z;rw[r]at mu;exact mu
 have afb:∀c xs,H c=some (.tup xs)->c≠x:=λc xs r z=>by subst z;rw[r]at mu;exact mu
 by_cases hb:b=x
 ·subst hb;rw[ao]at q;cases q;exact new
 ·rw[aP hb]at q
  by_cases hbe:b=e
  ·have q':H b=some (.own x):=by
    rcases he with z | z
    ·exact absurd (hbe.trans z) hb
    ·rw[hbe];exact z
   rw[q]at q';cases q';obtain⟨v,hv⟩:=heo;exact⟨v,by rw[hbe];exact hv⟩
  ·refine(ok b u q).stay (λc v hc r=>k c v ?_ r) (λc r=>by rw[aP (aci c b r)];exact r) λc xs r=>by rw[aP (afb c xs r)];exact r
   rcases hc with rfl | hc
   ·exact hbe
   ·rintro rfl
    rcases he with z | z
    ·exact aci c b hc z
    ·rw[hc]at z;cases z;exact hb rfl
end
structure Un (fs ex:List Addr)(H H':Hp)(h h':Heap):Prop where
 keep:∀b o,h.get? b=some o->H b=none->b∉fs->b∉ex->h'.get? b=some o
 slot:∀b o,h.get? b=some o->H b=none->b∈fs->b∉ex->∃sl,h'.get? b=some { o with slots:=sl }
 free:∀b o,h.get? b=some o->H b=none->b∉ex->H' b=none
 there:∀b o,h.get? b=some o->b∉ex->∃o',h'.get? b=some o'
 tups:∀b xs,H b=some (.tup xs)->H' b=some (.tup xs)
 jX:∀b o u,H b=some (.lM o u)->H' b=some (.lM o u)
 j8:∀b ps,H b=some (.HX ps)->∃more,H' b=some (.HX (ps++more))
section
variable {fs ex:List Addr}{H H1:Hp}{h h1 h':Heap}{a x e:Addr}{o:HO}
theorem Un.any (u:Un fs ex H H1 h h1){b:Addr}{ob:Obj}(q:h.get? b=some ob)(n:H b=none)(hx:b∉ex):∃sl,h1.get? b=some { ob with slots:=sl }:=by
 by_cases hb:b∈fs
 ·exact u.slot b ob q n hb hx
 ·exact⟨ob.slots,u.keep b ob q n hb hx⟩
theorem Un.kept (k:∀b u,h.get? b=some u->h'.get? b=some u):Un fs ex H H h h':=
 ⟨λb ob q _ _ _=>k b ob q,λb ob q _ _ _=>⟨ob.slots,k b ob q⟩,λ_ _ _ n _=>n,λb ob q _=>⟨ob,k b ob q⟩,λ_ _ q=>q,λ_ _ _ q=>q,λ_ ps q=>⟨#[],by rw[q];simp⟩⟩
theorem Un.refl:Un fs ex H H h h:=Un.kept λ_ _ q=>q
theorem Un.laid (k:∀b u,h.get? b=some u->h'.get? b=some u)(hp:h.objs.size<=a)(hn:H a=none):Un fs ex H (upd H a o) h h' where
 keep:=λb u q _ _ _=>k b u q
 slot:=λb u q _ _ _=>⟨u.slots,k b u q⟩
 free:=λb u q n _=>by rw[aP (Nat.ne_of_lt (Nat.lt_of_lt_of_le (Heap.lt_size q) hp))];exact n
 there:=λb u q _=>⟨u,k b u q⟩
 tups:=λb xs q=>by rw[aP (bV q hn)];exact q
 jX:=λb u xs q=>by rw[aP (bV q hn)];exact q
 j8:=λb ps q=>⟨#[],by rw[aP (bV q hn),q];simp⟩
theorem Un.write (mu:T8 (H x))(he:e=x\/H e=some (.own x))(k:∀b u,b≠e->h.get? b=some u->h'.get? b=some u)(heo:∃u,h'.get? e=some u):Un fs ex H (upd H x o) h h':=by
 have hx:∀b,H b=none->b≠x:=λb n z=>by subst z;rw[n]at mu;exact mu
 have hb:∀b,H b=none->b≠e:=λb n z=>by
  subst z;rcases he with r | r
  ·exact hx b n r
  ·rw[n]at r;cases r
 have hm:∀b u,H b=some u->¬T8 (some u)->b≠x:=λb u q nm z=>by subst z;rw[q]at mu;exact nm mu
 refine⟨λb u q n _ _=>k b u (hb b n) q,λb u q n _ _=>⟨u.slots,k b u (hb b n) q⟩,λb u q n _=>by rw[aP (hx b n)];exact n,λb u q _=>?_,
  λb xs q=>by rw[aP (hm b _ q λz=>z)];exact q,λb u xs q=>by rw[aP (hm b _ q λz=>z)];exact q,λb ps q=>⟨#[],by rw[aP (hm b _ q λz=>z),q];simp⟩⟩
 by_cases hbe:b=e
 ·subst hbe;exact heo
 ·exact⟨u,k b u hbe q⟩
end
noncomputable def HY (h:Heap)(H:Hp):List Addr:=(List.range h.objs.size).filter λa=>(H a).isSome
noncomputable def vX (h:Heap)(H:Hp):Heap:=W.hideAll h (HY h H)
theorem T9 (h:Heap)(H:Hp):(vX h H).objs.size=h.objs.size:=W.hideAll_size _ _
theorem Xo {h:Heap}{H:Hp}{b:Addr}{o:Obj}(e:h.get? b=some o)(n:H b=none):(vX h H).get? b=some o:=
 W.hideAll_get _ e λhm=>by
  have q:(H b).isSome=true:=(List.mem_filter.mp hm).2;rw[n]at q;simp at q
theorem aay {h:Heap}{H:Hp}{b:Addr}{o:Obj}(e:(vX h H).get? b=some o):h.get? b=some o/\H b=none:=by
 have e':h.get? b=some o:=W.of_hideAll (HY h H) e;refine⟨e',?_⟩;cases q:H b with
 | none=>rfl
 | some x=>
  have hm:b∈HY h H:=List.mem_filter.mpr ⟨List.mem_range.mpr (Heap.lt_size e'),by simp[q]⟩;have z:(vX h H).get? b=none:=W.hideAll_none (HY h H) hm;rw[z]at e;cases e
structure Mod (K:W.Frag)(mg:Str->Option Value)(base:Heap):Prop where
 Ek:K.In base
 glob:base.Ns mainGlobals mg
 blt:∃mb,base.Ns builtinsNs mb/\∀x:Str,x≠"__name__"->mb x=bootBuiltins x
 nolimit:base.NoLimit
structure Cx where
 prog:Program
 w:World
 K:W.Frag
 mg:Str->Option Value
 base:Heap
 A:Around
 N:List Str
 s₀:Shared
 H₀:Hp
 env:Env
 outer:List Env
 stack:List Env
 ex:List Addr
 fn:Str->Bool
 calm:Bool
 pn:List (Addr × Obj)
 xe:Value->Shared->Prop
noncomputable def frs (l:List Env):List Addr:=l.filterMap (·.frame)
abbrev Cx.fs (X:Cx):List Addr:=frs X.outer
noncomputable def ZV (sc:Scope)(x:Str):Prop:=sc.names.lookup x=some .local\/sc.names.lookup x=some .cell\/sc.names.lookup x=some .free
noncomputable def Loc (sc:Scope)(x:Str):Prop:=sc.names.lookup x=some .local\/sc.names.lookup x=some .cell
noncomputable def Look (env:Env)(h:Heap)(m:Str->Option Value)(x:Str)(u:Value):Prop:=
 (env.kindOf x=some .local/\m x=some u)\/((env.kindOf x=some .cell\/env.kindOf x=some .free)/\∃c,env.cells.lookup x=some c/\h.IsCell c (some u))
structure Cx.Ok (X:Cx):Prop where
 mod:Mod X.K X.mg X.base
 kind:X.env.scope.kind=.function
 glob:X.env.globals=mainGlobals
 blt:X.env.builtins=builtinsNs
 above:X.s₀.heap.objs.size<=X.env.locals
 inj:∀x y c,X.env.cells.lookup x=some c->X.env.cells.lookup y=some c->x=y
 has:∀x,(X.env.kindOf x=some .cell\/X.env.kindOf x=some .free)->∃c,X.env.cells.lookup x=some c
 cab:∀x c,X.fn x=true->X.env.cells.lookup x=some c->X.s₀.heap.objs.size<=c
 hd:X.calm=true->X.A.handled=none
 frames:X.A.frames=some X.stack
 stk:X.stack=X.outer\/(X.stack=X.env::X.outer/\X.env.frame=some X.env.locals)
 T_:∀b∈X.ex,b≠X.env.locals/\∀x c,X.env.cells.lookup x=some c->c≠b
 bs:∀b o,X.base.get? b=some o->X.s₀.heap.get? b=some o/\X.H₀ b=none
 qK:X.base.objs.size<=X.s₀.heap.objs.size
 uN:∀b o,X.base.get? b=some o->b∉X.ex
 Cg:∀b∈X.ex,b∉X.fs
 lH:X.s₀.heap.FunFrames X.base X.outer
 yK:∀b∈X.fs,X.H₀ b=none
structure Inv (X:Cx)(y7:List (Addr × Obj))(σ:List (Option V))(H:Hp)(s:Shared):Prop where
 ok:X.Ok
 os:s.os=X.s₀.os
 bare:AllBare s.gens
 base:Un X.fs X.ex X.H₀ H X.s₀.heap s.heap
 loc:∃m,s.heap.Ns X.env.locals m/\∀(i:Nat) (x:Str) (v:V),X.N[i]?=some x->σ[i]?=some (some v)->ZV X.env.scope x->∃u,RelV v u/\Look X.env s.heap m x u
 cell:∀x c,X.env.cells.lookup x=some c->∃v,s.heap.IsCell c v
 free:H X.env.locals=none
 iM:∀x c,X.env.cells.lookup x=some c->H c=none
 pin:∀p∈X.pn++y7,s.heap.get? p.1=some p.2/\H p.1=none/\p.1≠X.env.locals/\p.1∉X.fs/\∀v,p.2.data≠.cell v
 hok:iy X.prog X.w H s.heap
 len:σ.length=X.N.length
section
variable {X:Cx}{y7:List (Addr × Obj)}{σ:List (Option V)}{H H':Hp}{s:Shared}{h':Heap}
theorem Cx.Ok.afc (ok:X.Ok){b:Addr}{o:Obj}(e:X.base.get? b=some o):b∉X.fs:=λhb=>by
 have:=(ok.lH.mem hb).1;rw[e]at this;cases this
theorem Inv.bs (I:Inv X y7 σ H s):∀b o,X.base.get? b=some o->s.heap.get? b=some o/\H b=none:=λb o e=>
 ⟨I.base.keep b o (I.ok.bs b o e).1 (I.ok.bs b o e).2 (I.ok.afc e) (I.ok.uN b o e),I.base.free b o (I.ok.bs b o e).1 (I.ok.bs b o e).2 (I.ok.uN b o e)⟩
theorem Inv.bk (I:Inv X y7 σ H s):∀b o,X.base.get? b=some o->s.heap.get? b=some o:=λb o e=>(I.bs b o e).1
theorem Inv.mod (I:Inv X y7 σ H s):Mod X.K X.mg X.base:=I.ok.mod
theorem Inv.fL (I:Inv X y7 σ H s):X.K.In s.heap:=I.ok.mod.Ek.keeps I.bk
theorem Inv.lt (I:Inv X y7 σ H s):X.env.locals < s.heap.objs.size:=let ⟨_,hn,_⟩:=I.loc;hn.lt
theorem Inv.sz (I:Inv X y7 σ H s):X.s₀.heap.objs.size<=s.heap.objs.size:=Nat.le_trans I.ok.above (Nat.le_of_lt I.lt)
theorem Inv.afd (I:Inv X y7 σ H s){a:Addr}(h:s.heap.objs.size<=a):a∉X.fs:=λhb=>by
 obtain⟨_,o,ho,_⟩:=I.ok.lH.mem hb;exact absurd (Nat.lt_of_lt_of_le (Heap.lt_size ho) (Nat.le_trans I.sz h)) (Nat.lt_irrefl _)
theorem Inv.El (I:Inv X y7 σ H s):∀x c,X.env.cells.lookup x=some c->c≠X.env.locals:=λx c e z=>by
 obtain⟨v,o,ho,hd⟩:=I.cell x c e;obtain⟨m,⟨o',es,ep,ho',hd',_⟩,_⟩:=I.loc;rw[z,ho']at ho;cases ho;rw[hd']at hd;cases hd
theorem Inv.lH (I:Inv X y7 σ H s):s.heap.FunFrames X.base X.outer:=by
 have all:∀(l:List Env),(∀b∈frs l,b∈X.fs)->X.s₀.heap.FunFrames X.base l->s.heap.FunFrames X.base l:=by
  intro l
  induction l with
  | nil=>intro _ _;trivial
  | cons env r ih=>
   intro hs hl;obtain⟨hk,⟨L,o,hf,hn,ho,hd⟩,hr⟩:=hl;have hL:L∈X.fs:=hs L (by unfold frs;rw[List.filterMap_cons,hf];exact List.mem_cons_self);obtain⟨sl,e⟩:=I.base.slot L o ho (I.ok.yK L hL) hL λz=>I.ok.Cg L z hL;exact⟨hk,⟨L,_,hf,hn,e,hd⟩,ih (λb hb=>hs b (by unfold frs;rw[List.filterMap_cons,hf];exact List.mem_cons_of_mem _ hb)) hr⟩
 exact all X.outer (λ_ hb=>hb) I.ok.lH
theorem Inv.stack (I:Inv X y7 σ H s):s.heap.FunFrames X.base X.stack:=by
 rcases I.ok.stk with e | ⟨e,hf⟩
 ·rw[e];exact I.lH
 ·rw[e]
  obtain⟨m,hn,_⟩:=I.loc;refine .cons (by rw[I.ok.kind];decide) hf hn ?_ I.lH;exact Heap.get?_none_of_le (Nat.le_trans I.ok.qK I.ok.above)
theorem Inv.vp (I:Inv X y7 σ H s):∀b∈frs X.stack,b∈X.env.locals::X.fs:=λb hb=>by
 rcases I.ok.stk with e | ⟨e,hf⟩
 ·rw[e]at hb;exact List.mem_cons_of_mem _ hb
 ·rw[e]at hb
  unfold frs at hb;rw[List.filterMap_cons,hf]at hb;exact hb
theorem Inv.oG (I:Inv X y7 σ H s):∀b∈frs X.stack,H b=none:=λb hb=>by
 rcases List.mem_cons.mp (I.vp b hb) with e | hb
 ·rw[e];exact I.free
 ·obtain⟨_,o,ho,_⟩:=I.ok.lH.mem hb
  exact I.base.free b o ho (I.ok.yK b hb) λz=>I.ok.Cg b z hb
theorem Inv.step {g':Array GenState}{t':Nat}{d':Drawn}{ch:List Addr}(I:Inv X y7 σ H s)
  (hch:∀b∈ch,(b∈X.ex\/X.s₀.heap.objs.size<=b)/\b≠X.env.locals/\(∀x c,X.env.cells.lookup x=some c->c≠b)/\∀p∈X.pn++y7,p.1≠b)
  (keep:∀b o,b≠X.env.locals->b∉X.fs->b∉ch->s.heap.get? b=some o->H b=none->h'.get? b=some o)
  (slot:∀b o,b≠X.env.locals->b∈X.fs->b∉ch->s.heap.get? b=some o->H b=none->∃sl,h'.get? b=some { o with slots:=sl }) (free:∀b o,b∉ch->s.heap.get? b=some o->H b=none->H' b=none)
  (there:∀b o,b∉ch->s.heap.get? b=some o->∃o',h'.get? b=some o')
  (tups:∀b xs,H b=some (.tup xs)->H' b=some (.tup xs)) (jX:∀b o u,H b=some (.lM o u)->H' b=some (.lM o u)) (j8:∀b ps,H b=some (.HX ps)->∃more,H' b=some (.HX (ps++more)))
  (ns:∀m,s.heap.Ns X.env.locals m->h'.Ns X.env.locals m) (hok:iy X.prog X.w H' h') (hg:AllBare g') :
  Inv X y7 σ H' { s with heap:=h',gens:=g',drawn:=d',toks:=t' }:=by
 have neL:∀b o,X.s₀.heap.get? b=some o->b≠X.env.locals:=λb o e=>Nat.ne_of_lt (Nat.lt_of_lt_of_le (Heap.lt_size e) I.ok.above);have qL:∀b o,X.s₀.heap.get? b=some o->b∉X.ex->b∉ch:=λb o e hx hb=>by
  rcases(hch b hb).1 with z | z
  ·exact hx z
  ·exact absurd (Nat.lt_of_lt_of_le (Heap.lt_size e) z) (Nat.lt_irrefl _)
 have cellK:∀x c,X.env.cells.lookup x=some c->∀v,s.heap.IsCell c v->h'.IsCell c v:=λx c e v ⟨o,ho,hd⟩=>by
  have Ua:c∉ch:=λz=>(hch c z).2.2.1 x c e rfl;by_cases hc:c∈X.fs
  ·obtain⟨sl,q⟩:=slot c o (I.El x c e) hc Ua ho (I.iM x c e)
   exact⟨_,q,hd⟩
  ·exact⟨o,keep c o (I.El x c e) hc Ua ho (I.iM x c e),hd⟩
 refine⟨I.ok,I.os,hg,⟨λb o e n hb hx=>?_,λb o e n hb hx=>?_,λb o e n hx=>?_,λb o e hx=>?_,λb xs e=>tups b xs (I.base.tups b xs e),λb o xs e=>jX b o xs (I.base.jX b o xs e),λb ps e=>?_⟩,?_,λx c e=>?_,?_,λx c e=>?_,λp hp=>?_,hok,I.len⟩
 ·exact keep b o (neL b o e) hb (qL b o e hx) (I.base.keep b o e n hb hx) (I.base.free b o e n hx)
 ·obtain⟨sl,e1⟩:=I.base.slot b o e n hb hx
  obtain⟨sl',e2⟩:=slot b _ (neL b o e) hb (qL b o e hx) e1 (I.base.free b o e n hx);exact⟨sl',e2⟩
 ·obtain⟨o',e1⟩:=I.base.there b o e hx
  exact free b o' (qL b o e hx) e1 (I.base.free b o e n hx)
 ·obtain⟨o',e1⟩:=I.base.there b o e hx
  exact there b o' (qL b o e hx) e1
 ·obtain⟨m1,e1⟩:=I.base.j8 b ps e
  obtain⟨m2,e2⟩:=j8 b _ e1;exact⟨m1++m2,by rw[e2,Array.append_assoc]⟩
 ·obtain⟨m,hn,hl⟩:=I.loc
  refine⟨m,ns m hn,λi x v e1 e2 e3=>?_⟩;obtain⟨u,r,l⟩:=hl i x v e1 e2 e3;refine⟨u,r,?_⟩;rcases l with l | ⟨k,c,e,z⟩
  ·exact .inl l
  ·exact .inr ⟨k,c,e,cellK x c e _ z⟩
 ·obtain⟨v,z⟩:=I.cell x c e
  exact⟨v,cellK x c e v z⟩
 ·obtain⟨m,⟨o,_,_,ho,_⟩,_⟩:=I.loc
  exact free _ o (λz=>(hch _ z).2.1 rfl) ho I.free
 ·obtain⟨v,o,ho,hd⟩:=I.cell x c e
  exact free c o (λz=>(hch c z).2.2.1 x c e rfl) ho (I.iM x c e)
 ·obtain⟨e,n,ne,nf,d⟩:=I.pin p hp
  have Ua:p.1∉ch:=λz=>(hch p.1 z).2.2.2 p hp rfl;exact⟨keep p.1 p.2 ne nf Ua e n,free p.1 p.2 Ua e n,ne,nf,d⟩
theorem Inv.un {t':Nat}(I:Inv X y7 σ H s)(u:Un X.fs [] H H' s.heap h')(hok:iy X.prog X.w H' h'):Inv X y7 σ H' { s with heap:=h',toks:=t' }:=by
 obtain⟨m,⟨o,es,ep,ho,r⟩,_⟩:=id I.loc;obtain⟨sl,hL⟩:=u.any ho I.free (by simp);exact I.step (g':=s.gens) (d':=s.drawn) (ch:=[]) (λ_ z=>nomatch z) (λb o _ hb _ e n=>u.keep b o e n hb (by simp)) (λb o _ hb _ e n=>u.slot b o e n hb (by simp)) (λb o _ e n=>u.free b o e n (by simp)) (λb o _ e=>u.there b o e (by simp)) u.tups u.jX u.j8 (λm' hm=>by
  obtain⟨o',es',ep',ho',r'⟩:=hm;rw[ho]at ho';cases ho';exact⟨_,es',ep',hL,r'⟩) hok I.bare
theorem Inv.call {g':Array GenState}{t':Nat}{d':Drawn}{ch:List Addr}(I:Inv X y7 σ H s)(u:Un (frs X.stack) ch H H' s.heap h')(hok:iy X.prog X.w H' h')(hg:AllBare g')
  (hch:∀b∈ch,(b∈X.ex\/X.s₀.heap.objs.size<=b)/\b≠X.env.locals/\(∀x c,X.env.cells.lookup x=some c->c≠b)/\∀p∈X.pn++y7,p.1≠b) :
  Inv X y7 σ H' { s with heap:=h',gens:=g',drawn:=d',toks:=t' }:=by
 obtain⟨m,⟨o,es,ep,ho,r⟩,_⟩:=id I.loc;obtain⟨sl,hL⟩:=u.any ho I.free λz=>(hch _ z).2.1 rfl;exact I.step (ch:=ch) hch (λb o hL hb hc e n=>u.keep b o e n (λz=>(List.mem_cons.mp (I.vp b z)).elim hL hb) hc) (λb o _ _ hc e n=>u.any e n hc) (λb o hc e n=>u.free b o e n hc) (λb o hc e=>u.there b o e hc) u.tups u.jX u.j8 (λm' hm=>by
  obtain⟨o',es',ep',ho',r'⟩:=hm;rw[ho]at ho';cases ho';exact⟨_,es',ep',hL,r'⟩) hok hg
theorem Inv.turned {t':Nat}{it:Addr}(I:Inv X y7 σ H s)(k:∀b o,b≠it->s.heap.get? b=some o->h'.get? b=some o)(hn:H it=none)(hL:it≠X.env.locals)
  (h1:it∈X.ex\/X.s₀.heap.objs.size<=it) (h2:∀x c,X.env.cells.lookup x=some c->c≠it) (h3:∀p∈X.pn++y7,p.1≠it):Inv X y7 σ H { s with heap:=h',toks:=t' }:=by
 have Ub:∀b u,H b=some u->b≠it:=λb u e z=>by rw[z,hn]at e;cases e
 refine I.step (g':=s.gens) (d':=s.drawn) (ch:=[it]) (λb hb=>?_) (λb o _ _ hc e _=>k b o (λz=>hc (by simp[z])) e) (λb o _ _ hc e _=>⟨o.slots,k b o (λz=>hc (by simp[z])) e⟩) (λ_ _ _ _ n=>n)
  (λb o hc e=>⟨o,k b o (λz=>hc (by simp[z])) e⟩) (λ_ _ e=>e) (λ_ _ _ e=>e) (λb ps e=>⟨#[],by rw[e];simp⟩) (λm hm=>?_) (λb u e=>?_) I.bare
 ·have e:b=it:=by simpa using hb
  subst e;exact⟨h1,hL,h2,h3⟩
 ·obtain⟨o,es,ep,ho,r⟩:=hm
  exact⟨o,es,ep,k _ o (Ne.symm hL) ho,r⟩
 ·refine(I.hok b u e).stay (λc v hc q=>k c v ?_ q) (λ_ q=>q) λ_ _ q=>q
  rcases hc with z | z
  ·rw[z];exact Ub b u e
  ·exact Ub c _ z
theorem Inv.tok (I:Inv X y7 σ H s)(t:Nat):Inv X y7 σ H { s with toks:=t }:=I.un (h':=s.heap) (t':=t) Un.refl I.hok
theorem Inv.kept {t':Nat}(I:Inv X y7 σ H s)(k:∀b u,s.heap.get? b=some u->h'.get? b=some u):Inv X y7 σ H { s with heap:=h',toks:=t' }:=I.un (Un.kept k) (I.hok.kept k)
theorem Inv.laid {a:Addr}{o:HO}{t':Nat}(I:Inv X y7 σ H s)(k:∀b u,s.heap.get? b=some u->h'.get? b=some u)(hp:s.heap.objs.size<=a)(new:cW X.prog X.w (upd H a o) h' a o) :
  Inv X y7 σ (upd H a o) { s with heap:=h',toks:=t' }:=I.un (Un.laid k hp (I.hok.fresh hp)) (I.hok.laid k hp new)
theorem Inv.write {x e:Addr}{o:HO}{t':Nat}(I:Inv X y7 σ H s)(mu:T8 (H x))(he:e=x\/H e=some (.own x))(k:∀b u,b≠e->s.heap.get? b=some u->h'.get? b=some u)(heo:∃u,h'.get? e=some u)
  (new:cW X.prog X.w (upd H x o) h' x o):Inv X y7 σ (upd H x o) { s with heap:=h',toks:=t' }:=I.un (Un.write mu he k heo) (I.hok.write mu he k heo new)
theorem Inv.Pg {Aw:List (Addr × Obj)}(I:Inv X y7 σ H s)(h:∀p∈Aw,s.heap.get? p.1=some p.2/\H p.1=none/\p.1≠X.env.locals/\p.1∉X.fs/\∀v,p.2.data≠.cell v):Inv X Aw σ H s:=
 ⟨I.ok,I.os,I.bare,I.base,I.loc,I.cell,I.free,I.iM,λp hp=>(List.mem_append.mp hp).elim (λz=>I.pin p (List.mem_append_left _ z)) (h p),I.hok,I.len⟩
theorem Ci {N:List Str}(hN:N.Nodup){i j:Nat}{x:Str}(a:N[i]?=some x)(b:N[j]?=some x):i=j:=by
 obtain⟨h1,e1⟩:=List.getElem?_eq_some_iff.mp a;obtain⟨h2,e2⟩:=List.getElem?_eq_some_iff.mp b;exact(List.getElem_inj hN).mp (e1.trans e2.symm)
theorem H_ {M:Model}{A:Around}{E:Value->Shared->Prop}{i:Nat}{x:Str}{v:V}{u:Value}{Q:Unit->Shared->Prop}(I:Inv X y7 σ H s)(hN:X.N.Nodup)(hi:X.N[i]?=some x)(hx:Loc X.env.scope x)(r:RelV v u)
  (h:∀s',Inv X y7 (σ.set i (some v)) H s'->(∃a,Heap.SameBut a s.heap s'.heap/\(a=X.env.locals\/X.env.cells.lookup x=some a))->Q () s') (hf:X.fn x=true\/X.env.scope.names.lookup x=some .local:=by first | exact .inl rfl | exact .inr rfl | assumption):wpAny M A (storeName X.env x u) Q E s:=by
 obtain⟨m,hn,hl⟩:=id I.loc;have hcls:(X.env.scope.kind == .class||(X.env.scope.kind == .module&&X.env.locals != X.env.globals))=false:=by rw[I.ok.kind];rfl
 have hiσ:i < σ.length:=by rw[I.len];exact(List.getElem?_eq_some_iff.mp hi).1
 have El:=I.El;have tracked:∀{a:Addr} {h':Heap},(∃o,s.heap.get? a=some o/\H a=none)->Heap.SameBut a s.heap h'->iy X.prog X.w H h':=λ{a h'} ha hs b ob e=>by
  obtain⟨_,_,hfree⟩:=ha;refine(I.hok b ob e).stay (λc w' hc q=>(hs.2 c ?_).trans q) (λ_ q=>q) λ_ _ q=>q;rintro rfl;rcases hc with rfl | hc
  ·rw[hfree]at e;cases e
  ·rw[hfree]at hc;cases hc
 rcases hx with hk | hk
 ·refine wpAny_storeName_local hk hn (λh' hn' hs=>?_) hcls
  obtain⟨oL,_,_,hoL,_⟩:=id hn;refine h _ ⟨I.ok,I.os,I.bare,⟨λb o e n hb hx=>?_,λb o e n hb hx=>?_,I.base.free,λb o e hx=>?_,I.base.tups,I.base.jX,I.base.j8⟩,⟨_,hn',λj y v' e1 e2 e3=>?_⟩,λy c e=>?_,I.free,I.iM,λp hp=>?_,tracked ⟨oL,hoL,I.free⟩ hs,by simpa using I.len⟩ ⟨_,hs,.inl rfl⟩
  ·exact(hs.2 b (Nat.ne_of_lt (Nat.lt_of_lt_of_le (Heap.lt_size e) I.ok.above))).trans (I.base.keep b o e n hb hx)
  ·obtain⟨sl,e1⟩:=I.base.slot b o e n hb hx
   exact⟨sl,(hs.2 b (Nat.ne_of_lt (Nat.lt_of_lt_of_le (Heap.lt_size e) I.ok.above))).trans e1⟩
  ·obtain⟨o',e1⟩:=I.base.there b o e hx
   exact⟨o',(hs.2 b (Nat.ne_of_lt (Nat.lt_of_lt_of_le (Heap.lt_size e) I.ok.above))).trans e1⟩
  ·by_cases hj:j=i
   ·subst hj
    rw[hi]at e1;cases e1;rw[List.getElem?_set_self hiσ]at e2;cases e2;exact⟨u,r,.inl ⟨hk,by simp⟩⟩
   ·rw[List.getElem?_set_ne (Ne.symm hj)]at e2
    obtain⟨u',r',q⟩:=hl j y v' e1 e2 e3;refine⟨u',r',?_⟩;rcases q with⟨k,e⟩ | ⟨k,c,e,z⟩
    ·refine .inl ⟨k,?_⟩
     have:y≠x:=λe=>hj (Ci hN e1 (e ▸ hi));simp[this,e]
    ·exact .inr ⟨k,c,e,z.sameBut hs (El y c e)⟩
  ·obtain⟨w',z⟩:=I.cell y c e
   exact⟨w',z.sameBut hs (El y c e)⟩
  ·obtain⟨e,n,ne,nf,d⟩:=I.pin p hp
   exact⟨(hs.2 p.1 ne).trans e,n,ne,nf,d⟩
 ·have hfn:X.fn x=true:=by
   rcases hf with z | z
   ·exact z
   ·rw[z]at hk;cases hk
  obtain⟨c,hc⟩:=I.ok.has x (.inl hk);obtain⟨w',z⟩:=I.cell x c hc;refine wpAny_storeName_cell I.ok.kind hk hc z (λh' hc' hs=>?_);obtain⟨oc,hoc,afe⟩:=id z;refine h { s with heap:=h' } ⟨I.ok,I.os,I.bare,⟨λb o e n hb hx=>?_,λb o e n hb hx=>?_,I.base.free,λb o e hx=>?_,I.base.tups,I.base.jX,I.base.j8⟩,⟨m,hn.sameBut hs (Ne.symm (El x c hc)),λj y v' e1 e2 e3=>?_⟩,λy c' e=>?_,I.free,I.iM,λp hp=>?_,tracked ⟨oc,hoc,I.iM x c hc⟩ hs,by simpa using I.len⟩ ⟨c,hs,.inr hc⟩
  ·exact(hs.2 b (Nat.ne_of_lt (Nat.lt_of_lt_of_le (Heap.lt_size e) (I.ok.cab x c hfn hc)))).trans (I.base.keep b o e n hb hx)
  ·obtain⟨sl,e1⟩:=I.base.slot b o e n hb hx
   exact⟨sl,(hs.2 b (Nat.ne_of_lt (Nat.lt_of_lt_of_le (Heap.lt_size e) (I.ok.cab x c hfn hc)))).trans e1⟩
  ·obtain⟨o',e1⟩:=I.base.there b o e hx
   exact⟨o',(hs.2 b (Nat.ne_of_lt (Nat.lt_of_lt_of_le (Heap.lt_size e) (I.ok.cab x c hfn hc)))).trans e1⟩
  ·by_cases hj:j=i
   ·subst hj
    rw[hi]at e1;cases e1;rw[List.getElem?_set_self hiσ]at e2;cases e2;exact⟨u,r,.inr ⟨.inl hk,c,hc,hc'⟩⟩
   ·rw[List.getElem?_set_ne (Ne.symm hj)]at e2
    obtain⟨u',r',q⟩:=hl j y v' e1 e2 e3;refine⟨u',r',?_⟩;rcases q with q | ⟨k,c',e,z'⟩
    ·exact .inl q
    ·refine .inr ⟨k,c',e,z'.sameBut hs ?_⟩
     rintro rfl;exact hj (Ci hN e1 (I.ok.inj _ _ _ e hc ▸ hi))
  ·by_cases hcc:c'=c
   ·subst hcc;exact⟨_,hc'⟩
   ·obtain⟨w2,z2⟩:=I.cell y c' e
    exact⟨w2,z2.sameBut hs hcc⟩
  ·obtain⟨e,n,ne,nf,d⟩:=I.pin p hp
   refine⟨(hs.2 p.1 ?_).trans e,n,ne,nf,d⟩;intro q;rw[q,hoc]at e;have q':oc=p.2:=Option.some.inj e;exact d w' (by rw[<- q'];exact afe)
theorem vY {M:Model}{A:Around}{E:Value->Shared->Prop}{i:Nat}{x:Str}{v:V}{u:Value}{Q:Unit->Shared->Prop}(I:Inv X y7 σ H s)(hN:X.N.Nodup)(hi:X.N[i]?=some x)(hx:Loc X.env.scope x)(r:RelV v u)
  (h:∀s',Inv X y7 (σ.set i (some v)) H s'->Q () s') (hf:X.fn x=true\/X.env.scope.names.lookup x=some .local:=by first | exact .inl rfl | exact .inr rfl | assumption):wpAny M A (storeName X.env x u) Q E s:=
 H_ I hN hi hx r (λs' I' _=>h s' I') hf
theorem Inv.call' {s':Shared}{ch:List Addr}(I:Inv X y7 σ H s)(ho:s'.os=s.os)(u:Un (frs X.stack) ch H H' s.heap s'.heap)(hok:iy X.prog X.w H' s'.heap)(hg:AllBare s'.gens)
  (hch:∀b∈ch,(b∈X.ex\/X.s₀.heap.objs.size<=b)/\b≠X.env.locals/\(∀x c,X.env.cells.lookup x=some c->c≠b)/\∀p∈X.pn++y7,p.1≠b):Inv X y7 σ H' s':=by
 obtain⟨h',g',d',t',o'⟩:=s';have e:o'=s.os:=ho;subst e;exact I.call (g':=g') (t':=t') (d':=d') u hok hg hch
end
abbrev XK:=Value->Option Addr->Hp->Prop
abbrev St:=List (Option V)
abbrev VK:=V->Hp->Prop
abbrev TE:=St->Hp->VK->Prop
abbrev TT:=St->Hp->(Bool->Hp->Prop)->Prop
abbrev TA:=St->Hp->(List V->Hp->Prop)->Prop
structure Ends where
 nx:St->Hp->Prop
 rt:VK
 bk:St->Hp->Prop:=λ_ _=>False
 ct:St->Hp->Prop:=λ_ _=>False
abbrev TS:=Ends->St->Hp->Prop
noncomputable def EP (X:Cx)(y7:List (Addr × Obj))(σ:St)(Q:VK)(u:Value)(s':Shared):Prop:=∃v H',Inv X y7 σ H' s'/\RelV v u/\Q v H'
noncomputable def TP (X:Cx)(y7:List (Addr × Obj))(σ:St)(Q:Bool->Hp->Prop)(b:Bool)(s':Shared):Prop:=∃H',Inv X y7 σ H' s'/\Q b H'
noncomputable def AP (X:Cx)(y7:List (Addr × Obj))(σ:St)(Q:List V->Hp->Prop)(us:List Value)(s':Shared):Prop:=∃vs H',Inv X y7 σ H' s'/\Vals vs us/\Q vs H'
noncomputable def SP (X:Cx)(y7:List (Addr × Obj))(D:Ends)(f:Flow)(s':Shared):Prop:=
 match f with
 | .next=>∃σ' H',Inv X y7 σ' H' s'/\D.nx σ' H'
 | .brk=>∃σ' H',Inv X y7 σ' H' s'/\D.bk σ' H'
 | .cont=>∃σ' H',Inv X y7 σ' H' s'/\D.ct σ' H'
 | .ret u=>∃v σ' H',Inv X y7 σ' H' s'/\RelV v u/\D.rt v H'
noncomputable def PE (X:Cx)(e:Expr)(t:TE):Prop:=
 ∀(y7:List (Addr × Obj)) (s:Shared) (σ:St) (H:Hp) (Q:VK),Inv X y7 σ H s->t σ H Q->wpAny (model X.prog X.w) X.A (eval e X.env) (EP X y7 σ Q) X.xe s
noncomputable def PT (X:Cx)(e:Expr)(t:TT):Prop:=
 ∀(y7:List (Addr × Obj)) (s:Shared) (σ:St) (H:Hp) (Q:Bool->Hp->Prop),Inv X y7 σ H s->t σ H Q->wpAny (model X.prog X.w) X.A (isTrue e X.env (eval e X.env)) (TP X y7 σ Q) X.xe s
noncomputable def PW (X:Cx)(e:Expr)(t:TT):Prop:=
 ∀(whole:Sem Value) (y7:List (Addr × Obj)) (s:Shared) (σ:St) (H:Hp) (Q:Bool->Hp->Prop),Inv X y7 σ H s->t σ H Q->wpAny (model X.prog X.w) X.A (isTrue e X.env whole) (TP X y7 σ Q) X.xe s
theorem PW.pt {X:Cx}{e:Expr}{t:TT}(h:PW X e t):PT X e t:=h _
noncomputable def PA (X:Cx)(es:List Expr)(t:TA):Prop:=
 ∀(pos:Pos) (y7:List (Addr × Obj)) (s:Shared) (σ:St) (H:Hp) (Q:List V->Hp->Prop),Inv X y7 σ H s->t σ H Q->wpAny (model X.prog X.w) X.A (spliced (backTo pos (starEach es X.env))) (AP X y7 σ Q) X.xe s
noncomputable def PS (X:Cx)(st:Stmt)(t:TS):Prop:=
 ∀(y7:List (Addr × Obj)) (s:Shared) (σ:St) (H:Hp) (D:Ends),Inv X y7 σ H s->t D σ H->wpAny (model X.prog X.w) X.A (exec st X.env) (SP X y7 D) X.xe s
noncomputable def qM (X:Cx)(st:List Stmt)(t:TS):Prop:=
 ∀(y7:List (Addr × Obj)) (s:Shared) (σ:St) (H:Hp) (D:Ends),Inv X y7 σ H s->t D σ H->wpAny (model X.prog X.w) X.A (execs st X.env) (SP X y7 D) X.xe s
theorem bG {α:Type}{t:Sem α}{Q Q':α->Shared->Prop}{M:Model}{A:Around}{E:Value->Shared->Prop}{s:Shared}(h:wpAny M A t Q E s)(hQ:∀a s,Q a s->Q' a s):wpAny M A t Q' E s:=wpAny_mono h hQ λ_ _ x=>x
section
variable {X:Cx}
noncomputable def gU (i:Nat):TE:=λσ H Q=>∃v,σ[i]?=some (some v)/\Q v H
noncomputable def tC (v:V):TE:=λ_ H Q=>Q v H
theorem acj {i:Nat}{x:Str}{pos:Pos}(hN:X.N[i]?=some x)(hv:ZV X.env.scope x)(hd:(x==("__debug__":Str))=false:=by decide)(hcd:(x==("__classdict__":Str))=false:=by decide):PE X (.Name x pos) (gU i):=by
 intro y7 s σ H Q I h;obtain⟨v,e,h⟩:=h;obtain⟨m,hn,hl⟩:=I.loc;obtain⟨u,r,l⟩:=hl i x v hN e hv;have fin:EP X y7 σ Q u s:=⟨v,H,I,r,h⟩
 rcases l with⟨hk,hm⟩ | ⟨hk,c,hc,hcell⟩
 ·exact wpAny_Name (wpAny_loadName_local I.ok.kind hk hn hm fin) hd
 ·rcases hk with hk | hk
  ·exact wpAny_Name (wpAny_loadName_cell I.ok.kind hk hc hcell fin) hd
  ·exact wpAny_Name (wpAny_loadName_free I.ok.kind hk hc hcell fin hcd) hd
theorem acn {i j pos}:PE X (.Constant (.int i) j pos) (tC (.int i)):=λ_ _ _ H _ I h=>wpAny_Constant_int ⟨.int i,H,I.tok _,⟨_,rfl⟩,h⟩
theorem aeD {b j pos}:PE X (.Constant (.bool b) j pos) (tC (.bl b)):=λ_ _ _ H _ I h=>Constant_bool ⟨.bl b,H,I,rfl,h⟩
theorem aco {j pos}:PE X (.Constant .none j pos) (tC .non):=λ_ _ _ H _ I h=>Constant_none ⟨.non,H,I,rfl,h⟩
theorem acp {x j pos}:PE X (.Constant (.str x) j pos) (tC (.str x)):=λ_ _ _ H _ I h=>Calls.Constant_str ⟨.str x,H,I.tok _,⟨_,rfl⟩,h⟩
noncomputable def Gl (X:Cx)(x:Str):Prop:=X.env.kindOf x=some .globalImplicit
theorem mZ {E:Value->Shared->Prop}{y7:List (Addr × Obj)}{s:Shared}{σ:St}{H:Hp}{x:Str}{u:Value}{pos:Pos}{Q:Value->Shared->Prop}(I:Inv X y7 σ H s)(hg:Gl X x)(hm:X.mg x=some u)(h:Q u s)
  (hd:(x==("__debug__":Str))=false:=by decide):wpAny (model X.prog X.w) X.A (eval (.Name x pos) X.env) Q E s:=
 Calls.Name_function_global I.ok.kind hg (Calls.loadGlobal_global (by rw[I.ok.glob];exact I.mod.glob.keeps I.bk) hm h) hd
theorem vq {E:Value->Shared->Prop}{y7:List (Addr × Obj)}{s:Shared}{σ:St}{H:Hp}{x:Str}{u:Value}{pos:Pos}{Q:Value->Shared->Prop}(I:Inv X y7 σ H s)(hg:Gl X x)(hm:X.mg x=none)(hv:bootBuiltins x=some u)(h:Q u s)
  (hn:x≠"__name__":=by decide) (hd:(x==("__debug__":Str))=false:=by decide):wpAny (model X.prog X.w) X.A (eval (.Name x pos) X.env) Q E s:=by
 obtain⟨mb,h1,h2⟩:=I.mod.blt;exact Calls.Name_function_global I.ok.kind hg (Calls.loadGlobal_builtin (by rw[I.ok.glob];exact I.mod.glob.keeps I.bk) hm (by rw[I.ok.blt];exact h1.keeps I.bk) ((h2 x hn).trans hv) h) hd
theorem aaz {x:Str}{v:V}{u:Value}{pos:Pos}(hg:Gl X x)(hm:X.mg x=some u)(r:RelV v u)(hd:(x==("__debug__":Str))=false:=by decide):PE X (.Name x pos) (tC v):=
 λ_ _ _ H _ I h=>mZ I hg hm ⟨v,H,I,r,h⟩ hd
theorem aaA {x:Str}{v:V}{u:Value}{pos:Pos}(hg:Gl X x)(hm:X.mg x=none)(hv:bootBuiltins x=some u)(r:RelV v u)(hn:x≠"__name__":=by decide)(hd:(x==("__debug__":Str))=false:=by decide):PE X (.Name x pos) (tC v):=
 λ_ _ _ H _ I h=>vq I hg hm hv ⟨v,H,I,r,h⟩ hn hd
variable {a b:Expr}{ta tb:TE}{pos:Pos}
noncomputable def PC (X:Cx)(op:CmpOp)(a b:Expr)(t:TE):Prop:=
 ∀(y7:List (Addr × Obj)) (s:Shared) (σ:St) (H:Hp) (Q:VK),Inv X y7 σ H s->t σ H Q->
  wpAny (model X.prog X.w) X.A (eval a X.env) (λv s₁=>wpAny (model X.prog X.w) X.A (eval b X.env) (λu s₂=>wpAny (model X.prog X.w) X.A (compareOp op v u) (EP X y7 σ Q) X.xe s₂) X.xe s₁) X.xe s
noncomputable def tB (t:TE):TT:=λσ H Q=>t σ H λx H1=>∃c,x=.bl c/\Q c H1
theorem acq {op:CmpOp}{t:TE}(h:PC X op a b t)(h1:behindInMarks op b=false:=by first | exact Xp _ (by decide) (by decide) | rfl):PE X (.Compare a [op] [b] pos) t:=λy7 s σ H Q I hw=>wpAny_Compare1 (h y7 s σ H Q I hw) h1
theorem acr {e:Expr}{t:TE}(h:PE X e t)(he:∀whole,isTrue e X.env whole=(do let v <- whole;standAt e.pos;holding [v] (truthy v)):=by intro _;rfl):PT X e (tB t):=by
 intro y7 s σ H Q I hw;refine isTrue_plain (bG (h y7 s σ H _ I hw) λv s1 zz=>?_) (he _);obtain⟨x,H1,I1,r1,q1⟩:=zz;obtain⟨d,rfl,q⟩:=q1;cases r1;exact wpAny_truthy_bool ⟨H1,I1,q⟩
variable {tA lN:TT}{rest:List Expr}
noncomputable def acs (t u:TT):TT:=λσ H Q=>t σ H λc H1=>if c=true then u σ H1 Q else Q false H1
noncomputable def tOr (t u:TT):TT:=λσ H Q=>t σ H λc H1=>if c=true then Q true H1 else u σ H1 Q
noncomputable def acu (t:TT):TT:=λσ H Q=>t σ H λc H1=>Q (!c) H1
theorem aaB (ha:PT X a tA):PW X (.BoolOp .And [a] pos) tA:=by
 intro wh y7 s σ H Q I h;refine isTrue_and (bG (ha y7 s σ H Q I h) λc s1 e=>?_);cases c with
 | true=>exact isTrue_and_nil e
 | false=>exact e
theorem acv (ha:PT X a tA):PW X (.BoolOp .Or [a] pos) tA:=by
 intro wh y7 s σ H Q I h;refine isTrue_or (bG (ha y7 s σ H Q I h) λc s1 e=>?_);cases c with
 | false=>exact isTrue_or_nil e
 | true=>exact e
theorem acw (ha:PT X a tA)(hb:PW X (.BoolOp .And (b::rest) pos) lN):PW X (.BoolOp .And (a::b::rest) pos) (acs tA lN):=by
 intro wh y7 s σ H Q I h;refine isTrue_and (bG (ha y7 s σ H _ I h) λc s1 zz=>?_);obtain⟨H1,I1,q1⟩:=zz;cases c with
 | true=>exact hb wh y7 s1 σ H1 Q I1 q1
 | false=>exact⟨H1,I1,q1⟩
theorem aeE (ha:PT X a tA)(hb:PW X (.BoolOp .Or (b::rest) pos) lN):PW X (.BoolOp .Or (a::b::rest) pos) (tOr tA lN):=by
 intro wh y7 s σ H Q I h;refine isTrue_or (bG (ha y7 s σ H _ I h) λc s1 zz=>?_);obtain⟨H1,I1,q1⟩:=zz;cases c with
 | true=>exact⟨H1,I1,q1⟩
 | false=>exact hb wh y7 s1 σ H1 Q I1 q1
theorem acy (ha:PT X a tA):PT X (.UnaryOp .Not a pos) (acu tA):=by
 intro y7 s σ H Q I h;exact isTrue_not (ha y7 s σ H (λc H1=>Q (!c) H1) I h)
noncomputable def ZW (ta tb:TE):TE:=λσ H Q=>ta σ H λx H1=>∃c,x=.bl c/\if c=true then tb σ H1 Q else Q (.bl false) H1
noncomputable def acz (ta tb:TE):TE:=λσ H Q=>ta σ H λx H1=>∃c,x=.bl c/\if c=true then Q (.bl true) H1 else tb σ H1 Q
noncomputable def ZX (ta:TE):TE:=λσ H Q=>ta σ H λx H1=>∃c,x=.bl c/\Q (.bl (!c)) H1
theorem acA {op}{t:TE}(h:PE X a t):PE X (.BoolOp op [a] pos) t:=λy7 s σ H Q I hw=>BoolOp_one (h y7 s σ H Q I hw)
theorem acB (ha:PE X a ta)(hb:PE X (.BoolOp .And (b::rest) pos) tb):PE X (.BoolOp .And (a::b::rest) pos) (ZW ta tb):=by
 intro y7 s σ H Q I h;refine BoolOp_and (bG (ha y7 s σ H _ I h) λv s1 zz=>?_);obtain⟨x,H1,I1,r1,q1⟩:=zz;obtain⟨c,rfl,q1⟩:=q1;cases r1;refine wpAny_truthy_bool ?_;cases c with
 | true=>exact hb y7 s1 σ H1 Q I1 q1
 | false=>exact⟨.bl false,H1,I1,rfl,q1⟩
theorem aeF (ha:PE X a ta)(hb:PE X (.BoolOp .Or (b::rest) pos) tb):PE X (.BoolOp .Or (a::b::rest) pos) (acz ta tb):=by
 intro y7 s σ H Q I h;refine BoolOp_or (bG (ha y7 s σ H _ I h) λv s1 zz=>?_);obtain⟨x,H1,I1,r1,q1⟩:=zz;obtain⟨c,rfl,q1⟩:=q1;cases r1;refine wpAny_truthy_bool ?_;cases c with
 | false=>exact hb y7 s1 σ H1 Q I1 q1
 | true=>exact⟨.bl true,H1,I1,rfl,q1⟩
theorem acC (ha:PE X a ta):PE X (.UnaryOp .Not a pos) (ZX ta):=by
 intro y7 s σ H Q I h;refine UnaryOp_ (bG (ha y7 s σ H _ I h) λv s1 zz=>?_);obtain⟨x,H1,I1,r1,q1⟩:=zz;obtain⟨c,rfl,q1⟩:=q1;cases r1;exact not_of (wpAny_truthy_bool ⟨.bl (!c),H1,I1,rfl,q1⟩)
noncomputable def tIf (t:TT)(ta tb:TE):TE:=λσ H Q=>t σ H λc H1=>if c=true then ta σ H1 Q else tb σ H1 Q
theorem Xq {c:Expr}(hc:PT X c tA)(ha:PE X a ta)(hb:PE X b tb):PE X (.IfExp c a b pos) (tIf tA ta tb):=by
 intro y7 s σ H Q I h;refine wpAny_IfExp (bG (hc y7 s σ H _ I h) λd s1 zz=>?_);obtain⟨H1,I1,q1⟩:=zz;cases d with
 | true=>exact ha y7 s1 σ H1 Q I1 q1
 | false=>exact hb y7 s1 σ H1 Q I1 q1
end
noncomputable def aN (K:W.Frag)(H:Hp)(a:Addr)(xs:List V):Prop:=
 Rd H a (.lst xs)\/
  ∃(o:Obj) (its:Array Value) (n:Nat),K.lookup a=some o/\o.cls=.type "list"/\o.dict=none/\o.data=.seq its n/\its.size<=sizeLine/\Vals xs its.toList
noncomputable def aK (K:W.Frag)(H:Hp)(a:Addr)(xs:List V):Prop:=
 Rd H a (.tup xs)\/
  ∃(o:Obj) (its:Array Value) (n:Nat),K.lookup a=some o/\o.cls=.type "tuple"/\o.data=.seq its n/\its.size<=sizeLine/\Vals xs its.toList
noncomputable def afg:Value->Option V
 | .none=>some .non
 | .bool b=>some (.bl b)
 | .int i _=>some (.int i)
 | .str x _=>some (.str x)
 | .bytes b _=>some (.yx b)
 | .float b _=>some (.flt b)
 | .ref a=>some (.ref a)
 | .type n=>some (.ty n)
 | _=>none
theorem RelV.abs {x:V}{u:Value}(r:RelV x u):afg u=some x:=by
 cases x with
 | non=>cases r;rfl
 | bl _=>cases r;rfl
 | int _=>obtain⟨t,rfl⟩:=r;rfl
 | str _=>obtain⟨t,rfl⟩:=r;rfl
 | yx _=>obtain⟨t,rfl⟩:=r;rfl
 | flt _=>obtain⟨t,rfl⟩:=r;rfl
 | ref _=>cases r;rfl
 | ty _=>cases r;rfl
theorem RelV.inj {x y:V}{u:Value}(r:RelV x u)(q:RelV y u):x=y:=Option.some.inj (r.abs.symm.trans q.abs)
theorem Vals.inj:∀{xs ys:List V} {us:List Value},Vals xs us->Vals ys us->xs=ys
 | _,_,_,.nil,.nil=>rfl
 | _,_,_,.cons r t,.cons r' t'=>by rw[r.inj r',Vals.inj t t']
section
variable {X:Cx}{y7:List (Addr × Obj)}{σ:St}{H:Hp}{s:Shared}{a:Addr}{xs ys:List V}
theorem aN.of {K:W.Frag}(h:H a=some (.lst xs)):aN K H a xs:=.inl (.inl h)
theorem aK.of {K:W.Frag}(h:H a=some (.tup xs)):aK K H a xs:=.inl (.inl h)
theorem Inv.list (I:Inv X y7 σ H s)(h:aN X.K H a xs):∃its:List Value,Vals xs its/\PlainL s.heap a its.toArray/\xs.length<=sizeLine:=by
 rcases h with h | ⟨o,its,n,hk,hc,hd,hs,hz,r⟩
 ·obtain⟨z,its,n,r,e⟩:=h.ok I.hok
  exact⟨its,r,⟨_,n,e,rfl,rfl,rfl⟩,z⟩
 ·refine⟨its.toList,r,⟨o,n,I.fL a o hk,hc,hd,by simpa using hs⟩,?_⟩
  have e:=r.length;simp only[Array.length_toList]at e;omega
theorem Inv.tuple (I:Inv X y7 σ H s)(h:aK X.K H a xs):∃its:List Value,Vals xs its/\IsTup s.heap a its.toArray/\xs.length<=sizeLine:=by
 rcases h with h | ⟨o,its,n,hk,hc,hs,hz,r⟩
 ·obtain⟨z,its,r,p⟩:=h.ok I.hok
  exact⟨its,r,p,z⟩
 ·refine⟨its.toList,r,⟨o,I.fL a o hk,hc,n,by simpa using hs⟩,?_⟩
  have e:=r.length;simp only[Array.length_toList]at e;omega
theorem Inv.Cj (I:Inv X y7 σ H s)(h:aN X.K H a xs)(h':aN X.K H a ys):xs=ys:=by
 obtain⟨its,r,⟨o,n,e,_,_,d⟩,_⟩:=I.list h;obtain⟨its',r',⟨o',n',e',_,_,d'⟩,_⟩:=I.list h';rw[e]at e';cases e';rw[d]at d';injection d' with d1 _;have:its=its':=by simpa using congrArg Array.toList d1
 subst this;exact r.inj r'
theorem Inv.Uc (I:Inv X y7 σ H s)(h:aK X.K H a xs)(h':aK X.K H a ys):xs=ys:=by
 obtain⟨its,r,⟨o,e,_,n,d⟩,_⟩:=I.tuple h;obtain⟨its',r',⟨o',e',_,n',d'⟩,_⟩:=I.tuple h';rw[e]at e';cases e';rw[d]at d';injection d' with d1 _;have:its=its':=by simpa using congrArg Array.toList d1
 subst this;exact r.inj r'
end
abbrev Cx.wish (X:Cx)(E:Value->Shared->Prop):Cx:={ X with xe:=E }
abbrev Cx.Kh (X:Cx):Cx:=X.wish λ_ _=>False
theorem Cx.Ok.wish {X:Cx}(ok:X.Ok)(E:Value->Shared->Prop):(X.wish E).Ok:=
 ⟨ok.mod,ok.kind,ok.glob,ok.blt,ok.above,ok.inj,ok.has,ok.cab,ok.hd,ok.frames,ok.stk,ok.T_,ok.bs,ok.qK,ok.uN,ok.Cg,ok.lH,ok.yK⟩
theorem Cx.Ok.pP {X:Cx}{E:Value->Shared->Prop}(ok:(X.wish E).Ok):X.Ok:=
 ⟨ok.mod,ok.kind,ok.glob,ok.blt,ok.above,ok.inj,ok.has,ok.cab,ok.hd,ok.frames,ok.stk,ok.T_,ok.bs,ok.qK,ok.uN,ok.Cg,ok.lH,ok.yK⟩
section
variable {X:Cx}{y7:List (Addr × Obj)}{σ:St}{H:Hp}{s:Shared}{E:Value->Shared->Prop}
theorem Inv.wish (I:Inv X y7 σ H s)(E:Value->Shared->Prop):Inv (X.wish E) y7 σ H s:=⟨I.ok.wish E,I.os,I.bare,I.base,I.loc,I.cell,I.free,I.iM,I.pin,I.hok,I.len⟩
theorem Inv.pP (I:Inv (X.wish E) y7 σ H s):Inv X y7 σ H s:=⟨I.ok.pP,I.os,I.bare,I.base,I.loc,I.cell,I.free,I.iM,I.pin,I.hok,I.len⟩
theorem SP.pP {D:Ends}{f:Flow}{s':Shared}(h:SP (X.wish E) y7 D f s'):SP X y7 D f s':=by
 cases f with
 | next=>obtain⟨σ',H',I,q⟩:=h;exact⟨σ',H',I.pP,q⟩
 | brk=>obtain⟨σ',H',I,q⟩:=h;exact⟨σ',H',I.pP,q⟩
 | cont=>obtain⟨σ',H',I,q⟩:=h;exact⟨σ',H',I.pP,q⟩
 | ret u=>obtain⟨v,σ',H',I,r,q⟩:=h;exact⟨v,σ',H',I.pP,r,q⟩
theorem qM.Kh {st:List Stmt}{t:TS}(h:qM X.Kh st t):qM X st t:=λy7 s σ H D I hw=>
 wpAny_mono (h y7 s σ H D (I.wish _) hw) (λ_ _ q=>q.pP) λ_ _ z=>False.elim z
end
section
variable {X:Cx}{st:Stmt}{rest:List Stmt}{t u:TS}{e:Expr}{te:TE}{pos:Pos}
noncomputable def Z0:TS:=λD σ H=>D.nx σ H
noncomputable def acD (t u:TS):TS:=λD σ H=>t { D with nx:=u D } σ H
theorem aaC:qM X [] Z0:=λ_ _ σ H _ I h=>wpAny_execs_nil ⟨σ,H,I,h⟩
theorem Xr (h1:PS X st t)(h2:qM X rest u):qM X (st::rest) (acD t u):=by
 intro y7 s σ H D I h;refine wpAny_execs_cons (bG (h1 y7 s σ H { D with nx:=u D } I h) λf s1 q=>?_);cases f with
 | next=>
  obtain⟨σ',H',I',q⟩:=q;exact h2 y7 s1 σ' H' D I' q
 | ret v=>exact q
 | brk=>exact q
 | cont=>exact q
theorem aaD (h1:PS X st t):qM X [st] t:=by
 intro y7 s σ H D I h;refine wpAny_execs_cons (bG (h1 y7 s σ H D I h) λf s1 q=>?_);cases f with
 | next=>exact wpAny_execs_nil q
 | ret v=>exact q
 | brk=>exact q
 | cont=>exact q
theorem Inv.quiet {y7:List (Addr × Obj)}{σ:St}{H:Hp}{s:Shared}(I:Inv X y7 σ H s):interactive X.env=false:=by simp[interactive,I.ok.kind]
noncomputable def Z1 (te:TE):TS:=λD σ H=>te σ H λ_ H1=>D.nx σ H1
theorem aaE (he:PE X e te)(hs:swapsWith e none pos.line X.env=pure false:=by rfl):PS X (.Expr e pos) (Z1 te):=by
 intro y7 s σ H D I h;exact wpAny_Expr_any (bG (he y7 s σ H _ I h) λv s1 ⟨x,H1,I1,r1,q1⟩=>⟨σ,H1,I1,q1⟩) I.quiet hs
noncomputable def Xu (te:TE):TS:=λD σ H=>te σ H D.rt
theorem acE (he:PE X e te):PS X (.Return (some e) pos) (Xu te):=by
 intro y7 s σ H D I h;exact wpAny_Return_some (bG (he y7 s σ H _ I h) λv s1 ⟨x,H1,I1,r1,q1⟩=>⟨x,σ,H1,I1,r1,q1⟩)
noncomputable def acF (c:TT)(t u:TS):TS:=λD σ H=>c σ H λb H1=>if b=true then t D σ H1 else u D σ H1
theorem aeG {c:Expr}{a b:List Stmt}{tc:TT}(hc:PT X c tc)(ha:qM X a t)(hb:qM X b u):PS X (.If c a b pos) (acF tc t u):=by
 intro y7 s σ H D I h;refine wpAny_If (bG (hc y7 s σ H _ I h) λd s1 zz=>?_);obtain⟨H1,I1,q1⟩:=zz;cases d with
 | true=>exact ha y7 s1 σ H1 D I1 q1
 | false=>exact hb y7 s1 σ H1 D I1 q1
noncomputable def Ud:TS:=λ_ _ _=>False
theorem Ue {sts:List Stmt}:qM X sts Ud:=λ_ _ _ _ _ _ h=>h.elim
end
abbrev TG:=V->St->Hp->(St->Hp->Prop)->Prop
abbrev yC:=List V->St->Hp->(St->Hp->Prop)->Prop
noncomputable def PG (X:Cx)(target:Expr)(t:TG):Prop:=
 ∀(y7:List (Addr × Obj)) (s:Shared) (σ:St) (H:Hp) (v:V) (u:Value) (Q:St->Hp->Prop),Inv X y7 σ H s->RelV v u->t v σ H Q->
  wpAny (model X.prog X.w) X.A (assign target X.env u) (λ_ s'=>∃σ' H',Inv X y7 σ' H' s'/\Q σ' H') X.xe s
noncomputable def Ug (X:Cx)(ts:List Expr)(t:yC):Prop:=
 ∀(y7:List (Addr × Obj)) (s:Shared) (σ:St) (H:Hp) (vs:List V) (us:List Value) (Q:St->Hp->Prop),Inv X y7 σ H s->Vals vs us->t vs σ H Q->
  wpAny (model X.prog X.w) X.A (assignInOrder ((assignEach ts X.env).map (·.2)) us) (λ_ s'=>∃σ' H',Inv X y7 σ' H' s'/\Q σ' H') X.xe s
abbrev Q9:=V->V->V->Hp->(Hp->Prop)->Prop
noncomputable def Xv (X:Cx)(t:Q9):Prop:=
 ∀(y7:List (Addr × Obj)) (s:Shared) (σ:St) (H:Hp) (o i v:V) (ov iv u:Value) (Q:Hp->Prop),Inv X y7 σ H s->RelV o ov->RelV i iv->RelV v u->t o i v H Q->
  wpAny (model X.prog X.w) X.A (setItem ov iv u) (λ_ s'=>∃H',Inv X y7 σ H' s'/\Q H') X.xe s
section
variable {X:Cx}{pos:Pos}
noncomputable def jE (i:Nat):TG:=λv σ H Q=>Q (σ.set i (some v)) H
theorem jq {i:Nat}{x:Str}(hN:X.N.Nodup)(hi:X.N[i]?=some x)(hx:Loc X.env.scope x)(hf:X.fn x=true\/X.env.scope.names.lookup x=some .local:=by first | exact .inl rfl | exact .inr rfl | assumption):PG X (.Name x pos) (jE i):=by
 intro y7 s σ H v u Q I r h;exact wpAny_assign_Name (vY I hN hi hx r (λs' I'=>⟨_,H,I',h⟩) hf)
noncomputable def Kl:yC:=λvs σ H Q=>vs=[]/\Q σ H
noncomputable def nD (t:TG)(u:yC):yC:=λvs σ H Q=>∃v r,vs=v::r/\t v σ H λσ' H'=>u r σ' H' Q
theorem Ax:Ug X [] Kl:=by
 intro y7 s σ H vs us Q I r h;obtain⟨e,h⟩:=h;subst e;cases r;exact assignInOrder_nil ⟨σ,H,I,h⟩
theorem jd {e:Expr}{es:List Expr}{t:TG}{u:yC}(h1:PG X e t)(h2:Ug X es u)
  (hs:(assignEach (e::es) X.env).map (·.2)=assign e X.env::(assignEach es X.env).map (·.2):=by rfl):Ug X (e::es) (nD t u):=by
 intro y7 s σ H vs us Q I r h;obtain⟨v,vr,e1,h⟩:=h;subst e1;cases r with
 | cons r rr=>
  rw[hs];refine assignInOrder_cons (bG (h1 y7 s σ H _ _ _ I r h) λ_ s1 zz=>?_);obtain⟨σ1,H1,I1,q1⟩:=zz;exact h2 y7 s1 σ1 H1 _ _ Q I1 rr q1
noncomputable def Km (K:W.Frag)(n:Nat)(t:yC):TG:=λv σ H Q=>∃a xs,v=.ref a/\aK K H a xs/\xs.length=n/\t xs σ H Q
theorem Em {es:List Expr}{k:Nat}{t:yC}{n:Nat}(hc:X.calm=true)(h:Ug X es t)
  (hn:(assignEach es X.env).length=n:=by rfl) (hst:(assignEach es X.env).findIdx? (·.1)=none:=by rfl):PG X (.Tuple es k pos) (Km X.K n t):=by
 intro y7 s σ H v u Q I r hw;obtain⟨a,xs,e1,hq,hl,hw⟩:=hw;subst e1;cases r;obtain⟨its,rv,ht,hz⟩:=I.tuple hq;refine assign_Tuple_tuple (I.ok.hd hc) ht (by simp[hn,<- hl,rv.length]) hst λh' hx=>?_;have I1:Inv X y7 σ H { s with heap:=h' }:=I.kept (t':=s.toks) λb o e=>hx b o (Nat.ne_of_lt (Heap.lt_size e)) e;exact h y7 _ σ H xs _ Q I1 (by simpa using rv) hw
noncomputable def acG (to ti:TE)(t:Q9):TG:=λv σ H Q=>to σ H λo H1=>ti σ H1 λi H2=>t o i v H2 λH3=>Q σ H3
theorem acH {o i:Expr}{to ti:TE}{t:Q9}(ho:PE X o to)(hi:PE X i ti)(hs:Xv X t)
  (ha:∀v,assign (.Subscript o i pos) X.env v=(do
   let ov <- holding [v] (eval o X.env)
   let iv <- holding [v,ov] (eval i X.env)
   standAt pos
   holding [v,ov,iv] (setItem ov iv v)
   release [v,ov,iv] []):=by intro _;rfl):PG X (.Subscript o i pos) (acG to ti t):=by
 intro y7 s σ H v u Q I r h;rw[ha];refine wpAny_bind (wpAny_holding (bG (ho y7 s σ H _ I h) λov s1 zz=>?_));obtain⟨x,H1,I1,r1,q1⟩:=zz;refine wpAny_bind (wpAny_holding (bG (hi y7 s1 σ H1 _ I1 q1) λiv s2 zz=>?_));obtain⟨y,H2,I2,r2,q2⟩:=zz;refine wpAny_bind (wpAny_standAt (wpAny_bind (wpAny_holding (bG (hs y7 s2 σ H2 x y v ov iv u _ I2 r1 r2 r q2) λ_ s3 zz=>?_))));obtain⟨H3,I3,q3⟩:=zz;exact wpAny_release ⟨σ,H3,I3,q3⟩
noncomputable def Ck (te:TE)(g:TG):TS:=λD σ H=>te σ H λx H1=>g x σ H1 D.nx
theorem acI {tg e:Expr}{te:TE}{g:TG}(he:PE X e te)(hg:PG X tg g)(hs:swapsWithSole [tg] e pos.line X.env=pure false:=by rfl)(hw:swappedStores [tg] e X.env=pure none:=by rfl)
  (h1:(assignEach [tg] X.env).map (·.2)=[assign tg X.env]:=by rfl):PS X (.Assign [tg] e pos) (Ck te g):=by
 intro y7 s σ H D I h;refine wpAny_Assign_stores (bG (he y7 s σ H _ I h) λv s1 zz=>?_) hs hw;obtain⟨x,H1,I1,r1,q1⟩:=zz;rw[h1];exact bG (hg y7 s1 σ H1 x v _ I1 r1 q1) λ_ s2 q=>q
theorem acJ {i:Nat}{x:Str}{e:Expr}{te:TE}{pos':Pos}(hN:X.N.Nodup)(hi:X.N[i]?=some x)(hx:Loc X.env.scope x)(he:PE X e te)(hs:swapsWith e (some (.Name x pos')) pos.line X.env=pure false:=by rfl)(hf:X.fn x=true\/X.env.scope.names.lookup x=some .local:=by first | exact .inl rfl | exact .inr rfl | assumption) :
  PS X (.Assign [.Name x pos'] e pos) (Ck te (jE i)):=by
 intro y7 s σ H D I h;refine wpAny_Assign_Name (bG (he y7 s σ H _ I h) λv s1 zz=>?_) hs;obtain⟨y,H1,I1,r1,q1⟩:=zz;exact vY I1 hN hi hx r1 (λs2 I2=>⟨_,H1,I2,q1⟩) hf
end
section
variable {X:Cx}{pos:Pos}
noncomputable def Uh (c:TT)(tb:TS):TS:=λD σ H=>∃W:Nat->St->Hp->Prop,(∃m,W m σ H)/\∀m σ H,W m σ H->
 c σ H λb H1=>if b=true then ∃N:St->Hp->Prop,(∀σ' H',N σ' H'->∃m',m' < m/\W m' σ' H')/\tb { D with nx:=N,ct:=N,bk:=D.nx } σ H1 else D.nx σ H1
theorem Xw {c:Expr}{body:List Stmt}{tc:TT}{tb:TS}(hp:PassesOwn (model X.prog X.w) X.A X.env X.xe)(hc:PT X c tc)(hb:qM X body tb):PS X (.While c body [] pos) (Uh tc tb):=by
 intro y7 s σ H D I h;obtain⟨W,⟨m0,w0⟩,turn⟩:=h;refine wpAny_While (codeAny_whileLoop (λn s'=>∃σ' H',Inv X y7 σ' H' s'/\W n σ' H') ?_ m0 ⟨σ,H,I,w0⟩);rintro n s1 ⟨σ1,H1,I1,w1⟩;refine wpAny_passesOwn hp (bG (hc y7 s1 σ1 H1 _ I1 (turn n σ1 H1 w1)) λb s2 zz=>?_);obtain⟨H2,I2,q2⟩:=zz;cases b with
 | true=>
  obtain⟨N,hN,q2⟩:=q2;rw[if_pos rfl];refine wpAny_passesOwn hp (bG (hb y7 s2 σ1 H2 _ I2 q2) λf s3 q3=>?_);cases f with
  | next=>
   obtain⟨σ3,H3,I3,n3⟩:=q3;obtain⟨m',hm,w3⟩:=hN σ3 H3 n3;exact⟨m',hm,σ3,H3,I3,w3⟩
  | cont=>
   obtain⟨σ3,H3,I3,n3⟩:=q3;obtain⟨m',hm,w3⟩:=hN σ3 H3 n3;exact⟨m',hm,σ3,H3,I3,w3⟩
  | brk=>exact q3
  | ret v=>exact q3
 | false=>
  rw[if_neg Bool.false_ne_true];exact wpAny_execs_nil ⟨σ1,H2,I2,q2⟩
end
structure It where
 go:Nat->Hp->Prop
 nF:Nat->Hp->V->Hp->Prop
 stop:Nat->Hp->Prop
noncomputable def mG (X:Cx)(y7:List (Addr × Obj))(H:Hp)(b:Addr):Prop:=
 H b=none/\b≠X.env.locals/\b∉X.fs/\(b∈X.ex\/X.s₀.heap.objs.size<=b)/\(∀x c,X.env.cells.lookup x=some c->c≠b)/\∀p∈X.pn++y7,p.1≠b
theorem Inv.Gu {X:Cx}{y7:List (Addr × Obj)}{σ:St}{H H':Hp}{s:Shared}{b:Addr}(I:Inv X y7 σ H s)(hb:s.heap.objs.size<=b)(hn:H' b=none):mG X y7 H' b:=by
 refine⟨hn,Nat.ne_of_gt (Nat.lt_of_lt_of_le I.lt hb),I.afd hb,.inr (Nat.le_trans I.sz hb),λx c e z=>?_,λp hp z=>?_⟩
 ·obtain⟨v,q⟩:=I.cell x c e
  exact absurd (Nat.lt_of_lt_of_le q.lt (by rw[z];exact hb)) (Nat.lt_irrefl _)
 ·exact absurd (Nat.lt_of_lt_of_le (Heap.lt_size (I.pin p hp).1) (by rw[z];exact hb)) (Nat.lt_irrefl _)
structure Turn (P:Program)(w:World)(K:W.Frag)(tg:Expr)(J:It)(fp:List Addr)(it:Addr)(tn:Nat->Heap->Prop):Prop where
 mem:it∈fp
 obj:∀i h,tn i h->∀b∈fp,∃o,h.get? b=some o/\∀v,o.data≠.cell v
 keep:∀i h h',tn i h->(∀b∈fp,∀o,h.get? b=some o->h'.get? b=some o)->tn i h'
 item:∀(X:Cx),X.prog=P->X.w=w->X.K=K->X.calm=true->∀(i:Nat) (y7:List (Addr × Obj)) (s:Shared) (σ:St) (H:Hp) (E:Value->Shared->Prop),Inv X y7 σ H s->(∀b∈fp,mG X y7 H b)->tn i s.heap->J.go i H->
  wpAny (model P w) X.A (pyNext (.ref it)) (λr s1=>∃u,r=some u/\
   wpAny (model P w) X.A (letOwnedTupleGo tg (.ref it) u) (λ_ s2=>∃x H',Inv X y7 σ H' s2/\RelV x u/\J.nF i H x H'/\tn (i+1) s2.heap/\∀b∈fp,H' b=none) E s1) E s
 done:∀(X:Cx),X.prog=P->X.w=w->X.K=K->X.calm=true->∀(i:Nat) (y7:List (Addr × Obj)) (s:Shared) (σ:St) (H:Hp) (E:Value->Shared->Prop),Inv X y7 σ H s->(∀b∈fp,mG X y7 H b)->tn i s.heap->J.stop i H->
  wpAny (model P w) X.A (pyNext (.ref it)) (λr s1=>r=none/\Inv X y7 σ H s1) E s
 self:∀(A:Around) (i:Nat) (s:Shared) (Q:Value->Shared->Prop) (E:Value->Shared->Prop),tn i s.heap->Q (.ref it) s->wpAny (model P w) A (pyIter (.ref it)) Q E s
abbrev TI:=St->Hp->(It->Hp->Prop)->Prop
noncomputable def PIE (X:Cx)(y7:List (Addr × Obj))(σ:St)(tg:Expr)(R:It->Hp->Prop)(itv:Value)(s2:Shared):Prop:=
 ∃(it:Addr) (fp:List Addr) (tn:Nat->Heap->Prop) (J:It) (H':Hp),itv=.ref it/\Inv X y7 σ H' s2/\Turn X.prog X.w X.K tg J fp it tn/\tn 0 s2.heap/\(∀b∈fp,mG X y7 H' b)/\R J H'
noncomputable def PI (X:Cx)(tg iter:Expr)(wi:TI):Prop:=
 ∀(y7:List (Addr × Obj)) (s:Shared) (σ:St) (H:Hp) (R:It->Hp->Prop),Inv X y7 σ H s->wi σ H R->
  wpAny (model X.prog X.w) X.A (eval iter X.env) (λv s1=>wpAny (model X.prog X.w) X.A (pyIter v) (PIE X y7 σ tg R) X.xe s1) X.xe s
theorem J3 {M : Model}{A : Around}{E : Value -> Shared -> Prop}{s : Shared}{tg : Expr}{it : Addr}{u : Value}{o : Obj}{n : String}{vs : Array Value}{Q : Unit -> Shared -> Prop}(ho : s.heap.get? it = some o)(hc : o.cls = .type n)(hd : o.data = .fields vs)
    (hn : ["enumerate", "zip", "dict_itemiterator", "dict_reverseitemiterator", "odict_iterator", "itertools.zip_longest", "itertools.pairwise"].contains n = false) (hQ : Q () s) : wpAny M A (letOwnedTupleGo tg (.ref it) u) Q E s := by
  unfold letOwnedTupleGo;cases tg <;> first
    | exact wpAny_pure hQ
    | (cases u <;> first
        | exact wpAny_pure hQ
        | (refine wpAny_bind (wpAny_load ho ?_)
           rw[hc, hd];show wpAny M A (if (["enumerate", "zip", "dict_itemiterator", "dict_reverseitemiterator", "odict_iterator", "itertools.zip_longest", "itertools.pairwise"].contains n&&vs[0]? == some (rawInt _)) = true then _ else _) Q E s;rw[if_neg (by intro h; rw[hn, Bool.false_and]at h; cases h)];exact wpAny_pure hQ))
noncomputable def tV (K:W.Frag)(a:Addr):It:=
 ⟨λi H=>∃xs x,aN K H a xs/\xs[i]?=some x,λi H x H'=>H'=H/\∀xs,aN K H a xs->xs[i]?=some x,λi H=>∃xs,aN K H a xs/\xs.length<=i⟩
noncomputable def pQ (K:W.Frag)(a:Addr):It:=
 ⟨λi H=>∃xs x,aK K H a xs/\xs[i]?=some x,λi H x H'=>H'=H/\∀xs,aK K H a xs->xs[i]?=some x,λi H=>∃xs,aK K H a xs/\xs.length<=i⟩
noncomputable def Bx (lo:Int)(n:Nat):It:=⟨λi _=>i < n,λi H x H'=>H'=H/\x=.int (lo+i),λi _=>n<=i⟩
theorem Ui {P:Program}{w:World}{K:W.Frag}{tg:Expr}(a it:Addr):Turn P w K tg (tV K a) [it] it (λi h=>h.IsListIter it a i) where
 mem:=by simp
 obj:=λi h st b hb=>by
  have e:b=it:=by simpa using hb
  subst e;obtain⟨o,e,c,d⟩:=st;exact⟨o,e,λv z=>by rw[d]at z;cases z⟩
 keep:=λi h h' st k=>st.at λo e=>k it (by simp) o e
 item:=by
  intro X hP hw hK hc i y7 s σ H E I hf st hg;subst hP hw hK;obtain⟨xs,x,hq,hx⟩:=hg;obtain⟨its,rv,p,hz⟩:=I.list hq;obtain⟨u,hu,ru⟩:=rv.get hx;obtain⟨f0,f1,f2,f3,f4,f5⟩:=hf it (by simp);refine wpAny_pyNext_list_item st p.isList (x:=u) (by simpa using hu) λh' st' sb=>?_;have I1:Inv X y7 σ H { s with heap:=h' }:=I.turned (t':=s.toks) (λb o hb e=>(sb.2 b hb).trans e) f0 f1 f3 f4 f5;obtain⟨o,e,c,d⟩:=id st';exact⟨u,rfl,J3 (s:={ s with heap:=h' }) e c d (by decide) ⟨x,H,I1,ru,⟨rfl,λys hy=>by rw[I.Cj hy hq];exact hx⟩,st',λb hb=>(hf b hb).1⟩⟩
 done:=by
  intro X hP hw hK hc i y7 s σ H E I hf st hg;subst hP hw hK;obtain⟨xs,hq,hx⟩:=hg;obtain⟨its,rv,p,hz⟩:=I.list hq;obtain⟨f0,f1,f2,f3,f4,f5⟩:=hf it (by simp);have hl:=rv.length;exact wpAny_pyNext_list_end (I.ok.hd hc) st p.isList (by simp;omega) λh' eb=>⟨rfl,I.turned (t':=s.toks) (λb o hb e=>eb b o hb e) f0 f1 f3 f4 f5⟩
 self:=λ_ _ _ _ _ st h=>wpAny_pyIter_listiter st h
theorem Q_ {P:Program}{w:World}{K:W.Frag}{tg:Expr}(a it:Addr):Turn P w K tg (pQ K a) [it] it (λi h=>h.IsTupleIter it a i) where
 mem:=by simp
 obj:=λi h st b hb=>by
  have e:b=it:=by simpa using hb
  subst e;obtain⟨o,e,c,d⟩:=st;exact⟨o,e,λv z=>by rw[d]at z;cases z⟩
 keep:=λi h h' st k=>st.at λo e=>k it (by simp) o e
 item:=by
  intro X hP hw hK hc i y7 s σ H E I hf st hg;subst hP hw hK;obtain⟨xs,x,hq,hx⟩:=hg;obtain⟨its,rv,p,hz⟩:=I.tuple hq;obtain⟨u,hu,ru⟩:=rv.get hx;obtain⟨f0,f1,f2,f3,f4,f5⟩:=hf it (by simp);refine wpAny_pyNext_tuple_item st (show s.heap.IsTuple a its.toArray from p) (x:=u) (by simpa using hu) λh' st' sb=>?_;have I1:Inv X y7 σ H { s with heap:=h' }:=I.turned (t':=s.toks) (λb o hb e=>(sb.2 b hb).trans e) f0 f1 f3 f4 f5;obtain⟨o,e,c,d⟩:=id st';exact⟨u,rfl,J3 (s:={ s with heap:=h' }) e c d (by decide) ⟨x,H,I1,ru,⟨rfl,λys hy=>by rw[I.Uc hy hq];exact hx⟩,st',λb hb=>(hf b hb).1⟩⟩
 done:=by
  intro X hP hw hK hc i y7 s σ H E I hf st hg;subst hP hw hK;obtain⟨xs,hq,hx⟩:=hg;obtain⟨its,rv,p,hz⟩:=I.tuple hq;obtain⟨f0,f1,f2,f3,f4,f5⟩:=hf it (by simp);have hl:=rv.length;exact wpAny_pyNext_tuple_end (I.ok.hd hc) st (show s.heap.IsTuple a its.toArray from p) (by simp;omega) λh' eb=>⟨rfl,I.turned (t':=s.toks) (λb o hb e=>eb b o hb e) f0 f1 f3 f4 f5⟩
 self:=λ_ _ _ _ _ st h=>wpAny_pyIter_tupleiter st h
theorem Ra {P:Program}{w:World}{K:W.Frag}{tg:Expr}(it:Addr)(lo:Int)(n:Nat):Turn P w K tg (Bx lo n) [it] it (λi h=>IsRangeIter h it (lo+(i:Nat)*1) ((n:Int)-(i:Nat)) 1) where
 mem:=by simp
 obj:=λi h st b hb=>by
  have e:b=it:=by simpa using hb
  subst e;exact⟨_,st,λv z=>by
   have z':Data.fields _=Data.cell v:=z;cases z'⟩
 keep:=λi h h' st k=>k it (by simp) _ st
 item:=by
  intro X hP hw hK hc i y7 s σ H E I hf st hg;subst hP hw hK;obtain⟨f0,f1,f2,f3,f4,f5⟩:=hf it (by simp);have W:=Walks.range (prog:=X.prog) (w:=X.w) (I.ok.hd hc) it lo 1 n;refine W.item i s _ _ hg st λv h' tk hv st' kk=>?_;obtain⟨t,rfl⟩:=hv;have I1:Inv X y7 σ H { s with heap:=h',toks:=tk }:=I.turned (λb o hb e=>kk b o (by simpa using hb) e) f0 f1 f3 f4 f5;refine⟨_,rfl,J3 (s:={ s with heap:=h',toks:=tk }) (n:="range_iterator") st' rfl rfl (by decide) ⟨.int (lo+i),H,I1,⟨t,?_⟩,⟨rfl,rfl⟩,st',λb hb=>(hf b hb).1⟩⟩;rw[Int.mul_one]
 done:=by
  intro X hP hw hK hc i y7 s σ H E I hf st hg;subst hP hw hK;obtain⟨f0,f1,f2,f3,f4,f5⟩:=hf it (by simp);exact wpAny_pyNext_range_end (I.ok.hd hc) st (by have:n<=i:=hg;omega) λh' eb=>⟨rfl,I.turned (t':=s.toks) (λb o hb e=>eb b o hb e) f0 f1 f3 f4 f5⟩
 self:=λ_ _ _ _ _ st h=>wpAny_pyIter_rangeiter st h
section
variable {X:Cx}{tg:Expr}
noncomputable def Z4 (K:W.Frag)(tl:TE):TI:=λσ H R=>tl σ H λx H1=>∃a,x=.ref a/\(∃xs,aN K H1 a xs)/\R (tV K a) H1
noncomputable def acK (K:W.Frag)(tl:TE):TI:=λσ H R=>tl σ H λx H1=>∃a,x=.ref a/\(∃xs,aK K H1 a xs)/\R (pQ K a) H1
theorem aaF {l:Expr}{tl:TE}(hl:PE X l tl):PI X tg l (Z4 X.K tl):=by
 intro y7 s σ H R I h;refine bG (hl y7 s σ H _ I h) λv s1 zz=>?_;obtain⟨x,H1,I1,r1,q1⟩:=zz;obtain⟨a,e,⟨xs,hq⟩,q⟩:=q1;subst e;cases r1;obtain⟨its,rv,p,hz⟩:=I1.list hq;refine wpAny_pyIter_list p.isList ?_;refine⟨s1.heap.objs.size,[s1.heap.objs.size],_,_,H1,rfl,I1.kept (t':=s1.toks) λb o e=>Heap.get?_push_of_some _ e,Ui a _,⟨_,Heap.get?_push_size _ rfl,rfl,rfl⟩,λb hb=>?_,q⟩;have e:b=s1.heap.objs.size:=by simpa using hb
 subst e;exact I1.Gu (Nat.le_refl _) (I1.hok.fresh (Nat.le_refl _))
theorem acL {l:Expr}{tl:TE}(hl:PE X l tl):PI X tg l (acK X.K tl):=by
 intro y7 s σ H R I h;refine bG (hl y7 s σ H _ I h) λv s1 zz=>?_;obtain⟨x,H1,I1,r1,q1⟩:=zz;obtain⟨a,e,⟨xs,hq⟩,q⟩:=q1;subst e;cases r1;obtain⟨its,rv,p,hz⟩:=I1.tuple hq;refine wpAny_pyIter_tuple (show s1.heap.IsTuple a its.toArray from p) ?_;refine⟨s1.heap.objs.size,[s1.heap.objs.size],_,_,H1,rfl,I1.kept (t':=s1.toks) λb o e=>Heap.get?_push_of_some _ e,Q_ a _,⟨_,Heap.get?_push_size _ rfl,rfl,rfl⟩,λb hb=>?_,q⟩;have e:b=s1.heap.objs.size:=by simpa using hb
 subst e;exact I1.Gu (Nat.le_refl _) (I1.hok.fresh (Nat.le_refl _))
theorem Ko {y7:List (Addr × Obj)}{σ:St}{H:Hp}{s:Shared}{R:It->Hp->Prop}{E:Value->Shared->Prop}{lo hi:Int}{t u v:Tok}{tk:Nat}(I:Inv X y7 σ H s)(h1:-(2^62)<=lo)(h2:lo < 2^62)(h3:-(2^62)<=hi)(h4:hi < 2^62)
  (q:R (Bx lo (hi-lo).toNat) H):wpAny (model X.prog X.w) X.A (pyIter (.ref s.heap.objs.size)) (PIE X y7 σ tg R) E { s with heap:=s.heap.push { cls:=.type "range",data:=.fields #[.int lo t,.int hi u,.int 1 v] },toks:=tk }:=by
 refine wpAny_pyIter_range (IsRange.new ..) (small_one h1 h2 h3 h4) ?_;have I1:Inv X y7 σ H { s with heap:=s.heap.push { cls:=.type "range",data:=.fields #[.int lo t,.int hi u,.int 1 v] },toks:=tk }:=I.kept λb o e=>Heap.get?_push_of_some _ e;refine⟨(s.heap.push { cls:=.type "range",data:=.fields #[.int lo t,.int hi u,.int 1 v] }).objs.size,[(s.heap.push { cls:=.type "range",data:=.fields #[.int lo t,.int hi u,.int 1 v] }).objs.size],_,_,H,rfl,
  I1.kept (t':=tk) λb o e=>Heap.get?_push_of_some _ e,Ra _ lo (hi-lo).toNat,?_,λb hb=>?_,q⟩
 ·have e1:lo+((0:Nat):Int)*1=lo:=by simp
  have e2:(((hi-lo).toNat:Nat):Int)-((0:Nat):Int)=Builtin.Range.rangeSize lo hi 1:=by rw[rangeSize_one];split <;> omega
  show IsRangeIter _ _ (lo+((0:Nat):Int)*1) ((((hi-lo).toNat:Nat):Int)-((0:Nat):Int)) 1;rw[e1,e2];exact Heap.get?_push_size _ rfl
 ·have e:b=(s.heap.push { cls:=.type "range",data:=.fields #[.int lo t,.int hi u,.int 1 v] }).objs.size:=by simpa using hb
  subst e;exact I1.Gu (Nat.le_refl _) (I1.hok.fresh (Nat.le_refl _))
noncomputable def Z5 (ta:TA):TI:=λσ H R=>ta σ H λvs H1=>∃j:Int,vs=[.int j]/\-(2^62)<=j/\j < 2^62/\R (Bx 0 j.toNat) H1
noncomputable def Z6 (ta:TA):TI:=λσ H R=>ta σ H λvs H1=>∃i j:Int,vs=[.int i,.int j]/\(-(2^62)<=i/\i < 2^62/\-(2^62)<=j/\j < 2^62)/\R (Bx i (j-i).toNat) H1
theorem Uj {a:Expr}{ta:TA}{p pos:Pos}(hg:Gl X "range")(hm:X.mg "range"=none)(ha:PA X [a] ta)(hs:starEach [a] X.env=[(false,eval a X.env)]:=by rfl):PI X tg (.Call (.Name "range" p) [a] [] pos) (Z5 ta):=by
 intro y7 s σ H R I h;refine Call_ (vq I hg hm boot_range (PyProof.Rows.callWith_type1 (bG (ha pos y7 s σ H _ I h) λus s1 zz=>?_) hs rfl));obtain⟨vs,H1,I1,r1,q1⟩:=zz;obtain⟨j,e,q1,q2,q⟩:=q1;subst e;cases r1 with
 | cons r rr=>
  cases rr;obtain⟨t,rfl⟩:=r;exact call_range_1 (Ko I1 (by omega) (by omega) q1 q2 (by simpa using q))
theorem Uk {a b:Expr}{ta:TA}{p pos:Pos}(hg:Gl X "range")(hm:X.mg "range"=none)(ha:PA X [a,b] ta)(hs:starEach [a,b] X.env=[(false,eval a X.env),(false,eval b X.env)]:=by rfl)(hs2:starEach [b] X.env=[(false,eval b X.env)]:=by rfl) :
  PI X tg (.Call (.Name "range" p) [a,b] [] pos) (Z6 ta):=by
 intro y7 s σ H R I h;refine Call_ (vq I hg hm boot_range (PyProof.Rows.callWith_type1 (bG (ha pos y7 s σ H _ I h) λus s1 zz=>?_) (by rw[hs,hs2]) (by rw[hs2];rfl)));obtain⟨vs,H1,I1,r1,q1⟩:=zz;obtain⟨i,j,e,⟨q1,q2,q3,q4⟩,q⟩:=q1;subst e;cases r1 with
 | cons r rr=>
  cases rr with
  | cons r' rr=>
   cases rr;obtain⟨t,rfl⟩:=r;obtain⟨t',rfl⟩:=r';exact call_range_2 (Ko I1 q1 q2 q3 q4 q)
noncomputable def acM (wi:TI)(g:TG)(tb:TS):TS:=λD σ H=>wi σ H λJ H1=>∃W:Nat->Nat->St->Hp->Prop,(∃m,W 0 m σ H1)/\∀i m σ H,W i m σ H->
 (J.stop i H/\D.nx σ H)\/(J.go i H/\∃N:St->Hp->Prop,(∀σ' H',N σ' H'->∃m',m' < m/\W (i+1) m' σ' H')/\∀x H',J.nF i H x H'->g x σ H' λσ2 H2=>tb { D with nx:=N,ct:=N,bk:=D.nx } σ2 H2)
noncomputable def rW (fp:List Addr)(h:Heap):List (Addr × Obj):=fp.filterMap λb=>(h.get? b).map λo=>(b,o)
theorem iT {fp:List Addr}{h:Heap}{b:Addr}{o:Obj}(hb:b∈fp)(e:h.get? b=some o):(b,o)∈rW fp h:=List.mem_filterMap.mpr ⟨b,hb,by rw[e];rfl⟩
theorem Ul {fp:List Addr}{h:Heap}{p:Addr × Obj}(hp:p∈rW fp h):p.1∈fp/\h.get? p.1=some p.2:=by
 obtain⟨b,hb,e⟩:=List.mem_filterMap.mp hp;cases q:h.get? b with
 | none=>rw[q]at e;cases e
 | some o=>
  rw[q]at e;have e':(b,o)=p:=Option.some.inj e;subst e';exact⟨hb,q⟩
theorem Inv.pinned {y7:List (Addr × Obj)}{σ:St}{H:Hp}{s:Shared}{fp:List Addr}(I:Inv X y7 σ H s)(hf:∀b∈fp,mG X y7 H b)(ho:∀b∈fp,∃o,s.heap.get? b=some o/\∀v,o.data≠.cell v):Inv X (y7++rW fp s.heap) σ H s:=
 I.Pg λp hp=>(List.mem_append.mp hp).elim (λz=>I.pin p (List.mem_append_right _ z)) λz=>by
  obtain⟨hb,e⟩:=Ul z;obtain⟨f0,f1,f2,_⟩:=hf p.1 hb;obtain⟨o,e',d⟩:=ho p.1 hb;rw[e]at e';cases e';exact⟨e,f0,f1,f2,d⟩
theorem Inv.jF {y7 pl:List (Addr × Obj)}{σ:St}{H:Hp}{s:Shared}(I:Inv X (y7++pl) σ H s):Inv X y7 σ H s:=I.Pg λp hp=>I.pin p (List.mem_append_right _ (List.mem_append_left _ hp))
theorem acN {iter:Expr}{body:List Stmt}{wi:TI}{g:TG}{tb:TS}{pos:Pos}(hp:PassesOwn (model X.prog X.w) X.A X.env X.xe)(hc:X.calm=true)(hi:PI X tg iter wi)(hg:PG X tg g)(hb:qM X body tb)
  (hs:∀x,foldedSetIterable iter X.env x=pure x:=by intro _;rfl):PS X (.For tg iter body [] pos) (acM wi g tb):=by
 intro y7 s σ H D I h;refine wpAny_For (bG (hi y7 s σ H _ I h) λv s1 h1=>bG h1 λitv s2 h2=>?_) hs;obtain⟨it,fp,tn,J,H2,e,I2,T,st2,f2,W,⟨m0,w0⟩,turn⟩:=h2;subst e;have stat:∀{H':Hp},(∀b∈fp,H' b=none)->∀b∈fp,mG X y7 H' b:=λhn b hb=>⟨hn b hb,(f2 b hb).2⟩
 refine codeAny_forLoop_any (λn s'=>∃i σ' H',Inv X y7 σ' H' s'/\tn i s'.heap/\(∀b∈fp,H' b=none)/\W i n σ' H') ?_ m0 ⟨0,σ,H2,I2,st2,λb hb=>(f2 b hb).1,w0⟩;rintro n s3 ⟨i,σ3,H3,I3,st3,fr3,w3⟩;rcases turn i n σ3 H3 w3 with⟨stop,qn⟩ | ⟨go,N,hN,step⟩
 ·refine wpAny_passesOwn hp (bG (T.done X rfl rfl rfl hc i y7 s3 σ3 H3 X.xe I3 (stat fr3) st3 stop) λr s4 ⟨hr,I4⟩=>?_)
  subst hr;exact wpAny_execs_nil ⟨σ3,H3,I4,qn⟩
 ·refine wpAny_passesOwn hp (bG (T.item X rfl rfl rfl hc i y7 s3 σ3 H3 X.xe I3 (stat fr3) st3 go) λr s4 zz=>?_);obtain⟨u,hr,h4⟩:=zz
  subst hr;refine wpAny_passesOwn hp (bG h4 λ_ s5 zz=>?_);obtain⟨x,H5,I5,r5,y5,st5,fr5⟩:=zz;have Ph:=I5.pinned (stat fr5) (T.obj _ _ st5);refine wpAny_passesOwn hp (bG (hg _ s5 σ3 H5 x u _ Ph r5 (step x H5 y5)) λ_ s6 zz=>?_);obtain⟨σ6,H6,I6,q6⟩:=zz;refine wpAny_passesOwn hp (bG (hb _ s6 σ6 H6 _ I6 q6) λf s7 q7=>?_);have again:∀{σ7:St} {H7:Hp},Inv X (y7++rW fp s5.heap) σ7 H7 s7->N σ7 H7->∃m,m < n/\∃i σ' H',Inv X y7 σ' H' s7/\tn i s7.heap/\(∀b∈fp,H' b=none)/\W i m σ' H':=λ{σ7 H7} I7 n7=>by
   obtain⟨m',hm,w7⟩:=hN σ7 H7 n7;refine⟨m',hm,i+1,σ7,H7,I7.jF,T.keep _ _ _ st5 λb hb o e=>(I7.pin (b,o) (List.mem_append_right _ (List.mem_append_right _ (iT hb e)))).1,λb hb=>?_,w7⟩;obtain⟨o,e,d⟩:=T.obj _ _ st5 b hb;exact(I7.pin (b,o) (List.mem_append_right _ (List.mem_append_right _ (iT hb e)))).2.1
  cases f with
  | next=>obtain⟨σ7,H7,I7,n7⟩:=q7;exact again I7 n7
  | cont=>obtain⟨σ7,H7,I7,n7⟩:=q7;exact again I7 n7
  | brk=>obtain⟨σ7,H7,I7,q7⟩:=q7;exact⟨σ7,H7,I7.jF,q7⟩
  | ret v=>obtain⟨x7,σ7,H7,I7,r7,q7⟩:=q7;exact⟨x7,σ7,H7,I7.jF,r7,q7⟩
end
theorem mH {K:W.Frag}{a:Addr}{xs:List V}{g:TG}{tb:TS}{D:Ends}{σ:St}{H:Hp}(Pv:Nat->St->Hp->Prop)(h0:Pv 0 σ H)(hl:∀i σ H,i<=xs.length->Pv i σ H->aN K H a xs)
  (hs:∀i x σ H,xs[i]?=some x->Pv i σ H->g x σ H λσ2 H2=>tb { D with nx:=Pv (i+1),ct:=Pv (i+1),bk:=D.nx } σ2 H2) (hd:∀σ H,Pv xs.length σ H->D.nx σ H) :
  ∃W:Nat->Nat->St->Hp->Prop,(∃m,W 0 m σ H)/\∀i m σ H,W i m σ H->
   ((tV K a).stop i H/\D.nx σ H)\/((tV K a).go i H/\∃N:St->Hp->Prop,(∀σ' H',N σ' H'->∃m',m' < m/\W (i+1) m' σ' H')/\∀x H',(tV K a).nF i H x H'->g x σ H' λσ2 H2=>tb { D with nx:=N,ct:=N,bk:=D.nx } σ2 H2):=by
 refine⟨λi m σ H=>m=xs.length-i/\i<=xs.length/\Pv i σ H,⟨xs.length,by simp,Nat.zero_le _,h0⟩,?_⟩;rintro i m σ H ⟨rfl,hi,p⟩;have q:=hl i σ H hi p;by_cases hlt:i < xs.length
 ·refine .inr ⟨⟨xs,xs[i],q,by simp[hlt]⟩,Pv (i+1),λσ' H' p'=>⟨xs.length-(i+1),by omega,rfl,hlt,p'⟩,λx H' y=>?_⟩
  obtain⟨e,y⟩:=y;subst e;exact hs i x σ _ (y xs q) p
 ·have e:i=xs.length:=by omega
  subst e;exact .inl ⟨⟨xs,q,Nat.le_refl _⟩,hd σ H p⟩
theorem rK {K:W.Frag}{a:Addr}{xs:List V}{g:TG}{tb:TS}{D:Ends}{σ:St}{H:Hp}(Pv:Nat->St->Hp->Prop)(h0:Pv 0 σ H)(hl:∀i σ H,i<=xs.length->Pv i σ H->aK K H a xs)
  (hs:∀i x σ H,xs[i]?=some x->Pv i σ H->g x σ H λσ2 H2=>tb { D with nx:=Pv (i+1),ct:=Pv (i+1),bk:=D.nx } σ2 H2) (hd:∀σ H,Pv xs.length σ H->D.nx σ H) :
  ∃W:Nat->Nat->St->Hp->Prop,(∃m,W 0 m σ H)/\∀i m σ H,W i m σ H->
   ((pQ K a).stop i H/\D.nx σ H)\/((pQ K a).go i H/\∃N:St->Hp->Prop,(∀σ' H',N σ' H'->∃m',m' < m/\W (i+1) m' σ' H')/\∀x H',(pQ K a).nF i H x H'->g x σ H' λσ2 H2=>tb { D with nx:=N,ct:=N,bk:=D.nx } σ2 H2):=by
 refine⟨λi m σ H=>m=xs.length-i/\i<=xs.length/\Pv i σ H,⟨xs.length,by simp,Nat.zero_le _,h0⟩,?_⟩;rintro i m σ H ⟨rfl,hi,p⟩;have q:=hl i σ H hi p;by_cases hlt:i < xs.length
 ·refine .inr ⟨⟨xs,xs[i],q,by simp[hlt]⟩,Pv (i+1),λσ' H' p'=>⟨xs.length-(i+1),by omega,rfl,hlt,p'⟩,λx H' y=>?_⟩
  obtain⟨e,y⟩:=y;subst e;exact hs i x σ _ (y xs q) p
 ·have e:i=xs.length:=by omega
  subst e;exact .inl ⟨⟨xs,q,Nat.le_refl _⟩,hd σ H p⟩
theorem gC {lo:Int}{n:Nat}{g:TG}{tb:TS}{D:Ends}{σ:St}{H:Hp}(Pv:Nat->St->Hp->Prop)(h0:Pv 0 σ H)
  (hs:∀i σ H,i < n->Pv i σ H->g (.int (lo+i)) σ H λσ2 H2=>tb { D with nx:=Pv (i+1),ct:=Pv (i+1),bk:=D.nx } σ2 H2) (hd:∀σ H,Pv n σ H->D.nx σ H) :
  ∃W:Nat->Nat->St->Hp->Prop,(∃m,W 0 m σ H)/\∀i m σ H,W i m σ H->
   ((Bx lo n).stop i H/\D.nx σ H)\/((Bx lo n).go i H/\∃N:St->Hp->Prop,(∀σ' H',N σ' H'->∃m',m' < m/\W (i+1) m' σ' H')/\∀x H',(Bx lo n).nF i H x H'->g x σ H' λσ2 H2=>tb { D with nx:=N,ct:=N,bk:=D.nx } σ2 H2):=by
 refine⟨λi m σ H=>m=n-i/\i<=n/\Pv i σ H,⟨n,by simp,Nat.zero_le _,h0⟩,?_⟩;rintro i m σ H ⟨rfl,hi,p⟩;by_cases hlt:i < n
 ·refine .inr ⟨hlt,Pv (i+1),λσ' H' p'=>⟨n-(i+1),by omega,rfl,hlt,p'⟩,λx H' y=>?_⟩
  obtain⟨e,y⟩:=y;subst e y;exact hs i σ _ hlt p
 ·have e:i=n:=by omega
  subst e;exact .inl ⟨Nat.le_refl _,hd σ H p⟩
abbrev R2:=V->V->Hp->VK->Prop
noncomputable def dZ (X:Cx)(f:Value->Value->Sem Value)(r:R2):Prop:=
 ∀(y7:List (Addr × Obj)) (s:Shared) (σ:St) (H:Hp) (x y:V) (v u:Value) (Q:VK),Inv X y7 σ H s->RelV x v->RelV y u->r x y H Q->
  wpAny (model X.prog X.w) X.A (f v u) (EP X y7 σ Q) X.xe s
noncomputable def Z7 (X:Cx)(f:Value->Sem Value)(r:V->Hp->VK->Prop):Prop:=
 ∀(y7:List (Addr × Obj)) (s:Shared) (σ:St) (H:Hp) (x:V) (v:Value) (Q:VK),Inv X y7 σ H s->RelV x v->r x H Q->
  wpAny (model X.prog X.w) X.A (f v) (EP X y7 σ Q) X.xe s
noncomputable def fM (X:Cx)(f:Value)(r:List V->Hp->VK->Prop):Prop:=
 ∀(y7:List (Addr × Obj)) (s:Shared) (σ:St) (H:Hp) (xs:List V) (us:List Value) (Q:VK),Inv X y7 σ H s->Vals xs us->r xs H Q->
  wpAny (model X.prog X.w) X.A (call f us) (EP X y7 σ Q) X.xe s
noncomputable def pR (r:R2)(ta tb:TE):TE:=λσ H Q=>ta σ H λx H1=>tb σ H1 λy H2=>r x y H2 Q
noncomputable def tUn (r:V->Hp->VK->Prop)(ta:TE):TE:=λσ H Q=>ta σ H λx H1=>r x H1 Q
noncomputable def rI (C:Int->Int->Prop)(g:Int->Int->V):R2:=λx y H Q=>∃i j,x=.int i/\y=.int j/\C i j/\Q (g i j) H
noncomputable def En (g:Int->Int->V):R2:=λx y H Q=>∃i j,x=.int i/\y=.int j/\Q (g i j) H
noncomputable def rU (g:Int->V):V->Hp->VK->Prop:=λx H Q=>∃i,x=.int i/\Q (g i) H
section
variable {X:Cx}{a b:Expr}{ta tb:TE}{pos:Pos}
theorem Xx (ha:PE X a ta)(hb:PE X b tb){y7:List (Addr × Obj)}{s:Shared}{σ:St}{H:Hp}{R:V->V->Hp->Prop}(I:Inv X y7 σ H s)
  (h:ta σ H λx H1=>tb σ H1 λy H2=>R x y H2) {Q:Value->Shared->Prop} {f:Value->Value->Sem Value}
  (hf:∀v u s2 x y H2,Inv X y7 σ H2 s2->RelV x v->RelV y u->R x y H2->wpAny (model X.prog X.w) X.A (f v u) Q X.xe s2) :
  wpAny (model X.prog X.w) X.A (eval a X.env) (λv s₁=>wpAny (model X.prog X.w) X.A (eval b X.env) (λu s₂=>wpAny (model X.prog X.w) X.A (f v u) Q X.xe s₂) X.xe s₁) X.xe s:=by
 refine bG (ha y7 s σ H _ I h) λv s1 zz=>?_;obtain⟨x,H1,I1,r1,q1⟩:=zz;refine bG (hb y7 s1 σ H1 _ I1 q1) λu s2 zz=>?_;obtain⟨y,H2,I2,r2,q2⟩:=zz;exact hf v u s2 x y H2 I2 r1 r2 q2
theorem aeH {op:Operator}{r:R2}(ho:dZ X (binaryOp op) r)(ha:PE X a ta)(hb:PE X b tb):PE X (.BinOp a op b pos) (pR r ta tb):=by
 intro y7 s σ H Q I h;exact wpAny_BinOp (Xx ha hb I h λv u s2 x y H2 I2 rx ry q=>ho y7 s2 σ H2 x y v u Q I2 rx ry q)
theorem aeI {op:UnaryOp}{r:V->Hp->VK->Prop}(ho:Z7 X (unaryOp op) r)(ha:PE X a ta):PE X (.UnaryOp op a pos) (tUn r ta):=by
 intro y7 s σ H Q I h;exact UnaryOp_ (bG (ha y7 s σ H _ I h) λv s1 ⟨x,H1,I1,r1,q1⟩=>ho y7 s1 σ H1 x v Q I1 r1 q1)
theorem Um {f:Value->Value->Sem Value}{C:Int->Int->Prop}{g:Int->Int->Int}
  (rule:∀(i j:Int) (t u:Tok) (s:Shared) (Q:Value->Shared->Prop) (E:Value->Shared->Prop),C i j->Q (.int (g i j) s.toks) { s with toks:=s.toks+1 }->wpAny (model X.prog X.w) X.A (f (.int i t) (.int j u)) Q E s) :
  dZ X f (rI C λi j=>.int (g i j)):=by
 intro y7 s σ H x y v u Q I rx ry h;obtain⟨i,j,rfl,rfl,hc,q⟩:=h;obtain⟨t,rfl⟩:=rx;obtain⟨t',rfl⟩:=ry;exact rule i j t t' s _ _ hc ⟨.int (g i j),H,I.tok _,⟨_,rfl⟩,q⟩
theorem acO {f:Value->Value->Sem Value}{g:Int->Int->Int}
  (rule:∀(i j:Int) (t u:Tok) (s:Shared) (Q:Value->Shared->Prop) (E:Value->Shared->Prop),Q (.int (g i j) s.toks) { s with toks:=s.toks+1 }->wpAny (model X.prog X.w) X.A (f (.int i t) (.int j u)) Q E s) :
  dZ X f (En λi j=>.int (g i j)):=by
 intro y7 s σ H x y v u Q I rx ry h;obtain⟨i,j,rfl,rfl,q⟩:=h;obtain⟨t,rfl⟩:=rx;obtain⟨t',rfl⟩:=ry;exact rule i j t t' s _ _ ⟨.int (g i j),H,I.tok _,⟨_,rfl⟩,q⟩
theorem Rb {f:Value->Value->Sem Value}{g:Int->Int->Bool}
  (rule:∀(i j:Int) (t u:Tok) (s:Shared) (Q:Value->Shared->Prop) (E:Value->Shared->Prop),Q (.bool (g i j)) s->wpAny (model X.prog X.w) X.A (f (.int i t) (.int j u)) Q E s) :
  dZ X f (En λi j=>.bl (g i j)):=by
 intro y7 s σ H x y v u Q I rx ry h;obtain⟨i,j,rfl,rfl,q⟩:=h;obtain⟨t,rfl⟩:=rx;obtain⟨t',rfl⟩:=ry;exact rule i j t t' s _ _ ⟨.bl (g i j),H,I,rfl,q⟩
noncomputable def acP (i j:Int):Prop:=0 < j/\j < 1073741824
noncomputable def afh (i j:Int):Prop:=0<=j/\j<=1000000/\i.natAbs < 2^64
noncomputable def Xy (i j:Int):Prop:=(-(2^64) < i/\i < 2^64)\/(-(2^64) < j/\j < 2^64)
theorem Xy.ok {i j:Int}(h:Xy i j):IntMulOk i j:=by
 rcases h with⟨h1,h2⟩ | ⟨h1,h2⟩
 ·exact .of_left (intBits_le_64 h1 h2)
 ·exact .of_right (intBits_le_64 h1 h2)
theorem b_:dZ X (binaryOp .Add) (En λi j=>.int (i+j)):=acO λ_ _ _ _ _ _ _ q=>add_int q
theorem fX:dZ X (binaryOp .Sub) (En λi j=>.int (i-j)):=acO λ_ _ _ _ _ _ _ q=>sub_int q
theorem jr:dZ X (binaryOp .Mult) (rI Xy λi j=>.int (i*j)):=Um λ_ _ _ _ _ _ _ hc q=>mul_int q hc.ok
theorem cQ:dZ X (binaryOp .FloorDiv) (rI acP λi j=>.int (i/j)):=Um λi j _ _ _ _ _ hc q=>by
 have h1:(0:Int) < j:=hc.1;have h2:j < 1073741824:=hc.2;exact floordiv_int (by omega) (by rw[Int.fdiv_eq_ediv_of_nonneg i (by omega)];exact q) (.inl (PyProof.noPylong_small (by omega)))
theorem bT:dZ X (binaryOp .Mod) (rI (λ_ j=>0 < j) λi j=>.int (i%j)):=Um λi j _ _ _ _ _ hc q=>by
 have h1:(0:Int) < j:=hc;exact mod_int' (by omega) (by rw[Int.fmod_eq_emod_of_nonneg i (by omega)];exact q)
theorem acQ:dZ X (binaryOp .Pow) (rI afh λi j=>.int (i^j.toNat)):=Um λ_ _ _ _ _ _ _ hc q=>pow_int_small hc.1 hc.2.1 hc.2.2 q
theorem unI {f:Value->Sem Value}{g:Int->Int}
  (rule:∀(i:Int) (t:Tok) (s:Shared) (Q:Value->Shared->Prop) (E:Value->Shared->Prop),Q (.int (g i) s.toks) { s with toks:=s.toks+1 }->wpAny (model X.prog X.w) X.A (f (.int i t)) Q E s) :
  Z7 X f (rU λi=>.int (g i)):=by
 intro y7 s σ H x v Q I rx h;obtain⟨i,rfl,q⟩:=h;obtain⟨t,rfl⟩:=rx;exact rule i t s _ _ ⟨.int (g i),H,I.tok _,⟨_,rfl⟩,q⟩
theorem rY:Z7 X (unaryOp .USub) (rU λi=>.int (-i)):=unI λ_ _ _ _ _ q=>neg_int q
end
noncomputable def acR:V->V->Bool
 | .non,.non=>true | .non,.int _=>true | .int _,.non=>true | .non,.bl _=>true | .bl _,.non=>true | .non,.str _=>true | .str _,.non=>true
 | .int _,.int _=>true | .bl _,.bl _=>true | .str _,.str _=>true | .yx _,.yx _=>true
 | .int _,.str _=>true | .str _,.int _=>true | .bl _,.str _=>true | .str _,.bl _=>true
 | _,_=>false
noncomputable def rEq:R2:=λx y H Q=>acR x y=true/\Q (.bl (decide (x=y))) H
noncomputable def rNe:R2:=λx y H Q=>acR x y=true/\Q (.bl (!decide (x=y))) H
theorem Pj {i j:Int}:decide (V.int i=V.int j)=(i==j):=by
 rw[Bool.eq_iff_iff];simp
theorem Uo {i j:Bool}:decide (V.bl i=V.bl j)=(i==j):=by
 rw[Bool.eq_iff_iff];simp
theorem Pk {i j:Str}:decide (V.str i=V.str j)=(i==j):=by
 rw[Bool.eq_iff_iff];simp
theorem Pn {i j:Array UInt8}:decide (V.yx i=V.yx j)=(i.toList==j.toList):=by
 rw[Bool.eq_iff_iff];cases i;cases j;simp
section
variable {X:Cx}{a b c:Expr}{ta tb tc:TE}{pos:Pos}
theorem cL {y7:List (Addr × Obj)}{σ:St}{H:Hp}{s:Shared}{Q:VK}{k k':Bool}(I:Inv X y7 σ H s)(q:Q (.bl k) H)(e:k=k'):EP X y7 σ Q (.bool k') s:=by
 subst e;exact⟨.bl k,H,I,rfl,q⟩
theorem gq:dZ X (compareOp .Eq) rEq:=by
 intro y7 s σ H x y v u Q I rx ry h;obtain⟨hs,q⟩:=h;cases x with
 | non=>
  cases rx;cases y with
  | non=>cases ry;exact PySem.EqNone.eq_none_none (cL I q (by simp))
  | bl j=>cases ry;exact PySem.EqNone.eq_none_bool (cL I q (by simp))
  | int j=>obtain⟨t',rfl⟩:=ry;exact PySem.EqNone.eq_none_int (cL I q (by simp))
  | str j=>obtain⟨t',rfl⟩:=ry;exact PySem.EqNone.eq_none_str (cL I q (by simp))
  | _=>exact absurd (show false=true from hs) Bool.false_ne_true
 | bl i=>
  cases rx;cases y with
  | non=>cases ry;exact PySem.EqNone.eq_bool_none (cL I q (by simp))
  | bl j=>cases ry;exact eq_bool (cL I q Uo)
  | str j=>obtain⟨t',rfl⟩:=ry;exact PySem.EqMixed.eq_bool_str (cL I q (by simp))
  | _=>exact absurd (show false=true from hs) Bool.false_ne_true
 | int i=>
  obtain⟨t,rfl⟩:=rx;cases y with
  | non=>cases ry;exact PySem.EqNone.eq_int_none (cL I q (by simp))
  | int j=>obtain⟨t',rfl⟩:=ry;exact eq_int (cL I q Pj)
  | str j=>obtain⟨t',rfl⟩:=ry;exact PySem.EqMixed.eq_int_str (cL I q (by simp))
  | _=>exact absurd (show false=true from hs) Bool.false_ne_true
 | str i=>
  obtain⟨t,rfl⟩:=rx;cases y with
  | non=>cases ry;exact PySem.EqNone.eq_str_none (cL I q (by simp))
  | bl j=>cases ry;exact PySem.EqMixed.eq_str_bool (cL I q (by simp))
  | int j=>obtain⟨t',rfl⟩:=ry;exact PySem.EqMixed.eq_str_int (cL I q (by simp))
  | str j=>obtain⟨t',rfl⟩:=ry;exact eq_str (cL I q Pk)
  | _=>exact absurd (show false=true from hs) Bool.false_ne_true
 | yx i=>
  obtain⟨t,rfl⟩:=rx;cases y with
  | yx j=>obtain⟨t',rfl⟩:=ry;exact W.eq_bytes (cL I q Pn)
  | _=>exact absurd (show false=true from hs) Bool.false_ne_true
 | _=>cases y <;> exact absurd (show false=true from hs) Bool.false_ne_true
theorem lZ:dZ X (compareOp .NotEq) rNe:=by
 intro y7 s σ H x y v u Q I rx ry h;obtain⟨hs,q⟩:=h;cases x with
 | non=>
  cases rx;cases y with
  | non=>cases ry;exact PySem.EqNone.ne_none_none (cL I q (by simp))
  | bl j=>cases ry;exact PySem.EqNone.ne_none_bool (cL I q (by simp))
  | int j=>obtain⟨t',rfl⟩:=ry;exact PySem.EqNone.ne_none_int (cL I q (by simp))
  | str j=>obtain⟨t',rfl⟩:=ry;exact PySem.EqNone.ne_none_str (cL I q (by simp))
  | _=>exact absurd (show false=true from hs) Bool.false_ne_true
 | bl i=>
  cases rx;cases y with
  | non=>cases ry;exact PySem.EqNone.ne_bool_none (cL I q (by simp))
  | bl j=>cases ry;exact ne_bool (cL I q (congrArg not Uo))
  | str j=>obtain⟨t',rfl⟩:=ry;exact PySem.EqMixed.ne_bool_str (cL I q (by simp))
  | _=>exact absurd (show false=true from hs) Bool.false_ne_true
 | int i=>
  obtain⟨t,rfl⟩:=rx;cases y with
  | non=>cases ry;exact PySem.EqNone.ne_int_none (cL I q (by simp))
  | int j=>obtain⟨t',rfl⟩:=ry;exact ne_int (cL I q (congrArg not Pj))
  | str j=>obtain⟨t',rfl⟩:=ry;exact PySem.EqMixed.ne_int_str (cL I q (by simp))
  | _=>exact absurd (show false=true from hs) Bool.false_ne_true
 | str i=>
  obtain⟨t,rfl⟩:=rx;cases y with
  | non=>cases ry;exact PySem.EqNone.ne_str_none (cL I q (by simp))
  | bl j=>cases ry;exact PySem.EqMixed.ne_str_bool (cL I q (by simp))
  | int j=>obtain⟨t',rfl⟩:=ry;exact PySem.EqMixed.ne_str_int (cL I q (by simp))
  | str j=>obtain⟨t',rfl⟩:=ry;exact ne_str (cL I q (congrArg not Pk))
  | _=>exact absurd (show false=true from hs) Bool.false_ne_true
 | yx i=>
  obtain⟨t,rfl⟩:=rx;cases y with
  | yx j=>obtain⟨t',rfl⟩:=ry;exact W.ne_bytes (cL I q (congrArg not Pn))
  | _=>exact absurd (show false=true from hs) Bool.false_ne_true
 | _=>cases y <;> exact absurd (show false=true from hs) Bool.false_ne_true
theorem jG:dZ X (compareOp .Lt) (En λi j=>.bl (decide (i < j))):=Rb λ_ _ _ _ _ _ _ q=>lt_int q
theorem jl:dZ X (compareOp .LtE) (En λi j=>.bl (decide (i<=j))):=Rb λ_ _ _ _ _ _ _ q=>le_int q
theorem Rc:dZ X (compareOp .Gt) (En λi j=>.bl (decide (j < i))):=Rb λ_ _ _ _ _ _ _ q=>gt_int q
theorem Rf:dZ X (compareOp .GtE) (En λi j=>.bl (decide (j<=i))):=Rb λ_ _ _ _ _ _ _ q=>ge_int q
theorem Uq:dZ X (compareOp .In) (λx y H Q=>∃i j,x=.str i/\y=.str j/\Q (.bl (!(Builtin.Str.occurrences j i 0 j.length 1).isEmpty)) H):=by
 intro y7 s σ H x y v u Q I rx ry h;obtain⟨i,j,rfl,rfl,q⟩:=h;obtain⟨t,rfl⟩:=rx;obtain⟨t',rfl⟩:=ry;exact in_str (cL I q rfl)
theorem acS:dZ X (compareOp .Is) (λx y H Q=>y=.non/\Q (.bl (decide (x=.non))) H):=by
 intro y7 s σ H x y v u Q I rx ry h;obtain⟨rfl,q⟩:=h;cases ry;refine is_none_gen (cL I q ?_);cases x <;> first
  | (cases rx;rfl)
  | (obtain⟨t,rfl⟩:=rx;rfl)
theorem bh (b:Expr){op:CmpOp}(h:op≠.In:=by decide)(h2:op≠.NotIn:=by decide):behindInMarks op b=false:=by
 have e1:(op==CmpOp.In)=false:=by cases op <;> first | rfl | exact absurd rfl h
 have e2:(op==CmpOp.NotIn)=false:=by cases op <;> first | rfl | exact absurd rfl h2
 cases b <;> simp[behindInMarks,e1,e2]
theorem aaG {op:CmpOp}{r:R2}(ho:dZ X (compareOp op) r)(ha:PE X a ta)(hb:PE X b tb)(hm:behindInMarks op b=false):PE X (.Compare a [op] [b] pos) (pR r ta tb):=by
 intro y7 s σ H Q I h;exact wpAny_Compare1 (Xx ha hb I h λv u s2 x y H2 I2 rx ry q=>ho y7 s2 σ H2 x y v u Q I2 rx ry q) hm
noncomputable def Ay (t:TE):TT:=λσ H Q=>t σ H λx H'=>∃k,x=.bl k/\Q k H'
theorem aaH {op:CmpOp}{r:R2}(ho:dZ X (compareOp op) r)(ha:PE X a ta)(hb:PE X b tb)(hm:behindInMarks op b=false):PT X (.Compare a [op] [b] pos) (Ay (pR r ta tb)):=by
 intro y7 s σ H Q I h;refine wpAny_isTrue_Compare1 (bG (ha y7 s σ H _ I h) λv s1 ⟨x,H1,I1,r1,q1⟩=>bG (hb y7 s1 σ H1 _ I1 q1) λu s2 ⟨y,H2,I2,r2,q2⟩=>
  bG (ho y7 s2 σ H2 x y v u _ I2 r1 r2 q2) λc s3 ⟨z,H3,I3,r3,k,e,q3⟩=>?_) hm
 subst e;cases r3;exact wpAny_truthy_bool ⟨H3,I3,q3⟩
noncomputable def yL (r r':R2)(ta tb tc:TE):TE:=λσ H Q=>ta σ H λx H1=>tb σ H1 λy H2=>r x y H2 λz H3=>∃k,z=.bl k/\
 (if k=true then tc σ H3 λw' H4=>r' y w' H4 Q else Q (.bl false) H3)
theorem Xz {op op':CmpOp}{r r':R2}(ho:dZ X (compareOp op) r)(ho':dZ X (compareOp op') r')(ha:PE X a ta)(hb:PE X b tb)(hc:PE X c tc)
  (hm:lastMarks [op,op'] [b,c]=false:=by with_unfolding_all rfl):PE X (.Compare a [op,op'] [b,c] pos) (yL r r' ta tb tc):=by
 intro y7 s σ H Q I h;refine Compare_chain (bG (ha y7 s σ H _ I h) λv s1 ⟨x,H1,I1,r1,q1⟩=>chain_link (bG (hb y7 s1 σ H1 _ I1 q1) λu s2 ⟨y,H2,I2,r2,q2⟩=>
  bG (ho y7 s2 σ H2 x y v u _ I2 r1 r2 q2) λd s3 ⟨z,H3,I3,r3,k,e,q3⟩=>?_)) hm
 subst e;cases r3;refine wpAny_truthy_bool ?_;cases k with
 | false=>exact ite_ff ⟨.bl false,H3,I3,rfl,q3⟩
 | true=>exact ite_tt (chain_last (bG (hc y7 s3 σ H3 _ I3 q3) λw' s4 ⟨z',H4,I4,r4,q4⟩=>ho' y7 s4 σ H4 y z' u w' Q I4 r2 r4 q4))
theorem XC {op op':CmpOp}{r r':R2}(ho:dZ X (compareOp op) r)(ho':dZ X (compareOp op') r')(ha:PE X a ta)(hb:PE X b tb)(hc:PE X c tc)
  (hm:lastMarks [op,op'] [b,c]=false:=by with_unfolding_all rfl):PT X (.Compare a [op,op'] [b,c] pos) (Ay (yL r r' ta tb tc)):=by
 intro y7 s σ H Q I h;refine isTrue_chain (bG (ha y7 s σ H _ I h) λv s1 ⟨x,H1,I1,r1,q1⟩=>test_link (bG (hb y7 s1 σ H1 _ I1 q1) λu s2 ⟨y,H2,I2,r2,q2⟩=>
  bG (ho y7 s2 σ H2 x y v u _ I2 r1 r2 q2) λd s3 ⟨z,H3,I3,r3,k,e,q3⟩=>?_)) hm
 subst e;cases r3;refine wpAny_truthy_bool ?_;cases k with
 | false=>
  obtain⟨k',e',q'⟩:=q3;cases e';exact ite_ff ⟨H3,I3,q'⟩
 | true=>
  refine ite_tt (test_last (bG (hc y7 s3 σ H3 _ I3 q3) λw' s4 zz=>?_));obtain⟨z',H4,I4,r4,q4⟩:=zz;refine bG (ho' y7 s4 σ H4 y z' u w' _ I4 r2 r4 q4) λd' s5 zz=>?_;obtain⟨z2,H5,I5,r5,k2,e2,q5⟩:=zz;subst e2;cases r5;exact wpAny_truthy_bool ⟨H5,I5,q5⟩
theorem vA:(sizeLine:Nat) < 2^63:=by rw[sizeLine_eq];decide
theorem Rg:dZ X (binaryOp .Add) (λx y H Q=>∃i j,x=.str i/\y=.str j/\i.length+j.length<=sizeLine/\Q (.str (i++j)) H):=by
 intro y7 s σ H x y v u Q I rx ry h;obtain⟨i,j,rfl,rfl,hz,q⟩:=h;obtain⟨t,rfl⟩:=rx;obtain⟨t',rfl⟩:=ry;exact add_str (λt' tk=>⟨.str (i++j),H,I.tok _,⟨_,rfl⟩,q⟩) hz
theorem vals1 {x:V}{us:List Value}(r:Vals [x] us):∃u,us=[u]/\RelV x u:=by
 cases r with
 | cons r1 r2=>cases r2;exact⟨_,rfl,r1⟩
theorem vals2 {x y:V}{us:List Value}(r:Vals [x,y] us):∃u w',us=[u,w']/\RelV x u/\RelV y w':=by
 cases r with
 | cons r1 r2=>
  cases r2 with
  | cons r3 r4=>cases r4;exact⟨_,_,rfl,r1,r3⟩
theorem Ia:fM X (.type "int") (λxs H Q=>(∃i,xs=[.int i]/\Q (.int i) H)\/∃k,xs=[.bl k]/\Q (.int (if k then 1 else 0)) H):=by
 intro y7 s σ H xs us Q I r h;rcases h with⟨i,rfl,q⟩ | ⟨k,rfl,q⟩
 ·obtain⟨u,rfl,t,rfl⟩:=vals1 r
  exact call_int_int ⟨.int i,H,I,⟨_,rfl⟩,q⟩
 ·obtain⟨u,rfl,r1⟩:=vals1 r
  cases r1;exact call_int_bool ⟨.int (if k then 1 else 0),H,I.tok _,⟨_,rfl⟩,q⟩
end
structure Cm (h:Heap)(x dx C:Addr)(mA:Str->Option Value):Prop where
 obj:h.get? x=some (W.instObj C dx)
 ns:h.Ns1 dx mA
 ne:dx≠x
theorem Ib {h:Heap}{dx:Addr}{mA:Str->Option Value}(n:h.Ns1 dx mA):∃od,h.get? dx=some od/\∀name,W.lookIn name od=some (mA name):=by
 obtain⟨o,es,ep,ho,hd,hk,_,hm⟩:=n;refine⟨o,ho,λname=>?_⟩;have e:=hm name;unfold nsFind findBy at e;rw[<- Array.find?_toList]at e;unfold W.lookIn;rw[hd];dsimp only
 split
 ·rename_i y q
  rw[q]at e;exact congrArg some e
 ·rename_i q
  rw[q]at e;have a:es.toList.any (·.refKey)=false:=by
   rw[List.any_eq_false];intro y hy;obtain⟨z,t,hkey⟩:=hk y (Array.mem_toList_iff.mp hy);simp[DictEntry.refKey,hkey]
  have a':¬es.toList.any (·.refKey)=true:=by rw[a];exact Bool.false_ne_true
  rw[if_neg a'];exact congrArg some e
theorem Cm.look {h:Heap}{x dx C:Addr}{mA:Str->Option Value}(I:Cm h x dx C mA):∃od,W.InstAt h x (W.instObj C dx) C (some od)/\∀name,W.lookIn name od=some (mA name):=
 let ⟨od,ho,hl⟩:=Ib I.ns
 ⟨od,⟨I.obj,rfl,rfl,ho⟩,hl⟩
section
variable {prog:Program}{w:World}{A:Around}{E:Value->Shared->Prop}{s:Shared}{K:W.Frag}{x dx C f:Addr}{mA:Str->Option Value}{name:Str}{v:Value}
theorem get_map {expr:Bool}{Q:Value->Shared->Prop}(X:K.In s.heap)(I:Cm s.heap x dx C mA)(hg:W.plainGet K C name=true)(hh:W.hasDictIn K C=true)
  (ha:W.findIn K (.ref C) name=some none) (hv:mA name=some v) (hv':W.handedIn v=true) (h:Q v { s with toks:=s.toks+1 }) :
  wpAny (model prog w) A (getAttr (.ref x) name expr) Q E s:=by
 obtain⟨od,J,hl⟩:=I.look;exact W.get_value X J (W.plainGet_of hg).1 (W.findObj_own hh ha rfl (by rw[hl,hv])) hv' h
theorem XF {pl:Sem Bool}{Q:Value × List Value->Shared->Prop}(X:K.In s.heap)(I:Cm s.heap x dx C mA)(hg:W.plainGet K C name=true)
  (hf:W.findIn K (.ref C) name=some (some (.ref f))) (ht:W.isFn K (.ref f)=true) (hv:mA name=none) (h:Q (.ref f,[.ref x]) s) :
  wpAny (model prog w) A (getMethod (.ref x) name pl) Q E s:=by
 obtain⟨od,J,hl⟩:=I.look;exact W.method_fn X J (W.plainGet_of hg).1 (W.plainGet_of hg).2 hf (beq_iff_eq.mp ht) (by show (W.lookIn name od).map (·.isSome)=some false;rw[hl,hv];rfl) h
theorem aaI {ns:List Str}{Q:Unit->Shared->Prop}(X:K.In s.heap)(I:Cm s.heap x dx C mA)
  (hs:W.findIn K (.ref C) "__setattr__"=some (some (.builtin "object.__setattr__"))) (hp:W.plainOver K C=true) (ht:W.takerIn K C name=some none) (hh:W.hasDictIn K C=true)
  (hw:PySem.Within mA ns) (hsz:ns.length<=sizeLine)
  (h:∀h',Cm h' x dx C (λy=>if y=name then some v else mA y)->Heap.SameBut dx s.heap h'->Q () { s with heap:=h',toks:=s.toks+2 }) :
  wpAny (model prog w) A (setAttr (.ref x) name v) Q E s:=by
 obtain⟨od,J,hl⟩:=I.look;refine W.set_plain X J hs (W.osa_open (s:={ s with toks:=s.toks+1 }) (r:=none) X J hp ht λb=>?_);obtain⟨cd,hc,hd'⟩:=W.any_some hh;have hx:s.heap.get? x=some ⟨.ref C,some dx,.plain,#[]⟩:=I.obj;refine wpAny_bind (wpAny_pure (wpAny_bind (wpAny_bind (wpAny_loadPart hx (wpAny_bind (W.Looks.here (s:={ s with toks:=s.toks+1 }) (W.looks_clsIn X hc) ?_))))));rw[hd'];refine wpAny_pure (a:=some dx) (wpAny_bind (wpAny_pure (wpAny_bind ?_)));refine wpAny_nsSet1 (s:={ s with toks:=s.toks+1 }) I.ns λh' hn2 hs2=>?_;obtain⟨oD,esD,epD,hoD,hdD,hcD⟩:=hn2.count (PySem.Within.cons name v hw);refine wpAny_bind (wpAny_lookBehind hoD (by rw[hdD];exact pastItsLine_dict (Nat.le_trans hcD (by rw[List.length_cons];omega))) ?_);exact wpAny_pure (h _ ⟨(hs2.2 _ (Ne.symm I.ne)).trans I.obj,hn2,I.ne⟩ hs2)
theorem XH {R:Result->Shared->Prop}{vs:List Value}{kw:List (Str × Value)}(X:K.In s.heap)(hm:W.makesIn K C=true)
  (hi:W.findIn K (.ref C) "__init__"=some (some (.ref f))) (hf:W.typeIn K (.ref f)=some (.type "function"))
  (h:codeAny (model prog w) (A.under (.builtin "type.__call__" ⟨.ref C::vs,kw⟩)) (.call (.ref f) ⟨.ref (s.heap.objs.size+1)::vs,kw⟩) (W.InitBack (s.heap.objs.size+1) R)
   { s with heap:=(s.heap.push W.emptyDict).push (W.instObj C s.heap.objs.size) }) :
  codeAny (model prog w) A (.call (.ref C) ⟨vs,kw⟩) R s:=by
 obtain⟨hh,g,d,t,os⟩:=s;exact W.make_core (W.makes_of X hm) (W.looks_findIn X hi) (λself=>W.bind_fn X self hf) (.inl rfl) h
end
noncomputable def gM (f:Str)(v:V):List (Str × V)->List (Str × V)
 | []=>[(f,v)]
 | (g,x)::r=>if g=f then (g,v)::r else (g,x)::gM f v r
theorem lO (f g:Str)(v:V):∀fs:List (Str × V),(gM f v fs).lookup g=if g=f then some v else fs.lookup g
 | []=>by
  show List.lookup g [(f,v)]=_;by_cases h:g=f
  ·have hb:(g==f)=true:=beq_iff_eq.mpr h
   simp only[List.lookup,hb,if_pos h]
  ·have hb:(g==f)=false:=beq_eq_false_iff_ne.mpr h
   simp only[List.lookup,hb,if_neg h]
 | (k,x)::r=>by
  have ih:=lO f g v r;rw[show gM f v ((k,x)::r)=(if k=f then (k,v)::r else (k,x)::gM f v r) from rfl];by_cases hk:k=f
  ·rw[if_pos hk]
   by_cases h:g=k
   ·have hb:(g==k)=true:=beq_iff_eq.mpr h
    simp only[List.lookup,hb,if_pos (h.trans hk)]
   ·have hb:(g==k)=false:=beq_eq_false_iff_ne.mpr h
    simp only[List.lookup,hb,if_neg (λe:g=f=>h (e.trans hk.symm))]
  ·rw[if_neg hk]
   by_cases h:g=k
   ·have hb:(g==k)=true:=beq_iff_eq.mpr h
    simp only[List.lookup,hb,if_neg (λe:g=f=>hk (h.symm.trans e))]
   ·have hb:(g==k)=false:=beq_eq_false_iff_ne.mpr h
    simp only[List.lookup,hb];exact ih
theorem pU (f:Str)(v:V):∀fs:List (Str × V),f∈(gM f v fs).map (·.1)/\∀g,g∈fs.map (·.1)->g∈(gM f v fs).map (·.1)
 | []=>⟨by simp[gM],λg h=>by simp at h⟩
 | (k,x)::r=>by
  obtain⟨i1,i2⟩:=pU f v r;rw[show gM f v ((k,x)::r)=(if k=f then (k,v)::r else (k,x)::gM f v r) from rfl];by_cases hk:k=f
  ·rw[if_pos hk]
   subst hk;exact⟨by simp,λg h=>by simpa using h⟩
  ·rw[if_neg hk]
   refine⟨?_,λg h=>?_⟩
   ·rw[List.map_cons]
    exact List.mem_cons_of_mem _ i1
   ·rw[List.map_cons]at h ⊢
    rcases List.mem_cons.mp h with e | e
    ·exact List.mem_cons.mpr (.inl e)
    ·exact List.mem_cons_of_mem _ (i2 g e)
theorem uO (f:Str)(v:V):∀fs:List (Str × V),(gM f v fs).length<=fs.length+1
 | []=>by simp[gM]
 | (k,x)::r=>by
  have ih:=uO f v r;rw[show gM f v ((k,x)::r)=(if k=f then (k,v)::r else (k,x)::gM f v r) from rfl];by_cases hk:k=f
  ·rw[if_pos hk,List.length_cons,List.length_cons];omega
  ·rw[if_neg hk,List.length_cons,List.length_cons];omega
theorem jo.some_of {v:V}{o:Option Value}(r:jo (some v) o):∃u,o=some u/\RelV v u:=by
 cases o with
 | none=>exact(show False from r).elim
 | some u=>exact⟨u,rfl,r⟩
theorem jo.none_of {o:Option Value}(r:jo none o):o=none:=by
 cases o with
 | none=>rfl
 | some u=>exact(show False from r).elim
theorem Ie {v:V}{u:Value}(r:RelV v u):W.handedIn u=true:=by
 cases v with
 | non=>cases(show u=Value.none from r);rfl
 | bl b=>cases(show u=Value.bool b from r);rfl
 | int i=>obtain⟨t,e⟩:=(show ∃t,u=Value.int i t from r);cases e;rfl
 | str x=>obtain⟨t,e⟩:=(show ∃t,u=Value.str x t from r);cases e;rfl
 | yx b=>obtain⟨t,e⟩:=(show ∃t,u=Value.bytes b t from r);cases e;rfl
 | flt b=>obtain⟨t,e⟩:=(show ∃t,u=Value.float b t from r);cases e;rfl
 | ref a=>cases(show u=Value.ref a from r);rfl
 | ty n=>cases(show u=Value.type n from r);rfl
section
variable {P:Program}{w:World}{H:Hp}{h:Heap}{a C dx:Addr}{fs:List (Str × V)}
theorem Az (hok:iy P w H h)(e:H a=some (.ins C dx fs)):∃mA,Cm h a dx C mA/\(∀f,jo (fs.lookup f) (mA f))/\PySem.Within mA (fs.map (·.1))/\fs.length<=1000/\H dx=some (.own a):=by
 obtain⟨d,z,ne,ob,mA,n,r,q⟩:=(show cW P w H h a (.ins C dx fs) from hok a _ e)
 exact⟨mA,⟨ob,n,ne⟩,r,q,z,d⟩
end
structure Cls (K:W.Frag)(C:Addr):Prop where
 pg:W.plainGet K C Str.empty=true
 hd:W.hasDictIn K C=true
 po:W.plainOver K C=true
 sa:W.findIn K (.ref C) "__setattr__"=some (some (.builtin "object.__setattr__"))
theorem Cls.get {K:W.Frag}{C:Addr}(c:Cls K C)(f:Str):W.plainGet K C f=true:=c.pg
noncomputable def lQ (K:W.Frag)(C:Addr)(f:Str):Prop:=W.findIn K (.ref C) f=some none
theorem lQ.taker {K:W.Frag}{C:Addr}{f:Str}(n:lQ K C f):W.takerIn K C f=some none:=by
 unfold W.takerIn;rw[show W.findIn K (.ref C) f=some none from n];rfl
structure Con (K:W.Frag)(C:Addr)(f:Str)(v:V)(u:Value):Prop where
 at_:W.findIn K (.ref C) f=some (some u)
 rel:RelV v u
 get:W.specialIn K u "__get__"=some none
 cp:W.copiedNames.contains f=false
structure Meth (K:W.Frag)(C:Addr)(m:Str)(f:Addr):Prop where
 at_:W.findIn K (.ref C) m=some (some (.ref f))
 fn:W.isFn K (.ref f)=true
 kp:W.keepIn K (.ref f)=true
section
variable {X:Cx}{y7:List (Addr × Obj)}{σ:St}{H:Hp}{s:Shared}{a C dx:Addr}{fs:List (Str × V)}{f:Str}{v:V}{A:Around}{E:Value->Shared->Prop}
theorem Rh {b:Bool}{Q:Value->Shared->Prop}(I:Inv X y7 σ H s)(e:H a=some (.ins C dx fs))(c:Cls X.K C)(n:lQ X.K C f)(l:fs.lookup f=some v)
  (h:∀u s',Inv X y7 σ H s'->RelV v u->Q u s'):wpAny (model X.prog X.w) A (getAttr (.ref a) f b) Q E s:=by
 obtain⟨mA,O,r,_,_,_⟩:=Az I.hok e;obtain⟨u,hu,ru⟩:=jo.some_of (v:=v) (o:=mA f) (by rw[<- l];exact r f);exact get_map I.fL O (c.get f) c.hd n hu (Ie ru) (h u _ (I.tok _) ru)
theorem Eo {m:Str}{g:Addr}{pl:Sem Bool}{Q:Value × List Value->Shared->Prop}(I:Inv X y7 σ H s)(e:H a=some (.ins C dx fs))(c:Cls X.K C)(k:Meth X.K C m g)(l:fs.lookup m=none)
  (h:Q (.ref g,[.ref a]) s):wpAny (model X.prog X.w) A (getMethod (.ref a) m pl) Q E s:=by
 obtain⟨mA,O,r,_,_,_⟩:=Az I.hok e;have hn:mA m=none:=jo.none_of (by rw[<- l];exact r m);exact XF I.fL O (c.get m) k.at_ k.fn hn h
theorem Ri {y:V}{u:Value}{Q:Unit->Shared->Prop}(I:Inv X y7 σ H s)(e:H a=some (.ins C dx fs))(c:Cls X.K C)(n:lQ X.K C f)(hl:fs.length < 1000)(ry:RelV y u)
  (h:∀s',Inv X y7 σ (upd H a (.ins C dx (gM f y fs))) s'->Q () s'):wpAny (model X.prog X.w) A (setAttr (.ref a) f u) Q E s:=by
 obtain⟨mA,O,r,wi,_,ho⟩:=Az I.hok e;have hz:(fs.map (·.1)).length<=sizeLine:=by rw[List.length_map,sizeLine_eq];omega
 refine aaI I.fL O c.sa c.po n.taker c.hd wi hz λh' O' sb=>h _ ?_;have hd:∃o,h'.get? dx=some o:=let ⟨o,_,_,e',_⟩:=O'.ns;⟨o,e'⟩
 refine I.write (x:=a) (e:=dx) (by rw[e];exact True.intro) (.inr ho) (λb q hb z=>(sb.2 b hb).trans z) hd ?_;refine⟨by rw[aP O.ne];exact ho,?_,O.ne,O'.obj,_,O'.ns,λg=>?_,λg hg=>?_⟩
 ·have:=uO f y fs;omega
 ·show jo ((gM f y fs).lookup g) (if g=f then some u else mA g)
  rw[lO];by_cases q:g=f
  ·rw[if_pos q,if_pos q];exact ry
  ·rw[if_neg q,if_neg q];exact r g
 ·by_cases q:g=f
  ·rw[q];exact(pU f y fs).1
  ·refine(pU f y fs).2 g (wi g λz=>hg ?_)
   show (if g=f then some u else mA g)=none;rw[if_neg q];exact z
theorem Inv.made (I:Inv X y7 σ H s):Inv X y7 σ (upd (upd H s.heap.objs.size (.own (s.heap.objs.size+1))) (s.heap.objs.size+1) (.ins C s.heap.objs.size []))
  { s with heap:=(s.heap.push W.emptyDict).push (W.instObj C s.heap.objs.size) }:=by
 have e1:(s.heap.push W.emptyDict).get? s.heap.objs.size=some W.emptyDict:=Heap.get?_push_size s.heap rfl;have e2:((s.heap.push W.emptyDict).push (W.instObj C s.heap.objs.size)).get? (s.heap.objs.size+1)=some (W.instObj C s.heap.objs.size):=by
  have:=Heap.get?_push_size (s.heap.push W.emptyDict) (o:=W.instObj C s.heap.objs.size) rfl
  rwa [Heap.size_push]at this
 have e3:(s.heap.push W.emptyDict).Ns s.heap.objs.size (λ_=>none):=⟨W.emptyDict,#[],_,e1,rfl,(λe he=>absurd he (by simp)),λ_=>rfl⟩
 have I1:=I.laid (a:=s.heap.objs.size) (o:=.own (s.heap.objs.size+1)) (h':=s.heap.push W.emptyDict) (t':=s.toks) (λb u q=>Heap.get?_push_of_some _ q) (Nat.le_refl _) ⟨_,e1⟩;refine I1.laid (a:=s.heap.objs.size+1) (o:=.ins C s.heap.objs.size []) (t':=s.toks) (λb u q=>Heap.get?_push_of_some _ q) (Nat.le_of_eq (Heap.size_push _ _)) ?_;have ne:s.heap.objs.size≠s.heap.objs.size+1:=Nat.ne_of_lt (Nat.lt_succ_self _);refine⟨by rw[aP ne,ao],Nat.zero_le _,ne,e2,λ_=>none,(Heap.Ns1.of_empty e3).at λo q=>Heap.get?_push_of_some _ q,λ_=>True.intro,λy hy=>absurd rfl hy⟩
theorem Pq {prog:Program}{w:World}{env:Env}{e:Expr}{f:Str}{pos:Pos}{s:Shared}{Q:Value->Shared->Prop}(hb:attributeBase e f env (eval e env)=eval e env)
  (h:wpAny (model prog w) A (eval e env) (λo s₁=>wpAny (model prog w) A (getAttr o f true) Q E s₁) E s):wpAny (model prog w) A (eval (.Attribute e f pos) env) Q E s:=
 Attribute_any_ h (by rw[arm_eval_Attribute,hb])
end
noncomputable def acT (K:W.Frag)(ta:TE)(f:Str):TE:=λσ H Q=>ta σ H λx H1=>∃a C dx fs v,x=.ref a/\H1 a=some (.ins C dx fs)/\Cls K C/\lQ K C f/\fs.lookup f=some v/\Q v H1
noncomputable def acU (K:W.Frag)(ta tv:TE)(f:Str):TS:=λD σ H=>tv σ H λy H1=>ta σ H1 λx H2=>∃a C dx fs,x=.ref a/\H2 a=some (.ins C dx fs)/\Cls K C/\lQ K C f/\fs.length < 1000/\
 D.nx σ (upd H2 a (.ins C dx (gM f y fs)))
section
variable {X:Cx}{o e value:Expr}{f:Str}{pos pos':Pos}{ta tv:TE}
theorem acV (he:PE X e ta)(hb:attributeBase e f X.env (eval e X.env)=eval e X.env):PE X (.Attribute e f pos) (acT X.K ta f):=by
 intro y7 s σ H Q I h;refine Pq hb (bG (he y7 s σ H _ I h) λu s1 zz=>?_);obtain⟨x,H1,I1,rx,a,C,dx,fs,v,ex,ea,c,n,l,q⟩:=zz;subst ex;obtain rfl:u=Value.ref a:=rx;exact Rh I1 ea c n l λu' s2 I2 ru=>⟨v,H1,I2,ru,q⟩
theorem acW (ha:PE X o ta)(hv:PE X value tv)(hs:swapsWith value (some (.Attribute o f pos')) pos.line X.env=pure false):PS X (.Assign [.Attribute o f pos'] value pos) (acU X.K ta tv f):=by
 intro y7 s σ H D I h;refine plainObj_wpAny_Assign_Attribute (bG (hv y7 s σ H _ I h) λu s1 zz=>?_) hs;obtain⟨y,H1,I1,ry,q⟩:=zz;refine bG (ha y7 s1 σ H1 _ I1 q) λov s2 zz=>?_;obtain⟨x,H2,I2,rx,a,C,dx,fs,ex,ea,c,n,l,q2⟩:=zz;subst ex;obtain rfl:ov=Value.ref a:=rx;exact Ri I2 ea c n l ry λs3 I3=>⟨σ,_,I3,q2⟩
end
section
variable {X:Cx}{y7:List (Addr × Obj)}{σ:St}{H:Hp}{s:Shared}{A:Around}{E:Value->Shared->Prop}{Q:Value->Shared->Prop}{c:Value}{b:Bool}
inductive jt (K:W.Frag) (H:Hp):V->Value->Prop where
 | non:jt K H .non (.type "NoneType")
 | bl (x:Bool):jt K H (.bl x) (.type "bool")
 | int (i:Int):jt K H (.int i) (.type "int")
 | str (x:Str):jt K H (.str x) (.type "str")
 | flt (x:UInt64):jt K H (.flt x) (.type "float")
 | lst {a:Addr} {xs:List V} (e:H a=some (.lst xs)):jt K H (.ref a) (.type "list")
 | lM {a:Addr} {o:Obj} {xs:List V} (e:H a=some (.lM o (.lst xs))):jt K H (.ref a) (.type "list")
 | tup {a:Addr} {xs:List V} (e:H a=some (.tup xs)):jt K H (.ref a) (.type "tuple")
 | dK {a:Addr} {kvs:List (Key × V)} (e:H a=some (.dK kvs)):jt K H (.ref a) (.type "dict")
 | dT {a:Addr} {kvs:List (List Key × V)} (e:H a=some (.dT kvs)):jt K H (.ref a) (.type "dict")
 | ins {a C dx:Addr} {fs:List (Str × V)} (e:H a=some (.ins C dx fs)) (cl:Cls K C) (ha:W.findIn K (.ref C) "__class__"=some (some (.builtin "object.__class__")))
   (hn:W.specialIn K (.builtin "object.__class__") "__get__"=some (some (.builtin "getset_descriptor.__get__"))) (htk:W.takesIn K (.builtin "object.__class__")=some true)
   (hm:W.mroIn K C (.type "object")=some true):jt K H (.ref a) (.ref C)
theorem Ur {x:V}{u t:Value}(I:Inv X y7 σ H s)(rx:RelV x u)(ty:jt X.K H x t)(e:W.kitOne X.K t c=some b)(h:∀tk,Q (.bool b) { s with toks:=tk }) :
  wpAny (model X.prog X.w) A (call (.builtin "isinstance") [u,c]) Q E s:=by
 cases ty with
 | non=>cases(show u=Value.none from rx);exact W.kia_one W.kitx_none I.fL True.intro e (λz=>nomatch z) h
 | bl y=>cases(show u=Value.bool y from rx);exact W.kia_one W.kitx_bool I.fL True.intro e (λz=>nomatch z) h
 | int i=>obtain⟨t,q⟩:=(show ∃t,u=Value.int i t from rx);cases q;exact W.kia_one W.kitx_int I.fL True.intro e (λz=>nomatch z) h
 | str y=>obtain⟨t,q⟩:=(show ∃t,u=Value.str y t from rx);cases q;exact W.kia_one W.kitx_str I.fL True.intro e (λz=>nomatch z) h
 | flt y=>obtain⟨t,q⟩:=(show ∃t,u=Value.float y t from rx);cases q;exact W.kia_one W.kitx_float I.fL True.intro e (λz=>nomatch z) h
 | @lst a xs ea=>
  cases(show u=Value.ref a from rx);obtain⟨_,_,n,_,h1⟩:=(show cW X.prog X.w H s.heap a (.lst xs) from I.hok a _ ea)
  exact W.kia_one W.kitx_list I.fL ⟨_,h1,rfl⟩ e (λz=>nomatch z) h
 | @lM a ob xs ea=>
  cases(show u=Value.ref a from rx);obtain⟨_,_,_,n,_,h1⟩:=(show cW X.prog X.w H s.heap a (.lM ob (.lst xs)) from I.hok a _ ea)
  exact W.kia_one W.kitx_list I.fL ⟨_,h1,rfl⟩ e (λz=>nomatch z) h
 | @tup a xs ea=>
  cases(show u=Value.ref a from rx);obtain⟨_,_,_,p⟩:=(show cW X.prog X.w H s.heap a (.tup xs) from I.hok a _ ea)
  obtain⟨o,h1,h2,_⟩:=p;exact W.kia_one W.kitx_tuple I.fL ⟨o,h1,h2⟩ e (λz=>nomatch z) h
 | @dK a kvs ea=>
  cases(show u=Value.ref a from rx);obtain⟨_,_,vs,_,p⟩:=(show cW X.prog X.w H s.heap a (.dK kvs) from I.hok a _ ea)
  obtain⟨o,es,ep,h1,h2,_⟩:=p;exact W.kia_one W.kitx_dict I.fL ⟨o,h1,h2.1⟩ e (λz=>nomatch z) h
 | @dT a kvs ea=>
  cases(show u=Value.ref a from rx);obtain⟨_,_,xs,_,o,es,ep,h1,h2,_⟩:=(show cW X.prog X.w H s.heap a (.dT kvs) from I.hok a _ ea)
  exact W.kia_one W.kitx_dict I.fL ⟨o,h1,h2.1⟩ e (λz=>nomatch z) h
 | @ins a C dx fs ea cl ha hn htk hm=>
  cases(show u=Value.ref a from rx);obtain⟨mA,O,_⟩:=Az I.hok ea;obtain⟨od,J,_⟩:=O.look;exact W.kia_one (W.kitx_own (cl.get _) cl.hd ha hn htk hm) I.fL J e (λz=>nomatch z) h
end
structure dw (k:Nat)(A:Around):Prop where
 hd:A.handled=none
 dp:A.depth+3*k+5 < recursionLimit
 un:A.units+16*k+200 < cLine
theorem dw.mono {j k:Nat}{A:Around}(r:dw k A)(h:j<=k):dw j A:=⟨r.hd,by have:=r.dp;omega,by have:=r.un;omega⟩
theorem dw.deeper {k:Nat}{A:Around}(r:dw (k+1) A)(env:Env):dw k (A.deeper env):=
 ⟨r.hd,by have:=r.dp;show A.depth+1+3*k+5 < _;omega,by have:=r.un;show A.units+3+16*k+200 < _;omega⟩
theorem Rj {A:Around}{C:Addr}{us:List Value}{kw:List (Str × Value)}:(A.under (.builtin "type.__call__" ⟨.ref C::us,kw⟩)).depth=A.depth+1:=by
 first | rfl | simp[Around.under,Code.weight,Code.isCreation,Code.isGuard,Code.isCaller,Code.frames,Code.isFrame,guardIds]
theorem Rk {A:Around}{C:Addr}{us:List Value}{kw:List (Str × Value)}:(A.under (.builtin "type.__call__" ⟨.ref C::us,kw⟩)).units=A.units+1:=by
 first | rfl | simp[Around.under,Code.cUnits,Code.frames,Code.isFrame]
theorem dw.make {k:Nat}{A:Around}(r:dw (k+1) A)(C:Addr)(us:List Value)(kw:List (Str × Value)):dw k (A.under (.builtin "type.__call__" ⟨.ref C::us,kw⟩)):=
 ⟨r.hd,by have:=r.dp;rw[Rj];omega,by have:=r.un;rw[Rk];omega⟩
theorem dw.depth {k:Nat}{A:Around}(r:dw k A):A.depth < recursionLimit:=by have:=r.dp;omega
theorem dw.units {k:Nat}{A:Around}(r:dw k A):A.units+64 < cLine:=by have:=r.un;omega
theorem dw.acX {k:Nat}{A:Around}(r:dw k A):A.units < cLine:=by have:=r.un;omega
noncomputable def oH:TA:=λ_ H Q=>Q [] H
noncomputable def k_ (ta:TE)(tr:TA):TA:=λσ H Q=>ta σ H λx H1=>tr σ H1 λxs H2=>Q (x::xs) H2
section
variable {X:Cx}{e:Expr}{es:List Expr}{te:TE}{t:TA}{pos:Pos}
theorem acY:PA X [] oH:=λ_ _ _ _ H Q I h=>Calls.spliced_nil ⟨[],H,I,.nil,h⟩
theorem aaJ (ha:PE X e te)(hr:PA X es t)(hs:starEach (e::es) X.env=(false,eval e X.env)::starEach es X.env:=by rfl):PA X (e::es) (k_ te t):=by
 intro pos y7 s σ H Q I h;rw[hs];show wpAny _ _ (spliced ((false,eval e X.env)::backTo pos (starEach es X.env))) _ _ s;refine Calls.spliced_cons (bG (ha y7 s σ H _ I h) λu s1 zz=>?_);obtain⟨x,H1,I1,r1,q1⟩:=zz;exact bG (hr pos y7 s1 σ H1 _ I1 q1) λus s2 ⟨xs,H2,I2,r2,q2⟩=>⟨x::xs,H2,I2,.cons r1 r2,q2⟩
noncomputable def acZ (t:TA):TE:=λσ H Q=>t σ H λxs H1=>xs.length<=sizeLine/\∀p,H1 p=none->Q (.ref p) (upd H1 p (.tup xs))
noncomputable def ac0 (t:TA):TE:=λσ H Q=>t σ H λxs H1=>xs.length<=sizeLine/\∀p,H1 p=none->Q (.ref p) (upd H1 p (.lst xs))
theorem ac1 {x1}(h:PA X es t):PE X (.Tuple es x1 pos) (acZ t):=by
 intro y7 s σ H Q I hq;refine wpAny_Tuple_spliced (bG (h pos y7 s σ H _ I hq) λus s1 ⟨xs,H1,I1,r,z,q⟩=>⟨by rw[<- r.length];exact z,?_⟩);have hf:H1 s1.heap.objs.size=none:=I1.hok.fresh (Nat.le_refl _);refine⟨.ref s1.heap.objs.size,upd H1 s1.heap.objs.size (.tup xs),I1.laid (t':=s1.toks) (λb u e=>Heap.get?_push_of_some _ e) (Nat.le_refl _) ?_,rfl,q _ hf⟩;exact⟨z,us,r,⟨_,Heap.get?_push_size _ rfl,rfl,_,rfl⟩⟩
theorem ac2 (h:PA X es t):PE X (.List es pos) (ac0 t):=by
 intro y7 s σ H Q I hq;refine wpAny_List_spliced (bG (h pos y7 s σ H _ I hq) λus s1 ⟨xs,H1,I1,r,z,q⟩=>⟨by rw[<- r.length];exact z,?_⟩);have hf:H1 s1.heap.objs.size=none:=I1.hok.fresh (Nat.le_refl _);refine⟨.ref s1.heap.objs.size,upd H1 s1.heap.objs.size (.lst xs),I1.laid (t':=s1.toks) (λb u e=>Heap.get?_push_of_some _ e) (Nat.le_refl _) ?_,rfl,q _ hf⟩;exact⟨z,us,0,r,Heap.get?_push_size _ rfl⟩
end
abbrev Sp:=List V->Hp->VK->XK->Prop
abbrev m5:=List Env->Hp->Shared->XK->Value->Shared->Prop
structure Cp (P:Program)(w:World)(K:W.Frag)(mg:Str->Option Value)(base:Heap)(A:Around)(outer:List Env)(s:Shared)(H:Hp):Prop where
 frames:A.frames=some outer
 mod:Mod K mg base
 bs:∀b o,base.get? b=some o->s.heap.get? b=some o/\H b=none
 qK:base.objs.size<=s.heap.objs.size
 lH:s.heap.FunFrames base outer
 yK:∀b∈frs outer,H b=none
 hok:iy P w H s.heap
 bare:AllBare s.gens
noncomputable def CE (outer:List Env)(P:Program)(w:World)(H:Hp)(s:Shared)(Q:VK)(u:Value)(s':Shared):Prop:=
 ∃v H',s'.os=s.os/\AllBare s'.gens/\Un (frs outer) [] H H' s.heap s'.heap/\iy P w H' s'.heap/\RelV v u/\Q v H'
noncomputable def CR (CX:m5)(outer:List Env)(P:Program)(w:World)(H:Hp)(s:Shared)(Q:VK)(E:XK)(r:Result)(s':Shared):Prop:=
 match r with
 | .ok (.ret u)=>CE outer P w H s Q u s'
 | .ok _=>False
 | .error e=>CX outer H s E e s'
structure cD (P:Program)(w:World)(K:W.Frag)(mg:Str->Option Value)(base:Heap)(CX:m5)(k:Nat)(f:Addr)(fd:FuncData)(ps:List Str)(sp:Sp):Prop where
 len:∀vs H Q E,sp vs H Q E->vs.length=ps.length
 run:∀(A:Around) (outer:List Env) (s:Shared) (H:Hp) (args:Args) (us:List Value) (vs:List V) (Q:VK) (E:XK),dw k A->Cp P w K mg base A outer s H->BindsTo s fd args (ps.zip us)->Vals vs us->sp vs H Q E->
  codeAny (model P w) A (.call (.ref f) args) (CR CX outer P w H s Q E) s
theorem cD.mono {P:Program}{w:World}{K:W.Frag}{mg:Str->Option Value}{base:Heap}{CX:m5}{j k:Nat}{f:Addr}{fd:FuncData}{ps:List Str}{sp:Sp}(F:cD P w K mg base CX j f fd ps sp)(h:j<=k) :
  cD P w K mg base CX k f fd ps sp:=⟨F.len,λA outer s H args us vs Q E hr=>F.run A outer s H args us vs Q E (hr.mono h)⟩
theorem Cp.make {P:Program}{w:World}{K:W.Frag}{mg:Str->Option Value}{base:Heap}{A:Around}{outer:List Env}{s:Shared}{H:Hp}(e:Cp P w K mg base A outer s H)(C:Addr)(us:List Value)(kw:List (Str × Value)) :
  Cp P w K mg base (A.under (.builtin "type.__call__" ⟨.ref C::us,kw⟩)) outer s H:=⟨by first | exact e.frames | (simpa [Around.under,Code.envs,Code.isFrame,pushEnvs] using e.frames),e.mod,e.bs,e.qK,e.lH,e.yK,e.hok,e.bare⟩
section
variable {X:Cx}{y7:List (Addr × Obj)}{σ:St}{H:Hp}{s s':Shared}
theorem Inv.env0 (I:Inv X y7 σ H s):Cp X.prog X.w X.K X.mg X.base X.A X.stack s H:=
 ⟨I.ok.frames,I.ok.mod,I.bs,Nat.le_trans I.ok.qK I.sz,I.stack,I.oG,I.hok,I.bare⟩
theorem Inv.after {Q:VK}{u:Value}(I:Inv X y7 σ H s)(h:CE X.stack X.prog X.w H s Q u s'):EP X y7 σ Q u s':=by
 obtain⟨v,H',os,bare,un,hok,r,q⟩:=h;obtain⟨hh,g,d,t,os'⟩:=s';obtain rfl:os'=s.os:=os;exact⟨v,H',I.call (h':=hh) (g':=g) (d':=d) (t':=t) (ch:=[]) un hok bare (λb z=>absurd z (by simp)),r,q⟩
end
noncomputable def J4 (sp:Sp)(iz:List V)(E:XK)(t:TA):TE:=λσ H Q=>t σ H λvs H1=>sp (vs++iz) H1 Q E
noncomputable def J5 (C:Addr)(m:Str)(sp:Sp)(iz:List V)(E:XK)(ta:TE)(t:TA):TE:=λσ H Q=>ta σ H λx H1=>∃a dx fs,x=.ref a/\H1 a=some (.ins C dx fs)/\fs.lookup m=none/\
 t σ H1 λvs H2=>sp (x::(vs++iz)) H2 Q E
noncomputable def Z8 (C:Addr)(sp:Sp)(iz:List V)(E:XK)(t:TA):TE:=λσ H Q=>t σ H λvs H1=>∀x dx,H1 x=none->H1 dx=none->dx≠x->
 sp (.ref x::(vs++iz)) (upd (upd H1 dx (.own x)) x (.ins C dx [])) (λv H2=>v=.non/\Q (.ref x) H2) E
noncomputable def Binds (K:W.Frag)(fd:FuncData)(ps:List Str)(ds:List Value):Prop:=
 ∀(s:Shared) (us:List Value),K.In s.heap->(us++ds).length=ps.length->BindsTo s fd ⟨us,[]⟩ (ps.zip (us++ds))
theorem Binds.all {K:W.Frag}{fd:FuncData}{ps:List Str}(h:∀us:List Value,us.length=ps.length->bindArgs fd ⟨us,[]⟩=pure (ps.zip us)):Binds K fd ps []:=λs us _ hl=>by
 rw[List.append_nil]at hl ⊢;exact .of_eq (h us hl)
noncomputable def Passes (CX:m5)(X:Cx)(E:XK):Prop:=∀(y7:List (Addr × Obj)) (σ:St) (H:Hp) (s:Shared) (e:Value) (s':Shared),Inv X y7 σ H s->CX X.stack H s E e s'->X.xe e s'
section
variable {X:Cx}{CX:m5}{k:Nat}{f C:Addr}{fd:FuncData}{ps:List Str}{sp:Sp}{iz:List V}{ds:List Value}{E:XK}{x m:Str}{p pos apos:Pos}{e o:Expr}{es:List Expr}{ta:TE}{t:TA}
theorem Kp {y7:List (Addr × Obj)}{σ:St}{H:Hp}{s:Shared}{Q:VK}{us:List Value}{vs:List V}(F:cD X.prog X.w X.K X.mg X.base CX k f fd ps sp)(hr:dw k X.A)(hb:Binds X.K fd ps ds)(hd:Vals iz ds)(hx:Passes CX X E)
  (I:Inv X y7 σ H s) (r:Vals vs us) (h:sp (vs++iz) H Q E):wpAny (model X.prog X.w) X.A (call (.ref f) us) (EP X y7 σ Q) X.xe s:=by
 have r2:Vals (vs++iz) (us++ds):=r.append hd;have hl:(us++ds).length=ps.length:=by rw[<- r2.length];exact F.len _ _ _ _ h
 refine wpAny_call (codeAny_mono (F.run X.A X.stack s H ⟨us,[]⟩ (us++ds) (vs++iz) Q E hr I.env0 (hb s us I.fL hl) r2 h) λr s' hq=>?_);cases r with
 | error e=>exact hx y7 σ H s e s' I hq
 | ok fl=>
  cases fl with
  | ret u=>exact I.after hq
  | next=>exact False.elim hq
  | brk=>exact False.elim hq
  | cont=>exact False.elim hq
theorem aaK (F:cD X.prog X.w X.K X.mg X.base CX k f fd ps sp)(hr:dw k X.A)(hg:Gl X x)(hm:X.mg x=some (.ref f))(hk:W.keepIn X.K (.ref f)=true)(hb:Binds X.K fd ps ds)(hd:Vals iz ds)(hx:Passes CX X E)
  (ha:PA X (e::es) t) (hdb:(x==("__debug__":Str))=false:=by decide) (he:starEach (e::es) X.env=(false,eval e X.env)::starEach es X.env:=by rfl) (hpl:(backTo pos (starEach es X.env)).any (·.1)=false:=by rfl) :
  PE X (.Call (.Name x p) (e::es) [] pos) (J4 sp iz E t):=by
 intro y7 s σ H Q I h;refine wpAny_Call_Name_kw (mZ I hg hm ?_ hdb);refine W.callWith_K (h₀:=X.base) I.ok.mod.Ek hk (bG (ha pos y7 s σ H _ I h) λus s1 ⟨vs,H1,I1,r,q⟩=>⟨I1.fL,?_⟩) he hpl;exact Kp F hr hb hd hx I1 r q
theorem aaL {pl:Sem Bool}(he:PE X o ta)(c:Cls X.K C)(hm:Meth X.K C m f)(F:cD X.prog X.w X.K X.mg X.base CX k f fd ps sp)(hr:dw k X.A)(hb:Binds X.K fd ps ds)(hd:Vals iz ds)(hx:Passes CX X E)(ha:PA X (e::es) t)
  (hst:starEach (e::es) X.env=(false,eval e X.env)::starEach es X.env:=by rfl) (hpl:(backTo pos (starEach es X.env)).any (·.1)=false:=by rfl)
  (ht:eval (.Call (.Attribute o m apos) (e::es) [] pos) X.env=(do
   let ov <- eval o X.env
   standAt apos.atName
   let (f,first) <- holding [ov] (getMethod ov m pl)
   callWith pos f first (backTo pos (starEach (e::es) X.env)) (backToKw pos (keywordEach [] X.env))):=by rfl) :
  PE X (.Call (.Attribute o m apos) (e::es) [] pos) (J5 C m sp iz E ta t):=by
 intro y7 s σ H Q I h;refine W.methodCall_KW (pl:=pl) (bG (he y7 s σ H _ I h) λu s1 zz=>?_) ht;obtain⟨x,H1,I1,rx,a,dx,fs,ex,ea,l,q⟩:=zz;subst ex;obtain rfl:u=Value.ref a:=rx;refine Eo I1 ea c hm l ?_;refine W.callWith_K (first:=[.ref a]) (h₀:=X.base) I.ok.mod.Ek hm.kp (bG (ha pos y7 s1 σ H1 _ I1 q) λus s2 ⟨vs,H2,I2,r,q2⟩=>⟨I2.fL,?_⟩) hst hpl;exact Kp (us:=.ref a::us) (vs:=.ref a::vs) F hr hb hd hx I2 (.cons rfl r) q2
theorem XJ {pl:Sem Bool}(he:PE X o ta)(c:Cls X.K C)(hm:Meth X.K C m f)(F:cD X.prog X.w X.K X.mg X.base CX k f fd ps sp)(hr:dw k X.A)(hb:Binds X.K fd ps ds)(hd:Vals iz ds)(hx:Passes CX X E)
  (ht:eval (.Call (.Attribute o m apos) [] [] pos) X.env=(do
   let ov <- eval o X.env
   standAt apos.atName
   let (f,first) <- holding [ov] (getMethod ov m pl)
   callWith pos f first (backTo pos (starEach [] X.env)) (backToKw pos (keywordEach [] X.env))):=by rfl) :
  PE X (.Call (.Attribute o m apos) [] [] pos) (J5 C m sp iz E ta oH):=by
 intro y7 s σ H Q I h;refine W.methodCall_KW (pl:=pl) (bG (he y7 s σ H _ I h) λu s1 zz=>?_) ht;obtain⟨x,H1,I1,rx,a,dx,fs,ex,ea,l,q⟩:=zz;subst ex;obtain rfl:u=Value.ref a:=rx;refine Eo I1 ea c hm l ?_;exact W.callWith_K0 (first:=[.ref a]) I1.fL hm.kp (Kp (us:=[.ref a]) (vs:=[.ref a]) F hr hb hd hx I1 (.cons rfl .nil) q)
structure Mk (K:W.Frag)(C f:Addr):Prop where
 makes:W.makesIn K C=true
 init:W.findIn K (.ref C) "__init__"=some (some (.ref f))
 fn:W.isFn K (.ref f)=true
 kp:W.keepIn K (.ref C)=true
theorem XM {y7:List (Addr × Obj)}{σ:St}{H:Hp}{s:Shared}{Q:VK}{us:List Value}{vs:List V}(M:Mk X.K C f)(F:cD X.prog X.w X.K X.mg X.base CX k f fd ps sp)(hr:dw (k+1) X.A)(hb:Binds X.K fd ps ds)(hd:Vals iz ds)
  (hx:Passes CX X E) (I:Inv X y7 σ H s) (r:Vals vs us)
  (h:∀x dx,H x=none->H dx=none->dx≠x->sp (.ref x::(vs++iz)) (upd (upd H dx (.own x)) x (.ins C dx [])) (λv H2=>v=.non/\Q (.ref x) H2) E) :
  wpAny (model X.prog X.w) X.A (call (.ref C) us) (EP X y7 σ Q) X.xe s:=by
 have hq:=h (s.heap.objs.size+1) s.heap.objs.size (I.hok.fresh (Nat.le_succ _)) (I.hok.fresh (Nat.le_refl _)) (Nat.ne_of_lt (Nat.lt_succ_self _));have I2:=Inv.made (C:=C) I;have r2:Vals (V.ref (s.heap.objs.size+1)::(vs++iz)) (Value.ref (s.heap.objs.size+1)::(us++ds)):=.cons rfl (r.append hd);have hl:(Value.ref (s.heap.objs.size+1)::us++ds).length=ps.length:=by
  have e:=r2.length;rw[F.len _ _ _ _ hq]at e;exact e.symm
 refine wpAny_call (XH (f:=f) I.fL M.makes M.init (beq_iff_eq.mp M.fn) (codeAny_mono (F.run _ X.stack _ _ ⟨Value.ref (s.heap.objs.size+1)::us,[]⟩ (Value.ref (s.heap.objs.size+1)::(us++ds)) _ _ E (hr.make C us [])
  (I2.env0.make C us []) (hb _ (Value.ref (s.heap.objs.size+1)::us) I2.fL hl) r2 hq) λr s' hq'=>?_))
 cases r with
 | error e=>exact hx y7 σ _ _ e s' I2 hq'
 | ok fl=>
  cases fl with
  | ret u=>
   obtain⟨v,H',I3,rv,ev,q3⟩:=I2.after hq';subst ev;exact⟨rv,⟨V.ref (s.heap.objs.size+1),H',I3,rfl,q3⟩⟩
  | next=>exact False.elim hq'
  | brk=>exact False.elim hq'
  | cont=>exact False.elim hq'
theorem aaM (M:Mk X.K C f)(F:cD X.prog X.w X.K X.mg X.base CX k f fd ps sp)(hr:dw (k+1) X.A)(hg:Gl X x)(hm:X.mg x=some (.ref C))(hb:Binds X.K fd ps ds)(hd:Vals iz ds)(hx:Passes CX X E)
  (ha:PA X (e::es) t) (hdb:(x==("__debug__":Str))=false:=by decide) (he:starEach (e::es) X.env=(false,eval e X.env)::starEach es X.env:=by rfl) (hpl:(backTo pos (starEach es X.env)).any (·.1)=false:=by rfl) :
  PE X (.Call (.Name x p) (e::es) [] pos) (Z8 C sp iz E t):=by
 intro y7 s σ H Q I h;refine wpAny_Call_Name_kw (mZ I hg hm ?_ hdb);refine W.callWith_K (h₀:=X.base) I.ok.mod.Ek M.kp (bG (ha pos y7 s σ H _ I h) λus s1 ⟨vs,H1,I1,r,q⟩=>⟨I1.fL,?_⟩) he hpl;exact XM M F hr hb hd hx I1 r q
end
section
variable {fd:FuncData}{ps ks:List Str}
structure afS (K:W.Frag)(fd:FuncData)(ps ks:List Str)(g:List Value->List Value->List Value)(gV:List V->List V->List V):Prop where
 to:∀(s:Shared) (us ws:List Value),K.In s.heap->(g us ws).length=ps.length->BindsTo s fd ⟨us,ks.zip ws⟩ (ps.zip (g us ws))
 rel:∀{vs:List V} {us:List Value} {zs:List V} {ws:List Value},Vals vs us->Vals zs ws->Vals (gV vs zs) (g us ws)
end
structure aW (N P:List Str)(sc:Scope):Prop where
 kind:sc.kind=.function
 co:sc.isCoroutine=false
 gen:sc.isGenerator=false
 nd:N.Nodup
 pre:N.take P.length=P
 par:∀x∈P,sc.names.lookup x=some .local\/sc.names.lookup x=some .cell
 ac3:∀y∈sc.names,y.2≠.free
theorem Ig {kindOf:Str->Option NameKind}{x:Str}:∀{binds:List (Str × Value)} {m:Str->Option Value},(∀v,(x,v)∉binds)->bindL kindOf binds m x=m x
 | [],_,_=>rfl
 | (n,v)::r,m,h=>by
  unfold bindL;rw[Ig λw hw=>h w (List.mem_cons_of_mem _ hw)]
  split
  ·have:x≠n:=by rintro rfl;exact h v List.mem_cons_self
   simp[this]
  ·rfl
theorem Ih {kindOf:Str->Option NameKind}{x:Str}:∀{binds:List (Str × Value)} {m:Str->Option Value},(∀v,(x,v)∉binds)->bindC kindOf binds m x=m x
 | [],_,_=>rfl
 | (n,v)::r,m,h=>by
  unfold bindC;rw[Ih λw hw=>h w (List.mem_cons_of_mem _ hw)]
  split
  ·rfl
  ·have:x≠n:=by rintro rfl;exact h v List.mem_cons_self
   simp[this]
theorem Ii {kindOf:Str->Option NameKind}{x:Str}{v:Value}:∀{P:List Str} {vs:List Value} {i:Nat} {m:Str->Option Value},P.Nodup->P[i]?=some x->vs[i]?=some v->kindOf x=some .local->
  bindL kindOf (P.zip vs) m x=some v
 | [],_,_,_,_,h,_,_=>by simp at h
 | _::_,[],_,_,_,_,h,_=>by simp at h
 | p::P,w::vs,0,m,nd,h1,h2,hk=>by
  simp at h1 h2;subst h1;subst h2;show bindL kindOf ((p,w)::P.zip vs) m p=_;unfold bindL;rw[Ig λv hv=>(List.nodup_cons.mp nd).1 (List.of_mem_zip hv).1,if_pos hk];simp
 | p::P,w::vs,i+1,m,nd,h1,h2,hk=>by
  show bindL kindOf ((p,w)::P.zip vs) m x=_;unfold bindL;exact Ii (i:=i) (List.nodup_cons.mp nd).2 (by simpa using h1) (by simpa using h2) hk
theorem Ij {kindOf:Str->Option NameKind}{x:Str}{v:Value}:∀{P:List Str} {vs:List Value} {i:Nat} {m:Str->Option Value},P.Nodup->P[i]?=some x->vs[i]?=some v->kindOf x≠some .local->
  bindC kindOf (P.zip vs) m x=some v
 | [],_,_,_,_,h,_,_=>by simp at h
 | _::_,[],_,_,_,_,h,_=>by simp at h
 | p::P,w::vs,0,m,nd,h1,h2,hk=>by
  simp at h1 h2;subst h1;subst h2;show bindC kindOf ((p,w)::P.zip vs) m p=_;unfold bindC;rw[Ih λv hv=>(List.nodup_cons.mp nd).1 (List.of_mem_zip hv).1,if_neg hk];simp
 | p::P,w::vs,i+1,m,nd,h1,h2,hk=>by
  show bindC kindOf ((p,w)::P.zip vs) m x=_;unfold bindC;exact Ij (i:=i) (List.nodup_cons.mp nd).2 (by simpa using h1) (by simpa using h2) hk
noncomputable def start (N:List Str)(vs:List V):St:=vs.map some++List.replicate (N.length-vs.length) none
noncomputable def oJ (CX:m5)(P:Program)(w:World)(K:W.Frag)(mg:Str->Option Value)(base:Heap)(N:List Str)(qual:Str)(scope:Scope)(f:Addr)(cd:Value)(A:Around)(outer:List Env)(s:Shared)(H:Hp)(E:XK):Cx where
 prog:=P
 w:=w
 K:=K
 mg:=mg
 base:=base
 A:=A.deeper (envOfC qual scope s.heap.objs.size f cd)
 N:=N
 s₀:=s
 H₀:=H
 env:=envOfC qual scope s.heap.objs.size f cd
 outer:=outer
 stack:=envOfC qual scope s.heap.objs.size f cd::outer
 ex:=[]
 calm:=true
 fn:=λ_=>true
 pn:=[]
 xe:=λe s'=>wpAny (model P w) (A.deeper (envOfC qual scope s.heap.objs.size f cd)) (leaving (envOfC qual scope s.heap.objs.size f cd) e) (λ_ s''=>CX outer H s E e s'') (λe' s''=>CX outer H s E e' s'') s'
theorem Kq {sc:Scope}{n:Nat}{x:Str}(h:sc.names.lookup x=some .cell):∃c,(cellsFrom n sc.names []).lookup x=some c:=by
 have q:=W.cellsFrom_some sc.names n [] (.inl h);exact Option.isSome_iff_exists.mp q
theorem Us {CX:m5}{P:Program}{w:World}{K:W.Frag}{mg:Str->Option Value}{base:Heap}{N ps:List Str}{qual:Str}{scope:Scope}{f:Addr}{cd:Value}{A:Around}{outer:List Env}{s s1:Shared}{H:Hp}{E:XK}{us:List Value}{vs:List V}
  (S:aW N ps scope) (hd:A.handled=none) (e0:Cp P w K mg base A outer s H) (hl:vs.length=ps.length) (r:Vals vs us)
  (x:InCallC s s.heap.objs.size (bindL (envOfC qual scope s.heap.objs.size f cd).kindOf (ps.zip us) λ_=>none) (cellsFrom (s.heap.objs.size+1) scope.names []) (bindC (envOfC qual scope s.heap.objs.size f cd).kindOf (ps.zip us) λ_=>none) s1) :
  Inv (oJ CX P w K mg base N qual scope f cd A outer s H E) [] (start N vs) H s1:=by
 have hpl:ps.length<=N.length:=by have:=congrArg List.length S.pre;rw[List.length_take]at this;omega
 obtain⟨h1,tk,rfl,hk⟩:=x.done;have Ut:∀b:Addr,b∉(oJ CX P w K mg base N qual scope f cd A outer s H E).ex:=λb z=>absurd (show b∈([]:List Addr) from z) (by simp);refine⟨⟨e0.mod,S.kind,rfl,rfl,Nat.le_refl _,λy z c h1 h2=>?_,λy hy=>?_,λy c _ h=>?_,λ_=>hd,Around.frames_deeper e0.frames,.inr ⟨rfl,rfl⟩,λb z=>absurd z (Ut b),e0.bs,e0.qK,λb _ _=>Ut b,λb z=>absurd z (Ut b),e0.lH,e0.yK⟩,
  rfl,e0.bare,Un.kept hk,⟨_,x.toInCall.ns,λi y v h1 h2 h3=>?_⟩,λy c h=>⟨_,x.cell y c h⟩,e0.hok.fresh (Nat.le_refl _),λy c h=>?_,λp hp=>absurd (show p∈([]:List (Addr × Obj)) from hp) (by simp),e0.hok.kept hk,?_⟩
 ·exact name_of_addr x.apart (PySem.mem_of_lookup h1) (PySem.mem_of_lookup h2)
 ·have hy:scope.names.lookup y=some .cell\/scope.names.lookup y=some .free:=hy
  rcases hy with hy | hy
  ·exact Kq hy
  ·exact absurd rfl (S.ac3 _ (PySem.mem_of_lookup hy))
 ·exact Nat.le_of_lt (x.above y c (PySem.mem_of_lookup h))
 ·have hi:i < vs.length:=by
   unfold start at h2;by_cases hi:i < vs.length
   ·exact hi
   ·rw[List.getElem?_append_right (by simpa using hi)]at h2
    rw[List.getElem?_replicate]at h2
    split at h2 <;> cases h2
  have ha:vs[i]?=some v:=by
   unfold start at h2;rw[List.getElem?_append_left (by simpa using hi),List.getElem?_map]at h2;cases e:vs[i]? with
   | none=>rw[e]at h2;cases h2
   | some a=>rw[e]at h2;cases h2;rfl
  obtain⟨u,hu,rv⟩:=r.get ha;have hp:ps[i]?=some y:=by
   rw[<- S.pre,List.getElem?_take_of_lt (by omega)];exact h1
  have ndP:ps.Nodup:=by rw[<- S.pre];exact S.nd.sublist (List.take_sublist _ _)
  refine⟨u,rv,?_⟩;rcases S.par y (List.mem_of_getElem? hp) with k | k
  ·exact .inl ⟨k,Ii ndP hp hu k⟩
  ·obtain⟨c,e⟩:=Kq (n:=s.heap.objs.size+1) k
   refine .inr ⟨.inl k,c,e,?_⟩;have q:=x.cell y c e;rw[Ij ndP hp hu (by show scope.names.lookup y≠_;rw[k];decide)]at q;exact q
 ·exact e0.hok.fresh (Nat.le_of_lt (x.above y c (PySem.mem_of_lookup h)))
 ·unfold start
  show _=N.length;rw[List.length_append,List.length_map,List.length_replicate];omega
theorem Z9 {CX:m5}{P:Program}{w:World}{K:W.Frag}{mg:Str->Option Value}{base:Heap}{k:Nat}{f:Addr}{name qual:Str}{params:Arguments}{body:List Stmt}{scope:Scope}{dV kV doc pm cdv ct oc:Value}{an od:Option Addr}
  {osl:Array (Option Value)} {N ps:List Str} {sp:Sp} (lk:K.lookup f=some ⟨oc,od,.func (W.fnOf name qual params body scope dV kV doc pm an cdv ct),osl⟩) (hcd:W.codeIn K cdv qual=true) (S:aW N ps scope)
  (len:∀vs H Q E,sp vs H Q E->vs.length=ps.length)
  (hbody:∀(A:Around) (outer:List Env) (s:Shared) (H:Hp) (vs:List V) (Q:VK) (E:XK),dw k (A.deeper (envOfC qual scope s.heap.objs.size f cdv))->sp vs H Q E->
   ∃t,qM (oJ CX P w K mg base N qual scope f cdv A outer s H E) body t/\t { nx:=λ_ H'=>Q .non H',rt:=Q } (start N vs) H) :
  cD P w K mg base CX (k+1) f (W.fnOf name qual params body scope dV kV doc pm an cdv ct) ps sp:=by
 refine⟨len,λA outer s H args us vs Q E hr e0 hb r hsp=>?_⟩;have hl:=len _ _ _ _ hsp;have KX:K.In s.heap:=e0.mod.Ek.keeps λb o e=>(e0.bs b o e).1;have lim:s.heap.NoLimit:=e0.mod.nolimit.keeps λb o e=>(e0.bs b o e).1;have hkind:∀y∈ps.zip us,scope.names.lookup y.1=some .local\/(scope.names.lookup y.1=some .cell/\((cellsFrom (s.heap.objs.size+1) scope.names []).lookup y.1).isSome=true):=λ⟨n,v⟩ hy=>by
  rcases S.par n (List.of_mem_zip hy).1 with q | q
  ·exact .inl q
  ·exact .inr ⟨q,W.cellsFrom_some _ _ _ (.inl q)⟩
 refine codeAny_call_function hr.depth (KX _ _ lk) rfl S.co S.gen rfl (W.codeRec_of KX hcd) (hb _ _ _ _ ?_);refine wpAny_newFunctionEnv_cells S.kind hkind λenv he s1 x=>?_;subst he;refine⟨lim.keeps x.toInCall.keep,codeAny_func ?_⟩;obtain⟨t,ht,hq⟩:=hbody A outer s H vs Q E (hr.deeper _) hsp;have I:Inv (oJ CX P w K mg base N qual scope f cdv A outer s H E) [] (start N vs) H s1:=Us S hr.hd e0 hl r x;refine wpAny_mono (ht [] s1 (start N vs) H _ I hq) (λfl s' hs=>?_) λe s' hs=>hs;have fin:∀{σ':St} {H':Hp} {v:V} {u:Value},Inv (oJ CX P w K mg base N qual scope f cdv A outer s H E) [] σ' H' s'->RelV v u->Q v H'->CE outer P w H s Q u s':=
  λ{σ' H' v u} J rv q=>⟨v,H',J.os,J.bare,J.base,J.hok,rv,q⟩
 cases fl with
 | ret u=>
  obtain⟨v,σ',H',J,rv,q⟩:=hs;exact fin J rv q
 | next=>
  obtain⟨σ',H',J,q⟩:=hs;exact fin (v:=V.non) (u:=Value.none) J rfl q
 | brk=>
  obtain⟨_,_,_,q⟩:=hs;exact False.elim q
 | cont=>
  obtain⟨_,_,_,q⟩:=hs;exact False.elim q
section
variable {X:Cx}{x:Str}{p pos:Pos}{e:Expr}{es:List Expr}{t:TA}{id T:String}{r:List V->Hp->VK->Prop}
noncomputable def Kr (r:List V->Hp->VK->Prop)(t:TA):TE:=λσ H Q=>t σ H λvs H1=>r vs H1 Q
theorem XQ (hc:fM X (.builtin id) r)(hg:Gl X x)(hm:X.mg x=none)(hv:bootBuiltins x=some (.builtin id))(ha:PA X (e::es) t)(hn:x≠"__name__":=by decide)(hdb:(x==("__debug__":Str))=false:=by decide)
  (he:starEach (e::es) X.env=(false,eval e X.env)::starEach es X.env:=by rfl) (hpl:(backTo pos (starEach es X.env)).any (·.1)=false:=by rfl):PE X (.Call (.Name x p) (e::es) [] pos) (Kr r t):=by
 intro y7 s σ H Q I h;refine wpAny_Call_Name_kw (vq I hg hm hv ?_ hn hdb);exact PyProof.Rows.callWith_builtin1 (bG (ha pos y7 s σ H _ I h) λus s1 ⟨vs,H1,I1,r1,q1⟩=>hc y7 s1 σ H1 vs us Q I1 r1 q1) he hpl
theorem Uu (hc:fM X (.type T) r)(hg:Gl X x)(hm:X.mg x=none)(hv:bootBuiltins x=some (.type T))(ha:PA X (e::es) t)(hn:x≠"__name__":=by decide)(hdb:(x==("__debug__":Str))=false:=by decide)
  (he:starEach (e::es) X.env=(false,eval e X.env)::starEach es X.env:=by rfl) (hpl:(backTo pos (starEach es X.env)).any (·.1)=false:=by rfl):PE X (.Call (.Name x p) (e::es) [] pos) (Kr r t):=by
 intro y7 s σ H Q I h;refine wpAny_Call_Name_kw (vq I hg hm hv ?_ hn hdb);exact PyProof.Rows.callWith_type1 (bG (ha pos y7 s σ H _ I h) λus s1 ⟨vs,H1,I1,r1,q1⟩=>hc y7 s1 σ H1 vs us Q I1 r1 q1) he hpl
end
end L2
namespace HT
open PySem PyProof.Rows
section
noncomputable def fY (n d:Nat):Option Int->Nat
 | none=>d
 | some v=>if v < 0 then (v+(n:Int)).toNat else min v.toNat n
theorem Cq (n d:Nat):fY n d none=d:=rfl
theorem vB (n d k:Nat):fY n d (some (k:Int))=min k n:=by
 show (if (k:Int) < 0 then ((k:Int)+(n:Int)).toNat else min (k:Int).toNat n)=min k n;rw[if_neg (by omega),Int.toNat_natCast]
theorem ac4 (n d:Nat)(hd:d<=n)(o:Option Int):fY n d o<=n:=by
 cases o with
 | none=>exact hd
 | some v=>
  show (if v < 0 then (v+(n:Int)).toNat else min v.toNat n)<=n;by_cases hv:v < 0
  ·rw[if_pos hv];omega
  ·rw[if_neg hv];exact Nat.min_le_right _ _
theorem aaN (v:Int)(n d:Nat):(if v < 0 then max (v+(n:Int)) 0 else min v (n:Int))=((fY n d (some v):Nat):Int):=by
 show (if v < 0 then max (v+(n:Int)) 0 else min v (n:Int))=(((if v < 0 then (v+(n:Int)).toNat else min v.toNat n):Nat):Int)
 by_cases hv:v < 0
 ·simp only[if_pos hv];omega
 ·simp only[if_neg hv];omega
end
end HT
namespace L2
open PySem PySem.Spec PyProof.Rows
abbrev TO:=St->Hp->(Option Int->Hp->Prop)->Prop
noncomputable def PO (X:Cx)(e:Option Expr)(t:TO):Prop:=
 ∀(y7:List (Addr × Obj)) (s:Shared) (σ:St) (H:Hp) (Q:Option Int->Hp->Prop),Inv X y7 σ H s->t σ H Q->
  wpAny (model X.prog X.w) X.A (evalPart e X.env) (λu s'=>∃o H',Inv X y7 σ H' s'/\IsPart u o/\Q o H') X.xe s
noncomputable def Pr:TO:=λ_ H Q=>Q none H
noncomputable def Z_ (t:TE):TO:=λσ H Q=>t σ H λx H1=>∃i,x=.int i/\Q (some i) H1
section
variable {X:Cx}{e:Expr}{te:TE}{lo hi:Option Expr}{tl th:TO}{pos p2:Pos}
theorem aaO:PO X none Pr:=by
 intro y7 s σ H Q I h;rw[evalPart_none];exact wpAny_pure ⟨none,H,I,.none,h⟩
theorem aaP (h:PE X e te):PO X (some e) (Z_ te):=by
 intro y7 s σ H Q I hw;rw[evalPart_some];refine bG (h y7 s σ H _ I hw) λu s1 zz=>?_;obtain⟨x,H1,I1,r1,q1⟩:=zz;obtain⟨i,rfl,q⟩:=q1;obtain⟨t,rfl⟩:=r1;exact⟨some i,H1,I1,.int i t,q⟩
noncomputable def SlR (X:Cx)(r:V->Option Int->Option Int->Hp->VK->Prop):Prop:=
 ∀(y7:List (Addr × Obj)) (s:Shared) (σ:St) (H:Hp) (x:V) (v vl vu:Value) (lo hi:Option Int) (sl:Addr) (Q:VK),Inv X y7 σ H s->RelV x v->s.heap.IsSliceOf sl vl vu .none->IsPart vl lo->IsPart vu hi->r x lo hi H Q->
  ∃T id,typeLookup (.type T) "__getitem__"=pure (some (.builtin id))/\s.TypeIs v T/\wpAny (model X.prog X.w) X.A (getItem v (.ref sl)) (EP X y7 σ Q) X.xe s
noncomputable def tSl (r:V->Option Int->Option Int->Hp->VK->Prop)(te:TE)(tl th:TO):TE:=λσ H Q=>te σ H λx H1=>tl σ H1 λl H2=>th σ H2 λu H3=>r x l u H3 Q
theorem XR {r:V->Option Int->Option Int->Hp->VK->Prop}(hr:SlR X r)(he:PE X e te)(hl:PO X lo tl)(hu:PO X hi th):PE X (.Subscript e (.Slice lo hi none p2) pos) (tSl r te tl th):=by
 intro y7 s σ H Q I h;refine Subscript_ (bG (he y7 s σ H _ I h) λv s1 zz=>?_);obtain⟨x,H1,I1,r1,q1⟩:=zz;refine wpAny_Slice (bG (hl y7 s1 σ H1 _ I1 q1) λvl s2 zz=>?_);obtain⟨l,H2,I2,pl,q2⟩:=zz;refine bG (hu y7 s2 σ H2 _ I2 q2) λvu s3 zz=>?_;obtain⟨u,H3,I3,pu,q3⟩:=zz;rw[evalPart_none];refine wpAny_pure ?_;have I4:Inv X y7 σ H3 { s3 with heap:=s3.heap.push { cls:=.type "slice",data:=.fields #[vl,vu,.none] } }:=I3.kept (t':=s3.toks) λb ob q=>Heap.get?_push_of_some _ q;obtain⟨T,id,hT,ht,hg⟩:=hr y7 { s3 with heap:=s3.heap.push { cls:=.type "slice",data:=.fields #[vl,vu,.none] } } σ H3 x v vl vu l u s3.heap.objs.size Q I4 r1 (Heap.IsSliceOf.new ..) pl pu q3;show wpAny (model X.prog X.w) X.A (subscriptTail e (.Slice lo hi none p2) v (.ref s3.heap.objs.size)) (EP X y7 σ Q) X.xe { s3 with heap:=s3.heap.push { cls:=.type "slice",data:=.fields #[vl,vu,.none] } };exact tail_any (ops:=[.ref s3.heap.objs.size,v]) ht hT hg (by with_unfolding_all rfl)
noncomputable def oK (xs:List V)(lo hi:Option Int):List V:=(xs.drop (HT.fY xs.length 0 lo)).take (HT.fY xs.length xs.length hi-HT.fY xs.length 0 lo)
theorem Oh (xs:List V)(lo hi:Option Int):(oK xs lo hi).length<=xs.length:=by
 unfold oK;rw[List.length_take,List.length_drop];omega
end
noncomputable def yD (n:Nat)(i:Int):Option Nat:=if 0<=i then (if i < n then some i.toNat else none) else if -(n:Int)<=i then some (i+n).toNat else none
noncomputable def m6 {α:Type}(xs:List α)(i:Int):Option α:=(yD xs.length i).bind λj=>xs[j]?
theorem Pu {n:Nat}{i:Int}{j:Nat}(h:yD n i=some j):seqIndex? i n=some j/\j < n/\-(n:Int)<=i/\i < n:=by
 unfold yD at h;by_cases h0:0<=i
 ·rw[if_pos h0]at h
  by_cases h1:i < n
  ·rw[if_pos h1]at h
   have e:i.toNat=j:=Option.some.inj h;exact⟨by rw[seqIndex_of h0 h1,e],by omega,by omega,h1⟩
  ·rw[if_neg h1]at h;cases h
 ·rw[if_neg h0]at h
  by_cases h1:-(n:Int)<=i
  ·rw[if_pos h1]at h
   have e:(i+n).toNat=j:=Option.some.inj h;exact⟨by rw[seqIndex_neg (by omega) h1,e],by omega,h1,by omega⟩
  ·rw[if_neg h1]at h;cases h
theorem Gv {α:Type}{xs:List α}{i:Int}{v:α}(h:m6 xs i=some v):∃j,seqIndex? i xs.length=some j/\xs[j]?=some v/\j < xs.length/\-(xs.length:Int)<=i/\i < xs.length:=by
 unfold m6 at h;cases e:yD xs.length i with
 | none=>rw[e]at h;cases h
 | some j=>
  rw[e]at h;obtain⟨h1,h2,h3,h4⟩:=Pu e;exact⟨j,h1,h,h2,h3,h4⟩
theorem aB {α:Type}{xs:List α}{j:Nat}{v:α}(h:xs[j]?=some v):m6 xs (j:Int)=some v:=by
 have hj:j < xs.length:=(List.getElem?_eq_some_iff.mp h).1;have e:yD xs.length (j:Int)=some j:=by
  unfold yD;rw[if_pos (by omega),if_pos (by omega)];simp
 unfold m6;rw[e];exact h
theorem XS {α:Type}(xs:List α)(v:α):m6 (xs++[v]) (-1)=some v:=by
 have hl:(xs++[v]).length=xs.length+1:=by simp
 have e:yD (xs++[v]).length (-1)=some xs.length:=by
  unfold yD;rw[hl,if_neg (by decide),if_pos (by omega)];congr 1;omega
 unfold m6;rw[e];show (xs++[v])[xs.length]?=some v;simp
noncomputable def Px (b:Expr):Prop:=∀o i,subscripted b false o i=operate [o,i] (getItem o i)
noncomputable def Ks (X:Cx)(r:R2):Prop:=
 ∀(value slice:Expr) (y7:List (Addr × Obj)) (s:Shared) (σ:St) (H:Hp) (x y:V) (v u:Value) (Q:VK),Inv X y7 σ H s->RelV x v->RelV y u->r x y H Q->
  subscripted slice false v u=operate [v,u] (getItem v u)->wpAny (model X.prog X.w) X.A (subscriptTail value slice v u) (EP X y7 σ Q) X.xe s
noncomputable def vC (X:Cx)(id:String)(r:V->List V->Hp->VK->Prop):Prop:=
 ∀(y7:List (Addr × Obj)) (s:Shared) (σ:St) (H:Hp) (x:V) (xs:List V) (v:Value) (us:List Value) (Q:VK),Inv X y7 σ H s->RelV x v->Vals xs us->r x xs H Q->
  wpAny (model X.prog X.w) X.A (call (.builtin id) (v::us)) (EP X y7 σ Q) X.xe s
section
variable {X:Cx}{a b:Expr}{ta tb:TE}{pos:Pos}
theorem aeJ {r:R2}(hr:Ks X r)(ha:PE X a ta)(hb:PE X b tb)(hs:Px b):PE X (.Subscript a b pos) (pR r ta tb):=by
 intro y7 s σ H Q I h;exact Subscript_ (Xx ha hb I h λv u s2 x y H2 I2 rx ry q=>hr a b y7 s2 σ H2 x y v u Q I2 rx ry q (hs _ _))
noncomputable def ac5 (K:W.Frag):R2:=λx y H Q=>∃p xs i v,x=.ref p/\y=.int i/\aN K H p xs/\m6 xs i=some v/\Q v H
noncomputable def Ku (K:W.Frag):R2:=λx y H Q=>∃p xs i v,x=.ref p/\y=.int i/\aK K H p xs/\m6 xs i=some v/\Q v H
noncomputable def afi:R2:=λx y H Q=>∃z i c,x=.str z/\y=.int i/\z.length<=sizeLine/\m6 z.cps.toList i=some c/\Q (.str ⟨#[c]⟩) H
theorem dj:Ks X (ac5 X.K):=by
 intro value slice y7 s σ H x y v u Q I rx ry h hs;obtain⟨p,xs,i,z,rfl,rfl,hq,he,q⟩:=h;cases rx;obtain⟨t,rfl⟩:=ry;obtain⟨its,r,pl,hz⟩:=I.list hq;obtain⟨j,h1,h2,h3,h4,h5⟩:=Gv he;obtain⟨w,ew,Ep⟩:=r.get h2;have hl:=r.length;have hn:=vA;have fin:EP X y7 σ Q w s:=⟨z,H,I,Ep,q⟩
 by_cases h0:0<=i
 ·have hj:i.toNat=j:=by
   rw[seqIndex_of h0 h5]at h1;exact Option.some.inj h1
  exact item_listR pl.isList h0 (by omega) (by rw[hj];simpa using ew) fin hs
 ·have hj:(i+(its.toArray.size:Int)).toNat=j:=by
   rw[seqIndex_neg (by omega) h4]at h1;rw[List.size_toArray,<- hl];exact Option.some.inj h1
  exact subscriptTail_builtinR (x:=w) pl.isList.typeIs slot_list_getitem.lookup
   (wpAny_getItem_list_neg (Q:=λr s'=>r=w/\EP X y7 σ Q r s') pl.isList (by omega) (by rw[List.size_toArray] <;> omega) (by omega) (by rw[hj];simpa using ew) ⟨rfl,fin⟩) hs
theorem aO:Ks X (Ku X.K):=by
 intro value slice y7 s σ H x y v u Q I rx ry h hs;obtain⟨p,xs,i,z,rfl,rfl,hq,he,q⟩:=h;cases rx;obtain⟨t,rfl⟩:=ry;obtain⟨its,r,pl,hz⟩:=I.tuple hq;obtain⟨j,h1,h2,h3,h4,h5⟩:=Gv he;obtain⟨w,ew,Ep⟩:=r.get h2;have hl:=r.length;have hn:=vA;have fin:EP X y7 σ Q w s:=⟨z,H,I,Ep,q⟩
 exact subscriptTail_builtinR (x:=w) pl.typeIs slot_tuple_getitem.lookup
  (getItem_tuple (j:=j) (Q:=λr s'=>r=w/\EP X y7 σ Q r s') pl (by omega) (by omega) (by rw[List.size_toArray,<- hl];exact h1) (by simpa using ew) ⟨rfl,fin⟩) hs
theorem ac6:Ks X afi:=by
 intro value slice y7 s σ H x y v u Q I rx ry h hs;obtain⟨z,i,c,rfl,rfl,hz,he,q⟩:=h;obtain⟨t,rfl⟩:=rx;obtain⟨t',rfl⟩:=ry;obtain⟨j,h1,h2,h3,h4,h5⟩:=Gv he;have hl:z.cps.toList.length=z.length:=by simp[Str.length]
 rw[hl]at h1 h4 h5;have hn:=vA;exact tail_any (typeIs_str s z t) slot_str_getitem.lookup (getItem_str (c:=c) (by
  have e1:decide (i < -(2^63:Int))=false:=decide_eq_false (by omega);have e2:decide (i>=2^63)=false:=decide_eq_false (by omega);rw[e1,e2,Bool.or_false]) (by rw[h1];simpa using h2) ⟨.str ⟨#[c]⟩,H,I.tok _,⟨_,rfl⟩,q⟩) hs
theorem Rm (its:List Value)(n j:Nat)(u:Value):Obj.mapSeq (·.setIfInBounds j u) { cls:=.type "list",data:=.seq its.toArray n }={ cls:=.type "list",data:=.seq (its.set j u).toArray n }:=by
 simp[Obj.mapSeq]
theorem Inv.lst {y7:List (Addr × Obj)}{σ:St}{H:Hp}{s:Shared}{p:Addr}{xs:List V}(I:Inv X y7 σ H s)(h:H p=some (.lst xs)) :
  ∃(its:List Value) (n:Nat),Vals xs its/\s.heap.get? p=some { cls:=.type "list",data:=.seq its.toArray n }/\xs.length<=sizeLine:=by
 obtain⟨z,its,n,r,e⟩:=I.hok p _ h;exact⟨its,n,r,e,z⟩
theorem Inv.ac7 {y7:List (Addr × Obj)}{σ:St}{H:Hp}{s:Shared}{p:Addr}{xs ys:List V}{its its':List Value}{n n':Nat}{f:Obj->Obj}(I:Inv X y7 σ H s)(h:H p=some (.lst xs))
  (ho:s.heap.get? p=some { cls:=.type "list",data:=.seq its.toArray n }) (hf:f { cls:=.type "list",data:=.seq its.toArray n }={ cls:=.type "list",data:=.seq its'.toArray n' }) (r:Vals ys its') (hz:ys.length<=sizeLine) (t:Nat) :
  Inv X y7 σ (upd H p (.lst ys)) { s with heap:=s.heap.update p f,toks:=t }:=by
 have e:(s.heap.update p f).get? p=some { cls:=.type "list",data:=.seq its'.toArray n' }:=by
  rw[Heap.get?_update_self f ho (by rw[hf] <;> rfl),hf]
 refine I.write (x:=p) (e:=p) (by rw[h];trivial) (.inl rfl) (λb u hb q=>(Heap.get?_update_other _ _ (Ne.symm hb)).trans q) ⟨_,e⟩ ?_;exact⟨hz,its',n',r,e⟩
noncomputable def aeK:V->V->V->Hp->(Hp->Prop)->Prop:=λo i v H Q=>∃p xs k j,o=.ref p/\i=.int k/\H p=some (.lst xs)/\yD xs.length k=some j/\Q (upd H p (.lst (xs.set j v)))
theorem set_list:Xv X aeK:=by
 intro y7 s σ H o i v ov iv u Q I ro ri rv h;obtain⟨p,xs,k,j,rfl,rfl,hp,hj,q⟩:=h;cases ro;obtain⟨t,rfl⟩:=ri;obtain⟨its,n,r,ho,hz⟩:=I.lst hp;obtain⟨h1,h2,h3,h4⟩:=Pu hj;have hl:=r.length;have hn:=vA;have I':Inv X y7 σ (upd H p (.lst (xs.set j v))) { s with heap:=s.heap.update p (Obj.mapSeq (·.setIfInBounds j u)) }:=
  I.ac7 hp ho (Rm its n j u) (r.set rv j) (by rw[List.length_set];exact hz) s.toks
 by_cases h0:0<=k
 ·have hk:k.toNat=j:=by
   rw[seqIndex_of h0 h4]at h1;exact Option.some.inj h1
  exact W.ki_setAt ho h0 (by omega) (by rw[List.size_toArray,<- hl];exact h4) (by rw[hk];exact⟨_,I',q⟩)
 ·have hk:(k+(its.toArray.size:Int)).toNat=j:=by
   rw[seqIndex_neg (by omega) h3]at h1;rw[List.size_toArray,<- hl];exact Option.some.inj h1
  exact W.ki_setBack ho (by omega) (by rw[List.size_toArray,<- hl];exact h3) (by omega) (by rw[hk];exact⟨_,I',q⟩)
theorem Kv (lo hi:Option Int)(n:Nat):(sliceBounds lo hi none n).1=((HT.fY n 0 lo:Nat):Int)/\(sliceBounds lo hi none n).2.1=((HT.fY n n hi:Nat):Int)/\(sliceBounds lo hi none n).2.2=1:=by
 refine⟨?_,?_,rfl⟩
 ·cases lo with
  | none=>simp[sliceBounds,HT.fY]
  | some i=>
   simp only[sliceBounds,HT.fY,Option.getD_none,show (1:Int) > 0 by decide,if_true];by_cases h:i < 0
   ·simp only[h,if_true] <;> omega
   ·simp only[h,if_false] <;> omega
 ·cases hi with
  | none=>simp[sliceBounds,HT.fY]
  | some i=>
   simp only[sliceBounds,HT.fY,Option.getD_none,show (1:Int) > 0 by decide,if_true];by_cases h:i < 0
   ·simp only[h,if_true] <;> omega
   ·simp only[h,if_false] <;> omega
theorem JF (its:List Value)(lo hi:Option Int):slicePick its.toArray lo hi none=((its.drop (HT.fY its.length 0 lo)).take (HT.fY its.length its.length hi-HT.fY its.length 0 lo)).toArray:=by
 obtain⟨h1,h2,h3⟩:=Kv lo hi its.toArray.size;unfold slicePick;rw[h1,h2,h3];simp only[sliceRange_one,pick_run,List.size_toArray] <;> rfl
noncomputable def afj (K:W.Frag):V->Option Int->Option Int->Hp->VK->Prop:=λx lo hi H Q=>∃a xs,x=.ref a/\aN K H a xs/\∀p,H p=none->Q (.ref p) (upd H p (.lst (oK xs lo hi)))
theorem A_:SlR X (afj X.K):=by
 intro y7 s σ H x v vl vu lo hi sl Q I rx hs pl pu h;obtain⟨a,xs,rfl,hx,q⟩:=h;cases rx;obtain⟨its,r,ht,hz⟩:=I.list hx;have hlen:=r.length;refine⟨"list",_,slot_list_getitem.lookup,ht.isList.typeIs,?_⟩;refine wpAny_getItem_list_slice ht.isList hs pl pu .none (by simp) ?_ (by rw[List.size_toArray] <;> omega);rw[JF,<- hlen];refine⟨.ref s.heap.objs.size,_,I.laid (t':=s.toks) (o:=.lst (oK xs lo hi)) (λb ob q=>Heap.get?_push_of_some _ q) (Nat.le_refl _) ?_,rfl,q _ (I.hok.fresh (Nat.le_refl _))⟩;exact⟨Nat.le_trans (Oh xs lo hi) hz,_,0,(r.drop (HT.fY xs.length 0 lo)).take (HT.fY xs.length xs.length hi-HT.fY xs.length 0 lo),Heap.get?_push_size _ rfl⟩
noncomputable def qN:V->Bool
 | .non=>true
 | .bl _=>true
 | .int _=>true
 | .str _=>true
 | _=>false
noncomputable def BJ:V->V->Bool
 | .non,.non=>true
 | .bl a,.bl b=>a==b
 | .bl a,.int b=>(if a then 1 else 0)==b
 | .int a,.bl b=>a==(if b then 1 else 0)
 | .int a,.int b=>a==b
 | .str a,.str b=>a==b
 | _,_=>false
theorem ac8 {A:Around}{s:Shared}{y x:V}{u v:Value}(ry:RelV y u)(rx:RelV x v)(fy:qN y=true)(fx:qN x=true):SeqAt.EqAt A s u v (BJ y x):=by
 cases y with
 | non=>
  cases ry;cases x with
  | non=>cases rx;exact SeqAt.EqAt.same _
  | bl b=>cases rx;exact SeqAt.EqAt.none_bool b
  | int b=>obtain⟨t,rfl⟩:=rx;exact SeqAt.EqAt.none_int b t
  | str b=>obtain⟨t,rfl⟩:=rx;exact SeqAt.EqAt.none_str b t
  | _=>exact absurd (show false=true from fx) Bool.false_ne_true
 | bl a=>
  cases ry;cases x with
  | non=>cases rx;exact SeqAt.EqAt.bool_none a
  | bl b=>cases rx;exact SeqAt.EqAt.bool_bool a b
  | int b=>obtain⟨t,rfl⟩:=rx;exact SeqAt.EqAt.bool_int a b t
  | str b=>obtain⟨t,rfl⟩:=rx;exact SeqAt.EqAt.bool_str a b t
  | _=>exact absurd (show false=true from fx) Bool.false_ne_true
 | int a=>
  obtain⟨t',rfl⟩:=ry;cases x with
  | non=>cases rx;exact SeqAt.EqAt.int_none a t'
  | bl b=>cases rx;exact SeqAt.EqAt.int_bool a t' b
  | int b=>obtain⟨t,rfl⟩:=rx;exact SeqAt.EqAt.int_int a t' b t
  | str b=>obtain⟨t,rfl⟩:=rx;exact SeqAt.EqAt.int_str a t' b t
  | _=>exact absurd (show false=true from fx) Bool.false_ne_true
 | str a=>
  obtain⟨t',rfl⟩:=ry;cases x with
  | non=>cases rx;exact SeqAt.EqAt.str_none a t'
  | bl b=>cases rx;exact SeqAt.EqAt.str_bool a t' b
  | int b=>obtain⟨t,rfl⟩:=rx;exact SeqAt.EqAt.str_int a t' b t
  | str b=>obtain⟨t,rfl⟩:=rx;exact SeqAt.EqAt.str_str a t' b t
  | _=>exact absurd (show false=true from fx) Bool.false_ne_true
 | _=>exact absurd (show false=true from fy) Bool.false_ne_true
noncomputable def Er (x:V)(u:Value):Bool:=match u with
 | .none=>BJ .non x
 | .bool b=>BJ (.bl b) x
 | .int i _=>BJ (.int i) x
 | .str z _=>BJ (.str z) x
 | _=>false
theorem Uv {x y:V}{u:Value}(r:RelV y u)(f:qN y=true):Er x u=BJ y x:=by
 cases y with
 | non=>cases r;rfl
 | bl b=>cases r;rfl
 | int i=>obtain⟨t,rfl⟩:=r;rfl
 | str z=>obtain⟨t,rfl⟩:=r;rfl
 | _=>exact absurd (show false=true from f) Bool.false_ne_true
theorem Gw {x:V}:∀{xs:List V} {us:List Value},Vals xs us->xs.all qN=true->us.any (Er x)=xs.any λy=>BJ y x
 | _,_,.nil,_=>rfl
 | y::xs,u::us,.cons r t,f=>by
  rw[List.all_cons,Bool.and_eq_true]at f;rw[List.any_cons,List.any_cons,Uv r f.1,Gw t f.2]
theorem Cr {A:Around}{s:Shared}{x:V}{v:Value}(rx:RelV x v)(fx:qN x=true):∀{xs:List V} {us:List Value},Vals xs us->xs.all qN=true->∀u∈us,SeqAt.EqAt A s u v (Er x u)
 | _,_,.nil,_=>λu hu=>by cases hu
 | y::xs,u::us,.cons r t,f=>λu' hu=>by
  rw[List.all_cons,Bool.and_eq_true]at f;rcases List.mem_cons.mp hu with rfl | hu
  ·rw[Uv r f.1];exact ac8 r rx f.1 fx
  ·exact Cr rx fx t f.2 u' hu
noncomputable def inV (x:V)(xs:List V):Bool:=xs.any λy=>BJ y x
noncomputable def rIn (K:W.Frag)(neg:Bool):R2:=λx y H Q=>∃p xs,y=.ref p/\(aN K H p xs\/aK K H p xs)/\qN x=true/\xs.all qN=true/\Q (.bl (if neg then !inV x xs else inV x xs)) H
theorem Kw:dZ X (compareOp .NotIn) (rIn X.K true):=by
 intro y7 s σ H x y v u Q I rx ry h;obtain⟨p,xs,rfl,hq,fx,fs,q⟩:=h;cases ry;rcases hq with hq | hq
 ·obtain⟨its,r,pl,hz⟩:=I.list hq
  refine SeqAt.notIn_listAt (Er x) pl.isList (λw hw=>Cr rx fx r fs w (by simpa using hw)) ⟨.bl _,H,I,rfl,?_⟩;rw[show its.toArray.any (Er x)=its.any (Er x) by simp,Gw r fs];exact q
 ·obtain⟨its,r,pl,hz⟩:=I.tuple hq
  refine SeqAt.notIn_tupleAt (Er x) pl (λw hw=>Cr rx fx r fs w (by simpa using hw)) ⟨.bl _,H,I,rfl,?_⟩;rw[show its.toArray.any (Er x)=its.any (Er x) by simp,Gw r fs];exact q
theorem bI:fM X (.builtin "len") (λxs H Q=>∃p ys,xs=[.ref p]/\(aN X.K H p ys\/aK X.K H p ys)/\Q (.int ys.length) H):=by
 intro y7 s σ H xs us Q I r h;obtain⟨p,ys,rfl,hq,q⟩:=h;obtain⟨u,rfl,rx⟩:=vals1 r;cases rx;have hn:=vA;rcases hq with hq | hq
 ·obtain⟨its,r',pl,hz⟩:=I.list hq
  have hlen:=r'.length;exact Calls.call_len_list pl.isList (by simp only[List.size_toArray] <;> omega) ⟨.int ys.length,H,I.tok _,⟨s.toks+1,by rw[List.size_toArray,hlen]⟩,q⟩
 ·obtain⟨its,r',pl,hz⟩:=I.tuple hq
  have hlen:=r'.length;exact len_tuple pl (by simp only[List.size_toArray] <;> omega) ⟨.int ys.length,H,I.tok _,⟨s.toks+1,by rw[List.size_toArray,hlen]⟩,q⟩
theorem Ky:fM X (.builtin "len") (λxs H Q=>∃z,xs=[.str z]/\z.length<=sizeLine/\Q (.int z.length) H):=by
 intro y7 s σ H xs us Q I r h;obtain⟨z,rfl,hz,q⟩:=h;obtain⟨u,rfl,t,rfl⟩:=vals1 r;have hn:=vA;exact len_str (by omega) ⟨.int z.length,H,I.tok _,⟨_,rfl⟩,q⟩
theorem Kz:fM X (.type "list") (λxs H Q=>∃p ys,xs=[.ref p]/\(aN X.K H p ys\/aK X.K H p ys)/\∀l,H l=none->Q (.ref l) (upd H l (.lst ys))):=by
 intro y7 s σ H xs us Q I r h;obtain⟨p,ys,rfl,hq,q⟩:=h;obtain⟨u,rfl,rx⟩:=vals1 r;cases rx;have fin:∀(its:List Value),Vals ys its->ys.length<=sizeLine->∀(h':Heap) (c':Nat),(∀b o',s.heap.get? b=some o'->h'.get? b=some o')->
   h'.get? s.heap.objs.size=some { cls:=.type "list",dict:=none,data:=.seq its.toArray c',slots:=#[] }->EP X y7 σ Q (.ref s.heap.objs.size) { s with heap:=h' }:=λits r' hz h' c' kp e=>
  ⟨.ref s.heap.objs.size,_,I.laid (t':=s.toks) kp (Nat.le_refl _) (show cW X.prog X.w _ h' _ (.lst ys) from ⟨hz,its,c',r',e⟩),rfl,q _ (I.hok.fresh (Nat.le_refl _))⟩
 rcases hq with hq | hq
 ·obtain⟨its,r',pl,hz⟩:=I.list hq
  have hlen:=r'.length;obtain⟨o,ho,hc,n,hd⟩:=pl.isList;exact call_list_seq p (.inl rfl) ho hc hd (λh' c' kp e=>fin its r' hz h' c' kp e) (by simp only[List.size_toArray] <;> omega)
 ·obtain⟨its,r',pl,hz⟩:=I.tuple hq
  have hlen:=r'.length;obtain⟨o,ho,hc,n,hd⟩:=pl;exact call_list_seq p (.inr rfl) ho hc hd (λh' c' kp e=>fin its r' hz h' c' kp e) (by simp only[List.size_toArray] <;> omega)
theorem gO:fM X (.type "tuple") (λxs H Q=>∃p ys,xs=[.ref p]/\((aN X.K H p ys/\∀l,H l=none->Q (.ref l) (upd H l (.tup ys)))\/(aK X.K H p ys/\Q (.ref p) H))):=by
 intro y7 s σ H xs us Q I r h;obtain⟨p,ys,rfl,h⟩:=h;obtain⟨u,rfl,rx⟩:=vals1 r;cases rx;rcases h with⟨hq,q⟩ | ⟨hq,q⟩
 ·obtain⟨its,r',pl,hz⟩:=I.list hq
  have hlen:=r'.length;refine call_tuple_list pl.isList (λh' kp=>?_) (by simp only[List.size_toArray] <;> omega);have I1:Inv X y7 σ H { s with heap:=h' }:=I.kept (t':=s.toks) kp;have I2:Inv X y7 σ (upd H h'.objs.size (.tup ys)) { s with heap:=h'.push { cls:=.type "tuple",data:=.seq its.toArray } }:=
   I1.laid (t':=s.toks) (λb o e=>Heap.get?_push_of_some _ e) (Nat.le_refl _) (show cW X.prog X.w _ _ _ (.tup ys) from ⟨hz,its,r',IsTup.new _ _⟩)
  exact⟨.ref h'.objs.size,_,I2,rfl,q _ (I1.hok.fresh (Nat.le_refl _))⟩
 ·obtain⟨its,r',pl,hz⟩:=I.tuple hq
  exact call_tuple_same pl ⟨.ref p,H,I,rfl,q⟩
noncomputable def tyV (K:W.Frag)(T:String)(x:V)(H:Hp):Prop:=match x with
 | .str _=>T="str"
 | .int _=>T="int"
 | .ref p=>(T="list"/\∃xs,aN K H p xs)\/(T="tuple"/\∃o,K.lookup p=some o/\o.cls=.type "tuple"/\o.dict=none)\/
   (T="dict"/\((∃kvs,H p=some (.dK kvs))\/∃kvs,H p=some (.dT kvs)))\/(T="set"/\∃S n,H p=some (.set S n))
 | _=>False
theorem Uw {y7:List (Addr × Obj)}{σ:St}{H:Hp}{s:Shared}{T:String}{x:V}{v:Value}(I:Inv X y7 σ H s)(r:RelV x v)(ty:tyV X.K T x H) :
  s.TypeIs v T/\∀a,v=.ref a->∃ob,s.heap.get? a=some ob/\ob.dict=none:=by
 cases x with
 | str z=>
  obtain⟨t,rfl⟩:=r;cases(show T="str" from ty);exact⟨typeIs_str s z t,λ_ e=>nomatch e⟩
 | int i=>
  obtain⟨t,rfl⟩:=r;cases(show T="int" from ty);exact⟨typeIs_int s i t,λ_ e=>nomatch e⟩
 | ref p=>
  cases r;rcases ty with⟨rfl,xs,hq⟩ | ⟨rfl,o,hk,hc,hd⟩ | ⟨rfl,hk⟩ | ⟨rfl,S,n,hk⟩
  ·obtain⟨its,_,pl,_⟩:=I.list hq
   refine⟨pl.isList.typeIs,λa e=>?_⟩;cases e;obtain⟨o,n,e,c,hd,_⟩:=pl;exact⟨o,e,hd⟩
  ·refine⟨⟨o,I.fL p o hk,hc⟩,λa e=>?_⟩
   cases e;exact⟨o,I.fL _ o hk,hd⟩
  ·have z:∃o,s.heap.get? p=some o/\o.ExactDict:=by
    rcases hk with⟨kvs,hk⟩ | ⟨kvs,hk⟩
    ·obtain⟨_,_,_,_,o,_,_,e,ex,_⟩:=I.hok p _ hk
     exact⟨o,e,ex⟩
    ·obtain⟨_,_,_,_,o,_,_,e,ex,_⟩:=I.hok p _ hk
     exact⟨o,e,ex⟩
   obtain⟨o,e,ex⟩:=z;refine⟨⟨o,e,ex.1⟩,λa e2=>?_⟩;cases e2;exact⟨o,e,ex.2.1⟩
  ·obtain⟨o,_,_,_,e,ex,_⟩:=I.hok p _ hk
   refine⟨⟨o,e,ex.1⟩,λa e2=>?_⟩;cases e2;exact⟨o,e,ex.2.1⟩
 | _=>exact False.elim ty
noncomputable def Rn (K:W.Frag)(T:String)(r:V->List V->Hp->VK->Prop)(to:TE):TE:=λσ H Q=>to σ H λx H1=>tyV K T x H1/\r x [] H1 Q
noncomputable def tBM (K:W.Frag)(T:String)(r:V->List V->Hp->VK->Prop)(to:TE)(t:TA):TE:=λσ H Q=>to σ H λx H1=>tyV K T x H1/\t σ H1 λxs H2=>r x xs H2 Q
variable {o e:Expr}{es:List Expr}{to:TE}{t:TA}{name:Str}{apos cpos:Pos}{T id:String}{r:V->List V->Hp->VK->Prop}
theorem ac9 (pa:PlainAttrs T)(slot:Slot T name id)(hty:typeOf (.builtin id)=pure (.type "method_descriptor"))(hm:vC X id r)(ho:PE X o to)
  (hbase:attributeBase o name X.env (eval o X.env)=eval o X.env:=by rfl) (hline:(apos.endLine==cpos.line)=true:=by rfl):PE X (.Call (.Attribute o name apos) [] [] cpos) (Rn X.K T r to):=by
 intro y7 s σ H Q I h;refine wpAny_Call_method0_late hbase hline (bG (ho y7 s σ H _ I h) λv s1 zz=>?_);obtain⟨x,H1,I1,r1,ty,q1⟩:=zz;obtain⟨h1,h2⟩:=Uw I1 r1 ty;exact⟨T,id,pa,slot,hty,h1,h2,Calls.callWith_builtin rfl (PySem.evalArgs_none (hm y7 s1 σ H1 x [] v [] Q I1 r1 .nil q1))⟩
theorem aeL (pa:PlainAttrs T)(slot:Slot T name id)(hty:typeOf (.builtin id)=pure (.type "method_descriptor"))(hm:vC X id r)(ho:PE X o to)(ha:PA X (e::es) t)
  (hbase:attributeBase o name X.env (eval o X.env)=eval o X.env:=by rfl)
  (hfew:((backTo cpos (starEach (e::es) X.env)).all (λx=>!x.1)&&(backToKw cpos (keywordEach [] X.env)).all (λx=>x.1.isSome)
   && decide ((e::es).length+([]:List Keyword).length+(if ([]:List Keyword).isEmpty then 0 else 1) < 30))=true:=by rfl)
  (hline:(apos.endLine==cpos.line)=true:=by rfl) (hs:starEach (e::es) X.env=(false,eval e X.env)::starEach es X.env:=by rfl) (hplain:(backTo cpos (starEach es X.env)).any (·.1)=false:=by rfl) :
  PE X (.Call (.Attribute o name apos) (e::es) [] cpos) (tBM X.K T r to t):=by
 intro y7 s σ H Q I h;refine wpAny_Call_method_late hbase hfew hline rfl (bG (ho y7 s σ H _ I h) λv s1 zz=>?_);obtain⟨x,H1,I1,r1,ty,q1⟩:=zz;obtain⟨h1,h2⟩:=Uw I1 r1 ty;refine⟨T,id,pa,slot,hty,h1,h2,?_⟩;have hA:=ha cpos y7 s1 σ H1 _ I1 q1;rw[hs]at hA ⊢;refine Calls.callWith_builtin (by show (false||(backTo cpos (starEach es X.env)).any (·.1))=false;rw[hplain] <;> rfl) (Calls.evalArgs_plain ?_);exact bG hA λus s2 ⟨vs,H2,I2,r2,q2⟩=>hm y7 s2 σ H2 x vs v us Q I2 r1 r2 q2
end
noncomputable def MtM (X:Cx)(id:String)(r:V->List V->Hp->VK->Prop):Prop:=
 ∀(y7:List (Addr × Obj)) (s:Shared) (σ:St) (H:Hp) (x:V) (xs:List V) (v:Value) (us:List Value) (Q:VK),Inv X y7 σ H s->RelV x v->Vals xs us->r x xs H Q->
  wpAny (model X.prog X.w) X.A (call (.builtin id) (v::us)) (EP X y7 σ Q) X.xe s
theorem Vals.one:∀{x:V} {us:List Value},Vals [x] us->∃u,us=[u]/\RelV x u
 | _,_,.cons r .nil=>⟨_,rfl,r⟩
theorem Vals.zero:∀{us:List Value},Vals [] us->us=[]
 | _,.nil=>rfl
theorem Vals.eraseIdx:∀{xs:List V} {us:List Value} (i:Nat),Vals xs us->Vals (xs.eraseIdx i) (us.eraseIdx i)
 | _,_,_,.nil=>.nil
 | _,_,0,.cons _ t=>t
 | _,_,i+1,.cons r t=>.cons r (Vals.eraseIdx i t)
section
variable {X:Cx}{y7:List (Addr × Obj)}{σ:St}{H:Hp}{s:Shared}{l:Addr}{xs ys:List V}
theorem Inv.X3 {its its':List Value}{n:Nat}{f:Array Value->Array Value}{t':Nat}(I:Inv X y7 σ H s)(hH:H l=some (.lst xs))
  (e:s.heap.get? l=some { cls:=.type "list",data:=.seq its.toArray n }) (hf:f its.toArray=its'.toArray) (hv:Vals ys its') (hz:ys.length<=sizeLine) :
  Inv X y7 σ (upd H l (.lst ys)) { s with heap:=s.heap.update l (Obj.mapSeq f),toks:=t' }:=by
 have q:=PySem.IsL.update e f;rw[hf]at q;refine I.write (x:=l) (e:=l) (by rw[hH];exact trivial) (.inl rfl) (λb' u hb hu=>(Heap.get?_update_other s.heap (Obj.mapSeq f) (Ne.symm hb)).trans hu) ⟨_,q⟩ ?_;exact⟨hz,its',_,hv,q⟩
theorem Inv.Ro {its:List Value}{t':Nat}(I:Inv X y7 σ H s)(hv:Vals ys its)(hz:ys.length<=sizeLine) :
  Inv X y7 σ (upd H s.heap.objs.size (.lst ys)) { s with heap:=s.heap.push { cls:=.type "list",data:=.seq its.toArray },toks:=t' }:=
 I.laid (λ_ _ q=>Heap.get?_push_of_some _ q) (Nat.le_refl _) ⟨hz,its,0,hv,Heap.get?_push_size _ rfl⟩
theorem Inv.fresh (I:Inv X y7 σ H s):H s.heap.objs.size=none:=I.hok.fresh (Nat.le_refl _)
theorem Inv.Cu (I:Inv X y7 σ H s)(hH:H l=some (.lst xs)):xs.length<=sizeLine/\∃(its:List Value) (n:Nat),Vals xs its/\xs.length=its.length/\s.heap.get? l=some { cls:=.type "list",data:=.seq its.toArray n }:=by
 obtain⟨z,its,n,r,e⟩:=I.hok l _ hH;exact⟨z,its,n,r,r.length,e⟩
theorem X4 {n:Nat}(h:n<=sizeLine):Builtin.List.listTooLong n=false:=by
 unfold Builtin.List.listTooLong;exact decide_eq_false (by omega)
end
section
variable {X:Cx}
noncomputable def aaQ:V->List V->Hp->VK->Prop:=λx vs H Q=>∃l xs y,x=.ref l/\vs=[y]/\H l=some (.lst xs)/\xs.length < sizeLine/\Q .non (upd H l (.lst (xs++[y])))
theorem g_:MtM X "list.append" aaQ:=by
 intro y7 s σ H x vs v us Q I rx rv h;obtain⟨l,xs,y,rfl,rfl,hH,hz,q⟩:=h;cases rx;obtain⟨u,rfl,ru⟩:=rv.one;obtain⟨z,its,n,r,hl,e⟩:=I.Cu hH;refine call_meets F.slot_list_append ⟨_,e,rfl⟩ F.entry_list_append (F.args_list_append_2 _ _) (PySem.list_append l its.toArray n u (by rw[List.size_toArray];omega)) ⟨e,?_⟩;refine⟨.non,_,I.X3 (its':=its++[u]) hH e (by simp) (r.append (.cons ru .nil)) ?_,rfl,q⟩;rw[List.length_append,List.length_singleton];omega
noncomputable def aaR:V->List V->Hp->VK->Prop:=λx vs H Q=>∃l b xs zs,x=.ref l/\vs=[.ref b]/\H l=some (.lst xs)/\H b=some (.lst zs)/\xs.length+zs.length<=sizeLine/\Q .non (upd H l (.lst (xs++zs)))
theorem Ux:MtM X "list.extend" aaR:=by
 intro y7 s σ H x vs v us Q I rx rv h;obtain⟨l,b,xs,zs,rfl,rfl,hH,hB,hz,q⟩:=h;cases rx;obtain⟨u,rfl,ru⟩:=rv.one;cases ru;obtain⟨z,its,n,r,hl,e⟩:=I.Cu hH;obtain⟨z2,its2,n2,r2,hl2,e2⟩:=I.Cu hB;have hsz:its.toArray.size+its2.toArray.size<=sizeLine:=by rw[List.size_toArray,List.size_toArray];omega
 have aeM:¬(!its.toArray.isEmpty&&Builtin.List.listTooLong (its.toArray.size+its2.toArray.size))=true:=by
  rw[X4 hsz,Bool.and_false];exact Bool.false_ne_true
 refine call_meets F.slot_list_extend ⟨_,e,rfl⟩ F.entry_list_extend (F.args_list_extend_2 _ _)
  (AutoSeq1.list_extend_list_list_0 l its.toArray n b its2.toArray n2 aeM (by rw[List.size_toArray];omega) (by omega)) ⟨e,e2,?_⟩
 refine⟨.non,_,I.X3 (its':=its++its2) hH e (by simp) (r.append r2) ?_,rfl,q⟩;rw[List.length_append];omega
noncomputable def afk:R2:=λx y H Q=>∃l b xs zs,x=.ref l/\y=.ref b/\H l=some (.lst xs)/\H b=some (.lst zs)/\xs.length+zs.length<=sizeLine/\∀p,H p=none->Q (.ref p) (upd H p (.lst (xs++zs)))
theorem KC:dZ X (binaryOp .Add) afk:=by
 intro y7 s σ H x y v u Q I rx ry h;obtain⟨l,b,xs,zs,rfl,rfl,hH,hB,hz,q⟩:=h;cases rx;cases ry;obtain⟨z,its,n,r,hl,e⟩:=I.Cu hH;obtain⟨z2,its2,n2,r2,hl2,e2⟩:=I.Cu hB;refine PySem.P.add_list e e2 ?_ (by rw[List.size_toArray,List.size_toArray];omega);have ea:its.toArray++its2.toArray=(its++its2).toArray:=by simp
 rw[ea];exact⟨.ref _,_,I.Ro (t':=s.toks) (r.append r2) (by rw[List.length_append];omega),rfl,q _ I.fresh⟩
theorem len_rep {α:Type}(xs:List α)(k:Nat):(List.replicate k xs).flatten.length=k*xs.length:=by
 induction k with
 | zero=>simp
 | succ k ih=>rw[List.replicate_succ,List.flatten_cons,List.length_append,ih,Nat.succ_mul,Nat.add_comm]
end
section
variable {κ:Type}[DecidableEq κ]
noncomputable def jH (kvs:List (κ × V))(k:κ):Option V:=(kvs.find? λkv=>decide (kv.1=k)).map (·.2)
noncomputable def putK (kvs:List (κ × V))(k:κ)(v:V):List (κ × V):=
 if (kvs.any λkv=>decide (kv.1=k))=true then kvs.map (λkv=>if kv.1=k then (kv.1,v) else kv) else kvs++[(k,v)]
theorem rZ {p:κ × V}{r:List (κ × V)}{k:κ}(e:p.1=k):jH (p::r) k=some p.2:=by simp[jH,List.find?_cons,e]
theorem su {p:κ × V}{r:List (κ × V)}{k:κ}(e:¬p.1=k):jH (p::r) k=jH r k:=by simp[jH,List.find?_cons,e]
theorem vZ (k:κ):∀kvs:List (κ × V),(kvs.any λkv=>decide (kv.1=k))=(jH kvs k).isSome
 | []=>rfl
 | p::r=>by
  rw[List.any_cons];by_cases e:p.1=k
  ·simp only[rZ e,decide_eq_true e,Bool.true_or,Option.isSome_some]
  ·rw[su e,decide_eq_false e,Bool.false_or];exact vZ k r
theorem uP (kvs:List (κ × V))(k:κ)(v:V):(putK kvs k v).length<=kvs.length+1:=by
 unfold putK
 split
 ·rw[List.length_map];omega
 ·rw[List.length_append,List.length_cons,List.length_nil];omega
theorem X5 {kvs:List (κ × V)}{k:κ}(v:V)(h:jH kvs k=none):putK kvs k v=kvs++[(k,v)]:=by
 unfold putK;rw[vZ,h];exact if_neg (by decide)
theorem jo.yM {o:Option V}{u:Option Value}(r:jo o u):o.isSome=u.isSome:=by
 cases o with
 | none=>cases u with
  | none=>rfl
  | some _=>exact(show False from r).elim
 | some _=>cases u with
  | none=>exact(show False from r).elim
  | some _=>rfl
theorem KV.val {kvs:List (κ × V)}{vs:List (κ × Value)}(r:KV kvs vs)(k:κ):jo (jH kvs k) (valueAt vs k):=by
 unfold KV at r
 induction r with
 | nil=>exact True.intro
 | @cons p q ps qs h t ih=>
  obtain⟨h1,h2⟩:=h;by_cases e:p.1=k
  ·have e':q.1=k:=h1.symm.trans e
   have b:valueAt (q::qs) k=some q.2:=by simp[valueAt,List.find?_cons,e']
   rw[rZ e,b];exact h2
  ·have e':¬q.1=k:=λz=>e (h1.trans z)
   have b:valueAt (q::qs) k=valueAt qs k:=by simp[valueAt,List.find?_cons,e']
   rw[su e,b];exact ih
theorem KV.any {kvs:List (κ × V)}{vs:List (κ × Value)}(r:KV kvs vs)(k:κ):(kvs.any λkv=>decide (kv.1=k))=vs.any λkv=>decide (kv.1=k):=by
 unfold KV at r
 induction r with
 | nil=>rfl
 | cons h t ih=>rw[List.any_cons,List.any_cons,ih,h.1]
theorem KV.repl {kvs:List (κ × V)}{vs:List (κ × Value)}(r:KV kvs vs)(k:κ){y:V}{u:Value}(ry:RelV y u) :
  KV (kvs.map λkv=>if kv.1=k then (kv.1,y) else kv) (vs.map λkv=>if kv.1=k then (kv.1,u) else kv):=by
 unfold KV at r ⊢
 induction r with
 | nil=>exact .nil
 | @cons p q ps qs h t ih=>
  rw[List.map_cons,List.map_cons];refine .cons ?_ ih;obtain⟨h1,h2⟩:=h;by_cases e:p.1=k
  ·rw[if_pos e,if_pos (h1.symm.trans e)];exact⟨h1,ry⟩
  ·rw[if_neg e,if_neg (λz=>e (h1.trans z))];exact⟨h1,h2⟩
theorem KV.put {kvs:List (κ × V)}{vs:List (κ × Value)}(r:KV kvs vs)(k:κ){y:V}{u:Value}(ry:RelV y u):KV (putK kvs k y) (stored vs k u):=by
 unfold putK stored;rw[r.any k];by_cases e:(vs.any λkv=>decide (kv.1=k))=true
 ·rw[if_pos e,if_pos e];exact r.repl k ry
 ·rw[if_neg e,if_neg e];exact Paired.snoc r ⟨rfl,ry⟩
theorem KV.length {kvs:List (κ × V)}{vs:List (κ × Value)}(r:KV kvs vs):kvs.length=vs.length:=Paired.length r
end
theorem J6 {P:Program}{w:World}{k:Key}{u:Value}(r:RelV (kV k) u):(iu P w).is k u=true:=by
 cases k with
 | inl i=>obtain⟨t,e⟩:=(show ∃t,u=Value.int i t from r);subst e;exact Oe P w i t
 | inr x=>obtain⟨t,e⟩:=(show ∃t,u=Value.str x t from r);subst e;exact Og P w x t
theorem Ik {P:Program}{w:World}:∀{ks:List Key} {us:List Value},Vals (ks.map kV) us->ItemsAre (iu P w) ks us
 | [],_,r=>by rw[List.map_nil]at r;cases r;exact .nil
 | k::ks,_,r=>by
  rw[List.map_cons]at r;cases r with
  | cons h t=>exact .cons (J6 h) (Ik t)
noncomputable abbrev KT (H:Hp):List (List Key × V)->List (List Key × Addr × Value)->Prop:=Paired λp q=>p.1=q.1/\H q.2.1=some (.tup (p.1.map kV))/\RelV p.2 q.2.2
theorem KT.val {H:Hp}{kvs:List (List Key × V)}{xs:List (List Key × Addr × Value)}(r:KT H kvs xs)(k:List Key):jo (jH kvs k) ((atKey xs k).map (·.2)):=by
 induction r with
 | nil=>exact True.intro
 | @cons p q ps qs h t ih=>
  obtain⟨h1,_,h2⟩:=h;by_cases e:p.1=k
  ·have e':q.1=k:=h1.symm.trans e
   have b:atKey (q::qs) k=some q.2:=by simp[atKey,List.find?_cons,e']
   rw[rZ e,b];exact h2
  ·have e':¬q.1=k:=λz=>e (h1.trans z)
   have b:atKey (q::qs) k=atKey qs k:=by simp[atKey,List.find?_cons,e']
   rw[su e,b];exact ih
theorem KT.repl {H:Hp}{kvs:List (List Key × V)}{xs:List (List Key × Addr × Value)}(r:KT H kvs xs)(k:List Key){y:V}{u:Value}(ry:RelV y u) :
  KT H (kvs.map λkv=>if kv.1=k then (kv.1,y) else kv) (xs.map (putAt k u)):=by
 induction r with
 | nil=>exact .nil
 | @cons p q ps qs h t ih=>
  rw[List.map_cons,List.map_cons];refine .cons ?_ ih;obtain⟨h1,h2,h3⟩:=h;unfold putAt;by_cases e:p.1=k
  ·rw[if_pos e,if_pos (h1.symm.trans e)];exact⟨h1,h2,ry⟩
  ·rw[if_neg e,if_neg (λz=>e (h1.trans z))];exact⟨h1,h2,h3⟩
theorem KT.put {H:Hp}{kvs:List (List Key × V)}{xs:List (List Key × Addr × Value)}(r:KT H kvs xs)(k:List Key){b:Addr}{y:V}{u:Value}(hb:H b=some (.tup (k.map kV)))(ry:RelV y u) :
  KT H (putK kvs k y) (storedH xs k b u):=by
 have e:(kvs.any λkv=>decide (kv.1=k))=(atKey xs k).isSome:=by
  rw[vZ,(r.val k).yM,Option.isSome_map]
 unfold putK storedH;rw[e];by_cases q:(atKey xs k).isSome=true
 ·rw[if_pos q,if_pos q];exact r.repl k ry
 ·rw[if_neg q,if_neg q];exact Paired.snoc r ⟨rfl,hb,ry⟩
theorem KT.keeps {H H':Hp}{kvs:List (List Key × V)}{xs:List (List Key × Addr × Value)}(r:KT H kvs xs)(ht:∀b ys,H b=some (.tup ys)->H' b=some (.tup ys)):KT H' kvs xs:=
 Paired.Xn r λ_ _ z=>⟨z.1,ht _ _ z.2.1,z.2.2⟩
section
variable {P:Program}{w:World}{H:Hp}{h:Heap}{a:Addr}
theorem aac {u:HO}(ok:iy P w H h)(e:Rd H a u):cW P w H h a u:=e.ok ok
theorem J7 {kvs:List (Key × V)}(ok:iy P w H h)(e:Rd H a (.dK kvs)):kvs.length<=sizeLine/\(a==sysModules)=false/\∃vs,KV kvs vs/\h.DictOf (iu P w) a vs:=
 show cW P w H h a (.dK kvs) from aac ok e
theorem aeN {kvs:List (Key × V)}(ok:iy P w H h)(e:H a=some (.dK kvs)):kvs.length<=sizeLine/\(a==sysModules)=false/\∃vs,KV kvs vs/\h.DictOf (iu P w) a vs:=J7 ok (.inl e)
theorem Es {ks:List Key}(ok:iy P w H h)(e:H a=some (.tup (ks.map kV))):(tupleKind (iu P w)).is h ks a:=by
 obtain⟨_,its,r,o,h1,h2,n,h3⟩:=(show cW P w H h a (.tup (ks.map kV)) from ok a _ e)
 exact⟨o,its.toArray,n,h1,h2,h3,by simpa using Ik r⟩
theorem J8 {kvs:List (List Key × V)}(ok:iy P w H h)(e:Rd H a (.dT kvs)):kvs.length<=sizeLine/\(a==sysModules)=false/\
  ∃xs,KT H kvs xs/\h.DictOfH (tupleKind (iu P w)) a xs:=by
 obtain⟨z,y,xs,r,o,es,ep,h1,h2,h3,h4,h5⟩:=(show cW P w H h a (.dT kvs) from aac ok e)
 refine⟨z,y,xs,r,o,es,ep,h1,h2,h3,h4,λx hx=>?_,h5⟩;have all:∀{l:List (List Key × V)} {m:List (List Key × Addr × Value)},KT H l m->∀x∈m,(tupleKind (iu P w)).is h x.1 x.2.1:=by
  intro l m q
  induction q with
  | nil=>intro x hx;exact nomatch hx
  | @cons p q ps qs hq t ih=>
   intro x hx;rcases List.mem_cons.mp hx with e | hx
   ·subst e
    exact Es ok (by rw[<- hq.1];exact hq.2.1)
   ·exact ih x hx
 exact all r x hx
theorem aeO {kvs:List (List Key × V)}(ok:iy P w H h)(e:H a=some (.dT kvs)):kvs.length<=sizeLine/\(a==sysModules)=false/\
  ∃xs,KT H kvs xs/\h.DictOfH (tupleKind (iu P w)) a xs:=J8 ok (.inl e)
end
noncomputable def sy (H:Hp)(a:Addr)(y:V)(r:Option V):Prop:=
 (∃kvs k,Rd H a (.dK kvs)/\y=kV k/\r=jH kvs k)\/∃kvs k b,Rd H a (.dT kvs)/\y=.ref b/\H b=some (.tup (k.map kV))/\r=jH kvs k
noncomputable def wg (H:Hp)(a:Addr)(y v:V)(H':Hp):Prop:=
 (∃kvs k,H a=some (.dK kvs)/\y=kV k/\kvs.length < sizeLine/\H'=upd H a (.dK (putK kvs k v)))\/
 ∃kvs k b,H a=some (.dT kvs)/\y=.ref b/\H b=some (.tup (k.map kV))/\kvs.length < sizeLine/\H'=upd H a (.dT (putK kvs k v))
theorem sy.k {H:Hp}{a:Addr}{kvs:List (Key × V)}{k:Key}(e:H a=some (.dK kvs)):sy H a (kV k) (jH kvs k):=.inl ⟨kvs,k,.inl e,rfl,rfl⟩
theorem sy.t {H:Hp}{a b:Addr}{kvs:List (List Key × V)}{k:List Key}(e:H a=some (.dT kvs))(eb:H b=some (.tup (k.map kV))):sy H a (.ref b) (jH kvs k):=.inr ⟨kvs,k,b,.inl e,rfl,eb,rfl⟩
theorem wg.k {H:Hp}{a:Addr}{kvs:List (Key × V)}{k:Key}{v:V}(e:H a=some (.dK kvs))(hl:kvs.length < sizeLine):wg H a (kV k) v (upd H a (.dK (putK kvs k v))):=.inl ⟨kvs,k,e,rfl,hl,rfl⟩
theorem wg.t {H:Hp}{a b:Addr}{kvs:List (List Key × V)}{k:List Key}{v:V}(e:H a=some (.dT kvs))(eb:H b=some (.tup (k.map kV)))(hl:kvs.length < sizeLine) :
  wg H a (.ref b) v (upd H a (.dT (putK kvs k v))):=.inr ⟨kvs,k,b,e,rfl,eb,hl,rfl⟩
section
variable {X:Cx}{y7:List (Addr × Obj)}{σ:St}{H:Hp}{s:Shared}{a:Addr}{y v:V}{u r:Value}{o:Option V}{A:Around}{E:Value->Shared->Prop}
theorem Inv.big (I:Inv X y7 σ H s):sysModules < s.heap.objs.size:=by
 have h:mainGlobals < s.heap.objs.size:=(I.mod.glob.keeps I.bk).lt;exact Nat.lt_trans (by decide) h
theorem Uy {Q:Value->Shared->Prop}(hu:A.units+1 < cLine)(I:Inv X y7 σ H s)(g:sy H a y (some v))(ry:RelV y u)(h:∀w' s',Inv X y7 σ H s'->RelV v w'->Q w' s') :
  wpAny (model X.prog X.w) A (getItem (.ref a) u) Q E s:=by
 rcases g with⟨kvs,k,e,ey,l⟩ | ⟨kvs,k,b,e,ey,eb,l⟩
 ·subst ey
  obtain⟨z,hd,vs,rel,dd⟩:=J7 I.hok e;obtain⟨w',hw,Ep⟩:=jo.some_of (v:=v) (o:=valueAt vs k) (by rw[l];exact rel.val k);exact wpAny_getItem_of (J6 ry) dd.mapOf hw (h w' _ (I.tok _) Ep)
 ·subst ey
  cases(show u=Value.ref b from ry);obtain⟨z,hd,xs,rel,dd⟩:=J8 I.hok e;obtain⟨w',hw,Ep⟩:=jo.some_of (v:=v) (o:=(atKey xs k).map (·.2)) (by rw[l];exact rel.val k);obtain⟨p,hp,hp2⟩:=Option.map_eq_some_iff.mp hw;refine wpAny_getItem_heap (tupleKind_room_in1 hu) (Es I.hok eb) dd hp ?_;rw[hp2];exact h w' _ (I.tok _) Ep
theorem afl {Q:Value->Shared->Prop}(hu:A.units+1 < cLine)(I:Inv X y7 σ H s)(g:sy H a y o)(ry:RelV y u)(h:∀s',Inv X y7 σ H s'->Q (.bool o.isSome) s') :
  wpAny (model X.prog X.w) A (compareOp .In u (.ref a)) Q E s:=by
 rcases g with⟨kvs,k,e,ey,l⟩ | ⟨kvs,k,b,e,ey,eb,l⟩
 ·subst ey
  obtain⟨z,hd,vs,rel,dd⟩:=J7 I.hok e;refine wpAny_in_of (J6 ry) hd dd.mapOf ?_;rw[<- (rel.val k).yM,<- l];exact h _ (I.tok _)
 ·subst ey
  cases(show u=Value.ref b from ry);obtain⟨z,hd,xs,rel,dd⟩:=J8 I.hok e;refine wpAny_in_heap (tupleKind_room_in1 hu) (Es I.hok eb) hd dd ?_;have q:=(rel.val k).yM;rw[Option.isSome_map]at q;rw[<- q,<- l];exact h _ (I.tok _)
theorem Py {h':Heap}{t':Nat}{ob:HO}(I:Inv X y7 σ H s)(mu:T8 (H a))(hs:Heap.SameBut a s.heap h')(he:∃q,h'.get? a=some q)(new:cW X.prog X.w (upd H a ob) h' a ob) :
  Inv X y7 σ (upd H a ob) { s with heap:=h',toks:=t' }:=
 I.write (x:=a) (e:=a) mu (.inl rfl) (λb q hb z=>(hs.2 b hb).trans z) he new
theorem ac_ {P:Program}{w:World}{H':Hp}{h':Heap}{kvs:List (Key × V)}{vs:List (Key × Value)}(z:kvs.length<=sizeLine)(hd:(a==sysModules)=false)(rel:KV kvs vs)(dd:h'.DictOf (iu P w) a vs) :
  cW P w H' h' a (.dK kvs):=⟨z,hd,vs,rel,dd⟩
theorem Uz {H':Hp}{Q:Unit->Shared->Prop}(hu:A.units+1 < cLine)(I:Inv X y7 σ H s)(g:wg H a y v H')(ry:RelV y u)(rv:RelV v r)(h:∀s',Inv X y7 σ H' s'->Q () s') :
  wpAny (model X.prog X.w) A (setItem (.ref a) u r) Q E s:=by
 rcases g with⟨kvs,k,e,ey,l,eH⟩ | ⟨kvs,k,b,e,ey,eb,l,eH⟩
 ·subst ey eH
  obtain⟨z,hd,vs,rel,dd⟩:=aeN I.hok e;have hz:vs.length<=sizeLine:=by rw[<- rel.length];exact z
  have hl:(putK kvs k v).length<=sizeLine:=by have:=uP kvs k v;omega
  refine wpAny_setItem_pairs (hsz:=hz) (J6 ry) dd λh' UG hs=>h _ ?_;have he:∃q,h'.get? a=some q:=let ⟨q,_,_,hq,_⟩:=UG;⟨q,hq⟩
  exact Py I (by rw[e];exact True.intro) hs he (ac_ hl hd (rel.put k rv) UG)
 ·subst ey eH
  cases(show u=Value.ref b from ry);obtain⟨z,hd,xs,rel,dd⟩:=aeO I.hok e;have hz:xs.length<=sizeLine:=by rw[<- Paired.length rel];exact z
  have hl:(putK kvs k v).length<=sizeLine:=by have:=uP kvs k v;omega
  refine wpAny_setItem_heap (hsz:=hz) (tupleKind_room_in1 hu) (Es I.hok eb) dd λh' UG hs=>h _ ?_;obtain⟨q,es,ep,hq,h2,h3,h4,_,h5⟩:=UG;refine Py I (by rw[e];exact True.intro) hs ⟨q,hq⟩ ⟨hl,hd,_,(rel.put k eb rv).keeps λc ys ec=>?_,q,es,ep,hq,h2,h3,h4,h5⟩;rw[aP (aeC ec e (λz=>nomatch z))];exact ec
end
noncomputable def X6 (i:Expr):Prop:=∀ov iv,subscripted i false ov iv=operate [ov,iv] (getItem ov iv)
theorem aaS {prog:Program}{w:World}{A:Around}{E:Value->Shared->Prop}{s:Shared}{env:Env}{value slice:Expr}{pos:Pos}{T id:String}{Q:Value->Shared->Prop}
  (hl:typeLookup (.type T) "__getitem__"=pure (some (.builtin id))) (hs:X6 slice)
  (h:wpAny (model prog w) A (eval value env) (λo s₁=>wpAny (model prog w) A (eval slice env) (λi s₂=>s₂.TypeIs o T/\wpAny (model prog w) A (getItem o i) Q E s₂) E s₁) E s) :
  wpAny (model prog w) A (eval (.Subscript value slice pos) env) Q E s:=by
 refine Subscript_ (wpAny_mono h (λo s₁ h₁=>wpAny_mono h₁ (λi s₂ h₂=>?_) λ_ _ x=>x) λ_ _ x=>x);obtain⟨hT,h₂⟩:=h₂;unfold subscriptTail;refine wpAny_bind ?_;rw[getitemInPython_of_ne hT.not_modules];refine wpAny_bind (wpAny_specialOf hT hl ?_);have fin:wpAny (model prog w) A (subscripted slice false o i) (λr s₃=>wpAny (model prog w) A (letTemporaryGo value o r >>= λ_=>pure r) Q E s₃) E s₂:=by
  rw[hs o i];exact wpAny_operating (wpAny_mono h₂ (λr s₃ h₃=>wpAny_bind (wpAny_letTemporaryGo (wpAny_pure h₃))) λ_ _ x=>x)
 first
  | exact wpAny_pure (wpAny_bind fin)
  | exact wpAny_bind (wpAny_pure (wpAny_bind fin))
  | exact wpAny_bind fin
theorem Oi {X:Cx}{y7:List (Addr × Obj)}{σ:St}{H:Hp}{s:Shared}{a:Addr}{y:V}{o:Option V}(I:Inv X y7 σ H s)(g:sy H a y o):s.TypeIs (.ref a) "dict":=by
 rcases g with⟨kvs,k,e,_,_⟩ | ⟨kvs,k,b,e,_,_,_⟩
 ·obtain⟨_,_,vs,_,dd⟩:=J7 I.hok e
  exact dd.typeIs
 ·obtain⟨_,_,xs,_,dd⟩:=J8 I.hok e
  exact dd.typeIs
noncomputable def aad (td ty:TE):TE:=λσ H Q=>td σ H λx H1=>ty σ H1 λy H2=>∃a v,x=.ref a/\sy H2 a y (some v)/\Q v H2
noncomputable def ada (ty td:TE):TE:=λσ H Q=>ty σ H λy H1=>td σ H1 λx H2=>∃a o,x=.ref a/\sy H2 a y o/\Q (.bl o.isSome) H2
noncomputable def aae (td ty tv:TE):TS:=λD σ H=>tv σ H λv H1=>td σ H1 λx H2=>ty σ H2 λy H3=>∃a H4,x=.ref a/\wg H3 a y v H4/\D.nx σ H4
section
variable {X:Cx}{o i value:Expr}{pos pos':Pos}{td ty tv:TE}
theorem aaT (hu:X.A.units+1 < cLine)(ho:PE X o td)(hi:PE X i ty)(hs:X6 i):PE X (.Subscript o i pos) (aad td ty):=by
 intro y7 s σ H Q I h;refine aaS PySem.F.slot_dict_getitem.lookup hs (bG (ho y7 s σ H _ I h) λu s1 zz=>?_);obtain⟨x,H1,I1,rx,q1⟩:=zz;refine bG (hi y7 s1 σ H1 _ I1 q1) λiv s2 zz=>?_;obtain⟨y,H2,I2,ry,a,v,ex,g,q2⟩:=zz;subst ex;obtain rfl:u=Value.ref a:=rx;exact⟨Oi I2 g,Uy hu I2 g ry λw' s3 I3 Ep=>⟨v,H2,I3,Ep,q2⟩⟩
theorem adb (hu:X.A.units+1 < cLine)(hi:PE X i ty)(ho:PE X o td):PC X .In i o (ada ty td):=by
 intro y7 s σ H Q I h;refine bG (hi y7 s σ H _ I h) λiv s1 zz=>?_;obtain⟨y,H1,I1,ry,q1⟩:=zz;refine bG (ho y7 s1 σ H1 _ I1 q1) λu s2 zz=>?_;obtain⟨x,H2,I2,rx,a,ov,ex,g,q2⟩:=zz;subst ex;obtain rfl:u=Value.ref a:=rx;exact afl hu I2 g ry λs3 I3=>⟨.bl ov.isSome,H2,I3,rfl,q2⟩
theorem aaU (hu:X.A.units+1 < cLine)(ho:PE X o td)(hi:PE X i ty)(hv:PE X value tv)(hs:swapsWith value (some (.Subscript o i pos')) pos.line X.env=pure false) :
  PS X (.Assign [.Subscript o i pos'] value pos) (aae td ty tv):=by
 intro y7 s σ H D I h;refine wpAny_Assign_Subscript (bG (hv y7 s σ H _ I h) λr s1 zz=>?_) hs;obtain⟨v,H1,I1,rv,q1⟩:=zz;refine bG (ho y7 s1 σ H1 _ I1 q1) λu s2 zz=>?_;obtain⟨x,H2,I2,rx,q2⟩:=zz;refine bG (hi y7 s2 σ H2 _ I2 q2) λiv s3 zz=>?_;obtain⟨y,H3,I3,ry,a,H4,ex,g,q3⟩:=zz;subst ex;obtain rfl:u=Value.ref a:=rx;exact Uz hu I3 g ry rv λs4 I4=>⟨σ,H4,I4,q3⟩
end
theorem X7 {P:Program}{w:World}{H:Hp}(h:Heap)(hb:sysModules < h.objs.size):cW P w H (h.push { cls:=.type "dict",data:=.dict #[] }) h.objs.size (.dK []):=
 ⟨Nat.zero_le _,beq_eq_false_iff_ne.mpr (Ne.symm (Nat.ne_of_lt hb)),[],.nil,Heap.DictOf.new h⟩
theorem X8 {P:Program}{w:World}{H:Hp}(h:Heap)(hb:sysModules < h.objs.size):cW P w H (h.push { cls:=.type "dict",data:=.dict #[] }) h.objs.size (.dT []):=
 ⟨Nat.zero_le _,beq_eq_false_iff_ne.mpr (Ne.symm (Nat.ne_of_lt hb)),[],.nil,_,#[],0,Heap.get?_push_size _ rfl,⟨rfl,rfl,rfl⟩,rfl,rfl,List.nodup_nil⟩
noncomputable def UJ:TE:=λ_ H Q=>∀p,H p=none->Q (.ref p) (upd H p (.dK []))
noncomputable def UL:TE:=λ_ H Q=>∀p,H p=none->Q (.ref p) (upd H p (.dT []))
section
variable {X:Cx}{pos:Pos}
theorem X_:PE X (.Dict [] [] pos) UJ:=λy7 s σ H Q I h=>
 wpAny_Dict_empty ⟨.ref s.heap.objs.size,_,I.laid (a:=s.heap.objs.size) (o:=.dK []) (t':=s.toks) (λ_ _ q=>Heap.get?_push_of_some _ q) (Nat.le_refl _) (X7 s.heap I.big),rfl,h _ (I.hok.fresh (Nat.le_refl _))⟩
theorem Yb:PE X (.Dict [] [] pos) UL:=λy7 s σ H Q I h=>
 wpAny_Dict_empty ⟨.ref s.heap.objs.size,_,I.laid (a:=s.heap.objs.size) (o:=.dT []) (t':=s.toks) (λ_ _ q=>Heap.get?_push_of_some _ q) (Nat.le_refl _) (X8 s.heap I.big),rfl,h _ (I.hok.fresh (Nat.le_refl _))⟩
end
structure M1 (X:Cx)(o:Expr)(m:Str)(apos:Pos)(e:Expr)(cpos:Pos):Prop where
 base:attributeBase o m X.env (eval o X.env)=eval o X.env
 few:((backTo cpos (starEach [e] X.env)).all (λx=>!x.1)&&(backToKw cpos (keywordEach [] X.env)).all (λx=>x.1.isSome)
  && decide (([e]:List Expr).length+([]:List Keyword).length+(if ([]:List Keyword).isEmpty then 0 else 1) < 30))=true
 line:(apos.endLine==cpos.line)=true
 trees:backTo cpos (starEach [e] X.env)=[(false,eval e X.env)]
structure M2 (X:Cx)(o:Expr)(m:Str)(apos:Pos)(e f:Expr)(cpos:Pos):Prop where
 base:attributeBase o m X.env (eval o X.env)=eval o X.env
 few:((backTo cpos (starEach [e,f] X.env)).all (λx=>!x.1)&&(backToKw cpos (keywordEach [] X.env)).all (λx=>x.1.isSome)
  && decide (([e,f]:List Expr).length+([]:List Keyword).length+(if ([]:List Keyword).isEmpty then 0 else 1) < 30))=true
 line:(apos.endLine==cpos.line)=true
 trees:backTo cpos (starEach [e,f] X.env)=[(false,eval e X.env),(false,eval f X.env)]
end L2
namespace Att
open PySem PySem.W PySem.Calls PyProof.Rows
theorem Et {P:Params}{h:Heap}:∀(ns:List Int) (vs:List Value),WellAll P h vs (ns.map WData.int)->IntsAre vs ns:=by
 intro ns
 induction ns with
 | nil=>
  intro vs w;rw[List.map_nil]at w;cases w;exact .nil
 | cons n ns ih=>
  intro vs w;rw[List.map_cons]at w;cases w with
  | cons a b=>
   cases a;exact .cons _ _ (ih _ b)
theorem UW {l:OpenLaw}{n:Nat}(hn:l.most=some n){P:Params}{h:Heap}{args:List WData}{vals:List Value}
  (hpre:l.row.toRowW.claim.pre args=true) (hwl:WellAll P h vals args) :
  ∃a vs ns,vals=[Value.ref a]/\args=[WData.list (ns.map WData.int)]/\h.get? a=some { cls:=.type "list",data:=.seq vs.toArray }/\IntsAre vs ns/\ns.length<=n:=by
 have hsh:WShape.hasAll [] args [.list .int]=true:=(pre_splitW hpre).1;have hc:l.pre.holds [] { args:=args }=true:=(pre_splitW hpre).2;obtain⟨d,r,rfl,h1,h2⟩:=hasAllW_cons hsh;obtain rfl:=hasAllW_nil h2;obtain⟨xs,rfl,h3⟩:=hasW_list h1;obtain⟨ns,rfl⟩:=items_int h3;have hlen:ns.length<=n:=by
  unfold OpenLaw.pre at hc;have h4:(WTm.not (.lt (.lit (.int (n:Int))) (.len (.arg 0)))).holds [] { args:=[.list (ns.map .int)] }=true:=by
   have h4:=(holds_andW hc).1;rw[hn]at h4;exact h4
  have h5:=condW_of h4 (w_not (w_lt w_lit (w_len_list (w_arg rfl))));rw[List.length_map]at h5;refine Nat.le_of_not_lt λq=>?_;have q':(n:Int) < ((ns.length:Nat):Int):=by omega
  first
   | (rw[decide_eq_true q']at h5;exact absurd h5 (by decide))
   | (simp at h5;omega)
 cases hwl with
 | cons w1 w2=>
  cases w2;cases w1 with
  | list ho hall=>exact⟨_,_,ns,rfl,rfl,ho,Et ns _ hall,hlen⟩
theorem U0 (l:OpenLaw)(args:List WData):l.row.toRowW.claim.post args (.bool true) args=true:=
 postW_of (r:=l.row.toRowW) (X:=(true==true))
  (show WShape.has [] (.bool true) .bool=true by first | rfl | decide | simp[WShape.has,WShape.arms,WShape.armsAll])
  (show (WTm.eq .res (.lit (.bool true))).value [] { args:=args,res:=some (.bool true),after:=args }=some (.bool (true==true)) from w_eq_bool (w_res rfl) w_lit) rfl
theorem Oj {l:OpenLaw}{n:Nat}{q:Program}{loose:List Str}{XP:(Str->Option Value)->Heap->Prop}{YP:World->Heap->Prop}{d:DefRec}
  (hn:l.most=some n) (hdf:d.params.defaults=[])
  (call:∀(w:World) (s₀ s₁:Shared) (mg mb:Str->Option Value) (fa:Addr) (o:Obj) (pm cd doc:Value) (a:Addr) (vs:List Value) (ns:List Int),
   Ground q loose [] XP w s₀ mg mb s₁.heap->YP w s₁.heap->
   s₁.heap.get? fa=some o->o.data=.func (docDef d.name d.params d.body d.scope pm cd doc)->s₁.heap.CodeRec cd d.name->mg d.name=some (.ref fa)->
   s₁.heap.get? a=some { cls:=.type "list",data:=.seq vs.toArray }->IntsAre vs ns->ns.length<=n->s₁.gens=#[]->
   codeAny (model l.prog w) callerA (.call (.ref fa) ⟨[.ref a],[]⟩) (λr s'=>r=.ok (.ret (.bool true))/\OldK s₁.heap s'.heap/\s'.os=s₁.os/\AllBare s'.gens) s₁) :
  WalkO q loose XP YP l.row.toRowW d [] (λf vs=>PySem.call f vs):=by
 intro w s₀ s₁ mg mb G Y fa o pm cd doc dV kV ho hd hcd hD hmg hg args vals as hpre hlay hrd hwl hlo;obtain rfl:dV=.none:=Dflts.none hD hdf;obtain rfl:kV=.none:=Dflts.noKw hD;obtain⟨a,vs,ns,rfl,rfl,hobj,hints,hlen⟩:=UW hn hpre hwl;refine enter_call (codeAny_mono (call w s₀ s₁ mg mb fa o pm cd doc a vs ns G Y ho (fd_plain hd) hcd hmg hobj hints hlen hg) λr s' hq=>?_);obtain⟨rfl,h2,h3,h4⟩:=hq;exact⟨.inl ⟨.bool true,.bool true,[],rfl,λ_=>rfl,.bool true,U0 l _,λ_=>⟨List.Pairwise.nil,λ_ hm=>(nomatch hm)⟩⟩,h2,h3,h4⟩
end Att
namespace L2
open PySem PySem.Spec PyProof.Rows
theorem Il:∀{vs:List Value} {ns:List Int},IntsAre vs ns->Vals (ns.map V.int) vs
 | _,_,.nil=>.nil
 | _,_,.cons n t h=>.cons ⟨t,rfl⟩ (Il h)
noncomputable def Only (H:Hp):Prop:=∀b,H b=none\/∃o xs,H b=some (.lM o (.lst xs))
theorem Yc {P:Program}{w:World}{K:W.Frag}{mg mb:Str->Option Value}{CX:m5}{k:Nat}{fa a:Addr}{fd:FuncData}{x:Str}{sp:Sp}{s₁:Shared}{vs:List Value}{ns:List Int}
  (KX:K.In s₁.heap) (hns:s₁.heap.Ns mainGlobals mg) (hb:s₁.heap.Ns builtinsNs mb) (hbb:∀x:Str,x≠"__name__"->mb x=bootBuiltins x) (hlim:s₁.heap.NoLimit) (hg:s₁.gens=#[])
  (ha:s₁.heap.get? a=some { cls:=.type "list",data:=.seq vs.toArray }) (hi:IntsAre vs ns) (hl:ns.length<=sizeLine) (hr:dw k callerA)
  (F:∀base:Heap,K.In base->base.Ns mainGlobals mg->cD P w K mg base CX k fa fd [x] sp) (hbind:∀(s:Shared) (u:Value),BindsTo s fd ⟨[u],[]⟩ [(x,u)])
  (hsp:∀H:Hp,Only H->aN K H a (ns.map V.int)->sp [.ref a] H (λv _=>v=.bl true) λ_ _ _=>False)
  (hCX:∀H e s',CX [] H s₁ (λ_ _ _=>False) e s'->False) :
  codeAny (model P w) callerA (.call (.ref fa) ⟨[.ref a],[]⟩) (λr s'=>r=.ok (.ret (.bool true))/\OldK s₁.heap s'.heap/\s'.os=s₁.os/\AllBare s'.gens) s₁:=by
 have rv:=Il hi;have lenV:=hi.length;have core:∀H:Hp,Only H->aN K H a (ns.map V.int)->iy P w H s₁.heap->(∀b,H b≠none->b=a)->(H a≠none->K.lookup a=none)->
   codeAny (model P w) callerA (.call (.ref fa) ⟨[.ref a],[]⟩) (λr s'=>r=.ok (.ret (.bool true))/\OldK s₁.heap s'.heap/\s'.os=s₁.os/\AllBare s'.gens) s₁:=by
  intro H hO hS hok hA hK;have Pz:∀{b:Addr} {o:Obj},s₁.heap.get? b=some o->H b=none->(vX s₁.heap H).get? b=some o:=λe n=>Xo e n;have Ut:∀{b:Addr} {o:Obj} {es:Array DictEntry} {ep:Nat},s₁.heap.get? b=some o->o.data=.dict es ep->H b=none:=λ{b o es ep} e d=>by
   cases q:H b with
   | none=>rfl
   | some u=>
    have e':b=a:=hA b (by rw[q];simp);subst e';rw[ha]at e;cases e;have d':Data.seq vs.toArray _=Data.dict es ep:=d;cases d'
  have nsK:∀{b:Addr} {m:Str->Option Value},s₁.heap.Ns b m->(vX s₁.heap H).Ns b m:=λ{b m} ⟨o,es,ep,e,d,r⟩=>⟨o,es,ep,Pz e (Ut e d),d,r⟩
  have hKb:K.In (vX s₁.heap H):=λb o e=>Pz (KX b o e) (by
   cases q:H b with
   | none=>rfl
   | some u=>
    have e':b=a:=hA b (by rw[q];simp);subst e';rw[hK (by rw[q];simp)]at e;cases e)
  have hM:Mod K mg (vX s₁.heap H):=⟨hKb,nsK hns,⟨mb,nsK hb,hbb⟩,let ⟨mc,h1,h2⟩:=hlim;⟨mc,nsK h1,h2⟩⟩
  have e0:Cp P w K mg (vX s₁.heap H) callerA [] s₁ H:=⟨rfl,hM,λb o e=>aay e,Nat.le_of_eq (T9 _ _),trivial,λb hb=>absurd (show b∈([]:List Addr) from hb) (by simp),hok,.of_eq hg⟩
  refine codeAny_mono ((F _ hKb (nsK hns)).run callerA [] s₁ H ⟨[.ref a],[]⟩ [.ref a] [.ref a] _ _ hr e0 (hbind s₁ (.ref a)) (.cons rfl .nil) (hsp H hO hS)) λr s' h=>?_;cases r with
  | error e=>exact(hCX H e s' h).elim
  | ok fl=>
   cases fl with
   | next=>exact False.elim h
   | brk=>exact False.elim h
   | cont=>exact False.elim h
   | ret u=>
    obtain⟨v,H',os,bare,un,hok',r',q⟩:=h;have q':v=.bl true:=q;subst q';obtain rfl:u=Value.bool true:=r';refine⟨rfl,OldK.of_keep λb o e=>?_,os,bare⟩;cases q:H b with
    | none=>exact un.keep b o e q (by intro z;exact absurd (show b∈([]:List Addr) from z) (by simp)) (by simp)
    | some u=>
     rcases hO b with z | ⟨ob,xs,z⟩
     ·rw[q]at z;cases z
     ·have z2:=un.jX b ob _ z
      obtain⟨e1,_⟩:=hok b _ z;obtain⟨e2,_⟩:=hok' b _ z2;rw[e]at e1;cases e1;exact e2
 cases hk:K.lookup a with
 | some o=>
  have e:=KX a o hk;rw[ha]at e;cases e;refine core (λ_=>none) (λ_=>.inl rfl) (.inr ⟨_,vs.toArray,_,hk,rfl,rfl,rfl,by rw[List.size_toArray,lenV];exact hl,by simpa using rv⟩) (λb u z=>by have z':(none:Option HO)=some u:=z;cases z') (λb z=>absurd rfl z) λz=>absurd rfl z
 | none=>
  refine core (λb=>if b=a then some (.lM { cls:=.type "list",data:=.seq vs.toArray } (.lst (ns.map V.int))) else none) (λb=>?_) (.inl (.inr ⟨{ cls:=.type "list",data:=.seq vs.toArray },if_pos rfl⟩)) (λb u z=>?_) (λb z=>?_) λ_=>hk
  ·by_cases hb:b=a
   ·exact .inr ⟨_,_,if_pos hb⟩
   ·exact .inl (if_neg hb)
  ·by_cases hb:b=a
   ·have z':=(if_pos hb).symm.trans z
    cases z';subst hb;exact⟨ha,by rw[List.length_map];exact hl,vs,_,rv,ha⟩
   ·have z':=(if_neg hb).symm.trans z
    cases z'
  ·by_cases hb:b=a
   ·exact hb
   ·exact absurd (if_neg hb) z
abbrev KOf {K:W.Frag}{h:Heap}(_:K.In h):W.Frag:=K
theorem aaV {l:W.OpenLaw}{n k:Nat}{q:Program}{loose:List Str}{XP:(Str->Option Value)->Heap->Prop}{YP:World->Heap->Prop}{d:DefRec}{K:Params->W.Frag}{CX:World->m5}{sp:World->Sp}{x:Str}
  (hn:l.most=some n) (hn2:n<=sizeLine) (hdf:d.params.defaults=[]) (hr:dw k callerA)
  (hY:∀(w:World) (h:Heap),YP w h->(K w.params).In h)
  (F:∀(w:World) (mg:Str->Option Value) (fa:Addr) (h:Heap),(K w.params).In h->h.Ns mainGlobals mg->mg d.name=some (.ref fa)->
   ∃fd:FuncData,(∀(s:Shared) (u:Value),BindsTo s fd ⟨[u],[]⟩ [(x,u)])/\
    ∀base:Heap,(K w.params).In base->base.Ns mainGlobals mg->cD l.prog w (K w.params) mg base (CX w) k fa fd [x] (sp w))
  (hsp:∀(w:World) (H:Hp) (a:Addr) (ns:List Int),ns.length<=n->Only H->aN (K w.params) H a (ns.map V.int)->sp w [.ref a] H (λv _=>v=.bl true) λ_ _ _=>False)
  (hCX:∀(w:World) (H:Hp) (s:Shared) (e:Value) (s':Shared),CX w [] H s (λ_ _ _=>False) e s'->False) :
  W.WalkO q loose XP YP l.row.toRowW d [] (λf vs=>PySem.call f vs):=by
 refine Att.Oj hn hdf λw s₀ s₁ mg mb fa o pm cd doc a vs ns G Y ho hd hcd hmg hobj hints hlen hg=>?_;have KX:=hY w _ Y;obtain⟨fd,hb,hF⟩:=F w mg fa _ KX G.T.g hmg;exact Yc KX G.T.g G.T.b G.T.builtins G.T.nolimit hg hobj hints (Nat.le_trans hlen hn2) hr hF hb (λH hO hS=>hsp w H a ns hlen hO hS) λH e s'=>hCX w H s₁ e s'
noncomputable def inClass (s:Stmt)(j:Nat):Stmt:=match s with
 | .ClassDef _ _ _ body _ _ _ _ _ _ _=>body.getD j (.Pass ⟨0,0,0,0⟩)
 | _=>.Pass ⟨0,0,0,0⟩
noncomputable def d8 (s:Stmt):Arguments:=match s with
 | .FunctionDef _ a _ _ _ _ _ _ _ _=>a
 | _=>{ posonlyargs:=[],args:=[],vararg:=none,kwonlyargs:=[],kw_defaults:=[],kwarg:=none,defaults:=[] }
noncomputable def cT (s:Stmt):List Stmt:=match s with
 | .FunctionDef _ _ b _ _ _ _ _ _ _=>b
 | _=>[]
noncomputable def aF (s:Stmt):Scope:=match s with
 | .FunctionDef _ _ _ _ _ _ sc _ _ _=>sc
 | _=>{ kind:=.function,names:=[],isGenerator:=false,isCoroutine:=false }
abbrev fK:m5:=λ_ _ _ _ _ _=>False
abbrev E0:XK:=λ_ _ _=>False
theorem mj {X:Cx}:Passes fK X E0:=λ_ _ _ _ _ _ _ h=>h.elim
structure gk (K:W.Frag)(x qual:Str)(st:Stmt)(f:Addr)(fd:FuncData):Prop where
 ex:∃(oc:Value) (od:Option Addr) (kV doc pm:Value) (an:Option Addr) (cdv ct:Value) (osl:Array (Option Value)),
  fd=W.fnOf x qual (d8 st) (cT st) (aF st) .none kV doc pm an cdv ct/\K.lookup f=some ⟨oc,od,.func fd,osl⟩/\W.codeIn K cdv qual=true
 kp:W.keepIn K (.ref f)=true
section
variable {P:Program}{w:World}{K:W.Frag}{mg:Str->Option Value}{base:Heap}
theorem gk.ok {x qual:Str}{st:Stmt}{f:Addr}{fd:FuncData}{N ps:List Str}{k:Nat}{sp:Sp}(F:gk K x qual st f fd)(S:aW N ps (aF st))(len:∀vs H Q E,sp vs H Q E->vs.length=ps.length)
  (hbody:∀(cdv:Value) (A:Around) (outer:List Env) (s:Shared) (H:Hp) (vs:List V) (Q:VK) (E:XK),dw k (A.deeper (envOfC qual (aF st) s.heap.objs.size f cdv))->sp vs H Q E->
   ∃t,qM (oJ fK P w K mg base N qual (aF st) f cdv A outer s H E).Kh (cT st) t/\t { nx:=λ_ H'=>Q .non H',rt:=Q } (start N vs) H):cD P w K mg base fK (k+1) f fd ps sp:=by
 obtain⟨oc,od,kV,doc,pm,an,cdv,ct,osl,rfl,lk,hcd⟩:=F.ex;refine Z9 lk hcd S len λA outer s H vs Q E hr hsp=>?_;obtain⟨t,h,q⟩:=hbody cdv A outer s H vs Q E hr hsp;exact⟨t,h.Kh,q⟩
theorem gk.binds {x qual:Str}{st:Stmt}{f:Addr}{fd:FuncData}{ps:List Str}(F:gk K x qual st f fd)
  (h:∀(kV doc pm:Value) (an:Option Addr) (cdv ct:Value) (us:List Value),us.length=ps.length->bindArgs (W.fnOf x qual (d8 st) (cT st) (aF st) .none kV doc pm an cdv ct) ⟨us,[]⟩=pure (ps.zip us)):Binds K fd ps []:=by
 obtain⟨oc,od,kV,doc,pm,an,cdv,ct,osl,rfl,lk,hcd⟩:=F.ex;exact .all (h kV doc pm an cdv ct)
theorem iU {x qual:Str}{st:Stmt}{f:Addr}{oc:Value}{od an:Option Addr}{osl:Array (Option Value)}{kV doc pm cdv ct:Value}(l:K.lookup f=some ⟨oc,od,.func (W.fnOf x qual (d8 st) (cT st) (aF st) .none kV doc pm an cdv ct),osl⟩)
  (c:W.codeIn K cdv qual=true) (k:W.keepIn K (.ref f)=true):gk K x qual st f (W.fnOf x qual (d8 st) (cT st) (aF st) .none kV doc pm an cdv ct):=⟨⟨oc,od,kV,doc,pm,an,cdv,ct,osl,rfl,l,c⟩,k⟩
end
theorem Rp {A:Around}{k:Nat}(hr:dw k A):A.units+1 < cLine:=Nat.lt_of_le_of_lt (Nat.add_le_add_left (by decide:1<=64) _) hr.units
theorem aD {n:Nat}(h:n<=1000):n < sizeLine:=Nat.lt_of_le_of_lt h (by decide)
section
variable {X:Cx}
theorem pv (i:Nat){x:Str}{pos:Pos}(hN:X.N[i]?=some x:=by rfl)(hv:ZV X.env.scope x:=by first | exact Or.inl rfl | exact Or.inr (Or.inl rfl) | exact Or.inr (Or.inr rfl))(hd:(x==("__debug__":Str))=false:=by decide)
  (hcd:(x==("__classdict__":Str))=false:=by decide):PE X (.Name x pos) (gU i):=acj hN hv hd hcd
end
theorem aV {A B:Prop}(h:B):if false=true then A else B:=by
 rw[if_neg Bool.false_ne_true];exact h
theorem bw {A B:Prop}(h:A):if true=true then A else B:=by
 rw[if_pos rfl];exact h
theorem jJ {c A B:Prop} [Decidable c] (h1:c->A)(h2:¬c->B):if c then A else B:=by
 by_cases h:c
 ·rw[if_pos h]
  exact h1 h
 ·rw[if_neg h]
  exact h2 h
theorem Ba {c A B:Prop} [Decidable c] (hc:c)(h:B):if (!decide c)=true then A else B:=by
 rw[decide_eq_true hc];exact aV h
noncomputable def Same (H H':Hp):Prop:=∀b o,H b=some o->H' b=some o
theorem Same.refl (H:Hp):Same H H:=λ_ _ h=>h
theorem Same.trans {H H1 H2:Hp}(a:Same H H1)(b:Same H1 H2):Same H H2:=λc o h=>b c o (a c o h)
theorem Same.free {H H':Hp}(e:Same H H'){l:Addr}(h:H' l=Option.none):H l=Option.none:=by
 cases q:H l with
 | none=>rfl
 | some o=>
  rw[e l o q]at h;cases h
theorem Same.seq {K:W.Frag}{H H':Hp}{a:Addr}{xs:List V}(e:Same H H')(h:aN K H a xs):aN K H' a xs:=by
 rcases h with(h | ⟨o,h⟩) | h
 ·exact .inl (.inl (e _ _ h))
 ·exact .inl (.inr ⟨o,e _ _ h⟩)
 ·exact .inr h
section
variable {κ:Type}[DecidableEq κ]
theorem PB:∀{l:List κ} {k:κ},l.Nodup->¬k∈l->(l++[k]).Nodup
 | [],k,_,_=>by simp
 | a::r,k,h,hk=>by
  obtain⟨h1,h2⟩:=List.nodup_cons.mp h;show (a::(r++[k])).Nodup;refine List.nodup_cons.mpr ⟨λm=>?_,PB h2 λm=>hk (List.mem_cons.mpr (Or.inr m))⟩;rcases List.mem_append.mp m with q | q
  ·exact h1 q
  ·exact hk (List.mem_cons.mpr (Or.inl (List.mem_singleton.mp q).symm))
end
end L2
end
section
namespace L2
open PySem PySem.Spec PyProof.Rows
noncomputable def blk (X:Cx)(scope:Scope)(cl:List (Str × Addr))(C:Addr)(x:Str)(s₀:Shared)(H₀:Hp)(fp:List Addr):Cx:=
 { X with N:=x::X.N,s₀:=s₀,H₀:=H₀,env:=compEnvC scope cl C X.env,outer:=X.stack,ex:=fp,fn:=λ_=>false,pn:=[],xe:=λ_ _=>False }
structure gQ (X:Cx)(scope:Scope)(x:Str):Prop where
 kind:scope.kind=.function
 pq:∀y∈scope.names,y.2≠.cell
 names:∀y∈scope.names,y.2=.local->scope.names.lookup y.1=some .local
 hx:scope.names.lookup x=some .local
 free:∀y∈scope.names,y.2=.free->X.env.kindOf y.1=some .cell\/X.env.kindOf y.1=some .free
 out:∀y∈X.N,scope.names.lookup y≠some .local
 nd:X.N.Nodup
noncomputable def PJ (sc:Scope)(N:List Str)(scope:Scope)(x:Str):Bool:=
 scope.kind == .function&&scope.names.all (λy=>y.2 != .cell)&&scope.names.all (λy=>y.2 != .local||scope.names.lookup y.1==some .local)&&scope.names.lookup x==some .local &&
 scope.names.all (λy=>y.2 != .free||sc.names.lookup y.1==some .cell||sc.names.lookup y.1==some .free)&&N.all (λy=>scope.names.lookup y != some .local)
theorem gQ.of {X:Cx}{scope:Scope}{x:Str}(hN:X.N.Nodup)(h:PJ X.env.scope X.N scope x=true):gQ X scope x:=by
 unfold PJ at h;simp only[Bool.and_eq_true,List.all_eq_true,Bool.or_eq_true,bne_iff_ne,beq_iff_eq,ne_eq]at h;obtain⟨⟨⟨⟨⟨h1,h2⟩,h3⟩,h4⟩,h5⟩,h6⟩:=h;refine⟨h1,λy hy=>h2 y hy,λy hy e=>(h3 y hy).resolve_left λz=>z e,h4,λy hy e=>?_,λy hy=>h6 y hy,hN⟩;rcases h5 y hy with(z | z) | z
 ·exact absurd e z
 ·exact .inl z
 ·exact .inr z
theorem cA {α:Type}:∀{l:List (Str × α)} {x:Str} {a:α},l.lookup x=some a->(x,a)∈l
 | [],_,_,h=>by simp at h
 | (y,b)::r,x,a,h=>by
  rw[List.lookup_cons]at h
  split at h
  ·rename_i e
   have e':x=y:=by simpa using e
   cases h;subst e';exact List.mem_cons_self
  ·exact List.mem_cons_of_mem _ (cA h)
theorem nG {env:Env}:∀(names:List (Str × NameKind)),(∀y∈names,y.2=.free->∃c,env.cells.lookup y.1=some c)->∀acc:List (Str × Addr),(∀n c,acc.lookup n=some c->env.cells.lookup n=some c)->
  ∃cl,(forIn names acc (λ(p:Str × NameKind) (cs:List (Str × Addr))=>if (p.2==NameKind.free)=true then (do let a <- cellOf env p.1;pure (ForInStep.yield ((p.1,a)::cs))) else (pure (ForInStep.yield cs):Sem _)):Sem (List (Str × Addr)))=pure cl/\
   (∀n c,cl.lookup n=some c->env.cells.lookup n=some c)/\(∀n,(∃c,acc.lookup n=some c)->∃c,cl.lookup n=some c)/\∀n,(n,NameKind.free)∈names->∃c,cl.lookup n=some c
 | [],_,acc,ha=>⟨acc,by simp,ha,λ_ h=>h,λ_ h=>by simp at h⟩
 | (n,k)::r,hf,acc,ha=>by
  have hr:∀y∈r,y.2=.free->∃c,env.cells.lookup y.1=some c:=λy hy=>hf y (List.mem_cons_of_mem _ hy);by_cases hk:k=.free
  ·subst hk
   obtain⟨c,hc⟩:=hf (n,.free) List.mem_cons_self rfl;obtain⟨cl,e,h1,h2,h3⟩:=nG r hr ((n,c)::acc) (λn' c' h=>by
    rw[List.lookup_cons]at h
    split at h
    ·rename_i q
     have q':n'=n:=by simpa using q
     cases h;subst q';exact hc
    ·exact ha n' c' h)
   refine⟨cl,?_,h1,λn' h=>h2 n' ?_,λn' h=>?_⟩
   ·rw[List.forIn_cons]
    simp only[beq_self_eq_true,if_true];have e2:cellOf env n=pure c:=by unfold cellOf;rw[hc]
    rw[e2];simp only[pure_bind];exact e
   ·obtain⟨c',hc'⟩:=h
    rw[List.lookup_cons]
    split
    ·exact⟨c,rfl⟩
    ·exact⟨c',hc'⟩
   ·rcases List.mem_cons.mp h with q | q
    ·refine h2 n' ⟨c,?_⟩
     cases q;rw[List.lookup_cons,beq_self_eq_true]
    ·exact h3 n' q
  ·have hb:(k==NameKind.free)=false:=by simpa using hk
   obtain⟨cl,e,h1,h2,h3⟩:=nG r hr acc ha;refine⟨cl,?_,h1,h2,λn' h=>?_⟩
   ·rw[List.forIn_cons]
    simp only[hb,Bool.false_eq_true,if_false,pure_bind];exact e
   ·rcases List.mem_cons.mp h with q | q
    ·cases q;exact absurd rfl hk
    ·exact h3 n' q
theorem bZ {env:Env}:∀{names:List (Str × NameKind)} {x:Str} {k:NameKind},
  (names.map λ(n,k)=>if (k==NameKind.free&&env.scope.kind == .function&&env.kindOf n==some .cell) then (n,NameKind.cell) else (n,k)).lookup x=some k->names.lookup x=some k\/(k=.cell/\names.lookup x=some .free)
 | [],_,_,h=>by simp at h
 | (n,j)::r,x,k,h=>by
  have ih:=@bZ env r x k;have h':List.lookup x ((if (j==NameKind.free&&env.scope.kind == .function&&env.kindOf n==some .cell)=true then (n,NameKind.cell) else (n,j))::_)=some k:=h;by_cases hc:(j==NameKind.free&&env.scope.kind == .function&&env.kindOf n==some .cell)=true
  ·rw[if_pos hc]at h'
   cases hx:x==n with
   | true=>
    simp only[List.lookup_cons,hx]at h' ⊢;cases h';have:j=.free:=by simp at hc;exact hc.1.1
    exact .inr ⟨rfl,by rw[this]⟩
   | false=>simp only[List.lookup_cons,hx]at h' ⊢;exact ih h'
  ·rw[if_neg hc]at h'
   cases hx:x==n with
   | true=>simp only[List.lookup_cons,hx]at h' ⊢;exact .inl h'
   | false=>simp only[List.lookup_cons,hx]at h' ⊢;exact ih h'
theorem wj {prog:Program}{w:World}{A:Around}{R:Result->Shared->Prop}{s:Shared}{elt target iter:Expr}{ifs:List Expr}{scope:Scope}{pos:Pos}{it acc:Value}{env:Env}(I:Nat->Shared->Prop)
  (turn:∀n s,I n s->wpAny (model prog w) A (pyNext it) (λr s₁=>match r with
   | none=>R (.ok .next) s₁
   | some v=>wpAny (model prog w) A (letOwnedTupleGo target it v) (λ_ s₀=>wpAny (model prog w) A (assign target env v) (λ_ s₂=>
     wpAny (model prog w) A (forIn ifs true λc r=>if r=true then do let ok <- isTrue c env (eval c env);pure (ForInStep.yield ok) else pure (ForInStep.yield r)) (λok s₃=>
      if ok=true then wpAny (model prog w) A (eval elt env) (λx s₄=>
       wpAny (model prog w) A (call (.builtin "list.append") [acc,x]) (λ_ s₅=>∃m,m < n/\I m s₅) (λ_ _=>False) s₄) (λ_ _=>False) s₃
      else ∃m,m < n/\I m s₃) (λ_ _=>False) s₂) (λ_ _=>False) s₀) (λ_ _=>False) s₁) (λ_ _=>False) s)
  (n:Nat) (h:I n s) :
  codeAny (model prog w) A (.compLoop (.ListComp elt [⟨target,iter,ifs,0⟩] scope pos) 0 it acc env) R s:=by
 refine codeAny_loop rfl I (λn s hI=>?_) n h;show wpAny _ A ((compTurn (.ListComp elt [⟨target,iter,ifs,0⟩] scope pos) 0 it acc env).onRaise (λx=>do noteFrame x env;theTreesLotGoes x)) _ _ s;refine wpAny_noted ?_;rw[compTurn_list];refine wpAny_bind (wpAny_standAt (wpAny_bind (wpAny_mono (turn n s hI) (λr s₁ h₁=>?_) λ_ _ h'=>h'.elim)));cases r with
 | none=>exact wpAny_pure h₁
 | some v=>
  refine wpAny_bind (wpAny_mono h₁ (λ_ s₀ h₀=>?_) λ_ _ h'=>h'.elim);refine wpAny_bind (wpAny_mono h₀ (λ_ s₂ h₂=>wpAny_bind (wpAny_mono h₂ (λok s₃ h₃=>?_) λ_ _ h'=>h'.elim)) λ_ _ h'=>h'.elim);cases ok with
  | false=>exact wpAny_pure ⟨rfl,h₃⟩
  | true=>
   exact wpAny_bind (wpAny_bind (wpAny_mono h₃ (λx s₄ h₄=>wpAny_bind (wpAny_mono h₄ (λ_ s₅ h₅=>wpAny_pure (wpAny_pure ⟨rfl,h₅⟩)) λ_ _ h'=>h'.elim)) λ_ _ h'=>h'.elim))
noncomputable def PK (X:Cx)(ifs:List Expr)(t:TT):Prop:=
 ∀(y7:List (Addr × Obj)) (s:Shared) (σ:St) (H:Hp) (Q:Bool->Hp->Prop),Inv X y7 σ H s->t σ H Q->
  wpAny (model X.prog X.w) X.A (forIn ifs true λc r=>if r=true then do let ok <- isTrue c X.env (eval c X.env);pure (ForInStep.yield ok) else pure (ForInStep.yield r)) (TP X y7 σ Q) X.xe s
noncomputable def fJ:TT:=λ_ H Q=>Q true H
theorem aaW {X:Cx}:PK X [] fJ:=λ_ _ _ H _ I h=>wpAny_tests_nil ⟨H,I,h⟩
theorem aaX {X:Cx}{c:Expr}{t:TT}(h:PT X c t):PK X [c] t:=λy7 s σ H Q I q=>wpAny_tests_one (h y7 s σ H Q I q)
noncomputable def aaf (wi:TI)(tt:TT)(te:TE):TE:=λσ H Q=>wi σ H λJ H1=>∀D,H1 D=none->∃W:Nat->Nat->List V->Hp->Prop,(∃m,W 0 m [] (upd H1 D (.lst [])))/\
 ∀i m ys H,W i m ys H->(J.stop i H/\Q (.ref D) H)\/(J.go i H/\∀x H',J.nF i H x H'->tt (some x::σ) H' λb H2=>
  if b=true then te (some x::σ) H2 λy H3=>H3 D=some (.lst ys)/\ys.length < sizeLine/\∃m',m' < m/\W (i+1) m' (ys++[y]) (upd H3 D (.lst (ys++[y])))
  else ∃m',m' < m/\W (i+1) m' ys H2)
theorem aaY {X:Cx}{elt iter:Expr}{x:Str}{px:Pos}{ifs:List Expr}{scope:Scope}{pos:Pos}{wi:TI}{tt:TT}{te:TE}(hc:X.calm=true)(ok:gQ X scope x)(hi:PI X (.Name x px) iter wi)
  (ht:∀cl C s₀ H₀ fp,PK (blk X scope cl C x s₀ H₀ fp) ifs tt) (he:∀cl C s₀ H₀ fp,PE (blk X scope cl C x s₀ H₀ fp) elt te)
  (hs:∀x,foldedSetIterable iter X.env x=pure x:=by intro _;rfl):PE X (.ListComp elt [⟨.Name x px,iter,ifs,0⟩] scope pos) (aaf wi tt te):=by
 intro y7 s σ H Q I h;obtain⟨cl,hcl,hsub,_,hall⟩:=nG (env:=X.env) scope.names (λy hy e=>I.ok.has y.1 (ok.free y hy e)) [] (λ_ _ z=>by simp at z);have hclos:closureFor scope X.env=pure cl:=by
  unfold closureFor;simp only[bind_pure];exact hcl
 rw[eval_ListComp];refine wpAny_comprehension_free (use:=none) (E:=X.xe) (cl:=cl) rfl hs hclos ok.kind ok.names (bG (hi y7 s σ H _ I h) λv s1 h1=>bG h1 λitv s2 h2=>?_);obtain⟨it,fp,tn,J,H2,e,I2,T,st2,f2,R⟩:=h2;subst e;obtain⟨W,⟨m0,w0⟩,turn⟩:=R s2.heap.objs.size I2.fresh;refine wpAny_newObj_type (wpAny_newFunctionEnv ok.pq (by intro y hy;simp at hy) (λh₁ hns₁ hsb₁=>?_) ok.kind);dsimp only at hns₁ hsb₁ ⊢;have I3:Inv X y7 σ (upd H2 s2.heap.objs.size (.lst [])) { s2 with heap:=s2.heap.push { cls:=.type "list",data:=.seq ([]:List Value).toArray } }:=I2.Ro (t':=s2.toks) (ys:=[]) (its:=[]) .nil (Nat.zero_le _);generalize U3:upd H2 s2.heap.objs.size (HO.lst [])=H3 at *
 generalize hs3:s2.heap.push { cls:=.type "list",data:=.seq ([]:List Value).toArray }=hp3 at *
 generalize hD:s2.heap.objs.size=D at *
 generalize hC:hp3.objs.size=C at *
 have hDC:D < C:=by rw[<- hC,<- hs3,Heap.size_push,hD];exact Nat.lt_succ_self _
 have old:∀b o,hp3.get? b=some o->h₁.get? b=some o:=λb o e=>(hsb₁.2 b (by rw[<- hC];exact Nat.ne_of_lt (Heap.lt_size e))).trans (Heap.get?_push_of_some _ e);have Im:∀b∈fp,b < C:=λb hb=>by
  obtain⟨o,e,_⟩:=T.obj _ _ st2 b hb;rw[<- hC,<- hs3,Heap.size_push];exact Nat.lt_succ_of_lt (Heap.lt_size e)
 have f3:∀b∈fp,mG X y7 H3 b:=λb hb=>by
  obtain⟨o,e,_⟩:=T.obj _ _ st2 b hb;refine⟨?_,(f2 b hb).2⟩;rw[<- U3,aP (by rw[<- hD];exact Nat.ne_of_lt (Heap.lt_size e))];exact(f2 b hb).1
 have yN:∀b∈fp,b∉frs X.stack:=λb hb z=>by
  obtain⟨_,g1,g2,_⟩:=f3 b hb;rcases List.mem_cons.mp (I3.vp b z) with q | q
  ·exact g1 q
  ·exact g2 q
 have U4:(blk X scope cl C x { s2 with heap:=hp3 } H3 fp).Ok:=by
  refine⟨I.ok.mod,?_,I.ok.glob,I.ok.blt,Nat.le_of_eq hC,?_,?_,?_,I.ok.hd,I.ok.frames,.inl rfl,?_,?_,?_,?_,?_,?_,?_⟩
  ·exact ok.kind
  ·exact λa b c h1 h2=>I.ok.inj a b c (hsub a c h1) (hsub b c h2)
  ·intro a ha
   refine hall a ?_;rcases ha with z | z
   ·rcases bZ (env:=X.env) z with q | ⟨_,q⟩
    ·exact absurd rfl (ok.pq _ (cA q))
    ·exact cA q
   ·rcases bZ (env:=X.env) z with q | ⟨q,_⟩
    ·exact cA q
    ·cases q
  ·intro a c hf;cases hf
  ·intro b hb
   refine⟨Nat.ne_of_lt (Im b hb),λa c h1=>(f3 b hb).2.2.2.2.1 a c (hsub a c h1)⟩
  ·exact I3.bs
  ·exact Nat.le_trans I.ok.qK I3.sz
  ·intro b o e hb
   rcases(f3 b hb).2.2.2.1 with z | z
   ·exact I.ok.uN b o e z
   ·exact absurd (Nat.lt_of_lt_of_le (Heap.lt_size e) (Nat.le_trans I.ok.qK z)) (Nat.lt_irrefl _)
  ·exact yN
  ·exact I3.stack
  ·exact I3.oG
 have Y0:Inv (blk X scope cl C x { s2 with heap:=hp3 } H3 fp) [] (none::σ) H3 { s2 with heap:=h₁,toks:=s2.toks+([]:List (Str × Value)).length }:=by
  refine⟨U4,rfl,I3.bare,Un.kept old,⟨_,hns₁,?_⟩,?_,?_,?_,λp hp=>by simp[blk]at hp,I3.hok.kept old,?_⟩
  ·intro i y v e1 e2 e3
   cases i with
   | zero=>simp at e2
   | succ i=>
    have e1':X.N[i]?=some y:=by simpa [blk] using e1
    have e2':σ[i]?=some (some v):=by simpa using e2
    have hy:y∈X.N:=List.mem_of_getElem? e1';have hfree:(y,NameKind.free)∈scope.names:=by
     have key:∀k,(relabel scope X.env).names.lookup y=some k->k≠.local->k=.cell\/k=.free->(y,NameKind.free)∈scope.names:=λk q n hk=>by
      rcases bZ (env:=X.env) q with z | ⟨_,z⟩
      ·rcases hk with rfl | rfl
       ·exact absurd rfl (ok.pq _ (cA z))
       ·exact cA z
      ·exact cA z
     rcases e3 with z | z | z
     ·rcases bZ (env:=X.env) z with q | ⟨q,_⟩
      ·exact absurd q (ok.out y hy)
      ·cases q
     ·exact key _ z (by decide) (.inl rfl)
     ·exact key _ z (by decide) (.inr rfl)
    have hk:=ok.free _ hfree rfl;obtain⟨m,hn,hl⟩:=I3.loc;obtain⟨u,r,q⟩:=hl i y v e1' e2' (by rcases hk with z | z;exact .inr (.inl z);exact .inr (.inr z));refine⟨u,r,.inr ⟨?_,?_⟩⟩
    ·rcases e3 with z | z | z
     ·rcases bZ (env:=X.env) z with q | ⟨q,_⟩
      ·exact absurd q (ok.out y hy)
      ·cases q
     ·exact .inl z
     ·exact .inr z
    ·rcases q with⟨z,_⟩ | ⟨_,c,hc',hcell⟩
     ·rcases hk with q | q <;> (rw[z]at q;cases q)
     ·obtain⟨c',hc2⟩:=hall y hfree
      have:c'=c:=by have:=hsub y c' hc2;rw[hc']at this;exact(Option.some.inj this).symm
      subst this;obtain⟨o,ho,hd⟩:=hcell;exact⟨c',hc2,o,old _ _ ho,hd⟩
  ·intro a c h1
   obtain⟨v,o,ho,hd⟩:=I3.cell a c (hsub a c h1);exact⟨v,o,old _ _ ho,hd⟩
  ·show H3 C=none
   exact I3.hok.fresh (Nat.le_of_eq hC)
  ·exact λa c h1=>I3.iM a c (hsub a c h1)
  ·show (none::σ).length=(x::X.N).length
   rw[List.length_cons,List.length_cons,I.len]
 have back:∀(s':Shared) (v:Option V) (H':Hp) (h':Heap),Inv (blk X scope cl C x { s2 with heap:=hp3 } H3 fp) [] (v::σ) H' s'->Heap.SameBut C s'.heap h'->(∀b∈fp,H' b=none)->Inv X y7 σ H' { s' with heap:=h' }:=by
  intro s' v H' h' I' sb fr;have qL:∀b o,hp3.get? b=some o->b≠C:=λb o e=>by rw[<- hC];exact Nat.ne_of_lt (Heap.lt_size e)
  have U:Un (frs X.stack) fp H3 H' hp3 s'.heap:=I'.base;refine I3.call' (ch:=fp) (H':=H') (s':={ s' with heap:=h' }) I'.os ⟨λb o e n h1 h2=>(sb.2 b (qL b o e)).trans (U.keep b o e n h1 h2),λb o e n h1 h2=>?_,U.free,λb o e h2=>?_,U.tups,U.jX,U.j8⟩ (λb ob e=>?_) I'.bare λb hb=>?_
  ·obtain⟨sl,q⟩:=U.slot b o e n h1 h2
   exact⟨sl,(sb.2 b (qL b o e)).trans q⟩
  ·obtain⟨o',q⟩:=U.there b o e h2
   exact⟨o',(sb.2 b (qL b o e)).trans q⟩
  ·have fC:H' C=none:=I'.free
   refine(I'.hok b ob e).stay (λc w' hc q=>(sb.2 c ?_).trans q) (λ_ q=>q) λ_ _ q=>q;rintro rfl;rcases hc with rfl | hc
   ·rw[fC]at e;cases e
   ·rw[fC]at hc;cases hc
  ·obtain⟨_,g1,_,g3,g4,g5⟩:=f3 b hb
   exact⟨g3,g1,g4,g5⟩
 have stat:∀{H':Hp},(∀b∈fp,H' b=none)->∀b∈fp,mG (blk X scope cl C x { s2 with heap:=hp3 } H3 fp) [] H' b:=λhn b hb=>
  ⟨hn b hb,Nat.ne_of_lt (Im b hb),yN b hb,.inl hb,λa c h1=>(f3 b hb).2.2.2.2.1 a c (hsub a c h1),λp hp=>by simp[blk]at hp⟩
 have st₁:tn 0 h₁:=T.keep _ _ _ st2 λb _ o e=>old b o (by rw[<- hs3];exact Heap.get?_push_of_some _ e);have loop:codeAny (model X.prog X.w) X.A (.compLoop (.ListComp elt [⟨.Name x px,iter,ifs,0⟩] scope pos) 0 (.ref it) (.ref D) (compEnvC scope cl C X.env)) (compPost (model X.prog X.w) X.A X.xe none (EP X y7 σ Q) (.ref D) C)
   { s2 with heap:=h₁,toks:=s2.toks+([]:List (Str × Value)).length }:=by
  refine wj (λn s'=>∃i v ys H',Inv (blk X scope cl C x { s2 with heap:=hp3 } H3 fp) [] (v::σ) H' s'/\tn i s'.heap/\(∀b∈fp,H' b=none)/\W i n ys H') ?_ m0 ⟨0,none,[],H3,Y0,st₁,λb hb=>(f3 b hb).1,w0⟩;rintro n s4 ⟨i,v,ys,H4,I4,Io,yO,w4⟩;rcases turn i n ys H4 w4 with⟨stop,qn⟩ | ⟨go,step⟩
  ·refine bG (T.done (blk X scope cl C x { s2 with heap:=hp3 } H3 fp) rfl rfl rfl hc i [] s4 (v::σ) H4 _ I4 (stat yO) Io stop) λr s5 ⟨hr,I5⟩=>?_
   subst hr;obtain⟨m,hn,_⟩:=id I5.loc;exact⟨m,hn,λh' sb=>⟨.ref D,H4,back s5 v H4 h' I5 sb yO,rfl,qn⟩⟩
  ·refine bG (T.item (blk X scope cl C x { s2 with heap:=hp3 } H3 fp) rfl rfl rfl hc i [] s4 (v::σ) H4 _ I4 (stat yO) Io go) λr s5 zz=>?_;obtain⟨u,hr,h5⟩:=zz
   subst hr;refine bG h5 λ_ s6 zz=>?_;obtain⟨y,H6,I6,r6,y6,yP,U5⟩:=zz;have U6:=I6.pinned (stat U5) (T.obj _ _ yP);refine wpAny_assign_Name (vY (X:=blk X scope cl C x { s2 with heap:=hp3 } H3 fp) (i:=0) U6 ?_ rfl (.inl (lookup_relabel_local ok.hx)) r6 (λs7 I7=>?_) (.inr (lookup_relabel_local ok.hx)))
   ·show (x::X.N).Nodup
    exact List.nodup_cons.mpr ⟨λz=>ok.out x z ok.hx,ok.nd⟩
   have U7:Inv (blk X scope cl C x { s2 with heap:=hp3 } H3 fp) _ (some y::σ) H6 s7:=I7;refine bG (ht cl C { s2 with heap:=hp3 } H3 fp _ s7 _ H6 _ U7 (step y H6 y6)) λb s8 zz=>?_;obtain⟨H8,I8,q8⟩:=zz;have pW:∀{σ':St} {H':Hp} {s':Shared},Inv (blk X scope cl C x { s2 with heap:=hp3 } H3 fp) ([]++rW fp s6.heap) σ' H' s'->tn (i+1) s'.heap/\∀b∈fp,H' b=none:=λ{σ' H' s'} I9=>by
    refine⟨T.keep _ _ _ yP λb hb o e=>(I9.pin (b,o) (List.mem_append_right _ (List.mem_append_right _ (iT hb e)))).1,λb hb=>?_⟩;obtain⟨o,e,d⟩:=T.obj _ _ yP b hb;exact(I9.pin (b,o) (List.mem_append_right _ (List.mem_append_right _ (iT hb e)))).2.1
   cases b with
   | false=>
    obtain⟨m',hm,w'⟩:=q8;obtain⟨k1,k2⟩:=pW I8;exact⟨m',hm,i+1,some y,ys,H8,I8.jF,k1,k2,w'⟩
   | true=>
    have U8:te (some y::σ) H8 _:=q8;show wpAny _ _ (eval elt _) _ _ _;refine bG (he cl C { s2 with heap:=hp3 } H3 fp _ s8 _ H8 _ I8 U8) λz s9 zz=>?_;obtain⟨zv,H9,I9,r9,U9,U_,m',hm,w'⟩:=zz;refine bG (g_ (X:=blk X scope cl C x { s2 with heap:=hp3 } H3 fp) _ s9 _ H9 (.ref D) [zv] (.ref D) [z] (λ_ H'=>H'=upd H9 D (.lst (ys++[zv]))) I9 rfl (.cons r9 .nil) ⟨D,ys,zv,rfl,rfl,U9,U_,rfl⟩) λ_ PL zz=>?_;obtain⟨_,H10,Ip,_,e10⟩:=zz;subst e10;obtain⟨k1,k2⟩:=pW Ip;exact⟨m',hm,i+1,some y,ys++[zv],_,Ip.jF,k1,k2,w'⟩
 exact codeAny_compStart_list loop (T.self X.A 0 _ _ _ st₁ loop)
noncomputable def cX (n i:Nat)(P:Prop):Prop:=∃m',m' < n-i/\m'=n-(i+1)/\i+1<=n/\P
theorem cX.mk {n i:Nat}{P:Prop}(h:i < n)(p:P):cX n i P:=⟨_,by omega,rfl,h,p⟩
theorem Ir {K:W.Frag}{a D:Addr}{xs:List V}{te:TE}{σ:St}{H:Hp}{R:Hp->Prop}(Pv:Nat->List V->Hp->Prop)(h0:Pv 0 [] (upd H D (.lst [])))(hl:∀i ys H,i<=xs.length->Pv i ys H->aN K H a xs)
  (hs:∀i x ys H,xs[i]?=some x->Pv i ys H->te (some x::σ) H λy H3=>H3 D=some (.lst ys)/\ys.length < sizeLine/\cX xs.length i (Pv (i+1) (ys++[y]) (upd H3 D (.lst (ys++[y])))))
  (hd:∀ys H,Pv xs.length ys H->R H) :
  ∃W:Nat->Nat->List V->Hp->Prop,(∃m,W 0 m [] (upd H D (.lst [])))/\
   ∀i m ys H,W i m ys H->((tV K a).stop i H/\R H)\/((tV K a).go i H/\∀x H',(tV K a).nF i H x H'->fJ (some x::σ) H' λb H2=>
    if b=true then te (some x::σ) H2 λy H3=>H3 D=some (.lst ys)/\ys.length < sizeLine/\∃m',m' < m/\W (i+1) m' (ys++[y]) (upd H3 D (.lst (ys++[y])))
    else ∃m',m' < m/\W (i+1) m' ys H2):=by
 refine⟨λi m ys H=>m=xs.length-i/\i<=xs.length/\Pv i ys H,⟨xs.length,by simp,Nat.zero_le _,h0⟩,?_⟩;rintro i m ys H ⟨rfl,hi,p⟩;have q:=hl i ys H hi p;by_cases hlt:i < xs.length
 ·refine .inr ⟨⟨xs,xs[i],q,by simp[hlt]⟩,λx H' y=>?_⟩
  obtain⟨e,y⟩:=y;subst e;exact hs i x ys H' (y xs q) p
 ·have e:i=xs.length:=by omega
  subst e;exact .inl ⟨⟨xs,q,Nat.le_refl _⟩,hd ys H p⟩
theorem Rq {lo:Int}{n:Nat}{D:Addr}{te:TE}{σ:St}{H:Hp}{R:Hp->Prop}(Pv:Nat->List V->Hp->Prop)(h0:Pv 0 [] (upd H D (.lst [])))
  (hs:∀i ys H,i < n->Pv i ys H->te (some (.int (lo+i))::σ) H λy H3=>H3 D=some (.lst ys)/\ys.length < sizeLine/\cX n i (Pv (i+1) (ys++[y]) (upd H3 D (.lst (ys++[y])))))
  (hd:∀ys H,Pv n ys H->R H) :
  ∃W:Nat->Nat->List V->Hp->Prop,(∃m,W 0 m [] (upd H D (.lst [])))/\
   ∀i m ys H,W i m ys H->((Bx lo n).stop i H/\R H)\/((Bx lo n).go i H/\∀x H',(Bx lo n).nF i H x H'->fJ (some x::σ) H' λb H2=>
    if b=true then te (some x::σ) H2 λy H3=>H3 D=some (.lst ys)/\ys.length < sizeLine/\∃m',m' < m/\W (i+1) m' (ys++[y]) (upd H3 D (.lst (ys++[y])))
    else ∃m',m' < m/\W (i+1) m' ys H2):=by
 refine⟨λi m ys H=>m=n-i/\i<=n/\Pv i ys H,⟨n,by simp,Nat.zero_le _,h0⟩,?_⟩;rintro i m ys H ⟨rfl,hi,p⟩;by_cases hlt:i < n
 ·refine .inr ⟨hlt,λx H' y=>?_⟩
  obtain⟨e,y⟩:=y;subst e y;exact hs i ys H' hlt p
 ·have e:i=n:=by omega
  subst e;exact .inl ⟨Nat.le_refl _,hd ys H p⟩
end L2
end
section
namespace L2
open PySem PySem.Spec PyProof.Rows
noncomputable def S (l:List Nat):Str:=⟨l.toArray⟩
theorem aeP (l:List Nat):(S l).cps.toList=l:=rfl
theorem pA (l:List Nat):(S l).length=l.length:=rfl
theorem J9 {a b:List Nat}(h:S a=S b):a=b:=congrArg (λs:Str=>s.cps.toList) h
theorem afm (z:Str):S z.cps.toList=z:=by cases z;rfl
theorem aeQ (a b:List Nat):S a++S b=S (a++b):=by
 show (⟨a.toArray++b.toArray⟩:Str)=⟨(a++b).toArray⟩
 simp
theorem aag (a b:List Nat):decide (V.str (S a)=V.str (S b))=decide (a=b):=by
 by_cases e:a=b
 ·subst e;simp
 ·rw[decide_eq_false e,decide_eq_false]
  intro z;injection z with z;exact e (J9 z)
section
variable {X:Cx}{a b c e o:Expr}{pos:Pos}
theorem aaZ (l:List Nat){x:Str}{j pos}(h:x=S l):PE X (.Constant (.str x) j pos) (tC (.str (S l))):=by rw[h];exact acp
noncomputable def aeR:R2:=λx y H Q=>∃i j,x=.str (S i)/\y=.str (S j)/\i.length+j.length<=sizeLine/\Q (.str (S (i++j))) H
theorem m8:dZ X (binaryOp .Add) aeR:=by
 intro y7 s σ H x y v u Q I rx ry h;obtain⟨i,j,rfl,rfl,hz,q⟩:=h;exact Rg y7 s σ H _ _ v u Q I rx ry ⟨S i,S j,rfl,rfl,hz,by rw[aeQ];exact q⟩
noncomputable def aeS:R2:=λx y H Q=>∃l i c,x=.str (S l)/\y=.int i/\l.length<=sizeLine/\m6 l i=some c/\Q (.str (S [c])) H
theorem sE:Ks X aeS:=by
 intro value slice y7 s σ H x y v u Q I rx ry h hs;obtain⟨l,i,c,rfl,rfl,hz,hc,q⟩:=h;exact ac6 value slice y7 s σ H _ _ v u Q I rx ry ⟨S l,i,c,rfl,rfl,hz,hc,q⟩ hs
noncomputable def Rr:List V->Hp->VK->Prop:=λxs H Q=>∃l,xs=[.str (S l)]/\l.length<=sizeLine/\Q (.int l.length) H
theorem bY:fM X (.builtin "len") Rr:=by
 intro y7 s σ H xs us Q I r h;obtain⟨l,rfl,hz,q⟩:=h;exact Ky y7 s σ H _ us Q I r ⟨S l,rfl,hz,q⟩
noncomputable def afn:R2:=λx y H Q=>∃i j,x=.str (S i)/\y=.str (S j)/\Q (.bl (decide (i=j))) H
theorem sI:dZ X (compareOp .Eq) afn:=by
 intro y7 s σ H x y v u Q I rx ry h;obtain⟨i,j,rfl,rfl,q⟩:=h;exact gq y7 s σ H _ _ v u Q I rx ry ⟨rfl,by rw[aag];exact q⟩
noncomputable def ade:R2:=λx y H Q=>∃i j,x=.str (S i)/\y=.str (S j)/\Q (.bl (!decide (i=j))) H
theorem nH:dZ X (compareOp .NotEq) ade:=by
 intro y7 s σ H x y v u Q I rx ry h;obtain⟨i,j,rfl,rfl,q⟩:=h;exact lZ y7 s σ H _ _ v u Q I rx ry ⟨rfl,by rw[aag];exact q⟩
noncomputable def afo:R2:=λx y H Q=>∃c l,x=.str (S [c])/\y=.str (S l)/\Q (.bl (decide (c∈l))) H
theorem adf:dZ X (compareOp .In) afo:=by
 intro y7 s σ H x y v u Q I rx ry h;obtain⟨c,l,rfl,rfl,q⟩:=h;exact Uq y7 s σ H _ _ v u Q I rx ry ⟨S [c],S l,rfl,rfl,by
  have e:=StrLaws.found_one (S l) c;rw[aeP]at e;rw[show (S [c])=(⟨#[c]⟩:Str) from rfl,e];exact q⟩
noncomputable def qF (l:List Nat)(lo hi:Option Int):List Nat:=(l.drop (HT.fY l.length 0 lo)).take (HT.fY l.length l.length hi-HT.fY l.length 0 lo)
theorem PN (lo hi:Option Int)(n:Nat):Builtin.Str.strSliceIndices lo hi 1 n=(List.range (HT.fY n n hi-HT.fY n 0 lo)).map (λk=>HT.fY n 0 lo+k):=by
 have clip:∀(v:Int) (d:Nat),max (0:Int) (min (if v < 0 then v+(n:Int) else v) (n:Int))=((HT.fY n d (some v):Nat):Int):=λv d=>by
  rw[<- HT.aaN];split <;> omega
 have key:∀a b:Nat,sliceRange (a:Int) (b:Int) 1=(List.range (b-a)).map (λk=>a+k):=λa b=>by
  simp only[sliceRange,show ((1:Int) > 0)=True from by simp,if_true];by_cases hlt:(a:Int) < b
  ·have e3:(((b:Int)-a+1-1)/1).toNat=b-a:=by first | omega | (simp;done) | (simp;omega)
   simp only[hlt,if_true,e3];refine List.map_congr_left λk _=>?_;omega
  ·have:b-a=0:=by omega
   simp[hlt,this]
 unfold Builtin.Str.strSliceIndices;simp only[show ((1:Int) > 0)=True from by simp,if_true];cases lo with
 | none=>
  cases hi with
  | none=>exact key 0 n
  | some j=>dsimp only;rw[clip j n];exact key 0 _
 | some i=>
  cases hi with
  | none=>dsimp only;rw[clip i 0];exact key _ n
  | some j=>dsimp only;rw[clip i 0,clip j n];exact key _ _
theorem Va (l:List Nat)(lo hi:Option Int):Txt.slice (S l) lo hi=S (qF l lo hi):=by
 have hle:HT.fY l.length l.length hi<=l.length:=HT.ac4 _ _ (Nat.le_refl _) _;have key:((Builtin.Str.strSliceIndices lo hi 1 (S l).length).filterMap ((S l).cps[·]?))=qF l lo hi:=by
  rw[PN];have h:=StrLaws.picks l (HT.fY l.length l.length hi-HT.fY l.length 0 lo) (HT.fY l.length 0 lo);unfold qF;by_cases hc:HT.fY l.length 0 lo<=HT.fY l.length l.length hi
  ·have h2:=h (by omega)
   rw[pA];simpa [S] using h2
  ·have e:HT.fY l.length l.length hi-HT.fY l.length 0 lo=0:=by omega
   rw[pA,e];simp
 unfold Txt.slice
 split
 ·rename_i hc
  have hlen:(Builtin.Str.strSliceIndices lo hi 1 (S l).length).length=l.length:=by
   simp at hc;simpa [pA] using hc
  have hl2:HT.fY l.length l.length hi-HT.fY l.length 0 lo=l.length:=by rw[PN,pA]at hlen;simpa using hlen
  have h0:HT.fY l.length 0 lo=0\/l.length=0:=by omega
  have e:qF l lo hi=l:=by
   unfold qF;rw[hl2];rcases h0 with z | z
   ·rw[z];simp
   ·have:l=[]:=List.length_eq_zero_iff.mp z
    subst this;simp
  rw[e]
 ·rw[key];rfl
noncomputable def afp:V->Option Int->Option Int->Hp->VK->Prop:=λx lo hi H Q=>∃l,x=.str (S l)/\l.length<=sizeLine/\Q (.str (S (qF l lo hi))) H
theorem part_of {v:Value}{o:Option Int}(p:IsPart v o):∃l:Option (Int × Tok),v=partValue l/\l.map (·.1)=o:=by
 cases p with
 | none=>exact⟨none,rfl,rfl⟩
 | int i t=>exact⟨some (i,t),rfl,rfl⟩
theorem Rt:SlR X afp:=by
 intro y7 s σ H x v vl vu lo hi sl Q I rx hs pl pu h;obtain⟨l,rfl,hz,q⟩:=h;obtain⟨t,rfl⟩:=rx;obtain⟨p1,rfl,rfl⟩:=part_of pl;obtain⟨p2,rfl,rfl⟩:=part_of pu;refine⟨"str",_,F.slot_str_getitem.lookup,typeIs_str _ _ _,?_⟩;refine wpAny_getItem_str_slice (l:=p1) (u:=p2) (st:=none) hs rfl ?_;have e:=Va l (p1.map (·.1)) (p2.map (·.1));have hle:(Txt.slice (S l) (p1.map (·.1)) (p2.map (·.1))).length<=sizeLine:=Nat.le_trans (Txt.slice_le _ _ _) hz;refine post_val_or_str ⟨hle,λt' k=>?_⟩;have e':(if ((Option.map (λx:Int × Tok=>x.1) none).getD 1==1&&(slicePicked (S l) p1 p2 none).length==(S l).length)=true then S l else ⟨((slicePicked (S l) p1 p2 none).filterMap ((S l).cps[·]?)).toArray⟩)=S (qF l (p1.map (·.1)) (p2.map (·.1))):=e;exact⟨.str (S (qF l (p1.map (·.1)) (p2.map (·.1)))),H,I.tok _,⟨t',congrArg (λz=>Value.str z t') e'⟩,q⟩
abbrev Ts (ls:List (List Nat)):List V:=ls.map λl=>V.str (S l)
noncomputable def aah (K:W.Frag):List V->Hp->VK->Prop:=λxs H Q=>∃x n t b,xs=[x,.ty n]/\jt K H x t/\W.kitOne K t (.type n)=some b/\Q (.bl b) H
theorem d7:fM X (.builtin "isinstance") (aah X.K):=by
 intro y7 s σ H xs us Q I r h;obtain⟨x,n,t,b,rfl,ty,k,q⟩:=h;obtain⟨u,w',rfl,r1,r2⟩:=vals2 r;cases r2;exact Ur I r1 ty k λtk=>⟨.bl b,H,I.tok tk,rfl,q⟩
noncomputable def aai:R2:=λx y H Q=>∃l n,x=.str (S l)/\y=.int (n:Nat)/\1<=n/\n < 1000/\l.length < 1000/\Q (.str (S (List.replicate n l).flatten)) H
theorem KD (l:List Nat):∀(n:Nat) (acc:Array Nat),((List.replicate n l.toArray).foldl (· ++ ·) acc).toList=acc.toList++(List.replicate n l).flatten
 | 0,acc=>by simp
 | n+1,acc=>by
  rw[List.replicate_succ,List.foldl_cons,KD l n,List.replicate_succ];simp
theorem PX:dZ X (binaryOp .Mult) aai:=by
 intro y7 s σ H x y v u Q I rx ry h;obtain⟨l,n,rfl,rfl,h1,h2,h3,q⟩:=h;obtain⟨t,rfl⟩:=rx;obtain⟨t',rfl⟩:=ry;have hsmall:l.length*n<=1000*1000:=Nat.mul_le_mul (Nat.le_of_lt h3) (Nat.le_of_lt h2);have hbig:(1000*1000:Nat)<=sizeLine:=by decide
 refine PySem.P.mul_str ?_ ?_ ?_ ?_
 ·rw[decide_eq_false (by omega),decide_eq_false (by omega)];rfl
 ·intro _ _
  have e:(2^63-1:Int)/(n:Int)>=1000:=by
   refine Int.le_ediv_of_mul_le (by omega) ?_;have:(1000:Int)*(n:Int)<=1000*1000:=by omega
   omega
  rw[pA];omega
 ·intro _ _
  show decide (_ > _)=false;rw[decide_eq_false];rw[pA,Int.toNat_natCast];omega
 ·rw[if_neg (by omega)]
  have hres:(⟨(List.replicate (n:Int).toNat (S l).cps).foldl (· ++ ·) #[]⟩:Str)=S (List.replicate n l).flatten:=by
   have e:=KD l n #[];rw[Int.toNat_natCast];unfold S;congr 1;apply Array.toList_inj.mp;simpa using e
  rw[hres]
  split
  ·rename_i hc
   have e:(List.replicate n l).flatten=l:=by
    simp at hc;rcases hc with z | z
    ·have:n=1:=by omega
     subst this;simp
    ·have:l=[]:=by simpa [S,Str.length] using z
     subst this;simp
   rw[e]at q;exact⟨.str (S l),H,I,⟨t,rfl⟩,q⟩
  ·refine⟨?_,.str (S (List.replicate n l).flatten),H,I.tok _,⟨_,rfl⟩,q⟩
   rw[pA,len_rep,Nat.mul_comm];omega
theorem P0 (ls:List (List Nat)):Txt.join (S []) (ls.map S)=S ls.flatten:=by
 unfold Txt.join Builtin.Str.glued;have key:∀(ls:List (List Nat)) (acc:Array Nat),((ls.map S).foldl (λacc p=>acc++(S []).cps++p.cps) acc).toList=acc.toList++ls.flatten:=by
  intro ls
  induction ls with
  | nil=>intro acc;simp
  | cons l r ih=>intro acc;rw[List.map_cons,List.foldl_cons,ih];simp[S]
 unfold S;congr 1;apply Array.toList_inj.mp;cases ls with
 | nil=>rfl
 | cons l r=>
  have:=key r (S l).cps;have e:(List.map S (l::r)).drop 1=List.map S r:=rfl;show (((List.map S (l::r)).drop 1).foldl _ (S l).cps).toList=_;rw[e];exact this.trans (by simp[S])
noncomputable def rJoin (K:W.Frag):V->List V->Hp->VK->Prop:=λx vs H Q=>∃p ls,x=.str (S [])/\vs=[.ref p]/\aN K H p (Ts ls)/\ls.flatten.length<=1000/\Q (.str (S ls.flatten)) H
theorem Bb:∀{ls:List (List Nat)} {us:List Value},Vals (Ts ls) us->StrsAre us (ls.map S)
 | [],_,.nil=>.nil
 | l::r,_,.cons q t=>by
  obtain⟨t',rfl⟩:=q;exact .cons (S l) t' (Bb t)
theorem P_ (ls:List (List Nat)):((ls.map S).map (·.length)).sum=ls.flatten.length:=by
 induction ls with
 | nil=>rfl
 | cons l r ih=>rw[List.map_cons,List.map_cons,List.sum_cons,ih,List.flatten_cons,List.length_append,pA]
theorem rM:vC X "str.join" (rJoin X.K):=by
 intro y7 s σ H x vs v us Q I rx rv h;obtain⟨p,ls,rfl,rfl,hq,hz,q⟩:=h;obtain⟨t,rfl⟩:=rx;obtain⟨u,rfl,ru⟩:=vals1 rv;cases ru;obtain⟨its,r,pl,_⟩:=I.list hq;refine join_list pl.isList (ys:=ls.map S) (by simpa using Bb r) ?_ λt' k=>?_
 ·rw[P_];show _+_*0<=_;omega
 ·exact⟨.str (S ls.flatten),H,I.tok k,⟨t',congrArg (λz=>Value.str z t') (P0 ls)⟩,q⟩
end
end L2
end
section
namespace L2
open PySem PySem.Spec PyProof.Rows
structure aJ (K:W.Frag)(mg:Str->Option Value)(name:Str)(st:Stmt)(ps:List Str):Prop where
 ex:∃f fd,gk K name name st f fd/\Binds K fd ps []/\mg name=some (.ref f)
structure Def (P:Program)(w:World)(K:W.Frag)(mg:Str->Option Value)(base:Heap)(name:Str)(k:Nat)(ps:List Str)(sp:Sp):Prop where
 ex:∃f fd,cD P w K mg base fK k f fd ps sp/\Binds K fd ps []/\mg name=some (.ref f)/\W.keepIn K (.ref f)=true
@[elab_as_elim] theorem e1 {P:List Value->Prop}(h:∀a,P [a])(us:List Value)(hl:us.length=1):P us:=match us,hl with
 | [a],_=>h _
@[elab_as_elim] theorem e2 {P:List Value->Prop}(h:∀a b,P [a,b])(us:List Value)(hl:us.length=2):P us:=match us,hl with
 | [a,b],_=>h _ _
@[elab_as_elim] theorem e3 {P:List Value->Prop}(h:∀a b c,P [a,b,c])(us:List Value)(hl:us.length=3):P us:=match us,hl with
 | [a,b,c],_=>h _ _ _
@[elab_as_elim] theorem e4 {P:List Value->Prop}(h:∀a b c d,P [a,b,c,d])(us:List Value)(hl:us.length=4):P us:=match us,hl with
 | [a,b,c,d],_=>h _ _ _ _
@[elab_as_elim] theorem e5 {P:List Value->Prop}(h:∀a b c d e,P [a,b,c,d,e])(us:List Value)(hl:us.length=5):P us:=match us,hl with
 | [a,b,c,d,e],_=>h _ _ _ _ _
@[elab_as_elim] theorem e6 {P:List Value->Prop}(h:∀a b c d e f,P [a,b,c,d,e,f])(us:List Value)(hl:us.length=6):P us:=match us,hl with
 | [a,b,c,d,e,f],_=>h _ _ _ _ _ _
@[elab_as_elim] theorem e7 {P:List Value->Prop}(h:∀a b c d e f g,P [a,b,c,d,e,f,g])(us:List Value)(hl:us.length=7):P us:=match us,hl with
 | [a,b,c,d,e,f,g],_=>h _ _ _ _ _ _ _
theorem Def.imp {P:Program}{w:World}{K:W.Frag}{mg:Str->Option Value}{base:Heap}{name:Str}{k:Nat}{ps:List Str}{sp sp':Sp}(D:Def P w K mg base name k ps sp)(h:∀vs H Q E,sp' vs H Q E->sp vs H Q E):Def P w K mg base name k ps sp':=by
 obtain⟨f,fd,a,b⟩:=D.ex;exact⟨f,fd,⟨λvs H Q E e=>a.len _ _ _ _ (h _ _ _ _ e),λA o s H x u v Q E r e b r' z=>a.run A o s H x u v Q E r e b r' (h _ _ _ _ z)⟩,b⟩
theorem aJ.ok {P:Program}{w:World}{K:W.Frag}{mg:Str->Option Value}{base:Heap}{name:Str}{st:Stmt}{N ps:List Str}{k:Nat}{sp:Sp}(D:aJ K mg name st ps)(S:aW N ps (aF st))(len:∀vs H Q E,sp vs H Q E->vs.length=ps.length)
  (hbody:∀(f:Addr) (cdv:Value) (A:Around) (outer:List Env) (s:Shared) (H:Hp) (vs:List V) (Q:VK) (E:XK),dw k (A.deeper (envOfC name (aF st) s.heap.objs.size f cdv))->sp vs H Q E->
   ∃t,qM (oJ fK P w K mg base N name (aF st) f cdv A outer s H E).Kh (cT st) t/\t { nx:=λ_ H'=>Q .non H',rt:=Q } (start N vs) H):Def P w K mg base name (k+1) ps sp:=by
 obtain⟨f,fd,F,b,g⟩:=D.ex;exact⟨f,fd,F.ok S len (hbody f),b,g,F.kp⟩
section
variable {X:Cx}{x:Str}{p pos:Pos}{e:Expr}{es:List Expr}{t:TA}
theorem adg {k:Nat}{ps:List Str}{sp:Sp}(D:Def X.prog X.w X.K X.mg X.base x k ps sp)(hr:dw k X.A)(hg:Gl X x)(ha:PA X (e::es) t)(hdb:(x==("__debug__":Str))=false:=by decide)
  (hs:starEach (e::es) X.env=(false,eval e X.env)::starEach es X.env:=by rfl) (hpl:(backTo pos (starEach es X.env)).any (·.1)=false:=by rfl) :
  PE X (.Call (.Name x p) (e::es) [] pos) (J4 sp [] E0 t):=by
 obtain⟨f,fd,G,b,g,kp⟩:=D.ex;exact aaK G hr hg g kp b .nil mj ha hdb hs hpl
end
theorem Same.upd {H:Hp}{p:Addr}{o:HO}(h:H p=none):Same H (upd H p o):=λb o' e=>by rw[aP (bV e h)];exact e
theorem Same.bJ {H H':Hp}{p:Addr}{o:HO}(s:Same H H')(h:H p=none):Same H (L2.upd H' p o):=λb o' e=>by rw[aP (bV e h)];exact s b o' e
theorem bC {K:W.Frag}{h:Heap}{mg:Str->Option Value}{name:Str}{st:Stmt}{ps:List Str}{f:Addr}{oc:Value}{od an:Option Addr}{osl:Array (Option Value)}{kV doc pm cdv ct:Value}(X:K.In h)(G:h.Ns mainGlobals mg)
  (a:W.nsIn K mainGlobals name=some (some (.ref f))) (l:K.lookup f=some ⟨oc,od,.func (W.fnOf name name (d8 st) (cT st) (aF st) .none kV doc pm an cdv ct),osl⟩)
  (c:W.codeIn K cdv name=true) (k:W.keepIn K (.ref f)=true)
  (hb:∀(kV doc pm:Value) (an:Option Addr) (cdv ct:Value) (us:List Value),us.length=ps.length->bindArgs (W.fnOf name name (d8 st) (cT st) (aF st) .none kV doc pm an cdv ct) ⟨us,[]⟩=pure (ps.zip us)):aJ K mg name st ps:=
 ⟨f,_,iU l c k,(iU l c k).binds hb,W.mg_of X G a⟩
theorem adh {K:W.Frag}{h:Heap}{mg:Str->Option Value}{st:Stmt}{x:Str}{f fa:Addr}{oc:Value}{od an:Option Addr}{osl:Array (Option Value)}{kV doc pm cdv ct:Value}(X:K.In h)(G:h.Ns mainGlobals mg)(hfa:mg "law"=some (.ref fa))
  (a:W.nsIn K mainGlobals "law"=some (some (.ref f))) (l:K.lookup f=some ⟨oc,od,.func (W.fnOf "law" "law" (d8 st) (cT st) (aF st) .none kV doc pm an cdv ct),osl⟩)
  (c:W.codeIn K cdv "law"=true) (k:W.keepIn K (.ref f)=true)
  (hb:∀(kV doc pm:Value) (an:Option Addr) (cdv ct v:Value),bindArgs (W.fnOf "law" "law" (d8 st) (cT st) (aF st) .none kV doc pm an cdv ct) ⟨[v],[]⟩=pure [(x,v)]) :
  ∃fd:FuncData,gk K "law" "law" st fa fd/\∀(s:Shared) (v:Value),BindsTo s fd ⟨[v],[]⟩ [(x,v)]:=by
 have e:=hfa.symm.trans (W.mg_of X G a);cases e;exact⟨_,iU l c k,λs v=>.of_eq (hb kV doc pm an cdv ct v)⟩
noncomputable def J_ (K:W.Frag):Sp:=λvs H Q _=>∃(a:Addr) (ns:List Int),vs=[.ref a]/\aN K H a (ns.map V.int)/\ns.length<=63/\∀H',Q (.bl true) H'
theorem aa0 {x:Str}{l:W.OpenLaw}{q:Program}{loose:List Str}{XP:(Str->Option Value)->Heap->Prop}{YP:World->Heap->Prop}{d:DefRec}{K:Params->W.Frag}(hn:l.most=some 63)(hdf:d.params.defaults=[])
  (hY:∀(w:World) (h:Heap),YP w h->(K w.params).In h)
  (F:∀(w:World) (mg:Str->Option Value) (fa:Addr) (h:Heap),(K w.params).In h->h.Ns mainGlobals mg->mg d.name=some (.ref fa)->
   ∃fd:FuncData,(∀(s:Shared) (u:Value),BindsTo s fd ⟨[u],[]⟩ [(x,u)])/\∀base:Heap,(K w.params).In base->base.Ns mainGlobals mg->cD l.prog w (K w.params) mg base fK 20 fa fd [x] (J_ (K w.params))) :
  W.WalkO q loose XP YP l.row.toRowW d [] (λf vs=>PySem.call f vs):=
 L2.aaV (n:=63) (k:=20) (x:=x) (CX:=λ_=>fK) (sp:=λw=>J_ (K w.params)) hn (by decide) hdf ⟨rfl,by decide,by decide⟩ hY F (λ_ _ a ns hl _ hS=>⟨a,ns,rfl,hS,hl,λ_=>rfl⟩) λ_ _ _ _ _ z=>z
end L2
end
section
namespace L2
open PySem PySem.Spec PyProof.Rows
namespace RV
end RV
end L2
end
section
namespace L2
open PySem PySem.Spec PyProof.Rows
end L2
end
section
namespace L2
open PySem PySem.Spec PyProof.Rows
structure QE (X:Cx)(e:Expr)(t:TE):Prop where
 out:PE X e t
structure QT (X:Cx)(e:Expr)(t:TT):Prop where
 out:PT X e t
structure QW (X:Cx)(e:Expr)(t:TT):Prop where
 out:PW X e t
structure QA (X:Cx)(es:List Expr)(t:TA):Prop where
 out:PA X es t
structure QS (X:Cx)(st:Stmt)(t:TS):Prop where
 out:PS X st t
structure pX (X:Cx)(st:List Stmt)(t:TS):Prop where
 out:qM X st t
structure QG (X:Cx)(e:Expr)(t:TG):Prop where
 out:PG X e t
structure Vb (X:Cx)(es:List Expr)(t:yC):Prop where
 out:Ug X es t
structure QI (X:Cx)(tg iter:Expr)(wi:TI):Prop where
 out:PI X tg iter wi
structure QO (X:Cx)(e:Option Expr)(t:TO):Prop where
 out:PO X e t
structure QC (X:Cx)(op:CmpOp)(a b:Expr)(t:TE):Prop where
 out:PC X op a b t
structure Vc (X:Cx)(ifs:List Expr)(t:TT):Prop where
 out:PK X ifs t
theorem QW.qt {X:Cx}{e:Expr}{t:TT}(h:QW X e t):QT X e t:=⟨h.out.pt⟩
section
variable {X:Cx}
theorem bB  : pX X [] Z0:=
 ⟨aaC⟩
end
section
variable {X:Cx}{st:Stmt}{rest:List Stmt}{t u:TS}
theorem au (h1:QS X st t)(h2:pX X rest u):pX X (st::rest) (acD t u):=
 ⟨Xr h1.out h2.out⟩
end
section
variable {X:Cx}{st:Stmt}{t:TS}
theorem aA (h1:QS X st t):pX X [st] t:=
 ⟨aaD h1.out⟩
end
section
variable {X:Cx}{t u:TS}{pos:Pos}
theorem bO {c:Expr}{a b:List Stmt}{tc:TT}(hc:QT X c tc)(ha:pX X a t)(hb:pX X b u):QS X (.If c a b pos) (acF tc t u):=
 ⟨aeG hc.out ha.out hb.out⟩
end
section
variable {X:Cx}{e:Expr}{te:TE}{pos:Pos}
theorem aX (he:QE X e te):QS X (.Return (some e) pos) (Xu te):=
 ⟨acE he.out⟩
end
section
variable {X:Cx}{e:Expr}{te:TE}{pos:Pos}
theorem dY (he:QE X e te)(hs:swapsWith e none pos.line X.env=pure false:=by rfl):QS X (.Expr e pos) (Z1 te):=
 ⟨aaE he.out hs⟩
end
section
variable {X:Cx}{tg:Expr}
theorem dM {iter:Expr}{body:List Stmt}{wi:TI}{g:TG}{tb:TS}{pos:Pos}(hp:PassesOwn (model X.prog X.w) X.A X.env X.xe)(hc:X.calm=true)(hi:QI X tg iter wi)(hg:QG X tg g)(hb:pX X body tb)(hs:∀x,foldedSetIterable iter X.env x=pure x:=by intro _;rfl):QS X (.For tg iter body [] pos) (acM wi g tb):=
 ⟨acN hp hc hi.out hg.out hb.out hs⟩
end
section
variable {X:Cx}{pos:Pos}
theorem Cv {c:Expr}{body:List Stmt}{tc:TT}{tb:TS}(hp:PassesOwn (model X.prog X.w) X.A X.env X.xe)(hc:QT X c tc)(hb:pX X body tb):QS X (.While c body [] pos) (Uh tc tb):=
 ⟨Xw hp hc.out hb.out⟩
end
section
variable {X:Cx}{pos:Pos}
theorem aM {i:Nat}{x:Str}{e:Expr}{te:TE}{pos':Pos}(hN:X.N.Nodup)(hi:X.N[i]?=some x)(hx:Loc X.env.scope x)(he:QE X e te)(hs:swapsWith e (some (.Name x pos')) pos.line X.env=pure false:=by rfl)(hf:X.fn x=true\/X.env.scope.names.lookup x=some .local:=by first | exact .inl rfl | exact .inr rfl | assumption):QS X (.Assign [.Name x pos'] e pos) (Ck te (jE i)):=
 ⟨acJ hN hi hx he.out hs hf⟩
end
section
variable {X:Cx}
theorem Iu {sts:List Stmt}:pX X sts Ud:=
 ⟨Ue⟩
end
section
variable {X:Cx}{o value:Expr}{f:Str}{pos pos':Pos}{ta tv:TE}
theorem Eu (ha:QE X o ta)(hv:QE X value tv)(hs:swapsWith value (some (.Attribute o f pos')) pos.line X.env=pure false):QS X (.Assign [.Attribute o f pos'] value pos) (acU X.K ta tv f):=
 ⟨acW ha.out hv.out hs⟩
end
section
variable {X:Cx}{pos:Pos}
theorem pY {tg e:Expr}{te:TE}{g:TG}(he:QE X e te)(hg:QG X tg g)(hs:swapsWithSole [tg] e pos.line X.env=pure false:=by rfl)(hw:swappedStores [tg] e X.env=pure none:=by rfl)(h1:(assignEach [tg] X.env).map (·.2)=[assign tg X.env]:=by rfl):QS X (.Assign [tg] e pos) (Ck te g):=
 ⟨acI he.out hg.out hs hw h1⟩
end
section
variable {X:Cx}{pos:Pos}
theorem bK {i:Nat}{x:Str}(hN:X.N.Nodup)(hi:X.N[i]?=some x)(hx:Loc X.env.scope x)(hf:X.fn x=true\/X.env.scope.names.lookup x=some .local:=by first | exact .inl rfl | exact .inr rfl | assumption):QG X (.Name x pos) (jE i):=
 ⟨jq hN hi hx hf⟩
end
section
variable {X:Cx}{pos:Pos}
theorem pZ {es:List Expr}{k:Nat}{t:yC}{n:Nat}(hc:X.calm=true)(h:Vb X es t)(hn:(assignEach es X.env).length=n:=by rfl)(hst:(assignEach es X.env).findIdx? (·.1)=none:=by rfl):QG X (.Tuple es k pos) (Km X.K n t):=
 ⟨Em hc h.out hn hst⟩
end
section
variable {X:Cx}
theorem lq  : Vb X [] Kl:=
 ⟨Ax⟩
end
section
variable {X:Cx}
theorem cB {e:Expr}{es:List Expr}{t:TG}{u:yC}(h1:QG X e t)(h2:Vb X es u)(hs:(assignEach (e::es) X.env).map (·.2)=assign e X.env::(assignEach es X.env).map (·.2):=by rfl):Vb X (e::es) (nD t u):=
 ⟨jd h1.out h2.out hs⟩
end
section
variable {X:Cx}
theorem aq {i j pos}:QE X (.Constant (.int i) j pos) (tC (.int i)):=
 ⟨acn⟩
end
section
variable {X:Cx}
theorem gw {b j pos}:QE X (.Constant (.bool b) j pos) (tC (.bl b)):=
 ⟨aeD⟩
end
section
variable {X:Cx}
theorem Ve {j pos}:QE X (.Constant .none j pos) (tC .non):=
 ⟨aco⟩
end
section
variable {X:Cx}{a b:Expr}{ta tb:TE}{pos:Pos}
theorem aG {op:Operator}{r:R2}(ho:dZ X (binaryOp op) r)(ha:QE X a ta)(hb:QE X b tb):QE X (.BinOp a op b pos) (pR r ta tb):=
 ⟨aeH ho ha.out hb.out⟩
end
section
variable {X:Cx}{a:Expr}{ta:TE}{pos:Pos}
theorem wk {op:UnaryOp}{r:V->Hp->VK->Prop}(ho:Z7 X (unaryOp op) r)(ha:QE X a ta):QE X (.UnaryOp op a pos) (tUn r ta):=
 ⟨aeI ho ha.out⟩
end
section
variable {X:Cx}{a b:Expr}{ta tb:TE}{pos:Pos}
theorem eY {op:CmpOp}{r:R2}(ho:dZ X (compareOp op) r)(ha:QE X a ta)(hb:QE X b tb)(hm:behindInMarks op b=false):QE X (.Compare a [op] [b] pos) (pR r ta tb):=
 ⟨aaG ho ha.out hb.out hm⟩
end
section
variable {X:Cx}{a b:Expr}{ta tb:TE}{pos:Pos}
theorem bx {op:CmpOp}{r:R2}(ho:dZ X (compareOp op) r)(ha:QE X a ta)(hb:QE X b tb)(hm:behindInMarks op b=false):QT X (.Compare a [op] [b] pos) (Ay (pR r ta tb)):=
 ⟨aaH ho ha.out hb.out hm⟩
end
section
variable {X:Cx}{a b c:Expr}{ta tb tc:TE}{pos:Pos}
theorem jK {op op':CmpOp}{r r':R2}(ho:dZ X (compareOp op) r)(ho':dZ X (compareOp op') r')(ha:QE X a ta)(hb:QE X b tb)(hc:QE X c tc)(hm:lastMarks [op,op'] [b,c]=false:=by with_unfolding_all rfl):QE X (.Compare a [op,op'] [b,c] pos) (yL r r' ta tb tc):=
 ⟨Xz ho ho' ha.out hb.out hc.out hm⟩
end
section
variable {X:Cx}{a b c:Expr}{ta tb tc:TE}{pos:Pos}
theorem mJ {op op':CmpOp}{r r':R2}(ho:dZ X (compareOp op) r)(ho':dZ X (compareOp op') r')(ha:QE X a ta)(hb:QE X b tb)(hc:QE X c tc)(hm:lastMarks [op,op'] [b,c]=false:=by with_unfolding_all rfl):QT X (.Compare a [op,op'] [b,c] pos) (Ay (yL r r' ta tb tc)):=
 ⟨XC ho ho' ha.out hb.out hc.out hm⟩
end
section
variable {X:Cx}{pos:Pos}
theorem cO {e:Expr}{t:TE}(h:QE X e t)(he:∀whole,isTrue e X.env whole=(do let v <- whole;standAt e.pos;holding [v] (truthy v)):=by intro _;rfl):QT X e (tB t):=
 ⟨acr h.out he⟩
end
section
variable {X:Cx}{a:Expr}{pos:Pos}{tA:TT}
theorem dN (ha:QT X a tA):QT X (.UnaryOp .Not a pos) (acu tA):=
 ⟨acy ha.out⟩
end
section
variable {X:Cx}{a b:Expr}{pos:Pos}{tA lN:TT}{rest:List Expr}
theorem iB (ha:QT X a tA)(hb:QW X (.BoolOp .And (b::rest) pos) lN):QW X (.BoolOp .And (a::b::rest) pos) (acs tA lN):=
 ⟨acw ha.out hb.out⟩
end
section
variable {X:Cx}{a:Expr}{pos:Pos}{tA:TT}
theorem jW (ha:QT X a tA):QW X (.BoolOp .And [a] pos) tA:=
 ⟨aaB ha.out⟩
end
section
variable {X:Cx}{a b:Expr}{pos:Pos}{tA lN:TT}{rest:List Expr}
theorem pB (ha:QT X a tA)(hb:QW X (.BoolOp .Or (b::rest) pos) lN):QW X (.BoolOp .Or (a::b::rest) pos) (tOr tA lN):=
 ⟨aeE ha.out hb.out⟩
end
section
variable {X:Cx}{a:Expr}{pos:Pos}{tA:TT}
theorem lR (ha:QT X a tA):QW X (.BoolOp .Or [a] pos) tA:=
 ⟨acv ha.out⟩
end
section
variable {X:Cx}{a b:Expr}{ta tb:TE}{pos:Pos}{rest:List Expr}
theorem jT (ha:QE X a ta)(hb:QE X (.BoolOp .And (b::rest) pos) tb):QE X (.BoolOp .And (a::b::rest) pos) (ZW ta tb):=
 ⟨acB ha.out hb.out⟩
end
section
variable {X:Cx}{a b:Expr}{ta tb:TE}{pos:Pos}{rest:List Expr}
theorem Ru (ha:QE X a ta)(hb:QE X (.BoolOp .Or (b::rest) pos) tb):QE X (.BoolOp .Or (a::b::rest) pos) (acz ta tb):=
 ⟨aeF ha.out hb.out⟩
end
section
variable {X:Cx}{a:Expr}{pos:Pos}
theorem iV {op}{t:TE}(h:QE X a t):QE X (.BoolOp op [a] pos) t:=
 ⟨acA h.out⟩
end
section
variable {X:Cx}{a:Expr}{ta:TE}{pos:Pos}
theorem Vf (ha:QE X a ta):QE X (.UnaryOp .Not a pos) (ZX ta):=
 ⟨acC ha.out⟩
end
section
variable {X:Cx}{a b:Expr}{ta tb:TE}{pos:Pos}{tA:TT}
theorem mK {c:Expr}(hc:QT X c tA)(ha:QE X a ta)(hb:QE X b tb):QE X (.IfExp c a b pos) (tIf tA ta tb):=
 ⟨Xq hc.out ha.out hb.out⟩
end
section
variable {X:Cx}{a b:Expr}{ta tb:TE}{pos:Pos}
theorem aL {r:R2}(hr:Ks X r)(ha:QE X a ta)(hb:QE X b tb)(hs:Px b):QE X (.Subscript a b pos) (pR r ta tb):=
 ⟨aeJ hr ha.out hb.out hs⟩
end
section
variable {X:Cx}{e:Expr}{te:TE}{lo hi:Option Expr}{tl th:TO}{pos p2:Pos}
theorem j9 {r:V->Option Int->Option Int->Hp->VK->Prop}(hr:SlR X r)(he:QE X e te)(hl:QO X lo tl)(hu:QO X hi th):QE X (.Subscript e (.Slice lo hi none p2) pos) (tSl r te tl th):=
 ⟨XR hr he.out hl.out hu.out⟩
end
section
variable {X:Cx}
theorem oM  : QO X none Pr:=
 ⟨aaO⟩
end
section
variable {X:Cx}{e:Expr}{te:TE}
theorem lu (h:QE X e te):QO X (some e) (Z_ te):=
 ⟨aaP h.out⟩
end
section
variable {X:Cx}{es:List Expr}{t:TA}{pos:Pos}
theorem fZ (h:QA X es t):QE X (.List es pos) (ac0 t):=
 ⟨ac2 h.out⟩
end
section
variable {X:Cx}{es:List Expr}{t:TA}{pos:Pos}
theorem bR {x1}(h:QA X es t):QE X (.Tuple es x1 pos) (acZ t):=
 ⟨ac1 h.out⟩
end
section
variable {X:Cx}
theorem ak  : QA X [] oH:=
 ⟨acY⟩
end
section
variable {X:Cx}{e:Expr}{es:List Expr}{te:TE}{t:TA}
theorem aj (ha:QE X e te)(hr:QA X es t)(hs:starEach (e::es) X.env=(false,eval e X.env)::starEach es X.env:=by rfl):QA X (e::es) (k_ te t):=
 ⟨aaJ ha.out hr.out hs⟩
end
section
variable {X:Cx}{x:Str}{p pos:Pos}{e:Expr}{es:List Expr}{t:TA}{id:String}{r:List V->Hp->VK->Prop}
theorem aH (hc:fM X (.builtin id) r)(hg:Gl X x)(hm:X.mg x=none)(hv:bootBuiltins x=some (.builtin id))(ha:QA X (e::es) t)(hn:x≠"__name__":=by decide)(hdb:(x==("__debug__":Str))=false:=by decide)(he:starEach (e::es) X.env=(false,eval e X.env)::starEach es X.env:=by rfl)(hpl:(backTo pos (starEach es X.env)).any (·.1)=false:=by rfl):QE X (.Call (.Name x p) (e::es) [] pos) (Kr r t):=
 ⟨XQ hc hg hm hv ha.out hn hdb he hpl⟩
end
section
variable {X:Cx}{x:Str}{p pos:Pos}{e:Expr}{es:List Expr}{t:TA}{T:String}{r:List V->Hp->VK->Prop}
theorem eO (hc:fM X (.type T) r)(hg:Gl X x)(hm:X.mg x=none)(hv:bootBuiltins x=some (.type T))(ha:QA X (e::es) t)(hn:x≠"__name__":=by decide)(hdb:(x==("__debug__":Str))=false:=by decide)(he:starEach (e::es) X.env=(false,eval e X.env)::starEach es X.env:=by rfl)(hpl:(backTo pos (starEach es X.env)).any (·.1)=false:=by rfl):QE X (.Call (.Name x p) (e::es) [] pos) (Kr r t):=
 ⟨Uu hc hg hm hv ha.out hn hdb he hpl⟩
end
section
variable {X:Cx}{o e:Expr}{es:List Expr}{to:TE}{t:TA}{name:Str}{apos cpos:Pos}{T id:String}{r:V->List V->Hp->VK->Prop}
theorem gA (pa:PlainAttrs T)(slot:Slot T name id)(hty:typeOf (.builtin id)=pure (.type "method_descriptor"))(hm:vC X id r)(ho:QE X o to)(ha:QA X (e::es) t)(hbase:attributeBase o name X.env (eval o X.env)=eval o X.env:=by rfl)(hfew:((backTo cpos (starEach (e::es) X.env)).all (λx=>!x.1)&&(backToKw cpos (keywordEach [] X.env)).all (λx=>x.1.isSome)
   && decide ((e::es).length+([]:List Keyword).length+(if ([]:List Keyword).isEmpty then 0 else 1) < 30))=true:=by rfl) (hline:(apos.endLine==cpos.line)=true:=by rfl) (hs:starEach (e::es) X.env=(false,eval e X.env)::starEach es X.env:=by rfl) (hplain:(backTo cpos (starEach es X.env)).any (·.1)=false:=by rfl):QE X (.Call (.Attribute o name apos) (e::es) [] cpos) (tBM X.K T r to t):=
 ⟨aeL pa slot hty hm ho.out ha.out hbase hfew hline hs hplain⟩
end
section
variable {X:Cx}{o:Expr}{to:TE}{name:Str}{apos cpos:Pos}{T id:String}{r:V->List V->Hp->VK->Prop}
theorem vD (pa:PlainAttrs T)(slot:Slot T name id)(hty:typeOf (.builtin id)=pure (.type "method_descriptor"))(hm:vC X id r)(ho:QE X o to)(hbase:attributeBase o name X.env (eval o X.env)=eval o X.env:=by rfl)(hline:(apos.endLine==cpos.line)=true:=by rfl):QE X (.Call (.Attribute o name apos) [] [] cpos) (Rn X.K T r to):=
 ⟨ac9 pa slot hty hm ho.out hbase hline⟩
end
section
variable {X:Cx}
theorem iw {x:Str}{v:V}{u:Value}{pos:Pos}(hg:Gl X x)(hm:X.mg x=none)(hv:bootBuiltins x=some u)(r:RelV v u)(hn:x≠"__name__":=by decide)(hd:(x==("__debug__":Str))=false:=by decide):QE X (.Name x pos) (tC v):=
 ⟨aaA hg hm hv r hn hd⟩
end
section
variable {X:Cx}
theorem fj {x:Str}{v:V}{u:Value}{pos:Pos}(hg:Gl X x)(hm:X.mg x=some u)(r:RelV v u)(hd:(x==("__debug__":Str))=false:=by decide):QE X (.Name x pos) (tC v):=
 ⟨aaz hg hm r hd⟩
end
section
variable {X:Cx}{tg:Expr}
theorem fG {l:Expr}{tl:TE}(hl:QE X l tl):QI X tg l (Z4 X.K tl):=
 ⟨aaF hl.out⟩
end
section
variable {X:Cx}{tg:Expr}
theorem dF {l:Expr}{tl:TE}(hl:QE X l tl):QI X tg l (acK X.K tl):=
 ⟨acL hl.out⟩
end
section
variable {X:Cx}{tg:Expr}
theorem jA {a:Expr}{ta:TA}{p pos:Pos}(hg:Gl X "range")(hm:X.mg "range"=none)(ha:QA X [a] ta)(hs:starEach [a] X.env=[(false,eval a X.env)]:=by rfl):QI X tg (.Call (.Name "range" p) [a] [] pos) (Z5 ta):=
 ⟨Uj hg hm ha.out hs⟩
end
section
variable {X:Cx}{tg:Expr}
theorem tW {a b:Expr}{ta:TA}{p pos:Pos}(hg:Gl X "range")(hm:X.mg "range"=none)(ha:QA X [a,b] ta)(hs:starEach [a,b] X.env=[(false,eval a X.env),(false,eval b X.env)]:=by rfl)(hs2:starEach [b] X.env=[(false,eval b X.env)]:=by rfl):QI X tg (.Call (.Name "range" p) [a,b] [] pos) (Z6 ta):=
 ⟨Uk hg hm ha.out hs hs2⟩
end
section
variable {X:Cx}{e:Expr}{f:Str}{pos:Pos}{ta:TE}
theorem jU (he:QE X e ta)(hb:attributeBase e f X.env (eval e X.env)=eval e X.env):QE X (.Attribute e f pos) (acT X.K ta f):=
 ⟨acV he.out hb⟩
end
section
variable {X:Cx}{CX:m5}{k:Nat}{f C:Addr}{fd:FuncData}{ps:List Str}{sp:Sp}{iz:List V}{ds:List Value}{E:XK}{m:Str}{pos apos:Pos}{e o:Expr}{es:List Expr}{ta:TE}{t:TA}
theorem oN {pl:Sem Bool}(he:QE X o ta)(c:Cls X.K C)(hm:Meth X.K C m f)(F:cD X.prog X.w X.K X.mg X.base CX k f fd ps sp)(hr:dw k X.A)(hb:Binds X.K fd ps ds)(hd:Vals iz ds)(hx:Passes CX X E)(ha:QA X (e::es) t)(hst:starEach (e::es) X.env=(false,eval e X.env)::starEach es X.env:=by rfl)(hpl:(backTo pos (starEach es X.env)).any (·.1)=false:=by rfl)(ht:eval (.Call (.Attribute o m apos) (e::es) [] pos) X.env=(do
   let ov <- eval o X.env
   standAt apos.atName
   let (f,first) <- holding [ov] (getMethod ov m pl)
   callWith pos f first (backTo pos (starEach (e::es) X.env)) (backToKw pos (keywordEach [] X.env))):=by rfl):QE X (.Call (.Attribute o m apos) (e::es) [] pos) (J5 C m sp iz E ta t):=
 ⟨aaL he.out c hm F hr hb hd hx ha.out hst hpl ht⟩
end
section
variable {X:Cx}{CX:m5}{k:Nat}{f C:Addr}{fd:FuncData}{ps:List Str}{sp:Sp}{iz:List V}{ds:List Value}{E:XK}{m:Str}{pos apos:Pos}{o:Expr}{ta:TE}
theorem Yd {pl:Sem Bool}(he:QE X o ta)(c:Cls X.K C)(hm:Meth X.K C m f)(F:cD X.prog X.w X.K X.mg X.base CX k f fd ps sp)(hr:dw k X.A)(hb:Binds X.K fd ps ds)(hd:Vals iz ds)(hx:Passes CX X E)(ht:eval (.Call (.Attribute o m apos) [] [] pos) X.env=(do
   let ov <- eval o X.env
   standAt apos.atName
   let (f,first) <- holding [ov] (getMethod ov m pl)
   callWith pos f first (backTo pos (starEach [] X.env)) (backToKw pos (keywordEach [] X.env))):=by rfl):QE X (.Call (.Attribute o m apos) [] [] pos) (J5 C m sp iz E ta oH):=
 ⟨XJ he.out c hm F hr hb hd hx ht⟩
end
section
variable {X:Cx}{CX:m5}{k:Nat}{f C:Addr}{fd:FuncData}{ps:List Str}{sp:Sp}{iz:List V}{ds:List Value}{E:XK}{x:Str}{p pos:Pos}{e:Expr}{es:List Expr}{t:TA}
theorem Gx (M:Mk X.K C f)(F:cD X.prog X.w X.K X.mg X.base CX k f fd ps sp)(hr:dw (k+1) X.A)(hg:Gl X x)(hm:X.mg x=some (.ref C))(hb:Binds X.K fd ps ds)(hd:Vals iz ds)(hx:Passes CX X E)(ha:QA X (e::es) t)(hdb:(x==("__debug__":Str))=false:=by decide)(he:starEach (e::es) X.env=(false,eval e X.env)::starEach es X.env:=by rfl)(hpl:(backTo pos (starEach es X.env)).any (·.1)=false:=by rfl):QE X (.Call (.Name x p) (e::es) [] pos) (Z8 C sp iz E t):=
 ⟨aaM M F hr hg hm hb hd hx ha.out hdb he hpl⟩
end
section
variable {X:Cx}{pos:Pos}
theorem Ye  : QE X (.Dict [] [] pos) UJ:=
 ⟨X_⟩
end
section
variable {X:Cx}{o i:Expr}{td ty:TE}
theorem adi (hu:X.A.units+1 < cLine)(hi:QE X i ty)(ho:QE X o td):QC X .In i o (ada ty td):=
 ⟨adb hu hi.out ho.out⟩
end
section
variable {X:Cx}{o i value:Expr}{td ty tv:TE}{pos pos':Pos}
theorem Qa (hu:X.A.units+1 < cLine)(ho:QE X o td)(hi:QE X i ty)(hv:QE X value tv)(hs:swapsWith value (some (.Subscript o i pos')) pos.line X.env=pure false):QS X (.Assign [.Subscript o i pos'] value pos) (aae td ty tv):=
 ⟨aaU hu ho.out hi.out hv.out hs⟩
end
section
variable {X:Cx}{a b:Expr}{pos:Pos}
theorem adk {op:CmpOp}{t:TE}(h:QC X op a b t)(h1:behindInMarks op b=false:=by first | exact Xp _ (by decide) (by decide) | rfl):QE X (.Compare a [op] [b] pos) t:=
 ⟨acq h.out h1⟩
end
section
variable {X:Cx}
theorem qv (i:Nat){x:Str}{pos:Pos}(hN:X.N[i]?=some x:=by rfl)(hv:ZV X.env.scope x:=by first | exact Or.inl rfl | exact Or.inr (Or.inl rfl) | exact Or.inr (Or.inr rfl))(hd:(x==("__debug__":Str))=false:=by decide)(hcd:(x==("__classdict__":Str))=false:=by decide):QE X (.Name x pos) (gU i):=
 ⟨pv i hN hv hd hcd⟩
end
section
variable {X:Cx}
theorem cu {X:Cx}:Vc X [] fJ:=
 ⟨aaW⟩
end
section
variable {X:Cx}
theorem Bc {X:Cx}{c:Expr}{t:TT}(h:QT X c t):Vc X [c] t:=
 ⟨aaX h.out⟩
end
section
variable {X:Cx}
theorem bN (l:List Nat){x:Str}{j pos}(h:x=S l):QE X (.Constant (.str x) j pos) (tC (.str (S l))):=
 ⟨aaZ l h⟩
end
section
variable {X:Cx}{x:Str}{p pos:Pos}{e:Expr}{es:List Expr}{t:TA}
theorem bF {k:Nat}{ps:List Str}{sp:Sp}(D:Def X.prog X.w X.K X.mg X.base x k ps sp)(hr:dw k X.A)(hg:Gl X x)(ha:QA X (e::es) t)(hdb:(x==("__debug__":Str))=false:=by decide)(hs:starEach (e::es) X.env=(false,eval e X.env)::starEach es X.env:=by rfl)(hpl:(backTo pos (starEach es X.env)).any (·.1)=false:=by rfl):QE X (.Call (.Name x p) (e::es) [] pos) (J4 sp [] E0 t):=
 ⟨adg D hr hg ha.out hdb hs hpl⟩
end
theorem iQ {X:Cx}{elt iter:Expr}{x:Str}{px:Pos}{ifs:List Expr}{scope:Scope}{pos:Pos}{wi:TI}{tt:TT}{te:TE}(hc:X.calm=true)(ok:gQ X scope x)(hi:QI X (.Name x px) iter wi)
  (ht:∀cl C s₀ H₀ fp,Vc (blk X scope cl C x s₀ H₀ fp) ifs tt) (he:∀cl C s₀ H₀ fp,QE (blk X scope cl C x s₀ H₀ fp) elt te)
  (hs:∀x,foldedSetIterable iter X.env x=pure x:=by intro _;rfl):QE X (.ListComp elt [⟨.Name x px,iter,ifs,0⟩] scope pos) (aaf wi tt te):=
 ⟨aaY hc ok hi.out (λcl C s₀ H₀ fp=>(ht cl C s₀ H₀ fp).out) (λcl C s₀ H₀ fp=>(he cl C s₀ H₀ fp).out) hs⟩
theorem aJ.dh {P:Program}{w:World}{K:W.Frag}{mg:Str->Option Value}{base:Heap}{name:Str}{st:Stmt}{N ps:List Str}{k:Nat}{sp:Sp}(D:aJ K mg name st ps)(S:aW N ps (aF st))(len:∀vs H Q E,sp vs H Q E->vs.length=ps.length)
  (hbody:∀(f:Addr) (cdv:Value) (A:Around) (outer:List Env) (s:Shared) (H:Hp) (vs:List V) (Q:VK) (E:XK),dw k (A.deeper (envOfC name (aF st) s.heap.objs.size f cdv))->sp vs H Q E->
   ∃t,pX (oJ fK P w K mg base N name (aF st) f cdv A outer s H E).Kh (cT st) t/\t { nx:=λ_ H'=>Q .non H',rt:=Q } (start N vs) H):Def P w K mg base name (k+1) ps sp:=
 D.ok S len λf cdv A outer s H vs Q E hr h=>let ⟨t,a,b⟩:=hbody f cdv A outer s H vs Q E hr h;⟨t,a.out,b⟩
theorem gk.dh {P:Program}{w:World}{K:W.Frag}{mg:Str->Option Value}{base:Heap}{x qual:Str}{st:Stmt}{f:Addr}{fd:FuncData}{N ps:List Str}{k:Nat}{sp:Sp}(F:gk K x qual st f fd)(S:aW N ps (aF st))(len:∀vs H Q E,sp vs H Q E->vs.length=ps.length)
  (hbody:∀(cdv:Value) (A:Around) (outer:List Env) (s:Shared) (H:Hp) (vs:List V) (Q:VK) (E:XK),dw k (A.deeper (envOfC qual (aF st) s.heap.objs.size f cdv))->sp vs H Q E->
   ∃t,pX (oJ fK P w K mg base N qual (aF st) f cdv A outer s H E).Kh (cT st) t/\t { nx:=λ_ H'=>Q .non H',rt:=Q } (start N vs) H):cD P w K mg base fK (k+1) f fd ps sp:=
 F.ok S len λcdv A outer s H vs Q E hr h=>let ⟨t,a,b⟩:=hbody cdv A outer s H vs Q E hr h;⟨t,a.out,b⟩
end L2
end
section
namespace L2
open PySem PySem.Spec PyProof.Rows
section
theorem yQ:∀{ss:List Str} {us:List Value},StrsAre us ss->Vals (ss.map V.str) us
 | _,_,.nil=>.nil
 | _,_,.cons x t r=>.cons ⟨t,rfl⟩ (yQ r)
end
end L2
end
section
namespace L2
open PySem PySem.Spec PyProof.Rows
noncomputable def Its (l:List Nat):It:=⟨λi _=>i < l.length,λi H x H'=>H'=H/\∃c,l[i]?=some c/\x=.str (S [c]),λi _=>l.length<=i⟩
theorem Yg {P:Program}{w:World}{K:W.Frag}{tg:Expr}{ty:String}(hty:ty="str_ascii_iterator"\/ty="str_iterator")(l:List Nat)(t:Tok)(it:Addr) :
  Turn P w K tg (Its l) [it] it (λi h=>i<=l.length/\h.IsStrIter it ty (S l) t i) where
 mem:=by simp
 obj:=λi h st b hb=>by
  have e:b=it:=by simpa using hb
  subst e;obtain⟨_,o,e,c,d⟩:=st;exact⟨o,e,λv z=>by rw[d]at z;cases z⟩
 keep:=λi h h' st k=>⟨st.1,let ⟨o,ho,r⟩:=st.2;⟨o,k it (by simp) o ho,r⟩⟩
 item:=by
  intro X hP hw hK hc i y7 s σ H E I hf st hg;subst hP hw hK;obtain⟨f0,f1,f2,f3,f4,f5⟩:=hf it (by simp);have hg':i < (S l).cps.size:=hg;have fin:∀(v:Value) (h':Heap) (tk:Nat),SignAt (S l) i v->h'.IsStrIter it ty (S l) t (i+1)->(∀b o,b∉[it]->s.heap.get? b=some o->h'.get? b=some o)->
    ∃u,some v=some u/\wpAny (model X.prog X.w) X.A (letOwnedTupleGo tg (.ref it) u) (λ_ s2=>∃x H',Inv X y7 σ H' s2/\RelV x u/\(Its l).nF i H x H'/\(i+1<=l.length/\s2.heap.IsStrIter it ty (S l) t (i+1))/\∀b∈[it],H' b=none) E { s with heap:=h',toks:=tk }:=by
   intro v h' tk hv st' kk;obtain⟨c,u,hc',rfl⟩:=hv;have I1:Inv X y7 σ H { s with heap:=h',toks:=tk }:=I.turned (λb o hb e=>kk b o (by simpa using hb) e) f0 f1 f3 f4 f5;obtain⟨o,e,c2,d2⟩:=id st';refine⟨_,rfl,J3 (s:={ s with heap:=h',toks:=tk }) e c2 d2 (by rcases hty with rfl | rfl <;> decide) ⟨.str (S [c]),H,I1,⟨u,rfl⟩,⟨rfl,c,by simpa [S] using hc',rfl⟩,⟨hg,st'⟩,λb hb=>(hf b hb).1⟩⟩
  rcases hty with rfl | rfl
  ·exact(Walks.strAscii (prog:=X.prog) (w:=X.w) (I.ok.hd hc) it (S l) t).item i s _ _ hg' st.2 λv h' tk hv st' kk=>fin v h' tk hv st' kk
  ·exact(Walks.strWide (prog:=X.prog) (w:=X.w) (I.ok.hd hc) it (S l) t).item i s _ _ hg' st.2 λv h' tk hv st' kk=>fin v h' tk hv st' kk
 done:=by
  intro X hP hw hK hc i y7 s σ H E I hf st hg;subst hP hw hK;obtain⟨f0,f1,f2,f3,f4,f5⟩:=hf it (by simp);have hi:i=(S l).cps.size:=Nat.le_antisymm st.1 hg;have st':=st.2;rw[hi]at st';rcases hty with rfl | rfl
  ·exact(Walks.strAscii (prog:=X.prog) (w:=X.w) (I.ok.hd hc) it (S l) t).done s _ _ st' λh' tk kk=>⟨rfl,I.turned (λb o hb e=>kk b o (by simpa using hb) e) f0 f1 f3 f4 f5⟩
  ·exact(Walks.strWide (prog:=X.prog) (w:=X.w) (I.ok.hd hc) it (S l) t).done s _ _ st' λh' tk kk=>⟨rfl,I.turned (λb o hb e=>kk b o (by simpa using hb) e) f0 f1 f3 f4 f5⟩
 self:=λA i s Q E st h=>by
  rcases hty with rfl | rfl
  ·exact wpAny_pyIter_striter_ascii st.2 h
  ·exact wpAny_pyIter_striter_wide st.2 h
theorem Vg {a b c:List Nat}(h1:¬b < a)(h2:¬c < b):¬c < a:=by
 have h1':a<=b:=h1;have h2':b<=c:=h2;exact List.le_trans h1' h2'
theorem Iw:∀(r:List Str) (p:Str),risingS p r=true->(∀x∈r,¬x.cps.toList < p.cps.toList)/\(r.map λy=>y.cps.toList).Pairwise (λa b=>decide (b < a)=false)
 | [],_,_=>⟨λ_ h=>by simp at h,List.Pairwise.nil⟩
 | y::r,p,h=>by
  rw[risingS,Bool.and_eq_true]at h;have h0:¬y.cps.toList < p.cps.toList:=by
   have:=h.1;simpa [ltCps_eq] using this
  obtain⟨h1,h2⟩:=Iw r y h.2;refine⟨λx hx=>?_,?_⟩
  ·rcases List.mem_cons.mp hx with e | e
   ·rw[e];exact h0
   ·exact Vg h0 (h1 x e)
  ·rw[List.map_cons]
   refine List.Pairwise.cons (λb hb=>?_) h2;obtain⟨x,hx,rfl⟩:=List.mem_map.mp hb;exact decide_eq_false (h1 x hx)
theorem Vh (ss:List Str)(h:sortedS ss=true):(ss.map λy=>y.cps.toList).Pairwise (λa b=>decide (b < a)=false):=by
 cases ss with
 | nil=>exact List.Pairwise.nil
 | cons x r=>
  obtain⟨h1,h2⟩:=Iw r x h;rw[List.map_cons];refine List.Pairwise.cons (λb hb=>?_) h2;obtain⟨y,hy,rfl⟩:=List.mem_map.mp hb;exact decide_eq_false (h1 y hy)
section
variable {X:Cx}{tg:Expr}
noncomputable def afq (tl:TE):TI:=λσ H R=>tl σ H λx H1=>∃l,x=.str (S l)/\R (Its l) H1
theorem yR {l:Expr}{tl:TE}(hl:QE X l tl):QI X tg l (afq tl):=⟨by
 intro y7 s σ H R I h;refine bG (hl.out y7 s σ H _ I h) λv s1 zz=>?_;obtain⟨x,H1,I1,r1,q1⟩:=zz;obtain⟨l,e,q⟩:=q1;subst e;obtain⟨t,rfl⟩:=r1;refine wpAny_pyIter_strU ?_;have hty:strIterType (S l)="str_ascii_iterator"\/strIterType (S l)="str_iterator":=by unfold strIterType;split <;> simp
 refine⟨s1.heap.objs.size,[s1.heap.objs.size],_,_,H1,rfl,I1.kept (t':=s1.toks) λb o e=>Heap.get?_push_of_some _ e,Yg hty l t _,⟨Nat.zero_le _,_,Heap.get?_push_size _ rfl,rfl,rfl⟩,λb hb=>?_,q⟩;have e:b=s1.heap.objs.size:=by simpa using hb
 subst e;exact I1.Gu (Nat.le_refl _) (I1.hok.fresh (Nat.le_refl _))⟩
theorem wu {l:List Nat}{D:Addr}{te:TE}{σ:St}{H:Hp}{R:Hp->Prop}(Pv:Nat->List V->Hp->Prop)(h0:Pv 0 [] (upd H D (.lst [])))
  (hs:∀i c ys H,l[i]?=some c->Pv i ys H->te (some (.str (S [c]))::σ) H λy H3=>H3 D=some (.lst ys)/\ys.length < sizeLine/\cX l.length i (Pv (i+1) (ys++[y]) (upd H3 D (.lst (ys++[y])))))
  (hd:∀ys H,Pv l.length ys H->R H) :
  ∃W:Nat->Nat->List V->Hp->Prop,(∃m,W 0 m [] (upd H D (.lst [])))/\
   ∀i m ys H,W i m ys H->((Its l).stop i H/\R H)\/((Its l).go i H/\∀x H',(Its l).nF i H x H'->fJ (some x::σ) H' λb H2=>
    if b=true then te (some x::σ) H2 λy H3=>H3 D=some (.lst ys)/\ys.length < sizeLine/\∃m',m' < m/\W (i+1) m' (ys++[y]) (upd H3 D (.lst (ys++[y])))
    else ∃m',m' < m/\W (i+1) m' ys H2):=by
 refine⟨λi m ys H=>m=l.length-i/\i<=l.length/\Pv i ys H,⟨l.length,by simp,Nat.zero_le _,h0⟩,?_⟩;rintro i m ys H ⟨rfl,hi,p⟩;by_cases hlt:i < l.length
 ·refine .inr ⟨hlt,λx H' y=>?_⟩
  obtain⟨e,c,hc,e2⟩:=y;subst e e2;exact hs i c ys H' hc p
 ·have e:i=l.length:=by omega
  subst e;exact .inl ⟨Nat.le_refl _,hd ys H p⟩
theorem iC (hc:X.calm=true):fM X (.builtin "all") (λxs H Q=>∃(p:Addr) (bs:List Bool),xs=[.ref p]/\aN X.K H p (bs.map V.bl)/\Q (.bl (bs.all id)) H):=by
 intro y7 s σ H xs us Q I r h;obtain⟨p,bs,rfl,hq,q⟩:=h;obtain⟨u,rfl,ru⟩:=vals1 r;cases ru;obtain⟨its,rv,pl,hz⟩:=I.list hq;have hne:p≠s.heap.objs.size:=by
  obtain⟨o,ho,_⟩:=pl.isList;exact Nat.ne_of_lt (Heap.lt_size ho)
 have hb:∀(i:Nat) (v:Value),its[i]?=some v->v=.bool (bs.getD i true):=λi v hv=>by
  have hlen:=rv.length;have hi:i < bs.length:=by have:=(List.getElem?_eq_some_iff.mp hv).1;simp at hlen;omega
  obtain⟨u,hu,ru⟩:=rv.get (i:=i) (x:=.bl bs[i]) (by simp[hi]);rw[hv]at hu;cases hu;cases ru;simp[List.getD,hi]
 refine call_all_walk (wpAny_pyIter_list pl.isList ?_);refine⟨s.heap.objs.size,_,_,_,_,_,λi=>bs.getD i true,rfl,Walks.list (A:=X.A.in1) (I.ok.hd hc) s.heap.objs.size p hne its.toArray,⟨⟨_,Heap.get?_push_size _ rfl,rfl,rfl⟩,pl.isList.at λo e=>Heap.get?_push_of_some _ e⟩,?_,λh' tk kk=>?_⟩
 ·intro i v s' Q' E' hv hq'
  have e:=hb i v (by simpa using hv);subst e;exact wpAny_truthy_bool hq'
 ·have I1:Inv X y7 σ H { s with heap:=h',toks:=tk }:=I.kept λb o e=>kk b o (by
   intro hm;have:b=s.heap.objs.size:=by simpa using hm
   subst this;exact absurd (Heap.lt_size e) (Nat.lt_irrefl _)) (Heap.get?_push_of_some _ e)
  refine⟨.bl (bs.all id),H,I1,?_,q⟩;show Value.bool _=Value.bool _;have hlen:its.toArray.size=bs.length:=by have:=rv.length;simp at this;simp[this]
  rw[hlen];congr 1;have key:∀bs:List Bool,(List.range bs.length).all (λi=>bs.getD i true)=bs.all id:=λbs=>by
   rw[Bool.eq_iff_iff,List.all_eq_true,List.all_eq_true];constructor
   ·intro h x hx
    obtain⟨i,hi,rfl⟩:=List.mem_iff_getElem.mp hx;have:=h i (List.mem_range.mpr hi);simpa [List.getD,hi] using this
   ·intro h i hi
    have hi':=List.mem_range.mp hi;have:=h bs[i] (List.getElem_mem _);simpa [List.getD,hi'] using this
  exact key bs
noncomputable def Yh:R2:=λx y H Q=>∃i j,x=.str (S i)/\y=.str (S j)/\Q (.bl (!decide (j < i))) H
theorem qb:dZ X (compareOp .LtE) Yh:=by
 intro y7 s σ H x y v u Q I rx ry h;obtain⟨i,j,rfl,rfl,q⟩:=h;obtain⟨t,rfl⟩:=rx;obtain⟨t',rfl⟩:=ry;exact PySem.P.le_str ⟨.bl _,H,I,rfl,q⟩
abbrev jY (l:List Nat):Key:=Sum.inr (S l)
theorem QI.or {iter:Expr}{w1 w2:TI}(h1:QI X tg iter w1)(h2:QI X tg iter w2):QI X tg iter (λσ H R=>w1 σ H R\/w2 σ H R):=⟨λy7 s σ H R I h=>by
 rcases h with h | h
 ·exact h1.out y7 s σ H R I h
 ·exact h2.out y7 s σ H R I h⟩
end
theorem aN.keep {K:W.Frag}{H H':Hp}{a p:Addr}{xs:List V}(k:∀b o,H b=some o->b≠p->H' b=some o)(hp:∀o,H p=some o->(∀ys,o≠.lst ys)/\∀u ys,o≠.lM u (.lst ys))(h:aN K H a xs):aN K H' a xs:=by
 rcases h with(h | ⟨o,h⟩) | h
 ·exact .inl (.inl (k _ _ h λe=>(hp _ (e ▸ h)).1 _ rfl))
 ·exact .inl (.inr ⟨o,k _ _ h λe=>(hp _ (e ▸ h)).2 _ _ rfl⟩)
 ·exact .inr h
theorem aK.keep {K:W.Frag}{H H':Hp}{a p:Addr}{xs:List V}(k:∀b o,H b=some o->b≠p->H' b=some o)(hp:∀o,H p=some o->(∀ys,o≠.tup ys)/\∀u ys,o≠.lM u (.tup ys))(h:aK K H a xs):aK K H' a xs:=by
 rcases h with(h | ⟨o,h⟩) | h
 ·exact .inl (.inl (k _ _ h λe=>(hp _ (e ▸ h)).1 _ rfl))
 ·exact .inl (.inr ⟨o,k _ _ h λe=>(hp _ (e ▸ h)).2 _ _ rfl⟩)
 ·exact .inr h
end L2
end
section
namespace L2
open PySem PySem.Spec PyProof.Rows PySem.SeqAt PySem.MeetsSeq PySem.MeetsSeq3
open AutoSeq1 (wpAny_loadPart')
end L2
end
section
namespace L2
open PySem PySem.Spec PyProof.Rows
section
variable {X:Cx}
noncomputable def aeT (i j:Int):Prop:=0 < j/\j.natAbs.log2 < 9000
theorem Yi:dZ X (binaryOp .FloorDiv) (rI aeT λi j=>.int (i/j)):=Um λi j _ _ _ _ _ hc q=>by
 have e:i.fdiv j=i/j:=Int.fdiv_eq_ediv_of_nonneg _ (Int.le_of_lt hc.1);rw[<- e]at q;exact floordiv_int (Int.ne_of_gt hc.1) q (.inl (PyProof.noPylong_of_log2 hc.2))
noncomputable def afr:V->List V->Hp->VK->Prop:=λx vs H Q=>∃l,x=.str (S l)/\vs=[]/\l.length<=1000/\(∀c∈l,c < 128)/\Q (.str (S (l.map up1))) H
theorem adl:vC X "str.upper" afr:=by
 intro y7 s σ H x vs v us Q I rx rv h;obtain⟨l,rfl,rfl,hz,ha,q⟩:=h;obtain⟨t,rfl⟩:=rx;have hus:=rv.zero;subst hus;have hfit:Builtin.Str.tooLong (Txt.upper (S l)).length=false:=fit_upper (by rw[pA];omega);refine call_gives F.slot_str_upper (typeIs_str s _ t) F.entry_str_upper (F.args_str_upper_1 _) (gives_str_upper (S l) t hfit) ⟨fit_le hfit,?_⟩;have e:Txt.upper (S l)=S (l.map up1):=by rw[upper_ascii (x:=S l) ha];simp[S]
 exact⟨.str (S (l.map up1)),H,I.tok _,⟨s.toks,congrArg (λz=>Value.str z s.toks) e⟩,q⟩
noncomputable def adn:V->List V->Hp->VK->Prop:=λx vs H Q=>∃l,x=.str (S l)/\vs=[]/\l.length<=1000/\(∀c∈l,c < 128)/\Q (.str (S (l.map lo1))) H
theorem vG:vC X "str.lower" adn:=by
 intro y7 s σ H x vs v us Q I rx rv h;obtain⟨l,rfl,rfl,hz,ha,q⟩:=h;obtain⟨t,rfl⟩:=rx;have hus:=rv.zero;subst hus;have hfit:Builtin.Str.tooLong (Txt.lower (S l)).length=false:=fit_lower (by rw[pA];omega);refine call_gives F.slot_str_lower (typeIs_str s _ t) F.entry_str_lower (F.args_str_lower_1 _) (gives_str_lower (S l) t hfit) ⟨fit_le hfit,?_⟩;have e:Txt.lower (S l)=S (l.map lo1):=by rw[lower_ascii (x:=S l) ha];simp[S]
 exact⟨.str (S (l.map lo1)),H,I.tok _,⟨s.toks,congrArg (λz=>Value.str z s.toks) e⟩,q⟩
end
theorem aa1 {l:List Nat}{g:TG}{tb:TS}{D:Ends}{σ:St}{H:Hp}(Pv:Nat->St->Hp->Prop)(h0:Pv 0 σ H)
  (hs:∀i c σ H,l[i]?=some c->Pv i σ H->g (.str (S [c])) σ H λσ2 H2=>tb { D with nx:=Pv (i+1),ct:=Pv (i+1),bk:=D.nx } σ2 H2) (hd:∀σ H,Pv l.length σ H->D.nx σ H) :
  ∃W:Nat->Nat->St->Hp->Prop,(∃m,W 0 m σ H)/\∀i m σ H,W i m σ H->
   ((Its l).stop i H/\D.nx σ H)\/((Its l).go i H/\∃N:St->Hp->Prop,(∀σ' H',N σ' H'->∃m',m' < m/\W (i+1) m' σ' H')/\∀x H',(Its l).nF i H x H'->g x σ H' λσ2 H2=>tb { D with nx:=N,ct:=N,bk:=D.nx } σ2 H2):=by
 refine⟨λi m σ H=>m=l.length-i/\i<=l.length/\Pv i σ H,⟨l.length,by simp,Nat.zero_le _,h0⟩,?_⟩;rintro i m σ H ⟨rfl,hi,p⟩;by_cases hlt:i < l.length
 ·refine .inr ⟨hlt,Pv (i+1),λσ' H' p'=>⟨l.length-(i+1),by omega,rfl,hlt,p'⟩,λx H' y=>?_⟩
  obtain⟨e,c,hc,e2⟩:=y;subst e e2;exact hs i c σ _ hc p
 ·have e:i=l.length:=by omega
  subst e;exact .inl ⟨Nat.le_refl _,hd σ H p⟩
noncomputable def AL:List Nat:=(List.range 26).map (97 + ·)
theorem rN {α:Type}{xs:List α}{n:Nat}(hn:xs.length=n)(h:0 < n)(c:Int):∃v,m6 xs (c%(n:Int))=some v/\v∈xs:=by
 have h0:0<=c%(n:Int):=Int.emod_nonneg _ (by omega);have h1:c%(n:Int) < n:=Int.emod_lt_of_pos _ (by omega);obtain⟨k,hk⟩:∃k:Nat,c%(n:Int)=(k:Int):=⟨(c%(n:Int)).toNat,by omega⟩
 rw[hk];have hl:k < xs.length:=by omega
 exact⟨xs[k],aB (by simp[hl]),List.getElem_mem _⟩
end L2
end
section
namespace L2
open PySem PySem.Spec PyProof.Rows
inductive Dt where
 | non | int (i:Int) | str (l:List Nat) | tup (ds:List Dt) | lst (ds:List Dt)
mutual
noncomputable def toP:Dt->PyData
 | .non=>.none
 | .int i=>.int i
 | .str l=>.str (S l)
 | .tup ds=>.tuple (je ds)
 | .lst ds=>.list (je ds)
noncomputable def je:List Dt->List PyData
 | []=>[]
 | d::ds=>toP d::je ds
end
mutual
theorem Rv:∀d e:Dt,PyData.eqv (toP d) (toP e)=true↔d=e
 | .non,.non=>by simp[toP,PyData.eqv]
 | .non,.int _=>by simp[toP,PyData.eqv]
 | .non,.str _=>by simp[toP,PyData.eqv]
 | .non,.tup _=>by simp[toP,PyData.eqv]
 | .non,.lst _=>by simp[toP,PyData.eqv]
 | .int _,.non=>by simp[toP,PyData.eqv]
 | .int _,.int _=>by simp[toP,PyData.eqv]
 | .int _,.str _=>by simp[toP,PyData.eqv]
 | .int _,.tup _=>by simp[toP,PyData.eqv]
 | .int _,.lst _=>by simp[toP,PyData.eqv]
 | .str _,.non=>by simp[toP,PyData.eqv]
 | .str _,.int _=>by simp[toP,PyData.eqv]
 | .str a,.str b=>by
  simp only[toP,PyData.eqv,beq_iff_eq,Dt.str.injEq];exact⟨J9,λz=>by rw[z]⟩
 | .str _,.tup _=>by simp[toP,PyData.eqv]
 | .str _,.lst _=>by simp[toP,PyData.eqv]
 | .tup _,.non=>by simp[toP,PyData.eqv]
 | .tup _,.int _=>by simp[toP,PyData.eqv]
 | .tup _,.str _=>by simp[toP,PyData.eqv]
 | .tup ds,.tup es=>by simp only[toP,PyData.eqv,Dt.tup.injEq];exact KH ds es
 | .tup _,.lst _=>by simp[toP,PyData.eqv]
 | .lst _,.non=>by simp[toP,PyData.eqv]
 | .lst _,.int _=>by simp[toP,PyData.eqv]
 | .lst _,.str _=>by simp[toP,PyData.eqv]
 | .lst _,.tup _=>by simp[toP,PyData.eqv]
 | .lst ds,.lst es=>by simp only[toP,PyData.eqv,Dt.lst.injEq];exact KH ds es
theorem KH:∀ds es:List Dt,PyData.eqvAll (je ds) (je es)=true↔ds=es
 | [],[]=>by simp[je,PyData.eqvAll]
 | [],_::_=>by simp[je,PyData.eqvAll]
 | _::_,[]=>by simp[je,PyData.eqvAll]
 | d::ds,e::es=>by
  simp only[je,PyData.eqvAll,Bool.and_eq_true,List.cons.injEq];rw[Rv d e,KH ds es]
end
open Classical in
theorem Gy (d e:Dt):PyData.eqv (toP d) (toP e)=decide (d=e):=by
 by_cases h:d=e
 ·rw[decide_eq_true h];exact(Rv d e).mpr h
 ·rw[decide_eq_false h]
  cases z:PyData.eqv (toP d) (toP e) with
  | false=>rfl
  | true=>exact absurd ((Rv d e).mp z) h
mutual
inductive ju (K:W.Frag) (H:Hp):Nat->Dt->V->Prop
 | non {n}:ju K H n .non .non
 | int {n} (i:Int):ju K H n (.int i) (.int i)
 | str {n} (l:List Nat) (h:∀c∈l,c < 128):ju K H n (.str l) (.str (S l))
 | tup {n a ds xs} (h:aK K H a xs) (hs:dO K H n ds xs):ju K H (n+1) (.tup ds) (.ref a)
 | lst {n a ds xs} (h:aN K H a xs) (hs:dO K H n ds xs):ju K H (n+1) (.lst ds) (.ref a)
inductive dO (K:W.Frag) (H:Hp):Nat->List Dt->List V->Prop
 | nil {n}:dO K H n [] []
 | cons {n d ds x xs} (h:ju K H n d x) (hs:dO K H n ds xs):dO K H n (d::ds) (x::xs)
end
theorem aa2 {l:List Nat}(h:∀c∈l,c < 128):PyData.strOk (S l)=true:=by
 unfold PyData.strOk;show l.toArray.all _=true;rw[Array.all_eq_true_iff_forall_mem];intro x hx;have:=h x (by simpa using hx);exact decide_eq_true (by omega)
mutual
theorem ju.lay {K:W.Frag}{H:Hp}:∀{n:Nat} {d:Dt} {x:V},ju K H n d x->(toP d).canLay0=true/\(toP d).depth<=n
 | _,_,_,.non=>by simp[toP,PyData.canLay0,PyData.depth]
 | _,_,_,.int _=>by simp[toP,PyData.canLay0,PyData.depth]
 | _,_,_,.str l h=>by simp only[toP,PyData.canLay0,PyData.depth];exact⟨aa2 h,Nat.zero_le _⟩
 | _,_,_,.tup _ hs=>by
  simp only[toP,PyData.canLay0,PyData.depth];have:=hs.lay;exact⟨this.1,Nat.succ_le_succ this.2⟩
 | _,_,_,.lst _ hs=>by
  simp only[toP,PyData.canLay0,PyData.depth];have:=hs.lay;exact⟨this.1,Nat.succ_le_succ this.2⟩
theorem dO.lay {K:W.Frag}{H:Hp}:∀{n:Nat} {ds:List Dt} {xs:List V},dO K H n ds xs->PyData.canLayAll0 (je ds)=true/\PyData.depthAll (je ds)<=n
 | _,_,_,.nil=>by simp[je,PyData.canLayAll0,PyData.depthAll]
 | _,_,_,.cons h hs=>by
  have a:=h.lay;have b:=hs.lay;simp only[je,PyData.canLayAll0,PyData.depthAll,Bool.and_eq_true];exact⟨⟨a.1,b.1⟩,Nat.max_le.mpr ⟨a.2,b.2⟩⟩
end
mutual
theorem ju.same {K:W.Frag}{H H':Hp}(sm:Same H H')(st:∀a xs,aK K H a xs->aK K H' a xs):∀{n:Nat} {d:Dt} {x:V},ju K H n d x->ju K H' n d x
 | _,_,_,.non=>.non
 | _,_,_,.int i=>.int i
 | _,_,_,.str l h=>.str l h
 | _,_,_,.tup h hs=>.tup (st _ _ h) (hs.same sm st)
 | _,_,_,.lst h hs=>.lst (sm.seq h) (hs.same sm st)
theorem dO.same {K:W.Frag}{H H':Hp}(sm:Same H H')(st:∀a xs,aK K H a xs->aK K H' a xs):∀{n:Nat} {ds:List Dt} {xs:List V},dO K H n ds xs->dO K H' n ds xs
 | _,_,_,.nil=>.nil
 | _,_,_,.cons h hs=>.cons (h.same sm st) (hs.same sm st)
end
section
variable {X:Cx}
mutual
theorem ju.reads {y7:List (Addr × Obj)}{σ:St}{H:Hp}{s:Shared}(I:Inv X y7 σ H s):∀{n:Nat} {d:Dt} {x:V} {u:Value},ju X.K H n d x->RelV x u->∃as,Reads s.heap u (toP d) as
 | _,_,_,u,.non,r=>by cases r;exact⟨[],by rw[toP];exact .none⟩
 | _,_,_,u,.int i,r=>by obtain⟨t,rfl⟩:=r;exact⟨[],by rw[toP];exact .int i t⟩
 | _,_,_,u,.str l h,r=>by obtain⟨t,rfl⟩:=r;exact⟨[],by rw[toP];exact .str _ t⟩
 | _,_,_,u,.tup h hs,r=>by
  cases r;obtain⟨its,rv,pl,_⟩:=I.tuple h;obtain⟨as,ra⟩:=hs.reads I rv;obtain⟨o,ho,hc,n,hd⟩:=pl;exact⟨as,by rw[toP];exact .tuple ho hc hd (by simpa using ra)⟩
 | _,_,_,u,.lst h hs,r=>by
  cases r;obtain⟨its,rv,pl,_⟩:=I.list h;obtain⟨as,ra⟩:=hs.reads I rv;obtain⟨o,ho,hc,n,hd⟩:=pl.isList;exact⟨_::as,by rw[toP];exact .list ho hc hd (by simpa using ra)⟩
theorem dO.reads {y7:List (Addr × Obj)}{σ:St}{H:Hp}{s:Shared}(I:Inv X y7 σ H s):∀{n:Nat} {ds:List Dt} {xs:List V} {us:List Value},dO X.K H n ds xs->Vals xs us->∃as,ReadsAll s.heap us (je ds) as
 | _,_,_,us,.nil,r=>by cases r;exact⟨[],by rw[je];exact .nil⟩
 | _,_,_,us,.cons h hs,r=>by
  cases r with
  | cons q t=>
   obtain⟨as,a⟩:=h.reads I q;obtain⟨bs,b⟩:=hs.reads I t;exact⟨as++bs,by rw[je];exact .cons a b⟩
end
theorem ju.shaped {K:W.Frag}{H:Hp}{n:Nat}{d:Dt}{x:V}(h:ju K H n d x)(hn:n<=64):SeqAt.shaped (toP d)=true:=by
 unfold SeqAt.shaped;rw[h.lay.1,decide_eq_true (Nat.le_trans h.lay.2 hn)];rfl
open Classical in
noncomputable def ado (K:W.Frag)(neg:Bool):R2:=λx y H Q=>∃n d e,n<=64/\ju K H n d x/\ju K H n e y/\Q (.bl (if neg then !decide (d=e) else decide (d=e))) H
theorem Ew (hu:X.A.units+64 < cLine):dZ X (compareOp .Eq) (ado X.K false):=by
 intro y7 s σ H x y v u Q I rx ry h;obtain⟨n,d,e,hn,hd,he,q⟩:=h;obtain⟨as,ra⟩:=hd.reads I rx;obtain⟨bs,rb⟩:=he.reads I ry;refine SeqAt.compareEq_shaped ra rb (hd.shaped hn) (he.shaped hn) hu ⟨.bl _,H,I,rfl,?_⟩;rw[Gy];exact q
theorem Vi (hu:X.A.units+64 < cLine):dZ X (compareOp .NotEq) (ado X.K true):=by
 intro y7 s σ H x y v u Q I rx ry h;obtain⟨n,d,e,hn,hd,he,q⟩:=h;obtain⟨as,ra⟩:=hd.reads I rx;obtain⟨bs,rb⟩:=he.reads I ry;refine SeqAt.compareNe_shaped ra rb (hd.shaped hn) (he.shaped hn) hu ⟨.bl _,H,I,rfl,?_⟩;rw[Gy];exact q
noncomputable def adp (K:W.Frag):V->List V->Hp->VK->Prop:=λx vs H Q=>∃p ls,x=.str (S [])/\vs=[.ref p]/\aK K H p (Ts ls)/\ls.flatten.length<=1000/\Q (.str (S ls.flatten)) H
theorem Cw:vC X "str.join" (adp X.K):=by
 intro y7 s σ H x vs v us Q I rx rv h;obtain⟨p,ls,rfl,rfl,hq,hz,q⟩:=h;obtain⟨t,rfl⟩:=rx;obtain⟨u,rfl,ru⟩:=vals1 rv;cases ru;obtain⟨its,r,pl,_⟩:=I.tuple hq;refine join_tuple pl (ys:=ls.map S) (by simpa using Bb r) ?_ λt' k=>?_
 ·rw[P_];show _+_*0<=_;omega
 ·exact⟨.str (S ls.flatten),H,I.tok k,⟨t',congrArg (λz=>Value.str z t') (P0 ls)⟩,q⟩
end
theorem sJ {K:W.Frag}{a D:Addr}{xs:List V}{te:TE}{σ:St}{H:Hp}{R:Hp->Prop}(Pv:Nat->List V->Hp->Prop)(h0:Pv 0 [] (upd H D (.lst [])))(hl:∀i ys H,i<=xs.length->Pv i ys H->aK K H a xs)
  (hs:∀i x ys H,xs[i]?=some x->Pv i ys H->te (some x::σ) H λy H3=>H3 D=some (.lst ys)/\ys.length < sizeLine/\cX xs.length i (Pv (i+1) (ys++[y]) (upd H3 D (.lst (ys++[y])))))
  (hd:∀ys H,Pv xs.length ys H->R H) :
  ∃W:Nat->Nat->List V->Hp->Prop,(∃m,W 0 m [] (upd H D (.lst [])))/\
   ∀i m ys H,W i m ys H->((pQ K a).stop i H/\R H)\/((pQ K a).go i H/\∀x H',(pQ K a).nF i H x H'->fJ (some x::σ) H' λb H2=>
    if b=true then te (some x::σ) H2 λy H3=>H3 D=some (.lst ys)/\ys.length < sizeLine/\∃m',m' < m/\W (i+1) m' (ys++[y]) (upd H3 D (.lst (ys++[y])))
    else ∃m',m' < m/\W (i+1) m' ys H2):=by
 refine⟨λi m ys H=>m=xs.length-i/\i<=xs.length/\Pv i ys H,⟨xs.length,by simp,Nat.zero_le _,h0⟩,?_⟩;rintro i m ys H ⟨rfl,hi,p⟩;have q:=hl i ys H hi p;by_cases hlt:i < xs.length
 ·refine .inr ⟨⟨xs,xs[i],q,by simp[hlt]⟩,λx H' y=>?_⟩
  obtain⟨e,y⟩:=y;subst e;exact hs i x ys H' (y xs q) p
 ·have e:i=xs.length:=by omega
  subst e;exact .inl ⟨⟨xs,q,Nat.le_refl _⟩,hd ys H p⟩
end L2
namespace L2
open PySem PySem.Spec PyProof.Rows
section
variable {X:Cx}{x:Str}{pos:Pos}
theorem qO {l:List Nat}(hg:Gl X x)(hm:∃t,X.mg x=some (.str (S l) t))(hd:(x==("__debug__":Str))=false:=by decide):QE X (.Name x pos) (tC (.str (S l))):=
 let ⟨t,e⟩:=hm;fj hg e ⟨t,rfl⟩ hd
theorem Rw {i:Int}(hg:Gl X x)(hm:∃t,X.mg x=some (.int i t))(hd:(x==("__debug__":Str))=false:=by decide):QE X (.Name x pos) (tC (.int i)):=
 let ⟨t,e⟩:=hm;fj hg e ⟨t,rfl⟩ hd
theorem sO {o i:Expr}{to ti:TE}{t:Q9}(ho:QE X o to)(hi:QE X i ti)(hs:Xv X t)
  (ha:∀v,assign (.Subscript o i pos) X.env v=(do
   let ov <- holding [v] (eval o X.env)
   let iv <- holding [v,ov] (eval i X.env)
   standAt pos
   holding [v,ov,iv] (setItem ov iv v)
   release [v,ov,iv] []):=by intro _;rfl):QG X (.Subscript o i pos) (acG to ti t):=⟨acH ho.out hi.out hs ha⟩
end
theorem h_:bootBuiltins "all"=some (.builtin "all"):=by decide +kernel
theorem Iz:bootBuiltins "any"=some (.builtin "any"):=by decide +kernel
theorem KJ {K:W.Frag}{h:Heap}{mg:Str->Option Value}{x:Str}{l:List Nat}{t:Tok}(X:K.In h)(G:h.Ns mainGlobals mg)(a:W.nsIn K mainGlobals x=some (some (.str (S l) t))):∃t,mg x=some (.str (S l) t):=⟨t,W.mg_of X G a⟩
theorem KN {K:W.Frag}{h:Heap}{mg:Str->Option Value}{x:Str}{i:Int}{t:Tok}(X:K.In h)(G:h.Ns mainGlobals mg)(a:W.nsIn K mainGlobals x=some (some (.int i t))):∃t,mg x=some (.int i t):=⟨t,W.mg_of X G a⟩
section
variable {X:Cx}
theorem jw (K:W.Frag)  (h:X.K=K:=by rfl):Ks X (Ku K):=by subst h;exact aO
theorem KQ (K:W.Frag)  (h:X.K=K:=by rfl):fM X (.builtin "isinstance") (aah K):=by subst h;exact d7
theorem Yj (K:W.Frag)  (h:X.K=K:=by rfl):vC X "str.join" (rJoin K):=by subst h;exact rM
theorem JG (K:W.Frag)  (h:X.K=K:=by rfl):fM X (.type "list") (λxs H Q=>∃p ys,xs=[.ref p]/\(aN K H p ys\/aK K H p ys)/\∀l,H l=none->Q (.ref l) (upd H l (.lst ys))):=by subst h;exact Kz
theorem adq  {o e:Expr}{es:List Expr}{to:TE}{t:TA}{name:Str}{apos cpos:Pos}{T id:String}{r:V->List V->Hp->VK->Prop}(K:W.Frag)(pa:PlainAttrs T)(slot:Slot T name id)(hty:typeOf (.builtin id)=pure (.type "method_descriptor"))(hm:vC X id r)(ho:QE X o to)(ha:QA X (e::es) t)(hbase:attributeBase o name X.env (eval o X.env)=eval o X.env:=by rfl)(hfew:((backTo cpos (starEach (e::es) X.env)).all (λx=>!x.1)&&(backToKw cpos (keywordEach [] X.env)).all (λx=>x.1.isSome)
   && decide ((e::es).length+([]:List Keyword).length+(if ([]:List Keyword).isEmpty then 0 else 1) < 30))=true:=by rfl) (hline:(apos.endLine==cpos.line)=true:=by rfl) (hs:starEach (e::es) X.env=(false,eval e X.env)::starEach es X.env:=by rfl) (hplain:(backTo cpos (starEach es X.env)).any (·.1)=false:=by rfl) (h:X.K=K:=by rfl):QE X (.Call (.Attribute o name apos) (e::es) [] cpos) (tBM K T r to t):=by subst h;exact gA pa slot hty hm ho ha hbase hfew hline hs hplain
end
end L2
end
section
namespace L2
open PySem PySem.Spec PyProof.Rows
noncomputable def d9 (l:List Nat):List Nat:=l.takeWhile λc=>c != 46
noncomputable def dg (l:List Nat):List Nat:=(l.reverse.takeWhile λc=>c != 46).reverse
theorem wz:∀{l:List Nat} {i:Nat},l[i]?=some 46->(∀k,k < i->l[k]?≠some 46)->d9 l=l.take i
 | [],i,h,_=>by simp at h
 | c::l,0,h,_=>by
  have:c=46:=by simpa using h
  subst this;simp[d9]
 | c::l,i+1,h,hk=>by
  have hc:c≠46:=λe=>hk 0 (by omega) (by simp[e]);have ih:=wz (l:=l) (i:=i) (by simpa using h) (λk hk'=>by have:=hk (k+1) (by omega);simpa using this);unfold d9 at ih ⊢;rw[List.takeWhile_cons_of_pos (by simpa using hc),ih,List.take_succ_cons]
theorem yS {l:List Nat}(h:46∉l):d9 l=l:=by
 unfold d9
 induction l with
 | nil=>rfl
 | cons c r ih=>
  have hc:c≠46:=λe=>h (by rw[e];exact List.mem_cons_self);rw[List.takeWhile_cons_of_pos (by simpa using hc),ih λz=>h (List.mem_cons_of_mem _ z)]
theorem yU {l:List Nat}(h:46∉l):dg l=l:=by
 have:=yS (l:=l.reverse) (by simpa using h);unfold d9 at this;unfold dg;rw[this,List.reverse_reverse]
theorem KR {l:List Nat}{i:Nat}(h:l[i]?=some 46)(hk:∀k,i < k->l[k]?≠some 46):dg l=l.drop (i+1):=by
 have hi:i < l.length:=(List.getElem?_eq_some_iff.mp h).1;have e:d9 l.reverse=l.reverse.take (l.length-(i+1)):=by
  refine wz ?_ λk hk'=>?_
  ·rw[List.getElem?_reverse (by omega),show l.length-1-(l.length-(i+1))=i by omega];exact h
  ·rw[List.getElem?_reverse (by omega)]
   exact hk _ (by omega)
 unfold d9 at e;unfold dg;rw[e,List.take_reverse,List.reverse_reverse,show l.length-(l.length-(i+1))=i+1 by omega]
theorem KY (l:List Nat)(n:Nat):qF l none (some (n:Int))=l.take n:=by
 unfold qF;rw[HT.vB];show (l.drop 0).take (min n l.length-0)=_;rw[List.drop_zero,Nat.sub_zero];by_cases h:n<=l.length
 ·rw[Nat.min_eq_left h]
 ·rw[Nat.min_eq_right (by omega),List.take_of_length_le (Nat.le_refl _),List.take_of_length_le (by omega)]
theorem Cy (l:List Nat)(n:Nat):qF l (some (n:Int)) none=l.drop n:=by
 unfold qF;rw[HT.vB];show (l.drop (min n l.length)).take (l.length-min n l.length)=_;rw[List.take_of_length_le (by rw[List.length_drop];omega)];by_cases h:n<=l.length
 ·rw[Nat.min_eq_left h]
 ·rw[Nat.min_eq_right (by omega),List.drop_of_length_le (Nat.le_refl _),List.drop_of_length_le (by omega)]
theorem aaj (l:List Nat)(i j:Nat):Builtin.Str.strSub (S l) i j=S ((l.take j).drop i):=by
 unfold Builtin.Str.strSub S;congr 1;apply Array.toList_inj.mp;simp[List.drop_take]
section
variable {X:Cx}
theorem Vj (l:List Nat):(Txt.partition (S l) (S [46])).1=S (d9 l):=by
 rcases partition_head (S l) (S [46]) with⟨e,h⟩ | ⟨i,e,h,hk⟩
 ·rw[e,yS λhm=>?_]
  obtain⟨i,hi⟩:=List.mem_iff_getElem?.mp hm;exact h i ((StrLaws.subAt_one (S l) 46 i).mpr hi)
 ·rw[e,aaj,List.drop_zero,wz (l:=l) ((StrLaws.subAt_one (S l) 46 i).mp h) λk hk' z=>hk k hk' ((StrLaws.subAt_one (S l) 46 k).mpr z)]
theorem Rx (l:List Nat):(Txt.rpartition (S l) (S [46])).2.2=S (dg l):=by
 unfold Txt.rpartition;rcases StrLaws.last_spec (S l) (S [46]) with⟨e,h⟩ | ⟨i,e,h,hk⟩
 ·rw[e]
  show S l=_;rw[yU λhm=>?_];obtain⟨i,hi⟩:=List.mem_iff_getElem?.mp hm;exact h i ((StrLaws.subAt_one (S l) 46 i).mpr hi)
 ·rw[e]
  show Builtin.Str.strSub (S l) (i+1) l.length=_;rw[aaj,List.take_of_length_le (Nat.le_refl _),KR (l:=l) ((StrLaws.subAt_one (S l) 46 i).mp h) λk hk' z=>hk k hk' ((StrLaws.subAt_one (S l) 46 k).mpr z)]
noncomputable def aeU:V->List V->Hp->VK->Prop:=λx vs H Q=>∃l,x=.str (S l)/\vs=[.str (S [46])]/\l.length<=1000/\∀(p:Addr) (b c:Str),H p=none->Q (.ref p) (upd H p (.tup [.str (S (d9 l)),.str b,.str c]))
theorem aa3:vC X "str.partition" aeU:=by
 intro y7 s σ H x vs v us Q I rx rv h;obtain⟨l,rfl,rfl,hz,q⟩:=h;obtain⟨t,rfl⟩:=rx;obtain⟨u,rfl,ru⟩:=vals1 rv;obtain⟨t2,rfl⟩:=ru;have hsz:(S l).length<=sizeLine:=Nat.le_of_lt (aD hz);refine call_meets F.slot_str_partition (typeIs_str _ _ _) F.entry_str_partition (F.args_str_partition_2 _ _) (meets_str_partition (S l) (S [46]) t t2 rfl hsz) ?_;have e:=Vj l;have q':=λb c=>q s.heap.objs.size b c (I.hok.fresh (Nat.le_refl _));rw[<- e]at q';unfold Txt.partition at q'
 revert q'
 cases Builtin.Str.occurrences (S l) (S [46]) 0 (S l).length 1 with
 | nil=>
  intro q';refine⟨.ref s.heap.objs.size,_,I.laid (o:=.tup _) (t':=s.toks+1) (λb ob z=>Heap.get?_push_of_some _ z) (Nat.le_refl _) ?_,rfl,q' Str.empty Str.empty⟩;exact⟨by show 3<=sizeLine;decide,_,.cons ⟨_,rfl⟩ (.cons ⟨_,rfl⟩ (.cons ⟨_,rfl⟩ .nil)),⟨_,Heap.get?_push_size _ rfl,rfl,0,rfl⟩⟩
 | cons i r=>
  intro q';refine⟨.ref s.heap.objs.size,_,I.laid (o:=.tup _) (t':=s.toks+1+1) (λb ob z=>Heap.get?_push_of_some _ z) (Nat.le_refl _) ?_,rfl,q' (S [46]) (Builtin.Str.strSub (S l) (i+(S [46]).length) (S l).length)⟩;exact⟨by show 3<=sizeLine;decide,_,.cons ⟨_,rfl⟩ (.cons ⟨_,rfl⟩ (.cons ⟨_,rfl⟩ .nil)),⟨_,Heap.get?_push_size _ rfl,rfl,0,rfl⟩⟩
noncomputable def adt:V->List V->Hp->VK->Prop:=λx vs H Q=>∃l,x=.str (S l)/\vs=[.str (S [46])]/\l.length<=1000/\∀(p:Addr) (a b:Str),H p=none->Q (.ref p) (upd H p (.tup [.str a,.str b,.str (S (dg l))]))
theorem Yk:vC X "str.rpartition" adt:=by
 intro y7 s σ H x vs v us Q I rx rv h;obtain⟨l,rfl,rfl,hz,q⟩:=h;obtain⟨t,rfl⟩:=rx;obtain⟨u,rfl,ru⟩:=vals1 rv;obtain⟨t2,rfl⟩:=ru;have hsz:(S l).length<=sizeLine:=Nat.le_of_lt (aD hz);refine call_meets F.slot_str_rpartition (typeIs_str _ _ _) F.entry_str_rpartition (F.args_str_rpartition_2 _ _) (meets_str_rpartition (S l) (S [46]) t t2 rfl hsz) ?_;have e:=Rx l;have q':=λb c=>q s.heap.objs.size b c (I.hok.fresh (Nat.le_refl _));rw[<- e]at q';unfold Txt.rpartition at q'
 revert q'
 cases Builtin.Str.lastOccurrence (S l) (S [46]) 0 (S l).length with
 | none=>
  intro q';refine⟨.ref s.heap.objs.size,_,I.laid (o:=.tup _) (t':=s.toks+1) (λb ob z=>Heap.get?_push_of_some _ z) (Nat.le_refl _) ?_,rfl,q' Str.empty Str.empty⟩;exact⟨by show 3<=sizeLine;decide,_,.cons ⟨_,rfl⟩ (.cons ⟨_,rfl⟩ (.cons ⟨_,rfl⟩ .nil)),⟨_,Heap.get?_push_size _ rfl,rfl,0,rfl⟩⟩
 | some i=>
  intro q';refine⟨.ref s.heap.objs.size,_,I.laid (o:=.tup _) (t':=s.toks+1+1) (λb ob z=>Heap.get?_push_of_some _ z) (Nat.le_refl _) ?_,rfl,q' (Builtin.Str.strSub (S l) 0 i) (S [46])⟩;exact⟨by show 3<=sizeLine;decide,_,.cons ⟨_,rfl⟩ (.cons ⟨_,rfl⟩ (.cons ⟨_,rfl⟩ .nil)),⟨_,Heap.get?_push_size _ rfl,rfl,0,rfl⟩⟩
end
end L2
end
section
namespace L2
open PySem PySem.Spec PyProof.Rows
noncomputable def cR (X:Cx)(scope:Scope)(cl:List (Str × Addr))(C:Addr)(N:List Str)(s₀:Shared)(H₀:Hp)(fp:List Addr):Cx:=
 { X with N:=N,s₀:=s₀,H₀:=H₀,env:=compEnvC scope cl C X.env,outer:=X.stack,ex:=fp,fn:=λ_=>false,pn:=[],xe:=λ_ _=>False }
structure dR (X:Cx)(scope:Scope)(ns N2:List Str)(f:St->St):Prop where
 kind:scope.kind=.function
 pq:∀y∈scope.names,y.2≠.cell
 names:∀y∈scope.names,y.2=.local->scope.names.lookup y.1=some .local
 free:∀y∈scope.names,y.2=.free->X.env.kindOf y.1=some .cell\/X.env.kindOf y.1=some .free
 Yl:∀σ:St,(f σ).length=σ.length
 Ym:N2.length=X.N.length
 out:∀(σ:St) (i:Nat) (y:Str) (v:V),N2[i]?=some y->(f σ)[i]?=some (some v)->X.N[i]?=some y/\σ[i]?=some (some v)/\scope.names.lookup y≠some .local
noncomputable def IK (X:Cx)(tg:Expr)(k:Nat)(TP:V->Hp->(St->Prop)->Prop):Prop:=
 ∀(y7:List (Addr × Obj)) (s:Shared) (pre rest:St) (H:Hp) (v:V) (u:Value) (Q:St->Prop),pre.length=k->Inv X y7 (pre++rest) H s->RelV v u->TP v H Q->
  wpAny (model X.prog X.w) X.A (assign tg X.env u) (λ_ s'=>∃pre',pre'.length=k/\Inv X y7 (pre'++rest) H s'/\Q pre') (λ_ _=>False) s
noncomputable def Ey (f:St->St)(k:Nat)(wi:TI)(TP:V->Hp->(St->Prop)->Prop)(tt:TT)(te:TE):TE:=λσ H Q=>wi σ H λJ H1=>∀D,H1 D=none->∃W:Nat->Nat->List V->Hp->Prop,(∃m,W 0 m [] (upd H1 D (.lst [])))/\
 ∀i m ys H,W i m ys H->(J.stop i H/\Q (.ref D) H)\/(J.go i H/\∀x H',J.nF i H x H'->TP x H' λpre=>tt (pre++f σ) H' λb H2=>
  if b=true then te (pre++f σ) H2 λy H3=>H3 D=some (.lst ys)/\ys.length < sizeLine/\∃m',m' < m/\W (i+1) m' (ys++[y]) (upd H3 D (.lst (ys++[y])))
  else ∃m',m' < m/\W (i+1) m' ys H2)
theorem Yn {X:Cx}{elt iter tg:Expr}{ns N2:List Str}{f:St->St}{TP:V->Hp->(St->Prop)->Prop}{ifs:List Expr}{scope:Scope}{pos:Pos}{wi:TI}{tt:TT}{te:TE}(hc:X.calm=true)(ok:dR X scope ns N2 f)(hi:PI X tg iter wi)
  (hg:∀cl C s₀ H₀ fp,IK (cR X scope cl C (ns++N2) s₀ H₀ fp) tg ns.length TP)
  (ht:∀cl C s₀ H₀ fp,PK (cR X scope cl C (ns++N2) s₀ H₀ fp) ifs tt) (he:∀cl C s₀ H₀ fp,PE (cR X scope cl C (ns++N2) s₀ H₀ fp) elt te)
  (hs:∀x,foldedSetIterable iter X.env x=pure x:=by intro _;rfl):PE X (.ListComp elt [⟨tg,iter,ifs,0⟩] scope pos) (Ey f ns.length wi TP tt te):=by
 intro y7 s σ H Q I h;obtain⟨cl,hcl,hsub,_,hall⟩:=nG (env:=X.env) scope.names (λy hy e=>I.ok.has y.1 (ok.free y hy e)) [] (λ_ _ z=>by simp at z);have hclos:closureFor scope X.env=pure cl:=by
  unfold closureFor;simp only[bind_pure];exact hcl
 rw[eval_ListComp];refine wpAny_comprehension_free (use:=none) (E:=X.xe) (cl:=cl) rfl hs hclos ok.kind ok.names (bG (hi y7 s σ H _ I h) λv s1 h1=>bG h1 λitv s2 h2=>?_);obtain⟨it,fp,tn,J,H2,e,I2,T,st2,f2,R⟩:=h2;subst e;obtain⟨W,⟨m0,w0⟩,turn⟩:=R s2.heap.objs.size I2.fresh;refine wpAny_newObj_type (wpAny_newFunctionEnv ok.pq (by intro y hy;simp at hy) (λh₁ hns₁ hsb₁=>?_) ok.kind);dsimp only at hns₁ hsb₁ ⊢;have I3:Inv X y7 σ (upd H2 s2.heap.objs.size (.lst [])) { s2 with heap:=s2.heap.push { cls:=.type "list",data:=.seq ([]:List Value).toArray } }:=I2.Ro (t':=s2.toks) (ys:=[]) (its:=[]) .nil (Nat.zero_le _);generalize U3:upd H2 s2.heap.objs.size (HO.lst [])=H3 at *
 generalize hs3:s2.heap.push { cls:=.type "list",data:=.seq ([]:List Value).toArray }=hp3 at *
 generalize hD:s2.heap.objs.size=D at *
 generalize hC:hp3.objs.size=C at *
 have hDC:D < C:=by rw[<- hC,<- hs3,Heap.size_push,hD];exact Nat.lt_succ_self _
 have old:∀b o,hp3.get? b=some o->h₁.get? b=some o:=λb o e=>(hsb₁.2 b (by rw[<- hC];exact Nat.ne_of_lt (Heap.lt_size e))).trans (Heap.get?_push_of_some _ e);have Im:∀b∈fp,b < C:=λb hb=>by
  obtain⟨o,e,_⟩:=T.obj _ _ st2 b hb;rw[<- hC,<- hs3,Heap.size_push];exact Nat.lt_succ_of_lt (Heap.lt_size e)
 have f3:∀b∈fp,mG X y7 H3 b:=λb hb=>by
  obtain⟨o,e,_⟩:=T.obj _ _ st2 b hb;refine⟨?_,(f2 b hb).2⟩;rw[<- U3,aP (by rw[<- hD];exact Nat.ne_of_lt (Heap.lt_size e))];exact(f2 b hb).1
 have yN:∀b∈fp,b∉frs X.stack:=λb hb z=>by
  obtain⟨_,g1,g2,_⟩:=f3 b hb;rcases List.mem_cons.mp (I3.vp b z) with q | q
  ·exact g1 q
  ·exact g2 q
 have U4:(cR X scope cl C (ns++N2) { s2 with heap:=hp3 } H3 fp).Ok:=by
  refine⟨I.ok.mod,?_,I.ok.glob,I.ok.blt,Nat.le_of_eq hC,?_,?_,?_,I.ok.hd,I.ok.frames,.inl rfl,?_,?_,?_,?_,?_,?_,?_⟩
  ·exact ok.kind
  ·exact λa b c h1 h2=>I.ok.inj a b c (hsub a c h1) (hsub b c h2)
  ·intro a ha
   refine hall a ?_;rcases ha with z | z
   ·rcases bZ (env:=X.env) z with q | ⟨_,q⟩
    ·exact absurd rfl (ok.pq _ (cA q))
    ·exact cA q
   ·rcases bZ (env:=X.env) z with q | ⟨q,_⟩
    ·exact cA q
    ·cases q
  ·intro a c hf;cases hf
  ·intro b hb
   refine⟨Nat.ne_of_lt (Im b hb),λa c h1=>(f3 b hb).2.2.2.2.1 a c (hsub a c h1)⟩
  ·exact I3.bs
  ·exact Nat.le_trans I.ok.qK I3.sz
  ·intro b o e hb
   rcases(f3 b hb).2.2.2.1 with z | z
   ·exact I.ok.uN b o e z
   ·exact absurd (Nat.lt_of_lt_of_le (Heap.lt_size e) (Nat.le_trans I.ok.qK z)) (Nat.lt_irrefl _)
  ·exact yN
  ·exact I3.stack
  ·exact I3.oG
 have Y0:Inv (cR X scope cl C (ns++N2) { s2 with heap:=hp3 } H3 fp) [] (List.replicate ns.length none++f σ) H3 { s2 with heap:=h₁,toks:=s2.toks+([]:List (Str × Value)).length }:=by
  refine⟨U4,rfl,I3.bare,Un.kept old,⟨_,hns₁,?_⟩,?_,?_,?_,λp hp=>by simp[cR]at hp,I3.hok.kept old,?_⟩
  ·intro i y v e1 e2 e3
   by_cases hin:i < ns.length
   ·rw[List.getElem?_append_left (by rw[List.length_replicate];exact hin),List.getElem?_replicate,if_pos hin]at e2
    simp at e2
   ·obtain⟨i,rfl⟩:∃k,i=ns.length+k:=⟨i-ns.length,by omega⟩
    have Vk:(ns++N2)[ns.length+i]?=some y:=e1;rw[List.getElem?_append_right (by omega),Nat.add_sub_cancel_left]at Vk;rw[List.getElem?_append_right (by rw[List.length_replicate];omega),List.length_replicate,Nat.add_sub_cancel_left]at e2;obtain⟨e1',e2',hout⟩:=ok.out σ i y v Vk e2;have hfree:(y,NameKind.free)∈scope.names:=by
     have key:∀k,(relabel scope X.env).names.lookup y=some k->k≠.local->k=.cell\/k=.free->(y,NameKind.free)∈scope.names:=λk q n hk=>by
      rcases bZ (env:=X.env) q with z | ⟨_,z⟩
      ·rcases hk with rfl | rfl
       ·exact absurd rfl (ok.pq _ (cA z))
       ·exact cA z
      ·exact cA z
     rcases e3 with z | z | z
     ·rcases bZ (env:=X.env) z with q | ⟨q,_⟩
      ·exact absurd q hout
      ·cases q
     ·exact key _ z (by decide) (.inl rfl)
     ·exact key _ z (by decide) (.inr rfl)
    have hk:=ok.free _ hfree rfl;obtain⟨m,hn,hl⟩:=I3.loc;obtain⟨u,r,q⟩:=hl i y v e1' e2' (by rcases hk with z | z;exact .inr (.inl z);exact .inr (.inr z));refine⟨u,r,.inr ⟨?_,?_⟩⟩
    ·rcases e3 with z | z | z
     ·rcases bZ (env:=X.env) z with q | ⟨q,_⟩
      ·exact absurd q hout
      ·cases q
     ·exact .inl z
     ·exact .inr z
    ·rcases q with⟨z,_⟩ | ⟨_,c,hc',hcell⟩
     ·rcases hk with q | q <;> (rw[z]at q;cases q)
     ·obtain⟨c',hc2⟩:=hall y hfree
      have:c'=c:=by have:=hsub y c' hc2;rw[hc']at this;exact(Option.some.inj this).symm
      subst this;obtain⟨o,ho,hd⟩:=hcell;exact⟨c',hc2,o,old _ _ ho,hd⟩
  ·intro a c h1
   obtain⟨v,o,ho,hd⟩:=I3.cell a c (hsub a c h1);exact⟨v,o,old _ _ ho,hd⟩
  ·show H3 C=none
   exact I3.hok.fresh (Nat.le_of_eq hC)
  ·exact λa c h1=>I3.iM a c (hsub a c h1)
  ·show (List.replicate ns.length none++f σ).length=(ns++N2).length
   rw[List.length_append,List.length_append,List.length_replicate,ok.Yl,I.len,ok.Ym]
 have back:∀(s':Shared) (v:St) (H':Hp) (h':Heap),Inv (cR X scope cl C (ns++N2) { s2 with heap:=hp3 } H3 fp) [] v H' s'->Heap.SameBut C s'.heap h'->(∀b∈fp,H' b=none)->Inv X y7 σ H' { s' with heap:=h' }:=by
  intro s' v H' h' I' sb fr;have qL:∀b o,hp3.get? b=some o->b≠C:=λb o e=>by rw[<- hC];exact Nat.ne_of_lt (Heap.lt_size e)
  have U:Un (frs X.stack) fp H3 H' hp3 s'.heap:=I'.base;refine I3.call' (ch:=fp) (H':=H') (s':={ s' with heap:=h' }) I'.os ⟨λb o e n h1 h2=>(sb.2 b (qL b o e)).trans (U.keep b o e n h1 h2),λb o e n h1 h2=>?_,U.free,λb o e h2=>?_,U.tups,U.jX,U.j8⟩ (λb ob e=>?_) I'.bare λb hb=>?_
  ·obtain⟨sl,q⟩:=U.slot b o e n h1 h2
   exact⟨sl,(sb.2 b (qL b o e)).trans q⟩
  ·obtain⟨o',q⟩:=U.there b o e h2
   exact⟨o',(sb.2 b (qL b o e)).trans q⟩
  ·have fC:H' C=none:=I'.free
   refine(I'.hok b ob e).stay (λc w' hc q=>(sb.2 c ?_).trans q) (λ_ q=>q) λ_ _ q=>q;rintro rfl;rcases hc with rfl | hc
   ·rw[fC]at e;cases e
   ·rw[fC]at hc;cases hc
  ·obtain⟨_,g1,_,g3,g4,g5⟩:=f3 b hb
   exact⟨g3,g1,g4,g5⟩
 have stat:∀{H':Hp},(∀b∈fp,H' b=none)->∀b∈fp,mG (cR X scope cl C (ns++N2) { s2 with heap:=hp3 } H3 fp) [] H' b:=λhn b hb=>
  ⟨hn b hb,Nat.ne_of_lt (Im b hb),yN b hb,.inl hb,λa c h1=>(f3 b hb).2.2.2.2.1 a c (hsub a c h1),λp hp=>by simp[cR]at hp⟩
 have st₁:tn 0 h₁:=T.keep _ _ _ st2 λb _ o e=>old b o (by rw[<- hs3];exact Heap.get?_push_of_some _ e);have loop:codeAny (model X.prog X.w) X.A (.compLoop (.ListComp elt [⟨tg,iter,ifs,0⟩] scope pos) 0 (.ref it) (.ref D) (compEnvC scope cl C X.env)) (compPost (model X.prog X.w) X.A X.xe none (EP X y7 σ Q) (.ref D) C)
   { s2 with heap:=h₁,toks:=s2.toks+([]:List (Str × Value)).length }:=by
  refine wj (λn s'=>∃i v ys H',v.length=ns.length/\Inv (cR X scope cl C (ns++N2) { s2 with heap:=hp3 } H3 fp) [] (v++f σ) H' s'/\tn i s'.heap/\(∀b∈fp,H' b=none)/\W i n ys H') ?_ m0 ⟨0,List.replicate ns.length none,[],H3,List.length_replicate,Y0,st₁,λb hb=>(f3 b hb).1,w0⟩;rintro n s4 ⟨i,v,ys,H4,hv4,I4,Io,yO,w4⟩;rcases turn i n ys H4 w4 with⟨stop,qn⟩ | ⟨go,step⟩
  ·refine bG (T.done (cR X scope cl C (ns++N2) { s2 with heap:=hp3 } H3 fp) rfl rfl rfl hc i [] s4 (v++f σ) H4 _ I4 (stat yO) Io stop) λr s5 ⟨hr,I5⟩=>?_
   subst hr;obtain⟨m,hn,_⟩:=id I5.loc;exact⟨m,hn,λh' sb=>⟨.ref D,H4,back s5 (v++f σ) H4 h' I5 sb yO,rfl,qn⟩⟩
  ·refine bG (T.item (cR X scope cl C (ns++N2) { s2 with heap:=hp3 } H3 fp) rfl rfl rfl hc i [] s4 (v++f σ) H4 _ I4 (stat yO) Io go) λr s5 zz=>?_;obtain⟨u,hr,h5⟩:=zz
   subst hr;refine bG h5 λ_ s6 zz=>?_;obtain⟨y,H6,I6,r6,y6,yP,U5⟩:=zz;have U6:=I6.pinned (stat U5) (T.obj _ _ yP);refine bG (hg cl C { s2 with heap:=hp3 } H3 fp _ s6 v (f σ) H6 y u _ hv4 U6 r6 (step y H6 y6)) λ_ s7 zz=>?_;obtain⟨pre,hpre,U7,q7⟩:=zz;refine bG (ht cl C { s2 with heap:=hp3 } H3 fp _ s7 _ H6 _ U7 q7) λb s8 zz=>?_;obtain⟨H8,I8,q8⟩:=zz;have pW:∀{σ':St} {H':Hp} {s':Shared},Inv (cR X scope cl C (ns++N2) { s2 with heap:=hp3 } H3 fp) ([]++rW fp s6.heap) σ' H' s'->tn (i+1) s'.heap/\∀b∈fp,H' b=none:=λ{σ' H' s'} I9=>by
    refine⟨T.keep _ _ _ yP λb hb o e=>(I9.pin (b,o) (List.mem_append_right _ (List.mem_append_right _ (iT hb e)))).1,λb hb=>?_⟩;obtain⟨o,e,d⟩:=T.obj _ _ yP b hb;exact(I9.pin (b,o) (List.mem_append_right _ (List.mem_append_right _ (iT hb e)))).2.1
   cases b with
   | false=>
    obtain⟨m',hm,w'⟩:=q8;obtain⟨k1,k2⟩:=pW I8;exact⟨m',hm,i+1,pre,ys,H8,hpre,I8.jF,k1,k2,w'⟩
   | true=>
    have U8:te (pre++f σ) H8 _:=q8;show wpAny _ _ (eval elt _) _ _ _;refine bG (he cl C { s2 with heap:=hp3 } H3 fp _ s8 _ H8 _ I8 U8) λz s9 zz=>?_;obtain⟨zv,H9,I9,r9,U9,U_,m',hm,w'⟩:=zz;refine bG (g_ (X:=cR X scope cl C (ns++N2) { s2 with heap:=hp3 } H3 fp) _ s9 _ H9 (.ref D) [zv] (.ref D) [z] (λ_ H'=>H'=upd H9 D (.lst (ys++[zv]))) I9 rfl (.cons r9 .nil) ⟨D,ys,zv,rfl,rfl,U9,U_,rfl⟩) λ_ PL zz=>?_;obtain⟨_,H10,Ip,_,e10⟩:=zz;subst e10;obtain⟨k1,k2⟩:=pW Ip;exact⟨m',hm,i+1,pre,ys++[zv],_,hpre,Ip.jF,k1,k2,w'⟩
 exact codeAny_compStart_list loop (T.self X.A 0 _ _ _ st₁ loop)
noncomputable def dB (ks:List Nat):Nat->St->St
 | _,[]=>[]
 | i,v::r=>(if ks.contains i=true then none else v)::dB ks (i+1) r
theorem IV (ks:List Nat):∀(i:Nat) (σ:St),(dB ks i σ).length=σ.length
 | _,[]=>rfl
 | i,_::r=>by rw[dB,List.length_cons,List.length_cons,IV ks (i+1) r]
theorem IW (ks:List Nat):∀(i:Nat) (σ:St) (j:Nat) (v:V),(dB ks i σ)[j]?=some (some v)->ks.contains (i+j)=false/\σ[j]?=some (some v)
 | _,[],j,v,h=>by simp[dB]at h
 | i,x::r,0,v,h=>by
  rw[dB]at h;cases e:ks.contains i with
  | true=>rw[e]at h;simp at h
  | false=>rw[e]at h;exact⟨by first | rfl | exact e,by simpa using h⟩
 | i,x::r,j+1,v,h=>by
  rw[dB,List.getElem?_cons_succ]at h;obtain⟨a,b⟩:=IW ks (i+1) r j v h;exact⟨by rw[show i+(j+1)=i+1+j by omega];exact a,by rw[List.getElem?_cons_succ];exact b⟩
noncomputable def adu (sc:Scope)(N:List Str)(scope:Scope)(N2:List Str)(ks:List Nat):Bool:=
 scope.kind == .function&&scope.names.all (λy=>y.2 != .cell)&&scope.names.all (λy=>y.2 != .local||scope.names.lookup y.1==some .local) &&
 scope.names.all (λy=>y.2 != .free||sc.names.lookup y.1==some .cell||sc.names.lookup y.1==some .free)&&N2.length==N.length &&
 (List.range N.length).all (λi=>ks.contains i||(N2[i]? == N[i]? && (N[i]?.map λy=>scope.names.lookup y != some .local)==some true))
theorem dR.of {X:Cx}{scope:Scope}{ns:List Str}(N2:List Str)(ks:List Nat)(h:adu X.env.scope X.N scope N2 ks=true):dR X scope ns N2 (dB ks 0):=by
 unfold adu at h;simp only[Bool.and_eq_true,List.all_eq_true,Bool.or_eq_true,bne_iff_ne,beq_iff_eq,ne_eq]at h;obtain⟨⟨⟨⟨⟨h1,h2⟩,h3⟩,h5⟩,h6⟩,h7⟩:=h;refine⟨h1,λy hy=>h2 y hy,λy hy e=>(h3 y hy).resolve_left λz=>z e,λy hy e=>?_,IV ks 0,h6,λσ i y v e1 e2=>?_⟩
 ·rcases h5 y hy with(z | z) | z
  ·exact absurd e z
  ·exact .inl z
  ·exact .inr z
 ·obtain⟨a,b⟩:=IW ks 0 σ i v e2
  rw[Nat.zero_add]at a;have hi:i < X.N.length:=by rw[<- h6];exact(List.getElem?_eq_some_iff.mp e1).1
  rcases h7 i (List.mem_range.mpr hi) with z | ⟨z1,z2⟩
  ·rw[a]at z;cases z
  ·rw[<- z1,e1]at z2
   rw[z1]at e1;exact⟨e1,b,by simpa using z2⟩
theorem oO {X:Cx}{scope:Scope}{cl:List (Str × Addr)}{C:Addr}{N:List Str}{s₀:Shared}{H₀:Hp}{fp:List Addr}{x:Str}{pos:Pos}(hN:N.Nodup)(h0:N[0]?=some x)(hx:scope.names.lookup x=some .local) :
  IK (cR X scope cl C N s₀ H₀ fp) (.Name x pos) 1 (λv _ Q=>Q [some v]):=by
 intro y7 s pre rest H v u Q hp I r q;obtain⟨p0,rfl⟩:=List.length_eq_one_iff.mp hp;refine bG (jq (X:=cR X scope cl C N s₀ H₀ fp) (i:=0) hN h0 (.inl (lookup_relabel_local hx)) (.inr (lookup_relabel_local hx)) y7 s _ H v u (λσ' H'=>H'=H/\σ'=some v::rest) I r ⟨rfl,rfl⟩) λ_ s' zz=>?_;obtain⟨σ',H',I',e1,e2⟩:=zz;subst e1 e2;exact⟨[some v],rfl,I',q⟩
theorem rO {X:Cx}{scope:Scope}{cl:List (Str × Addr)}{C:Addr}{N:List Str}{s₀:Shared}{H₀:Hp}{fp:List Addr}{x y:Str}{px py pos:Pos}{k:Nat}(K:W.Frag)(hc:X.calm=true)(hN:N.Nodup)(h0:N[0]?=some x)(h1:N[1]?=some y)(hx:scope.names.lookup x=some .local)(hy:scope.names.lookup y=some .local)(hK:X.K=K:=by rfl) :
  IK (cR X scope cl C N s₀ H₀ fp) (.Tuple [.Name x px,.Name y py] k pos) 2 (λv H Q=>∃a p q,v=.ref a/\aK K H a [p,q]/\Q [some p,some q]):=by
 subst hK;intro y7 s pre rest H v u Q hp I r q;obtain⟨a,p,q',rfl,hq,q⟩:=q;obtain⟨p0,p1,rfl⟩:∃p0 p1,pre=[p0,p1]:=by
  match pre,hp with
  | [p0,p1],_=>exact⟨p0,p1,rfl⟩
 have P:PG (cR X scope cl C N s₀ H₀ fp) (.Tuple [.Name x px,.Name y py] k pos) (Km X.K 2 (nD (jE 0) (nD (jE 1) Kl))):=Em (X:=cR X scope cl C N s₀ H₀ fp) hc (jd (jq (i:=0) hN h0 (.inl (lookup_relabel_local hx)) (.inr (lookup_relabel_local hx))) (jd (jq (i:=1) hN h1 (.inl (lookup_relabel_local hy)) (.inr (lookup_relabel_local hy))) Ax));refine bG (P y7 s _ H (.ref a) u (λσ' H'=>H'=H/\σ'=some p::some q'::rest) I r
  ⟨a,[p,q'],rfl,hq,rfl,p,[q'],rfl,q',[],rfl,rfl,rfl,rfl⟩) λ_ s' ⟨σ',H',I',e1,e2⟩=>?_
 subst e1 e2;exact⟨[some p,some q'],rfl,I',q⟩
theorem lB {X:Cx}{scope:Scope}{cl:List (Str × Addr)}{C:Addr}{N:List Str}{s₀:Shared}{H₀:Hp}{fp:List Addr}{x y z:Str}{px py pz pos:Pos}{k:Nat}(K:W.Frag)(hc:X.calm=true)(hN:N.Nodup)(h0:N[0]?=some x)(h1:N[1]?=some y)(h2:N[2]?=some z)(hx:scope.names.lookup x=some .local)(hy:scope.names.lookup y=some .local)(hz:scope.names.lookup z=some .local)(hK:X.K=K:=by rfl) :
  IK (cR X scope cl C N s₀ H₀ fp) (.Tuple [.Name x px,.Name y py,.Name z pz] k pos) 3 (λv H Q=>∃a p q r,v=.ref a/\aK K H a [p,q,r]/\Q [some p,some q,some r]):=by
 subst hK;intro y7 s pre rest H v u Q hp I r q;obtain⟨a,p,q',r',rfl,hq,q⟩:=q;obtain⟨p0,p1,p2,rfl⟩:∃p0 p1 p2,pre=[p0,p1,p2]:=by
  match pre,hp with
  | [p0,p1,p2],_=>exact⟨p0,p1,p2,rfl⟩
 have P:PG (cR X scope cl C N s₀ H₀ fp) (.Tuple [.Name x px,.Name y py,.Name z pz] k pos) (Km X.K 3 (nD (jE 0) (nD (jE 1) (nD (jE 2) Kl)))):=Em (X:=cR X scope cl C N s₀ H₀ fp) hc (jd (jq (i:=0) hN h0 (.inl (lookup_relabel_local hx)) (.inr (lookup_relabel_local hx))) (jd (jq (i:=1) hN h1 (.inl (lookup_relabel_local hy)) (.inr (lookup_relabel_local hy))) (jd (jq (i:=2) hN h2 (.inl (lookup_relabel_local hz)) (.inr (lookup_relabel_local hz))) Ax)));refine bG (P y7 s _ H (.ref a) u (λσ' H'=>H'=H/\σ'=some p::some q'::some r'::rest) I r
  ⟨a,[p,q',r'],rfl,hq,rfl,p,[q',r'],rfl,q',[r'],rfl,r',[],rfl,rfl,rfl,rfl⟩) λ_ s' ⟨σ',H',I',e1,e2⟩=>?_
 subst e1 e2;exact⟨[some p,some q',some r'],rfl,I',q⟩
theorem dJ {X:Cx}{elt iter tg:Expr}{ns N2:List Str}{f:St->St}{TP:V->Hp->(St->Prop)->Prop}{ifs:List Expr}{scope:Scope}{pos:Pos}{wi:TI}{tt:TT}{te:TE}(hc:X.calm=true)(ok:dR X scope ns N2 f)(hi:QI X tg iter wi)
  (hg:∀cl C s₀ H₀ fp,IK (cR X scope cl C (ns++N2) s₀ H₀ fp) tg ns.length TP)
  (ht:∀cl C s₀ H₀ fp,Vc (cR X scope cl C (ns++N2) s₀ H₀ fp) ifs tt) (he:∀cl C s₀ H₀ fp,QE (cR X scope cl C (ns++N2) s₀ H₀ fp) elt te)
  (hs:∀x,foldedSetIterable iter X.env x=pure x:=by intro _;rfl):QE X (.ListComp elt [⟨tg,iter,ifs,0⟩] scope pos) (Ey f ns.length wi TP tt te):=
 ⟨Yn hc ok hi.out hg (λcl C s₀ H₀ fp=>(ht cl C s₀ H₀ fp).out) (λcl C s₀ H₀ fp=>(he cl C s₀ H₀ fp).out) hs⟩
noncomputable def nJ (n i:Nat)(D:Addr)(TP:V->Hp->(St->Prop)->Prop)(f:St->St)(σ:St)(tt:TT)(te:TE)(x:V)(H:Hp)(ys:List V)(P:List V->Hp->Prop):Prop:=
 TP x H λpre=>tt (pre++f σ) H λb H2=>if b=true then te (pre++f σ) H2 λy H3=>H3 D=some (.lst ys)/\ys.length < sizeLine/\cX n i (P (ys++[y]) (upd H3 D (.lst (ys++[y])))) else cX n i (P ys H2)
theorem uQ {K:W.Frag}{a:Addr}{xs:List V}{D:Addr}{f:St->St}{tt:TT}{te:TE}{σ:St}{H:Hp}{R:Hp->Prop}(Pv:Nat->List V->Hp->Prop)(h0:Pv 0 [] (upd H D (.lst [])))(hl:∀i ys H,i<=xs.length->Pv i ys H->aN K H a xs)
  (hs:∀i x ys H,xs[i]?=some x->Pv i ys H->nJ xs.length i D (λv _ Q=>Q [some v]) f σ tt te x H ys (Pv (i+1)))
  (hd:∀ys H,Pv xs.length ys H->R H) :
  ∃W:Nat->Nat->List V->Hp->Prop,(∃m,W 0 m [] (upd H D (.lst [])))/\
   ∀i m ys H,W i m ys H->((tV K a).stop i H/\R H)\/((tV K a).go i H/\∀x H',(tV K a).nF i H x H'->tt ([some x]++f σ) H' λb H2=>
    if b=true then te ([some x]++f σ) H2 λy H3=>H3 D=some (.lst ys)/\ys.length < sizeLine/\∃m',m' < m/\W (i+1) m' (ys++[y]) (upd H3 D (.lst (ys++[y])))
    else ∃m',m' < m/\W (i+1) m' ys H2):=by
 refine⟨λi m ys H=>m=xs.length-i/\i<=xs.length/\Pv i ys H,⟨xs.length,by simp,Nat.zero_le _,h0⟩,?_⟩;rintro i m ys H ⟨rfl,hi,p⟩;have q:=hl i ys H hi p;by_cases hlt:i < xs.length
 ·refine .inr ⟨⟨xs,xs[i],q,by simp[hlt]⟩,λx H' y=>?_⟩
  obtain⟨e,y⟩:=y;subst e;exact hs i x ys H' (y xs q) p
 ·have e:i=xs.length:=by omega
  subst e;exact .inl ⟨⟨xs,q,Nat.le_refl _⟩,hd ys H p⟩
theorem qP {K:W.Frag}{a:Addr}{xs:List V}{D:Addr}{f:St->St}{tt:TT}{te:TE}{σ:St}{H:Hp}{R:Hp->Prop}(Pv:Nat->List V->Hp->Prop)(h0:Pv 0 [] (upd H D (.lst [])))(hl:∀i ys H,i<=xs.length->Pv i ys H->aK K H a xs)
  (hs:∀i x ys H,xs[i]?=some x->Pv i ys H->nJ xs.length i D (λv _ Q=>Q [some v]) f σ tt te x H ys (Pv (i+1)))
  (hd:∀ys H,Pv xs.length ys H->R H) :
  ∃W:Nat->Nat->List V->Hp->Prop,(∃m,W 0 m [] (upd H D (.lst [])))/\
   ∀i m ys H,W i m ys H->((pQ K a).stop i H/\R H)\/((pQ K a).go i H/\∀x H',(pQ K a).nF i H x H'->tt ([some x]++f σ) H' λb H2=>
    if b=true then te ([some x]++f σ) H2 λy H3=>H3 D=some (.lst ys)/\ys.length < sizeLine/\∃m',m' < m/\W (i+1) m' (ys++[y]) (upd H3 D (.lst (ys++[y])))
    else ∃m',m' < m/\W (i+1) m' ys H2):=by
 refine⟨λi m ys H=>m=xs.length-i/\i<=xs.length/\Pv i ys H,⟨xs.length,by simp,Nat.zero_le _,h0⟩,?_⟩;rintro i m ys H ⟨rfl,hi,p⟩;have q:=hl i ys H hi p;by_cases hlt:i < xs.length
 ·refine .inr ⟨⟨xs,xs[i],q,by simp[hlt]⟩,λx H' y=>?_⟩
  obtain⟨e,y⟩:=y;subst e;exact hs i x ys H' (y xs q) p
 ·have e:i=xs.length:=by omega
  subst e;exact .inl ⟨⟨xs,q,Nat.le_refl _⟩,hd ys H p⟩
theorem lU {K:W.Frag}{a:Addr}{xs:List V}{D:Addr}{f:St->St}{KT:W.Frag}{tt:TT}{te:TE}{σ:St}{H:Hp}{R:Hp->Prop}(Pv:Nat->List V->Hp->Prop)(h0:Pv 0 [] (upd H D (.lst [])))(hl:∀i ys H,i<=xs.length->Pv i ys H->aN K H a xs)
  (hs:∀i x ys H,xs[i]?=some x->Pv i ys H->nJ xs.length i D (λv H Q=>∃a p q,v=.ref a/\aK KT H a [p,q]/\Q [some p,some q]) f σ tt te x H ys (Pv (i+1)))
  (hd:∀ys H,Pv xs.length ys H->R H) :
  ∃W:Nat->Nat->List V->Hp->Prop,(∃m,W 0 m [] (upd H D (.lst [])))/\
   ∀i m ys H,W i m ys H->((tV K a).stop i H/\R H)\/((tV K a).go i H/\∀x H',(tV K a).nF i H x H'->∃a p q,x=.ref a/\aK KT H' a [p,q]/\(tt ([some p,some q]++f σ) H' λb H2=>
    if b=true then te ([some p,some q]++f σ) H2 λy H3=>H3 D=some (.lst ys)/\ys.length < sizeLine/\∃m',m' < m/\W (i+1) m' (ys++[y]) (upd H3 D (.lst (ys++[y])))
    else ∃m',m' < m/\W (i+1) m' ys H2)):=by
 refine⟨λi m ys H=>m=xs.length-i/\i<=xs.length/\Pv i ys H,⟨xs.length,by simp,Nat.zero_le _,h0⟩,?_⟩;rintro i m ys H ⟨rfl,hi,p⟩;have q:=hl i ys H hi p;by_cases hlt:i < xs.length
 ·refine .inr ⟨⟨xs,xs[i],q,by simp[hlt]⟩,λx H' y=>?_⟩
  obtain⟨e,y⟩:=y;subst e;exact hs i x ys H' (y xs q) p
 ·have e:i=xs.length:=by omega
  subst e;exact .inl ⟨⟨xs,q,Nat.le_refl _⟩,hd ys H p⟩
theorem gW {K:W.Frag}{a:Addr}{xs:List V}{D:Addr}{f:St->St}{KT:W.Frag}{tt:TT}{te:TE}{σ:St}{H:Hp}{R:Hp->Prop}(Pv:Nat->List V->Hp->Prop)(h0:Pv 0 [] (upd H D (.lst [])))(hl:∀i ys H,i<=xs.length->Pv i ys H->aK K H a xs)
  (hs:∀i x ys H,xs[i]?=some x->Pv i ys H->nJ xs.length i D (λv H Q=>∃a p q r,v=.ref a/\aK KT H a [p,q,r]/\Q [some p,some q,some r]) f σ tt te x H ys (Pv (i+1)))
  (hd:∀ys H,Pv xs.length ys H->R H) :
  ∃W:Nat->Nat->List V->Hp->Prop,(∃m,W 0 m [] (upd H D (.lst [])))/\
   ∀i m ys H,W i m ys H->((pQ K a).stop i H/\R H)\/((pQ K a).go i H/\∀x H',(pQ K a).nF i H x H'->∃a p q r,x=.ref a/\aK KT H' a [p,q,r]/\(tt ([some p,some q,some r]++f σ) H' λb H2=>
    if b=true then te ([some p,some q,some r]++f σ) H2 λy H3=>H3 D=some (.lst ys)/\ys.length < sizeLine/\∃m',m' < m/\W (i+1) m' (ys++[y]) (upd H3 D (.lst (ys++[y])))
    else ∃m',m' < m/\W (i+1) m' ys H2)):=by
 refine⟨λi m ys H=>m=xs.length-i/\i<=xs.length/\Pv i ys H,⟨xs.length,by simp,Nat.zero_le _,h0⟩,?_⟩;rintro i m ys H ⟨rfl,hi,p⟩;have q:=hl i ys H hi p;by_cases hlt:i < xs.length
 ·refine .inr ⟨⟨xs,xs[i],q,by simp[hlt]⟩,λx H' y=>?_⟩
  obtain⟨e,y⟩:=y;subst e;exact hs i x ys H' (y xs q) p
 ·have e:i=xs.length:=by omega
  subst e;exact .inl ⟨⟨xs,q,Nat.le_refl _⟩,hd ys H p⟩
theorem Ry {n i:Nat}{D:Addr}{f:St->St}{σ:St}{te:TE}{x:V}{H:Hp}{ys:List V}{P:List V->Hp->Prop}(h:te ([some x]++f σ) H λy H3=>H3 D=some (.lst ys)/\ys.length < sizeLine/\cX n i (P (ys++[y]) (upd H3 D (.lst (ys++[y]))))) :
  nJ n i D (λv _ Q=>Q [some v]) f σ fJ te x H ys P:=by
 show (if true=true then (te ([some x]++f σ) H λy H3=>H3 D=some (.lst ys)/\ys.length < sizeLine/\cX n i (P (ys++[y]) (upd H3 D (.lst (ys++[y]))))) else cX n i (P ys H));rw[if_pos rfl];exact h
theorem Rz {KT:W.Frag}{n i:Nat}{D a:Addr}{p q:V}{f:St->St}{σ:St}{te:TE}{x:V}{H:Hp}{ys:List V}{P:List V->Hp->Prop}(hx:x=.ref a)(hS:aK KT H a [p,q])(h:te ([some p,some q]++f σ) H λy H3=>H3 D=some (.lst ys)/\ys.length < sizeLine/\cX n i (P (ys++[y]) (upd H3 D (.lst (ys++[y]))))) :
  nJ n i D (λv H Q=>∃a p q,v=.ref a/\aK KT H a [p,q]/\Q [some p,some q]) f σ fJ te x H ys P:=by
 refine⟨a,p,q,hx,hS,?_⟩;show (if true=true then (te ([some p,some q]++f σ) H λy H3=>H3 D=some (.lst ys)/\ys.length < sizeLine/\cX n i (P (ys++[y]) (upd H3 D (.lst (ys++[y]))))) else cX n i (P ys H));rw[if_pos rfl];exact h
theorem qQ {KT:W.Frag}{n i:Nat}{D a:Addr}{p q r:V}{f:St->St}{σ:St}{te:TE}{x:V}{H:Hp}{ys:List V}{P:List V->Hp->Prop}(hx:x=.ref a)(hS:aK KT H a [p,q,r])(h:te ([some p,some q,some r]++f σ) H λy H3=>H3 D=some (.lst ys)/\ys.length < sizeLine/\cX n i (P (ys++[y]) (upd H3 D (.lst (ys++[y]))))) :
  nJ n i D (λv H Q=>∃a p q r,v=.ref a/\aK KT H a [p,q,r]/\Q [some p,some q,some r]) f σ fJ te x H ys P:=by
 refine⟨a,p,q,r,hx,hS,?_⟩;show (if true=true then (te ([some p,some q,some r]++f σ) H λy H3=>H3 D=some (.lst ys)/\ys.length < sizeLine/\cX n i (P (ys++[y]) (upd H3 D (.lst (ys++[y]))))) else cX n i (P ys H));rw[if_pos rfl];exact h
end L2
end
section
namespace L2
open PySem PySem.Spec PyProof.Rows
section
variable {X:Cx}
noncomputable def aa4:V->List V->Hp->VK->Prop:=λx vs H Q=>∃(l:Addr) (us:List (List Nat)) (w:List Nat),x=.ref l/\vs=[.str (S w)]/\H l=some (.lst (Ts us))/\w∈us/\us.length<=1000/\Q .non (upd H l (.lst (Ts (us.erase w))))
noncomputable def strEq (w:List Nat)(u:Value):Bool:=match u with
 | .str z _=>z.cps.toList==w
 | _=>false
theorem Vl {us:List (List Nat)}{w:List Nat}:us.erase w=us.eraseIdx (us.idxOf w):=by
 induction us with
 | nil=>rfl
 | cons a r ih=>
  by_cases h:a=w
  ·subst h;simp
  ·rw[List.erase_cons_tail (by simpa using h),List.idxOf_cons,cond_eq_ite,if_neg (by simpa using h),List.eraseIdx_cons_succ,ih]
theorem Vm:MtM X "list.remove" aa4:=by
 intro y7 s σ H x vs v us Q I rx rv h;obtain⟨l,ls,w,rfl,rfl,hH,hw,hz,q⟩:=h;cases rx;obtain⟨u,rfl,ru⟩:=rv.one;obtain⟨t,rfl⟩:=ru;obtain⟨z,its,n,r,hl,e⟩:=I.Cu hH;have hlen:its.length=ls.length:=by rw[<- hl,List.length_map]
 have hj:ls.idxOf w < ls.length:=List.idxOf_lt_length_of_mem hw;have get:∀(m:Nat) (hm:m < its.toArray.size),∃(tk:Tok) (hm':m < ls.length),its.toArray[m]=.str (S ls[m]) tk:=λm hm=>by
  have hm':m < ls.length:=by simp at hm;omega
  obtain⟨u1,e1,s1⟩:=r.get (i:=m) (x:=.str (S ls[m])) (by simp[hm']);obtain⟨tk,rfl⟩:=s1;refine⟨tk,hm',?_⟩;rw[List.getElem?_eq_getElem (by omega)]at e1;simpa using e1
 refine call_meets F.slot_list_remove ⟨_,e,rfl⟩ F.entry_list_remove (F.args_list_remove_2 _ _) (PySem.MeetsSeq.list_remove l its.toArray n (.str (S w) t) (strEq w) (λy hy=>?_) (ls.idxOf w) (by rw[List.size_toArray];omega) ?_ (λm hm hm2=>?_) (by rw[List.size_toArray,hlen];exact Nat.le_of_lt (aD hz))) ⟨e,?_⟩
 ·obtain⟨m,hm,rfl⟩:=Array.mem_iff_getElem.mp hy
  obtain⟨tk,_,e1⟩:=get m hm;rw[e1];exact PySem.SeqRoads2.EqGives.str _ _ _ _
 ·obtain⟨tk,hm',e1⟩:=get (ls.idxOf w) (by rw[List.size_toArray];omega)
  rw[e1];show (ls[ls.idxOf w]==w)=true;rw[List.getElem_idxOf];simp
 ·obtain⟨tk,hm',e1⟩:=get m hm
  rw[e1];show (ls[m]==w)=false;have:=List.not_of_lt_findIdx (p:=λa=>a==w) (xs:=ls) (show m < ls.findIdx (λa=>a==w) from hm2);simpa using this
 ·refine⟨.non,_,I.X3 (its':=its.eraseIdx (ls.idxOf w)) hH e ?_ ?_ ?_,rfl,q⟩
  ·rw[Array.eraseIdxIfInBounds,dif_pos (by rw[List.size_toArray];omega)]
   simp
  ·rw[Vl]
   have hv:=Vals.eraseIdx (ls.idxOf w) r;have em:∀(xs:List (List Nat)) (i:Nat),Ts (xs.eraseIdx i)=(Ts xs).eraseIdx i:=by
    intro xs
    induction xs with
    | nil=>intro i;rfl
    | cons a r ih=>
     intro i;cases i with
     | zero=>rfl
     | succ i=>rw[List.eraseIdx_cons_succ,Ts,List.map_cons,Ts,List.map_cons,List.eraseIdx_cons_succ];congr 1;exact ih i
   rw[em];exact hv
  ·rw[List.length_map]
   exact Nat.le_trans (List.length_erase_le ..) (Nat.le_of_lt (aD hz))
noncomputable def adv (K:W.Frag):List V->Hp->VK->Prop:=λxs H Q=>∃(a:Addr) (ws:List (List Nat)),xs=[.ref a]/\aN K H a (Ts ws)/\ws.length < 64/\∀(p:Addr) (ws':List (List Nat)),H p=none->ws'.Perm ws->ws'.Pairwise (λa b=>decide (b < a)=false)->Q (.ref p) (upd H p (.lst (Ts ws')))
theorem KZ:fM X (.builtin "sorted") (adv X.K):=by
 intro y7 s σ H xs us Q I r h;obtain⟨a,ws,rfl,hS,h64,q⟩:=h;obtain⟨u,rfl,ru⟩:=vals1 r;cases ru;obtain⟨its,rv,pl,_⟩:=I.list hS;have hlen:its.length=ws.length:=by have:=rv.length;simpa using this.symm
 refine sorted_strs pl.isList (Bb rv) (by omega) λout ss' a1 a2 a3=>?_;obtain⟨e,he⟩:=sortedAll_at s.heap its out;have pm':(ss'.map λy=>y.cps.toList).Perm ws:=by
  have:=a2.map λy:Str=>y.cps.toList;rw[List.map_map]at this;have e:((λy:Str=>y.cps.toList) ∘ S)=id:=rfl;rw[e,List.map_id]at this;exact this
 have hv:Vals (Ts (ss'.map λy=>y.cps.toList)) out.toList:=by
  have:=yQ a1;have es:(ss'.map V.str)=Ts (ss'.map λy=>y.cps.toList):=by
   rw[Ts,List.map_map];exact List.map_congr_left λy _=>by simp[Function.comp_def,afm]
  rw[es]at this;exact this
 have hl:(Ts (ss'.map λy=>y.cps.toList)).length<=sizeLine:=by
  rw[List.length_map,pm'.length_eq];exact Nat.le_of_lt (aD (by omega))
 refine⟨.ref (s.heap.objs.size+1),_,I.laid (o:=.lst _) (t':=s.toks) (λb o z=>sortedAll_old z) (Nat.le_succ _) ⟨hl,out.toList,e,hv,by rw[Array.toArray_toList];exact he⟩,rfl,q _ _ (I.hok.fresh (Nat.le_succ _)) pm' (Vh ss' a3)⟩
noncomputable def afs (t:TS):TS:=λD σ H=>∃Iv:St->Hp->Prop,t { D with nx:=Iv } σ H/\∀σ' H',Iv σ' H'->D.nx σ' H'
theorem gD {st:Stmt}{t:TS}(h:QS X st t):QS X st (afs t):=⟨λy7 s σ H D I ⟨Iv,a,b⟩=>by
 refine bG (h.out y7 s σ H _ I a) λf s' q=>?_;cases f with
 | next=>obtain⟨σ7,H7,I7,n7⟩:=q;exact⟨σ7,H7,I7,b _ _ n7⟩
 | cont=>exact q
 | brk=>exact q
 | ret v=>exact q⟩
end
end L2
end
section
namespace L2
open PySem PySem.Spec PyProof.Rows PySem.W
noncomputable def dD {α:Type}(I:Nat->Prop)(lt:Nat->Nat->Bool):KasT α->(α->Prop)->Prop
 | .ret a,Q=>Q a
 | .ask i j k,Q=>I i/\I j/\dD I lt (k (lt i j)) Q
theorem dD.bind {α β:Type}{I:Nat->Prop}{lt:Nat->Nat->Bool}{f:α->KasT β}{Q:β->Prop}:∀(t:KasT α),dD I lt t (λa=>dD I lt (f a) Q)->dD I lt (t.bind f) Q
 | .ret _,h=>h
 | .ask i j k,h=>⟨h.1,h.2.1,dD.bind (k (lt i j)) h.2.2⟩
theorem dD.mono {α:Type}{I:Nat->Prop}{lt:Nat->Nat->Bool}{Q Q':α->Prop}(hq:∀a,Q a->Q' a):∀(t:KasT α),dD I lt t Q->dD I lt t Q'
 | .ret _,h=>hq _ h
 | .ask i j k,h=>⟨h.1,h.2.1,dD.mono hq (k (lt i j)) h.2.2⟩
theorem dD.wp {α:Type}{I:Nat->Prop}{lt:Nat->Nat->Bool}{cmp:Nat->Nat->(Bool->Shared->Prop)->Shared->Prop}{s:Shared}(hc:∀i j C,I i->I j->C (lt i j) s->cmp i j C s){Q:α->Prop}{R:α->Shared->Prop}(hr:∀a,Q a->R a s) :
  ∀(t:KasT α),dD I lt t Q->t.kasWp cmp R s
 | .ret _,h=>hr _ h
 | .ask i j k,h=>hc i j _ h.1 h.2.1 (dD.wp hc hr (k (lt i j)) h.2.2)
section
variable {n:Nat}{r:Nat->Nat}
structure eU (n:Nat)(p:Array Nat):Prop where
 sz:p.size=n
 pm:p.toList.Perm (List.range n)
theorem eU.lt {p:Array Nat}(h:eU n p){i:Nat}(hi:i < n):p.getD i 0 < n:=by
 have hs:=h.sz;have e:p.getD i 0=p[i]:=by simp[Array.getD,hs,hi]
 rw[e];exact List.mem_range.mp (h.pm.mem_iff.mp (by simp))
theorem eU.inj {p:Array Nat}(h:eU n p){i j:Nat}(hi:i < n)(hj:j < n)(e:p.getD i 0=p.getD j 0):i=j:=by
 have hs:=h.sz;have nd:p.toList.Nodup:=h.pm.symm.nodup List.nodup_range;have e1:p.getD i 0=p.toList[i]'(by simp;omega):=by simp[Array.getD,hs,hi]
 have e2:p.getD j 0=p.toList[j]'(by simp;omega):=by simp[Array.getD,hs,hj]
 rw[e1,e2]at e;have pw:=List.pairwise_iff_getElem.mp nd;rcases Nat.lt_trichotomy i j with z | z | z
 ·exact absurd e (pw i j (by simp;omega) (by simp;omega) z)
 ·exact z
 ·exact absurd e.symm (pw j i (by simp;omega) (by simp;omega) z)
abbrev RR (r:Nat->Nat)(p:Array Nat)(i:Nat):Nat:=r (p.getD i 0)
abbrev BL (r:Nat->Nat):Nat->Nat->Bool:=λi j=>decide (r i < r j)
noncomputable def lC (r:Nat->Nat)(p:Array Nat)(k:Nat):Prop:=∀i j,i < j->j < k->RR r p i < RR r p j
noncomputable def RB (r:Nat->Nat)(p:Array Nat)(k:Nat):Prop:=∀i j,i < j->j < k->RR r p j < RR r p i
noncomputable def uR (n:Nat)(r:Nat->Nat):Prop:=∀i j,i < n->j < n->r i=r j->i=j
theorem RD (hr:uR n r){p:Array Nat}(h:eU n p){i j:Nat}(hi:i < n)(hj:j < n)(hne:i≠j):RR r p i≠RR r p j:=λe=>hne (h.inj hi hj (hr _ _ (h.lt hi) (h.lt hj) e))
theorem Gz (hr:uR n r){p:Array Nat}(hp:eU n p):∀f m:Nat,1<=m->m+f<=n->lC r p m->dD (· < n) (BL r) (kas_asc p f m) (λm'=>m<=m'/\m'<=m+f/\lC r p m'/\(m'=m+f\/(m' < n/\RR r p m' < RR r p (m'-1))))
 | 0,m,_,_,hs=>⟨Nat.le_refl _,Nat.le_refl _,hs,.inl rfl⟩
 | f+1,m,h1,hf,hs=>by
  refine⟨hp.lt (by omega),hp.lt (by omega),?_⟩;show dD _ _ (if decide (RR r p m < RR r p (m-1))=true then KasT.ret m else kas_asc p f (m+1)) _;by_cases c:RR r p m < RR r p (m-1)
  ·rw[decide_eq_true c,if_pos rfl]
   exact⟨Nat.le_refl _,by omega,hs,.inr ⟨by omega,c⟩⟩
  ·rw[decide_eq_false c,if_neg Bool.false_ne_true]
   have ne:=RD hr hp (i:=m) (j:=m-1) (by omega) (by omega) (by omega);refine dD.mono (λm' h=>⟨by omega,by omega,h.2.2.1,?_⟩) _ (Gz hr hp f (m+1) (by omega) (by omega) λi j hij hj=>?_)
   ·rcases h.2.2.2 with z | z
    ·exact .inl (by omega)
    ·exact .inr z
   ·by_cases ej:j=m
    ·subst ej
     by_cases ei:i=j-1
     ·subst ei;omega
     ·have:=hs i (j-1) (by omega) (by omega);omega
    ·exact hs i j hij (by omega)
theorem K4 (hr:uR n r){p:Array Nat}(hp:eU n p):∀f m:Nat,2<=m->m+f<=n->RB r p m->dD (· < n) (BL r) (kas_desc f p m 0) (λx=>∃m',x=(p,m',0)/\m<=m'/\m'<=m+f/\RB r p m')
 | 0,m,_,_,hs=>⟨m,rfl,Nat.le_refl _,Nat.le_refl _,hs⟩
 | f+1,m,h1,hf,hs=>by
  refine⟨hp.lt (by omega),hp.lt (by omega),?_⟩;have ne:=RD hr hp (i:=m) (j:=m-1) (by omega) (by omega) (by omega);show dD _ _ (if decide (RR r p m < RR r p (m-1))=true then (if 0 > 0 then _ else kas_desc f p (m+1) 0) else _) _;by_cases c:RR r p m < RR r p (m-1)
  ·rw[decide_eq_true c,if_pos rfl,if_neg (by omega)]
   refine dD.mono (λx ⟨m',e,a,b,d⟩=>⟨m',e,by omega,by omega,d⟩) _ (K4 hr hp f (m+1) (by omega) (by omega) λi j hij hj=>?_);by_cases ej:j=m
   ·subst ej
    by_cases ei:i=j-1
    ·subst ei;omega
    ·have:=hs i (j-1) (by omega) (by omega);omega
   ·exact hs i j hij (by omega)
  ·rw[decide_eq_false c,if_neg Bool.false_ne_true]
   refine⟨hp.lt (by omega),hp.lt (by omega),?_⟩;show dD _ _ (if decide (RR r p (m-1) < RR r p m)=true then KasT.ret (p,m,0) else _) _;rw[decide_eq_true (show RR r p (m-1) < RR r p m by omega),if_pos rfl];exact⟨m,rfl,Nat.le_refl _,by omega,hs⟩
theorem K5 {p:Array Nat}(hp:eU n p)(i j:Nat):eU n (kas_rev p i j):=
 ⟨(mirror_size _ _ _ _).trans hp.sz,((Array.perm_iff_toList_perm.mp (mirror_perm p i j _)).trans hp.pm)⟩
theorem Qc {p:Array Nat}(hp:eU n p){m k:Nat}(hm:m<=n)(hk:k < m):(kas_rev p 0 m).getD k 0=p.getD (m-1-k) 0:=by
 have e:=getElem?_mirror_all (xs:=p) (i:=0) (j:=m) (by rw[hp.sz];exact hm) k;rw[if_pos ⟨Nat.zero_le _,hk⟩,Nat.zero_add]at e;rw[Array.getD_eq_getD_getElem?,Array.getD_eq_getD_getElem?];exact congrArg (λx=>x.getD 0) e
theorem Vn (hr:uR n r){p:Array Nat}(hp:eU n p)(hn:1<=n):dD (· < n) (BL r) (kas_count n p) (λx=>1<=x.1/\x.1<=n/\eU n x.2/\lC r x.2 x.1):=by
 unfold kas_count;refine dD.bind _ (dD.mono (λm h=>?_) _ (Gz hr hp (n-1) 1 (Nat.le_refl _) (by omega) λi j hij hj=>by omega));obtain⟨a,b,hs,hend⟩:=h;have tail:∀m,2<=m->m<=n->RB r p m->dD (· < n) (BL r) (kas_tail3 m n p) (λx=>1<=x.1/\x.1<=n/\eU n x.2/\lC r x.2 x.1):=λm h2 hm hd=>by
  unfold kas_tail3;refine dD.bind _ (dD.mono (λm' h=>?_) _ (Gz hr (K5 hp 0 m) (n-m) m (by omega) (by omega) λi j hij hj=>?_))
  ·exact⟨by show 1<=m';omega,by show m'<=n;omega,K5 hp 0 m,h.2.2.1⟩
  ·show r _ < r _
   rw[Qc hp hm (by omega),Qc hp hm hj];exact hd (m-1-j) (m-1-i) (by omega) (by omega)
 by_cases e:m=n
 ·subst e
  rw[if_pos (by simp)];exact⟨a,Nat.le_refl _,hp,hs⟩
 ·rw[if_neg (by simpa using e)]
  have hlt:m < n/\RR r p m < RR r p (m-1):=by
   rcases hend with z | z
   ·exact absurd z (by omega)
   ·exact z
  by_cases h1:m > 1
  ·rw[if_pos h1]
   refine⟨hp.lt (by omega),hp.lt (by omega),?_⟩;show dD _ _ (if decide (RR r p 0 < RR r p (m-1))=true then KasT.ret (m,p) else _) _;rw[decide_eq_true (hs 0 (m-1) (by omega) (by omega)),if_pos rfl];exact⟨a,by show m<=n;omega,hp,hs⟩
  ·rw[if_neg h1]
   have em:m=1:=by omega
   subst em;unfold kas_descPart;refine dD.bind _ (dD.mono (λx h=>?_) _ (K4 hr hp (n-(1+1)) (1+1) (by omega) (by omega) λi j hij hj=>?_))
   ·obtain⟨m',rfl,c1,c2,c3⟩:=h
    show dD _ _ (if (0:Nat) > 0 then _ else kas_tail3 m' n p) _;rw[if_neg (by omega)];exact tail m' (by omega) (by omega) c3
   ·have ei:i=0:=by omega
    have ej:j=1:=by omega
    subst ei ej;exact hlt.2
theorem yV (hr:uR n r){p:Array Nat}(hp:eU n p){k:Nat}(hk:k < n)(hs:lC r p k):∀f l t:Nat,l<=t->t<=k->t-l<=f->(∀i,i < l->RR r p i < RR r p k)->(∀i,t<=i->i < k->RR r p k < RR r p i)->
  dD (· < n) (BL r) (kas_place p k f l t) (λl'=>l'<=k/\(∀i,i < l'->RR r p i < RR r p k)/\∀i,l'<=i->i < k->RR r p k < RR r p i)
 | 0,l,t,h1,h2,h3,a,b=>⟨by omega,a,λi hi hk=>b i (by omega) hk⟩
 | f+1,l,t,h1,h2,h3,a,b=>by
  unfold kas_place;by_cases c:l>=t
  ·rw[if_pos c]
   exact⟨by omega,a,λi hi hk=>b i (by omega) hk⟩
  ·rw[if_neg c]
   refine⟨hp.lt hk,hp.lt (by omega),?_⟩;show dD _ _ (if decide (RR r p k < RR r p ((l+t)/2))=true then kas_place p k f l ((l+t)/2) else kas_place p k f ((l+t)/2+1) t) _;have ne:=RD hr hp (i:=k) (j:=(l+t)/2) hk (by omega) (by omega);by_cases d:RR r p k < RR r p ((l+t)/2)
   ·rw[decide_eq_true d,if_pos rfl]
    refine yV hr hp hk hs f l ((l+t)/2) (by omega) (by omega) (by omega) a λi hi hik=>?_;by_cases e:i=(l+t)/2
    ·rw[e];exact d
    ·have:=hs ((l+t)/2) i (by omega) hik;omega
   ·rw[decide_eq_false d,if_neg Bool.false_ne_true]
    refine yV hr hp hk hs f ((l+t)/2+1) t (by omega) h2 (by omega) (λi hi=>?_) b;by_cases e:i=(l+t)/2
    ·rw[e];omega
    ·have:=hs i ((l+t)/2) (by omega) (by omega);omega
theorem Qd {p:Array Nat}(hp:eU n p){k l j:Nat}(hk:k < n)(hl:l<=k):(bubble p k (k-l)).getD j 0=if j=l then p.getD k 0 else if l < j/\j<=k then p.getD (j-1) 0 else p.getD j 0:=by
 have e:=getElem?_bubble (xs:=p) (src:=k) (by rw[hp.sz];exact hk) (k-l) (by omega) j;rw[show k-(k-l)=l by omega]at e;rw[Array.getD_eq_getD_getElem?,e]
 split
 ·rw[Array.getD_eq_getD_getElem?]
 ·split <;> rw[Array.getD_eq_getD_getElem?]
theorem Qe (hr:uR n r):∀(f:Nat) (p:Array Nat) (k:Nat),eU n p->k+f=n->1<=k->lC r p k->dD (· < n) (BL r) (kas_bin f p k) (λp'=>eU n p'/\lC r p' n)
 | 0,p,k,hp,hf,_,hs=>⟨hp,(show k=n by omega) ▸ hs⟩
 | f+1,p,k,hp,hf,h1,hs=>by
  unfold kas_bin;refine dD.bind _ (dD.mono (λl h=>?_) _ (yV hr hp (by omega) hs k 0 k (by omega) (Nat.le_refl _) (by omega) (λi hi=>by omega) λi hi hik=>by omega));obtain⟨hl,a,b⟩:=h;have hk:k < n:=by omega
  refine Qe hr f _ (k+1) ⟨(bubble_size _ _ _).trans hp.sz,(Array.perm_iff_toList_perm.mp (bubble_perm p k _)).trans hp.pm⟩ (by omega) (by omega) λi j hij hj=>?_;show r _ < r _;rw[Qd hp hk hl,Qd hp hk hl];have key:∀x y:Nat,x < y->y < k->RR r p x < RR r p y:=λx y h1 h2=>hs x y h1 h2;by_cases c1:i=l
  ·rw[if_pos c1,if_neg (by omega),if_pos ⟨by omega,by omega⟩]
   exact b (j-1) (by omega) (by omega)
  ·rw[if_neg c1]
   by_cases c2:l < i/\i<=k
   ·rw[if_pos c2,if_neg (by omega),if_pos ⟨by omega,by omega⟩]
    exact key (i-1) (j-1) (by omega) (by omega)
   ·rw[if_neg c2]
    by_cases c3:j=l
    ·rw[if_pos c3]
     exact a i (by omega)
    ·rw[if_neg c3]
     by_cases c4:l < j/\j<=k
     ·rw[if_pos c4]
      by_cases c5:i=j-1
      ·omega
      ·exact key i (j-1) (by omega) (by omega)
     ·rw[if_neg c4]
      exact key i j hij (by omega)
theorem Yo (hr:uR n r)(hn:1<=n):dD (· < n) (BL r) (kas_sort n) (λp=>eU n p/\lC r p n):=by
 unfold kas_sort;have h0:eU n (List.toArray (List.range n)):=⟨by simp,by simp⟩
 refine dD.bind _ (dD.mono (λx h=>?_) _ (Vn hr h0 hn));obtain⟨a,b,c,d⟩:=h;by_cases e:x.1 < n
 ·rw[if_pos e,show max x.1 1=x.1 by omega]
  exact Qe hr _ _ _ c (by omega) a d
 ·rw[if_neg e]
  have:x.1=n:=by omega
  rw[this]at d;exact⟨c,d⟩
end
end L2
end
section
namespace L2
open PySem PySem.Spec PyProof.Rows PySem.W
section
variable {prog:Program}{w:World}{A:Around}{E:Value->Shared->Prop}{s:Shared}
theorem zr (vs:List Value)(hn2:vs.length < 2):(vs.toArray.zip vs.toArray).map (·.2)=((List.toArray (List.range vs.length)).toList.map λi=>vs.getD i Value.none).toArray:=by
 match vs,hn2 with
 | [],_=>simp
 | [v],_=>apply Array.toList_inj.mp;simp[List.range_succ]
theorem JH {a:Addr}{vs:List Value}{n:Nat}{P:PySem.Fin->Shared->Prop}{r:Nat->Nat}(ho:s.heap.get? a=some (seqObj "list" vs.toArray n))(h64:vs.length < 64)(hr:uR vs.length r)
  (hk:2<=vs.length->∀(h':Heap) (Q:SortKind->Shared->Prop),(∀b o,s.heap.get? b=some o->b≠a->h'.get? b=some o)->Q (tuples' true) { s with heap:=h' }->wpAny (model prog w) A (keyKind' vs.toArray) Q E { s with heap:=h' })
  (hc:∀(h':Heap),(∀b o,s.heap.get? b=some o->b≠a->h'.get? b=some o)->∀i j C,i < vs.length->j < vs.length->C (BL r i j) { s with heap:=h' }->kas_ask prog w A (tuples' true) vs i j C { s with heap:=h' })
  (h:∀(h':Heap) (p:Array Nat),eU vs.length p->lC r p vs.length->(∀b o,s.heap.get? b=some o->b≠a->h'.get? b=some o)->(∃e,h'.get? a=some (seqObj "list" (p.toList.map λi=>vs.getD i Value.none).toArray e))->P (.done (.ret .none)) { s with heap:=h' }) :
  wpAny (model prog w) A (Builtin.«list.sort» ⟨[.ref a],[]⟩) P E s:=by
 rw[list_sort_plain];have ha:a < s.heap.objs.size:=Heap.lt_size ho;have Yp:vs.length<=sizeLine:=Nat.le_of_lt (aD (by omega));refine wpAny_bind (listItems_at ho rfl ?_);refine wpAny_bind (listUpdate_at ho rfl ?_ (by rw[List.size_toArray];exact Yp) (Nat.zero_le _));obtain⟨e1,ho1⟩:∃e1,(s.heap.update a (Obj.mapSeq λ_=>#[])).get? a=some (seqObj "list" #[] e1):=⟨_,get?_update_seq ho (λ_=>#[])⟩
 refine wpAny_bind (seqEpoch_at ho1 rfl ?_);refine wpAny_bind (wpAny_newTuple ?_ (by show vs.length<=_;exact Yp));refine wpAny_bind (wpAny_newList ?_ (Nat.zero_le _));refine wpAny_holding ?_;have ho6:(((s.heap.update a (Obj.mapSeq λ_=>#[])).push (seqObj "tuple" vs.toArray 0)).push (seqObj "list" #[] 0)).get? a=some (seqObj "list" #[] e1):=by
  rw[Heap.get?_push_ne _ _ _ (by rw[size_push',Heap.size_update];exact Nat.ne_of_lt (Nat.lt_succ_of_lt ha)),Heap.get?_push_ne _ _ _ (by rw[Heap.size_update];exact Nat.ne_of_lt ha)];exact ho1
 have Ka:∀b o,s.heap.get? b=some o->b≠a->(((s.heap.update a (Obj.mapSeq λ_=>(#[]:Array Value))).push (seqObj "tuple" vs.toArray 0)).push (seqObj "list" #[] 0)).get? b=some o:=λb o e hb=>by
  refine Heap.get?_push_of_some _ (Heap.get?_push_of_some _ ?_);rw[Heap.get?_update_ne _ _ _ _ hb];exact e
 show wpAny (model prog w) A _ P E { s with heap:=((s.heap.update a (Obj.mapSeq λ_=>#[])).push (seqObj "tuple" vs.toArray 0)).push (seqObj "list" #[] 0) };dsimp only;generalize ((s.heap.update a (Obj.mapSeq λ_=>(#[]:Array Value))).push (seqObj "tuple" vs.toArray 0)).push (seqObj "list" #[] 0)=Vo at ho6 Ka ⊢;have fin:∀(p:Array Nat),eU vs.length p->lC r p vs.length->∀(out:Array Value),out=(p.toList.map λi=>vs.getD i Value.none).toArray->P (.done (.ret .none)) { s with heap:=Vo.update a (Obj.mapSeq λ_=>out) }:=λp pp sp out eo=>by
  refine h _ p pp sp (λb o e hb=>?_) ?_
  ·rw[Heap.get?_update_ne _ _ _ _ hb];exact Ka b o e hb
  ·rw[<- eo];exact⟨_,get?_update_seq ho6 λ_=>out⟩
 have aak:∀(p:Array Nat),eU vs.length p->(p.toList.map λi=>vs.getD i Value.none).toArray.size<=sizeLine:=λp pp=>by
  rw[List.size_toArray,List.length_map,Array.length_toList,pp.sz];exact Yp
 by_cases h2:vs.toArray.size < 2
 ·have hn2:vs.length < 2:=by rw[List.size_toArray]at h2;exact h2
  rw[if_pos h2,if_pos h2];refine wpAny_bind (wpAny_pure ?_);rw[StateT.run_pure];refine wpAny_bind (wpAny_pure ?_);dsimp only;have h0:eU vs.length (List.toArray (List.range vs.length)):=⟨by simp,by simp⟩
  have eo:(arrOf (SortSt.mk' general' (vs.toArray.zip vs.toArray) #[] 7 none)).map (·.2)=((List.toArray (List.range vs.length)).toList.map λi=>vs.getD i Value.none).toArray:=by
   have e0:(arrOf (SortSt.mk' general' (vs.toArray.zip vs.toArray) #[] 7 none))=vs.toArray.zip vs.toArray:=rfl;rw[e0];exact zr vs hn2
  refine wpAny_bind (seqEpoch_at ho6 rfl ?_);refine wpAny_bind (listUpdate_at ho6 rfl ?_ (Nat.zero_le _) (by rw[eo];exact Nat.le_succ_of_le (aak _ h0)));simp only[bne_self_eq_false,Bool.false_eq_true,if_false];exact wpAny_pure (fin _ h0 (λi j hij hj=>by omega) _ eo)
 ·have hn2:2<=vs.length:=by rw[List.size_toArray]at h2;omega
  rw[if_neg h2,if_neg h2];refine wpAny_bind (hk hn2 Vo _ Ka ?_);refine wpAny_bind (wpAny_mono (kat_run (κ:=tuples' true) (ks:=vs) (vs:=vs) (Q:=λst' s'=>∃p:Array Nat,eU vs.length p/\lC r p vs.length/\arrOf st'=p.map (kas_item (vs.toArray.zip vs.toArray))/\failedOf st'=none/\s'={ s with heap:=Vo })
   (G:=λp s'=>eU vs.length p/\lC r p vs.length/\s'={ s with heap:=Vo }) rfl hn2 h64 (λp' st' s' a1 a2 a3 ⟨a4,a5,a6⟩=>⟨p',a4,a5,a2,a3,a6⟩)
   (dD.wp (λi j C hi hj hC=>hc Vo Ka i j C hi hj hC) (λp ⟨a1,a2⟩=>⟨a1,a2,rfl⟩) _ (Yo hr (by omega)))) ?_ λ_ _ e=>e)
  rintro⟨⟨⟩,st'⟩ s' ⟨p,pp,sp,har,hf,rfl⟩;dsimp only;have eo:=kat_snds (ks:=vs) (vs:=vs) rfl har;refine wpAny_bind (seqEpoch_at ho6 rfl ?_);refine wpAny_bind (listUpdate_at ho6 rfl ?_ (Nat.zero_le _) (by rw[eo];exact Nat.le_succ_of_le (aak _ pp)));rw[hf];simp only[bne_self_eq_false,Bool.false_eq_true,if_false];exact wpAny_pure (fin p pp sp _ eo)
theorem RG {l:Addr}{vs:List Value}{Q:Value->Shared->Prop}{r:Nat->Nat}(hl:s.heap.IsList l vs.toArray)(h64:vs.length < 64)(hr:uR vs.length r)
  (hk:2<=vs.length->∀(h':Heap) (Q:SortKind->Shared->Prop) (E:Value->Shared->Prop),(∀b o,s.heap.get? b=some o->h'.get? b=some o)->Q (tuples' true) { s with heap:=h' }->wpAny (model prog w) A.in1.in1 (keyKind' vs.toArray) Q E { s with heap:=h' })
  (hc:∀(h':Heap),(∀b o,s.heap.get? b=some o->h'.get? b=some o)->∀i j C,i < vs.length->j < vs.length->C (BL r i j) { s with heap:=h' }->kas_ask prog w A.in1.in1 (tuples' true) vs i j C { s with heap:=h' })
  (h:∀(h':Heap) (p:Array Nat),eU vs.length p->lC r p vs.length->(∀b o,s.heap.get? b=some o->h'.get? b=some o)->(∃e,h'.get? (s.heap.objs.size+1)=some (seqObj "list" (p.toList.map λi=>vs.getD i Value.none).toArray e))->Q (.ref (s.heap.objs.size+1)) { s with heap:=h' }) :
  wpAny (model prog w) A (call (.builtin "sorted") [.ref l]) Q E s:=by
 refine Calls.call_function_entry kind_sorted plain_sorted entry_sorted (args_sorted1 _) ?_;unfold Builtin.«sorted»;refine wpAny_bind (m:=checkCount "sorted" 1 1 _) (wpAny_pure ?_);refine wpAny_bind (collect_list hl ?_ (by exact Nat.le_of_lt (aD (by omega))));refine wpAny_bind (wpAny_newList ?_ (by exact Nat.le_of_lt (aD (by omega))));have hsz:((s.heap.push (seqObj "list" #[] 0)).update s.heap.objs.size (Obj.mapSeq (· ++ vs.toArray))).objs.size=s.heap.objs.size+1:=by
  rw[Heap.size_update,size_push']
 have hoL:(((s.heap.push (seqObj "list" #[] 0)).update s.heap.objs.size (Obj.mapSeq (· ++ vs.toArray))).push (seqObj "list" vs.toArray 0)).get? (s.heap.objs.size+1)=some (seqObj "list" vs.toArray 0):=by
  rw[<- hsz];exact Heap.get?_push_size _ rfl
 have keep:∀b o,s.heap.get? b=some o->(((s.heap.push (seqObj "list" #[] 0)).update s.heap.objs.size (Obj.mapSeq (· ++ vs.toArray))).push (seqObj "list" vs.toArray 0)).get? b=some o:=λb o q=>by
  have hlt:b < s.heap.objs.size:=Heap.lt_size q;rw[Heap.get?_push_ne _ _ _ (by rw[hsz];exact Nat.ne_of_lt (Nat.lt_succ_of_lt hlt)),Heap.get?_update_ne _ _ _ _ (Nat.ne_of_lt hlt),Heap.get?_push_ne _ _ _ (Nat.ne_of_lt hlt)];exact q
 have nb:∀b o,s.heap.get? b=some o->b≠s.heap.objs.size+1:=λb o q=>Nat.ne_of_lt (Nat.lt_succ_of_lt (Heap.lt_size q));show wpAny _ _ _ _ _ { s with heap:=((s.heap.push (seqObj "list" #[] 0)).update s.heap.objs.size (Obj.mapSeq (· ++ vs.toArray))).push (seqObj "list" vs.toArray 0) };rw[hsz];refine wpAny_bind (wpAny_holding (wpAny_call_entry slot_list_sort ⟨_,hoL,rfl⟩ entry_list_sort (JH (s:={ s with heap:=((s.heap.push (seqObj "list" #[] 0)).update s.heap.objs.size (Obj.mapSeq (· ++ vs.toArray))).push (seqObj "list" vs.toArray 0) }) hoL h64 hr
  (λh2 h' Q' kp=>hk h2 h' Q' _ λb o e=>kp b o (keep b o e) (nb b o e)) (λh' kp=>hc h' λb o e=>kp b o (keep b o e) (nb b o e)) λh' p pp sp kp he=>⟨_,rfl,?_⟩) (args_list_sort _)))
 exact wpAny_pure ⟨_,rfl,h h' p pp sp (λb o e=>kp b o (keep b o e) (nb b o e)) he⟩
end
noncomputable def adw (H:Hp)(cf:Addr->Nat)(a:Addr):Prop:=∃(x y:Nat) (rest:List V),H a=some (.tup (.int x :: .int y::rest))/\y < 1000/\cf a=x*1000+y/\(rest=[]\/∃z,rest=[.str z])
section
variable {X:Cx}
noncomputable def adx (K:W.Frag):List V->Hp->VK->Prop:=λxs H Q=>∃(L:Addr) (as:List Addr) (cf:Addr->Nat),xs=[.ref L]/\aN K H L (as.map V.ref)/\as.length < 64/\(∀a∈as,adw H cf a)/\(as.map cf).Nodup/\
 ∀(p:Addr) (as':List Addr),H p=none->as'.Perm as->(as'.map cf).Pairwise (· < ·)->Q (.ref p) (upd H p (.lst (as'.map V.ref)))
theorem I_:∀{as:List Addr} {us:List Value},Vals (as.map V.ref) us->us=as.map Value.ref
 | [],_,.nil=>rfl
 | a::as,_,.cons r t=>by cases r;rw[List.map_cons,I_ t]
theorem yW:∀(as:List Addr),Vals (as.map V.ref) (as.map Value.ref)
 | []=>.nil
 | a::as=>.cons rfl (yW as)
theorem K6:fM X (.builtin "sorted") (adx X.K):=by
 intro y7 s σ H xs us Q I r h;obtain⟨L,as,cf,rfl,hS,h64,hcell,hnd,q⟩:=h;obtain⟨u,rfl,ru⟩:=vals1 r;cases ru;obtain⟨its,rv,pl,_⟩:=I.list hS;have aft:=I_ rv;subst aft;have tup:∀i:Nat,i < as.length->∃(x y:Nat) (t1 t2:Tok) (o:Obj) (n:Nat) (rest:List Value),s.heap.get? (as.getD i 0)=some o/\o.cls=.type "tuple"/\o.data=.seq (Value.int x t1::Value.int y t2::rest).toArray n/\y < 1000/\cf (as.getD i 0)=x*1000+y/\(rest=[]\/∃z t3,rest=[Value.str z t3]):=λi hi=>by
  have hm:as.getD i 0∈as:=by rw[List.getD_eq_getElem?_getD,List.getElem?_eq_getElem hi];exact List.getElem_mem _
  obtain⟨x,y,rest,e,hy,hcf,hrest⟩:=hcell _ hm;obtain⟨_,tv,K7,o,ho,hc,n,hd⟩:=I.hok _ _ e;cases K7 with
  | cons r1 rr=>
   cases rr with
   | cons r2 rr=>
    obtain⟨t1,rfl⟩:=r1;obtain⟨t2,rfl⟩:=r2;refine⟨x,y,t1,t2,o,n,_,ho,hc,hd,hy,hcf,?_⟩;rcases hrest with rfl | ⟨z,rfl⟩
    ·cases rr;exact .inl rfl
    ·cases rr with
     | cons r3 rr=>
      cases rr;obtain⟨t3,rfl⟩:=r3;exact .inr ⟨z,t3,rfl⟩
 have gv:∀i:Nat,i < as.length->(as.map Value.ref).getD i Value.none=.ref (as.getD i 0):=λi hi=>by simp[hi]
 have hlen:(as.map Value.ref).length=as.length:=List.length_map _;have pwi:=List.pairwise_iff_getElem.mp hnd;have hinj:uR (as.map Value.ref).length (λi=>cf (as.getD i 0)):=λi j hi hj e=>by
  rw[hlen]at hi hj;have e':cf as[i]=cf as[j]:=by simpa [hi,hj] using e
  rcases Nat.lt_trichotomy i j with z | z | z
  ·exact absurd e' (by have:=pwi i j (by simpa using hi) (by simpa using hj) z;simpa using this)
  ·exact z
  ·exact absurd e'.symm (by have:=pwi j i (by simpa using hj) (by simpa using hi) z;simpa using this)
 refine RG (r:=λi=>cf (as.getD i 0)) pl.isList (by rw[hlen];exact h64) hinj ?_ ?_ ?_
 ·intro h2 h' Q' E' kp hQ
  have kt:∀(bs:List Addr),(∀b∈bs,b∈as)->∃fs,KatTups h' (bs.map Value.ref) fs/\fs.length=bs.length/\∀v∈fs,∃(x:Int) (t:Tok),v=.int x t:=by
   intro bs
   induction bs with
   | nil=>exact λ_=>⟨[],trivial,rfl,λv hv=>by simp at hv⟩
   | cons b bs ih=>
    intro hb;obtain⟨fs,k1,k2,k3⟩:=ih λx hx=>hb x (List.mem_cons_of_mem _ hx);obtain⟨i,hi,e⟩:=List.mem_iff_getElem.mp (hb b List.mem_cons_self);obtain⟨x,y,t1,t2,o,n,rest,ho,hc,hd,_⟩:=tup i hi;have eb:as.getD i 0=b:=by simp[hi,e]
    rw[eb]at ho;exact⟨.int x t1::fs,KatTups.cons (kp _ _ ho) hc hd rfl k1,by simp[k2],λv hv=>by
     rcases List.mem_cons.mp hv with z | z
     ·exact⟨_,_,z⟩
     ·exact k3 v z⟩
  obtain⟨fs,k1,k2,k3⟩:=kt as λ_ h=>h;rw[hlen]at h2;exact kat_kind (s:={ s with heap:=h' }) (T:=.type "int") k1 (by omega) (λv hv=>by obtain⟨x,t,rfl⟩:=k3 v hv;exact Looks.of_pure rfl) (by decide) hQ
 ·intro h' kp i j C hi hj hC
  rw[hlen]at hi hj;obtain⟨x1,y1,t1,t2,o1,n1,r1,ho1,hc1,hd1,hy1,ady,hr1⟩:=tup i hi;obtain⟨x2,y2,t3,t4,o2,n2,r2,ho2,hc2,hd2,hy2,adz,hr2⟩:=tup j hj;have hC':C (decide (x1*1000+y1 < x2*1000+y2)) { s with heap:=h' }:=by
   have:BL (λi=>cf (as.getD i 0)) i j=decide (x1*1000+y1 < x2*1000+y2):=by show decide (cf _ < cf _)=_;rw[ady,adz]
   rw[<- this];exact hC
  unfold kas_ask;rw[gv i hi,gv j hj];refine kat_lt (s:={ s with heap:=h' }) (kp _ _ ho1) hd1 (kp _ _ ho2) hd2 ?_;rw[show (Value.int (x1:Int) t1::Value.int (y1:Int) t2::r1).toArray.toList.zip (Value.int (x2:Int) t3::Value.int (y2:Int) t4::r2).toArray.toList=(Value.int (x1:Int) t1,Value.int (x2:Int) t3)::(Value.int (y1:Int) t2,Value.int (y2:Int) t4)::r1.zip r2 from rfl];refine kat_cons (SeqAt.EqAt.int_int _ _ _ _ X.prog X.w _ _ ?_);refine kat_go (λe=>kat_yes ?_) (λe=>kat_no ?_)
  ·have ex:x1=x2:=by have:((x1:Int)==(x2:Int))=true:=e;have:=eq_of_beq this;omega
   refine kat_cons (SeqAt.EqAt.int_int _ _ _ _ X.prog X.w _ _ ?_);refine kat_go (λe=>kat_yes ?_) (λe=>kat_no ?_)
   ·have ey:y1=y2:=by have:((y1:Int)==(y2:Int))=true:=e;have:=eq_of_beq this;omega
    have eij:i=j:=hinj i j (by rw[hlen];exact hi) (by rw[hlen];exact hj) (by show cf _=cf _;rw[ady,adz,ex,ey]);subst eij;have eo:o1=o2:=by rw[ho1]at ho2;exact Option.some.inj ho2
    subst eo;rw[hd1]at hd2;have er:r1=r2:=by
     injection hd2 with hd2 _;have:=congrArg Array.toList hd2;simp at this;exact this.2.2
    subst er;have fl:decide ((Value.int (x1:Int) t1::Value.int (y1:Int) t2::r1).toArray.size < (Value.int (x2:Int) t3::Value.int (y2:Int) t4::r1).toArray.size)=decide (x1*1000+y1 < x2*1000+y2):=by
     rw[ex,ey];simp
    rcases hr1 with rfl | ⟨z,t5,rfl⟩
    ·exact kat_nil (by rw[fl];exact hC')
    ·refine kat_cons (SeqAt.EqAt.same _ X.prog X.w _ _ ?_)
     exact kat_yes (kat_nil (by rw[fl];exact hC'))
   ·have ey:y1≠y2:=λz=>by have:((y1:Int)==(y2:Int))=false:=e;simp[z]at this
    refine kat_one _ _ (lt_int ?_);show C (decide ((y1:Int) < (y2:Int))) _;rw[show decide ((y1:Int) < (y2:Int))=decide (x1*1000+y1 < x2*1000+y2) by rw[ex];simp];exact hC'
  ·have ex:x1≠x2:=λz=>by have:((x1:Int)==(x2:Int))=false:=e;simp[z]at this
   show wpAny _ _ (oneLt' true _ _) _ _ _;refine oneLt_int ?_;rw[show decide ((x1:Int) < (x2:Int))=decide (x1*1000+y1 < x2*1000+y2) by
    by_cases z:x1 < x2
    ·rw[decide_eq_true (by omega),decide_eq_true (by omega)]
    ·rw[decide_eq_false (by omega),decide_eq_false (by omega)]]
   exact hC'
 ·intro h' p pp sp kp he
  rw[hlen]at pp sp;obtain⟨e,he⟩:=he;have eo:(p.toList.map λi=>(as.map Value.ref).getD i Value.none)=(p.toList.map λi=>as.getD i 0).map Value.ref:=by
   rw[List.map_map];refine List.map_congr_left λi hi=>?_;exact gv i (List.mem_range.mp (pp.pm.mem_iff.mp hi))
  rw[eo]at he;have pm:(p.toList.map λi=>as.getD i 0).Perm as:=by
   have:=pp.pm.map λi=>as.getD i 0;have e2:(List.range as.length).map (λi=>as.getD i 0)=as:=by
    apply List.ext_getElem
    ·simp
    ·intro k h1 h2;simp at h1;simp[h1]
   rw[e2]at this;exact this
  have pw:((p.toList.map λi=>as.getD i 0).map cf).Pairwise (· < ·):=by
   rw[List.map_map,List.pairwise_iff_getElem];intro i j hi hj hij;rw[List.length_map,Array.length_toList,pp.sz]at hi hj;have:=sp i j hij hj;have g1:p.getD i 0=p.toList[i]'(by rw[Array.length_toList,pp.sz];exact hi):=by simp[Array.getD,pp.sz,hi]
   have g2:p.getD j 0=p.toList[j]'(by rw[Array.length_toList,pp.sz];exact hj):=by simp[Array.getD,pp.sz,hj]
   simp only[List.getElem_map,Function.comp];rw[<- g1,<- g2];exact this
  have hl:((p.toList.map λi=>as.getD i 0).map V.ref).length<=sizeLine:=by
   rw[List.length_map,pm.length_eq];exact Nat.le_of_lt (aD (by omega))
  refine⟨.ref (s.heap.objs.size+1),_,I.laid (o:=.lst _) (t':=s.toks) (λb o z=>kp b o z) (Nat.le_succ _) ⟨hl,(p.toList.map λi=>as.getD i 0).map Value.ref,e,yW _,he⟩,rfl,q _ _ (I.hok.fresh (Nat.le_succ _)) pm pw⟩
end
end L2
end
section
namespace L2
open PySem PySem.Spec PyProof.Rows PySem.W
noncomputable def Raw (h:Heap)(d:Addr)(g:Array DictEntry)(e:Nat):Prop:=∃x,h.get? d=some x/\x.ExactDict/\x.data=.dict g e
theorem Raw.ty {s:Shared}{d:Addr}{g:Array DictEntry}{e:Nat}(m:Raw s.heap d g e):s.TypeIs (.ref d) "dict":=let ⟨x,p,q,_⟩:=m;⟨x,p,q.1⟩
theorem Raw.mv {h h':Heap}{d:Addr}{g:Array DictEntry}{e:Nat}(m:Raw h d g e)(k:∀x,h.get? d=some x->h'.get? d=some x):Raw h' d g e:=let ⟨x,p,q⟩:=m;⟨x,k _ p,q⟩
theorem Raw.lt {h:Heap}{d:Addr}{g:Array DictEntry}{e:Nat}(m:Raw h d g e):d < h.objs.size:=let ⟨x,p,q⟩:=m;Heap.lt_size p
section
variable {prog:Program}{w:World}{A:Around}{E:Value->Shared->Prop}{s:Shared}{d a:Addr}{g:Array DictEntry}{e i:Nat}
theorem Yq {Q:Value->Shared->Prop}(hd:(d==sysModules)=false)(m:Raw s.heap d g e)
  (q:Q (.ref s.heap.objs.size) { s with heap:=s.heap.push { cls:=.type "dict_keyiterator",data:=.fields #[.ref d,.int 0 0,.int g.size 0,.int e 0] } }):wpAny (model prog w) A (pyIter (.ref d)) Q E s:=by
 have T:=m.ty;obtain⟨x,p1,p2,p3⟩:=m;refine wpAny_pyIter_slot T F.slot_dict_iter (wpAny_call_entry F.slot_dict_iter T F.entry_dict_iter ?_ (F.args_dict_iter_1 _));unfold Builtin.«dict.__iter__» Builtin.Dict.dictSlotNone;refine wpAny_bind (wpAny_bind (wpAny_notOrdered_dict T ?_));show wpAny _ _ (pure (Value.ref d)) _ _ s;refine wpAny_pure ?_;show wpAny _ _ (Builtin.Dict.showsAll d >>= _) _ _ s;unfold Builtin.Dict.showsAll;rw[if_neg (by rw[hd];exact Bool.false_ne_true)];refine wpAny_bind (wpAny_pure (wpAny_bind (wpAny_dictEntries p1 p3 (wpAny_bind (wpAny_dictEpoch p1 p3 ?_)))));refine wpAny_bind (wpAny_newObj_type (wpAny_pure ⟨_,rfl,"dict_keyiterator",_,⟨_,Heap.get?_push_size _ rfl,rfl⟩,F.slot_dict_keyiterator_next.lookup,?_⟩));simpa [rawInt] using q
theorem Yr {Q:Option Value->Shared->Prop}(t:s.heap.IsKeyIter a d i g.size e)(m:Raw s.heap d g e)(hi:i < g.size)
  (q:∀h',h'.IsKeyIter a d (i+1) g.size e->Heap.SameBut a s.heap h'->Q (some g[i].key) { s with heap:=h' }):wpAny (model prog w) A (pyNext (.ref a)) Q E s:=by
 have T:=t.typeIs;obtain⟨x,t1,t2,t3⟩:=id t;obtain⟨y,p1,p2,p3⟩:=m;unfold pyNext;refine wpAny_bind (wpAny_attempt (wpAny_callSpecial?_slot (name:=Str.ofString "__next__") T F.slot_dict_keyiterator_next (wpAny_call_entry F.slot_dict_keyiterator_next T F.entry_dict_keyiterator_next ?_ (F.args_dict_keyiterator_next_1 _))));refine wpAny_bind (wpAny_pure (wpAny_bind (wpAny_bind ?_)))
 first | refine wpAny_bind (wpAny_typeNameOfWhole_keyiter T (wpAny_pure ?_)) | refine wpAny_bind (wpAny_typeNameOf_keyiter T (wpAny_pure ?_))
 refine wpAny_bind (wpAny_fieldsOf t1 t3 ?_);have Ys:Builtin.Dict_items.ownsTuple "dict_keyiterator"=false:=by decide
 simp only[Ys,Bool.false_eq_true,if_false];show wpAny _ _ (if (Value.ref d==Value.none)=true then _ else _) _ _ s;rw[if_neg (show ¬((Value.ref d==Value.none)=true) from Bool.false_ne_true)];refine wpAny_bind (wpAny_pure (wpAny_bind (wpAny_dictEntries p1 p3 ?_)));rw[if_neg (by simp)];refine wpAny_bind (wpAny_pure (wpAny_bind (wpAny_dictEpoch p1 p3 ?_)));rw[if_neg (by simp)];refine wpAny_pure ?_;simp only[show ¬((i:Int) < 0) from by omega,if_false,Int.toNat_natCast,Array.getElem?_eq_getElem hi];refine wpAny_bind ?_
 first | refine wpAny_bind (wpAny_typeNameOfWhole_keyiter T (wpAny_pure ?_)) | refine wpAny_bind (wpAny_typeNameOf_keyiter T (wpAny_pure ?_))
 refine wpAny_bind (wpAny_isOneOf_keyiter T ?_);show wpAny _ _ (setField (.ref a) 1 (rawInt ((i:Int)+1)) >>= _) _ _ s;refine wpAny_bind (wpAny_setField t1 t3 (by simp) ?_);have t':(s.heap.update a (Obj.mapFields (·.setIfInBounds 1 (rawInt ((i:Int)+1))))).IsKeyIter a d (i+1) g.size e:=
  ⟨_,Heap.get?_update_self _ t1 (Obj.isFreed_of_fields (Obj.data_mapFields t3 _)),(Obj.cls_mapFields ..).trans t2,by rw[Obj.data_mapFields t3];simp[rawInt]⟩
 refine wpAny_bind (wpAny_holding (wpAny_bind (wpAny_isOneOf_keyiter (s:={ s with heap:=s.heap.update a (Obj.mapFields (·.setIfInBounds 1 (rawInt ((i:Int)+1)))) }) t'.typeIs ?_)));show wpAny _ _ (pure g[i].key) _ _ _;exact wpAny_pure (wpAny_pure ⟨_,rfl,wpAny_pure (q _ t' (Heap.SameBut.update ..))⟩)
theorem aa5 {Q:Option Value->Shared->Prop}(hh:A.handled=none)(t:s.heap.IsKeyIter a d i g.size e)(m:Raw s.heap d g e)(hi:g.size<=i)
  (q:∀h',Heap.ExtBut a s.heap h'->Q none { s with heap:=h' }):wpAny (model prog w) A (pyNext (.ref a)) Q E s:=by
 have T:=t.typeIs;obtain⟨x,t1,t2,t3⟩:=id t;obtain⟨y,p1,p2,p3⟩:=m;unfold pyNext;refine wpAny_bind (wpAny_attempt (wpAny_callSpecial?_slot (name:=Str.ofString "__next__") T F.slot_dict_keyiterator_next (wpAny_call_entry F.slot_dict_keyiterator_next T F.entry_dict_keyiterator_next ?_ (F.args_dict_keyiterator_next_1 _))));refine wpAny_bind (wpAny_pure (wpAny_bind (wpAny_bind ?_)))
 first | refine wpAny_bind (wpAny_typeNameOfWhole_keyiter T (wpAny_pure ?_)) | refine wpAny_bind (wpAny_typeNameOf_keyiter T (wpAny_pure ?_))
 refine wpAny_bind (wpAny_fieldsOf t1 t3 ?_);have Ys:Builtin.Dict_items.ownsTuple "dict_keyiterator"=false:=by decide
 simp only[Ys,Bool.false_eq_true,if_false];show wpAny _ _ (if (Value.ref d==Value.none)=true then _ else _) _ _ s;rw[if_neg (show ¬((Value.ref d==Value.none)=true) from Bool.false_ne_true)];refine wpAny_bind (wpAny_pure (wpAny_bind (wpAny_dictEntries p1 p3 ?_)));rw[if_neg (by simp)];refine wpAny_bind (wpAny_pure (wpAny_bind (wpAny_dictEpoch p1 p3 ?_)));rw[if_neg (by simp)];refine wpAny_pure ?_;simp only[show ¬((i:Int) < 0) from by omega,if_false,Int.toNat_natCast,Array.getElem?_eq_none hi];refine wpAny_bind ?_
 first | refine wpAny_bind (wpAny_typeNameOfWhole_keyiter T (wpAny_pure ?_)) | refine wpAny_bind (wpAny_typeNameOf_keyiter T (wpAny_pure ?_))
 show wpAny _ _ (setField (.ref a) 0 .none >>= _) _ _ s;refine wpAny_bind (wpAny_setField t1 t3 (by simp) ?_);show wpAny _ _ (newExc (.type "StopIteration") [] >>= _) _ _ _;refine wpAny_bind ?_;simp only[newExc,newTuple];refine wpAny_bind (wpAny_newObj_type ?_ (by size_fits));refine wpAny_bind (m:=firstArgMember _ _) (wpAny_of_eq (a:=Value.none) (by first | rfl | (simp only[firstArgMember];rfl)) (wpAny_newObj_type ?_ (by size_fits)));simp only[raiseNew];refine wpAny_bind (wpAny_handled ?_);rw[show A.in1.handled=none from hh];refine wpAny_bind (wpAny_pure (wpAny_throw ?_));refine wpAny_bind (m:=isInstance _ _) (wpAny_isInstance (T:="StopIteration") (b:=true) ⟨_,Heap.get?_push_size _ rfl,rfl⟩ isSubtype_stop ?_);exact wpAny_pure (q _ (((Heap.SameBut.update ..).extBut.push _).push _))
theorem Vp (hh:A.handled=none)(I:Addr)(hne:d≠I)(g:Array DictEntry)(e:Nat):Walks prog w A I [I,d] [I] g.size (λi v=>∃z,g[i]?=some z/\v=z.key) (λi h=>h.IsKeyIter I d i g.size e/\Raw h d g e) where
 sub:=λb hb=>by simp at hb;simp[hb]
 frame:=λ_ _ _ st hk=>⟨st.1.at λo z=>hk I (by simp) o z,st.2.mv λo z=>hk d (by simp) o z⟩
 item:=λi s Q E hi st hQ=>Yr st.1 st.2 hi λh' t' k=>hQ _ h' s.toks ⟨g[i],by simp[hi],rfl⟩ ⟨t',st.2.mv λo z=>k.extBut d o hne z⟩ λb o hb z=>k.extBut b o (λy=>hb (by simp[y])) z
 done:=λs Q E st hQ=>aa5 hh st.1 st.2 (Nat.le_refl _) λh' k=>hQ h' s.toks λb o hb z=>k b o (λy=>hb (by simp[y])) z
 self:=λ_ _ _ _ st hQ=>wpAny_pyIter_keyiter st.1 hQ
theorem aa6 (lo:(d==sysModules)=false)(g:Array DictEntry)(e:Nat):KdlSrc prog w "dict" d d g.size (λi v=>∃z,g[i]?=some z/\v=z.key) (λh=>Raw h d g e) where
 type:=λ_ m=>m.ty
 there:=λ_ m=>⟨m.lt,m.lt⟩
 keep:=λ_ _ m hk=>m.mv λo z=>hk d (.inl rfl) o z
 notList:=by decide
 notTuple:=by decide
 hint:=λ_ _ _ _ m q=>kdl_hint_dict m.ty q
 iter:=λ_ _ hh m=>⟨_,_,(λ_ _ q=>Yq lo m q),Vp hh _ (Nat.ne_of_lt m.lt) g e,⟨⟨_,Heap.get?_push_size _ rfl,rfl,rfl⟩,m.mv λo z=>Heap.get?_push_of_some _ z⟩⟩
end
section
variable {X:Cx}
noncomputable def adA:List V->Hp->VK->Prop:=λxs H Q=>∃(a:Addr) (kvs:List (List Key × V)),xs=[.ref a]/\H a=some (.dT kvs)/\
 ((kvs.map (·.1)).Nodup->∀(p:Addr) (bs:List Addr),H p=none->Paired (λ(k:List Key) (b:Addr)=>H b=some (.tup (k.map kV))) (kvs.map (·.1)) bs->Q (.ref p) (upd H p (.lst (bs.map V.ref))))
theorem aeV {H:Hp}{kvs:List (List Key × V)}{xs:List (List Key × Addr × Value)}(r:KT H kvs xs):Paired (λ(k:List Key) (b:Addr)=>H b=some (.tup (k.map kV))) (kvs.map (·.1)) (xs.map λx=>x.2.1)/\kvs.map (·.1)=xs.map (·.1):=by
 unfold KT at r
 induction r with
 | nil=>exact⟨.nil,rfl⟩
 | cons h t ih=>exact⟨.cons h.2.1 ih.1,by rw[List.map_cons,List.map_cons,ih.2,h.1]⟩
theorem RJ (hc:X.calm=true):fM X (.type "list") adA:=by
 intro y7 s σ H xs us Q I r h;obtain⟨a,kvs,rfl,e,q⟩:=h;obtain⟨u,rfl,ru⟩:=vals1 r;cases ru;obtain⟨z,lo,ys,rel,o,es,ep,h1,h2,h3,h4,h5⟩:=(show cW X.prog X.w H s.heap a (.dT kvs) from I.hok _ _ e)
 obtain⟨pb,pk⟩:=aeV rel;have hsz:es.size=ys.length:=size_of_entries h4;have hlen:kvs.length=ys.length:=by have:=congrArg List.length pk;simpa using this
 refine kdl_call (aa6 lo es ep) (I.ok.hd hc) ⟨o,h1,h2,h3⟩ (by rw[hsz,<- hlen];exact z) λh' tk acc c' hk hD hacc=>?_;have ea:acc.toList=(ys.map λx=>x.2.1).map Value.ref:=by
  apply List.ext_getElem?;intro j;by_cases hj:j < ys.length
  ·have hj':j < acc.size:=by rw[hacc.1,hsz];exact hj
   obtain⟨z1,e1,e2⟩:=hacc.2 j acc[j] (by simp[hj']);rw[entry_at h4 j,List.getElem?_eq_getElem hj]at e1;have e1:=Option.some.inj e1;subst e1;rw[Array.getElem?_toList,Array.getElem?_eq_getElem hj',e2];simp[hj];rfl
  ·rw[List.getElem?_eq_none (by rw[Array.length_toList,hacc.1,hsz];omega),List.getElem?_eq_none (by simp;omega)]
 refine⟨.ref s.heap.objs.size,_,I.laid (o:=.lst _) (t':=tk) hk (Nat.le_refl _) ⟨by rw[List.length_map,List.length_map,<- hlen];exact z,acc.toList,c',ea ▸ yW _,by simpa using hD⟩,rfl,q (by rw[pk];exact h5) _ _ (I.hok.fresh (Nat.le_refl _)) pb⟩
open Classical in
theorem GC (d:Dt):∀es:List Dt,((je es).any λy=>PyData.eqv y (toP d))=decide (d∈es)
 | []=>by simp[je]
 | e::es=>by
  rw[je,List.any_cons,GC d es,Gy];by_cases z:e=d
  ·subst z;simp
  ·have z':¬d=e:=λy=>z y.symm
   simp[z,z']
end
section
variable {X:Cx}{pos:Pos}
theorem aa7 {o i:Expr}{td ty:TE}(hu:X.A.units+1 < cLine)(ho:QE X o td)(hi:QE X i ty)(hs:X6 i):QE X (.Subscript o i pos) (aad td ty):=⟨aaT hu ho.out hi.out hs⟩
theorem Yt:QE X (.Dict [] [] pos) UL:=⟨Yb⟩
end
end L2
end
section
namespace L2
open PySem PySem.Spec PyProof.Rows PySem.W
section
variable {prog:Program}{w:World}{A:Around}{E:Value->Shared->Prop}{s:Shared}
theorem adB {a b:Addr}{oa ob:Obj}{na nb:Nat}{x1 y1 x2 y2:Nat}{t1 t2 t3 t4:Tok}{r1 r2:List Value}{Q:Value->Shared->Prop}
  (ha:s.heap.get? a=some oa) (ca:oa.cls=.type "tuple") (da:oa.data=.seq (Value.int x1 t1::Value.int y1 t2::r1).toArray na)
  (hb:s.heap.get? b=some ob) (cb:ob.cls=.type "tuple") (db:ob.data=.seq (Value.int x2 t3::Value.int y2 t4::r2).toArray nb) (l1:y1 < 1000) (l2:y2 < 1000) (hu:A.units < cLine) (hne:x1*1000+y1≠x2*1000+y2)
  (q:Q (.bool (decide (x1*1000+y1 < x2*1000+y2))) s):wpAny (model prog w) A (compareOp .Lt (.ref a) (.ref b)) Q E s:=by
 have Ta:s.TypeIs (.ref a) "tuple":=⟨oa,ha,ca⟩
 have Tb:s.TypeIs (.ref b) "tuple":=⟨ob,hb,cb⟩
 show wpAny _ _ (richCompare .Lt (.ref a) (.ref b)) Q E s;refine wpAny_richCompare_same_room (op:=.Lt) (T:="tuple") Ta Tb F.slot_tuple_lt (wpAny_call_entry F.slot_tuple_lt Ta F.entry_tuple_lt ?_ (F.args_tuple_lt_2 _ _)) hu;show wpAny _ _ (isInstance (.ref b) (.type "tuple") >>= _) _ _ s;refine wpAny_bind (wpAny_isInstance Tb isSubtype_tuple_tuple ?_);simp only[Bool.not_true,Bool.false_eq_true,if_false];refine wpAny_bind (wpAny_tupleItemsOf ha da (wpAny_bind (wpAny_tupleItemsOf hb db (wpAny_bind ?_))));rw[show (Value.int (x1:Int) t1::Value.int (y1:Int) t2::r1).toArray.toList.zip (Value.int (x2:Int) t3::Value.int (y2:Int) t4::r2).toArray.toList=(Value.int (x1:Int) t1,Value.int (x2:Int) t3)::(Value.int (y1:Int) t2,Value.int (y2:Int) t4)::r1.zip r2 from rfl];rw[List.forIn_cons];refine wpAny_bind ?_;dsimp only;refine wpAny_bind (SeqAt.EqAt.int_int _ _ _ _ prog w _ _ ?_);by_cases ex:x1=x2
 ·subst ex
  simp only[beq_self_eq_true,Bool.not_true,Bool.false_eq_true,if_false];refine wpAny_pure ?_;dsimp only;rw[List.forIn_cons];refine wpAny_bind ?_;dsimp only;refine wpAny_bind (SeqAt.EqAt.int_int _ _ _ _ prog w _ _ ?_);have ey:((y1:Int)==(y2:Int))=false:=by
   apply beq_eq_false_iff_ne.mpr;intro z;exact hne (by omega)
  simp only[ey,Bool.not_false,if_true];refine wpAny_bind (wpAny_rule (wpAny_bind (lt_int ?_)));refine wpAny_bind (wpAny_pure (wpAny_pure (wpAny_pure (wpAny_pure ⟨_,rfl,by simp,?_⟩))));rw[show decide ((y1:Int) < (y2:Int))=decide (x1*1000+y1 < x1*1000+y2) by simp];exact q
 ·have ey:((x1:Int)==(x2:Int))=false:=by
   apply beq_eq_false_iff_ne.mpr;intro z;exact ex (by omega)
  simp only[ey,Bool.not_false,if_true];refine wpAny_bind (wpAny_rule (wpAny_bind (lt_int ?_)));refine wpAny_bind (wpAny_pure (wpAny_pure (wpAny_pure (wpAny_pure ⟨_,rfl,by simp,?_⟩))));rw[show decide ((x1:Int) < (x2:Int))=decide (x1*1000+y1 < x2*1000+y2) by
    by_cases z:x1 < x2
    ·rw[decide_eq_true (by omega),decide_eq_true (by omega)]
    ·rw[decide_eq_false (by omega),decide_eq_false (by omega)]]
  exact q
end
section
variable {X:Cx}
noncomputable def afu:R2:=λx y H Q=>∃(a b:Addr) (x1 y1 x2 y2:Nat) (r1 r2:List V),x=.ref a/\y=.ref b/\H a=some (.tup (.int x1 :: .int y1::r1))/\H b=some (.tup (.int x2 :: .int y2::r2))/\y1 < 1000/\y2 < 1000/\x1*1000+y1≠x2*1000+y2/\
 Q (.bl (decide (x1*1000+y1 < x2*1000+y2))) H
theorem adC (hu:X.A.units < cLine):dZ X (compareOp .Lt) afu:=by
 intro y7 s σ H x y v u Q I rx ry h;obtain⟨a,b,x1,y1,x2,y2,r1,r2,rfl,rfl,ea,eb,l1,l2,hne,q⟩:=h;cases rx;cases ry;obtain⟨_,tv,K7,o,ho,hc,n,hd⟩:=I.hok _ _ ea;obtain⟨_,tv',Yu,o',ho',hc',n',hd'⟩:=I.hok _ _ eb;cases K7 with
 | cons q1 rr=>
  cases rr with
  | cons q2 rr=>
   cases Yu with
   | cons q3 rr'=>
    cases rr' with
    | cons q4 rr'=>
     obtain⟨t1,rfl⟩:=q1;obtain⟨t2,rfl⟩:=q2;obtain⟨t3,rfl⟩:=q3;obtain⟨t4,rfl⟩:=q4;exact adB ho hc hd ho' hc' hd' l1 l2 hu hne ⟨.bl _,H,I,rfl,q⟩
end
end L2
end
section
namespace L2
open PySem PySem.Spec PyProof.Rows PySem.W
section
variable {X:Cx}
structure afT (K:W.Frag)(C:Addr):Prop where
 ha:W.findIn K (.ref C) "__class__"=some (some (.builtin "object.__class__"))
 hn:W.specialIn K (.builtin "object.__class__") "__get__"=some (some (.builtin "getset_descriptor.__get__"))
 ht:W.takesIn K (.builtin "object.__class__")=some true
 hm:W.mroIn K C (.type "object")=some true
 ki:W.kitOne K (.ref C) (.ref C)=some true
noncomputable def adD:List V->Hp->VK->Prop:=λxs H Q=>∃l:List Nat,xs=[.str (S l)]/\l.length<=1000/\∀p,H p=none->Q (.ref p) (upd H p (.lst (Ts (l.map λc=>[c]))))
theorem Ja:∀(l:List Nat) (us:List Value),us.length=l.length->(∀(i c:Nat),l[i]?=some c->∃t,us[i]?=some (.str (S [c]) t))->Vals (Ts (l.map λc=>[c])) us
 | [],[],_,_=>.nil
 | [],_::_,h,_=>by simp at h
 | _::_,[],h,_=>by simp at h
 | c::l,u::us,h,k=>by
  obtain⟨t,e⟩:=k 0 c rfl;have e:u=.str (S [c]) t:=Option.some.inj e;exact .cons ⟨t,e⟩ (Ja l us (by simpa using h) λi d hd=>k (i+1) d hd)
theorem wB (hc:X.calm=true):fM X (.type "list") adD:=by
 intro y7 s σ H xs us Q I r h;obtain⟨l,rfl,hl,q⟩:=h;obtain⟨u,rfl,ru⟩:=vals1 r;obtain⟨t,rfl⟩:=ru;have hz:l.length<=sizeLine:=Nat.le_of_lt (aD (by omega));refine call_list_str (I.ok.hd hc) (S l) t (λh' tk acc c' hk hD hacc=>?_) (by show l.toArray.size<=_;simpa using hz);have hsz:acc.size=l.length:=by rw[hacc.1];show l.toArray.size=_;simp
 refine⟨.ref s.heap.objs.size,_,I.laid (o:=.lst (Ts (l.map λc=>[c]))) (t':=tk) hk (Nat.le_refl _) ⟨by rw[List.length_map,List.length_map];exact hz,acc.toList,c',?_,by simpa using hD⟩,rfl,q _ (I.hok.fresh (Nat.le_refl _))⟩;refine Ja l acc.toList (by rw[Array.length_toList];exact hsz) λi c hc=>?_;have hi:i < acc.size:=by rw[hsz];exact(List.getElem?_eq_some_iff.mp hc).1
 obtain⟨c2,t2,e1,e2⟩:=hacc.2 i acc[i] (by simp[hi]);have e1:l.toArray[i]?=some c2:=e1;rw[List.getElem?_toArray,hc]at e1;have e1:=Option.some.inj e1;exact⟨t2,by rw[Array.getElem?_toList,Array.getElem?_eq_getElem hi,e2,e1];rfl⟩
end
end L2
end
section
namespace L2
open PySem PySem.Spec PyProof.Rows
theorem aa8 {X:Cx}{ix:Nat}{xn:Str}{Cz spos:Pos}{elt iter tg:Expr}{ns N2:List Str}{f:St->St}{TP:V->Hp->(St->Prop)->Prop}{ifs:List Expr}{scope:Scope}{pos:Pos}{wi:TI}{tt:TT}{te:TE}(hN:X.N.Nodup)(hxi:X.N[ix]?=some xn)(hxl:Loc X.env.scope xn)(hc:X.calm=true)(ok:dR X scope ns N2 f)(hi:PI X tg iter wi)
  (hg:∀cl C s₀ H₀ fp,IK (cR X scope cl C (ns++N2) s₀ H₀ fp) tg ns.length TP)
  (ht:∀cl C s₀ H₀ fp,PK (cR X scope cl C (ns++N2) s₀ H₀ fp) ifs tt) (he:∀cl C s₀ H₀ fp,PE (cR X scope cl C (ns++N2) s₀ H₀ fp) elt te)
  (hs:∀x,foldedSetIterable iter X.env x=pure x:=by intro _;rfl) (hsw:swapsWith (.ListComp elt [⟨tg,iter,ifs,0⟩] scope pos) (some (.Name xn Cz)) spos.line X.env=pure true:=by rfl)
  (hf:X.fn xn=true\/X.env.scope.names.lookup xn=some .local:=by first | exact .inl rfl | exact .inr rfl | assumption) :
  PS X (.Assign [.Name xn Cz] (.ListComp elt [⟨tg,iter,ifs,0⟩] scope pos) spos) (Ck (Ey f ns.length wi TP tt te) (jE ix)):=by
 intro y7 s σ H De I h;obtain⟨cl,hcl,hsub,_,hall⟩:=nG (env:=X.env) scope.names (λy hy e=>I.ok.has y.1 (ok.free y hy e)) [] (λ_ _ z=>by simp at z);have hclos:closureFor scope X.env=pure cl:=by
  unfold closureFor;simp only[bind_pure];exact hcl
 rw[exec_Assign_Name_used _ _ _ _ hsw];refine wpAny_bind (wpAny_standAt (wpAny_bind (wpAny_bind ?_)));refine bG (Q:=λ_ s'=>∃σ' H',Inv X y7 σ' H' s'/\De.nx σ' H') ?_ λ_ s' hq=>wpAny_pure (wpAny_pure hq);refine wpAny_comprehension_free (use:=some (assign (.Name xn Cz) X.env)) (E:=X.xe) (cl:=cl) rfl hs hclos ok.kind ok.names (bG (hi y7 s σ H _ I h) λv s1 h1=>bG h1 λitv s2 h2=>?_);obtain⟨it,fp,tn,J,H2,e,I2,T,st2,f2,R⟩:=h2;subst e;obtain⟨W,⟨m0,w0⟩,turn⟩:=R s2.heap.objs.size I2.fresh;refine wpAny_newObj_type (wpAny_newFunctionEnv ok.pq (by intro y hy;simp at hy) (λh₁ hns₁ hsb₁=>?_) ok.kind);dsimp only at hns₁ hsb₁ ⊢;have I3:Inv X y7 σ (upd H2 s2.heap.objs.size (.lst [])) { s2 with heap:=s2.heap.push { cls:=.type "list",data:=.seq ([]:List Value).toArray } }:=I2.Ro (t':=s2.toks) (ys:=[]) (its:=[]) .nil (Nat.zero_le _);generalize U3:upd H2 s2.heap.objs.size (HO.lst [])=H3 at *
 generalize hs3:s2.heap.push { cls:=.type "list",data:=.seq ([]:List Value).toArray }=hp3 at *
 generalize hD:s2.heap.objs.size=D at *
 generalize hC:hp3.objs.size=C at *
 have hDC:D < C:=by rw[<- hC,<- hs3,Heap.size_push,hD];exact Nat.lt_succ_self _
 have old:∀b o,hp3.get? b=some o->h₁.get? b=some o:=λb o e=>(hsb₁.2 b (by rw[<- hC];exact Nat.ne_of_lt (Heap.lt_size e))).trans (Heap.get?_push_of_some _ e);have Im:∀b∈fp,b < C:=λb hb=>by
  obtain⟨o,e,_⟩:=T.obj _ _ st2 b hb;rw[<- hC,<- hs3,Heap.size_push];exact Nat.lt_succ_of_lt (Heap.lt_size e)
 have f3:∀b∈fp,mG X y7 H3 b:=λb hb=>by
  obtain⟨o,e,_⟩:=T.obj _ _ st2 b hb;refine⟨?_,(f2 b hb).2⟩;rw[<- U3,aP (by rw[<- hD];exact Nat.ne_of_lt (Heap.lt_size e))];exact(f2 b hb).1
 have yN:∀b∈fp,b∉frs X.stack:=λb hb z=>by
  obtain⟨_,g1,g2,_⟩:=f3 b hb;rcases List.mem_cons.mp (I3.vp b z) with q | q
  ·exact g1 q
  ·exact g2 q
 have U4:(cR X scope cl C (ns++N2) { s2 with heap:=hp3 } H3 fp).Ok:=by
  refine⟨I.ok.mod,?_,I.ok.glob,I.ok.blt,Nat.le_of_eq hC,?_,?_,?_,I.ok.hd,I.ok.frames,.inl rfl,?_,?_,?_,?_,?_,?_,?_⟩
  ·exact ok.kind
  ·exact λa b c h1 h2=>I.ok.inj a b c (hsub a c h1) (hsub b c h2)
  ·intro a ha
   refine hall a ?_;rcases ha with z | z
   ·rcases bZ (env:=X.env) z with q | ⟨_,q⟩
    ·exact absurd rfl (ok.pq _ (cA q))
    ·exact cA q
   ·rcases bZ (env:=X.env) z with q | ⟨q,_⟩
    ·exact cA q
    ·cases q
  ·intro a c hf;cases hf
  ·intro b hb
   refine⟨Nat.ne_of_lt (Im b hb),λa c h1=>(f3 b hb).2.2.2.2.1 a c (hsub a c h1)⟩
  ·exact I3.bs
  ·exact Nat.le_trans I.ok.qK I3.sz
  ·intro b o e hb
   rcases(f3 b hb).2.2.2.1 with z | z
   ·exact I.ok.uN b o e z
   ·exact absurd (Nat.lt_of_lt_of_le (Heap.lt_size e) (Nat.le_trans I.ok.qK z)) (Nat.lt_irrefl _)
  ·exact yN
  ·exact I3.stack
  ·exact I3.oG
 have Y0:Inv (cR X scope cl C (ns++N2) { s2 with heap:=hp3 } H3 fp) [] (List.replicate ns.length none++f σ) H3 { s2 with heap:=h₁,toks:=s2.toks+([]:List (Str × Value)).length }:=by
  refine⟨U4,rfl,I3.bare,Un.kept old,⟨_,hns₁,?_⟩,?_,?_,?_,λp hp=>by simp[cR]at hp,I3.hok.kept old,?_⟩
  ·intro i y v e1 e2 e3
   by_cases hin:i < ns.length
   ·rw[List.getElem?_append_left (by rw[List.length_replicate];exact hin),List.getElem?_replicate,if_pos hin]at e2
    simp at e2
   ·obtain⟨i,rfl⟩:∃k,i=ns.length+k:=⟨i-ns.length,by omega⟩
    have Vk:(ns++N2)[ns.length+i]?=some y:=e1;rw[List.getElem?_append_right (by omega),Nat.add_sub_cancel_left]at Vk;rw[List.getElem?_append_right (by rw[List.length_replicate];omega),List.length_replicate,Nat.add_sub_cancel_left]at e2;obtain⟨e1',e2',hout⟩:=ok.out σ i y v Vk e2;have hfree:(y,NameKind.free)∈scope.names:=by
     have key:∀k,(relabel scope X.env).names.lookup y=some k->k≠.local->k=.cell\/k=.free->(y,NameKind.free)∈scope.names:=λk q n hk=>by
      rcases bZ (env:=X.env) q with z | ⟨_,z⟩
      ·rcases hk with rfl | rfl
       ·exact absurd rfl (ok.pq _ (cA z))
       ·exact cA z
      ·exact cA z
     rcases e3 with z | z | z
     ·rcases bZ (env:=X.env) z with q | ⟨q,_⟩
      ·exact absurd q hout
      ·cases q
     ·exact key _ z (by decide) (.inl rfl)
     ·exact key _ z (by decide) (.inr rfl)
    have hk:=ok.free _ hfree rfl;obtain⟨m,hn,hl⟩:=I3.loc;obtain⟨u,r,q⟩:=hl i y v e1' e2' (by rcases hk with z | z;exact .inr (.inl z);exact .inr (.inr z));refine⟨u,r,.inr ⟨?_,?_⟩⟩
    ·rcases e3 with z | z | z
     ·rcases bZ (env:=X.env) z with q | ⟨q,_⟩
      ·exact absurd q hout
      ·cases q
     ·exact .inl z
     ·exact .inr z
    ·rcases q with⟨z,_⟩ | ⟨_,c,hc',hcell⟩
     ·rcases hk with q | q <;> (rw[z]at q;cases q)
     ·obtain⟨c',hc2⟩:=hall y hfree
      have:c'=c:=by have:=hsub y c' hc2;rw[hc']at this;exact(Option.some.inj this).symm
      subst this;obtain⟨o,ho,hd⟩:=hcell;exact⟨c',hc2,o,old _ _ ho,hd⟩
  ·intro a c h1
   obtain⟨v,o,ho,hd⟩:=I3.cell a c (hsub a c h1);exact⟨v,o,old _ _ ho,hd⟩
  ·show H3 C=none
   exact I3.hok.fresh (Nat.le_of_eq hC)
  ·exact λa c h1=>I3.iM a c (hsub a c h1)
  ·show (List.replicate ns.length none++f σ).length=(ns++N2).length
   rw[List.length_append,List.length_append,List.length_replicate,ok.Yl,I.len,ok.Ym]
 have back:∀(s':Shared) (v:St) (H':Hp) (h':Heap),Inv (cR X scope cl C (ns++N2) { s2 with heap:=hp3 } H3 fp) [] v H' s'->Heap.SameBut C s'.heap h'->(∀b∈fp,H' b=none)->Inv X y7 σ H' { s' with heap:=h' }:=by
  intro s' v H' h' I' sb fr;have qL:∀b o,hp3.get? b=some o->b≠C:=λb o e=>by rw[<- hC];exact Nat.ne_of_lt (Heap.lt_size e)
  have U:Un (frs X.stack) fp H3 H' hp3 s'.heap:=I'.base;refine I3.call' (ch:=fp) (H':=H') (s':={ s' with heap:=h' }) I'.os ⟨λb o e n h1 h2=>(sb.2 b (qL b o e)).trans (U.keep b o e n h1 h2),λb o e n h1 h2=>?_,U.free,λb o e h2=>?_,U.tups,U.jX,U.j8⟩ (λb ob e=>?_) I'.bare λb hb=>?_
  ·obtain⟨sl,q⟩:=U.slot b o e n h1 h2
   exact⟨sl,(sb.2 b (qL b o e)).trans q⟩
  ·obtain⟨o',q⟩:=U.there b o e h2
   exact⟨o',(sb.2 b (qL b o e)).trans q⟩
  ·have fC:H' C=none:=I'.free
   refine(I'.hok b ob e).stay (λc w' hc q=>(sb.2 c ?_).trans q) (λ_ q=>q) λ_ _ q=>q;rintro rfl;rcases hc with rfl | hc
   ·rw[fC]at e;cases e
   ·rw[fC]at hc;cases hc
  ·obtain⟨_,g1,_,g3,g4,g5⟩:=f3 b hb
   exact⟨g3,g1,g4,g5⟩
 have stat:∀{H':Hp},(∀b∈fp,H' b=none)->∀b∈fp,mG (cR X scope cl C (ns++N2) { s2 with heap:=hp3 } H3 fp) [] H' b:=λhn b hb=>
  ⟨hn b hb,Nat.ne_of_lt (Im b hb),yN b hb,.inl hb,λa c h1=>(f3 b hb).2.2.2.2.1 a c (hsub a c h1),λp hp=>by simp[cR]at hp⟩
 have st₁:tn 0 h₁:=T.keep _ _ _ st2 λb _ o e=>old b o (by rw[<- hs3];exact Heap.get?_push_of_some _ e);have loop:codeAny (model X.prog X.w) X.A (.compLoop (.ListComp elt [⟨tg,iter,ifs,0⟩] scope pos) 0 (.ref it) (.ref D) (compEnvC scope cl C X.env)) (compPost (model X.prog X.w) X.A X.xe (some (assign (.Name xn Cz) X.env)) (λ_ s'=>∃σ' H',Inv X y7 σ' H' s'/\De.nx σ' H') (.ref D) C)
   { s2 with heap:=h₁,toks:=s2.toks+([]:List (Str × Value)).length }:=by
  refine wj (λn s'=>∃i v ys H',v.length=ns.length/\Inv (cR X scope cl C (ns++N2) { s2 with heap:=hp3 } H3 fp) [] (v++f σ) H' s'/\tn i s'.heap/\(∀b∈fp,H' b=none)/\W i n ys H') ?_ m0 ⟨0,List.replicate ns.length none,[],H3,List.length_replicate,Y0,st₁,λb hb=>(f3 b hb).1,w0⟩;rintro n s4 ⟨i,v,ys,H4,hv4,I4,Io,yO,w4⟩;rcases turn i n ys H4 w4 with⟨stop,qn⟩ | ⟨go,step⟩
  ·refine bG (T.done (cR X scope cl C (ns++N2) { s2 with heap:=hp3 } H3 fp) rfl rfl rfl hc i [] s4 (v++f σ) H4 _ I4 (stat yO) Io stop) λr s5 ⟨hr,I5⟩=>?_
   subst hr;obtain⟨m,hn,_⟩:=id I5.loc;have Ph:Inv X y7 σ H4 s5:=back s5 (v++f σ) H4 s5.heap I5 (Heap.SameBut.refl _ _) yO;have fC:mG X y7 H4 C:=⟨I5.free,(I3.Gu (H':=H3) (Nat.le_of_eq hC) (I3.hok.fresh (Nat.le_of_eq hC))).2⟩
   refine wpAny_assign_Name (H_ Ph hN hxi hxl (show RelV (.ref D) (.ref D) from rfl) (λs6 I6 zz=>?_) hf);obtain⟨a,sb6,ha⟩:=zz;have nCa:C≠a:=by
    rcases ha with z | z
    ·rw[z];exact fC.2.1
    ·exact λy=>fC.2.2.2.2.1 _ _ z y.symm
   obtain⟨o,es,ep,e1,e2⟩:=hn;refine⟨m,⟨o,es,ep,(sb6.2 C nCa).trans e1,e2⟩,λh' sb=>⟨_,H4,I6.turned (t':=s6.toks) (λb o hb e=>(sb.2 b hb).trans e) fC.1 fC.2.1 fC.2.2.2.1 fC.2.2.2.2.1 fC.2.2.2.2.2,qn⟩⟩
  ·refine bG (T.item (cR X scope cl C (ns++N2) { s2 with heap:=hp3 } H3 fp) rfl rfl rfl hc i [] s4 (v++f σ) H4 _ I4 (stat yO) Io go) λr s5 zz=>?_;obtain⟨u,hr,h5⟩:=zz
   subst hr;refine bG h5 λ_ s6 zz=>?_;obtain⟨y,H6,I6,r6,y6,yP,U5⟩:=zz;have U6:=I6.pinned (stat U5) (T.obj _ _ yP);refine bG (hg cl C { s2 with heap:=hp3 } H3 fp _ s6 v (f σ) H6 y u _ hv4 U6 r6 (step y H6 y6)) λ_ s7 zz=>?_;obtain⟨pre,hpre,U7,q7⟩:=zz;refine bG (ht cl C { s2 with heap:=hp3 } H3 fp _ s7 _ H6 _ U7 q7) λb s8 zz=>?_;obtain⟨H8,I8,q8⟩:=zz;have pW:∀{σ':St} {H':Hp} {s':Shared},Inv (cR X scope cl C (ns++N2) { s2 with heap:=hp3 } H3 fp) ([]++rW fp s6.heap) σ' H' s'->tn (i+1) s'.heap/\∀b∈fp,H' b=none:=λ{σ' H' s'} I9=>by
    refine⟨T.keep _ _ _ yP λb hb o e=>(I9.pin (b,o) (List.mem_append_right _ (List.mem_append_right _ (iT hb e)))).1,λb hb=>?_⟩;obtain⟨o,e,d⟩:=T.obj _ _ yP b hb;exact(I9.pin (b,o) (List.mem_append_right _ (List.mem_append_right _ (iT hb e)))).2.1
   cases b with
   | false=>
    obtain⟨m',hm,w'⟩:=q8;obtain⟨k1,k2⟩:=pW I8;exact⟨m',hm,i+1,pre,ys,H8,hpre,I8.jF,k1,k2,w'⟩
   | true=>
    have U8:te (pre++f σ) H8 _:=q8;show wpAny _ _ (eval elt _) _ _ _;refine bG (he cl C { s2 with heap:=hp3 } H3 fp _ s8 _ H8 _ I8 U8) λz s9 zz=>?_;obtain⟨zv,H9,I9,r9,U9,U_,m',hm,w'⟩:=zz;refine bG (g_ (X:=cR X scope cl C (ns++N2) { s2 with heap:=hp3 } H3 fp) _ s9 _ H9 (.ref D) [zv] (.ref D) [z] (λ_ H'=>H'=upd H9 D (.lst (ys++[zv]))) I9 rfl (.cons r9 .nil) ⟨D,ys,zv,rfl,rfl,U9,U_,rfl⟩) λ_ PL zz=>?_;obtain⟨_,H10,Ip,_,e10⟩:=zz;subst e10;obtain⟨k1,k2⟩:=pW Ip;exact⟨m',hm,i+1,pre,ys++[zv],_,hpre,Ip.jF,k1,k2,w'⟩
 exact codeAny_compStart_list loop (T.self X.A 0 _ _ _ st₁ loop)
theorem vH {X:Cx}{ix:Nat}{xn:Str}{Cz spos:Pos}{elt iter tg:Expr}{ns N2:List Str}{f:St->St}{TP:V->Hp->(St->Prop)->Prop}{ifs:List Expr}{scope:Scope}{pos:Pos}{wi:TI}{tt:TT}{te:TE}(hN:X.N.Nodup)(hxi:X.N[ix]?=some xn)(hxl:Loc X.env.scope xn)(hc:X.calm=true)(ok:dR X scope ns N2 f)(hi:QI X tg iter wi)
  (hg:∀cl C s₀ H₀ fp,IK (cR X scope cl C (ns++N2) s₀ H₀ fp) tg ns.length TP)
  (ht:∀cl C s₀ H₀ fp,Vc (cR X scope cl C (ns++N2) s₀ H₀ fp) ifs tt) (he:∀cl C s₀ H₀ fp,QE (cR X scope cl C (ns++N2) s₀ H₀ fp) elt te)
  (hs:∀x,foldedSetIterable iter X.env x=pure x:=by intro _;rfl) (hsw:swapsWith (.ListComp elt [⟨tg,iter,ifs,0⟩] scope pos) (some (.Name xn Cz)) spos.line X.env=pure true:=by rfl)
  (hf:X.fn xn=true\/X.env.scope.names.lookup xn=some .local:=by first | exact .inl rfl | exact .inr rfl | assumption) :
  QS X (.Assign [.Name xn Cz] (.ListComp elt [⟨tg,iter,ifs,0⟩] scope pos) spos) (Ck (Ey f ns.length wi TP tt te) (jE ix)):=
 ⟨aa8 hN hxi hxl hc ok hi.out hg (λa b c d e=>(ht a b c d e).out) (λa b c d e=>(he a b c d e).out) hs hsw hf⟩
end L2
end
section
namespace L2
open PySem PySem.Spec PyProof.Rows
structure afU (X:Cx)(scope:Scope)(xn:Str)(N2:List Str)(f:St->St):Prop where
 kind:scope.kind=.function
 one:∀y∈scope.names,y.2=.cell->y.1=xn
 cf:∀k acc,cellsFrom k scope.names acc=(xn,k)::acc
 pc:∀h:Heap,pushCells h scope.names=h.push { cls:=.type "cell",data:=.cell none }
 names:∀y∈scope.names,y.2=.local->scope.names.lookup y.1=some .local
 free:∀y∈scope.names,y.2=.free->X.env.kindOf y.1=some .cell\/X.env.kindOf y.1=some .free
 Yl:∀σ:St,(f σ).length=σ.length
 Ym:N2.length=X.N.length
 out:∀(σ:St) (i:Nat) (y:Str) (v:V),N2[i]?=some y->(f σ)[i]?=some (some v)->X.N[i]?=some y/\σ[i]?=some (some v)/\scope.names.lookup y≠some .local/\y≠xn
end L2
end
section
namespace L2
open PySem PySem.Spec PyProof.Rows
end L2
end
section
namespace L2
open PySem PySem.Spec PyProof.Rows PySem.W
end L2
end
section
namespace L2
open PySem PySem.Spec PyProof.Rows PySem.W
open AutoSeq1 (wpAny_loadPart')
section
variable {X:Cx}{y7:List (Addr × Obj)}{σ:St}{H:Hp}{s:Shared}{h':Heap}
theorem Inv.Qf {t':Nat}{fp:List Addr}(I:Inv X y7 σ H s)(k:∀b o,b∉fp->s.heap.get? b=some o->h'.get? b=some o)(hf:∀b∈fp,mG X y7 H b):Inv X y7 σ H { s with heap:=h',toks:=t' }:=by
 have Ub:∀b u,H b=some u->b∉fp:=λb u e z=>by rw[(hf b z).1]at e;cases e
 refine I.step (g':=s.gens) (d':=s.drawn) (ch:=fp) (λb hb=>?_) (λb o _ _ hc e _=>k b o hc e) (λb o _ _ hc e _=>⟨o.slots,k b o hc e⟩) (λ_ _ _ _ n=>n)
  (λb o hc e=>⟨o,k b o hc e⟩) (λ_ _ e=>e) (λ_ _ _ e=>e) (λb ps e=>⟨#[],by rw[e];simp⟩) (λm hm=>?_) (λb u e=>?_) I.bare
 ·obtain⟨f0,f1,f2,f3,f4,f5⟩:=hf b hb
  exact⟨f3,f1,f4,f5⟩
 ·obtain⟨o,es,ep,ho,r⟩:=hm
  exact⟨o,es,ep,k _ o (λz=>(hf _ z).2.1 rfl) ho,r⟩
 ·refine(I.hok b u e).stay (λc v hc q=>k c v ?_ q) (λ_ q=>q) λ_ _ q=>q
  rcases hc with z | z
  ·rw[z];exact Ub b u e
  ·exact Ub c _ z
end
section
variable {X:Cx}
theorem K8 (hc:X.calm=true):fM X (.builtin "any") (λxs H Q=>∃(p:Addr) (bs:List Bool),xs=[.ref p]/\aN X.K H p (bs.map V.bl)/\Q (.bl (bs.any id)) H):=by
 intro y7 s σ H xs us Q I r h;obtain⟨p,bs,rfl,hq,q⟩:=h;obtain⟨u,rfl,ru⟩:=vals1 r;cases ru;obtain⟨its,rv,pl,hz⟩:=I.list hq;have hne:p≠s.heap.objs.size:=by
  obtain⟨o,ho,_⟩:=pl.isList;exact Nat.ne_of_lt (Heap.lt_size ho)
 have hb:∀(i:Nat) (v:Value),its[i]?=some v->v=.bool (bs.getD i false):=λi v hv=>by
  have hlen:=rv.length;have hi:i < bs.length:=by have:=(List.getElem?_eq_some_iff.mp hv).1;simp at hlen;omega
  obtain⟨u,hu,ru⟩:=rv.get (i:=i) (x:=.bl bs[i]) (by simp[hi]);rw[hv]at hu;cases hu;cases ru;simp[List.getD,hi]
 refine call_any_walk (wpAny_pyIter_list pl.isList ?_);refine⟨s.heap.objs.size,_,_,_,_,_,λi=>bs.getD i false,rfl,Walks.list (A:=X.A.in1) (I.ok.hd hc) s.heap.objs.size p hne its.toArray,⟨⟨_,Heap.get?_push_size _ rfl,rfl,rfl⟩,pl.isList.at λo e=>Heap.get?_push_of_some _ e⟩,?_,λh' tk kk=>?_⟩
 ·intro i v s' Q' E' hv hq'
  have e:=hb i v (by simpa using hv);subst e;exact wpAny_truthy_bool hq'
 ·have I1:Inv X y7 σ H { s with heap:=h',toks:=tk }:=I.kept λb o e=>kk b o (by
   intro hm;have:b=s.heap.objs.size:=by simpa using hm
   subst this;exact absurd (Heap.lt_size e) (Nat.lt_irrefl _)) (Heap.get?_push_of_some _ e)
  refine⟨.bl (bs.any id),H,I1,?_,q⟩;show Value.bool _=Value.bool _;have hlen:its.toArray.size=bs.length:=by have:=rv.length;simp at this;simp[this]
  rw[hlen];congr 1;have key:∀bs:List Bool,(List.range bs.length).any (λi=>bs.getD i false)=bs.any id:=λbs=>by
   rw[Bool.eq_iff_iff,List.any_eq_true,List.any_eq_true];constructor
   ·rintro⟨i,hi,h⟩
    have hi':=List.mem_range.mp hi;exact⟨bs[i],List.getElem_mem _,by simpa [List.getD,hi'] using h⟩
   ·rintro⟨x,hx,h⟩
    obtain⟨i,hi,rfl⟩:=List.mem_iff_getElem.mp hx;exact⟨i,List.mem_range.mpr hi,by simpa [List.getD,hi] using h⟩
  exact key bs
end
end L2
end
section
namespace L2
open PySem PySem.Spec PyProof.Rows PySem.W
structure ZA (z ti to u v a b:Addr):Prop where
 q1:ti≠z
 q2:to≠z
 q3:u≠z
 q4:v≠z
 q5:ti≠to
 q6:ti≠u
 q7:ti≠v
 q8:to≠u
 q9:to≠v
 p1:u≠v
 p2:a≠z
 p3:a≠to
 p4:a≠u
 p5:a≠v
 p6:b≠z
 p7:b≠to
 p8:b≠u
 p9:b≠v
section
variable {X:Cx}{y7:List (Addr × Obj)}{σ:St}{H:Hp}{s:Shared}
theorem Inv.aeW {fp:List Addr}{tk:Nat}{x y:V}{p q:Value}{h2:Heap}(I:Inv X y7 σ H s)(hf:∀b∈fp,mG X y7 H b)(lt:∀b∈fp,b < s.heap.objs.size)(rx:RelV x p)(ry:RelV y q)
  (hT:h2.get? s.heap.objs.size=some { cls:=.type "tuple",data:=.seq #[p,q] }) (hk:∀b o,b∉fp->s.heap.get? b=some o->h2.get? b=some o) :
  Inv X y7 σ (upd H s.heap.objs.size (.tup [x,y])) { s with heap:=h2,toks:=tk }/\∀b∈fp,upd H s.heap.objs.size (.tup [x,y]) b=none:=by
 have I2:Inv X y7 σ (upd H s.heap.objs.size (.tup [x,y])) { s with heap:=s.heap.push { cls:=.type "tuple",data:=.seq #[p,q] },toks:=tk }:=
  I.laid (λb v e=>Heap.get?_push_of_some _ e) (Nat.le_refl _) ⟨by show 2<=sizeLine;decide,[p,q],.cons rx (.cons ry .nil),⟨_,Heap.get?_push_size _ rfl,rfl,_,rfl⟩⟩
 have fr:∀b∈fp,upd H s.heap.objs.size (.tup [x,y]) b=none:=λb hb=>by rw[aP (Nat.ne_of_lt (lt b hb))];exact(hf b hb).1
 have I3:=Inv.Qf (s:={ s with heap:=s.heap.push { cls:=.type "tuple",data:=.seq #[p,q] },toks:=tk }) (h':=h2) (fp:=fp) (t':=tk) I2 (λb o hb g=>?_) λb hb=>?_
 ·exact⟨I3,fr⟩
 ·rcases Heap.get?_push_cases g with⟨z1,z2⟩ | z
  ·rw[z1,z2];exact hT
  ·exact hk b o hb z
 ·obtain⟨f0,f1,f2,f3,f4,f5⟩:=hf b hb
  exact⟨fr b hb,f1,f2,f3,f4,f5⟩
end
section
theorem Vq:bootBuiltins "zip"=some (.type "zip"):=by decide +kernel
end
end L2
end
section
namespace L2
open PySem PySem.Spec PyProof.Rows PySem.W
structure sS (B:Heap)(l:List Env)(e:Addr)(cls:Value)(dd:Option Addr)(fl:Value)(h:Heap):Prop where
 stays:B.StaysIn h
 new:B.get? e=none
 frames:h.FunFrames B l
 tr:∃oe vs T oT ts,h.get? e=some oe/\oe.cls=cls/\oe.dict=dd/\oe.data=.fields vs/\vs[1]?=some (.ref T)/\vs[2]?=some .none/\B.get? T=none/\T≠e/\h.get? T=some oT/\oT.data=.fields ts/\ts[3]?=some fl
theorem sS.outer {B h:Heap}{env:Env}{l:List Env}{e:Addr}{cls fl:Value}{dd:Option Addr}(x:sS B (env::l) e cls dd fl h):sS B l e cls dd fl h:=⟨x.stays,x.new,x.frames.2.2,x.tr⟩
theorem Jb (o:Obj)(f):(o.mapFields f).dict=o.dict:=by obtain⟨c,d,dt,sl⟩:=o;cases dt <;> rfl
section
variable {M:Model}{A:Around}{E:Value->Shared->Prop}{s:Shared}{B:Heap}{env:Env}{outer l:List Env}{L e:Addr}{oe:Obj}{vs:Array Value}{head cls fl:Value}{dd:Option Addr}{hadNext:Bool}{Q:Unit->Shared->Prop}
theorem Ez (hfr:A.frames=some (env::outer))(hl:s.heap.FunFrames B (env::outer))(hf:env.frame=some L)(he:s.heap.get? e=some oe)(kb:B.StaysIn s.heap)(en:B.get? e=none)(hd:oe.data=.fields vs)(hz:1 < vs.size)(h2:vs[2]?=some .none)
  (h:∀h',sS B (env::outer) e oe.cls oe.dict (rawInt L) h'->s.heap.UpToSlots h'->Q () { s with heap:=h' }) :
  wpAny M A (do let a <- frameOf env;let pl <- entryPlaceOf L hadNext;let b <- EntryCells.newEntry head a .none (rawInt L) .none pl;setField (.ref e) 1 b) Q E s:=by
 have out:e∉(env::outer).filterMap (·.frame):=λz=>by
  obtain⟨_,u,hu,nf⟩:=hl.mem z;rw[he]at hu;cases hu;exact nf vs hd
 refine wpAny_bind (wpAny_frameOf_fun hfr hl hf λg hg=>wpAny_bind (wpAny_entryPlaceOf λpl hpl=>?_));unfold EntryCells.newEntry newFields;refine wpAny_bind (wpAny_newObj_type ?_ (hpl.sizeOk5 _ _ _ _ _));generalize hO:({ cls:=.type "traceback",dict:=none,data:=.fields ([head,.ref L,.none,rawInt L,.none]++(if pl.isEmpty then List.replicate 6 Value.none else pl)).toArray }:Obj)=O;have hOd:∃ts,O.data=.fields ts/\ts[3]?=some (rawInt L):=⟨_,by rw[<- hO],by first | (simp;done) | (rcases hpl with rfl | ⟨_,_,_,_,_,_,_,rfl⟩ <;> simp)⟩
 have ge:g.get? e=some oe:=(hg.2.1 e out).trans he;have gB:B.StaysIn g:=λb o q=>(hg.2.1 b λz=>by rw[(hl.mem z).1]at q;cases q).trans (kb b o q);have Te:g.objs.size≠e:=Nat.ne_of_gt (Heap.lt_size ge);have pe:(g.push O).get? e=some oe:=Heap.get?_push_of_some O ge;obtain⟨ts,hts,h3⟩:=hOd;have pT:(g.push O).get? g.objs.size=some O:=Heap.get?_push_size g (Obj.isFreed_of_fields hts);have mv:∀b o,b≠e->g.get? b=some o->((g.push O).update e (Obj.mapFields (·.setIfInBounds 1 (Value.ref g.objs.size)))).get? b=some o:=λb o nb q=>
  (Heap.get?_update_other _ _ (Ne.symm nb)).trans (Heap.get?_push_of_some O q)
 have nr:∀b o,s.heap.get? b=some o->(∀vs,o.data≠.fields vs)->b≠e:=λb o q nf z=>by
  rw[z,he]at q;cases q;exact nf vs hd
 refine wpAny_setField pe hd hz (h _ ⟨λb o q=>mv b o (λz=>by rw[z,en]at q;cases q) (gB b o q),en,hl.of_keeps λb o q nf=>?_,?_⟩ λb o q nf=>?_)
 ·obtain⟨sl,z⟩:=hg.2.2 b o q
  exact⟨_,mv b _ (nr b o q nf) z,rfl⟩
 ·have dd:=Obj.data_mapFields hd (·.setIfInBounds 1 (Value.ref g.objs.size))
  refine⟨_,_,g.objs.size,O,ts,Heap.get?_update_self _ pe (Obj.isFreed_of_fields dd),Obj.cls_mapFields _ _,Jb _ _,dd,by simp[hz],by rw[Array.getElem?_setIfInBounds_ne (by decide)];exact h2,gB.fresh,Te,(Heap.get?_update_other _ _ (Ne.symm Te)).trans pT,hts,h3⟩
 ·obtain⟨sl,z⟩:=hg.2.2 b o q
  exact⟨sl,mv b _ (nr b o q nf) z⟩
theorem qR (x:sS B l e cls dd fl s.heap)(h:∀h',sS B l e cls dd .none h'->s.heap.UpToSlots h'->Q () { s with heap:=h' }):wpAny M A (setFlight (.ref e) none) Q E s:=by
 obtain⟨st,en,fr,oe,vs,T,oT,ts,he,hc,hdd,hd,h1,h2,nT,Te,hT,hdT,h3⟩:=x;have z3:3 < ts.size:=(Array.getElem?_eq_some_iff.mp h3).1;have mv:∀b,b≠T->(s.heap.update T (Obj.mapFields (·.setIfInBounds 3 ((none:Option Addr).elim Value.none λf=>rawInt f)))).get? b=s.heap.get? b:=λb nb=>Heap.get?_update_other _ _ (Ne.symm nb);have nr:∀b o,s.heap.get? b=some o->(∀vs,o.data≠.fields vs)->b≠T:=λb o q nf z=>by
  rw[z,hT]at q;cases q;exact nf ts hdT
 unfold setFlight;refine wpAny_bind (wpAny_field he hd h1 ?_);rw[if_pos (show (Value.ref T != Value.none)=true by simp)];refine wpAny_setField hT hdT z3 (h _ ⟨λb o q=>(mv b λz=>by rw[z,nT]at q;cases q).trans (st b o q),en,fr.of_keeps λb o q nf=>⟨o,(mv b (nr b o q nf)).trans q,rfl⟩,?_⟩ λb o q nf=>⟨o.slots,(mv b (nr b o q nf)).trans q⟩);have d3:=Obj.data_mapFields hdT (·.setIfInBounds 3 ((none:Option Addr).elim Value.none λf=>rawInt f));exact⟨oe,vs,T,_,_,(mv e (Ne.symm Te)).trans he,hc,hdd,hd,h1,h2,nT,Te,Heap.get?_update_self _ hT (Obj.isFreed_of_fields d3),d3,by simp[z3]⟩
theorem Yv (hfr:A.frames=some (env::outer))(hl:s.heap.FunFrames B (env::outer))(hf:env.frame=some L)(he:s.heap.get? e=some oe)(kb:B.StaysIn s.heap)(en:B.get? e=none)(hd:oe.data=.fields vs)(h1:vs[1]?=some .none)(h2:vs[2]?=some .none)
  (h:∀h',sS B (env::outer) e oe.cls oe.dict (rawInt L) h'->s.heap.UpToSlots h'->Q () { s with heap:=h' }):wpAny M A (noteFrame (.ref e) env) Q E s:=by
 unfold noteFrame;simp only[hf];refine wpAny_bind (wpAny_field he hd h1 ?_);rw[if_neg (by decide)];exact Ez hfr hl hf he kb en hd (Array.getElem?_eq_some_iff.mp h1).1 h2 h
theorem Qg (hfr:A.frames=some (env::outer))(hf:env.frame=some L)(x:sS B (env::outer) e cls dd .none s.heap)(h:∀h',sS B (env::outer) e cls dd (rawInt L) h'->s.heap.UpToSlots h'->Q () { s with heap:=h' }):wpAny M A (noteFrame (.ref e) env) Q E s:=by
 obtain⟨st,en,fr,oe,vs,T,oT,ts,he,hc,hdd,hd,h1,h2,nT,Te,hT,hdT,h3⟩:=x;subst hc hdd;have mv:∀b,b≠T->(s.heap.update T (Obj.mapFields (·.setIfInBounds 3 Value.none))).get? b=s.heap.get? b:=λb nb=>Heap.get?_update_other _ _ (Ne.symm nb);have nr:∀b o,s.heap.get? b=some o->(∀vs,o.data≠.fields vs)->b≠T:=λb o q nf z=>by
  rw[z,hT]at q;cases q;exact nf ts hdT
 unfold noteFrame;simp only[hf];refine wpAny_bind (wpAny_field he hd h1 ?_);rw[if_pos (show (Value.ref T != Value.none)=true by simp)];refine wpAny_bind (wpAny_field hT hdT h3 ?_);rw[if_neg (show ¬((Value.none==rawInt L)=true) by simp[rawInt])];refine wpAny_bind (wpAny_setField hT hdT (Array.getElem?_eq_some_iff.mp h3).1 ?_);refine Ez hfr (fr.of_keeps λb o q nf=>⟨o,(mv b (nr b o q nf)).trans q,rfl⟩) hf ((mv e (Ne.symm Te)).trans he) (λb o q=>(mv b λz=>by rw[z,nT]at q;cases q).trans (st b o q)) en hd (Array.getElem?_eq_some_iff.mp h1).1 h2
  λh' y k=>h h' y λb o q nf=>k b o ((mv b (nr b o q nf)).trans q) nf
theorem leave_new (hfr:A.frames=some (env::outer))(hl:s.heap.FunFrames B (env::outer))(hf:env.frame=some L)(he:s.heap.get? e=some oe)(kb:B.StaysIn s.heap)(en:B.get? e=none)(hd:oe.data=.fields vs)(h1:vs[1]?=some .none)(h2:vs[2]?=some .none)
  (h:∀h',sS B outer e oe.cls oe.dict .none h'->s.heap.UpToSlots h'->Q () { s with heap:=h' }):wpAny M A (leaving env (.ref e)) Q E s:=by
 unfold leaving;exact wpAny_bind (Yv hfr hl hf he kb en hd h1 h2 λh1 x k=>qR x λh2 y k2=>h h2 y.outer (k.trans k2))
theorem Yw (hfr:A.frames=some (env::outer))(hf:env.frame=some L)(x:sS B (env::outer) e cls dd .none s.heap)(h:∀h',sS B outer e cls dd .none h'->s.heap.UpToSlots h'->Q () { s with heap:=h' }):wpAny M A (leaving env (.ref e)) Q E s:=by
 unfold leaving;exact wpAny_bind (Qg hfr hf x λh1 x k=>qR x λh2 y k2=>h h2 y.outer (k.trans k2))
end
end L2
end
section
namespace L2
open PySem PySem.Spec PyProof.Rows PySem.W
theorem cW.there {P:Program}{w:World}{H:Hp}{h:Heap}{a:Addr}{o:HO}(x:cW P w H h a o):∃u,h.get? a=some u:=by
 cases o with
 | lst xs=>obtain⟨_,_,_,_,e⟩:=x;exact⟨_,e⟩
 | tup xs=>obtain⟨_,_,_,_,e,_⟩:=x;exact⟨_,e⟩
 | dK kvs=>obtain⟨_,_,_,_,o,_,_,e,_⟩:=x;exact⟨_,e⟩
 | dT kvs=>obtain⟨_,_,_,_,o,_,_,e,_⟩:=x;exact⟨_,e⟩
 | set S n=>obtain⟨o,_,_,_,e,_⟩:=x;exact⟨_,e⟩
 | ins C dx fs=>obtain⟨_,_,_,e,_⟩:=x;exact⟨_,e⟩
 | own y=>exact x
 | xd fs=>obtain⟨_,⟨_,_,_,e,_⟩,_⟩:=x;exact⟨_,e⟩
 | rng lo hi=>obtain⟨_,_,_,e⟩:=x;exact⟨_,e⟩
 | lM ob u=>obtain⟨e,_⟩:=x;exact⟨_,e⟩
 | HX ps=>exact⟨_,(show h.get? a=some _ from x)⟩
 | met f y=>exact⟨_,(show h.get? a=some _ from x)⟩
 | ext φ=>obtain⟨_,e,_⟩:=x;exact e
structure Vr (P:Program)(w:World)(outer:List Env)(H:Hp)(s:Shared)(a:Addr)(cls:Value)(dd:Option Addr)(H':Hp)(s':Shared)(B:Heap):Prop where
 os:s'.os=s.os
 bare:AllBare s'.gens
 un:Un (frs outer) [] H H' s.heap s'.heap
 hok:iy P w H' s'.heap
 fly:sS B outer a cls dd .none s'.heap
 na:H' a=none
 HY:∀b u,H' b=some u->∃o,B.get? b=some o
 kp:∀b o,s.heap.get? b=some o->b∉frs outer->H b=none->B.get? b=some o
 th:∀b o,s.heap.get? b=some o->b∉frs outer->∃o',B.get? b=some o'
noncomputable def yX (P:Program)(w:World):m5:=λouter H s E e s'=>∃(a:Addr) (cls:Value) (dd:Option Addr) (H':Hp) (B:Heap),e=.ref a/\Vr P w outer H s a cls dd H' s' B/\E cls dd H'
section
variable {X:Cx}{y7:List (Addr × Obj)}{σ:St}{H1 H':Hp}{s1 s2:Shared}{e:Addr}{oe:Obj}{vs:Array Value}{Q:Unit->Shared->Prop}{E:Value->Shared->Prop}{cls:Value}{dd:Option Addr}{B:Heap}
theorem Inv.EY (I:Inv X y7 σ H1 s1){b:Addr}{o:Obj}(q:X.s₀.heap.get? b=some o)(nb:b∉frs X.outer):b∉frs X.stack:=λz=>by
 rcases List.mem_cons.mp (I.vp b z) with z | z
 ·exact absurd (Nat.lt_of_lt_of_le (Heap.lt_size q) I.ok.above) (by rw[z];exact Nat.lt_irrefl _)
 ·exact nb z
theorem Inv.Yx (I:Inv X y7 σ H1 s1){b:Addr}(z:b∈frs X.outer):b∈frs X.stack:=by
 rcases I.ok.stk with e | ⟨e,hf⟩
 ·rw[e];exact z
 ·rw[e];unfold frs;rw[List.filterMap_cons,hf];exact List.mem_cons_of_mem _ z
theorem Inv.raised (I:Inv X y7 σ H1 s1)(hst:X.stack=X.env::X.outer)(hf:X.env.frame=some X.env.locals)(hex:X.ex=[])(he:s1.heap.get? e=some oe)(hd:oe.data=.fields vs)(h1:vs[1]?=some .none)(h2:vs[2]?=some .none)(ne:H1 e=none)
  (en:∀b o,X.s₀.heap.get? b=some o->b≠e) (q:∀s2 B,Vr X.prog X.w X.outer X.H₀ X.s₀ e oe.cls oe.dict H1 s2 B->Q () s2):wpAny (model X.prog X.w) X.A (leaving X.env (.ref e)) Q E s1:=by
 have hfr:X.A.frames=some (X.env::X.outer):=by rw[<- hst];exact I.ok.frames
 have hl:s1.heap.FunFrames (hideAll s1.heap (e::frs X.stack)) (X.env::X.outer):=by
  rw[<- hst];exact funFrames_hide I.stack λenv he b hb=>List.mem_cons_of_mem _ (List.mem_filterMap.mpr ⟨env,he,hb⟩)
 have sU:∀b:Addr,b∉X.ex:=λb=>by rw[hex];simp
 refine leave_new hfr hl hf he (λb o z=>of_hideAll _ z) (hideAll_none _ (.head _)) hd h1 h2 λh' x k=>q _ (hideAll s1.heap (e::frs X.stack)) ?_;have kB:∀b o,s1.heap.get? b=some o->b≠e->b∉frs X.stack->(hideAll s1.heap (e::frs X.stack)).get? b=some o:=λb o z n1 n2=>hideAll_get _ z λm=>by
  rcases List.mem_cons.mp m with m | m
  ·exact n1 m
  ·exact n2 m
 have kF:∀b o,s1.heap.get? b=some o->b∈frs X.stack->∃sl,h'.get? b=some { o with slots:=sl }:=λb o z m=>by
  obtain⟨_,u,hu,nf⟩:=I.stack.mem m;rw[z]at hu;cases hu;exact k b _ z nf
 have kT:∀b u,H1 b=some u->∀o,s1.heap.get? b=some o->(hideAll s1.heap (e::frs X.stack)).get? b=some o:=λb u t o z=>kB b o z (λm=>by rw[m,ne]at t;cases t) λm=>by rw[I.oG b m]at t;cases t
 refine⟨I.os,I.bare,⟨λb o z n hb _=>?_,λb o z n hb _=>?_,λb o z n _=>I.base.free b o z n (sU b),λb o z _=>?_,I.base.tups,I.base.jX,I.base.j8⟩,λb o t=>?_,x,ne,λb u t=>?_,λb o z hb n=>?_,λb o z hb=>?_⟩
 ·exact x.stays b o (kB b o (I.base.keep b o z n hb (sU b)) (en b o z) (I.EY z hb))
 ·obtain⟨sl,e1⟩:=I.base.slot b o z n hb (sU b)
  obtain⟨sl2,e2⟩:=kF b _ e1 (I.Yx hb);exact⟨sl2,e2⟩
 ·obtain⟨o1,e1⟩:=I.base.there b o z (sU b)
  by_cases m:b∈frs X.stack
  ·obtain⟨sl2,e2⟩:=kF b _ e1 m
   exact⟨_,e2⟩
  ·exact⟨o1,x.stays b o1 (kB b o1 e1 (en b o z) m)⟩
 ·refine(I.hok b o t).stay (λc u hc z=>x.stays c u ?_) (λ_ r=>r) λ_ _ r=>r
  rcases hc with rfl | hc
  ·exact kT c _ t u z
  ·exact kT c _ hc u z
 ·obtain⟨o,z⟩:=(I.hok b u t).there
  exact⟨o,kT b u t o z⟩
 ·exact kB b o (I.base.keep b o z n hb (sU b)) (en b o z) (I.EY z hb)
 ·obtain⟨o1,e1⟩:=I.base.there b o z (sU b)
  exact⟨o1,kB b o1 e1 (en b o z) (I.EY z hb)⟩
theorem Inv.passed (I:Inv X y7 σ H1 s1)(hst:X.stack=X.env::X.outer)(hf:X.env.frame=some X.env.locals)(hex:X.ex=[])(x:Vr X.prog X.w X.stack H1 s1 e cls dd H' s2 B)
  (q:∀s3,Vr X.prog X.w X.outer X.H₀ X.s₀ e cls dd H' s3 B->Q () s3):wpAny (model X.prog X.w) X.A (leaving X.env (.ref e)) Q E s2:=by
 have hfr:X.A.frames=some (X.env::X.outer):=by rw[<- hst];exact I.ok.frames
 have sU:∀b:Addr,b∉X.ex:=λb=>by rw[hex];simp
 have n0:∀b:Addr,b∉([]:List Addr):=λb=>by simp
 refine Yw hfr hf (by rw[<- hst];exact x.fly) λh' y k=>q _ ?_;have kp:∀b o,X.s₀.heap.get? b=some o->b∉frs X.outer->X.H₀ b=none->B.get? b=some o:=λb o z hb n=>x.kp b o (I.base.keep b o z n hb (sU b)) (I.EY z hb) (I.base.free b o z n (sU b));have th:∀b o,X.s₀.heap.get? b=some o->b∉frs X.outer->∃o',B.get? b=some o':=λb o z hb=>by
  obtain⟨o1,e1⟩:=I.base.there b o z (sU b);exact x.th b o1 e1 (I.EY z hb)
 have kF:∀b o,X.s₀.heap.get? b=some o->b∈frs X.outer->∃sl,h'.get? b=some { o with slots:=sl }:=λb o z m=>by
  obtain⟨sl,e1⟩:=I.base.slot b o z (I.ok.yK b m) m (sU b);obtain⟨sl2,e2⟩:=x.un.slot b _ e1 (I.oG b (I.Yx m)) (I.Yx m) (n0 b);obtain⟨_,u,hu,nf⟩:=I.ok.lH.mem m;rw[z]at hu;cases hu;obtain⟨Vs,e3⟩:=k b _ e2 nf;exact⟨Vs,e3⟩
 refine⟨x.os.trans I.os,x.bare,⟨λb o z n hb _=>y.stays b o (kp b o z hb n),λb o z n hb _=>kF b o z hb,λb o z n _=>?_,λb o z _=>?_,λb xs t=>x.un.tups b xs (I.base.tups b xs t),λb o u t=>x.un.jX b o u (I.base.jX b o u t),λb ps t=>?_⟩,λb o t=>?_,y,x.na,x.HY,kp,th⟩
 ·obtain⟨o1,e1⟩:=I.base.there b o z (sU b)
  exact x.un.free b o1 e1 (I.base.free b o z n (sU b)) (n0 b)
 ·by_cases m:b∈frs X.outer
  ·obtain⟨sl,e3⟩:=kF b o z m
   exact⟨_,e3⟩
  ·obtain⟨o',e1⟩:=th b o z m
   exact⟨o',y.stays b o' e1⟩
 ·obtain⟨m1,e1⟩:=I.base.j8 b ps t
  obtain⟨m2,e2⟩:=x.un.j8 b _ e1;exact⟨m1++m2,by rw[e2,Array.append_assoc]⟩
 ·refine(x.hok b o t).stay (λc u hc z=>?_) (λ_ r=>r) λ_ _ r=>r
  have:∃v,H' c=some v:=by
   rcases hc with rfl | hc
   ·exact⟨_,t⟩
   ·exact⟨_,hc⟩
  obtain⟨v,hv⟩:=this;obtain⟨o',hB⟩:=x.HY c v hv;have:=x.fly.stays c o' hB;rw[z]at this;cases this;exact y.stays c u hB
end
end L2
end
section
namespace L2
open PySem PySem.Spec PyProof.Rows PySem.W
noncomputable def Lets (X:Cx)(E:XK):Prop:=∀(y7:List (Addr × Obj)) (σ:St) (H:Hp) (s:Shared) (e:Addr) (oe:Obj) (vs:Array Value),Inv X y7 σ H s->s.heap.get? e=some oe->oe.data=.fields vs->vs[1]?=some .none->vs[2]?=some .none->H e=none->
 (∀b o,X.s₀.heap.get? b=some o->b≠e)->E oe.cls oe.dict H->X.xe (.ref e) s
section
variable {P:Program}{w:World}{K:W.Frag}{mg:Str->Option Value}{base:Heap}{N:List Str}{qual:Str}{scope:Scope}{f:Addr}{cd:Value}{A:Around}{outer:List Env}{s:Shared}{H:Hp}{E:XK}
theorem m9:Lets (oJ (yX P w) P w K mg base N qual scope f cd A outer s H E) E:=λy7 σ H1 s1 e oe vs I he hd h1 h2 ne en q=>
 I.raised rfl rfl rfl he hd h1 h2 ne en λs2 B x=>⟨e,_,_,_,B,rfl,x,q⟩
theorem rP:Passes (yX P w) (oJ (yX P w) P w K mg base N qual scope f cd A outer s H E) E:=λy7 σ H1 s1 e s2 I ⟨a,cls,dd,H',B,z,x,q⟩=>by
 subst z;exact I.passed rfl rfl rfl x λs3 y=>⟨a,cls,dd,H',B,rfl,y,q⟩
end
structure DefX (P:Program)(w:World)(K:W.Frag)(mg:Str->Option Value)(base:Heap)(name:Str)(k:Nat)(ps:List Str)(sp:Sp):Prop where
 ex:∃f fd,cD P w K mg base (yX P w) k f fd ps sp/\Binds K fd ps []/\mg name=some (.ref f)/\W.keepIn K (.ref f)=true
theorem gk.wC {P:Program}{w:World}{K:W.Frag}{mg:Str->Option Value}{base:Heap}{x qual:Str}{st:Stmt}{f:Addr}{fd:FuncData}{N ps:List Str}{k:Nat}{sp:Sp}(F:gk K x qual st f fd)(S:aW N ps (aF st))(len:∀vs H Q E,sp vs H Q E->vs.length=ps.length)
  (hbody:∀(cdv:Value) (A:Around) (outer:List Env) (s:Shared) (H:Hp) (vs:List V) (Q:VK) (E:XK),dw k (A.deeper (envOfC qual (aF st) s.heap.objs.size f cdv))->sp vs H Q E->
   ∃t,pX (oJ (yX P w) P w K mg base N qual (aF st) f cdv A outer s H E) (cT st) t/\t { nx:=λ_ H'=>Q .non H',rt:=Q } (start N vs) H):cD P w K mg base (yX P w) (k+1) f fd ps sp:=by
 obtain⟨oc,od,kV,doc,pm,an,cdv,ct,osl,rfl,lk,hcd⟩:=F.ex;refine Z9 lk hcd S len λA outer s H vs Q E hr hsp=>?_;obtain⟨t,h,q⟩:=hbody cdv A outer s H vs Q E hr hsp;exact⟨t,h.out,q⟩
theorem aJ.wC {P:Program}{w:World}{K:W.Frag}{mg:Str->Option Value}{base:Heap}{name:Str}{st:Stmt}{N ps:List Str}{k:Nat}{sp:Sp}(D:aJ K mg name st ps)(S:aW N ps (aF st))(len:∀vs H Q E,sp vs H Q E->vs.length=ps.length)
  (hbody:∀(f:Addr) (cdv:Value) (A:Around) (outer:List Env) (s:Shared) (H:Hp) (vs:List V) (Q:VK) (E:XK),dw k (A.deeper (envOfC name (aF st) s.heap.objs.size f cdv))->sp vs H Q E->
   ∃t,pX (oJ (yX P w) P w K mg base N name (aF st) f cdv A outer s H E) (cT st) t/\t { nx:=λ_ H'=>Q .non H',rt:=Q } (start N vs) H):DefX P w K mg base name (k+1) ps sp:=by
 obtain⟨f,fd,F,b,g⟩:=D.ex;exact⟨f,fd,F.wC S len (hbody f),b,g,F.kp⟩
noncomputable def vI (CX:m5)(X:Cx)(E:XK)(S:St->Prop):Prop:=∀(y7:List (Addr × Obj)) (σ:St) (H:Hp) (s:Shared) (e:Value) (s':Shared),Inv X y7 σ H s->S σ->CX X.stack H s E e s'->X.xe e s'
theorem Passes.all {CX:m5}{X:Cx}{E:XK}(h:Passes CX X E):vI CX X E λ_=>True:=λy7 σ H s e s' I _ q=>h y7 σ H s e s' I q
noncomputable def adE (sp:Sp)(E:XK)(S:St->Prop)(t:TA):TE:=λσ H Q=>S σ/\t σ H λvs H1=>sp vs H1 Q E
section
variable {X:Cx}{k:Nat}{f:Addr}{fd:FuncData}{ps:List Str}{sp:Sp}{E:XK}{S:St->Prop}{x:Str}{p pos:Pos}{e:Expr}{es:List Expr}{t:TA}
theorem oR (D:DefX X.prog X.w X.K X.mg X.base x k ps sp)(hr:dw k X.A)(hg:Gl X x)(hx:vI (yX X.prog X.w) X E S)(ha:QA X (e::es) t)(hdb:(x==("__debug__":Str))=false:=by decide)
  (hs:starEach (e::es) X.env=(false,eval e X.env)::starEach es X.env:=by rfl) (hpl:(backTo pos (starEach es X.env)).any (·.1)=false:=by rfl) :
  QE X (.Call (.Name x p) (e::es) [] pos) (adE sp E S t):=⟨by
 obtain⟨f,fd,F,hb,hm,hk⟩:=D.ex;intro y7 s σ H Q I h;obtain⟨hS,h⟩:=h;refine wpAny_Call_Name_kw (mZ I hg hm ?_ hdb);refine W.callWith_K (h₀:=X.base) I.ok.mod.Ek hk (bG (ha.out pos y7 s σ H _ I h) λus s1 ⟨vs,H1,I1,r,q⟩=>⟨I1.fL,?_⟩) hs hpl;have hl:us.length=ps.length:=by rw[<- r.length];exact F.len _ _ _ _ q
 have hB:=hb s1 us I1.fL (by rw[List.append_nil];exact hl);rw[List.append_nil]at hB;refine wpAny_call (codeAny_mono (F.run X.A X.stack s1 H1 ⟨us,[]⟩ us vs Q E hr I1.env0 hB r q) λr s' hq=>?_);cases r with
 | error e=>exact hx y7 σ H1 s1 e s' I1 hS hq
 | ok fl=>
  cases fl with
  | ret u=>exact I1.after hq
  | next=>exact False.elim hq
  | brk=>exact False.elim hq
  | cont=>exact False.elim hq⟩
end
theorem aa9 {K:W.Frag}{h:Heap}{C:Addr}{bmB:List Value}{newId:String}(X:K.In h)(q:excIn K C bmB newId=true) :
  ∃bm N nm q bs hdct sn sub ab col dd k0 k1 k2 k3 k5 mN,h.get? C=some (excClassObj nm q C N bs bm hdct sn sub ab col dd k0 k1 k2 k3 k5 newId)/\h.Ns N mN/\mN "__init__"=none/\OwnTail h bmB bm:=by
 unfold excIn at q
 split at q
 ·next dd cd sl ho=>
  split at q
  ·next C' bm k0 k1 k2 k3 n k5 hm hs=>
   simp only[Bool.and_eq_true,beq_iff_eq,Bool.not_eq_true']at q;obtain⟨⟨⟨⟨⟨e1,e2⟩,hdel⟩,ht⟩,hok⟩,hni⟩:=q;subst e1 e2;obtain⟨nm,bs,mro,ns,qn,hd,sn,sub,ab,col,del⟩:=cd;dsimp only at hm hdel hok hni;subst hm hdel;have hsl:sl=#[k0,k1,k2,k3,some (.builtin n),k5]:=by cases sl;simp only at hs;rw[hs]
   subst hsl;exact⟨bm,ns,nm,qn,bs,hd,sn,sub,ab,col,dd,k0,k1,k2,k3,k5,_,X _ _ ho,.of_isNs (isNs_of_in X hok),nsMap_none_of_in X hok hni,tail_of_in X ht⟩
  ·cases q
 ·cases q
abbrev gY:List Value:=[.type "ValueError",.type "Exception",.type "BaseException",.type "object"]
noncomputable def adF (C:Addr)(E:XK)(t:TA):TS:=λ_ σ H=>t σ H λvs H1=>vs.length<=sizeLine/\E (.ref C) none H1
section
variable {X:Cx}{C:Addr}{E:XK}{x:Str}{np cpos pos:Pos}{e:Expr}{es:List Expr}{t:TA}
theorem CJ (hl:Lets X E)(hc:X.calm=true)(hex:X.ex=[])(hg:Gl X x)(hm:X.mg x=some (.ref C))(hC:excIn X.K C gY "ValueError.__new__"=true)(ha:QA X (e::es) t)(hdb:(x==("__debug__":Str))=false:=by decide)
  (hs:starEach (e::es) X.env=(false,eval e X.env)::starEach es X.env:=by rfl) (hpl:(backTo cpos (starEach es X.env)).any (·.1)=false:=by rfl) :
  QS X (.Raise (some (.Call (.Name x np) (e::es) [] cpos)) none pos) (adF C E t):=⟨by
 intro y7 s σ H D I h;obtain⟨tl,N,nm,q,bs,hdct,sn,sub,ab,col,dd,k0,k1,k2,k3,k5,mN,cC,cN,cni,T⟩:=aa9 I.ok.mod.Ek hC;have ar:=ha.out cpos y7 s σ H _ I h;rw[hs]at ar;refine wpAny_Raise_call_subT (C:=C) (nm:=nm) (q:=q) (N:=N) (bs:=bs) (bm:=tl) (hdct:=hdct) (sn:=sn) (sub:=sub) (ab:=ab) (col:=col) (dd:=dd) (k0:=k0) (k1:=k1) (k2:=k2) (k3:=k3) (k5:=k5) PySem.F.excBase_ValueError (mN:=mN)
  (T.hasType PySem.F.excBase_ValueError.hasBase) (I.ok.hd hc) (by rw[hs];show (false||(backTo cpos (starEach es X.env)).any (·.1))=false;rw[hpl];rfl) cni (mZ I hg hm ⟨rfl,?_⟩ hdb)
 rw[hs];refine Calls.evalArgs_plain (wpAny_mono ar (λus s2 z=>?_) λ_ _ y=>y);obtain⟨vs,H1,I1,r,hv,hE⟩:=z;refine⟨rfl,by rw[<- r.length];exact hv,I1.bk _ _ cC,cN.keeps I1.bk,T.keeps I1.bk,λh' a hx=>?_⟩;obtain⟨tt,ha1,_,_⟩:=hx.there;refine hl y7 σ H1 _ a _ _ (I1.kept (t':=s2.toks) hx.keeps) ha1 rfl rfl rfl ?_ (λb o z y=>?_) hE
 ·cases z:H1 a with
  | none=>rfl
  | some u=>
   obtain⟨o,ho⟩:=(I1.hok a u z).there;rw[hx.new]at ho;cases ho
 ·obtain⟨o',ho⟩:=I1.base.there b o z (by rw[hex];simp)
  rw[y,hx.new]at ho;cases ho⟩
end
end L2
end
section
namespace L2
open PySem PySem.Spec PyProof.Rows PySem.W
noncomputable def mL (a:Addr)(cls:Value)(dd:Option Addr):Heap->Prop:=λh=>∃oe vs,h.get? a=some oe/\oe.cls=cls/\oe.dict=dd/\oe.data=.fields vs/\vs[2]?=some .none
section
variable {X:Cx}{y7:List (Addr × Obj)}{σ:St}{H H':Hp}{s s':Shared}{a:Addr}{cls fl:Value}{dd:Option Addr}{B h3:Heap}
theorem Inv.caught (I:Inv X y7 σ H s)(x:Vr X.prog X.w X.stack H s a cls dd H' s' B)(y:sS B X.stack a cls dd fl h3)(k:s'.heap.UpToSlots h3):Inv X y7 σ (upd H' a (.ext (mL a cls dd))) { s' with heap:=h3 }:=by
 have n0:∀b:Addr,b∉([]:List Addr):=λb=>by simp
 obtain⟨oe,vs,T,oT,ts,he,hc,hdd,hd,_,h2,_⟩:=y.tr;have kF:∀b o,s.heap.get? b=some o->b∈frs X.stack->(∃sl,h3.get? b=some { o with slots:=sl })/\∀vs,o.data≠.fields vs:=λb o z m=>by
  obtain⟨_,u,hu,nf⟩:=I.stack.mem m;rw[z]at hu;cases hu;obtain⟨sl2,e2⟩:=x.un.slot b _ z (I.oG b m) m (n0 b);obtain⟨Vs,e3⟩:=k b _ e2 nf;exact⟨⟨Vs,e3⟩,nf⟩
 have na:∀b o,s.heap.get? b=some o->b≠a:=λb o z m=>by
  by_cases hb:b∈frs X.stack
  ·obtain⟨⟨sl,e3⟩,nf⟩:=kF b o z hb
   rw[m,he]at e3;cases e3;exact nf vs hd
  ·obtain⟨o',e'⟩:=x.th b o z hb
   rw[m,y.new]at e';cases e'
 have nt:∀b u,H' b=some u->b≠a:=λb u z m=>by rw[m,x.na]at z;cases z
 have kT:∀c u v,H' c=some v->s'.heap.get? c=some u->h3.get? c=some u:=λc u v t z=>by
  obtain⟨o',hB⟩:=x.HY c v t;have:=x.fly.stays c o' hB;rw[z]at this;cases this;exact y.stays c u hB
 refine I.call' (s':={ s' with heap:=h3 }) (ch:=[]) x.os ⟨λb o z n hb _=>y.stays b o (x.kp b o z hb n),λb o z n hb _=>(kF b o z hb).1,λb o z n _=>?_,λb o z _=>?_,λb xs t=>?_,λb o u t=>?_,λb ps t=>?_⟩ (λb o t=>?_) x.bare λb z=>absurd z (by simp)
 ·rw[aP (na b o z)]
  exact x.un.free b o z n (n0 b)
 ·by_cases m:b∈frs X.stack
  ·obtain⟨⟨sl,e3⟩,_⟩:=kF b o z m
   exact⟨_,e3⟩
  ·obtain⟨o',e1⟩:=x.th b o z m
   exact⟨o',y.stays b o' e1⟩
 ·have t':=x.un.tups b xs t
  rw[aP (nt b _ t')];exact t'
 ·have t':=x.un.jX b o u t
  rw[aP (nt b _ t')];exact t'
 ·obtain⟨more,t'⟩:=x.un.j8 b ps t
  exact⟨more,by rw[aP (nt b _ t')];exact t'⟩
 ·by_cases hb:b=a
  ·subst hb
   rw[ao]at t;cases t;exact⟨⟨oe,vs,he,hc,hdd,hd,h2⟩,⟨oe,he⟩,λh h' ⟨oe,vs,e1,e2,e3,e4⟩ q=>⟨oe,vs,q oe e1,e2,e3,e4⟩⟩
  ·rw[aP hb]at t
   refine(x.hok b o t).stay (λc u hc z=>?_) (λc r=>by rw[aP (nt c _ r)];exact r) λc xs r=>by rw[aP (nt c _ r)];exact r
   rcases hc with rfl | hc
   ·exact kT c u _ t z
   ·exact kT c u _ hc z
theorem Inv.unbound {i:Nat}{n:Str}{m:Str->Option Value}{v:Option Value}{h':Heap}(I:Inv X y7 σ H s)(hN:X.N.Nodup)(hi:X.N[i]?=some n)(hk:X.env.kindOf n=some .local)
  (hm:s.heap.Ns X.env.locals m) (hn:h'.Ns X.env.locals (λy=>if y=n then v else m y)) (hs:Heap.SameBut X.env.locals s.heap h'):Inv X y7 (σ.set i none) H { s with heap:=h',toks:=s.toks+1 }:=by
 have ab:∀b o,X.s₀.heap.get? b=some o->b≠X.env.locals:=λb o e=>Nat.ne_of_lt (Nat.lt_of_lt_of_le (Heap.lt_size e) I.ok.above);obtain⟨m1,hm1,hl⟩:=I.loc;have em:m1=m:=by
  obtain⟨o1,es1,ep1,g1,d1,_,f1⟩:=hm1;obtain⟨o2,es2,ep2,g2,d2,_,f2⟩:=hm;rw[g1]at g2;cases g2;rw[d1]at d2;cases d2;funext y;rw[<- f1 y,<- f2 y]
 subst em;refine⟨I.ok,I.os,I.bare,⟨λb o e n hb hx=>(hs.2 b (ab b o e)).trans (I.base.keep b o e n hb hx),λb o e n hb hx=>?_,I.base.free,λb o e hx=>?_,I.base.tups,I.base.jX,I.base.j8⟩,⟨_,hn,λj y v' e1 e2 e3=>?_⟩,λy c e=>?_,I.free,I.iM,λp hp=>?_,λb ob e=>?_,by simpa using I.len⟩
 ·obtain⟨sl,e1⟩:=I.base.slot b o e n hb hx
  exact⟨sl,(hs.2 b (ab b o e)).trans e1⟩
 ·obtain⟨o',e1⟩:=I.base.there b o e hx
  exact⟨o',(hs.2 b (ab b o e)).trans e1⟩
 ·have hj:j≠i:=λz=>by
   subst z;rw[List.getElem?_set]at e2;simp only[if_true]at e2
   split at e2 <;> simp at e2
  rw[List.getElem?_set_ne (Ne.symm hj)]at e2;obtain⟨u,r,l⟩:=hl j y v' e1 e2 e3;refine⟨u,r,?_⟩;have yn:y≠n:=λz=>hj (Ci hN e1 (z ▸ hi));rcases l with⟨a1,a2⟩ | ⟨a1,c,a2,a3⟩
  ·exact .inl ⟨a1,by simp[yn,a2]⟩
  ·exact .inr ⟨a1,c,a2,a3.sameBut hs (I.El y c a2)⟩
 ·obtain⟨w',z⟩:=I.cell y c e
  exact⟨w',z.sameBut hs (I.El y c e)⟩
 ·obtain⟨e,n,ne,nf,d⟩:=I.pin p hp
  exact⟨(hs.2 p.1 ne).trans e,n,ne,nf,d⟩
 ·refine(I.hok b ob e).stay (λc w' hc q=>(hs.2 c ?_).trans q) (λ_ q=>q) λ_ _ q=>q
  rintro rfl;rcases hc with rfl | hc
  ·rw[I.free]at e;cases e
  ·rw[I.free]at hc;cases hc
end
noncomputable abbrev Cx.tried (X:Cx)(pn:List (Addr × Obj))(xe:Value->Shared->Prop):Cx:={ X with pn:=pn,xe:=xe }
noncomputable abbrev Cx.held (X:Cx)(a:Addr):Cx:={ X with A:=X.A.mark (some (.ref a)),calm:=false,xe:=λ_ _=>False }
section
variable {X:Cx}{y7 Aw pn:List (Addr × Obj)}{σ:St}{H:Hp}{s:Shared}{xe:Value->Shared->Prop}{a:Addr}
theorem Inv.tried (I:Inv X y7 σ H s)(xe:Value->Shared->Prop):Inv (X.tried (X.pn++y7) xe) [] σ H s:=
 ⟨⟨I.ok.mod,I.ok.kind,I.ok.glob,I.ok.blt,I.ok.above,I.ok.inj,I.ok.has,I.ok.cab,I.ok.hd,I.ok.frames,I.ok.stk,I.ok.T_,I.ok.bs,I.ok.qK,I.ok.uN,I.ok.Cg,I.ok.lH,I.ok.yK⟩,I.os,I.bare,I.base,I.loc,I.cell,I.free,I.iM,λp hp=>I.pin p (by simpa using hp),I.hok,I.len⟩
theorem Inv.oU (I:Inv (X.tried (X.pn++y7) xe) Aw σ H s):Inv X y7 σ H s:=
 ⟨⟨I.ok.mod,I.ok.kind,I.ok.glob,I.ok.blt,I.ok.above,I.ok.inj,I.ok.has,I.ok.cab,I.ok.hd,I.ok.frames,I.ok.stk,I.ok.T_,I.ok.bs,I.ok.qK,I.ok.uN,I.ok.Cg,I.ok.lH,I.ok.yK⟩,I.os,I.bare,I.base,I.loc,I.cell,I.free,I.iM,λp hp=>I.pin p (List.mem_append_left _ hp),I.hok,I.len⟩
theorem SP.oU {D:Ends}{f:Flow}(h:SP (X.tried (X.pn++y7) xe) Aw D f s):SP X y7 D f s:=by
 cases f with
 | next=>obtain⟨σ',H',I,q⟩:=h;exact⟨σ',H',I.oU,q⟩
 | brk=>obtain⟨σ',H',I,q⟩:=h;exact⟨σ',H',I.oU,q⟩
 | cont=>obtain⟨σ',H',I,q⟩:=h;exact⟨σ',H',I.oU,q⟩
 | ret u=>obtain⟨v,σ',H',I,r,q⟩:=h;exact⟨v,σ',H',I.oU,r,q⟩
theorem Inv.held (I:Inv X y7 σ H s)(a:Addr):Inv (X.held a) y7 σ H s:=
 ⟨⟨I.ok.mod,I.ok.kind,I.ok.glob,I.ok.blt,I.ok.above,I.ok.inj,I.ok.has,I.ok.cab,(λz=>nomatch z),I.ok.frames,I.ok.stk,I.ok.T_,I.ok.bs,I.ok.qK,I.ok.uN,I.ok.Cg,I.ok.lH,I.ok.yK⟩,I.os,I.bare,I.base,I.loc,I.cell,I.free,I.iM,I.pin,I.hok,I.len⟩
theorem Inv.adG (I:Inv (X.held a) y7 σ H s)(ok:X.Ok):Inv X y7 σ H s:=⟨ok,I.os,I.bare,I.base,I.loc,I.cell,I.free,I.iM,I.pin,I.hok,I.len⟩
end
noncomputable def unb (i:Nat)(D:Ends):Ends:={ nx:=λσ H=>D.nx (σ.set i none) H,rt:=D.rt,bk:=λσ H=>D.bk (σ.set i none) H,ct:=λσ H=>D.ct (σ.set i none) H }
noncomputable def afv (K:W.Frag)(C:Addr)(i:Nat)(tb:XK->St->TS)(th:TS):TS:=λD σ H=>∃E:XK,tb E σ D σ H/\∀(a:Addr) (cls:Value) (dd:Option Addr) (H':Hp),E cls dd H'->H' a=none->
 exmOne K cls (.ref C)=some true/\th (unb i D) (σ.set i (some (.ref a))) (upd H' a (.ext (mL a cls dd)))
noncomputable def aeX (K:W.Frag)(C:Addr)(i:Nat)(tb:XK->St->TS)(th:Addr->TS):TS:=λD σ H=>∃E:XK,tb E σ D σ H/\∀(a:Addr) (cls:Value) (dd:Option Addr) (H':Hp),E cls dd H'->H' a=none->
 exmOne K cls (.ref C)=some true/\th a (unb i D) (σ.set i (some (.ref a))) (upd H' a (.ext (mL a cls dd)))
section
variable {X:Cx}{C:Addr}{x n:Str}{np hpos pos:Pos}{body suite:List Stmt}{b0:Stmt}{i:Nat}{tb:XK->St->TS}{th:TS}{thA:Addr->TS}
theorem aa_ (hst:X.stack=X.env::X.outer)(hf:X.env.frame=some X.env.locals)(hg:Gl X x)(hm:X.mg x=some (.ref C))(hN:X.N.Nodup)(hi:X.N[i]?=some n)(hk:X.env.scope.names.lookup n=some .local)
  (hb:∀(pn:List (Addr × Obj)) (xe:Value->Shared->Prop) (E:XK) (σ0:St),PassesOwn (model X.prog X.w) X.A X.env xe->vI (yX X.prog X.w) (X.tried pn xe) E (·=σ0)->pX (X.tried pn xe) body (tb E σ0))
  (hh:∀a,pX (X.held a) (b0::suite) (thA a)) (hdb:(x==("__debug__":Str))=false:=by decide) :
  QS X (.Try body [.ExceptHandler (some (.Name x np)) (some n) (b0::suite) hpos] [] [] pos) (aeX X.K C i tb thA):=⟨by
 intro y7 s σ H D I h;obtain⟨E,hbody,adH⟩:=h;have hp:PassesOwn (model X.prog X.w) X.A X.env (λe s₁=>wpAny (model X.prog X.w) X.A (noteFrame e X.env) (λ_ s₂=>wpAny (model X.prog X.w) X.A (setFlight e none) (λ_ s₃=>wpAny (model X.prog X.w) X.A (handleBy e X.env [.ExceptHandler (some (.Name x np)) (some n) (b0::suite) hpos]) (SP X y7 D) X.xe s₃) X.xe s₂) X.xe s₁):=PassesOwn.looking;have hP:vI (yX X.prog X.w) (X.tried (X.pn++y7) (λe s₁=>wpAny (model X.prog X.w) X.A (noteFrame e X.env) (λ_ s₂=>wpAny (model X.prog X.w) X.A (setFlight e none) (λ_ s₃=>wpAny (model X.prog X.w) X.A (handleBy e X.env [.ExceptHandler (some (.Name x np)) (some n) (b0::suite) hpos]) (SP X y7 D) X.xe s₃) X.xe s₂) X.xe s₁)) E (·=σ):=by
  intro Aw σ' H1 s1 e s2 I1 hσ hq;obtain⟨a,cls,dd,H',B,ea,ex,q⟩:=hq;subst ea;have J:=I1.oU;have hσ:σ'=σ:=hσ;subst hσ;have fl:sS B (X.env::X.outer) a cls dd .none s2.heap:=by rw[<- hst];exact ex.fly
  have hfr:X.A.frames=some (X.env::X.outer):=by rw[<- hst];exact J.ok.frames
  obtain⟨hmt,hsu⟩:=adH a cls dd H' q ex.na;refine Qg hfr hf fl λh1 y1 k1=>qR y1 λh2 y2 k2=>?_;have I2:=J.caught ex (by rw[hst];exact y2) (k1.trans k2);refine wpAny_handleBy_cons (codeAny_handlers_test (mZ (X:=X.held a) (I2.held a) hg hm ?_ hdb)) (by intro q;cases q);have LT:Looks (model X.prog X.w) h2 (typeOf (.ref a)) cls:=by
   obtain⟨oe,_,_,_,_,he,hc,_⟩:=y2.tr;exact hc ▸ (Looks.ld he).andThen .now
  refine(exm_one (K:=X.K) I2.fL LT hmt).here ?_;refine codeAny_handlers_suite_as (qR y2 λh3 y3 k3=>?_);have I3:=J.caught ex (by rw[hst];exact y3) ((k1.trans k2).trans k3);refine vY (X:=X.held a) (I3.held a) hN hi (.inl hk) (v:=.ref a) rfl (λs4 I4=>?_) (.inr hk);refine wpAny_mono ((hh a).out y7 s4 _ _ (unb i D) I4 hsu) (λf s5 hs=>?_) λ_ _ z=>z.elim;have hcls:(X.env.scope.kind == .class||(X.env.scope.kind == .module&&X.env.locals != X.env.globals))=false:=by rw[J.ok.kind];rfl
  have fin:∀{σ5:St} {H5:Hp} {Q:Unit->Shared->Prop},Inv (X.held a) y7 σ5 H5 s5->(∀s6,Inv X y7 (σ5.set i none) H5 s6->Q () s6)->wpAny (model X.prog X.w) X.A (do bindName X.env n .none;unbindBehindTheSuite X.env n hpos) Q X.xe s5:=λI5 hQ=>by
   have Ph:=I5.adG J.ok;obtain⟨m,hm5,_⟩:=id Ph.loc;exact wpAny_nameGoes_keeps hk hm5 hcls λh' v hn hs=>hQ _ (Ph.unbound hN hi hk hm5 hn hs)
  cases f with
  | next=>obtain⟨σ5,H5,I5,q5⟩:=hs;exact fin I5 λs6 I6=>⟨_,_,I6,q5⟩
  | brk=>obtain⟨σ5,H5,I5,q5⟩:=hs;exact fin I5 λs6 I6=>⟨_,_,I6,q5⟩
  | cont=>obtain⟨σ5,H5,I5,q5⟩:=hs;exact fin I5 λs6 I6=>⟨_,_,I6,q5⟩
  | ret u=>obtain⟨v,σ5,H5,I5,r5,q5⟩:=hs;exact fin I5 λs6 I6=>⟨v,_,_,I6,r5,q5⟩
 refine wpAny_Try_except (wpAny_mono ((hb _ _ E σ hp hP).out [] s σ H D (I.tried _) hbody) (λf s1 hs=>?_) λe s1 z=>z);have hs:=hs.oU;cases f with
 | next=>
  obtain⟨σ',H',I',q⟩:=hs;exact(bB (X:=X)).out y7 s1 σ' H' D I' q
 | brk=>exact hs
 | cont=>exact hs
 | ret u=>exact hs⟩
theorem adI (hst:X.stack=X.env::X.outer)(hf:X.env.frame=some X.env.locals)(hg:Gl X x)(hm:X.mg x=some (.ref C))(hN:X.N.Nodup)(hi:X.N[i]?=some n)(hk:X.env.scope.names.lookup n=some .local)
  (hb:∀(pn:List (Addr × Obj)) (xe:Value->Shared->Prop) (E:XK) (σ0:St),PassesOwn (model X.prog X.w) X.A X.env xe->vI (yX X.prog X.w) (X.tried pn xe) E (·=σ0)->pX (X.tried pn xe) body (tb E σ0))
  (hh:∀a,pX (X.held a) (b0::suite) th) (hdb:(x==("__debug__":Str))=false:=by decide) :
  QS X (.Try body [.ExceptHandler (some (.Name x np)) (some n) (b0::suite) hpos] [] [] pos) (afv X.K C i tb th):=aa_ (thA:=λ_=>th) hst hf hg hm hN hi hk hb hh hdb
end
end L2
end
section
namespace L2
open PySem PySem.Spec PyProof.Rows PySem.W
structure pC (K:W.Frag)(C:Addr):Prop where
 cl:(clsIn K C).isSome=true
 ga:findIn K (.ref C) "__getattribute__"=some (some (.builtin "BaseException.__getattribute__"))
 gx:findIn K (.ref C) "__getattr__"=some none
 ha:findIn K (.ref C) "__class__"=some (some (.builtin "object.__class__"))
 hn:specialIn K (.builtin "object.__class__") "__get__"=some (some (.builtin "getset_descriptor.__get__"))
 ht:takesIn K (.builtin "object.__class__")=some true
 hm:mroIn K C (.type "object")=some true
 hb:mroIn K C (.type "BaseException")=some true
section
variable {prog:Program}{w:World}{A:Around}{E:Value->Shared->Prop}{s:Shared}{K:W.Frag}{x C:Addr}{ox:Obj}{odo:Option Obj}
theorem Yy (T:pC K C):findObj K C odo "__class__"=some (.bind (.builtin "getset_descriptor.__get__") (.builtin "object.__class__")):=by
 obtain⟨cd,hc⟩:=Option.isSome_iff_exists.mp T.cl;unfold findObj;rw[hc,Option.bind_some,T.ha,Option.bind_some];simp[T.hn,T.ht]
theorem Vt {tk:Tok}{Q:Fin->Shared->Prop}(T:pC K C)(X:K.In s.heap)(I:InstAt s.heap x ox C odo)(h:Q (.done (.ret (.ref C))) s) :
  wpAny (model prog w) A (Builtin.«object.__getattribute__» ⟨[.ref x,.str "__class__" tk],[]⟩) Q E s:=by
 obtain⟨hh,g,d,t,os⟩:=s;have L0:=I.type (M:=model prog w);have L1:=looks_find (M:=model prog w) X I (Yy T);unfold Builtin.«object.__getattribute__»
 repeat (first | with_reducible refine wpAny_call (class_get X I T.hm ?_) | lk)
 exact h
theorem Vu {Q:Option Value->Shared->Prop}(T:pC K C)(X:K.In s.heap)(I:InstAt s.heap x ox C odo)(h:Q (some (.ref C)) { s with toks:=s.toks+1 }):wpAny (model prog w) A (getAttr? (.ref x) "__class__") Q E s:=by
 obtain⟨hh,g,d,t,os⟩:=s;have L0:=I.type (M:=model prog w);have L1:=looks_findIn (M:=model prog w) X T.ga;have L2:=looks_findIn (M:=model prog w) X T.gx;unfold getAttr? getAttrBy? getAttrBy;refine wpAny_bind (wpAny_mkText (wpAny_bind (wpAny_attempt (wpAny_holding (wpAny_bind (L0.at (wpAny_bind (L1.at ?_))))))));show wpAny _ _ (getAttrByItsOwn _ _ _ _ _ _) _ _ _;unfold getAttrByItsOwn hookBefore;rw[if_pos (show onTheHeap (Value.ref C)=true from rfl)];refine wpAny_bind (L2.at (wpAny_bind (wpAny_attempt (wpAny_holding ?_))));unfold callGetattribute boundAndCalled;rw[if_neg (by decide)];have f3:=PySem.F.excAttr_ValueError.ga.bind (.ref x);rw[f3];refine wpAny_bind (wpAny_pure ?_);refine wpAny_call (codeAny_call_builtin PySem.F.excAttr_ValueError.ga.plain F.entry_bexc_ga ?_);have hk:builtinKind "BaseException.__getattribute__"=some .slot:=by decide +kernel
 have hsp:splitId "BaseException.__getattribute__"=some ("BaseException","__getattribute__"):=by decide +kernel
 have Lb:=looks_mroIn (M:=model prog w) X T.hb;have hargs:=F.args_bexc_ga (.ref x) (.str "__class__" t);simp only[checkBuiltinCall,hk,hsp];refine wpAny_bind ?_;unfold isInstance;refine wpAny_bind (L0.at (Lb.at ?_))
 repeat (first | refine Vt (x:=x) T X I ?_ | assumption | wp_step)
theorem K9 {y:Addr}(T:pC K C):KitX K (.ref y) (.ref C) (λh=>∃ox odo,InstAt h y ox C odo) where
 ty:=λ_ _ _ ⟨_,_,I⟩=>I.type
 it:=λ_ _ X _=>by
  obtain⟨cd,hc⟩:=Option.isSome_iff_exists.mp T.cl;unfold clsIn at hc
  split at hc
  ·next ho=>
   intro A' Q' E' s' k q;unfold isType loadHead;exact wpAny_bind (wpAny_loadPart (k _ _ (X _ _ ho)) (wpAny_pure q))
  ·cases hc
 ne:=λh tp dd its n sl X htp=>by
  refine Bool.eq_false_iff.mpr λq=>?_;have e:C=tp:=Value.ref.inj (beq_iff_eq.mp q);subst e;obtain⟨cd,hc⟩:=Option.isSome_iff_exists.mp T.cl;unfold clsIn at hc
  split at hc
  ·next ho=>
   have z:=(X _ _ ho).symm.trans htp;cases z
  ·cases hc
 ca:=λX ⟨_,_,I⟩ k=>Vu T X I k
end
noncomputable def gF (H:Hp):Option Addr->Prop
 | none=>True
 | some d=>∃o,H d=some o
noncomputable def adJ (K:W.Frag):List V->Hp->VK->Prop:=λxs H Q=>∃(a C:Addr) (c:V) (u:Value) (dd:Option Addr) (b:Bool),xs=[.ref a,c]/\((∃D,c=.ref D/\u=.ref D)\/∃n,c=.ty n/\u=.type n)/\H a=some (.ext (mL a (.ref C) dd))/\gF H dd/\pC K C/\kitOne K (.ref C) u=some b/\Q (.bl b) H
section
variable {X:Cx}
theorem fO (hc:True:=True.intro):fM X (.builtin "isinstance") (adJ X.K):=by
 intro y7 s σ H xs us Q I r h;obtain⟨a,C,c,u,dd,b,rfl,ru,ha,hd,T,k,q⟩:=h;obtain⟨u1,w',rfl,r1,r2⟩:=vals2 r;obtain rfl:u1=Value.ref a:=r1;have eu:w'=u:=by
  rcases ru with⟨D,rfl,rfl⟩ | ⟨n,rfl,rfl⟩
  ·exact r2
  ·exact r2
 subst eu;obtain⟨⟨oe,vs,e1,e2,e3,e4,_⟩,_,_⟩:=(show cW X.prog X.w H s.heap a (.ext (mL a (.ref C) dd)) from I.hok a _ ha)
 have hI:∃ox odo,InstAt s.heap a ox C odo:=by
  cases dd with
  | none=>exact⟨oe,none,e1,e2,by unfold notCls;rw[e4],by rw[e3];trivial⟩
  | some d=>
   obtain⟨o1,hfs⟩:=hd;obtain⟨o,ho⟩:=(I.hok d _ hfs).there;exact⟨oe,some o,e1,e2,by unfold notCls;rw[e4],by rw[e3];exact ho⟩
 exact kia_one (K9 T) I.fL hI k (λz=>nomatch z) λtk=>⟨.bl b,H,I.tok tk,rfl,q⟩
end
end L2
end
section
namespace L2
open PySem PySem.Spec PyProof.Rows PySem.W
theorem E_:bootBuiltins "ValueError"=some (.type "ValueError"):=by decide +kernel
end L2
end
section
namespace HT
open PySem PySem.Spec PyProof.Rows
end HT
namespace L2
open PySem PySem.Spec PyProof.Rows PySem.W
end L2
end
section
namespace L2
open PySem PySem.Spec PyProof.Rows PySem.W
noncomputable def tX (K:Frag)(C fI:Addr):Bool:=match K.lookup C with
 | some ⟨.type "type",_,.cls cd,sl⟩=>(match cd.mro,sl.toList with
  | .ref D::tl,[_,_,_,_,some (.builtin n),_]=>(D==C)&&(n=="ValueError.__new__")&&(!cd.hasDel)&&(cd.hasDict&&(tailIn K gY tl&&(nsOkIn K cd.ns&&(nsIn K cd.ns "__init__" == some (some (.ref fI))))))
  | _,_=>false)
 | _=>false
theorem afw {K:Frag}{h:Heap}{N:Addr}{m:Str->Option Value}{n:Str}{v:Value}(X:K.In h)(G:h.Ns N m)(e:nsIn K N n=some (some v)):m n=some v:=by
 obtain⟨o,es,ep,ho,hd,_,hf⟩:=G;unfold nsIn at e
 split at e
 ·next c0 d0 es0 n0 sl0 q=>
  have z:=X _ _ q;rw[ho]at z;cases z;cases hd
  split at e
  ·next en he=>
   cases e;rw[<- hf];unfold nsFind findBy;rw[<- Array.find?_toList,he];rfl
  ·split at e <;> cases e
 ·cases e
theorem GD {K:Frag}{h:Heap}{C fI:Addr}(X:K.In h)(q:tX K C fI=true) :
  ∃bm N nm q bs sn sub ab col dd k0 k1 k2 k3 k5 mN,h.get? C=some (excClassObj nm q C N bs bm true sn sub ab col dd k0 k1 k2 k3 k5 "ValueError.__new__")/\h.Ns N mN/\mN "__init__"=some (.ref fI)/\OwnTail h gY bm:=by
 unfold tX at q
 split at q
 ·next dd cd sl ho=>
  split at q
  ·next D tl k0 k1 k2 k3 n k5 hm hs=>
   rw[Bool.and_eq_true,Bool.and_eq_true,Bool.and_eq_true,Bool.and_eq_true,Bool.and_eq_true,Bool.and_eq_true,beq_iff_eq,beq_iff_eq,beq_iff_eq,Bool.not_eq_true']at q;obtain⟨⟨⟨e1,e2⟩,e3⟩,e4,ht,hok,hi⟩:=q;subst e1 e2;obtain⟨nm,bs,mro,ns,qn,hd,sn,sub,ab,col,del⟩:=cd;dsimp only at hm e3 e4 hok hi;subst hm e3 e4;obtain⟨sll⟩:=sl;dsimp only at hs;subst hs;exact⟨tl,ns,nm,qn,bs,sn,sub,ab,col,dd,k0,k1,k2,k3,k5,_,X _ _ ho,.of_isNs (isNs_of_in X hok),afw X (.of_isNs (isNs_of_in X hok)) hi,tail_of_in X ht⟩
  ·cases q
 ·cases q
section
variable {prog:Program}{w:World}{A:Around}{E:Value->Shared->Prop}{h:Heap}{g:Array GenState}{d:Drawn}{t:Nat}{os:OsState}
variable {nm q:Str}{C N fI:Addr}{bs bm:List Value}{sn:List Str}{sub:List Value}{ab:Bool}{col:Option Bool}{dd:Option Addr}{k0 k1 k2 k3 k5:Option Value}{oI:Obj}{mN:Str->Option Value}{rest:List Value}
abbrev newArgs (rest:List Value):Obj:={ cls:=.type "tuple",data:=.seq rest.toArray }
noncomputable abbrev newExc (C a:Addr):Obj:={ cls:=.ref C,data:=.fields #[.ref a,.none,.none,.none,.bool false,.none] }
theorem K_ {Q:Fin->Shared->Prop}(T:OwnTail h gY bm)(hC:h.get? C=some (excClassObj nm q C N bs bm true sn sub ab col dd k0 k1 k2 k3 k5 "ValueError.__new__"))(hn:h.Ns N mN)(hi:mN "__init__"=some (.ref fI))
  (hf:h.get? fI=some oI) (hfc:oI.cls=.type "function") (hz:rest.length<=sizeLine)
  (hq:wpAny (model prog w) A (call (.ref fI) (.ref (h.objs.size+1)::rest)) (λr s'=>r=.none/\Q (.done (.ret (.ref (h.objs.size+1)))) s') E ⟨(h.push (newArgs rest)).push (newExc C h.objs.size),g,d,t,os⟩) :
  wpAny (model prog w) A (Builtin.«type.__call__» ⟨.ref C::rest,[]⟩) Q E ⟨h,g,d,t,os⟩:=by
 have FB:=PySem.F.excBase_ValueError
 repeat (first | with_reducible refine wpAny_loadPart_at hC ?_ | with_reducible refine wpAny_madeBy_exc hC ?_ | wp_step)
 refine codeAny_call_builtin_code (Code.quiet_builtin _ FB.quiet) (wpAny_check_new_subT FB T hC (codeAny_exc_new_subT FB T hC ?_ hz));show wpAny _ _ _ _ _ _;have up:∀b o,h.get? b=some o->((h.push (newArgs rest)).push (newExc C h.objs.size)).get? b=some o:=λb o z=>Heap.get?_push_of_some _ (Heap.get?_push_of_some _ z);have eC:=up _ _ hC;have eF:=up _ _ hf;have eN:=hn.keeps up;have eT:=T.keeps up;have eX:((h.push (newArgs rest)).push (newExc C h.objs.size)).get? (h.objs.size+1)=some (newExc C h.objs.size):=by heap_get
 have inC:(Value.ref C::bm).contains (.ref C)=true:=by simp
 unfold isInstance
 repeat (first | with_reducible refine wpAny_loadPart_at eX ?_ | (with_reducible refine wpAny_isSubtype_exc eC ?_;rw[inC]) | wp_step)
 show wpAny _ _ (typeLookup (.ref C) "__init__") _ _ _;refine wpAny_typeLookup_tail eC eN eT FB.mroIs FB.init.lookup ?_;rw[hi];refine wpAny_holding (wpAny_bind ?_);unfold bindSpecial;refine wpAny_bind (wpAny_typeOf (T:="function") ⟨_,eF,hfc⟩ ?_);rw[if_pos (by decide)];refine wpAny_pure (wpAny_bind (wpAny_mono hq (λr s' z=>?_) λ_ _ y=>y));obtain⟨rfl,z⟩:=z
 wp_walk
 exact z
theorem Yz {Q:Value->Shared->Prop}(T:OwnTail h gY bm)(hC:h.get? C=some (excClassObj nm q C N bs bm true sn sub ab col dd k0 k1 k2 k3 k5 "ValueError.__new__"))(hn:h.Ns N mN)(hi:mN "__init__"=some (.ref fI))
  (hf:h.get? fI=some oI) (hfc:oI.cls=.type "function") (hz:rest.length<=sizeLine)
  (hq:wpAny (model prog w) (A.under (.builtin "type.__call__" ⟨.ref C::rest,[]⟩)) (call (.ref fI) (.ref (h.objs.size+1)::rest)) (λr s'=>r=.none/\Q (.ref (h.objs.size+1)) s') E ⟨(h.push (newArgs rest)).push (newExc C h.objs.size),g,d,t,os⟩) :
  wpAny (model prog w) A (call (.ref C) rest) Q E ⟨h,g,d,t,os⟩:=by
 have f1:=tc_lookup;have f2:=tc_bind (.ref C);have tyC:(⟨h,g,d,t,os⟩:Shared).TypeIs (.ref C) "type":=⟨_,hC,rfl⟩
 refine wpAny_call (codeAny_of_tree ?_);show wpAny _ _ (callAny (.ref C) _) _ _ _
 repeat (any_goals (first | assumption | with_reducible refine wpAny_loadPart_at hC ?_ | wp_step))
 exact⟨rfl,codeAny_call_builtin_at (Code.quiet_builtin _ (by decide +kernel)) entry_typeCall (wpAny_check_type_call_sub hC (K_ T hC hn hi hf hfc hz hq))⟩
end
section
variable {M:Model}{A:Around}{E:Value->Shared->Prop}{s:Shared}{env:Env}{x:Sem Value}{Q:Flow->Shared->Prop}
variable {nm q:Str}{C N:Addr}{bs bm:List Value}{hdct:Bool}{sn:List Str}{sub:List Value}{ab:Bool}{col:Option Bool}{dd:Option Addr}{k0 k1 k2 k3 k5:Option Value}{newId:String}
theorem Vv (hb:bm.contains (.type "BaseException")=true)(hh:A.handled=none)
  (hx:wpAny M A x (λv s1=>∃e oe vs,v=.ref e/\s1.heap.get? C=some (excClassObj nm q C N bs bm hdct sn sub ab col dd k0 k1 k2 k3 k5 newId)/\s1.heap.get? e=some oe/\oe.cls=.ref C/\oe.data=.fields vs/\vs[1]?=some .none/\E (.ref e) s1) E s) :
  wpAny M A (raiseStmt env (some x) none) Q E s:=by
 have inB:(Value.ref C::bm).contains (.type "BaseException")=true:=by rw[List.contains_cons,hb,Bool.or_true]
 unfold raiseStmt;refine wpAny_bind (wpAny_mono hx (λv s1 z=>?_) λ_ _ y=>y);obtain⟨e,oe,vs,rfl,hC,he,hc,hd,h1,hE⟩:=z;obtain⟨oc,od,oda,osl⟩:=oe;dsimp only at hc hd;subst hc hd;obtain⟨hp,g,d,tk,os⟩:=s1
 repeat (first | with_reducible refine wpAny_loadPart_at he ?_ | with_reducible refine wpAny_loadPart_at hC ?_ | (with_reducible refine wpAny_isSubtype_exc hC ?_;rw[inB]) | wp_step)
 rw[h1];refine wpAny_pure ?_;rw[if_neg (by decide)];exact wpAny_pure (wpAny_raiseNew_none hh hE)
end
noncomputable def fP (a:Addr)(cls:Value)(dd:Option Addr):Heap->Prop:=λh=>∃oe vs,h.get? a=some oe/\oe.cls=cls/\oe.dict=dd/\oe.data=.fields vs/\vs[1]?=some .none/\vs[2]?=some .none/\dd≠some a
theorem fP.at {a:Addr}{cls:Value}{dd:Option Addr}{h h':Heap}(x:fP a cls dd h)(k:∀o,h.get? a=some o->h'.get? a=some o):fP a cls dd h':=let ⟨oe,vs,e,r⟩:=x;⟨oe,vs,k oe e,r⟩
theorem fP.ok {P:Program}{w:World}{H:Hp}{h:Heap}{a:Addr}{cls:Value}{dd:Option Addr}(x:fP a cls dd h):cW P w H h a (.ext (fP a cls dd)):=⟨x,let ⟨oe,_,e,_⟩:=x;⟨oe,e⟩,λ_ _ y k=>y.at k⟩
noncomputable def drop (H:Hp)(a:Addr):Hp:=λb=>if b=a then none else H b
theorem m_ {H:Hp}{a:Addr}:drop H a a=none:=by unfold drop;rw[if_pos rfl]
theorem gH {H:Hp}{a b:Addr}(h:b≠a):drop H a b=H b:=by unfold drop;rw[if_neg h]
section
variable {X:Cx}{y7:List (Addr × Obj)}{σ:St}{H:Hp}{s:Shared}{a:Addr}{φ:Heap->Prop}
theorem Inv.drop (I:Inv X y7 σ H s)(ha:H a=some (.ext φ))(EY:∀b o,X.s₀.heap.get? b=some o->b≠a):Inv X y7 σ (L2.drop H a) s:=by
 have ne:∀b u,H b=some u->(∀φ,u≠.ext φ)->b≠a:=λb u e n z=>by rw[z,ha]at e;cases e;exact n φ rfl
 refine⟨I.ok,I.os,I.bare,⟨I.base.keep,I.base.slot,λb o e n hx=>?_,I.base.there,λb xs e=>?_,λb o u e=>?_,λb ps e=>?_⟩,I.loc,I.cell,?_,λx c e=>?_,λp hp=>?_,λb o e=>?_,I.len⟩
 ·by_cases hb:b=a
  ·rw[hb];exact m_
  ·rw[gH hb];exact I.base.free b o e n hx
 ·have z:=I.base.tups b xs e
  rw[gH (ne b _ z λφ=>by simp)];exact z
 ·have z:=I.base.jX b o u e
  rw[gH (ne b _ z λφ=>by simp)];exact z
 ·obtain⟨more,z⟩:=I.base.j8 b ps e
  exact⟨more,by rw[gH (ne b _ z λφ=>by simp)];exact z⟩
 ·by_cases hb:X.env.locals=a
  ·rw[hb];exact m_
  ·rw[gH hb];exact I.free
 ·by_cases hb:c=a
  ·rw[hb];exact m_
  ·rw[gH hb];exact I.iM x c e
 ·obtain⟨e1,e2,e3⟩:=I.pin p hp
  refine⟨e1,?_,e3⟩;by_cases hb:p.1=a
  ·rw[hb];exact m_
  ·rw[gH hb];exact e2
 ·by_cases hb:b=a
  ·rw[hb,m_]at e;cases e
  ·rw[gH hb]at e
   refine(I.hok b o e).stay (λc u _ z=>z) (λc r=>?_) λc xs r=>?_
   ·rw[gH (ne c _ r λφ=>by simp)];exact r
   ·rw[gH (ne c _ r λφ=>by simp)];exact r
end
structure MkX (K:Frag)(C f:Addr):Prop where
 ini:tX K C f=true
 fn:W.isFn K (.ref f)=true
 kp:W.keepIn K (.ref C)=true
noncomputable def abb (C:Addr)(sp:Sp)(E:XK)(t:TA):TS:=λ_ σ H=>t σ H λvs H1=>vs.length<=sizeLine/\∀a,H1 a=none->sp (.ref a::vs) (upd H1 a (.ext (fP a (.ref C) none))) (λv H2=>v=.non/\∃dd,H2 a=some (.ext (fP a (.ref C) dd))/\E (.ref C) dd (drop H2 a)) E0
section
variable {X:Cx}{k:Nat}{f C:Addr}{fd:FuncData}{ps:List Str}{sp:Sp}{x:Str}{p pos cpos:Pos}{e:Expr}{es:List Expr}{t:TA}{E:XK}
theorem abd {y7:List (Addr × Obj)}{s:Shared}{σ:St}{H:Hp}{G:Addr->Hp->Prop}(M:MkX X.K C f)(F:cD X.prog X.w X.K X.mg X.base fK k f fd ps sp)(hr:dw (k+1) X.A)(hg:Gl X x)(hm:X.mg x=some (.ref C))(hb:Binds X.K fd ps [])(ha:QA X (e::es) t)
  (I:Inv X y7 σ H s) (h:t σ H λvs H1=>vs.length<=sizeLine/\∀a,H1 a=none->sp (.ref a::vs) (upd H1 a (.ext (fP a (.ref C) none))) (λv H2=>v=.non/\G a H2) E0)
  (hdb:(x==("__debug__":Str))=false) (hs:starEach (e::es) X.env=(false,eval e X.env)::starEach es X.env) (hpl:(backTo cpos (starEach es X.env)).any (·.1)=false) :
  wpAny (model X.prog X.w) X.A (eval (.Call (.Name x p) (e::es) [] cpos) X.env) (λv s'=>∃a H2,v=.ref a/\Inv X y7 σ H2 s'/\X.s₀.heap.objs.size<=a/\G a H2) X.xe s:=by
 refine wpAny_Call_Name_kw (mZ I hg hm ?_ hdb);refine W.callWith_K (h₀:=X.base) I.ok.mod.Ek M.kp (bG (ha.out cpos y7 s σ H _ I h) λus s1 ⟨vs,H1,I1,r,hz,q⟩=>⟨I1.fL,?_⟩) hs hpl;obtain⟨bm,N,nm,qn,bs,sn,sub,ab,col,dd,k0,k1,k2,k3,k5,mN,cC,cN,ci,T⟩:=GD I1.fL M.ini;obtain⟨oI,hoI,hcI⟩:∃oI,s1.heap.get? f=some oI/\oI.cls=.type "function":=by
  have z:(X.K.lookup f).map (·.cls)=some (.type "function"):=beq_iff_eq.mp M.fn;cases y:X.K.lookup f with
  | none=>rw[y]at z;cases z
  | some of=>rw[y]at z;exact⟨of,I1.fL _ _ y,Option.some.inj z⟩
 have hsz0:X.s₀.heap.objs.size<=s1.heap.objs.size+1:=Nat.le_succ_of_le I1.sz;obtain⟨hh,g,d,tk,os⟩:=s1;have I2:Inv X y7 σ H1 ⟨hh.push (newArgs us),g,d,tk,os⟩:=I1.kept (t':=tk) λb u z=>Heap.get?_push_of_some _ z;have hsz:(hh.push (newArgs us)).objs.size=hh.objs.size+1:=Heap.size_push _ _;have eX:((hh.push (newArgs us)).push (newExc C hh.objs.size)).get? (hh.objs.size+1)=some (newExc C hh.objs.size):=by heap_get
 have I3:Inv X y7 σ (upd H1 (hh.objs.size+1) (.ext (fP (hh.objs.size+1) (.ref C) none))) ⟨(hh.push (newArgs us)).push (newExc C hh.objs.size),g,d,tk,os⟩:=
  I2.laid (t':=tk) (λb u z=>Heap.get?_push_of_some _ z) (Nat.le_of_eq hsz) (fP.ok ⟨_,_,eX,rfl,rfl,rfl,rfl,rfl,by simp⟩)
 have hq:=q (hh.objs.size+1) (I2.hok.fresh (Nat.le_of_eq hsz));have r2:Vals (V.ref (hh.objs.size+1)::vs) (Value.ref (hh.objs.size+1)::us):=.cons rfl r;have hl:(Value.ref (hh.objs.size+1)::us).length=ps.length:=by rw[<- r2.length];exact F.len _ _ _ _ hq
 have hB:=hb ⟨(hh.push (newArgs us)).push (newExc C hh.objs.size),g,d,tk,os⟩ (Value.ref (hh.objs.size+1)::us) I3.fL (by rw[List.append_nil];exact hl);rw[List.append_nil]at hB;refine Yz T cC cN ci hoI hcI (by show us.length<=sizeLine;rw[<- r.length];exact hz) (wpAny_call (codeAny_mono (F.run _ X.stack _ _ ⟨Value.ref (hh.objs.size+1)::us,[]⟩ (Value.ref (hh.objs.size+1)::us) _ _ E0 (hr.make C us []) (I3.env0.make C us []) hB r2 hq) λr s' hq'=>?_));cases r with
 | error e=>exact False.elim hq'
 | ok fl=>
  cases fl with
  | ret u=>
   obtain⟨v,H',I4,rv,ev,q3⟩:=I3.after hq';subst ev;exact⟨rv,_,H',rfl,I4,hsz0,q3⟩
  | next=>exact False.elim hq'
  | brk=>exact False.elim hq'
  | cont=>exact False.elim hq'
theorem qe (hl:Lets X E)(hc:X.calm=true)(M:MkX X.K C f)(F:cD X.prog X.w X.K X.mg X.base fK k f fd ps sp)(hr:dw (k+1) X.A)(hg:Gl X x)(hm:X.mg x=some (.ref C))(hb:Binds X.K fd ps [])(ha:QA X (e::es) t)
  (hdb:(x==("__debug__":Str))=false:=by decide) (hs:starEach (e::es) X.env=(false,eval e X.env)::starEach es X.env:=by rfl) (hpl:(backTo cpos (starEach es X.env)).any (·.1)=false:=by rfl) :
  QS X (.Raise (some (.Call (.Name x p) (e::es) [] cpos)) none pos) (abb C sp E t):=⟨by
 intro y7 s σ H D I h;have run:=abd (p:=p) M F hr hg hm hb ha I h hdb hs hpl;obtain⟨bm,N,nm,qn,bs,sn,sub,ab,col,dd,k0,k1,k2,k3,k5,mN,cC,cN,ci,T⟩:=GD I.ok.mod.Ek M.ini;rw[arm_exec_Raise];refine wpAny_bind (wpAny_standAt (Vv (C:=C) (nm:=nm) (q:=qn) (N:=N) (bs:=bs) (bm:=bm) (hdct:=true) (sn:=sn) (sub:=sub) (ab:=ab) (col:=col) (dd:=dd) (k0:=k0) (k1:=k1) (k2:=k2) (k3:=k3) (k5:=k5) (newId:="ValueError.__new__")
  (T.hasType PySem.F.excBase_ValueError.hasBase) (I.ok.hd hc) (wpAny_bind (wpAny_mono run (λv s1 z=>wpAny_bind (wpAny_standAt (wpAny_pure ?_))) λ_ _ y=>y))))
 obtain⟨a,H2,rfl,I2,ha2,dd2,hd2,hE⟩:=z;obtain⟨⟨oe,vs,he,h1,h2,h3,h4,Vw,_⟩,_⟩:=I2.hok a _ hd2;have EY:∀b o,X.s₀.heap.get? b=some o->b≠a:=λb o z y=>absurd (Heap.lt_size z) (by rw[y];exact Nat.not_lt.mpr ha2);have I3:=I2.drop hd2 EY;refine⟨a,oe,vs,rfl,I2.bk _ _ cC,he,h1,h3,h4,hl y7 σ _ _ a oe vs I3 he h3 h4 Vw m_ EY ?_⟩;rw[h1,h2];exact hE⟩
end
section
variable {prog:Program}{w:World}{A:Around}{E:Value->Shared->Prop}{h:Heap}{g:Array GenState}{d:Drawn}{t:Nat}{os:OsState}
variable {nm q:Str}{C N a:Addr}{bs bm:List Value}{sn:List Str}{sub:List Value}{ab:Bool}{col:Option Bool}{dd:Option Addr}{k0 k1 k2 k3 k5:Option Value}{rest:List Value}{Q:Value->Shared->Prop}{oe:Obj}{vs:Array Value}
theorem Vx (T:OwnTail h gY bm)(hC:h.get? C=some (excClassObj nm q C N bs bm true sn sub ab col dd k0 k1 k2 k3 k5 "ValueError.__new__"))(he:h.get? a=some oe)(hc:oe.cls=.ref C)(hd:oe.data=.fields vs)(hz:0 < vs.size)(hr:rest.length<=sizeLine)
  (hq:Q .none ⟨(h.push (newArgs rest)).update a (Obj.mapFields (·.setIfInBounds 0 (.ref h.objs.size))),g,d,t,os⟩) :
  wpAny (model prog w) A (call (.builtin "ValueError.__init__") (.ref a::rest)) Q E ⟨h,g,d,t,os⟩:=by
 have FB:=PySem.F.excBase_ValueError;obtain⟨oc,od,oda,osl⟩:=oe;dsimp only at hc hd;subst hc hd;refine wpAny_call (codeAny_call_builtin FB.init.plain FB.initEntry (wpAny_check_init_subT FB T hC he rfl ?_));have he1:(h.push (newArgs rest)).get? a=some ⟨.ref C,od,.fields vs,osl⟩:=Heap.get?_push_of_some _ he;unfold Builtin.«BaseException.__init__»
 repeat (first | with_reducible refine wpAny_loadPart_at he1 ?_ | wp_step)
 obtain⟨v0,e0⟩:∃v0,vs[0]?=some v0:=⟨_,Array.getElem?_eq_getElem hz⟩
 rw[e0];refine wpAny_pure (wpAny_bind (wpAny_setField he1 rfl hz ?_));cases v0 <;> first | exact wpAny_letGo (wpAny_pure hq) | exact wpAny_pure (wpAny_pure hq)
end
noncomputable def oV:List Value->Bool
 | .ref _::r=>oV r
 | l=>l==gY
theorem yZ (self:Value):∀{l:List Value},oV l=true->refuseLoop self "__setattr__" l=pure ()
 | .ref _::r,e=>(refuseLoop_ref self "__setattr__" _ r).trans (yZ self (l:=r) e)
 | [],e=>by cases e
 | .type n::r,e=>by rw[beq_iff_eq.mp (show (Value.type n::r==gY)=true from e)];exact PySem.F.store_ValueError.passes self
 | .none::r,e=>by cases(beq_iff_eq.mp (show (Value.none::r==gY)=true from e))
 | .bool b::r,e=>by cases(beq_iff_eq.mp (show (Value.bool b::r==gY)=true from e))
 | .int i t::r,e=>by cases(beq_iff_eq.mp (show (Value.int i t::r==gY)=true from e))
 | .float i t::r,e=>by cases(beq_iff_eq.mp (show (Value.float i t::r==gY)=true from e))
 | .str i t::r,e=>by cases(beq_iff_eq.mp (show (Value.str i t::r==gY)=true from e))
 | .bytes i t::r,e=>by cases(beq_iff_eq.mp (show (Value.bytes i t::r==gY)=true from e))
 | .builtin n::r,e=>by cases(beq_iff_eq.mp (show (Value.builtin n::r==gY)=true from e))
structure za (K:Frag)(C:Addr):Prop where
 ln:((clsIn K C).any λcd=>cd.hasDict&&oV cd.mro)=true
 ob:mroIn K C (.type "object")=some true
 sa:findIn K (.ref C) "__setattr__"=some (some (.builtin "object.__setattr__"))
section
open Builtin Builtin.ObjectAttr
variable {prog:Program}{w:World}{A:Around}{E:Value->Shared->Prop}{s:Shared}{K:Frag}{x C:Addr}{ox:Obj}{od:Option Obj}{name:Str}{v:Value}
theorem Jc {Q:Unit->Shared->Prop}(X:K.In s.heap)(T:za K C)(hn:findIn K (.ref C) name=some none)(I:InstAt s.heap x ox C od)
  (h:wpAny (model prog w) A.in1 (storeInOwnDict (.ref x) (.ref C) (.str name s.toks) name v false) (λfin s'=>match fin with | .done (.ret _)=>Q () s' | _=>False) (λ_ _=>False) { s with toks:=s.toks+1 }) :
  wpAny (model prog w) A (setAttr (.ref x) name v) Q E s:=by
 have SF:=PySem.F.store_ValueError;obtain⟨cd,hc,ho⟩:=any_some T.ln;rw[Bool.and_eq_true]at ho;have L0:=I.type (M:=model prog w);have Lm:Looks (model prog w) s.heap (mroOf (.ref C)) cd.mro:=(looks_clsIn X hc).andThen .now;have Li:Looks (model prog w) s.heap (isInstance (.ref x) (.type "object")) true:=L0.andThen (looks_mroIn X T.ob);have Ln:=looks_findIn (M:=model prog w) X hn;obtain⟨hh,g,d,t,os⟩:=s;unfold setAttr;refine wpAny_bind (wpAny_mkText (wpAny_bind (wpAny_bind (wpAny_bind (L0.at ((looks_findIn X T.sa).at (wpAny_holding (wpAny_bind ?_))))))));rw[SF.slot.bind (.ref x)];refine wpAny_pure (wpAny_bind (wpAny_call (codeAny_call_builtin SF.slot.plain SF.entry (@check_slot (model prog w) _ _ _ "object.__setattr__" "object" "__setattr__" (.ref x) [.str name t,v] [] _ SF.kind SF.split Li (SF.args (.ref x) (.str name t) v) ?_))));show wpAny (model prog w) A.in1 (Builtin.«object.__setattr__» ⟨[.ref x,.str name t,v],[]⟩) _ _ _;rw[osa_eq,refuse_eq];refine wpAny_bind (wpAny_bind (L0.at (wpAny_bind (Lm.at ?_))));rw[yZ _ ho.2];refine wpAny_pure (wpAny_bind (L0.at (wpAny_bind (Ln.at (wpAny_bind (wpAny_pure ?_))))));refine wpAny_mono h (λfin s' z=>?_) λ_ _ z=>z.elim;cases fin with
 | done f=>cases f with
  | ret u=>exact wpAny_pure (wpAny_pure z)
  | next=>exact z.elim
  | brk=>exact z.elim
  | cont=>exact z.elim
 | again c=>exact z.elim
end
section
open Builtin Builtin.ObjectAttr
variable {prog:Program}{w:World}{A:Around}{E:Value->Shared->Prop}{h:Heap}{g:Array GenState}{d:Drawn}{t:Nat}{os:OsState}{K:Frag}{x C dx:Addr}{vs:Array Value}{sl:Array (Option Value)}{name:Str}{v:Value}{Q:Fin->Shared->Prop}{b:Bool}{tk:Tok}
theorem RK (X:K.In h)(T:za K C)(hx:h.get? x=some ⟨.ref C,none,.fields vs,sl⟩)
  (hq:∀h' t',h'.Ns1 h.objs.size (λy=>if y=name then some v else none)->h'.get? x=some ⟨.ref C,some h.objs.size,.fields vs,sl⟩->(∀c o,c≠x->h.get? c=some o->h'.get? c=some o)->Q (.done (.ret .none)) ⟨h',g,d,t',os⟩) :
  wpAny (model prog w) A (storeInOwnDict (.ref x) (.ref C) (.str name tk) name v b) Q E ⟨h,g,d,t,os⟩:=by
 obtain⟨cd,hc,ho⟩:=any_some T.ln;rw[Bool.and_eq_true]at ho;have xs:x≠h.objs.size:=Nat.ne_of_lt (Heap.lt_size hx);refine wpAny_bind (wpAny_pure (wpAny_bind (wpAny_bind (wpAny_loadPart hx (wpAny_bind ((looks_clsIn X hc).here ?_))))));rw[ho.1];have hx1:(h.push { cls:=.type "dict",data:=.dict #[] }).get? x=some ⟨.ref C,none,.fields vs,sl⟩:=Heap.get?_push_of_some _ hx;refine wpAny_bind (wpAny_alloc' ?_);refine wpAny_bind (wpAny_update' hx1 ?_);refine wpAny_pure ?_;generalize e1:((h.push { cls:=.type "dict",data:=.dict #[] }).update x λo=>{ cls:=o.cls,dict:=some h.objs.size,data:=o.data,slots:=o.slots })=h1;have g1:h1.get? h.objs.size=some { cls:=.type "dict",data:=.dict #[] }:=by rw[<- e1];exact(Heap.get?_update_ne _ _ _ _ xs.symm).trans (Heap.get?_push_at rfl rfl)
 have g2:h1.get? x=some ⟨.ref C,some h.objs.size,.fields vs,sl⟩:=by rw[<- e1];exact Heap.get?_update_self _ hx1 rfl
 have g3:∀c o,c≠x->h.get? c=some o->h1.get? c=some o:=λc o n z=>by rw[<- e1];exact(Heap.get?_update_ne _ _ _ _ n).trans (Heap.get?_push_of_some _ z)
 have n1:h1.Ns h.objs.size (λ_=>none):=⟨_,#[],_,g1,rfl,(λe he=>absurd he (by simp)),λ_=>rfl⟩
 show wpAny _ _ (storeInDict h.objs.size (.str name tk) name v) _ _ _;unfold storeInDict newKeyGuard;refine wpAny_bind (wpAny_pure (wpAny_bind (wpAny_nsSet1 (Heap.Ns1.of_empty n1) λh2 n2 k2=>?_)));obtain⟨oD,esD,epD,hoD,hdD,hcD⟩:=n2.count (PySem.Within.cons name v PySem.Within.nil);refine wpAny_bind (wpAny_lookBehind hoD (by rw[hdD];exact pastItsLine_dict (Nat.le_trans hcD (by rw[List.length_cons,List.length_nil,sizeLine_eq];omega))) (wpAny_pure ?_));exact hq h2 _ n2 ((k2.2 x xs).trans g2) λc o n z=>(k2.2 c (Nat.ne_of_lt (Heap.lt_size z))).trans (g3 c o n z)
theorem Ol {mA:Str->Option Value}{ns:List Str}(X:K.In h)(T:za K C)(hx:h.get? x=some ⟨.ref C,some dx,.fields vs,sl⟩)(hn:h.Ns1 dx mA)(hw:PySem.Within mA ns)(hl:ns.length<=100)
  (hq:∀h' t',h'.Ns1 dx (λy=>if y=name then some v else mA y)->(∀c o,c≠dx->h.get? c=some o->h'.get? c=some o)->Q (.done (.ret .none)) ⟨h',g,d,t',os⟩) :
  wpAny (model prog w) A (storeInOwnDict (.ref x) (.ref C) (.str name tk) name v b) Q E ⟨h,g,d,t,os⟩:=by
 obtain⟨cd,hc,ho⟩:=any_some T.ln;rw[Bool.and_eq_true]at ho;refine wpAny_bind (wpAny_pure (wpAny_bind (wpAny_bind (wpAny_loadPart hx (wpAny_bind ((looks_clsIn X hc).here ?_))))));rw[ho.1];refine wpAny_pure ?_;show wpAny _ _ (storeInDict dx (.str name tk) name v) _ _ _;unfold storeInDict newKeyGuard;refine wpAny_bind (wpAny_pure (wpAny_bind (wpAny_nsSet1 hn λh2 n2 k2=>?_)));obtain⟨oD,esD,epD,hoD,hdD,hcD⟩:=n2.count (PySem.Within.cons name v hw);refine wpAny_bind (wpAny_lookBehind hoD (by rw[hdD];exact pastItsLine_dict (Nat.le_trans hcD (by rw[List.length_cons,sizeLine_eq];omega))) (wpAny_pure ?_));exact hq h2 _ n2 λc o n z=>(k2.2 c n).trans z
end
noncomputable def XD (a:Addr)(fs:List (Str × V)):Heap->Prop:=λh=>∃mA,h.Ns1 a mA/\(∀f,jo (fs.lookup f) (mA f))/\PySem.Within mA (fs.map (·.1))/\fs.length<=50
theorem XD.at {a:Addr}{fs:List (Str × V)}{h h':Heap}(x:XD a fs h)(k:∀o,h.get? a=some o->h'.get? a=some o):XD a fs h':=let ⟨mA,n,r⟩:=x;⟨mA,n.at k,r⟩
theorem XD.ok {P:Program}{w:World}{H:Hp}{h:Heap}{a:Addr}{fs:List (Str × V)}(x:XD a fs h):cW P w H h a (.ext (XD a fs)):=⟨x,let ⟨_,⟨o,_,_,e,_⟩,_⟩:=x;⟨o,e⟩,λ_ _ y k=>y.at k⟩
noncomputable def aeY (K : Frag)(ta tv : TE)(f : Str) : TS := λD σ H => tv σ H λy H1 => ta σ H1 λx H2 => ∃a C dd, x = .ref a /\ H2 a = some (.ext (fP a (.ref C) dd)) /\ za K C /\ findIn K (.ref C) f = some none /\
  ((dd = none /\ ∀dx, dx ≠ a -> H2 dx = none -> D.nx σ (upd (upd H2 dx (.ext (XD dx [(f, y)]))) a (.ext (fP a (.ref C) (some dx))))) \/
   ∃dx fs, dd = some dx /\ H2 dx = some (.ext (XD dx fs)) /\ fs.length < 50 /\ D.nx σ (upd H2 dx (.ext (XD dx (gM f y fs)))))
section
variable {X:Cx}{o value:Expr}{f:Str}{pos pos':Pos}{ta tv:TE}
theorem rQ (ha:QE X o ta)(hv:QE X value tv)(hs:swapsWith value (some (.Attribute o f pos')) pos.line X.env=pure false):QS X (.Assign [.Attribute o f pos'] value pos) (aeY X.K ta tv f):=⟨by
 intro y7 s σ H D I h;refine plainObj_wpAny_Assign_Attribute (bG (hv.out y7 s σ H _ I h) λu s1 zz=>?_) hs;obtain⟨y,H1,I1,ry,q⟩:=zz;refine bG (ha.out y7 s1 σ H1 _ I1 q) λov s2 zz=>?_;obtain⟨x,H2,I2,rx,a,C,dd,ex,ea,T,hn,q2⟩:=zz;subst ex;obtain rfl:ov=Value.ref a:=rx;obtain⟨⟨oe,vs,he,h1,h2,h3,h4,Vw,h5⟩,_⟩:=I2.hok a _ ea;obtain⟨oc,od,oda,osl⟩:=oe;dsimp only at h1 h2 h3;subst h1 h2 h3;have hk:X.K.In s2.heap:=I2.fL;obtain⟨hh,g,d,t,os⟩:=s2;rcases q2 with⟨rfl,q2⟩ | ⟨dx,fs,rfl,hdx,hl,q2⟩
 ·refine Jc hk T hn (od:=none) ⟨he,rfl,rfl,True.intro⟩ (RK hk T he λh' t' n' e' k'=>?_)
  have xs:a≠hh.objs.size:=Nat.ne_of_lt (Heap.lt_size he);have nN:H2 hh.objs.size=none:=I2.hok.fresh (Nat.le_refl _);have na:∀b,H2 b=none->b≠a:=λb n z=>by rw[z,ea]at n;cases n
  have ne:∀b w,H2 b=some w->(∀φ,w≠.ext φ)->b≠a/\b≠hh.objs.size:=λb w e n=>⟨λz=>by rw[z,ea]at e;cases e;exact n _ rfl,λz=>by rw[z,nN]at e;cases e⟩
  have up:∀b,b≠a->b≠hh.objs.size->upd (upd H2 hh.objs.size (.ext (XD hh.objs.size [(f,y)]))) a (.ext (fP a (.ref C) (some hh.objs.size))) b=H2 b:=λb n1 n2=>by rw[aP n1,aP n2]
  have lt:∀b o,hh.get? b=some o->b≠hh.objs.size:=λb o z=>Nat.ne_of_lt (Heap.lt_size z);have hD:XD hh.objs.size [(f,y)] h':=⟨_,n',λg'=>by
    show jo (List.lookup g' [(f,y)]) (if g'=f then some u else none);by_cases q:g'=f
    ·rw[if_pos q,q];simp only[List.lookup,beq_self_eq_true];exact ry
    ·rw[if_neg q]
     have:(g'==f)=false:=beq_false_of_ne q;simp only[List.lookup,this];trivial,λg' hg=>by
    by_cases q:g'=f
    ·rw[q];simp
    ·exact absurd (show (if g'=f then some u else none)=none by rw[if_neg q]) hg,by show 1<=50;decide⟩
  have I3:Inv X y7 σ (upd (upd H2 hh.objs.size (.ext (XD hh.objs.size [(f,y)]))) a (.ext (fP a (.ref C) (some hh.objs.size)))) ⟨h',g,d,t',os⟩:=I2.un (t':=t')
   ⟨λb o z n _ _=>k' b o (na b n) z,λb o z n _ _=>⟨o.slots,k' b o (na b n) z⟩,λb o z n _=>(up b (na b n) (lt b o z)).trans n,λb o z _=>by
    by_cases hb:b=a
    ·exact⟨_,by rw[hb];exact e'⟩
    ·exact⟨o,k' b o hb z⟩,λb xs e=>by
    obtain⟨n1,n2⟩:=ne b _ e λφ=>by simp
    exact(up b n1 n2).trans e,λb o xs e=>by
    obtain⟨n1,n2⟩:=ne b _ e λφ=>by simp
    exact(up b n1 n2).trans e,λb ps e=>by
    obtain⟨n1,n2⟩:=ne b _ e λφ=>by simp
    exact⟨#[],by rw[up b n1 n2,e];simp⟩⟩ λb o e=>by
   by_cases hb:b=a
   ·subst hb
    rw[ao]at e;cases e;exact fP.ok ⟨_,_,e',rfl,rfl,rfl,h4,Vw,λz=>xs (Option.some.inj z).symm⟩
   ·rw[aP hb]at e
    by_cases hn:b=hh.objs.size
    ·subst hn
     rw[ao]at e;cases e;exact hD.ok
    ·rw[aP hn]at e
     refine(I2.hok b o e).stay (λc w hc z=>k' c w (λy=>?_) z) (λc r=>?_) λc xs r=>?_
     ·rcases hc with hc | hc
      ·exact hb (hc.symm.trans y)
      ·rw[y,ea]at hc;cases hc
     ·obtain⟨n1,n2⟩:=ne c _ r λφ=>by simp
      exact(up c n1 n2).trans r
     ·obtain⟨n1,n2⟩:=ne c _ r λφ=>by simp
      exact(up c n1 n2).trans r
  exact⟨σ,_,I3,q2 _ xs.symm nN⟩
 ·obtain⟨⟨mA,nA,rA,wA,lA⟩,⟨od,hod⟩,_⟩:=I2.hok dx _ hdx
  refine Jc hk T hn (od:=some od) ⟨he,rfl,rfl,hod⟩ (Ol (ns:=fs.map (·.1)) hk T he nA wA (by rw[List.length_map];omega) λh' t' n' k'=>?_);have I3:Inv X y7 σ (upd H2 dx (.ext (XD dx (gM f y fs)))) ⟨h',g,d,t',os⟩:=I2.write (t':=t') (e:=dx) (by rw[hdx];trivial) (.inl rfl) (λb o n z=>k' b o n z) (let ⟨o,_,_,e,_⟩:=n';⟨o,e⟩)
   (XD.ok ⟨_,n',λg'=>?_,λg' hg=>?_,?_⟩)
  ·exact⟨σ,_,I3,q2⟩
  ·show jo ((gM f y fs).lookup g') (if g'=f then some u else mA g')
   rw[lO];by_cases q:g'=f
   ·rw[if_pos q,if_pos q];exact ry
   ·rw[if_neg q,if_neg q];exact rA g'
  ·by_cases q:g'=f
   ·rw[q];exact(pU f y fs).1
   ·refine(pU f y fs).2 g' (wA g' λz=>hg ?_)
    show (if g'=f then some u else mA g')=none;rw[if_neg q];exact z
  ·have:=uO f y fs;omega⟩
end
structure InitOf (K:Frag)(R:Addr):Prop where
 ga:specialIn K (.ref R) "__getattribute__"=some (some (.builtin "type.__getattribute__"))
 rd:readsIn K R (.type "type")=true
 fc:findCls K (.ref R) (.type "type") "__init__"=some (.val (.builtin "ValueError.__init__"))
noncomputable def YB (K:Frag)(t:TA):TE:=λσ H Q=>t σ H λvs H1=>∃a C f dd rest,vs=.ref a::rest/\H1 a=some (.ext (fP a (.ref C) dd))/\tX K C f=true/\rest.length<=sizeLine/\Q .non H1
section
variable {X:Cx}{R:Addr}{x:Str}{np apos pos:Pos}{e:Expr}{es:List Expr}{t:TA}
theorem qT {pl:Sem Bool}(hg:Gl X x)(hm:X.mg x=some (.ref R))(F:InitOf X.K R)(ha:QA X (e::es) t)(hdb:(x==("__debug__":Str))=false:=by decide)
  (hs:starEach (e::es) X.env=(false,eval e X.env)::starEach es X.env:=by rfl) (hpl:(backTo pos (starEach es X.env)).any (·.1)=false:=by rfl)
  (ht:eval (.Call (.Attribute (.Name x np) "__init__" apos) (e::es) [] pos) X.env=(do
   let ov <- eval (.Name x np) X.env
   standAt apos.atName
   let (f,first) <- holding [ov] (getMethod ov "__init__" pl)
   callWith pos f first (backTo pos (starEach (e::es) X.env)) (backToKw pos (keywordEach [] X.env))):=by rfl) :
  QE X (.Call (.Attribute (.Name x np) "__init__" apos) (e::es) [] pos) (YB X.K t):=⟨by
 intro y7 s σ H Q I h;refine methodCall_KW (pl:=pl) (mZ I hg hm ?_ hdb) ht;refine method_cls I.fL F.ga (cls_value I.fL F.rd F.fc rfl ?_);have I0:=I.tok (s.toks+1);refine PyProof.Rows.callWith_builtin1 (bG (ha.out pos y7 _ σ H _ I0 h) λus s1 zz=>?_) hs hpl;obtain⟨vs,H1,I1,r1,a,C,f,dd,rest,ev,hE,hC,hz,q⟩:=zz;subst ev;obtain⟨bm,N,nm,qn,bs,sn,sub,ab,col,UG,k0,k1,k2,k3,k5,mN,cC,cN,ci,T⟩:=GD I1.fL hC;obtain⟨⟨oe,ws,he,h1,h2,h3,h4,Vw,h5⟩,_⟩:=I1.hok a _ hE;obtain⟨u,us',rfl,ra,rr⟩:∃u us',us=u::us'/\RelV (.ref a) u/\Vals rest us':=by
  cases r1 with
  | cons ra rr=>exact⟨_,_,rfl,ra,rr⟩
 obtain rfl:u=Value.ref a:=ra;obtain⟨hh,g,d,tk,os⟩:=s1;have hsz:0 < ws.size:=Nat.lt_of_le_of_lt (Nat.zero_le 1) (Array.getElem?_eq_some_iff.mp h4).1;refine Vx T cC he h1 h3 hsz (by rw[<- rr.length];exact hz) ?_;have e1:(hh.push (newArgs us')).get? a=some oe:=Heap.get?_push_of_some _ he;have I2:Inv X y7 σ H1 ⟨hh.push (newArgs us'),g,d,tk,os⟩:=I1.kept (t':=tk) λb u z=>Heap.get?_push_of_some _ z;have dd2:=Obj.data_mapFields h3 (·.setIfInBounds 0 (Value.ref hh.objs.size));have e2:((hh.push (newArgs us')).update a (Obj.mapFields (·.setIfInBounds 0 (.ref hh.objs.size)))).get? a=some (oe.mapFields (·.setIfInBounds 0 (.ref hh.objs.size))):=Heap.get?_update_self _ e1 (Obj.isFreed_of_fields dd2);have I3:Inv X y7 σ (upd H1 a (.ext (fP a (.ref C) dd))) ⟨(hh.push (newArgs us')).update a (Obj.mapFields (·.setIfInBounds 0 (.ref hh.objs.size))),g,d,tk,os⟩:=I2.write (t':=tk) (e:=a) (by rw[hE];trivial) (.inl rfl)
  (λb u n z=>(Heap.get?_update_other _ _ (Ne.symm n)).trans z) ⟨_,e2⟩ (fP.ok ⟨_,_,e2,(Obj.cls_mapFields _ _).trans h1,(Jb _ _).trans h2,dd2,by rw[Array.getElem?_setIfInBounds_ne (by decide)];exact h4,by rw[Array.getElem?_setIfInBounds_ne (by decide)];exact Vw,h5⟩)
 rw[show upd H1 a (.ext (fP a (.ref C) dd))=H1 from funext λb=>by
  by_cases hb:b=a
  ·rw[hb,ao,hE]
  ·rw[aP hb]]at I3
 exact⟨.non,H1,I3,rfl,q⟩⟩
end
noncomputable def aeZ (K:Frag)(ta:TE)(f:Str):TE:=λσ H Q=>ta σ H λx H1=>∃a C dx fs v,x=.ref a/\H1 a=some (.ext (mL a (.ref C) (some dx)))/\H1 dx=some (.ext (XD dx fs))/\pC K C/\hasDictIn K C=true/\findIn K (.ref C) f=some none/\fs.lookup f=some v/\Q v H1
section
variable {prog:Program}{w:World}{A:Around}{E:Value->Shared->Prop}{s:Shared}{K:Frag}{x C:Addr}{ox:Obj}{od:Obj}{name:Str}{v:Value}
theorem RL {tk:Tok}{Q:Fin->Shared->Prop}(X:K.In s.heap)(I:InstAt s.heap x ox C (some od))(hf:findObj K C (some od) name=some (.value v))(h:Q (.done (.ret v)) s) :
  wpAny (model prog w) A (Builtin.«object.__getattribute__» ⟨[.ref x,.str name tk],[]⟩) Q E s:=by
 obtain⟨hh,g,d,t,os⟩:=s;have L0:=I.type (M:=model prog w);have L1:=looks_find (M:=model prog w) X I hf;unfold Builtin.«object.__getattribute__»
 repeat (first | lk)
 exact h
theorem afx {expr:Bool}{Q:Value->Shared->Prop}(T:pC K C)(X:K.In s.heap)(I:InstAt s.heap x ox C (some od))(hf:findObj K C (some od) name=some (.value v))(hv:handedIn v=true)(h:Q v { s with toks:=s.toks+1 }) :
  wpAny (model prog w) A (getAttr (.ref x) name expr) Q E s:=by
 obtain⟨hh,g,d,t,os⟩:=s;have L0:=I.type (M:=model prog w);have L1:=looks_findIn (M:=model prog w) X T.ga;have L2:=looks_findIn (M:=model prog w) X T.gx;unfold getAttr getAttrBy;refine wpAny_bind (wpAny_mkText (wpAny_holding (wpAny_bind (L0.at (wpAny_bind (L1.at ?_))))));show wpAny _ _ (getAttrByItsOwn _ _ _ _ _ _) _ _ _;unfold getAttrByItsOwn hookBefore;rw[if_pos (show onTheHeap (Value.ref C)=true from rfl)];refine wpAny_bind (L2.at (wpAny_bind (wpAny_attempt (wpAny_holding ?_))));unfold callGetattribute boundAndCalled;rw[if_neg (by simp[onTheHeap])];have f3:=PySem.F.excAttr_ValueError.ga.bind (.ref x);rw[f3];refine wpAny_bind (wpAny_pure ?_);refine wpAny_call (codeAny_call_builtin PySem.F.excAttr_ValueError.ga.plain F.entry_bexc_ga ?_);have hk:builtinKind "BaseException.__getattribute__"=some .slot:=by decide +kernel
 have hsp:splitId "BaseException.__getattribute__"=some ("BaseException","__getattribute__"):=by decide +kernel
 have Lb:=looks_mroIn (M:=model prog w) X T.hb;have hargs:=F.args_bexc_ga (.ref x) (.str name t);simp only[checkBuiltinCall,hk,hsp];refine wpAny_bind ?_;unfold isInstance;refine wpAny_bind (L0.at (Lb.at ?_))
 repeat (first | refine RL (x:=x) X I hf ?_ | assumption | wp_step)
 exact handed_on hv h
end
section
variable {X:Cx}{e:Expr}{f:Str}{pos:Pos}{ta:TE}
theorem Bd (he:QE X e ta)(hb:attributeBase e f X.env (eval e X.env)=eval e X.env):QE X (.Attribute e f pos) (aeZ X.K ta f):=⟨by
 intro y7 s σ H Q I h;refine Pq hb (bG (he.out y7 s σ H _ I h) λu s1 zz=>?_);obtain⟨x,H1,I1,rx,a,C,dx,fs,v,ex,ea,ed,T,hd,hn,hl,q⟩:=zz;subst ex;obtain rfl:u=Value.ref a:=rx;obtain⟨⟨oe,vs,e1,e2,e3,e4,_⟩,_⟩:=I1.hok a _ ea;obtain⟨⟨mA,nA,rA,wA,lA⟩,_⟩:=I1.hok dx _ ed;obtain⟨od,ho,hlk⟩:=Ib nA;obtain⟨u,hu,ru⟩:=jo.some_of (v:=v) (o:=mA f) (by rw[<- hl];exact rA f);have J:InstAt s1.heap a oe C (some od):=⟨e1,e2,by unfold notCls;rw[e4],by rw[e3];exact ho⟩
 exact afx T I1.fL J (findObj_own hd hn rfl (by rw[hlk,hu])) (Ie ru) ⟨v,H1,I1.tok _,ru,q⟩⟩
end
theorem drop_new {H:Hp}{a dx:Addr}{o p q:HO}(na:H a=none)(ne:dx≠a)(nd:upd H a o dx=none):Same H (drop (upd (upd (upd H a o) dx p) a q) a)/\drop (upd (upd (upd H a o) dx p) a q) a dx=some p:=by
 rw[aP ne]at nd;refine⟨λb u e=>?_,?_⟩
 ·have h1:b≠a:=bV e na
  have h2:b≠dx:=bV e nd;rw[gH h1,aP h1,aP h2,aP h1];exact e
 ·rw[gH ne,aP ne,ao]
structure lJ (K:Frag)(mg:Str->Option Value)(name:Str)(C f:Addr)(fs:List Str):Prop where
 Fb:mg name=some (.ref C)
 M:MkX K C f
 T:za K C
 is:pC K C
 hd:hasDictIn K C=true
 no:∀g∈fs,findIn K (.ref C) g=some none
noncomputable def Fd (C:Addr)(nm:Str):Sp:=λvs H Q _=>∃(a:Addr) (v:V),vs=[.ref a,v]/\H a=some (.ext (fP a (.ref C) none))/\∀dx,dx≠a->H dx=none->Q .non (upd (upd H dx (.ext (XD dx [(nm,v)]))) a (.ext (fP a (.ref C) (some dx))))
noncomputable def Fe (C:Addr)(n1 n2:Str):Sp:=λvs H Q _=>∃(a:Addr) (v w:V),vs=[.ref a,v,w]/\H a=some (.ext (fP a (.ref C) none))/\∀dx,dx≠a->H dx=none->Q .non (upd (upd (upd H dx (.ext (XD dx [(n1,v)]))) a (.ext (fP a (.ref C) (some dx)))) dx (.ext (XD dx (gM n2 w [(n1,v)]))))
end L2
end
section
namespace L2
open PySem PySem.Spec PyProof.Rows PySem.W
end L2
end
section
namespace L2
open PySem PySem.Spec PyProof.Rows PySem.W
noncomputable def isT:Value->Bool
 | .bool b=>b
 | _=>false
section
variable {X:Cx}
theorem La:∀{bs:List Bool} {its:List Value},Vals (bs.map V.bl) its->its.map isT=bs
 | [],_,.nil=>rfl
 | b::bs,_,.cons r t=>by
  cases r;rw[List.map_cons,La t];rfl
theorem abe {bs:List Bool}{its:List Value}(r:Vals (bs.map V.bl) its){A:Around}{s:Shared}:∀y∈its.toArray,SeqAt.EqAt A s y (.bool true) (isT y):=λy hy=>by
 obtain⟨m,hm,rfl⟩:=Array.mem_iff_getElem.mp hy;have hl:=r.length;have hm':m < bs.length:=by simp at hm hl;omega
 obtain⟨u1,e1,s1⟩:=r.get (i:=m) (x:=.bl bs[m]) (by simp[hm']);cases s1;have e2:its.toArray[m]=.bool bs[m]:=by
  rw[List.getElem?_eq_getElem (by simpa using hm)]at e1;simpa using e1
 rw[e2];have:=SeqAt.EqAt.bool_bool (A:=A) (s:=s) bs[m] true;cases z:bs[m] <;> (rw[z]at this;exact this)
noncomputable def abf:V->List V->Hp->VK->Prop:=λx vs H Q=>∃(l:Addr) (bs:List Bool) (j:Nat),x=.ref l/\vs=[.bl true]/\H l=some (.lst (bs.map V.bl))/\bs[j]?=some true/\(∀m,m < j->bs[m]?=some false)/\bs.length<=1000/\Q (.int j) H
theorem Vy:MtM X "list.index" abf:=by
 intro y7 s σ H x vs v us Q I rx rv h;obtain⟨l,bs,j,rfl,rfl,hH,hj,hno,hz,q⟩:=h;cases rx;obtain⟨u,rfl,ru⟩:=rv.one;cases ru;obtain⟨z,its,n,r,hl,e⟩:=I.Cu hH;have em:=La r;have hlen:its.length=bs.length:=by rw[<- em,List.length_map]
 have hjb:j < bs.length:=(List.getElem?_eq_some_iff.mp hj).1;have at_:∀m (hm:m < its.toArray.size),bs[m]?=some (isT its.toArray[m]):=λm hm=>by
  have hm':m < its.length:=by simpa using hm
  rw[<- em,List.getElem?_map,List.getElem?_eq_getElem hm'];simp
 refine call_meets F.slot_list_index ⟨_,e,rfl⟩ F.entry_list_index (F.args_list_index_2 _ _) (SeqAt.list_indexAt l its.toArray n _ _ (.bool true) isT j (by simp;omega) (by omega) ?_ ?_) ⟨e,abe r,?_⟩
 ·have:=at_ j (by simp;omega)
  rw[hj]at this;exact(Option.some.inj this).symm
 ·intro m hm hlt
  have:=at_ m hm;rw[hno m hlt]at this;exact(Option.some.inj this).symm
 ·exact⟨.int j,H,I.tok _,⟨s.toks,rfl⟩,q⟩
end
end L2
end
section
namespace L2
open PySem PySem.Spec PyProof.Rows PySem.W
section
variable {prog:Program}{w:World}{A:Around}{E:Value->Shared->Prop}{s:Shared}{z ti to u v a b:Addr}{i:Nat}{f g:Array Value}{x y m n:Value}
theorem Vz {Q:Value->Shared->Prop}(D:ZA z ti to u v a b)(hz:IsZip s.heap z ti to .none)(hi:IsPair s.heap ti (.ref u) (.ref v))(ho:IsPair s.heap to m n)
  (hu:s.heap.IsListIter u a i) (hv:s.heap.IsListIter v b i) (ha:s.heap.IsList a f) (hb:s.heap.IsList b g) (hx:f[i]?=some x) (hy:g[i]?=some y)
  (q:∀h',IsZip h' z ti to (rawInt s.heap.objs.size)->IsPair h' to x y->h'.IsListIter u a (i+1)->h'.IsListIter v b (i+1)->IsPair h' s.heap.objs.size x y->
   (∀c o,c≠z->c≠to->c≠u->c≠v->s.heap.get? c=some o->h'.get? c=some o)->Q (.ref s.heap.objs.size) { s with heap:=h' }) :
  wpAny (model prog w) A (Builtin.«zip.__next__» ⟨[.ref z],[]⟩) (λfin s'=>∃r,fin=.done (.ret r)/\Q r s') E s:=by
 show wpAny _ _ (field (.ref z) 2 >>= _) _ _ _;refine wpAny_bind (wpAny_field hz rfl (x:=.bool false) rfl ?_);show wpAny _ _ (field (.ref z) 3 >>= _) _ _ _;refine wpAny_bind (wpAny_field hz rfl (x:=.ref ti) rfl (wpAny_bind (wpAny_seqItems hi rfl ?_)));show wpAny _ _ (Builtin.SmallTypes.ownedTupleIsFree (.ref z) >>= _) _ _ _;refine wpAny_bind ?_;unfold Builtin.SmallTypes.ownedTupleIsFree;refine wpAny_bind (wpAny_field hz rfl (x:=.none) rfl (wpAny_pure ?_));simp only[if_true];refine wpAny_bind (wpAny_rule (wpAny_bind (wpAny_field hz rfl (x:=.ref to) rfl (wpAny_bind (wpAny_setField_rec hz (by simp) λg1 z1 k1=>?_)))))
 replace z1:IsZip g1 z ti to .ellipsis:=z1
 refine wpAny_bind ?_;simp only[List.zipIdx_cons,List.zipIdx_nil,List.forIn_cons,List.forIn_nil];refine wpAny_bind (wpAny_bind (wpAny_onRaise ?_));show wpAny _ _ (Builtin.SmallTypes.nextOf (.ref u) >>= _) _ _ _;refine wpAny_bind (wpAny_nextOf_list_item (hu.at λo e=>k1.extBut _ o D.q3 e) (Heap.IsList.at ha λo e=>k1.extBut _ o D.p2 e) hx λg2 u2 k2=>wpAny_pure ?_);have o2:IsPair g2 to m n:=k2.extBut _ _ D.q8 (k1.extBut _ _ D.q2 ho);refine wpAny_bind (wpAny_seqItems o2 rfl (wpAny_bind (wpAny_updateSeq_pair o2 λg3 o3 k3=>?_)))
 replace o3:IsPair g3 to x n:=o3
 refine wpAny_bind (wpAny_letGo (wpAny_pure ?_));refine wpAny_bind (wpAny_bind (wpAny_onRaise ?_));show wpAny _ _ (Builtin.SmallTypes.nextOf (.ref v) >>= _) _ _ _;refine wpAny_bind (wpAny_nextOf_list_item (hv.at λo e=>k3.extBut _ o D.q9.symm (k2.extBut _ o D.p1.symm (k1.extBut _ o D.q4 e))) (Heap.IsList.at hb λo e=>k3.extBut _ o D.p7 (k2.extBut _ o D.p8 (k1.extBut _ o D.p6 e))) hy λg4 v4 k4=>wpAny_pure ?_);have o4:IsPair g4 to x n:=k4.extBut _ _ D.q9 o3;refine wpAny_bind (wpAny_seqItems o4 rfl (wpAny_bind (wpAny_updateSeq_pair o4 λg5 o5 k5=>?_)))
 replace o5:IsPair g5 to x y:=o5
 refine wpAny_bind (wpAny_letGo (wpAny_pure (wpAny_pure ?_)));refine wpAny_bind (wpAny_seqItems o5 rfl (wpAny_bind (wpAny_newTuple ?_)));have sz:g5.objs.size=s.heap.objs.size:=by rw[k5.1,k4.1,k3.1,k2.1,k1.1]
 have z5:IsZip g5 z ti to .ellipsis:=k5.extBut _ _ D.q2.symm (k4.extBut _ _ D.q4.symm (k3.extBut _ _ D.q2.symm (k2.extBut _ _ D.q3.symm z1)));have kk:∀c o,c≠z->c≠to->c≠u->c≠v->s.heap.get? c=some o->g5.get? c=some o:=λc o c1 c2 c3 c4 e=>k5.extBut _ _ c2 (k4.extBut _ _ c4 (k3.extBut _ _ c2 (k2.extBut _ _ c3 (k1.extBut _ _ c1 e))));have u5:g5.IsListIter u a (i+1):=u2.at λo e=>k5.extBut _ o D.q8.symm (k4.extBut _ o D.p1 (k3.extBut _ o D.q8.symm e));have v5:g5.IsListIter v b (i+1):=v4.at λo e=>k5.extBut _ o D.q9.symm e;have lz:z < g5.objs.size:=Heap.lt_size z5;show wpAny _ _ (Builtin.SmallTypes.ownedTupleHandOut (.ref z) (.ref g5.objs.size) >>= _) _ _ _;refine wpAny_bind ?_;unfold Builtin.SmallTypes.ownedTupleHandOut;have z6:IsZip (g5.push { cls:=.type "tuple",data:=.seq #[x,y] }) z ti to .ellipsis:=Heap.get?_push_of_some _ z5;refine wpAny_bind (wpAny_setField_rec z6 (by simp) λg7 z7 k7=>?_)
 replace z7:IsZip g7 z ti to (rawInt g5.objs.size):=z7
 refine wpAny_setField_rec z7 (by simp) λg8 z8 k8=>?_
 replace z8:IsZip g8 z ti to (rawInt g5.objs.size):=z8
 have up:∀c o,c≠z->g5.get? c=some o->g8.get? c=some o:=λc o c1 e=>k8.extBut _ _ c1 (k7.extBut _ _ c1 (Heap.get?_push_of_some _ e));have t8:IsPair g8 g5.objs.size x y:=k8.extBut _ _ (Nat.ne_of_gt lz) (k7.extBut _ _ (Nat.ne_of_gt lz) (Heap.get?_push_size _ rfl));rw[sz]at z8 t8;refine wpAny_pure ⟨_,rfl,?_⟩;show Q (.ref g5.objs.size) _;rw[sz];exact q g8 z8 (up _ _ D.q2 o5) (u5.at λo e=>up _ o D.q3 e) (v5.at λo e=>up _ o D.q4 e) t8 λc o c1 c2 c3 c4 e=>up c o c1 (kk c o c1 c2 c3 c4 e)
theorem YC {Q:Fin->Shared->Prop}(hh:A.handled=none)(D:ZA z ti to u v a b)(hz:IsZip s.heap z ti to .none)(hi:IsPair s.heap ti (.ref u) (.ref v))(ho:IsPair s.heap to m n)
  (hu:s.heap.IsListIter u a i) (hv:s.heap.IsListIter v b i) (ha:s.heap.IsList a f) (hb:s.heap.IsList b g) (hx:f[i]?=some x) (hy:g[i]?=none)
  (q:∀h' e,(∀c o,c≠z->c≠to->c≠u->c≠v->s.heap.get? c=some o->h'.get? c=some o)->(∃o,h'.get? e=some o/\o.cls=.type "StopIteration")->E (.ref e) { s with heap:=h' }) :
  wpAny (model prog w) A (Builtin.«zip.__next__» ⟨[.ref z],[]⟩) Q E s:=by
 show wpAny _ _ (field (.ref z) 2 >>= _) _ _ _;refine wpAny_bind (wpAny_field hz rfl (x:=.bool false) rfl ?_);show wpAny _ _ (field (.ref z) 3 >>= _) _ _ _;refine wpAny_bind (wpAny_field hz rfl (x:=.ref ti) rfl (wpAny_bind (wpAny_seqItems hi rfl ?_)));show wpAny _ _ (Builtin.SmallTypes.ownedTupleIsFree (.ref z) >>= _) _ _ _;refine wpAny_bind ?_;unfold Builtin.SmallTypes.ownedTupleIsFree;refine wpAny_bind (wpAny_field hz rfl (x:=.none) rfl (wpAny_pure ?_));simp only[if_true];refine wpAny_bind (wpAny_rule (wpAny_bind (wpAny_field hz rfl (x:=.ref to) rfl (wpAny_bind (wpAny_setField_rec hz (by simp) λg1 z1 k1=>?_)))))
 replace z1:IsZip g1 z ti to .ellipsis:=z1
 refine wpAny_bind ?_;simp only[List.zipIdx_cons,List.zipIdx_nil,List.forIn_cons,List.forIn_nil];refine wpAny_bind (wpAny_bind (wpAny_onRaise ?_));show wpAny _ _ (Builtin.SmallTypes.nextOf (.ref u) >>= _) _ _ _;refine wpAny_bind (wpAny_nextOf_list_item (hu.at λo e=>k1.extBut _ o D.q3 e) (Heap.IsList.at ha λo e=>k1.extBut _ o D.p2 e) hx λg2 u2 k2=>wpAny_pure ?_);have o2:IsPair g2 to m n:=k2.extBut _ _ D.q8 (k1.extBut _ _ D.q2 ho);refine wpAny_bind (wpAny_seqItems o2 rfl (wpAny_bind (wpAny_updateSeq_pair o2 λg3 o3 k3=>?_)))
 replace o3:IsPair g3 to x n:=o3
 refine wpAny_bind (wpAny_letGo (wpAny_pure ?_));refine wpAny_bind (wpAny_bind (wpAny_onRaise ?_));show wpAny _ _ (Builtin.SmallTypes.nextOf (.ref v) >>= _) _ _ _;refine wpAny_bind (wpAny_nextOf_list_end hh (hv.at λo e=>k3.extBut _ o D.q9.symm (k2.extBut _ o D.p1.symm (k1.extBut _ o D.q4 e))) (Heap.IsList.at hb λo e=>k3.extBut _ o D.p7 (k2.extBut _ o D.p8 (k1.extBut _ o D.p6 e))) hy λg4 e k4 he=>?_);obtain⟨oe,e1,e2⟩:=he;have z2:IsZip g4 z ti to .ellipsis:=k4 _ _ D.q4.symm (k3.extBut _ _ D.q2.symm (k2.extBut _ _ D.q3.symm z1));have ez:e≠z:=λt=>by subst t;rw[z2]at e1;cases e1;simp at e2
 exact wpAny_setField_rec z2 (by simp) λg5 _ k5=>q g5 e (λc o c1 c2 c3 c4 t=>k5.extBut _ _ c1 (k4 _ _ c4 (k3.extBut _ _ c2 (k2.extBut _ _ c3 (k1.extBut _ _ c1 t))))) ⟨oe,k5.extBut _ _ ez e1,e2⟩
noncomputable abbrev zl1 (h:Heap)(a:Addr):Heap:=h.push { cls:=.type "list_iterator",data:=.fields #[.ref a,.int 0 0] }
noncomputable abbrev zl2 (h:Heap)(a b:Addr):Heap:=(zl1 h a).push { cls:=.type "list_iterator",data:=.fields #[.ref b,.int 0 0] }
noncomputable abbrev zl3 (h:Heap)(a b:Addr):Heap:=(zl2 h a b).push { cls:=.type "tuple",data:=.seq #[.ref h.objs.size,.ref (zl1 h a).objs.size] }
noncomputable abbrev zl4 (h:Heap)(a b:Addr):Heap:=(zl3 h a b).push { cls:=.type "tuple",data:=.seq #[.none,.none] }
noncomputable abbrev Qh (h:Heap)(a b:Addr):Heap:=(zl4 h a b).push { cls:=.type "zip",data:=.fields #[.none,.bool false,.bool false,.ref (zl2 h a b).objs.size,.ref (zl3 h a b).objs.size] }
theorem abg (a b:Addr)(f g:Array Value):Meets (Builtin.«zip.__new__» ⟨[.type "zip",.ref a,.ref b],[]⟩) (λ_ R s=>s.heap.IsList a f/\s.heap.IsList b g/\R (.ok (.ret (.ref (zl4 s.heap a b).objs.size))) { s with heap:=Qh s.heap a b }):=
 .of_wp λprog w A R s h=>by
  obtain⟨hp,gs,d,tk,os⟩:=s;obtain⟨h1,h2,h⟩:=h;have hsub:=sub_zip;have j1:Heap.IsList (Shared.heap ⟨hp,gs,d,tk,os⟩) a f:=h1;have j2:Heap.IsList (Shared.heap ⟨hp.push { cls:=.type "list_iterator",data:=.fields #[.ref a,.int 0 0] },gs,d,tk,os⟩) b g:=Heap.IsList.at h2 λo e=>Heap.get?_push_of_some _ e
  wp_walk using wpAny_pyIter_list j1,wpAny_pyIter_list j2
  exact⟨_,rfl,h⟩
theorem afy {Q:Value->Shared->Prop}(ha:s.heap.IsList a f)(hb:s.heap.IsList b g)
  (q:∀h',IsZip h' (s.heap.objs.size+4) (s.heap.objs.size+2) (s.heap.objs.size+3) .none->IsPair h' (s.heap.objs.size+2) (.ref s.heap.objs.size) (.ref (s.heap.objs.size+1))->IsPair h' (s.heap.objs.size+3) .none .none->
   h'.IsListIter s.heap.objs.size a 0->h'.IsListIter (s.heap.objs.size+1) b 0->(∀c o,s.heap.get? c=some o->h'.get? c=some o)->Q (.ref (s.heap.objs.size+4)) { s with heap:=h' }) :
  wpAny (model prog w) A (call (.type "zip") [.ref a,.ref b]) Q E s:=by
 refine callType_new F.called_zip (by decide) (F.typeCall_zip_2 _ _) (F.newCall_zip_2 _ _) (λobj=>F.args_object_init_3 obj _ _) F.entry_zip_new (abg a b f g) ⟨ha,hb,?_⟩;have n1:(zl1 s.heap a).objs.size=s.heap.objs.size+1:=Heap.size_push ..;have n2:(zl2 s.heap a b).objs.size=s.heap.objs.size+2:=by rw[Heap.size_push,n1]
 have n3:(zl3 s.heap a b).objs.size=s.heap.objs.size+3:=by rw[Heap.size_push,n2]
 have n4:(zl4 s.heap a b).objs.size=s.heap.objs.size+4:=by rw[Heap.size_push,n3]
 have e5:(Qh s.heap a b).get? (zl4 s.heap a b).objs.size=some _:=Heap.get?_push_size _ rfl;have e4:(Qh s.heap a b).get? (zl3 s.heap a b).objs.size=some _:=Heap.get?_push_of_some _ (Heap.get?_push_size _ rfl);have e3:(Qh s.heap a b).get? (zl2 s.heap a b).objs.size=some _:=Heap.get?_push_of_some _ (Heap.get?_push_of_some _ (Heap.get?_push_size _ rfl));have e2:(Qh s.heap a b).get? (zl1 s.heap a).objs.size=some _:=Heap.get?_push_of_some _ (Heap.get?_push_of_some _ (Heap.get?_push_of_some _ (Heap.get?_push_size _ rfl)));have e1:(Qh s.heap a b).get? s.heap.objs.size=some _:=Heap.get?_push_of_some _ (Heap.get?_push_of_some _ (Heap.get?_push_of_some _ (Heap.get?_push_of_some _ (Heap.get?_push_size _ rfl))));show _/\_;rw[n2,n3,n4]at e5;rw[n1,n2]at e3;rw[n3]at e4;rw[n1]at e2;rw[n4];exact⟨⟨_,e5,rfl⟩,q _ e5 e3 e4 ⟨_,e1,rfl,rfl⟩ ⟨_,e2,rfl,rfl⟩ λc o t=>Heap.get?_push_of_some _ (Heap.get?_push_of_some _ (Heap.get?_push_of_some _ (Heap.get?_push_of_some _ (Heap.get?_push_of_some _ t))))⟩
end
noncomputable def Ld (K:W.Frag)(a b:Addr):It:=
 ⟨λi H=>∃xs ys x y,aN K H a xs/\aN K H b ys/\xs[i]?=some x/\ys[i]?=some y,λi H t H'=>∃T x y,H T=none/\t=.ref T/\(∀xs,aN K H a xs->xs[i]?=some x)/\(∀ys,aN K H b ys->ys[i]?=some y)/\H'=upd H T (.tup [x,y]),λi H=>∃xs ys,aN K H a xs/\aN K H b ys/\i < xs.length/\ys.length<=i⟩
theorem VB {P:Program}{w:World}{K:W.Frag}{elts:List Expr}{x1:Nat}{pos:Pos}{z ti to u v a b:Addr}(D:ZA z ti to u v a b) :
  Turn P w K (.Tuple elts x1 pos) (Ld K a b) [z,ti,to,u,v] z (λi h=>IsZip h z ti to .none/\IsPair h ti (.ref u) (.ref v)/\(∃m n,IsPair h to m n)/\h.IsListIter u a i/\h.IsListIter v b i) where
 mem:=by simp
 obj:=λi h st c hc=>by
  obtain⟨h1,h2,⟨m,n,h3⟩,⟨o4,h4,_,d4⟩,⟨o5,h5,_,d5⟩⟩:=st;simp only[List.mem_cons,List.not_mem_nil,or_false]at hc;rcases hc with e | e | e | e | e <;> subst e
  ·exact⟨_,h1,λv y=>by cases y⟩
  ·exact⟨_,h2,λv y=>by cases y⟩
  ·exact⟨_,h3,λv y=>by cases y⟩
  ·exact⟨o4,h4,λv y=>by rw[d4]at y;cases y⟩
  ·exact⟨o5,h5,λv y=>by rw[d5]at y;cases y⟩
 keep:=λi h h' st k=>by
  obtain⟨h1,h2,⟨m,n,h3⟩,h4,h5⟩:=st;exact⟨k z (by simp) _ h1,k ti (by simp) _ h2,⟨m,n,k to (by simp) _ h3⟩,h4.at λo e=>k u (by simp) o e,h5.at λo e=>k v (by simp) o e⟩
 item:=by
  intro X hP hw hK hc i y7 s σ H E I hf st hg;subst hP hw hK;obtain⟨h1,h2,⟨m,n,h3⟩,h4,h5⟩:=st;obtain⟨xs,ys,x,y,hxs,hys,hx,hy⟩:=hg;obtain⟨fs,rf,pf,_⟩:=I.list hxs;obtain⟨gs,rg,pg,_⟩:=I.list hys;obtain⟨p,ep,rp⟩:=rf.get hx;obtain⟨q,eq,rq⟩:=rg.get hy;have lt:∀c∈[z,ti,to,u,v],c < s.heap.objs.size:=λc hc=>by
   simp only[List.mem_cons,List.not_mem_nil,or_false]at hc;rcases hc with e | e | e | e | e <;> subst e
   ·exact Heap.lt_size h1
   ·exact Heap.lt_size h2
   ·exact Heap.lt_size h3
   ·obtain⟨o,e,_⟩:=h4;exact Heap.lt_size e
   ·obtain⟨o,e,_⟩:=h5;exact Heap.lt_size e
  have hT:s.TypeIs (.ref z) "zip":=⟨_,h1,rfl⟩
  unfold pyNext;refine wpAny_bind (wpAny_attempt (wpAny_callSpecial?_slot (name:=Str.ofString "__next__") hT F.slot_zip_next (wpAny_call_entry F.slot_zip_next hT F.entry_zip_next ?_ (F.args_zip_next_1 _))));refine Vz D h1 h2 h3 h4 h5 (show s.heap.IsList a fs.toArray from pf.isList) (show s.heap.IsList b gs.toArray from pg.isList) (x:=p) (y:=q) (by simpa using ep) (by simpa using eq) λh' k1 k2 k3 k4 k5 k6=>wpAny_pure ?_;refine⟨_,rfl,wpAny_letOwnedTupleGo_zip k1 λh2' e2 sb=>?_⟩;have up:∀c o,c∉[z,ti,to,u,v]->s.heap.get? c=some o->h2'.get? c=some o:=λc o hc e=>by
   simp only[List.mem_cons,List.not_mem_nil,or_false,not_or]at hc;exact sb.extBut _ _ hc.1 (k6 c o hc.1 hc.2.2.1 hc.2.2.2.1 hc.2.2.2.2 e)
  have nz:s.heap.objs.size≠z:=Nat.ne_of_gt (lt z (by simp));obtain⟨I3,fr⟩:=Inv.aeW (tk:=s.toks) I hf lt rp rq (sb.extBut _ _ nz k5) up;exact⟨.ref s.heap.objs.size,_,I3,rfl,⟨s.heap.objs.size,x,y,I.hok.fresh (Nat.le_refl _),rfl,λzs hz=>by rw[I.Cj hz hxs];exact hx,λzs hz=>by rw[I.Cj hz hys];exact hy,rfl⟩,
   ⟨e2,sb.extBut _ _ D.q1 (k6 _ _ D.q1 D.q5 D.q6 D.q7 h2),⟨_,_,sb.extBut _ _ D.q2 k2⟩,k3.at λo e=>sb.extBut _ o D.q3 e,k4.at λo e=>sb.extBut _ o D.q4 e⟩,fr⟩
 done:=by
  intro X hP hw hK hc i y7 s σ H E I hf st hg;subst hP hw hK;obtain⟨h1,h2,⟨m,n,h3⟩,h4,h5⟩:=st;obtain⟨xs,ys,hxs,hys,hx,hl⟩:=hg;obtain⟨fs,rf,pf,_⟩:=I.list hxs;obtain⟨gs,rg,pg,_⟩:=I.list hys;have hlen:=rg.length;obtain⟨p,ep,rp⟩:=rf.get (List.getElem?_eq_getElem hx);have hh:X.A.in1.handled=none:=by simp[I.ok.hd hc]
  have hT:s.TypeIs (.ref z) "zip":=⟨_,h1,rfl⟩
  unfold pyNext;refine wpAny_bind (wpAny_attempt (wpAny_callSpecial?_slot (name:=Str.ofString "__next__") hT F.slot_zip_next (wpAny_call_entry F.slot_zip_next hT F.entry_zip_next ?_ (F.args_zip_next_1 _))));refine YC hh D h1 h2 h3 h4 h5 (show s.heap.IsList a fs.toArray from pf.isList) (show s.heap.IsList b gs.toArray from pg.isList) (x:=p) (by simpa using ep) (by simp;omega) λh' e k zz=>?_;obtain⟨o,e1,e2⟩:=zz;refine wpAny_bind (wpAny_isInstance (T:="StopIteration") (b:=true) ⟨o,e1,e2⟩ isSubtype_stop ?_);refine wpAny_pure ⟨rfl,Inv.Qf (fp:=[z,ti,to,u,v]) (t':=s.toks) I (λc o hc e=>?_) hf⟩;simp only[List.mem_cons,List.not_mem_nil,or_false,not_or]at hc;exact k c o hc.1 hc.2.2.1 hc.2.2.2.1 hc.2.2.2.2 e
 self:=λA i s Q E st h=>wpAny_pyIter_zip st.1 h
section
variable {X:Cx}{elts:List Expr}{x1:Nat}{tp:Pos}
noncomputable def ae0 (K:W.Frag)(ta:TA):TI:=λσ H R=>ta σ H λvs H1=>∃a b,vs=[.ref a,.ref b]/\(∃xs,aN K H1 a xs)/\(∃ys,aN K H1 b ys)/\R (Ld K a b) H1
theorem abh {a b:Expr}{ta:TA}{p pos:Pos}(hg:Gl X "zip")(hm:X.mg "zip"=none)(ha:QA X [a,b] ta)(hs:starEach [a,b] X.env=[(false,eval a X.env),(false,eval b X.env)]:=by rfl)(hs2:starEach [b] X.env=[(false,eval b X.env)]:=by rfl) :
  QI X (.Tuple elts x1 tp) (.Call (.Name "zip" p) [a,b] [] pos) (ae0 X.K ta):=⟨by
 intro y7 s σ H R I h;refine Call_ (vq I hg hm Vq (PyProof.Rows.callWith_type1 (bG (ha.out pos y7 s σ H _ I h) λus s1 zz=>?_) (by rw[hs,hs2]) (by rw[hs2];rfl)));obtain⟨vs,H1,I1,r1,q1⟩:=zz;obtain⟨a,b,e,⟨xs,hxs⟩,⟨ys,hys⟩,q⟩:=q1;subst e;cases r1 with
 | cons r rr=>
  cases rr with
  | cons r' rr=>
   cases rr;cases r;cases r';obtain⟨fs,rf,pf,_⟩:=I1.list hxs;obtain⟨gs,rg,pg,_⟩:=I1.list hys;have la:a < s1.heap.objs.size:=by
    obtain⟨o,ho,_⟩:=(show s1.heap.IsList a fs.toArray from pf.isList)
    exact Heap.lt_size ho
   have lb:b < s1.heap.objs.size:=by
    obtain⟨o,ho,_⟩:=(show s1.heap.IsList b gs.toArray from pg.isList)
    exact Heap.lt_size ho
   refine afy (show s1.heap.IsList a fs.toArray from pf.isList) (show s1.heap.IsList b gs.toArray from pg.isList) λh' k1 k2 k3 k4 k5 kk=>wpAny_pyIter_zip k1 ?_;have D:ZA (s1.heap.objs.size+4) (s1.heap.objs.size+2) (s1.heap.objs.size+3) s1.heap.objs.size (s1.heap.objs.size+1) a b:=by
    have key:∀N a b:Nat,a < N->b < N->ZA (N+4) (N+2) (N+3) N (N+1) a b:=λN a b la lb=>by constructor <;> (show (_:Nat)≠_) <;> omega
    exact key _ _ _ la lb
   refine⟨s1.heap.objs.size+4,[s1.heap.objs.size+4,s1.heap.objs.size+2,s1.heap.objs.size+3,s1.heap.objs.size,s1.heap.objs.size+1],_,_,H1,rfl,I1.kept (t':=s1.toks) kk,VB D,⟨k1,k2,⟨_,_,k3⟩,k4,k5⟩,λc hc=>?_,q⟩;have hc':s1.heap.objs.size<=c:=by
    simp only[List.mem_cons,List.not_mem_nil,or_false]at hc;have key:∀N c:Nat,(c=N+4\/c=N+2\/c=N+3\/c=N\/c=N+1)->N<=c:=λN c h=>by omega
    exact key _ _ hc
   exact I1.Gu hc' (I1.hok.fresh hc')⟩
end
theorem adK {K:W.Frag}{a b:Addr}{xs ys:List V}{D:Addr}{f:St->St}{KT:W.Frag}{tt:TT}{te:TE}{σ:St}{H:Hp}{R:Hp->Prop}(hlen:xs.length=ys.length+1)(Pv:Nat->List V->Hp->Prop)(h0:Pv 0 [] (upd H D (.lst [])))
  (hl:∀i zs H,i<=ys.length->Pv i zs H->aN K H a xs/\aN K H b ys)
  (hs:∀i x y zs H T,xs[i]?=some x->ys[i]?=some y->Pv i zs H->H T=none->nJ ys.length i D (λv H Q=>∃a p q,v=.ref a/\aK KT H a [p,q]/\Q [some p,some q]) f σ tt te (.ref T) (upd H T (.tup [x,y])) zs (Pv (i+1)))
  (hd:∀zs H,Pv ys.length zs H->R H) :
  ∃W:Nat->Nat->List V->Hp->Prop,(∃m,W 0 m [] (upd H D (.lst [])))/\
   ∀i m zs H,W i m zs H->((Ld K a b).stop i H/\R H)\/((Ld K a b).go i H/\∀x H',(Ld K a b).nF i H x H'->∃a p q,x=.ref a/\aK KT H' a [p,q]/\(tt ([some p,some q]++f σ) H' λb H2=>
    if b=true then te ([some p,some q]++f σ) H2 λy H3=>H3 D=some (.lst zs)/\zs.length < sizeLine/\∃m',m' < m/\W (i+1) m' (zs++[y]) (upd H3 D (.lst (zs++[y])))
    else ∃m',m' < m/\W (i+1) m' zs H2)):=by
 refine⟨λi m zs H=>m=ys.length-i/\i<=ys.length/\Pv i zs H,⟨ys.length,by simp,Nat.zero_le _,h0⟩,?_⟩;rintro i m zs H ⟨rfl,hi,p⟩;obtain⟨q1,q2⟩:=hl i zs H hi p;by_cases hlt:i < ys.length
 ·refine .inr ⟨⟨xs,ys,xs[i],ys[i],q1,q2,by simp[show i < xs.length by omega],by simp[hlt]⟩,λt H' y=>?_⟩
  obtain⟨T,x,y,hT,rfl,hx,hy,rfl⟩:=y;exact hs i x y zs H T (hx xs q1) (hy ys q2) p hT
 ·have e:i=ys.length:=by omega
  subst e;exact .inl ⟨⟨xs,ys,q1,q2,by omega,Nat.le_refl _⟩,hd zs H p⟩
section
variable {prog:Program}{w:World}{A:Around}{E:Value->Shared->Prop}{s:Shared}
theorem abj {a b:Addr}{oa ob:Obj}{na nb:Nat}{x1 y1:Nat}{t1 t2 t3 t4:Tok}{Q:Value->Shared->Prop}
  (ha:s.heap.get? a=some oa) (ca:oa.cls=.type "tuple") (da:oa.data=.seq [Value.int x1 t1,Value.int y1 t2].toArray na)
  (hb:s.heap.get? b=some ob) (cb:ob.cls=.type "tuple") (db:ob.data=.seq [Value.int x1 t3,Value.int y1 t4].toArray nb) (hu:A.units < cLine)
  (q:Q (.bool false) s):wpAny (model prog w) A (compareOp .Lt (.ref a) (.ref b)) Q E s:=by
 have Ta:s.TypeIs (.ref a) "tuple":=⟨oa,ha,ca⟩
 have Tb:s.TypeIs (.ref b) "tuple":=⟨ob,hb,cb⟩
 show wpAny _ _ (richCompare .Lt (.ref a) (.ref b)) Q E s;refine wpAny_richCompare_same_room (op:=.Lt) (T:="tuple") Ta Tb F.slot_tuple_lt (wpAny_call_entry F.slot_tuple_lt Ta F.entry_tuple_lt ?_ (F.args_tuple_lt_2 _ _)) hu;show wpAny _ _ (isInstance (.ref b) (.type "tuple") >>= _) _ _ s;refine wpAny_bind (wpAny_isInstance Tb isSubtype_tuple_tuple ?_);simp only[Bool.not_true,Bool.false_eq_true,if_false];refine wpAny_bind (wpAny_tupleItemsOf ha da (wpAny_bind (wpAny_tupleItemsOf hb db (wpAny_bind ?_))));rw[show [Value.int (x1:Int) t1,Value.int (y1:Int) t2].toArray.toList.zip [Value.int (x1:Int) t3,Value.int (y1:Int) t4].toArray.toList=[(Value.int (x1:Int) t1,Value.int (x1:Int) t3),(Value.int (y1:Int) t2,Value.int (y1:Int) t4)] from rfl];rw[List.forIn_cons];refine wpAny_bind ?_;dsimp only;refine wpAny_bind (SeqAt.EqAt.int_int _ _ _ _ prog w _ _ ?_);simp only[beq_self_eq_true,Bool.not_true,Bool.false_eq_true,if_false];refine wpAny_pure ?_;dsimp only;rw[List.forIn_cons];refine wpAny_bind ?_;dsimp only;refine wpAny_bind (SeqAt.EqAt.int_int _ _ _ _ prog w _ _ ?_);simp only[beq_self_eq_true,Bool.not_true,Bool.false_eq_true,if_false];refine wpAny_pure ?_;dsimp only;rw[List.forIn_nil];refine wpAny_pure ?_;dsimp only;exact wpAny_pure ⟨_,rfl,by show Builtin.Tuple.tupleCompareSizes CmpOp.Lt 2 2≠_;decide,q⟩
end
section
variable {X:Cx}
noncomputable def afz:R2:=λx y H Q=>∃(a b:Addr) (x1 y1 x2 y2:Nat),x=.ref a/\y=.ref b/\H a=some (.tup [.int x1,.int y1])/\H b=some (.tup [.int x2,.int y2])/\y1 < 1000/\y2 < 1000/\
 Q (.bl (decide (x1*1000+y1 < x2*1000+y2))) H
theorem adL (hu:X.A.units < cLine):dZ X (compareOp .Lt) afz:=by
 intro y7 s σ H x y v u Q I rx ry h;obtain⟨a,b,x1,y1,x2,y2,rfl,rfl,ea,eb,l1,l2,q⟩:=h;by_cases hne:x1*1000+y1=x2*1000+y2
 ·have e1:x1=x2:=by omega
  have e2:y1=y2:=by omega
  subst e1 e2;rw[decide_eq_false (Nat.lt_irrefl _)]at q;cases rx;cases ry;obtain⟨_,tv,K7,o,ho,hc,n,hd⟩:=I.hok _ _ ea;obtain⟨_,tv',Yu,o',ho',hc',n',hd'⟩:=I.hok _ _ eb;cases K7 with
  | cons q1 rr=>
   cases rr with
   | cons q2 rr=>
    cases rr;cases Yu with
    | cons q3 rr'=>
     cases rr' with
     | cons q4 rr'=>
      cases rr';obtain⟨t1,rfl⟩:=q1;obtain⟨t2,rfl⟩:=q2;obtain⟨t3,rfl⟩:=q3;obtain⟨t4,rfl⟩:=q4;exact abj ho hc hd ho' hc' hd' hu ⟨.bl _,H,I,rfl,q⟩
 ·exact adC hu y7 s σ H _ _ _ _ Q I rx ry ⟨a,b,x1,y1,x2,y2,[],[],rfl,rfl,ea,eb,l1,l2,hne,q⟩
end
noncomputable def abk (K:W.Frag):List V->Hp->VK->Prop:=λxs H Q=>∃(a C tp:Addr) (Ds:List Addr) (dd:Option Addr) (b:Bool),xs=[.ref a,.ref tp]/\H a=some (.ext (mL a (.ref C) dd))/\gF H dd/\pC K C/\H tp=some (.tup (Ds.map V.ref))/\kitAny K (.ref C) (Ds.map Value.ref)=some b/\Q (.bl b) H
theorem Fg:∀{Ds:List Addr} {us:List Value},Vals (Ds.map V.ref) us->us=Ds.map Value.ref
 | [],_,.nil=>rfl
 | _::_,_,.cons r rr=>by cases r;rw[Fg rr];rfl
section
variable {X:Cx}
theorem JK (hc:True:=True.intro):fM X (.builtin "isinstance") (abk X.K):=by
 intro y7 s σ H xs us Q I r h;obtain⟨a,C,tp,Ds,dd,b,rfl,ha,hd,T,ht,k,q⟩:=h;obtain⟨u1,w',rfl,r1,r2⟩:=vals2 r;obtain rfl:u1=Value.ref a:=r1;obtain rfl:w'=Value.ref tp:=r2;obtain⟨⟨oe,vs,e1,e2,e3,e4,_⟩,_,_⟩:=(show cW X.prog X.w H s.heap a (.ext (mL a (.ref C) dd)) from I.hok a _ ha)
 have hI:∃ox odo,InstAt s.heap a ox C odo:=by
  cases dd with
  | none=>exact⟨oe,none,e1,e2,by unfold notCls;rw[e4],by rw[e3];trivial⟩
  | some d=>
   obtain⟨o1,hfs⟩:=hd;obtain⟨o,ho⟩:=(I.hok d _ hfs).there;exact⟨oe,some o,e1,e2,by unfold notCls;rw[e4],by rw[e3];exact ho⟩
 obtain⟨_,tv,K7,⟨oc,od,odt,osl⟩,ho,hc,n,hdt⟩:=I.hok _ _ ht;obtain rfl:=Fg K7;cases hc;cases hdt;exact kia_tup (K9 T) I.fL hI ho k (λz=>nomatch z) λtk=>⟨.bl b,H,I.tok tk,rfl,q⟩
open Classical in
noncomputable def aal (K:W.Frag)(neg:Bool):R2:=λx y H Q=>∃n d es,n<=60/\ju K H n d x/\ju K H n (.lst es) y/\Q (.bl (if neg then !decide (d∈es) else decide (d∈es))) H
theorem Qi (hu:X.A.units+64 < cLine):dZ X (compareOp .In) (aal X.K false):=by
 intro y7 s σ H x y v u Q I rx ry h;obtain⟨n,d,es,hn,hd,he,q⟩:=h;obtain⟨as,ra⟩:=hd.reads I rx;obtain⟨bs,rb⟩:=he.reads I ry;have l1:=hd.lay;have l2:=he.lay;rw[toP]at rb;simp only[toP,PyData.canLay0,PyData.depth]at l2;refine SeqAt.in_list_reads rb ra l2.1 l1.1 (by have:=Nat.min_le_right (PyData.depthAll (je es)) (toP d).depth;omega) ⟨.bl _,H,I,rfl,?_⟩;rw[GC];exact q
theorem RM (hu:X.A.units+64 < cLine):dZ X (compareOp .NotIn) (aal X.K true):=by
 intro y7 s σ H x y v u Q I rx ry h;obtain⟨n,d,es,hn,hd,he,q⟩:=h;obtain⟨as,ra⟩:=hd.reads I rx;obtain⟨bs,rb⟩:=he.reads I ry;have l1:=hd.lay;have l2:=he.lay;rw[toP]at rb;simp only[toP,PyData.canLay0,PyData.depth]at l2;refine SeqAt.notIn_list_reads rb ra l2.1 l1.1 (by have:=Nat.min_le_right (PyData.depthAll (je es)) (toP d).depth;omega) ⟨.bl _,H,I,rfl,?_⟩;rw[GC];exact q
end
end L2
end
section
namespace L2
open PySem PySem.Spec PyProof.Rows PySem.W
section
variable {X:Cx}
theorem Jd (hc:X.calm=true):fM X (.builtin "min") (λxs H Q=>∃(p:Addr) (ns:List Int),xs=[.ref p]/\aN X.K H p (ns.map V.int)/\0 < ns.length/\∀m∈ns,(∀x∈ns,m<=x)->Q (.int m) H):=by
 intro y7 s σ H xs us Q I r h;obtain⟨p,ns,rfl,hq,h0,q⟩:=h;obtain⟨u,rfl,ru⟩:=vals1 r;cases ru;obtain⟨its,rv,pl,hz⟩:=I.list hq;have hlen:=rv.length;rw[List.length_map]at hlen;have hne:p≠s.heap.objs.size:=by
  obtain⟨o,ho,_⟩:=pl.isList;exact Nat.ne_of_lt (Heap.lt_size ho)
 have hb:∀(i:Nat) (v:Value),its.toArray[i]?=some v->∃t,v=.int (ns.getD i 0) t:=λi v hv=>by
  have hv:its[i]?=some v:=by simpa using hv
  have hi:i < ns.length:=by have:=(List.getElem?_eq_some_iff.mp hv).1;omega
  obtain⟨u,hu,ru⟩:=rv.get (i:=i) (x:=.int ns[i]) (by simp[hi]);rw[hv]at hu;cases hu;obtain⟨t,e⟩:=ru;exact⟨t,by rw[e];simp[List.getD,hi]⟩
 refine call_min_walk (wpAny_pyIter_list pl.isList ?_);refine⟨s.heap.objs.size,_,_,_,_,_,_,rfl,Walks.list (A:=X.A.in1) (I.ok.hd hc) s.heap.objs.size p hne its.toArray,⟨⟨_,Heap.get?_push_size _ rfl,rfl,rfl⟩,pl.isList.at λo e=>Heap.get?_push_of_some _ e⟩,?_,by simp;omega,CmpOf.ints_lt (λi=>ns.getD i 0) hb,λv h' tk hP kk=>?_⟩
 ·intro b hb
  have:b=s.heap.objs.size\/b=p:=by simpa using hb
  rw[Heap.size_push];rcases this with e | e
  ·rw[e];exact Nat.lt_succ_self _
  ·rw[e]
   obtain⟨o,ho,_⟩:=pl.isList;exact Nat.lt_succ_of_lt (Heap.lt_size ho)
 ·have I1:Inv X y7 σ H { s with heap:=h',toks:=tk }:=I.kept λb o e=>kk b o (by
   intro hm;have:b=s.heap.objs.size:=by simpa using hm
   subst this;exact absurd (Heap.lt_size e) (Nat.lt_irrefl _)) (Heap.get?_push_of_some _ e)
  obtain⟨k1,k2⟩:=argBest_lt (λi=>ns.getD i 0) (its.toArray.size-1);have hsz:its.toArray.size=ns.length:=by simp[hlen]
  obtain⟨t,e⟩:=hb _ v hP;generalize argBest _ _=j at k1 k2 e;have hj:j < ns.length:=by omega
  refine⟨.int (ns.getD j 0),H,I1,⟨t,e⟩,q _ (by simp[List.getD,hj]) λx hx=>?_⟩;obtain⟨i,hi,rfl⟩:=List.mem_iff_getElem.mp hx;have:=k2 i (by omega);simpa [List.getD,hi] using this
theorem Je (hc:X.calm=true):fM X (.builtin "max") (λxs H Q=>∃(p:Addr) (ns:List Int),xs=[.ref p]/\aN X.K H p (ns.map V.int)/\0 < ns.length/\∀m∈ns,(∀x∈ns,m>=x)->Q (.int m) H):=by
 intro y7 s σ H xs us Q I r h;obtain⟨p,ns,rfl,hq,h0,q⟩:=h;obtain⟨u,rfl,ru⟩:=vals1 r;cases ru;obtain⟨its,rv,pl,hz⟩:=I.list hq;have hlen:=rv.length;rw[List.length_map]at hlen;have hne:p≠s.heap.objs.size:=by
  obtain⟨o,ho,_⟩:=pl.isList;exact Nat.ne_of_lt (Heap.lt_size ho)
 have hb:∀(i:Nat) (v:Value),its.toArray[i]?=some v->∃t,v=.int (ns.getD i 0) t:=λi v hv=>by
  have hv:its[i]?=some v:=by simpa using hv
  have hi:i < ns.length:=by have:=(List.getElem?_eq_some_iff.mp hv).1;omega
  obtain⟨u,hu,ru⟩:=rv.get (i:=i) (x:=.int ns[i]) (by simp[hi]);rw[hv]at hu;cases hu;obtain⟨t,e⟩:=ru;exact⟨t,by rw[e];simp[List.getD,hi]⟩
 refine call_max_walk (wpAny_pyIter_list pl.isList ?_);refine⟨s.heap.objs.size,_,_,_,_,_,_,rfl,Walks.list (A:=X.A.in1) (I.ok.hd hc) s.heap.objs.size p hne its.toArray,⟨⟨_,Heap.get?_push_size _ rfl,rfl,rfl⟩,pl.isList.at λo e=>Heap.get?_push_of_some _ e⟩,?_,by simp;omega,CmpOf.ints_gt (λi=>ns.getD i 0) hb,λv h' tk hP kk=>?_⟩
 ·intro b hb
  have:b=s.heap.objs.size\/b=p:=by simpa using hb
  rw[Heap.size_push];rcases this with e | e
  ·rw[e];exact Nat.lt_succ_self _
  ·rw[e]
   obtain⟨o,ho,_⟩:=pl.isList;exact Nat.lt_succ_of_lt (Heap.lt_size ho)
 ·have I1:Inv X y7 σ H { s with heap:=h',toks:=tk }:=I.kept λb o e=>kk b o (by
   intro hm;have:b=s.heap.objs.size:=by simpa using hm
   subst this;exact absurd (Heap.lt_size e) (Nat.lt_irrefl _)) (Heap.get?_push_of_some _ e)
  obtain⟨k1,k2⟩:=argBest_gt (λi=>ns.getD i 0) (its.toArray.size-1);have hsz:its.toArray.size=ns.length:=by simp[hlen]
  obtain⟨t,e⟩:=hb _ v hP;generalize argBest _ _=j at k1 k2 e;have hj:j < ns.length:=by omega
  refine⟨.int (ns.getD j 0),H,I1,⟨t,e⟩,q _ (by simp[List.getD,hj]) λx hx=>?_⟩;obtain⟨i,hi,rfl⟩:=List.mem_iff_getElem.mp hx;have:=k2 i (by omega);simpa [List.getD,hi] using this
end
theorem abl {X:Cx}{scope:Scope}{cl:List (Str × Addr)}{C:Addr}{N:List Str}{s₀:Shared}{H₀:Hp}{fp:List Addr}{x y z z4:Str}{px py pz p4 pos:Pos}{k:Nat}(K:W.Frag)(hc:X.calm=true)(hN:N.Nodup)(h0:N[0]?=some x)(h1:N[1]?=some y)(h2:N[2]?=some z)(h3:N[3]?=some z4)(hx:scope.names.lookup x=some .local)(hy:scope.names.lookup y=some .local)(hz:scope.names.lookup z=some .local)(h4:scope.names.lookup z4=some .local)(hK:X.K=K:=by rfl) :
  IK (cR X scope cl C N s₀ H₀ fp) (.Tuple [.Name x px,.Name y py,.Name z pz,.Name z4 p4] k pos) 4 (λv H Q=>∃a p q r u4,v=.ref a/\aK K H a [p,q,r,u4]/\Q [some p,some q,some r,some u4]):=by
 subst hK;intro y7 s pre rest H v u Q hp I r q;obtain⟨a,p,q',r',u4,rfl,hq,q⟩:=q;obtain⟨p0,p1,p2,p3,rfl⟩:∃p0 p1 p2 p3,pre=[p0,p1,p2,p3]:=by
  match pre,hp with
  | [p0,p1,p2,p3],_=>exact⟨p0,p1,p2,p3,rfl⟩
 have P:PG (cR X scope cl C N s₀ H₀ fp) (.Tuple [.Name x px,.Name y py,.Name z pz,.Name z4 p4] k pos) (Km X.K 4 (nD (jE 0) (nD (jE 1) (nD (jE 2) (nD (jE 3) Kl))))):=Em (X:=cR X scope cl C N s₀ H₀ fp) hc (jd (jq (i:=0) hN h0 (.inl (lookup_relabel_local hx)) (.inr (lookup_relabel_local hx))) (jd (jq (i:=1) hN h1 (.inl (lookup_relabel_local hy)) (.inr (lookup_relabel_local hy))) (jd (jq (i:=2) hN h2 (.inl (lookup_relabel_local hz)) (.inr (lookup_relabel_local hz))) (jd (jq (i:=3) hN h3 (.inl (lookup_relabel_local h4)) (.inr (lookup_relabel_local h4))) Ax))));refine bG (P y7 s _ H (.ref a) u (λσ' H'=>H'=H/\σ'=some p::some q'::some r'::some u4::rest) I r
  ⟨a,[p,q',r',u4],rfl,hq,rfl,p,[q',r',u4],rfl,q',[r',u4],rfl,r',[u4],rfl,u4,[],rfl,rfl,rfl,rfl⟩) λ_ s' ⟨σ',H',I',e1,e2⟩=>?_
 subst e1 e2;exact⟨[some p,some q',some r',some u4],rfl,I',q⟩
theorem RN {K:W.Frag}{a:Addr}{xs:List V}{D:Addr}{f:St->St}{KT:W.Frag}{tt:TT}{te:TE}{σ:St}{H:Hp}{R:Hp->Prop}(Pv:Nat->List V->Hp->Prop)(h0:Pv 0 [] (upd H D (.lst [])))(hl:∀i ys H,i<=xs.length->Pv i ys H->aK K H a xs)
  (hs:∀i x ys H,xs[i]?=some x->Pv i ys H->nJ xs.length i D (λv H Q=>∃a p q r u4,v=.ref a/\aK KT H a [p,q,r,u4]/\Q [some p,some q,some r,some u4]) f σ tt te x H ys (Pv (i+1)))
  (hd:∀ys H,Pv xs.length ys H->R H) :
  ∃W:Nat->Nat->List V->Hp->Prop,(∃m,W 0 m [] (upd H D (.lst [])))/\
   ∀i m ys H,W i m ys H->((pQ K a).stop i H/\R H)\/((pQ K a).go i H/\∀x H',(pQ K a).nF i H x H'->∃a p q r u4,x=.ref a/\aK KT H' a [p,q,r,u4]/\(tt ([some p,some q,some r,some u4]++f σ) H' λb H2=>
    if b=true then te ([some p,some q,some r,some u4]++f σ) H2 λy H3=>H3 D=some (.lst ys)/\ys.length < sizeLine/\∃m',m' < m/\W (i+1) m' (ys++[y]) (upd H3 D (.lst (ys++[y])))
    else ∃m',m' < m/\W (i+1) m' ys H2)):=by
 refine⟨λi m ys H=>m=xs.length-i/\i<=xs.length/\Pv i ys H,⟨xs.length,by simp,Nat.zero_le _,h0⟩,?_⟩;rintro i m ys H ⟨rfl,hi,p⟩;have q:=hl i ys H hi p;by_cases hlt:i < xs.length
 ·refine .inr ⟨⟨xs,xs[i],q,by simp[hlt]⟩,λx H' y=>?_⟩
  obtain⟨e,y⟩:=y;subst e;exact hs i x ys H' (y xs q) p
 ·have e:i=xs.length:=by omega
  subst e;exact .inl ⟨⟨xs,q,Nat.le_refl _⟩,hd ys H p⟩
theorem ae1 {KT:W.Frag}{n i:Nat}{D a:Addr}{p q r u4:V}{f:St->St}{σ:St}{te:TE}{x:V}{H:Hp}{ys:List V}{P:List V->Hp->Prop}(hx:x=.ref a)(hS:aK KT H a [p,q,r,u4])(h:te ([some p,some q,some r,some u4]++f σ) H λy H3=>H3 D=some (.lst ys)/\ys.length < sizeLine/\cX n i (P (ys++[y]) (upd H3 D (.lst (ys++[y]))))) :
  nJ n i D (λv H Q=>∃a p q r u4,v=.ref a/\aK KT H a [p,q,r,u4]/\Q [some p,some q,some r,some u4]) f σ fJ te x H ys P:=by
 refine⟨a,p,q,r,u4,hx,hS,?_⟩;show (if true=true then (te ([some p,some q,some r,some u4]++f σ) H λy H3=>H3 D=some (.lst ys)/\ys.length < sizeLine/\cX n i (P (ys++[y]) (upd H3 D (.lst (ys++[y]))))) else cX n i (P ys H));rw[if_pos rfl];exact h
theorem Qj {X:Cx}{o:Expr}{to:TE}{name:Str}{apos cpos:Pos}{T id:String}{r:V->List V->Hp->VK->Prop}(K:W.Frag)(pa:PlainAttrs T)(slot:Slot T name id)(hty:typeOf (.builtin id)=pure (.type "method_descriptor"))(hm:vC X id r)(ho:QE X o to)(hbase:attributeBase o name X.env (eval o X.env)=eval o X.env:=by rfl)(hline:(apos.endLine==cpos.line)=true:=by rfl)(h:X.K=K:=by rfl):QE X (.Call (.Attribute o name apos) [] [] cpos) (Rn K T r to):=by subst h;exact vD pa slot hty hm ho hbase hline
end L2
end
section
namespace L2
open PySem PySem.Spec PyProof.Rows PySem.W
section
variable {P:Program}{wd:World}{Ar:Around}{Ex:Value->Shared->Prop}
theorem aam {j g:Addr}{arr:Array Value}(ngj:g≠j):∀(k p:Nat) (st:Shared) (R:List Value->Shared->Prop),st.heap.IsListIter j g p->st.heap.IsList g arr->p+k<=arr.size->
  (∀hp,hp.IsListIter j g (p+k)->Heap.SameBut j st.heap hp->R ((arr.toList.drop p).take k) { st with heap:=hp })->wpAny (model P wd) Ar (draw (.ref j) k) R Ex st
 | 0,p,st,R,ij,_,_,q=>wpAny_pure (show R [] st from (by simpa using q st.heap ij (Heap.SameBut.refl ..)))
 | k+1,p,st,R,ij,lg,le,q=>by
  have plt:p < arr.size:=by omega
  show wpAny _ _ (pyNext (.ref j) >>= _) R Ex st;refine wpAny_bind (wpAny_pyNext_list_item ij lg (x:=arr[p]) (by simp[plt]) λh1 i1 b1=>wpAny_bind (wpAny_holding (aam ngj k (p+1) _ _ i1 (lg.extBut b1.extBut ngj) (by omega) λh2 i2 b2=>wpAny_pure ?_)));have z:=q h2 (by rw[show p+(k+1)=p+1+k by omega];exact i2) (b1.trans b2);rw[show arr.toList.drop p=arr[p]::arr.toList.drop (p+1) by simp[List.drop_eq_getElem_cons,plt],List.take_succ_cons]at z;exact z
theorem adM {st:Shared}{g:Addr}{arr:Array Value}{R:List Value->Shared->Prop}(nh:Ar.handled=none)(lg:st.heap.IsList g arr)
  (q:∀hp,Heap.ExtBut st.heap.objs.size st.heap hp->R arr.toList { st with heap:=hp }):wpAny (model P wd) Ar (unpackItems (.ref g) arr.size none) R Ex st:=by
 have ng:g≠st.heap.objs.size:=let ⟨_,e,_⟩:=lg;Nat.ne_of_lt (Heap.lt_size e);have full:(arr.toList.drop 0).take arr.size=arr.toList:=by rw[List.drop_zero];exact List.take_of_length_le (by simp)
 unfold unpackItems notIterableAtAll;refine wpAny_bind (wpAny_bind (wpAny_specialOf lg.typeIs slot_list_iter.lookup (wpAny_pure ?_)));simp only[Bool.false_eq_true,if_false];refine wpAny_bind (wpAny_holding (wpAny_pyIter_list lg (wpAny_bind (wpAny_holding (aam ng arr.size 0 _ _ ⟨_,Heap.get?_push_size _ rfl,rfl,rfl⟩ (lg.push _) (by omega) λh1 i1 b1=>?_)))));rw[full,if_neg (by simp)];refine wpAny_bind (wpAny_holding (wpAny_pyNext_list_end nh i1 ((lg.push _).extBut b1.extBut ng) (by simp) λh2 e2=>?_));simp only[Option.isSome_none,Bool.false_eq_true,if_false];exact wpAny_pure (q h2 λb o nb e=>e2 b o nb (b1.extBut b o nb (Heap.get?_push_of_some _ e)))
end
section
variable {X:Cx}{pos:Pos}
noncomputable def afA (K:W.Frag)(n:Nat)(t:yC):TG:=λv σ H Q=>∃a xs,v=.ref a/\aN K H a xs/\xs.length=n/\t xs σ H Q
theorem adN {es:List Expr}{k:Nat}{t:yC}{n:Nat}(hc:X.calm=true)(h:Vb X es t)(hn:(assignEach es X.env).length=n:=by rfl)(hst:(assignEach es X.env).findIdx? (·.1)=none:=by rfl):QG X (.Tuple es k pos) (afA X.K n t):=⟨by
 intro y7 s σ H v u Q I r hw;obtain⟨a,xs,rfl,hq,hl,hw⟩:=hw;cases r;obtain⟨its,rv,pl,_⟩:=I.list hq;have hlen:=rv.length;rw[arm_assign_Tuple];refine wpAny_bind (wpAny_standAt ?_);unfold unpack;rw[show (assignEach es X.env).length=its.toArray.size by simp[hn,<- hl,hlen],hst];refine wpAny_bind (wpAny_holding (adM (I.ok.hd hc) pl.isList λh' hx=>?_));have I1:Inv X y7 σ H { s with heap:=h' }:=I.kept (t':=s.toks) λb o e=>hx b o (Nat.ne_of_lt (Heap.lt_size e)) e;exact h.out y7 _ σ H xs _ Q I1 (by simpa using rv) hw⟩
end
end L2
end
section
namespace My
open PySem L2
noncomputable def top (i:Nat):Stmt:=PySem.Challenge.pw_letterrack_k22_cells_that_break_a_rule.main.body.getD i (.Pass ⟨0,0,0,0⟩)
abbrev gP:Stmt:=inClass (top 5) 0
theorem GF:aW ["self","word"] ["self","word"] (aF gP):=⟨rfl,rfl,rfl,by decide +kernel,rfl,by decide +kernel,by decide +kernel⟩
abbrev iD:Stmt:=inClass (top 8) 0
theorem JL:aW ["self","row","column"] ["self","row","column"] (aF iD):=⟨rfl,rfl,rfl,by decide +kernel,rfl,by decide +kernel,by decide +kernel⟩
abbrev jL:Stmt:=inClass (top 10) 0
theorem Om:aW ["self","row","column"] ["self","row","column"] (aF jL):=⟨rfl,rfl,rfl,by decide +kernel,rfl,by decide +kernel,by decide +kernel⟩
abbrev f9:Stmt:=inClass (top 12) 0
theorem Fi:aW ["self","tile"] ["self","tile"] (aF f9):=⟨rfl,rfl,rfl,by decide +kernel,rfl,by decide +kernel,by decide +kernel⟩
abbrev nO:Stmt:=top 19
theorem BP:aW ["thing"] ["thing"] (aF nO):=⟨rfl,rfl,rfl,by decide +kernel,rfl,by decide +kernel,by decide +kernel⟩
abbrev tY:Stmt:=top 20
theorem RP:aW ["thing"] ["thing"] (aF tY):=⟨rfl,rfl,rfl,by decide +kernel,rfl,by decide +kernel,by decide +kernel⟩
abbrev pD:Stmt:=top 21
theorem Le:aW ["sign"] ["sign"] (aF pD):=⟨rfl,rfl,rfl,by decide +kernel,rfl,by decide +kernel,by decide +kernel⟩
abbrev tZ:Stmt:=top 22
theorem RQ:aW ["sign"] ["sign"] (aF tZ):=⟨rfl,rfl,rfl,by decide +kernel,rfl,by decide +kernel,by decide +kernel⟩
abbrev t_:Stmt:=top 23
theorem qU:aW ["rack","signs","tiles","sign","tile"] ["rack","signs"] (aF t_):=⟨rfl,rfl,rfl,by decide +kernel,rfl,by decide +kernel,by decide +kernel⟩
abbrev qW:Stmt:=top 28
theorem pF:aW ["thing","width"] ["thing"] (aF qW):=⟨rfl,rfl,rfl,by decide +kernel,rfl,by decide +kernel,by decide +kernel⟩
abbrev qX:Stmt:=top 29
theorem BR:aW ["thing"] ["thing"] (aF qX):=⟨rfl,rfl,rfl,by decide +kernel,rfl,by decide +kernel,by decide +kernel⟩
abbrev pG:Stmt:=top 30
theorem zc:aW ["thing"] ["thing"] (aF pG):=⟨rfl,rfl,rfl,by decide +kernel,rfl,by decide +kernel,by decide +kernel⟩
abbrev j_:Stmt:=top 31
theorem yE:aW ["rows","row","column"] ["rows","row","column"] (aF j_):=⟨rfl,rfl,rfl,by decide +kernel,rfl,by decide +kernel,by decide +kernel⟩
abbrev mq:Stmt:=top 32
theorem GJ:aW ["rows","thing"] ["rows","thing"] (aF mq):=⟨rfl,rfl,rfl,by decide +kernel,rfl,by decide +kernel,by decide +kernel⟩
abbrev qY:Stmt:=top 33
theorem Oo:aW ["rows","marks","begin"] ["rows","marks","begin"] (aF qY):=⟨rfl,rfl,rfl,by decide +kernel,rfl,by decide +kernel,by decide +kernel⟩
abbrev mz:Stmt:=top 34
theorem vJ:aW ["rows","column"] ["rows","column"] (aF mz):=⟨rfl,rfl,rfl,by decide +kernel,rfl,by decide +kernel,by decide +kernel⟩
abbrev iG:Stmt:=inClass (top 35) 0
theorem JM:aW ["self","rows","marks","begin"] ["self","rows","marks","begin"] (aF iG):=⟨rfl,rfl,rfl,by decide +kernel,rfl,by decide +kernel,by decide +kernel⟩
abbrev jM:Stmt:=inClass (top 35) 1
theorem Oq:aW ["self","row","column"] ["self","row","column"] (aF jM):=⟨rfl,rfl,rfl,by decide +kernel,rfl,by decide +kernel,by decide +kernel⟩
abbrev fQ:Stmt:=inClass (top 35) 2
theorem sV:aW ["self"] ["self"] (aF fQ):=⟨rfl,rfl,rfl,by decide +kernel,rfl,by decide +kernel,by decide +kernel⟩
abbrev jf:Stmt:=inClass (top 35) 3
theorem jx:aW ["self","row","column","way","line","place","ahead","signs","first"] ["self","row","column","way"] (aF jf):=⟨rfl,rfl,rfl,by decide +kernel,rfl,by decide +kernel,by decide +kernel⟩
abbrev iH:Stmt:=inClass (top 35) 5
theorem iR:aW ["self","laying","lines","row","column","sign"] ["self","laying"] (aF iH):=⟨rfl,rfl,rfl,by decide +kernel,rfl,by decide +kernel,by decide +kernel⟩
abbrev pH:Stmt:=top 38
theorem Lf:aW ["board","thing"] ["board","thing"] (aF pH):=⟨rfl,rfl,rfl,by decide +kernel,rfl,by decide +kernel,by decide +kernel⟩
abbrev pI:Stmt:=top 39
theorem sW:aW ["board","thing","cells"] ["board","thing"] (aF pI):=⟨rfl,rfl,rfl,by decide +kernel,rfl,by decide +kernel,by decide +kernel⟩
abbrev qZ:Stmt:=top 40
theorem Ot:aW ["laying"] ["laying"] (aF qZ):=⟨rfl,rfl,rfl,by decide +kernel,rfl,by decide +kernel,by decide +kernel⟩
abbrev lV:Stmt:=top 41
theorem zf:aW ["laying"] ["laying"] (aF lV):=⟨rfl,rfl,rfl,by decide +kernel,rfl,by decide +kernel,by decide +kernel⟩
abbrev uc:Stmt:=top 42
theorem RT:aW ["laying"] ["laying"] (aF uc):=⟨rfl,rfl,rfl,by decide +kernel,rfl,by decide +kernel,by decide +kernel⟩
abbrev iW:Stmt:=top 43
theorem jZ:aW ["board","row","column","around"] ["board","row","column"] (aF iW):=⟨rfl,rfl,rfl,by decide +kernel,rfl,by decide +kernel,by decide +kernel⟩
abbrev wD:Stmt:=top 44
theorem iY:aW ["board","laying","after","way","asked","row","column","words","along","run"] ["board","laying"] (aF wD):=⟨rfl,rfl,rfl,by decide +kernel,rfl,by decide +kernel,by decide +kernel⟩
abbrev nP:Stmt:=top 45
theorem mC:aW ["board","laying","row","column","sign"] ["board","laying"] (aF nP):=⟨rfl,rfl,rfl,by decide +kernel,rfl,by decide +kernel,by decide +kernel⟩
abbrev jN:Stmt:=top 46
theorem Bv:aW ["laying"] ["laying"] (aF jN):=⟨rfl,rfl,rfl,by decide +kernel,rfl,by decide +kernel,by decide +kernel⟩
abbrev nQ:Stmt:=top 47
theorem mD:aW ["board","laying","after","row","column"] ["board","laying"] (aF nQ):=⟨rfl,rfl,rfl,by decide +kernel,rfl,by decide +kernel,by decide +kernel⟩
abbrev lD:Stmt:=top 48
theorem nR:aW ["board","laying","joined"] ["board","laying"] (aF lD):=⟨rfl,rfl,rfl,by decide +kernel,rfl,by decide +kernel,by decide +kernel⟩
abbrev mF:Stmt:=top 49
theorem gb:aW ["board","book","laying","words","row","column","way","signs","word"] ["board","book","laying"] (aF mF):=⟨rfl,rfl,rfl,by decide +kernel,rfl,by decide +kernel,by decide +kernel⟩
abbrev lE:Stmt:=top 50
theorem Fj:aW ["board","book","rack","laying"] ["board","book","rack","laying"] (aF lE):=⟨rfl,rfl,rfl,by decide +kernel,rfl,by decide +kernel,by decide +kernel⟩
abbrev ud:Stmt:=top 52
theorem Fl:aW ["text"] ["text"] (aF ud):=⟨rfl,rfl,rfl,by decide +kernel,rfl,by decide +kernel,by decide +kernel⟩
abbrev nU:Stmt:=top 53
theorem JN:aW ["text"] ["text"] (aF nU):=⟨rfl,rfl,rfl,by decide +kernel,rfl,by decide +kernel,by decide +kernel⟩
abbrev jg:Stmt:=inClass (top 54) 0
theorem zj:aW ["self","words","word"] ["self","words"] (aF jg):=⟨rfl,rfl,rfl,by decide +kernel,rfl,by decide +kernel,by decide +kernel⟩
abbrev jO:Stmt:=inClass (top 54) 2
theorem Ou:aW ["self","text"] ["self","text"] (aF jO):=⟨rfl,rfl,rfl,by decide +kernel,rfl,by decide +kernel,by decide +kernel⟩
abbrev uf:Stmt:=top 56
theorem RW:aW ["_law_script","_law_k"] ["_law_script","_law_k"] (aF uf):=⟨rfl,rfl,rfl,by decide +kernel,rfl,by decide +kernel,by decide +kernel⟩
abbrev Fo:Stmt:=top 57
theorem GK:aW ["_law_cell","_law_j","_law_number"] ["_law_cell","_law_j"] (aF Fo):=⟨rfl,rfl,rfl,by decide +kernel,rfl,by decide +kernel,by decide +kernel⟩
abbrev ug:Stmt:=top 58
theorem q_:aW ["_law_cell","_law_every","_law_step"] ["_law_cell"] (aF ug):=⟨rfl,rfl,rfl,by decide +kernel,rfl,by decide +kernel,by decide +kernel⟩
abbrev Fp:Stmt:=top 59
theorem Qk:aW ["_law_cell","_law_letters_here","_law_letter"] ["_law_cell","_law_letters_here"] (aF Fp):=⟨rfl,rfl,rfl,by decide +kernel,rfl,by decide +kernel,by decide +kernel⟩
abbrev Fq:Stmt:=top 60
theorem dz:aW ["_law_script","_law_letters_here","_law_cell","_law_tall","_law_wide","_law_lies","_law_full","_law_rest","_law_rows_here","_law_row","_law_text","_law_column","_law_number","_law_free","_law_line","_law_spot"] ["_law_script","_law_letters_here"] (aF Fq):=⟨rfl,rfl,rfl,by decide +kernel,rfl,by decide +kernel,by decide +kernel⟩
abbrev Bf:Stmt:=top 61
theorem mO:aW ["_law_rows_here","_law_cell","_law_found","_law_row","_law_text","_law_column","_law_number"] ["_law_rows_here","_law_cell"] (aF Bf):=⟨rfl,rfl,rfl,by decide +kernel,rfl,by decide +kernel,by decide +kernel⟩
abbrev Ft:Stmt:=top 62
theorem vK:aW ["_law_rows_here","_law_laying","_law_grid_here","_law_row","_law_column","_law_sign_here"] ["_law_rows_here","_law_laying"] (aF Ft):=⟨rfl,rfl,rfl,by decide +kernel,rfl,by decide +kernel,by decide +kernel⟩
abbrev Kc:Stmt:=top 63
theorem sX:aW ["_law_grid_here","_law_row","_law_column","_law_way","_law_signs","_law_here"] ["_law_grid_here","_law_row","_law_column","_law_way"] (aF Kc):=⟨rfl,rfl,rfl,by decide +kernel,rfl,by decide +kernel,by decide +kernel⟩
abbrev Bg:Stmt:=top 64
theorem mQ:aW ["_law_rows_here","_law_laying","_law_grid_here","_law_line","_law_runs","_law_row","_law_column","_law_sign_here"] ["_law_rows_here","_law_laying"] (aF Bg):=⟨rfl,rfl,rfl,by decide +kernel,rfl,by decide +kernel,by decide +kernel⟩
abbrev qg:Stmt:=top 65
theorem rm:aW ["_law_rows_here","_law_row","_law_column","_law_there"] ["_law_rows_here","_law_row","_law_column"] (aF qg):=⟨rfl,rfl,rfl,by decide +kernel,rfl,by decide +kernel,by decide +kernel⟩
abbrev wF:Stmt:=top 66
theorem qj:aW ["_law_rows_here","_law_cell","_law_free","_law_near","_law_row","_law_column"] ["_law_rows_here","_law_cell"] (aF wF):=⟨rfl,rfl,rfl,by decide +kernel,rfl,by decide +kernel,by decide +kernel⟩
abbrev rz:Stmt:=top 67
theorem cZ:aW ["_law_rows_here","_law_cell","_law_letters_here","_law_many","_law_way","_law_row","_law_column","_law_found","_law_blanks","_law_rest","_law_number","_law_sign_here"] ["_law_rows_here","_law_cell","_law_letters_here","_law_many"] (aF rz):=⟨rfl,rfl,rfl,by decide +kernel,rfl,by decide +kernel,by decide +kernel⟩
abbrev wG:Stmt:=top 68
theorem VD:aW ["_law_rows_here","_law_begin","_law_cells"] ["_law_rows_here","_law_begin","_law_cells"] (aF wG):=⟨rfl,rfl,rfl,by decide +kernel,rfl,by decide +kernel,by decide +kernel⟩
abbrev pJ:Stmt:=top 69
theorem jy:aW ["_law_rows_here","_law_begin","_law_laying","_law_cells","_law_row","_law_column"] ["_law_rows_here","_law_begin","_law_laying"] (aF pJ):=⟨rfl,rfl,rfl,by decide +kernel,rfl,by decide +kernel,by decide +kernel⟩
abbrev Bh:Stmt:=top 70
theorem wH:aW ["_law_error","_law_some"] ["_law_error"] (aF Bh):=⟨rfl,rfl,rfl,by decide +kernel,rfl,by decide +kernel,by decide +kernel⟩
abbrev wI:Stmt:=top 71
theorem ql:aW ["_law_board","_law_book","_law_rack","_law_laying","_law_caught_here","e"] ["_law_board","_law_book","_law_rack","_law_laying"] (aF wI):=⟨rfl,rfl,rfl,by decide +kernel,rfl,by decide +kernel,by decide +kernel⟩
abbrev Fv:Stmt:=top 72
theorem lF:aW ["_law_laying","_law_cell","_law_rows_here","_law_some","_law_at","_law_spot","_law_found","_law_row","_law_column","_law_sign_here"] ["_law_laying","_law_cell","_law_rows_here"] (aF Fv):=⟨rfl,rfl,rfl,by decide +kernel,rfl,by decide +kernel,by decide +kernel⟩
abbrev Bj:Stmt:=top 73
theorem CK:aW ["_law_laying","_law_signs"] ["_law_laying"] (aF Bj):=⟨rfl,rfl,rfl,by decide +kernel,rfl,by decide +kernel,by decide +kernel⟩
abbrev Bk:Stmt:=top 74
theorem YD:aW ["_law_caught_here","_law_due","_law_words_here"] ["_law_caught_here","_law_due","_law_words_here"] (aF Bk):=⟨rfl,rfl,rfl,by decide +kernel,rfl,by decide +kernel,by decide +kernel⟩
abbrev Kd:Stmt:=top 75
theorem iZ:aW ["_law_script","_law_letters_here","_law_rows_here","_law_spot","_law_begin","_law_board","_law_cell","_law_laying","_law_due","_law_words_here","_law_book","_law_turn"] ["_law_script"] (aF Kd):=⟨rfl,rfl,rfl,by decide +kernel,rfl,by decide +kernel,by decide +kernel⟩
section
variable {P:Program}{w:World}{K:W.Frag}{mg:Str->Option Value}{base:Heap}
noncomputable def BW (c:Nat):Bool:=decide (97<=c)&&decide (c<=122)
noncomputable def Fw (c:Nat):Bool:=decide (65<=c)&&decide (c<=90)
noncomputable def BX (l:List Nat):Bool:=match l with | [c]=>BW c||Fw c | _=>false
theorem lt1 (a b:Nat):([a] < [b])↔a < b:=by simp[List.cons_lt_cons_iff]
theorem RX (a b:Nat):(!decide ([a] < [b]))=decide (b<=a):=by
 by_cases h:a < b
 ·rw[decide_eq_true ((lt1 a b).mpr h),decide_eq_false (by omega)];rfl
 ·rw[decide_eq_false (λz=>h ((lt1 a b).mp z)),decide_eq_true (by omega)];rfl
noncomputable def aan (K:W.Frag)(H:Hp)(x:V):Prop:=∃t,jt K H x t/\W.kitOne K t (.type "str")=some false
noncomputable def Lg (K:W.Frag):Sp:=λvs H Q _=>(∃x,vs=[x]/\aan K H x/\Q (.bl false) H)\/(∃l,vs=[.str (S l)]/\l.length<=1000/\Q (.bl (BX l)) H)
theorem RZ (D:aJ K mg "is_sign" tY ["thing"])(hlen:mg "len"=none)(hstr:mg "str"=none)(afB:mg "isinstance"=none):Def P w K mg base "is_sign" 1 ["thing"] (Lg K):=by
 refine D.dh RP (λvs H Q E h=>?_) (λf cdv A outer s H vs Q E hr h=>?_)
 ·rcases h with⟨x,rfl,_⟩ | ⟨x,rfl,_⟩ <;> rfl
 ·refine⟨_,au (bO (QW.qt (pB (dN (cO (aH d7 (by rfl) afB PyProof.Rows.boot_isinstance (aj (qv 0) (aj (iw (v:=.ty "str") (by rfl) hstr PyProof.Rows.boot_str rfl) ak)))))
     (lR (bx lZ (aH bY (by rfl) hlen PySem.boot_len (aj (qv 0) ak)) aq (bh _))))) (aA (aX gw)) bB)
   (aA (aX (Ru (jK qb qb (bN [97] (by decide +kernel)) (qv 0) (bN [122] (by decide +kernel)))
    (iV (jK qb qb (bN [65] (by decide +kernel)) (qv 0) (bN [90] (by decide +kernel))))))),?_⟩
  rcases h with⟨x,rfl,⟨t,ty,hk⟩,q⟩ | ⟨l,rfl,hl,q⟩
  ·exact⟨_,rfl,_,_,_,false,rfl,ty,hk,_,rfl,bw (bw q)⟩
  ·have hz:l.length<=sizeLine:=Nat.le_of_lt (aD (by omega))
   refine⟨_,rfl,_,_,_,true,rfl,.str _,(by kernel_rfl),_,rfl,aV ⟨_,rfl,l,rfl,hz,rfl,_,rfl,?_⟩⟩;by_cases h1:l.length=1
   ·obtain⟨c,rfl⟩:=List.length_eq_one_iff.mp h1
    refine Ba rfl ?_;refine⟨_,rfl,[97],[c],rfl,rfl,decide (97<=c),by rw[RX],?_⟩;have q':Q (.bl (BW c||Fw c)) H:=q;have tail:(Fw c=(BW c||Fw c))->yL Yh Yh (tC (.str (S [65]))) (gU 0) (tC (.str (S [90]))) [some (.str (S [c]))] H Q:=λe=>by
     refine⟨_,rfl,[65],[c],rfl,rfl,decide (65<=c),by rw[RX],?_⟩;rw[<- e]at q';by_cases h2:65<=c
     ·rw[decide_eq_true h2]
      refine bw ⟨[c],[90],rfl,rfl,?_⟩;rw[RX];simpa [Fw,h2] using q'
     ·rw[decide_eq_false h2]
      refine aV ?_;simpa [Fw,h2] using q'
    by_cases h2:97<=c
    ·rw[decide_eq_true h2]
     refine bw ⟨[c],[122],rfl,rfl,_,rfl,?_⟩;rw[RX];by_cases h3:c<=122
     ·rw[decide_eq_true h3]
      refine bw ?_;simpa [BW,h2,h3] using q'
     ·rw[decide_eq_false h3]
      exact aV (tail (by simp[BW,h2,h3]))
    ·rw[decide_eq_false h2]
     exact aV ⟨_,rfl,aV (tail (by simp[BW,h2]))⟩
   ·have e:(!decide (V.int (l.length:Int)=V.int 1))=true:=by
     rw[decide_eq_false];rfl;intro z;injection z with z;omega
    rw[e];have e2:BX l=false:=by
     match l,h1 with
     | [],_=>rfl
     | [c],h=>exact absurd rfl h
     | _::_::_,_=>rfl
    rw[e2]at q;exact bw q
noncomputable def Lh (K:W.Frag):Sp:=λvs H Q _=>∃(a:Addr) (ns:List Int) (k:Nat),vs=[.ref a,.int k]/\aN K H a (ns.map V.int)/\∀v:Int,Q (.int v) H
noncomputable def isLet (c:Nat):Prop:=97<=c/\c<=122
structure R0 (ls:List Nat):Prop where
 lo:2<=ls.length
 hi:ls.length<=26
 az:∀c∈ls,isLet c
theorem R3 (D:aJ K mg "_law_cell_at" uf ["_law_script","_law_k"])(hlen:mg "len"=none):Def P w K mg base "_law_cell_at" 1 ["_law_script","_law_k"] (Lh K):=by
 refine D.dh RW (λvs H Q E h=>?_) (λf cdv A outer s H vs Q E hr h=>?_)
 ·obtain⟨a,ns,k,rfl,_⟩:=h
  rfl
 ·obtain⟨a,ns,k,rfl,hS,q⟩:=h
  refine⟨_,au (bO (bx jG (qv 1) (aH bI (by rfl) hlen PySem.boot_len (aj (qv 0) ak)) (bh _)) (aA (aX (aL dj (qv 0) (qv 1) (λ_ _=>rfl)))) bB) (aA (aX aq)),?_⟩;refine⟨_,rfl,_,rfl,a,_,rfl,.inl hS,_,_,rfl,rfl,_,rfl,?_⟩;refine jJ (λhc=>?_) (λ_=>?_)
  ·have hk:k < ns.length:=by
    have:=of_decide_eq_true hc;rw[List.length_map]at this;omega
   exact⟨_,rfl,_,rfl,a,_,_,.int ns[k],rfl,rfl,hS,aB (by simp[hk]),q _⟩
  ·exact q _
theorem pK (l:List Nat):(l.map λc=>[c]).flatten=l:=by
 induction l with
 | nil=>rfl
 | cons c r ih=>rw[List.map_cons,List.flatten_cons,ih];rfl
theorem aao:∀c∈AL,isLet c:=λc hc=>by
 obtain⟨k,hk,rfl⟩:=List.mem_map.mp hc;have:=List.mem_range.mp hk;exact⟨by omega,by omega⟩
noncomputable def lG (c:Nat):Prop:=BX [c]=true
theorem lG.lt {c:Nat}(h:lG c):c < 128:=by
 unfold lG BX BW Fw at h;simp at h;omega
theorem VG {c:Nat}(h:isLet c):lG c:=by simp[lG,BX,BW,h.1,h.2]
theorem adO {c:Nat}(h:isLet c):lG (c-32):=by
 have h1:=h.1;have h2:=h.2;simp[lG,BX,BW,Fw];omega
abbrev ones (cs:List Nat):List (List Nat):=cs.map λc=>[c]
structure Blk (r w:Nat)(ls:List (List Nat)):Prop where
 len:ls.length=r
 gJ:∀l∈ls,l.length=w
noncomputable def MK:List Nat:=[46,50,51,52,98,99,100]
noncomputable def uh (c:Nat):Prop:=c=46\/lG c
noncomputable def Ql (c:Nat):Prop:=c∈MK
structure Qm (r w:Nat)(j3 y8:List (List Nat))(i j:Nat):Prop where
 r1:1<=r
 r9:r<=9
 w1:1<=w
 w9:w<=9
 br:Blk r w j3
 bm:Blk r w y8
 cr:∀l∈j3,∀c∈l,uh c
 cm:∀l∈y8,∀c∈l,Ql c
 bi:i < r
 bj:j < w
theorem oW (ls:List (List Nat))(l:List Nat):Ts ls++[V.str (S l)]=Ts (ls++[l]):=by simp[Ts]
theorem Jf (cs:List Nat)(c:Nat):ones cs++[[c]]=ones (cs++[c]):=by simp[ones]
noncomputable def cell (R:List (List Nat))(i j:Nat):Nat:=(R.getD i []).getD j 0
theorem cell_eq {R:List (List Nat)}{i j:Nat}(hi:i < R.length)(hj:j < R[i].length):cell R i j=R[i][j]:=by
 unfold cell;rw[List.getD_eq_getElem?_getD (l:=R),List.getElem?_eq_getElem hi];show (R[i]).getD j 0=_;rw[List.getD_eq_getElem?_getD,List.getElem?_eq_getElem hj];rfl
end
end My
end
section
namespace My
open PySem L2
section
variable {P:Program}{w:World}{K:W.Frag}{mg:Str->Option Value}{base:Heap}
noncomputable def Qn:Sp:=λvs H Q _=>∃i:Int,vs=[.int i]/\Q (.bl true) H
theorem d_ {ls:List (List Nat)}{i:Nat}{l:List Nat}(h:ls[i]?=some l):(Ts ls)[i]?=some (.str (S l)):=by simp[Ts,h]
theorem sY {ls:List (List Nat)}{i:Nat}{x:V}(h:(Ts ls)[i]?=some x):∃l,ls[i]?=some l/\x=.str (S l):=by
 rw[List.getElem?_map]at h;obtain⟨l,h1,h2⟩:=Option.map_eq_some_iff.mp h;exact⟨l,h1,h2.symm⟩
theorem Bl (n:Nat):((List.replicate n true).all id)=true:=by simp
theorem wJ (n:Nat):(List.replicate n true).map V.bl++[V.bl true]=(List.replicate (n+1) true).map V.bl:=by rw[List.replicate_succ',List.map_append];rfl
noncomputable def GP:Sp:=λvs H Q _=>∃(p:Addr) (ls:List (List Nat)) (r w:Nat),vs=[.ref p]/\H p=some (.tup (Ts ls))/\Blk r w ls/\1<=r/\r<=9/\1<=w/\w<=9/\∀H',Same H H'->Q (.bl true) H'
theorem Ow (D:aJ K mg "is_block" qW ["thing"])(aU:mg "len"=none)(bU:mg "tuple"=none)(Bm:mg "str"=none)(dU:mg "all"=none)(aQ:mg "isinstance"=none)(vL:∃t,mg "MOST"=some (.int 9 t)):Def P w K mg base "is_block" 1 ["thing"] GP:=by
 refine D.dh pF (λvs H Q E h=>?_) (λf cdv A outer s H vs Q E hr h=>?_)
 ·obtain⟨p,ls,r,w,rfl,_⟩:=h
  rfl
 ·obtain⟨p,ls,r,w,rfl,hp,hb,r1,r9,w1,w9,q⟩:=h
  have gR:(Ts ls).length=r:=by rw[List.length_map,hb.len]
  have h0:0 < ls.length:=by rw[hb.len];omega
  refine⟨_,(au (bO (QW.qt (pB (dN (cO (aH d7 (by rfl) aQ PyProof.Rows.boot_isinstance (aj (qv 0) (aj (iw (v:=.ty "tuple") (by rfl) bU PyProof.Rows.boot_tuple rfl) ak))))) (lR (dN (mJ jl jl aq (aH bI (by rfl) aU PySem.boot_len (aj (qv 0) ak)) (Rw (by rfl) vL)))))) (aA (aX gw)) bB) (au (bO (dN (cO (aH (iC rfl) (by rfl) dU h_ (aj (iQ rfl (gQ.of pF.nd (by kernel_rfl)) (dF (qv 0)) (λ_ _ _ _ _=>cu) (λ_ _ _ _ _=>(aH (KQ K) (by rfl) aQ PyProof.Rows.boot_isinstance (aj (qv 0) (aj (iw (v:=.ty "str") (by rfl) Bm PyProof.Rows.boot_str rfl) ak))))) ak)))) (aA (aX gw)) bB) (au (aM (i:=1) pF.nd rfl (Or.inr rfl) (aH bY (by rfl) aU PySem.boot_len (aj (aL aO (qv 0) aq (λ_ _=>rfl)) ak))) (aA (aX (jT (jK jl jl aq (qv 1) (Rw (by rfl) vL)) (iV (aH (iC rfl) (by rfl) dU h_ (aj (iQ rfl (gQ.of pF.nd (by kernel_rfl)) (dF (qv 0)) (λ_ _ _ _ _=>cu) (λ_ _ _ _ _=>(eY gq (aH bY (by rfl) aU PySem.boot_len (aj (qv 0) ak)) (qv 2) (bh _)))) ak))))))))),?_⟩;refine⟨_,rfl,_,_,_,true,rfl,.tup hp,(by kernel_rfl),_,rfl,aV ?_⟩;refine⟨_,rfl,p,_,rfl,.inr (aK.of hp),_,_,rfl,rfl,true,by rw[gR];simp;omega,bw ⟨_,_,rfl,rfl,true,by rw[gR];simp;omega,aV ?_⟩⟩;refine⟨_,rfl,p,rfl,⟨_,aK.of hp⟩,λL hL=>sJ (xs:=Ts ls) (λi ys H2=>ys=(List.replicate i true).map V.bl/\H2 L=some (.lst ys)/\Same H H2) ⟨rfl,ao,Same.upd hL⟩ (λi ys H2 _ h=>aK.of (h.2.2 _ _ hp)) ?_ ?_⟩
  ·rintro i x ys H2 hi ⟨rfl,hL2,sm⟩
   obtain⟨l,hl,rfl⟩:=sY hi;have hil:i < (Ts ls).length:=(List.getElem?_eq_some_iff.mp hi).1;refine⟨_,rfl,_,_,_,true,rfl,.str _,(by kernel_rfl),hL2,by rw[List.length_map,List.length_replicate];exact aD (by omega),cX.mk hil ⟨wJ i,ao,sm.bJ hL⟩⟩
  ·rintro ys H2 ⟨rfl,hL2,sm⟩
   refine⟨L,_,rfl,aN.of hL2,?_⟩;rw[Bl];refine⟨_,rfl,aV ?_⟩;have hw0:ls[0].length=w:=hb.gJ _ (List.getElem_mem _);have hz:ls[0].length<=sizeLine:=Nat.le_of_lt (aD (by omega));refine⟨_,rfl,p,_,_,.str (S ls[0]),rfl,rfl,aK.of (sm _ _ hp),aB (j:=0) (d_ (by simp[h0])),_,rfl,hz,?_⟩;refine⟨_,rfl,_,_,rfl,rfl,true,by rw[hw0];simp;omega,bw ⟨_,_,rfl,rfl,true,by rw[hw0];simp;omega,bw ?_⟩⟩;refine⟨_,rfl,p,rfl,⟨_,aK.of (sm _ _ hp)⟩,λL2 Lj=>sJ (xs:=Ts ls) (λi ys H3=>ys=(List.replicate i true).map V.bl/\H3 L2=some (.lst ys)/\Same H H3) ⟨rfl,ao,sm.bJ (sm.free Lj)⟩ (λi ys H2 _ h=>aK.of (h.2.2 _ _ hp)) ?_ ?_⟩
   ·rintro i x ys H3 hi ⟨rfl,qm,sm3⟩
    obtain⟨l,hl,rfl⟩:=sY hi;have hil:i < (Ts ls).length:=(List.getElem?_eq_some_iff.mp hi).1;have tu:l.length=w:=hb.gJ _ (List.mem_of_getElem? hl);refine⟨_,rfl,_,rfl,Nat.le_of_lt (aD (by omega)),_,rfl,rfl,qm,by rw[List.length_map,List.length_replicate];exact aD (by omega),cX.mk hil ⟨?_,ao,sm3.bJ (sm.free Lj)⟩⟩;rw[tu,hw0,decide_eq_true rfl];exact wJ i
   ·rintro ys H3 ⟨rfl,qm,sm3⟩
    refine⟨L2,_,rfl,aN.of qm,?_⟩;rw[Bl];exact q H3 sm3
theorem CN {r w:Nat}{ls:List (List Nat)}(h:Blk r w ls):ls.flatten.length=r*w:=by
 rw[List.length_flatten];have:ls.map List.length=List.replicate r w:=by
  rw[<- h.len,List.eq_replicate_iff];exact⟨by simp,λb hb=>by obtain⟨l,hl,rfl⟩:=List.mem_map.mp hb;exact h.gJ l hl⟩
 rw[this,List.sum_replicate_nat]
noncomputable def VH:Sp:=λvs H Q _=>∃(p:Addr) (ls:List (List Nat)) (r w:Nat),vs=[.ref p]/\H p=some (.tup (Ts ls))/\Blk r w ls/\1<=r/\r<=9/\1<=w/\w<=9/\(∀l∈ls,∀c∈l,uh c)/\∀H',Same H H'->Q (.bl true) H'
theorem Ox (D:aJ K mg "are_rows" qX ["thing"])(dU:mg "all"=none)(dW:∃t,mg "FREE"=some (.str (S [46]) t))(wK:Def P w K mg base "is_block" 1 ["thing"] GP)(zm:Def P w K mg base "is_sign" 1 ["thing"] (Lg K)):Def P w K mg base "are_rows" 2 ["thing"] VH:=by
 refine D.dh BR (λvs H Q E h=>?_) (λf cdv A outer s H vs Q E hr h=>?_)
 ·obtain⟨p,ls,r,w,rfl,_⟩:=h
  rfl
 ·obtain⟨p,ls,r,w,rfl,hp,hb,r1,r9,w1,w9,hc,q⟩:=h
  have hrw:r*w<=81:=Nat.mul_le_mul r9 w9;have hfl:=CN hb;refine⟨_,(aA (aX (jT (bF wK (hr.mono (by decide)) rfl (aj (qv 0) ak)) (iV (aH (iC rfl) (by rfl) dU h_ (aj (iQ rfl (gQ.of BR.nd (by kernel_rfl)) (yR (gA PySem.F.plainAttrs_str PySem.F.slot_str_join PySem.F.type_str_join Cw (bN [] (by decide +kernel)) (aj (qv 0) ak))) (λ_ _ _ _ _=>cu) (λ_ _ _ _ _=>(Ru (eY sI (qv 0) (qO (by rfl) dW) (bh _)) (iV (bF zm (hr.mono (by decide)) rfl (aj (qv 0) ak)))))) ak)))))),?_⟩;refine⟨_,rfl,p,ls,r,w,rfl,hp,hb,r1,r9,w1,w9,λH1 s1=>⟨true,rfl,bw ?_⟩⟩;refine⟨rfl,_,rfl,p,ls,rfl,rfl,aK.of (s1 _ _ hp),by omega,_,rfl,λL hL=>?_⟩;refine wu (λi ys H2=>ys=(List.replicate i true).map V.bl/\H2 L=some (.lst ys)/\Same H H2) ⟨rfl,ao,s1.bJ (s1.free hL)⟩ ?_ ?_
  ·rintro i c ys H2 hi ⟨rfl,hL2,sm⟩
   have hil:i < ls.flatten.length:=(List.getElem?_eq_some_iff.mp hi).1;obtain⟨l,hl,hcl⟩:=List.mem_flatten.mp (List.mem_of_getElem? hi);have fin:H2 L=some (.lst ((List.replicate i true).map V.bl))/\((List.replicate i true).map V.bl).length < sizeLine/\cX ls.flatten.length i ((List.replicate i true).map V.bl++[V.bl true]=(List.replicate (i+1) true).map V.bl/\upd H2 L (.lst ((List.replicate i true).map V.bl++[V.bl true])) L=some (.lst ((List.replicate i true).map V.bl++[V.bl true]))/\Same H (upd H2 L (.lst ((List.replicate i true).map V.bl++[V.bl true])))):=
    ⟨hL2,by rw[List.length_map,List.length_replicate];exact aD (by omega),cX.mk hil ⟨wJ i,ao,sm.bJ (s1.free hL)⟩⟩
   refine⟨_,rfl,[c],[46],rfl,rfl,_,rfl,?_⟩;rcases hc l hl c hcl with e | e
   ·subst e
    rw[decide_eq_true rfl];exact bw fin
   ·by_cases h46:[c]=[46]
    ·rw[decide_eq_true h46];exact bw fin
    ·rw[decide_eq_false h46]
     refine aV ⟨_,rfl,.inr ⟨[c],rfl,by show 1<=1000;decide,?_⟩⟩;rw[show BX [c]=true from e];exact fin
  ·rintro ys H2 ⟨rfl,hL2,sm⟩
   refine⟨L,_,rfl,aN.of hL2,?_⟩;rw[Bl];exact q H2 sm
noncomputable def Qo:Sp:=λvs H Q _=>∃(p:Addr) (ls:List (List Nat)) (r w:Nat),vs=[.ref p]/\H p=some (.tup (Ts ls))/\Blk r w ls/\1<=r/\r<=9/\1<=w/\w<=9/\(∀l∈ls,∀c∈l,Ql c)/\∀H',Same H H'->Q (.bl true) H'
theorem Lk (D:aJ K mg "are_marks" pG ["thing"])(dU:mg "all"=none)(vM:∃t,mg "MARKS"=some (.str (S MK) t))(wK:Def P w K mg base "is_block" 1 ["thing"] GP):Def P w K mg base "are_marks" 2 ["thing"] Qo:=by
 refine D.dh zc (λvs H Q E h=>?_) (λf cdv A outer s H vs Q E hr h=>?_)
 ·obtain⟨p,ls,r,w,rfl,_⟩:=h
  rfl
 ·obtain⟨p,ls,r,w,rfl,hp,hb,r1,r9,w1,w9,hc,q⟩:=h
  have hrw:r*w<=81:=Nat.mul_le_mul r9 w9;have hfl:=CN hb;refine⟨_,(aA (aX (jT (bF wK (hr.mono (by decide)) rfl (aj (qv 0) ak)) (iV (aH (iC rfl) (by rfl) dU h_ (aj (iQ rfl (gQ.of zc.nd (by kernel_rfl)) (yR (gA PySem.F.plainAttrs_str PySem.F.slot_str_join PySem.F.type_str_join Cw (bN [] (by decide +kernel)) (aj (qv 0) ak))) (λ_ _ _ _ _=>cu) (λ_ _ _ _ _=>(eY adf (qv 0) (qO (by rfl) vM) rfl))) ak)))))),?_⟩;refine⟨_,rfl,p,ls,r,w,rfl,hp,hb,r1,r9,w1,w9,λH1 s1=>⟨true,rfl,bw ?_⟩⟩;refine⟨rfl,_,rfl,p,ls,rfl,rfl,aK.of (s1 _ _ hp),by omega,_,rfl,λL hL=>?_⟩;refine wu (λi ys H2=>ys=(List.replicate i true).map V.bl/\H2 L=some (.lst ys)/\Same H H2) ⟨rfl,ao,s1.bJ (s1.free hL)⟩ ?_ ?_
  ·rintro i c ys H2 hi ⟨rfl,hL2,sm⟩
   have hil:i < ls.flatten.length:=(List.getElem?_eq_some_iff.mp hi).1;obtain⟨l,hl,hcl⟩:=List.mem_flatten.mp (List.mem_of_getElem? hi);refine⟨_,rfl,c,MK,rfl,rfl,hL2,by rw[List.length_map,List.length_replicate];exact aD (by omega),cX.mk hil ⟨?_,ao,sm.bJ (s1.free hL)⟩⟩;rw[decide_eq_true (show c∈MK from hc l hl c hcl)];exact wJ i
  ·rintro ys H2 ⟨rfl,hL2,sm⟩
   refine⟨L,_,rfl,aN.of hL2,?_⟩;rw[Bl];exact q H2 sm
noncomputable def CP (K:W.Frag):Sp:=λvs H Q _=>∃(p:Addr) (ls:List (List Nat)) (r w:Nat) (i j:Int),vs=[.ref p,.int i,.int j]/\aK K H p (Ts ls)/\Blk r w ls/\1<=r/\r<=9/\w<=9/\Q (.bl (decide (0<=i/\i < r/\0<=j/\j < w))) H
theorem JQ (D:aJ K mg "is_cell_of" j_ ["rows","row","column"])(aU:mg "len"=none)(nW:Def P w K mg base "is_whole" 1 ["thing"] Qn):Def P w K mg base "is_cell_of" 2 ["rows","row","column"] (CP K):=by
 refine D.dh yE (λvs H Q E h=>?_) (λf cdv A outer s H vs Q E hr h=>?_)
 ·obtain⟨p,ls,r,w,i,j,rfl,_⟩:=h
  rfl
 ·obtain⟨p,ls,r,w,i,j,rfl,hp,hb,r1,r9,w9,q⟩:=h
  have gR:(Ts ls).length=r:=by rw[List.length_map,hb.len]
  have h0:0 < ls.length:=by rw[hb.len];omega
  have hw0:ls[0].length=w:=hb.gJ _ (List.getElem_mem _);refine⟨_,(au (bO (QW.qt (pB (dN (cO (bF nW (hr.mono (by decide)) rfl (aj (qv 1) ak)))) (lR (dN (cO (bF nW (hr.mono (by decide)) rfl (aj (qv 2) ak))))))) (aA (aX gw)) bB) (aA (aX (jT (jK jl jG aq (qv 1) (aH bI (by rfl) aU PySem.boot_len (aj (qv 0) ak))) (iV (jK jl jG aq (qv 2) (aH bY (by rfl) aU PySem.boot_len (aj (aL aO (qv 0) aq (λ_ _=>rfl)) ak)))))))),?_⟩;refine⟨_,rfl,i,rfl,_,rfl,aV ⟨_,rfl,j,rfl,_,rfl,aV ?_⟩⟩;refine⟨_,rfl,_,_,rfl,rfl,_,rfl,?_⟩;by_cases h1:0<=i
  ·rw[decide_eq_true h1]
   refine bw ⟨_,rfl,p,_,rfl,.inr hp,_,_,rfl,rfl,_,rfl,?_⟩;rw[gR];by_cases h2:i < (r:Int)
   ·rw[decide_eq_true h2]
    refine bw ⟨_,rfl,_,_,rfl,rfl,_,rfl,?_⟩;by_cases h3:0<=j
    ·rw[decide_eq_true h3]
     refine bw ⟨_,rfl,p,_,_,.str (S ls[0]),rfl,rfl,hp,aB (j:=0) (d_ (by simp[h0])),_,rfl,Nat.le_of_lt (aD (by omega)),_,_,rfl,rfl,?_⟩;rw[hw0];simpa [h1,h2,h3] using q
    ·rw[decide_eq_false h3]
     refine aV ?_;simpa [h1,h2,h3] using q
   ·rw[decide_eq_false h2]
    refine aV ?_;simpa [h1,h2] using q
  ·rw[decide_eq_false h1]
   refine aV ⟨_,rfl,aV ?_⟩;simpa [h1] using q
noncomputable def Qp (K:W.Frag):Sp:=λvs H Q _=>∃(p b:Addr) (ls:List (List Nat)) (r w:Nat) (i j:Nat),vs=[.ref p,.ref b]/\H p=some (.tup (Ts ls))/\H b=some (.tup [.int i,.int j])/\Blk r w ls/\1<=r/\r<=9/\w<=9/\i < r/\j < w/\Q (.bl true) H
theorem GQ (D:aJ K mg "is_begin_of" mq ["rows","thing"])(aU:mg "len"=none)(bU:mg "tuple"=none)(aQ:mg "isinstance"=none)(kh:Def P w K mg base "is_cell_of" 2 ["rows","row","column"] (CP K)):Def P w K mg base "is_begin_of" 3 ["rows","thing"] (Qp K):=by
 refine D.dh GJ (λvs H Q E h=>?_) (λf cdv A outer s H vs Q E hr h=>?_)
 ·obtain⟨p,b,ls,r,w,i,j,rfl,_⟩:=h
  rfl
 ·obtain⟨p,b,ls,r,w,i,j,rfl,hp,hb,hB,r1,r9,w9,hi,hj,q⟩:=h
  refine⟨_,(aA (aX (jT (aH d7 (by rfl) aQ PyProof.Rows.boot_isinstance (aj (qv 1) (aj (iw (v:=.ty "tuple") (by rfl) bU PyProof.Rows.boot_tuple rfl) ak))) (jT (eY gq (aH bI (by rfl) aU PySem.boot_len (aj (qv 1) ak)) aq (bh _)) (iV (bF kh (hr.mono (by decide)) rfl (aj (qv 0) (aj (aL aO (qv 1) aq (λ_ _=>rfl)) (aj (aL aO (qv 1) aq (λ_ _=>rfl)) ak))))))))),?_⟩;refine⟨_,rfl,_,_,_,true,rfl,.tup hb,(by kernel_rfl),true,rfl,bw ?_⟩;refine⟨_,rfl,b,_,rfl,.inr (aK.of hb),rfl,true,rfl,bw ?_⟩;refine⟨_,rfl,_,rfl,b,_,_,.int i,rfl,rfl,aK.of hb,aB (j:=0) rfl,_,rfl,b,_,_,.int j,rfl,rfl,aK.of hb,aB (j:=1) rfl,?_⟩;refine⟨p,ls,r,w,i,j,rfl,aK.of hp,hB,r1,r9,w9,?_⟩;rw[decide_eq_true ⟨by omega,by omega,by omega,by omega⟩];exact q
noncomputable def Qq:Sp:=λvs H Q _=>∃(pr pm pb:Addr) (r w:Nat) (j3 y8:List (List Nat)) (i j:Nat),vs=[.ref pr,.ref pm,.ref pb]/\H pr=some (.tup (Ts j3))/\H pm=some (.tup (Ts y8))/\H pb=some (.tup [.int i,.int j])/\Qm r w j3 y8 i j/\∀H',Same H H'->Q (.bl true) H'
theorem Oz (D:aJ K mg "is_board" qY ["rows","marks","begin"])(aU:mg "len"=none)(R4:Def P w K mg base "are_rows" 2 ["thing"] VH)(OD:Def P w K mg base "are_marks" 2 ["thing"] Qo)(JR:Def P w K mg base "is_begin_of" 3 ["rows","thing"] (Qp K)) :
  Def P w K mg base "is_board" 4 ["rows","marks","begin"] Qq:=by
 refine D.dh Oo (λvs H Q E h=>?_) (λf cdv A outer s H vs Q E hr h=>?_)
 ·obtain⟨pr,pm,pb,r,w,j3,y8,i,j,rfl,_⟩:=h
  rfl
 ·obtain⟨pr,pm,pb,r,w,j3,y8,i,j,rfl,hr',hm,hb,B,q⟩:=h
  have l1:(Ts j3).length=r:=by rw[List.length_map,B.br.len]
  have l2:(Ts y8).length=r:=by rw[List.length_map,B.bm.len]
  have h0:0 < j3.length:=by rw[B.br.len];exact B.r1
  have h0':0 < y8.length:=by rw[B.bm.len];exact B.r1
  have w0:j3[0].length=w:=B.br.gJ _ (List.getElem_mem _);have w0':y8[0].length=w:=B.bm.gJ _ (List.getElem_mem _);have w9:=B.w9;refine⟨_,(au (bO (QW.qt (pB (dN (cO (bF R4 (hr.mono (by decide)) rfl (aj (qv 0) ak)))) (lR (dN (cO (bF OD (hr.mono (by decide)) rfl (aj (qv 1) ak))))))) (aA (aX gw)) bB) (au (bO (QW.qt (pB (bx lZ (aH bI (by rfl) aU PySem.boot_len (aj (qv 1) ak)) (aH bI (by rfl) aU PySem.boot_len (aj (qv 0) ak)) (bh _)) (lR (bx lZ (aH bY (by rfl) aU PySem.boot_len (aj (aL aO (qv 1) aq (λ_ _=>rfl)) ak)) (aH bY (by rfl) aU PySem.boot_len (aj (aL aO (qv 0) aq (λ_ _=>rfl)) ak)) (bh _))))) (aA (aX gw)) bB) (aA (aX (bF JR (hr.mono (by decide)) rfl (aj (qv 0) (aj (qv 2) ak))))))),?_⟩;refine⟨_,rfl,pr,j3,r,w,rfl,hr',B.br,B.r1,B.r9,B.w1,B.w9,B.cr,λH1 s1=>⟨_,rfl,aV ?_⟩⟩;refine⟨_,rfl,pm,y8,r,w,rfl,s1 _ _ hm,B.bm,B.r1,B.r9,B.w1,B.w9,B.cm,λH2 s2=>⟨_,rfl,aV ?_⟩⟩;have s12:=s1.trans s2;refine⟨_,rfl,pm,_,rfl,.inr (aK.of (s12 _ _ hm)),_,rfl,pr,_,rfl,.inr (aK.of (s12 _ _ hr')),rfl,_,rfl,?_⟩;refine Ba (by rw[l1,l2]) ?_;refine⟨_,rfl,pm,_,_,.str (S y8[0]),rfl,rfl,aK.of (s12 _ _ hm),aB (j:=0) (d_ (by simp[h0'])),_,rfl,Nat.le_of_lt (aD (by omega)),_,rfl,pr,_,_,.str (S j3[0]),rfl,rfl,aK.of (s12 _ _ hr'),aB (j:=0) (d_ (by simp[h0])),_,rfl,Nat.le_of_lt (aD (by omega)),rfl,_,rfl,?_⟩;refine Ba (by rw[w0,w0']) ?_;refine⟨_,rfl,_,rfl,pr,pb,j3,r,w,i,j,rfl,s12 _ _ hr',s12 _ _ hb,B.br,B.r1,B.r9,B.w9,B.bi,B.bj,?_⟩;exact q H2 s12
structure gj (K:W.Frag)(C:Addr):Prop where
 cl:Cls K C
 nr:lQ K C "rows"
 nm:lQ K C "marks"
 nb:lQ K C "begin"
structure eE (C:Addr)(H:Hp)(p:Addr)(r w:Nat)(j3 y8:List (List Nat))(i j:Nat):Prop where
 ex:∃dx pr pm pb,H p=some (.ins C dx [("rows",.ref pr),("marks",.ref pm),("begin",.ref pb)])/\H pr=some (.tup (Ts j3))/\H pm=some (.tup (Ts y8))/\H pb=some (.tup [.int i,.int j])
 ok:Qm r w j3 y8 i j
theorem eE.mv {C:Addr}{H H':Hp}{p:Addr}{r w:Nat}{j3 y8:List (List Nat)}{i j:Nat}(B:eE C H p r w j3 y8 i j)(s:Same H H'):eE C H' p r w j3 y8 i j:=by
 obtain⟨⟨dx,pr,pm,pb,a,b,c,d⟩,o⟩:=B;exact⟨⟨dx,pr,pm,pb,s _ _ a,s _ _ b,s _ _ c,s _ _ d⟩,o⟩
noncomputable def GR (C:Addr):Sp:=λvs H Q _=>∃(p dx pr pm pb:Addr) (r w:Nat) (j3 y8:List (List Nat)) (i j:Nat),vs=[.ref p,.ref pr,.ref pm,.ref pb]/\H p=some (.ins C dx [])/\H pr=some (.tup (Ts j3))/\H pm=some (.tup (Ts y8))/\H pb=some (.tup [.int i,.int j])/\Qm r w j3 y8 i j/\
 ∀H',(∀b o,H b=some o->b≠p->H' b=some o)->H' p=some (.ins C dx [("rows",.ref pr),("marks",.ref pm),("begin",.ref pb)])->Q .non H'
theorem JT {f C:Addr}{fd:FuncData}(F:gk K "__init__" "Board.__init__" iG f fd)(T:gj K C)(R5:Def P w K mg base "is_board" 4 ["rows","marks","begin"] Qq):cD P w K mg base fK 5 f fd ["self","rows","marks","begin"] (GR C):=by
 refine F.dh JM (λvs H Q E h=>?_) (λcdv A outer s H vs Q E hr h=>?_)
 ·obtain⟨p,dx,pr,pm,pb,r,w,j3,y8,i,j,rfl,_⟩:=h
  rfl
 ·obtain⟨p,dx,pr,pm,pb,r,w,j3,y8,i,j,rfl,hp,hr',hm,hb,B,q⟩:=h
  refine⟨_,(au (bO (dN (cO (bF R5 (hr.mono (by decide)) rfl (aj (qv 1) (aj (qv 2) (aj (qv 3) ak)))))) Iu bB) (au (Eu (qv 0) (qv 1) rfl) (au (Eu (qv 0) (qv 2) rfl) (aA (Eu (qv 0) (qv 3) rfl))))),?_⟩;refine⟨_,rfl,_,rfl,_,rfl,pr,pm,pb,r,w,j3,y8,i,j,rfl,hr',hm,hb,B,λH1 s1=>⟨_,rfl,aV ?_⟩⟩;refine⟨_,rfl,_,rfl,p,C,dx,_,rfl,s1 _ _ hp,T.cl,T.nr,by show 0 < 1000;decide,?_⟩;refine⟨_,rfl,_,rfl,p,C,dx,_,rfl,ao,T.cl,T.nm,by show 1 < 1000;decide,?_⟩;refine⟨_,rfl,_,rfl,p,C,dx,_,rfl,ao,T.cl,T.nb,by show 2 < 1000;decide,?_⟩;refine q _ (λb o e hne=>?_) ?_
  ·rw[aP hne,aP hne,aP hne];exact s1 _ _ e
  ·exact ao
end
end My
end
section
namespace My
open PySem L2
section
variable {P:Program}{w:World}{K:W.Frag}{mg:Str->Option Value}{base:Heap}
noncomputable def zp:Sp:=λvs H Q _=>∃(c:Int) (j:Nat),vs=[.int c,.int j]/\j<=1000/\∀v:Int,Q (.int v) H
theorem abm (D:aJ K mg "_law_draw" Fo ["_law_cell","_law_j"]):Def P w K mg base "_law_draw" 1 ["_law_cell","_law_j"] zp:=by
 refine D.dh GK (λvs H Q E h=>?_) (λf cdv A outer s H vs Q E hr h=>?_)
 ·obtain⟨c,j,rfl,_⟩:=h
  rfl
 ·obtain⟨c,j,rfl,hj,q⟩:=h
  refine⟨_,(au (aM (i:=2) GK.nd rfl (Or.inl rfl) (aG bT (aG b_ (aG b_ (aG b_ (aG jr (aG bT (qv 0) aq) aq) (aG jr (aG jr aq (qv 1)) (qv 1))) (aG jr aq (qv 1))) aq) aq)) (au (aM (i:=2) GK.nd rfl (Or.inl rfl) (aG bT (aG b_ (aG jr (qv 2) aq) (aG jr aq (qv 1))) aq)) (aA (aX (aG b_ (qv 2) (aG jr aq (aG bT (aG Yi (qv 0) (aG b_ (qv 1) aq)) (aG acQ aq aq)))))))),?_⟩;refine⟨_,rfl,_,_,rfl,rfl,(by show (0:Int) < 2147483647;decide),_,_,rfl,rfl,.inr ⟨by decide,by decide⟩,_,rfl,_,_,rfl,rfl,.inl ⟨by decide,by decide⟩,_,rfl,_,_,rfl,rfl,.inr ⟨by omega,by omega⟩,_,_,rfl,rfl,_,rfl,_,_,rfl,rfl,.inl ⟨by decide,by decide⟩,_,_,rfl,rfl,_,_,rfl,rfl,_,_,rfl,rfl,(by show (0:Int) < 2147483629;decide),?_⟩;refine⟨_,rfl,_,_,rfl,rfl,.inr ⟨by decide,by decide⟩,_,rfl,_,_,rfl,rfl,.inl ⟨by decide,by decide⟩,_,_,rfl,rfl,_,_,rfl,rfl,(by show (0:Int) < 2147483587;decide),?_⟩;exact⟨_,rfl,_,rfl,_,rfl,_,_,rfl,rfl,_,_,rfl,rfl,⟨by show (0:Int) < (j:Int)+2;omega,Nat.lt_of_le_of_lt (Nat.log2_le_self _) (by show ((j:Int)+2).natAbs < 9000;omega)⟩,_,_,rfl,rfl,⟨by decide,by decide,by decide⟩,_,_,rfl,rfl,(by show (0:Int) < 10^(61:Int).toNat;decide +kernel),_,_,rfl,rfl,.inl ⟨by decide,by decide⟩,_,_,rfl,rfl,q _⟩
noncomputable def VJ:Sp:=λvs H Q _=>∃c:Int,vs=[.int c]/\∀(ls:List Nat) (H':Hp),Same H H'->R0 ls->Q (.str (S ls)) H'
theorem adP (x:Int):∃n:Nat,m6 [V.int 1,V.int 3,V.int 5,V.int 7,V.int 9,V.int 11] (x%6)=some (.int (n:Int))/\n<=11:=by
 obtain⟨v,hv,hm⟩:=rN (xs:=[V.int 1,V.int 3,V.int 5,V.int 7,V.int 9,V.int 11]) (n:=6) rfl (by decide) x;simp only[List.mem_cons,List.not_mem_nil,or_false]at hm;rcases hm with e | e | e | e | e | e
 ·exact⟨1,e ▸ hv,by decide⟩
 ·exact⟨3,e ▸ hv,by decide⟩
 ·exact⟨5,e ▸ hv,by decide⟩
 ·exact⟨7,e ▸ hv,by decide⟩
 ·exact⟨9,e ▸ hv,by decide⟩
 ·exact⟨11,e ▸ hv,by decide⟩
theorem R6 (D:aJ K mg "_law_letters" ug ["_law_cell"])(cJ:mg "range"=none):Def P w K mg base "_law_letters" 1 ["_law_cell"] VJ:=by
 refine D.dh q_ (λvs H Q E h=>?_) (λf cdv A outer s H vs Q E hr h=>?_)
 ·obtain⟨c,rfl,_⟩:=h
  rfl
 ·obtain⟨c,rfl,q⟩:=h
  refine⟨_,(au (aM (i:=1) q_.nd rfl (Or.inr rfl) (bN AL (by decide +kernel))) (au (bO (bx gq (aG bT (qv 0) aq) aq (bh _)) (aA (aX (qv 1))) bB) (au (aM (i:=2) q_.nd rfl (Or.inr rfl) (aL dj (fZ (aj aq (aj aq (aj aq (aj aq (aj aq (aj aq ak))))))) (aG bT (aG cQ (qv 0) aq) aq) (λ_ _=>rfl))) (aA (aX (gA PySem.F.plainAttrs_str PySem.F.slot_str_join PySem.F.type_str_join rM (bN [] (by decide +kernel)) (aj (iQ rfl (gQ.of q_.nd (by kernel_rfl)) (jA (by rfl) cJ (aj (aG b_ aq (aG bT (aG cQ (qv 0) aq) aq)) ak)) (λ_ _ _ _ _=>cu) (λ_ _ _ _ _=>(aL sE (qv 2) (aG bT (aG b_ (aG cQ (qv 1) aq) (aG jr (qv 0) (qv 3))) aq) (λ_ _=>rfl)))) ak))))))),?_⟩;refine⟨_,rfl,_,_,rfl,rfl,(by show (0:Int) < 8;decide),rfl,_,rfl,jJ (λ_=>⟨_,rfl,q AL H (Same.refl _) ⟨by decide,by decide,aao⟩⟩) (λ_=>?_)⟩;refine⟨by show 6<=sizeLine;decide,λt ht=>?_⟩;obtain⟨n,hn,afV⟩:=adP (c/8);refine⟨_,rfl,_,_,rfl,rfl,⟨by decide,by decide⟩,_,_,rfl,rfl,(by show (0:Int) < 6;decide),t,_,_,_,rfl,rfl,aN.of ao,hn,?_⟩;have s1:Same H (upd H t (HO.lst [V.int 1,V.int 3,V.int 5,V.int 7,V.int 9,V.int 11])):=Same.upd ht;generalize upd H t (HO.lst [V.int 1,V.int 3,V.int 5,V.int 7,V.int 9,V.int 11])=H1 at s1 ⊢;obtain⟨m,em,hm⟩:∃m:Nat,2+c/7%3=(m:Int)/\2<=m/\m<=4:=⟨(2+c/7%3).toNat,by omega,by omega,by omega⟩
  refine⟨rfl,_,rfl,_,_,rfl,rfl,⟨by decide,by decide⟩,_,_,rfl,rfl,(by show (0:Int) < 3;decide),_,_,rfl,rfl,_,rfl,by omega,by omega,?_⟩;intro M hM;rw[em,Int.toNat_natCast];refine Rq (lo:=0) (n:=m) (λi ys H2=>∃cs:List Nat,ys=Ts (ones cs)/\cs.length=i/\(∀c∈cs,isLet c)/\H2 M=some (.lst ys)/\Same H1 H2) ⟨[],rfl,rfl,λc h=>by simp at h,ao,Same.upd hM⟩ ?_ ?_
  ·rintro i ys H2 hi ⟨cs,rfl,lc,yF,iI,sm⟩
   obtain⟨x,hx,hxm⟩:=rN (xs:=AL) (n:=26) (by decide) (by decide) (c/48+(0+(i:Int))*(n:Int));refine⟨_,rfl,_,rfl,_,_,rfl,rfl,⟨by decide,by decide⟩,_,rfl,_,rfl,_,_,rfl,rfl,.inr ⟨by omega,by omega⟩,_,_,rfl,rfl,_,_,rfl,rfl,(by show (0:Int) < 26;decide),AL,_,x,rfl,rfl,by decide,hx,iI,?_,cX.mk hi ⟨cs++[x],by rw[oW,Jf],by simp[lc],λy hy=>?_,ao,sm.bJ hM⟩⟩
   ·rw[List.length_map,List.length_map,lc];exact aD (by omega)
   ·rcases List.mem_append.mp hy with k | k
    ·exact yF y k
    ·rw[List.mem_singleton.mp k];exact aao x hxm
  ·rintro ys H2 ⟨cs,rfl,lc,yF,iI,sm⟩
   refine⟨M,ones cs,rfl,rfl,aN.of iI,by rw[pK];omega,?_⟩;rw[pK];exact q cs H2 (s1.trans sm) ⟨by omega,by omega,yF⟩
noncomputable def R7:Sp:=λvs H Q _=>∃(n:Int) (ls:List Nat),vs=[.int n,.str (S ls)]/\R0 ls/\∀c:Nat,lG c->Q (.str (S [c])) H
theorem abn (D:aJ K mg "_law_sign" Fp ["_law_cell","_law_letters_here"])(aU:mg "len"=none):Def P w K mg base "_law_sign" 1 ["_law_cell","_law_letters_here"] R7:=by
 refine D.dh Qk (λvs H Q E h=>?_) (λf cdv A outer s H vs Q E hr h=>?_)
 ·obtain⟨c,ls,rfl,_⟩:=h
  rfl
 ·obtain⟨n,ls,rfl,hA,q⟩:=h
  have hl1:=hA.lo;have hl2:=hA.hi;have hz:ls.length<=sizeLine:=Nat.le_of_lt (aD (by omega));refine⟨_,(au (aM (i:=2) Qk.nd rfl (Or.inl rfl) (aL sE (qv 1) (aG bT (qv 0) (aH bY (by rfl) aU PySem.boot_len (aj (qv 1) ak))) (λ_ _=>rfl))) (au (bO (bx gq (aG bT (aG cQ (qv 0) aq) aq) aq (bh _)) (aA (aX (vD PySem.F.plainAttrs_str PySem.F.slot_str_upper PySem.F.type_str_upper adl (qv 2)))) bB) (aA (aX (qv 2))))),?_⟩;obtain⟨x,hx,hm⟩:=rN (xs:=ls) (n:=ls.length) rfl (by omega) n;have hx':=hA.az x hm;refine⟨_,rfl,_,rfl,_,rfl,ls,rfl,hz,_,_,rfl,rfl,(by show (0:Int) < (ls.length:Int);omega),ls,_,x,rfl,rfl,hz,hx,?_⟩;refine⟨_,rfl,_,_,rfl,rfl,⟨by decide,by decide⟩,_,_,rfl,rfl,(by show (0:Int) < 5;decide),rfl,_,rfl,?_⟩;refine jJ (λ_=>?_) (λ_=>?_)
  ·refine⟨_,rfl,rfl,[x],rfl,rfl,by show 1<=1000;decide,λd hd=>by rw[List.mem_singleton.mp hd];have:=hx'.2;omega,?_⟩
   have eu:[x].map PyProof.Rows.up1=[x-32]:=by
    rw[List.map_singleton];unfold PyProof.Rows.up1;rw[if_pos (show 97<=x/\x<=122 from hx')]
   rw[eu];exact q _ (adO hx')
  ·exact⟨_,rfl,q x (VG hx')⟩
theorem YF (x:Int):∃n:Int,m6 [V.int 0,V.int 1,V.int 1,V.int 2,V.int 2,V.int 3,V.int 4,V.int 1] (x%8)=some (.int n):=by
 obtain⟨v,hv,hm⟩:=rN (xs:=[V.int 0,V.int 1,V.int 1,V.int 2,V.int 2,V.int 3,V.int 4,V.int 1]) (n:=8) rfl (by decide) x;simp only[List.mem_cons,List.not_mem_nil,or_false]at hm;rcases hm with e | e | e | e | e | e | e | e <;> exact⟨_,e ▸ hv⟩
theorem abo {l:List Nat}{k:Nat}(h:k < l.length):l.take k++[46]++l.drop (k+1)=l.set k 46:=by
 rw[List.set_eq_take_append_cons_drop,if_pos h,List.append_assoc];rfl
theorem zq {R:List (List Nat)}{i:Nat}{x l:List Nat}(h:l∈R.set i x):l∈R\/l=x:=List.mem_or_eq_of_mem_set h
noncomputable def Qs (K:W.Frag):Sp:=λvs H Q _=>∃(a:Addr) (ns:List Int) (ls:List Nat),vs=[.ref a,.str (S ls)]/\aN K H a (ns.map V.int)/\R0 ls/\
 ∀(p:Addr) (j3:List (List Nat)) (r w:Nat) (H':Hp),Same H H'->H' p=some (.tup (Ts j3))->Blk r w j3->1<=r->r<=9->1<=w->w<=9->(∀l∈j3,∀c∈l,uh c)->(∃i j,i < r/\j < w/\cell j3 i j=46)->Q (.ref p) H'
theorem OJ (D:aJ K mg "_law_rows" Fq ["_law_script","_law_letters_here"])(cJ:mg "range"=none)(bU:mg "tuple"=none)(ni:Def P w K mg base "_law_cell_at" 1 ["_law_script","_law_k"] (Lh K))(qp:Def P w K mg base "_law_draw" 1 ["_law_cell","_law_j"] zp)(Lp:Def P w K mg base "_law_sign" 1 ["_law_cell","_law_letters_here"] R7):Def P w K mg base "_law_rows" 2 ["_law_script","_law_letters_here"] (Qs K):=by
 refine D.dh dz (λvs H Q E h=>?_) (λf cdv A outer s H vs Q E hr h=>?_)
 ·obtain⟨a,ns,ls,rfl,_⟩:=h
  rfl
 ·obtain⟨a,ns,ls,rfl,hS,hA,q⟩:=h
  refine⟨_,(au (aM (i:=2) dz.nd rfl (Or.inl rfl) (bF ni (hr.mono (by decide)) rfl (aj (qv 0) (aj aq ak)))) (au (aM (i:=3) dz.nd rfl (Or.inl rfl) (aG b_ aq (aG bT (qv 2) aq))) (au (aM (i:=4) dz.nd rfl (Or.inl rfl) (aG b_ aq (aG bT (aG cQ (qv 2) aq) aq))) (au (gD (bO (bx gq (aG bT (aG cQ (qv 2) aq) aq) aq (bh _)) (au (aM (i:=3) dz.nd rfl (Or.inl rfl) (aG b_ aq (aG bT (aG cQ (qv 2) aq) aq))) (aA (aM (i:=4) dz.nd rfl (Or.inl rfl) (aG b_ aq (aG bT (aG cQ (qv 2) aq) aq))))) bB)) (au (aM (i:=5) dz.nd rfl (Or.inl rfl) (bF ni (hr.mono (by decide)) rfl (aj (qv 0) (aj aq ak)))) (au (aM (i:=6) dz.nd rfl (Or.inl rfl) (aL dj (fZ (aj aq (aj aq (aj aq (aj aq (aj aq (aj aq (aj aq (aj aq ak))))))))) (aG bT (qv 5) aq) (λ_ _=>rfl))) (au (aM (i:=7) dz.nd rfl (Or.inl rfl) (aG cQ (qv 5) aq)) (au (aM (i:=8) dz.nd rfl (Or.inl rfl) (fZ ak)) (au (dM PassesOwn.never rfl (jA (by rfl) cJ (aj (qv 3) ak)) (bK (i:=9) dz.nd rfl (Or.inl rfl)) (au (aM (i:=10) dz.nd rfl (Or.inl rfl) (bN [] (by decide +kernel))) (au (dM PassesOwn.never rfl (jA (by rfl) cJ (aj (qv 4) ak)) (bK (i:=11) dz.nd rfl (Or.inl rfl)) (au (aM (i:=12) dz.nd rfl (Or.inl rfl) (bF qp (hr.mono (by decide)) rfl (aj (qv 5) (aj (aG b_ (aG b_ aq (aG jr aq (qv 9))) (qv 11)) ak)))) (au (gD (bO (bx gq (aG bT (aG cQ (qv 5) aq) aq) aq (bh _)) (au (aM (i:=12) dz.nd rfl (Or.inl rfl) (aG bT (qv 7) aq)) (aA (aM (i:=7) dz.nd rfl (Or.inl rfl) (aG cQ (qv 7) aq)))) bB)) (aA (gD (bO (bx jG (aG bT (qv 12) aq) (qv 6) (bh _)) (aA (aM (i:=10) dz.nd rfl (Or.inl rfl) (aG m8 (qv 10) (bF Lp (hr.mono (by decide)) rfl (aj (aG cQ (qv 12) aq) (aj (qv 1) ak)))))) (aA (aM (i:=10) dz.nd rfl (Or.inl rfl) (aG m8 (qv 10) (bN [46] (by decide +kernel))))))))))) (aA (dY (gA PySem.F.plainAttrs_list PySem.F.slot_list_append PySem.F.type_list_append g_ (qv 8) (aj (qv 10) ak))))))) (au (aM (i:=13) dz.nd rfl (Or.inl rfl) (aG bT (aG cQ (qv 2) aq) (aG jr (qv 3) (qv 4)))) (au (aM (i:=9) dz.nd rfl (Or.inl rfl) (aG cQ (qv 13) (qv 4))) (au (aM (i:=14) dz.nd rfl (Or.inl rfl) (aL dj (qv 8) (qv 9) (λ_ _=>rfl))) (au (aM (i:=15) dz.nd rfl (Or.inl rfl) (aG bT (qv 13) (qv 4))) (au (pY (aG m8 (aG m8 (j9 Rt (qv 14) oM (lu (qv 15))) (bN [46] (by decide +kernel))) (j9 Rt (qv 14) (lu (aG b_ (qv 15) aq)) oM)) (sO (qv 8) (qv 9) set_list)) (aA (aX (eO gO (by rfl) bU PyProof.Rows.boot_tuple (aj (qv 8) ak)))))))))))))))))),?_⟩;refine⟨_,rfl,a,ns,1,rfl,hS,λc=>?_⟩;refine⟨_,rfl,_,_,rfl,rfl,(by show (0:Int) < 6;decide),_,_,rfl,rfl,?_⟩;refine⟨_,rfl,_,_,rfl,rfl,⟨by decide,by decide⟩,_,_,rfl,rfl,(by show (0:Int) < 6;decide),_,_,rfl,rfl,?_⟩;have key:∀x y:Int,0<=x->x < 9->0<=y->y < 9->H=H/\∃r w:Nat,1<=r/\r<=9/\1<=w/\w<=9/\([some (.ref a),some (.str (S ls)),some (.int c),some (.int (1+x)),some (.int (1+y)),none,none,none,none,none,none,none,none,none,none,none]:St)=[some (.ref a),some (.str (S ls)),some (.int c),some (.int r),some (.int w),none,none,none,none,none,none,none,none,none,none,none]:=λx y x0 x1 y0 y1=>
   ⟨rfl,(1+x).toNat,(1+y).toNat,by omega,by omega,by omega,by omega,by rw[show ((1+x).toNat:Int)=1+x by omega,show ((1+y).toNat:Int)=1+y by omega]⟩
  refine⟨λσ' H'=>H'=H/\∃r w:Nat,1<=r/\r<=9/\1<=w/\w<=9/\σ'=[some (.ref a),some (.str (S ls)),some (.int c),some (.int r),some (.int w),none,none,none,none,none,none,none,none,none,none,none],?_,?_⟩
  ·refine⟨_,rfl,_,_,rfl,rfl,⟨by decide,by decide⟩,_,_,rfl,rfl,(by show (0:Int) < 8;decide),rfl,_,rfl,jJ (λ_=>?_) (λ_=>?_)⟩
   ·refine⟨_,rfl,_,_,rfl,rfl,⟨by decide,by decide⟩,_,_,rfl,rfl,(by show (0:Int) < 9;decide),_,_,rfl,rfl,?_⟩
    refine⟨_,rfl,_,_,rfl,rfl,⟨by decide,by decide⟩,_,_,rfl,rfl,(by show (0:Int) < 9;decide),_,_,rfl,rfl,?_⟩;exact key _ _ (Int.emod_nonneg _ (by decide)) (Int.emod_lt_of_pos _ (by decide)) (Int.emod_nonneg _ (by decide)) (Int.emod_lt_of_pos _ (by decide))
   ·exact key _ _ (Int.emod_nonneg _ (by decide)) (Int.lt_trans (Int.emod_lt_of_pos _ (by decide)) (by decide)) (Int.emod_nonneg _ (by decide)) (Int.lt_trans (Int.emod_lt_of_pos _ (by decide)) (by decide))
  rintro σ' H' ⟨rfl,r,w,r1,r9,w1,w9,rfl⟩;refine⟨_,rfl,a,ns,2,rfl,hS,λli=>?_⟩;refine⟨by show 8<=sizeLine;decide,λt ht=>?_⟩;obtain⟨fu,hfu⟩:=YF li;refine⟨_,rfl,_,_,rfl,rfl,(by show (0:Int) < 8;decide),t,_,_,_,rfl,rfl,aN.of ao,hfu,?_⟩;have s1:Same H' (upd H' t (HO.lst [V.int 0,V.int 1,V.int 1,V.int 2,V.int 2,V.int 3,V.int 4,V.int 1])):=Same.upd ht;generalize upd H' t (HO.lst [V.int 0,V.int 1,V.int 1,V.int 2,V.int 2,V.int 3,V.int 4,V.int 1])=H1 at s1 ⊢;refine⟨_,rfl,_,_,rfl,rfl,⟨by decide,by decide⟩,?_⟩;refine⟨by show 0<=sizeLine;decide,λR hR=>?_⟩;have hR0:=s1.free hR;refine⟨_,rfl,_,rfl,by omega,by omega,?_⟩;rw[Int.toNat_natCast];refine gC (lo:=0) (n:=r) (λi σ H2=>∃(re:Int) (v9 v10 v11 Jg:Option V) (j3:List (List Nat)),σ=[some (.ref a),some (.str (S ls)),some (.int c),some (.int r),some (.int w),some (.int li),some (.int fu),some (.int re),some (.ref R),v9,v10,v11,Jg,none,none,none]/\Same H' H2/\H2 R=some (.lst (Ts j3))/\j3.length=i/\∀l∈j3,l.length=w/\∀c∈l,uh c)
   ⟨_,none,none,none,none,[],rfl,s1.bJ hR0,ao,rfl,λl h=>by simp at h⟩ ?_ ?_
  ·rintro i σ H2 hi ⟨re,v9,v10,v11,Jg,j3,rfl,sm,BZ,lr,zu⟩
   refine⟨_,rfl,_,rfl,by omega,by omega,?_⟩;rw[Int.toNat_natCast];refine gC (lo:=0) (n:=w) (λj σ H3=>H3=H2/\∃(re:Int) (v11 Jg:Option V) (cs:List Nat),σ=[some (.ref a),some (.str (S ls)),some (.int c),some (.int r),some (.int w),some (.int li),some (.int fu),some (.int re),some (.ref R),some (.int (0+(i:Int))),some (.str (S cs)),v11,Jg,none,none,none]/\cs.length=j/\∀c∈cs,uh c)
    ⟨rfl,re,v11,Jg,[],rfl,rfl,λc h=>by simp at h⟩ ?_ ?_
   ·rintro j σ H3 hj ⟨rfl,re,v11,Jg,cs,rfl,lc,yF⟩
    have e0:(10:Int)+9*(0+(i:Int))+(0+(j:Int))=((10+9*i+j:Nat):Int):=by omega
    refine⟨_,rfl,_,rfl,_,_,rfl,rfl,.inl ⟨by decide,by decide⟩,_,_,rfl,rfl,_,rfl,_,_,rfl,rfl,li,10+9*i+j,by show [V.int li,V.int (10+9*(0+(i:Int))+(0+(j:Int)))]=_;rw[e0],by omega,λnu=>?_⟩;refine⟨λσ' H'=>H'=H3/\∃nu re:Int,σ'=[some (.ref a),some (.str (S ls)),some (.int c),some (.int r),some (.int w),some (.int li),some (.int fu),some (.int re),some (.ref R),some (.int (0+(i:Int))),some (.str (S cs)),some (.int (0+(j:Int))),some (.int nu),none,none,none],?_,?_⟩
    ·exact⟨_,rfl,_,_,rfl,rfl,⟨by decide,by decide⟩,_,_,rfl,rfl,(by show (0:Int) < 2;decide),rfl,_,rfl,jJ (λ_=>⟨_,rfl,_,_,rfl,rfl,(by show (0:Int) < 2000;decide),_,rfl,_,_,rfl,rfl,⟨by decide,by decide⟩,rfl,_,_,rfl⟩) (λ_=>⟨rfl,_,_,rfl⟩)⟩
    ·rintro σ' H' ⟨rfl,nu,re,rfl⟩
     refine⟨_,?_,λσ' H' h=>h⟩;refine⟨_,rfl,_,_,rfl,rfl,(by show (0:Int) < 6;decide),_,rfl,_,_,rfl,rfl,_,rfl,jJ (λ_=>?_) (λ_=>?_)⟩
     ·refine⟨_,rfl,_,rfl,_,_,rfl,rfl,⟨by decide,by decide⟩,_,rfl,_,ls,rfl,hA,λz hz=>?_⟩
      refine⟨cs,_,rfl,rfl,by rw[lc];exact Nat.le_of_lt (aD (by simp;omega)),?_⟩;refine⟨rfl,re,_,_,cs++[z],rfl,by simp[lc],λe he=>?_⟩;rcases List.mem_append.mp he with k | k
      ·exact yF e k
      ·rw[List.mem_singleton.mp k];exact .inr hz
     ·refine⟨_,rfl,cs,_,rfl,rfl,by rw[lc];exact Nat.le_of_lt (aD (by simp;omega)),?_⟩
      refine⟨rfl,re,_,_,cs++[46],rfl,by simp[lc],λe he=>?_⟩;rcases List.mem_append.mp he with k | k
      ·exact yF e k
      ·rw[List.mem_singleton.mp k];exact .inl rfl
   ·rintro σ H3 ⟨rfl,re,v11,Jg,cs,rfl,lc,yF⟩
    refine⟨_,rfl,.inl ⟨rfl,_,aN.of BZ⟩,_,rfl,R,_,_,rfl,rfl,BZ,by rw[List.length_map];exact aD (by omega),?_⟩;refine⟨re,_,_,_,_,j3++[cs],rfl,sm.bJ hR0,by rw[ao,oW],by simp[lr],λl hl=>?_⟩;rcases List.mem_append.mp hl with k | k
    ·exact zu l k
    ·rw[List.mem_singleton.mp k];exact⟨lc,yF⟩
  ·rintro σ H2 ⟨re,v9,v10,v11,Jg,j3,rfl,sm,BZ,lr,zu⟩
   have hrw:1<=r*w:=Nat.mul_pos r1 w1;have adQ:(r:Int)*(w:Int)=((r*w:Nat):Int):=by push_cast;rfl
   refine⟨_,rfl,_,_,rfl,rfl,⟨by decide,by decide⟩,_,rfl,_,rfl,_,_,rfl,rfl,.inl ⟨by omega,by omega⟩,_,_,rfl,rfl,(by show (0:Int) < (r:Int)*(w:Int);rw[adQ];omega),?_⟩;obtain⟨fr,efr,hfr⟩:∃fr:Nat,c/7%((r:Int)*(w:Int))=(fr:Int)/\fr < r*w:=by
    rw[adQ];have h0:=Int.emod_nonneg (c/7) (show ((r*w:Nat):Int)≠0 by omega);have h1:=Int.emod_lt_of_pos (c/7) (show (0:Int) < ((r*w:Nat):Int) by omega);exact⟨(c/7%((r*w:Nat):Int)).toNat,by omega,by omega⟩
   obtain⟨ri,eri⟩:∃ri,ri=fr/w:=⟨_,rfl⟩
   obtain⟨sp,Qt⟩:∃sp,sp=fr%w:=⟨_,rfl⟩
   have hir:ri < r:=by rw[eri];exact Nat.div_lt_of_lt_mul (by rw[Nat.mul_comm];exact hfr)
   have hjw:sp < w:=by rw[Qt];exact Nat.mod_lt _ w1
   have adR:ri < j3.length:=by rw[lr];exact hir
   have tu:j3[ri].length=w:=(zu _ (List.getElem_mem _)).1;have ediv:(fr:Int)/(w:Int)=(ri:Int):=by rw[eri];push_cast;rfl
   have emod:(fr:Int)%(w:Int)=(sp:Int):=by rw[Qt];push_cast;rfl
   have hz:∀n,n<=100->n<=sizeLine:=λn h=>Nat.le_of_lt (aD (by omega));dsimp only;rw[efr];refine⟨_,rfl,_,rfl,_,_,rfl,rfl,⟨by omega,by omega⟩,?_⟩;dsimp only;rw[ediv];refine⟨_,rfl,_,rfl,R,_,_,.str (S j3[ri]),rfl,rfl,aN.of BZ,aB (d_ (by simp[adR])),?_⟩;refine⟨_,rfl,_,rfl,_,_,rfl,rfl,(by show (0:Int) < (w:Int);omega),?_⟩;dsimp only;rw[emod];generalize hl:j3[ri]=l at tu;have e1:(sp:Int)+1=((sp+1:Nat):Int):=by omega
   refine⟨_,rfl,_,rfl,_,rfl,l,rfl,hz _ (by omega),?_⟩;rw[KY];refine⟨l.take (sp),[46],rfl,rfl,hz _ (by rw[List.length_take];simp;omega),?_⟩;refine⟨_,rfl,_,rfl,_,_,rfl,rfl,_,rfl,l,rfl,hz _ (by omega),?_⟩;rw[e1,Cy];refine⟨_,_,rfl,rfl,hz _ (by rw[List.length_append,List.length_take,List.length_drop];simp;omega),?_⟩;rw[abo (by omega)];refine⟨_,rfl,_,rfl,R,_,_,ri,rfl,rfl,BZ,?_,?_⟩
   ·unfold yD
    rw[List.length_map,lr,if_pos (by omega),if_pos (by omega)];congr 1
   ·have afC:(Ts j3).set (ri) (.str (S (l.set (sp) 46)))=Ts (j3.set (ri) (l.set (sp) 46)):=by unfold Ts;rw[List.map_set]
    rw[afC];have tD:Blk r w (j3.set (ri) (l.set (sp) 46)):=⟨by rw[List.length_set,lr],λx hx=>by
     rcases zq hx with k | k
     ·exact(zu x k).1
     ·rw[k,List.length_set];exact tu⟩
    refine⟨_,rfl,R,_,rfl,.inl ⟨aN.of ao,λT hT=>?_⟩⟩;have s3:=sm.bJ (o:=HO.lst (Ts (j3.set (ri) (l.set (sp) 46)))) hR0;refine q T _ r w _ (s3.bJ (s3.free hT)) ao tD r1 r9 w1 w9 (λx hx y hy=>?_) ⟨ri,sp,hir,hjw,?_⟩
    ·rcases zq hx with k | k
     ·exact(zu x k).2 y hy
     ·rw[k]at hy
      rcases List.mem_or_eq_of_mem_set hy with z | z
      ·exact(zu l (hl ▸ List.getElem_mem _)).2 y z
      ·rw[z];exact .inl rfl
    ·have h1:ri < (j3.set (ri) (l.set (sp) 46)).length:=by rw[List.length_set];exact adR
     have h2:(j3.set (ri) (l.set (sp) 46))[ri]=l.set (sp) 46:=List.getElem_set_self h1;rw[cell_eq h1 (by rw[h2,List.length_set];omega)];simp[h2]
noncomputable def YG:List Nat:=[50,51,52,98,99,100]++(List.replicate 12 [46]).flatten
noncomputable def Lq:Sp:=λvs H Q _=>∃(p:Addr) (j3:List (List Nat)) (r w:Nat) (c:Int),vs=[.ref p,.int c]/\H p=some (.tup (Ts j3))/\Blk r w j3/\1<=r/\r<=9/\w<=9/\
 ∀(t:Addr) (y8:List (List Nat)) (H':Hp),Same H H'->H' t=some (.tup (Ts y8))->Blk r w y8->(∀l∈y8,∀c∈l,Ql c)->Q (.ref t) H'
theorem Lr (D:aJ K mg "_law_marks" Bf ["_law_rows_here","_law_cell"])(aU:mg "len"=none)(cJ:mg "range"=none)(bU:mg "tuple"=none)(qp:Def P w K mg base "_law_draw" 1 ["_law_cell","_law_j"] zp):Def P w K mg base "_law_marks" 2 ["_law_rows_here","_law_cell"] Lq:=by
 refine D.dh mO (λvs H Q E h=>?_) (λf cdv A outer s H vs Q E hr h=>?_)
 ·obtain⟨p,j3,r,w,c,rfl,_⟩:=h
  rfl
 ·obtain⟨p,j3,r,w,c,rfl,hp,hb,r1,r9,w9,q⟩:=h
  have gR:(Ts j3).length=r:=by rw[List.length_map,hb.len]
  have h0:0 < j3.length:=by rw[hb.len];omega
  have hw0:j3[0].length=w:=hb.gJ _ (List.getElem_mem _);refine⟨_,(au (aM (i:=2) mO.nd rfl (Or.inl rfl) (fZ ak)) (au (dM PassesOwn.never rfl (jA (by rfl) cJ (aj (aH bI (by rfl) aU PySem.boot_len (aj (qv 0) ak)) ak)) (bK (i:=3) mO.nd rfl (Or.inl rfl)) (au (aM (i:=4) mO.nd rfl (Or.inl rfl) (bN [] (by decide +kernel))) (au (dM PassesOwn.never rfl (jA (by rfl) cJ (aj (aH bY (by rfl) aU PySem.boot_len (aj (aL aO (qv 0) aq (λ_ _=>rfl)) ak)) ak)) (bK (i:=5) mO.nd rfl (Or.inl rfl)) (au (aM (i:=6) mO.nd rfl (Or.inl rfl) (bF qp (hr.mono (by decide)) rfl (aj (qv 1) (aj (aG b_ (aG b_ aq (aG jr aq (qv 3))) (qv 5)) ak)))) (aA (aM (i:=4) mO.nd rfl (Or.inl rfl) (aG m8 (qv 4) (aL sE (aG m8 (bN [50,51,52,98,99,100] (by decide +kernel)) (aG PX (bN [46] (by decide +kernel)) aq)) (aG bT (qv 6) aq) (λ_ _=>rfl))))))) (aA (dY (gA PySem.F.plainAttrs_list PySem.F.slot_list_append PySem.F.type_list_append g_ (qv 2) (aj (qv 4) ak))))))) (aA (aX (eO gO (by rfl) bU PyProof.Rows.boot_tuple (aj (qv 2) ak)))))),?_⟩;refine⟨by show 0<=sizeLine;decide,λR hR=>?_⟩;have s0:Same H (upd H R (HO.lst [])):=Same.upd hR;refine⟨_,rfl,p,_,rfl,.inr (aK.of (s0 _ _ hp)),_,rfl,by rw[gR];omega,by rw[gR];omega,?_⟩;rw[gR,Int.toNat_natCast];refine gC (lo:=0) (n:=r) (λi σ H2=>∃(v3 v4 v5 v6:Option V) (j3:List (List Nat)),σ=[some (.ref p),some (.int c),some (.ref R),v3,v4,v5,v6]/\Same H H2/\H2 R=some (.lst (Ts j3))/\j3.length=i/\∀l∈j3,l.length=w/\∀c∈l,Ql c)
   ⟨none,none,none,none,[],rfl,s0,ao,rfl,λl h=>by simp at h⟩ ?_ ?_
  ·rintro i σ H2 hi ⟨v3,v4,v5,v6,ms,rfl,sm,BZ,lr,zu⟩
   refine⟨_,rfl,p,_,_,.str (S j3[0]),rfl,rfl,aK.of (sm _ _ hp),aB (j:=0) (d_ (by simp[h0])),_,rfl,Nat.le_of_lt (aD (by omega)),_,rfl,by rw[hw0];omega,by rw[hw0];omega,?_⟩;rw[hw0,Int.toNat_natCast];refine gC (lo:=0) (n:=w) (λj σ H3=>H3=H2/\∃(v5 v6:Option V) (cs:List Nat),σ=[some (.ref p),some (.int c),some (.ref R),some (.int (0+(i:Int))),some (.str (S cs)),v5,v6]/\cs.length=j/\∀c∈cs,Ql c)
    ⟨rfl,v5,v6,[],rfl,rfl,λc h=>by simp at h⟩ ?_ ?_
   ·rintro j σ H3 hj ⟨rfl,v5,v6,cs,rfl,lc,yF⟩
    have e0:(100:Int)+9*(0+(i:Int))+(0+(j:Int))=((100+9*i+j:Nat):Int):=by omega
    refine⟨_,rfl,_,rfl,_,_,rfl,rfl,.inl ⟨by decide,by decide⟩,_,_,rfl,rfl,_,rfl,_,_,rfl,rfl,c,100+9*i+j,by show [V.int c,V.int (100+9*(0+(i:Int))+(0+(j:Int)))]=_;rw[e0],by omega,λnu=>?_⟩;obtain⟨x,hx,hxm⟩:=rN (xs:=YG) (n:=18) (by decide) (by decide) nu;have hmk:Ql x:=by
     have:∀x∈YG,x∈MK:=by decide
     exact this x hxm
    refine⟨_,rfl,[46],12,rfl,rfl,by decide,by decide,by decide,[50,51,52,98,99,100],_,rfl,rfl,by decide,_,rfl,_,_,rfl,rfl,(by show (0:Int) < 18;decide),YG,_,x,rfl,rfl,by decide,hx,cs,_,rfl,rfl,by rw[lc];exact Nat.le_of_lt (aD (by simp;omega)),?_⟩;refine⟨rfl,_,_,cs++[x],rfl,by simp[lc],λe he=>?_⟩;rcases List.mem_append.mp he with k | k
    ·exact yF e k
    ·rw[List.mem_singleton.mp k];exact hmk
   ·rintro σ H3 ⟨rfl,v5,v6,cs,rfl,lc,yF⟩
    refine⟨_,rfl,.inl ⟨rfl,_,aN.of BZ⟩,_,rfl,R,_,_,rfl,rfl,BZ,by rw[List.length_map];exact aD (by omega),?_⟩;refine⟨_,_,_,_,ms++[cs],rfl,sm.bJ hR,by rw[ao,oW],by simp[lr],λl hl=>?_⟩;rcases List.mem_append.mp hl with k | k
    ·exact zu l k
    ·rw[List.mem_singleton.mp k];exact⟨lc,yF⟩
  ·rintro σ H2 ⟨v3,v4,v5,v6,ms,rfl,sm,BZ,lr,zu⟩
   refine⟨_,rfl,R,_,rfl,.inl ⟨aN.of BZ,λT hT=>?_⟩⟩;exact q T ms _ (sm.bJ (sm.free hT)) ao ⟨lr,λl h=>(zu l h).1⟩ λl h=>(zu l h).2
end
end My
end
section
namespace My
open PySem L2
section
variable {P:Program}{w:World}{K:W.Frag}{mg:Str->Option Value}{base:Heap}
noncomputable def atC (j3:List (List Nat))(r w:Nat)(i j:Int):Nat:=if 0<=i/\i < r/\0<=j/\j < w then (j3.getD i.toNat []).getD j.toNat 0 else 46
noncomputable def R8 (C:Addr):Sp:=λvs H Q _=>∃(p:Addr) (r w:Nat) (j3 y8:List (List Nat)) (bi bj:Nat) (i j:Int),vs=[.ref p,.int i,.int j]/\eE C H p r w j3 y8 bi bj/\Q (.str (S [atC j3 r w i j])) H
theorem ae2 {f C:Addr}{fd:FuncData}(F:gk K "at" "Board.at" jM f fd)(T:gj K C)(dW:∃t,mg "FREE"=some (.str (S [46]) t))(kh:Def P w K mg base "is_cell_of" 2 ["rows","row","column"] (CP K)):cD P w K mg base fK 3 f fd ["self","row","column"] (R8 C):=by
 refine F.dh Oq (λvs H Q E h=>?_) (λcdv A outer s H vs Q E hr h=>?_)
 ·obtain⟨p,r,w,j3,y8,bi,bj,i,j,rfl,_⟩:=h
  rfl
 ·obtain⟨p,r,w,j3,y8,bi,bj,i,j,rfl,B,q⟩:=h
  obtain⟨⟨dx,pr,pm,pb,hp,hr',hm,hb⟩,O⟩:=B;have w9:=O.w9;refine⟨_,(aA (aX (mK (cO (bF kh (hr.mono (by decide)) rfl (aj (jU (qv 0) rfl) (aj (qv 1) (aj (qv 2) ak))))) (aL sE (aL aO (jU (qv 0) rfl) (qv 1) (λ_ _=>rfl)) (qv 2) (λ_ _=>rfl)) (qO (by rfl) dW)))),?_⟩;refine⟨_,rfl,p,C,dx,_,_,rfl,hp,T.cl,T.nr,rfl,_,rfl,_,rfl,pr,j3,r,w,i,j,rfl,aK.of hr',O.br,O.r1,O.r9,O.w9,_,rfl,?_⟩;by_cases h:0<=i/\i < r/\0<=j/\j < w
  ·rw[decide_eq_true h]
   have e:atC j3 r w i j=(j3.getD i.toNat []).getD j.toNat 0:=if_pos h;rw[e]at q;obtain⟨i,rfl⟩:∃k:Nat,i=k:=⟨i.toNat,by omega⟩
   obtain⟨j,rfl⟩:∃k:Nat,j=k:=⟨j.toNat,by omega⟩
   rw[Int.toNat_natCast,Int.toNat_natCast]at q;have hi:i < j3.length:=by rw[O.br.len];omega
   have hgi:j3[i]?=some (j3.getD i []):=by rw[List.getD_eq_getElem?_getD,List.getElem?_eq_getElem hi];rfl
   have hw:(j3.getD i []).length=w:=O.br.gJ _ (List.mem_of_getElem? hgi);have VL:(j3.getD i [])[j]?=some ((j3.getD i []).getD j 0):=by rw[List.getD_eq_getElem?_getD (l:=j3.getD i []),List.getElem?_eq_getElem (by omega)];rfl
   refine bw ⟨_,rfl,p,C,dx,_,_,rfl,hp,T.cl,T.nr,rfl,_,rfl,pr,_,_,_,rfl,rfl,aK.of hr',aB (d_ hgi),_,rfl,_,_,_,rfl,rfl,Nat.le_of_lt (aD (by omega)),aB VL,q⟩
  ·rw[decide_eq_false h]
   have e:atC j3 r w i j=46:=if_neg h;rw[e]at q;exact aV q
noncomputable def isFree (j3:List (List Nat)):Bool:=j3.flatten.all λc=>decide ([c]=[46])
noncomputable def VN (C:Addr):Sp:=λvs H Q _=>∃(p:Addr) (r w:Nat) (j3 y8:List (List Nat)) (bi bj:Nat),vs=[.ref p]/\eE C H p r w j3 y8 bi bj/\∀H',Same H H'->Q (.bl (isFree j3)) H'
theorem R9 {f C:Addr}{fd:FuncData}(F:gk K "is_free" "Board.is_free" fQ f fd)(T:gj K C)(dU:mg "all"=none)(dW:∃t,mg "FREE"=some (.str (S [46]) t)):cD P w K mg base fK 1 f fd ["self"] (VN C):=by
 refine F.dh sV (λvs H Q E h=>?_) (λcdv A outer s H vs Q E hr h=>?_)
 ·obtain⟨p,r,w,j3,y8,bi,bj,rfl,_⟩:=h
  rfl
 ·obtain⟨p,r,w,j3,y8,bi,bj,rfl,B,q⟩:=h
  obtain⟨⟨dx,pr,pm,pb,hp,hr',hm,hb⟩,O⟩:=B;have hrw:r*w<=81:=Nat.mul_le_mul O.r9 O.w9;have hfl:=CN O.br;refine⟨_,(aA (aX (aH (iC rfl) (by rfl) dU h_ (aj (iQ rfl (gQ.of sV.nd (by kernel_rfl)) (yR (gA PySem.F.plainAttrs_str PySem.F.slot_str_join PySem.F.type_str_join Cw (bN [] (by decide +kernel)) (aj (jU (qv 0) rfl) ak))) (λ_ _ _ _ _=>cu) (λ_ _ _ _ _=>(eY sI (qv 0) (qO (by rfl) dW) (bh _)))) ak)))),?_⟩;refine⟨rfl,_,rfl,p,C,dx,_,_,rfl,hp,T.cl,T.nr,rfl,pr,j3,rfl,rfl,aK.of hr',by omega,_,rfl,λL hL=>?_⟩;refine wu (λi ys H2=>ys=((j3.flatten.take i).map λc=>decide ([c]=[46])).map V.bl/\H2 L=some (.lst ys)/\Same H H2) ⟨rfl,ao,Same.upd hL⟩ ?_ ?_
  ·rintro i c ys H2 hi ⟨rfl,hL2,sm⟩
   have hil:i < j3.flatten.length:=(List.getElem?_eq_some_iff.mp hi).1;refine⟨_,rfl,[c],[46],rfl,rfl,hL2,?_,cX.mk hil ⟨?_,ao,sm.bJ hL⟩⟩
   ·rw[List.length_map,List.length_map,List.length_take];exact aD (by omega)
   ·rw[List.take_add_one,hi];simp
  ·rintro ys H2 ⟨rfl,hL2,sm⟩
   rw[List.take_length]at hL2;refine⟨L,_,rfl,aN.of hL2,?_⟩;have e:((j3.flatten.map λc=>decide ([c]=[46])).all id)=isFree j3:=by
    unfold isFree;rw[List.all_map];rfl
   rw[e];exact q H2 sm
noncomputable def um (j3:List (List Nat))(j:Nat):List Nat:=j3.map λl=>l.getD j 0
noncomputable def lineOf (j3:List (List Nat))(i j:Nat)(way:Int):List Nat:=if way=0 then j3.getD i [] else um j3 j
noncomputable def placeOf (i j:Nat)(way:Int):Nat:=if way=0 then j else i
noncomputable def aap:Sp:=λvs H Q _=>∃(p:Addr) (j3:List (List Nat)) (r w j:Nat),vs=[.ref p,.int j]/\H p=some (.tup (Ts j3))/\Blk r w j3/\r<=9/\w<=9/\j < w/\∀H',Same H H'->Q (.str (S (um j3 j))) H'
theorem GX (D:aJ K mg "column_text" mz ["rows","column"]):Def P w K mg base "column_text" 1 ["rows","column"] aap:=by
 refine D.dh vJ (λvs H Q E h=>?_) (λf cdv A outer s H vs Q E hr h=>?_)
 ·obtain⟨p,j3,r,w,j,rfl,_⟩:=h
  rfl
 ·obtain⟨p,j3,r,w,j,rfl,hp,hb,r9,w9,hj,q⟩:=h
  refine⟨_,(aA (aX (gA PySem.F.plainAttrs_str PySem.F.slot_str_join PySem.F.type_str_join rM (bN [] (by decide +kernel)) (aj (iQ rfl (gQ.of vJ.nd (by kernel_rfl)) (dF (qv 0)) (λ_ _ _ _ _=>cu) (λ_ _ _ _ _=>(aL sE (qv 0) (qv 2) (λ_ _=>rfl)))) ak)))),?_⟩;have gR:(Ts j3).length=r:=by rw[List.length_map,hb.len]
  refine⟨rfl,_,rfl,p,rfl,⟨_,aK.of hp⟩,λL hL=>sJ (xs:=Ts j3) (λi ys H2=>ys=Ts (ones ((j3.take i).map λl=>l.getD j 0))/\H2 L=some (.lst ys)/\Same H H2) ⟨rfl,ao,Same.upd hL⟩ (λi ys H2 _ h=>aK.of (h.2.2 _ _ hp)) ?_ ?_⟩
  ·rintro i x ys H2 hi ⟨rfl,hL2,sm⟩
   obtain⟨l,hl,rfl⟩:=sY hi;have hil:i < (Ts j3).length:=(List.getElem?_eq_some_iff.mp hi).1;have tu:l.length=w:=hb.gJ _ (List.mem_of_getElem? hl);refine⟨_,rfl,_,rfl,l,_,l.getD j 0,rfl,rfl,Nat.le_of_lt (aD (by omega)),?_,hL2,?_,cX.mk hil ⟨?_,ao,sm.bJ hL⟩⟩
   ·exact aB (by rw[List.getD_eq_getElem?_getD,List.getElem?_eq_getElem (by omega)];rfl)
   ·rw[List.length_map,List.length_map,List.length_map,List.length_take];exact aD (by omega)
   ·rw[oW,Jf,List.take_add_one,hl]
    simp
  ·rintro ys H2 ⟨rfl,hL2,sm⟩
   rw[gR,<- hb.len,List.take_length]at hL2;refine⟨L,_,rfl,rfl,aN.of hL2,?_,?_⟩
   ·rw[pK,List.length_map,hb.len];omega
   ·rw[pK];exact q H2 sm
theorem nY {r w:Nat}{j3:List (List Nat)}(hb:Blk r w j3){i j:Nat}(hi:i < r){way:Int}:(lineOf j3 i j way).length=if way=0 then w else r:=by
 unfold lineOf;by_cases h:way=0
 ·rw[if_pos h,if_pos h,List.getD_eq_getElem?_getD,List.getElem?_eq_getElem (by rw[hb.len];exact hi)]
  exact hb.gJ _ (List.getElem_mem _)
 ·rw[if_neg h,if_neg h];unfold um;rw[List.length_map,hb.len]
structure Run (l:List Nat)(k:Nat) where
 ahead:List Nat
 signs:List Nat
theorem nj (l:List Nat):(dg l).length<=l.length:=by
 unfold dg;rw[List.length_reverse];exact Nat.le_trans (List.takeWhile_prefix _).length_le (by rw[List.length_reverse];exact Nat.le_refl _)
theorem uo (l:List Nat):(d9 l).length<=l.length:=(List.takeWhile_prefix _).length_le
noncomputable def YH (i j:Nat)(way:Int)(l:List Nat):List V:=
 if way=0 then [.int i,.int ((j:Int)-(dg (l.take j)).length),.str (S (dg (l.take j)++d9 (l.drop j)))] else [.int ((i:Int)-(dg (l.take i)).length),.int j,.str (S (dg (l.take i)++d9 (l.drop i)))]
noncomputable def aaq (C:Addr):Sp:=λvs H Q _=>∃(p:Addr) (r w:Nat) (j3 y8:List (List Nat)) (bi bj i j:Nat) (way:Int),vs=[.ref p,.int i,.int j,.int way]/\eE C H p r w j3 y8 bi bj/\i < r/\j < w/\(way=0\/way=1)/\
 ∀(t:Addr) (H':Hp),Same H H'->H t=none->H' t=some (.tup (YH i j way (lineOf j3 i j way)))->Q (.ref t) H'
theorem adS {f C:Addr}{fd:FuncData}(F:gk K "run" "Board.run" jf f fd)(T:gj K C)(aU:mg "len"=none)(dW:∃t,mg "FREE"=some (.str (S [46]) t))(JV:Def P w K mg base "column_text" 1 ["rows","column"] aap):cD P w K mg base fK 2 f fd ["self","row","column","way"] (aaq C):=by
 refine F.dh jx (λvs H Q E h=>?_) (λcdv A outer s H vs Q E hr h=>?_)
 ·obtain⟨p,r,w,j3,y8,bi,bj,i,j,way,rfl,_⟩:=h
  rfl
 ·obtain⟨p,r,w,j3,y8,bi,bj,i,j,way,rfl,B,hi,hj,afD,q⟩:=h
  obtain⟨⟨dx,pr,pm,pb,hp,hr',hm,hb⟩,O⟩:=B;have r9:=O.r9;have w9:=O.w9;refine⟨_,(au (aM (i:=4) jx.nd rfl (Or.inl rfl) (mK (bx gq (qv 3) aq (bh _)) (aL aO (jU (qv 0) rfl) (qv 1) (λ_ _=>rfl)) (bF JV (hr.mono (by decide)) rfl (aj (jU (qv 0) rfl) (aj (qv 2) ak))))) (au (aM (i:=5) jx.nd rfl (Or.inl rfl) (mK (bx gq (qv 3) aq (bh _)) (qv 2) (qv 1))) (au (aM (i:=6) jx.nd rfl (Or.inl rfl) (aL aO (gA PySem.F.plainAttrs_str PySem.F.slot_str_rpartition PySem.F.type_str_rpartition Yk (j9 Rt (qv 4) oM (lu (qv 5))) (aj (qO (by rfl) dW) ak)) aq (λ_ _=>rfl))) (au (aM (i:=7) jx.nd rfl (Or.inl rfl) (aG m8 (qv 6) (aL aO (gA PySem.F.plainAttrs_str PySem.F.slot_str_partition PySem.F.type_str_partition aa3 (j9 Rt (qv 4) (lu (qv 5)) oM) (aj (qO (by rfl) dW) ak)) aq (λ_ _=>rfl)))) (au (aM (i:=8) jx.nd rfl (Or.inl rfl) (aG fX (qv 5) (aH bY (by rfl) aU PySem.boot_len (aj (qv 6) ak)))) (aA (aX (mK (bx gq (qv 3) aq (bh _)) (bR (aj (qv 1) (aj (qv 8) (aj (qv 7) ak)))) (bR (aj (qv 8) (aj (qv 2) (aj (qv 7) ak)))))))))))),?_⟩;have hgi:j3[i]?=some (j3.getD i []):=by rw[List.getD_eq_getElem?_getD,List.getElem?_eq_getElem (by rw[O.br.len];exact hi)];rfl
  rcases afD with rfl | rfl
  ·have hll:(lineOf j3 i j 0).length=w:=nY O.br hi
   have el:j3.getD i []=lineOf j3 i j 0:=rfl;rw[el]at hgi;have hz:∀l:List Nat,l.length<=100->l.length<=sizeLine:=λl h=>Nat.le_of_lt (aD (by omega));refine⟨_,rfl,rfl,_,rfl,bw ?_⟩;refine⟨_,rfl,p,C,dx,_,_,rfl,hp,T.cl,T.nr,rfl,_,rfl,pr,_,_,_,rfl,rfl,aK.of hr',aB (d_ hgi),?_⟩;generalize hL:lineOf j3 i j 0=l at hll hgi ⊢;refine⟨_,rfl,rfl,_,rfl,bw ⟨_,rfl,?_⟩⟩;refine⟨_,rfl,_,rfl,_,rfl,l,rfl,hz _ (by omega),rfl,?_⟩;rw[KY];refine⟨_,rfl,rfl,by rw[List.length_take];omega,λp1 a1 b1 hp1=>?_⟩;refine⟨p1,_,_,_,rfl,rfl,aK.of ao,aB (j:=2) rfl,?_⟩;have s1:Same H (upd H p1 (.tup [.str a1,.str b1,.str (S (dg (l.take j)))])):=Same.upd hp1;generalize upd H p1 (.tup [.str a1,.str b1,.str (S (dg (l.take j)))])=H1 at s1 ⊢;have t1:=nj (l.take j);have t2:=uo (l.drop j);rw[List.length_take]at t1;rw[List.length_drop]at t2;refine⟨_,rfl,_,rfl,_,rfl,_,rfl,l,rfl,hz _ (by omega),rfl,?_⟩;rw[Cy];refine⟨_,rfl,rfl,by rw[List.length_drop];omega,λp2 b2 c2 hp2=>?_⟩;refine⟨p2,_,_,_,rfl,rfl,aK.of ao,aB (j:=0) rfl,_,_,rfl,rfl,Nat.le_of_lt (aD (by omega)),?_⟩;have s2:=s1.bJ (o:=HO.tup [.str (S (d9 (l.drop j))),.str b2,.str c2]) (s1.free hp2);generalize upd H1 p2 (HO.tup [.str (S (d9 (l.drop j))),.str b2,.str c2])=H2 at s2 ⊢;refine⟨_,rfl,_,rfl,_,rfl,hz _ (by omega),_,_,rfl,rfl,?_⟩;refine⟨_,rfl,rfl,_,rfl,bw ?_⟩;refine⟨_,rfl,_,rfl,_,rfl,by show 3<=sizeLine;decide,λt ht=>?_⟩;exact q t _ (s2.bJ (s2.free ht)) (s2.free ht) (by rw[ao,hL];rfl)
  ·have hll:(lineOf j3 i j 1).length=r:=nY O.br hi
   have el:um j3 j=lineOf j3 i j 1:=rfl;have hz:∀l:List Nat,l.length<=100->l.length<=sizeLine:=λl h=>Nat.le_of_lt (aD (by omega));refine⟨_,rfl,rfl,_,rfl,aV ?_⟩;refine⟨_,rfl,p,C,dx,_,_,rfl,hp,T.cl,T.nr,rfl,_,rfl,pr,j3,r,w,j,rfl,hr',O.br,r9,w9,hj,λH0 s0=>?_⟩;rw[el];generalize hL:lineOf j3 i j 1=l at hll ⊢;refine⟨_,rfl,rfl,_,rfl,aV ⟨_,rfl,?_⟩⟩;refine⟨_,rfl,_,rfl,_,rfl,l,rfl,hz _ (by omega),rfl,?_⟩;rw[KY];refine⟨_,rfl,rfl,by rw[List.length_take];omega,λp1 a1 b1 hp1=>?_⟩;refine⟨p1,_,_,_,rfl,rfl,aK.of ao,aB (j:=2) rfl,?_⟩;have s1:Same H (upd H0 p1 (.tup [.str a1,.str b1,.str (S (dg (l.take i)))])):=s0.bJ (s0.free hp1);generalize upd H0 p1 (.tup [.str a1,.str b1,.str (S (dg (l.take i)))])=H1 at s1 ⊢;have t1:=nj (l.take i);have t2:=uo (l.drop i);rw[List.length_take]at t1;rw[List.length_drop]at t2;refine⟨_,rfl,_,rfl,_,rfl,_,rfl,l,rfl,hz _ (by omega),rfl,?_⟩;rw[Cy];refine⟨_,rfl,rfl,by rw[List.length_drop];omega,λp2 b2 c2 hp2=>?_⟩;refine⟨p2,_,_,_,rfl,rfl,aK.of ao,aB (j:=0) rfl,_,_,rfl,rfl,Nat.le_of_lt (aD (by omega)),?_⟩;have s2:=s1.bJ (o:=HO.tup [.str (S (d9 (l.drop i))),.str b2,.str c2]) (s1.free hp2);generalize upd H1 p2 (HO.tup [.str (S (d9 (l.drop i))),.str b2,.str c2])=H2 at s2 ⊢;refine⟨_,rfl,_,rfl,_,rfl,hz _ (by omega),_,_,rfl,rfl,?_⟩;refine⟨_,rfl,rfl,_,rfl,aV ?_⟩;refine⟨_,rfl,_,rfl,_,rfl,by show 3<=sizeLine;decide,λt ht=>?_⟩;exact q t _ (s2.bJ (s2.free ht)) (s2.free ht) (by rw[ao,hL];rfl)
abbrev aY:=Nat × Nat × Nat
noncomputable def rk (t:aY):Nat:=t.1*1000+t.2.1
noncomputable def vN (H:Hp)(a:Addr)(t:aY):Prop:=H a=some (.tup [.int t.1,.int t.2.1,.str (S [t.2.2])])
noncomputable def tO (H:Hp)(a:Addr):aY:=match H a with
 | some (.tup [.int x,.int y,.str z])=>(x.toNat,y.toNat,z.cps.toList.headD 0)
 | _=>(0,0,0)
theorem Fx {H:Hp}{a:Addr}{t:aY}(h:vN H a t):tO H a=t:=by
 unfold tO;rw[show H a=_ from h];rfl
structure cM (H:Hp)(as:List Addr)(ts:List aY):Prop where
 at_:∀a∈as,vN H a (tO H a)
 eq:as.map (tO H)=ts
theorem cM.ji {H H':Hp}{as:List Addr}{ts:List aY}(k:∀a xs,H a=some (.tup xs)->H' a=some (.tup xs))(h:cM H as ts):cM H' as ts:=by
 have e:∀a∈as,tO H' a=tO H a:=λa ha=>Fx (k a _ (h.at_ a ha));exact⟨λa ha=>by rw[e a ha];exact k a _ (h.at_ a ha),by rw[<- h.eq];exact List.map_congr_left e⟩
theorem cM.mv {H H':Hp}{as:List Addr}{ts:List aY}(k:Same H H')(h:cM H as ts):cM H' as ts:=h.ji λa xs e=>k a _ e
theorem Ls {H:Hp}{M:Addr}{ys zs:List V}(hM:H M=some (.lst ys)):∀a xs,H a=some (.tup xs)->upd H M (.lst zs) a=some (.tup xs):=λa xs e=>by
 have ne:a≠M:=λz=>by rw[z,hM]at e;cases e
 rw[aP ne];exact e
theorem cM.snoc {H:Hp}{as:List Addr}{ts:List aY}{a:Addr}{t:aY}(h:cM H as ts)(ha:vN H a t):cM H (as++[a]) (ts++[t]):=by
 refine⟨λb hb=>?_,by rw[List.map_append,h.eq,List.map_singleton,Fx ha]⟩;rcases List.mem_append.mp hb with z | z
 ·exact h.at_ b z
 ·rw[List.mem_singleton.mp z,Fx ha];exact ha
theorem cM.nil {H:Hp}:cM H [] []:=⟨λa h=>by simp at h,rfl⟩
theorem cM.len {H:Hp}{as:List Addr}{ts:List aY}(h:cM H as ts):as.length=ts.length:=by rw[<- h.eq,List.length_map]
theorem cM.get {H:Hp}{as:List Addr}{ts:List aY}(h:cM H as ts){i:Nat}(hi:i < as.length):∃t,ts[i]?=some t/\vN H as[i] t:=
 ⟨tO H as[i],by rw[<- h.eq];simp[hi],h.at_ _ (List.getElem_mem _)⟩
noncomputable def setAt (R:List (List Nat))(i j z:Nat):List (List Nat):=R.set i ((R.getD i []).set j z)
noncomputable def bM (R:List (List Nat))(ts:List aY):List (List Nat):=ts.foldl (λR t=>setAt R t.1 t.2.1 t.2.2) R
theorem GZ {r w:Nat}{R:List (List Nat)}(h:Blk r w R){i j z:Nat}(hi:i < r):Blk r w (setAt R i j z):=by
 refine⟨by unfold setAt;rw[List.length_set,h.len],λl hl=>?_⟩;rcases List.mem_or_eq_of_mem_set hl with y | y
 ·exact h.gJ l y
 ·rw[y,List.length_set,List.getD_eq_getElem?_getD,List.getElem?_eq_getElem (by rw[h.len];exact hi)]
  exact h.gJ _ (List.getElem_mem _)
theorem abp {r w:Nat}{R:List (List Nat)}(h:Blk r w R){i j z:Nat}(hi:i < r){Pc:Nat->Prop}(hp:∀l∈R,∀c∈l,Pc c)(hz:Pc z):∀l∈setAt R i j z,∀c∈l,Pc c:=λl hl c hc=>by
 rcases List.mem_or_eq_of_mem_set hl with y | y
 ·exact hp l y c hc
 ·rw[y]at hc
  rcases List.mem_or_eq_of_mem_set hc with u | u
  ·rw[List.getD_eq_getElem?_getD,List.getElem?_eq_getElem (by rw[h.len];exact hi)]at u
   exact hp _ (List.getElem_mem _) c u
  ·rw[u];exact hz
noncomputable def inB (r w:Nat)(t:aY):Prop:=t.1 < r/\t.2.1 < w/\lG t.2.2
theorem jP {r w:Nat}:∀{ts:List aY} {R:List (List Nat)},Blk r w R->(∀t∈ts,inB r w t)->Blk r w (bM R ts)
 | [],_,h,_=>h
 | t::ts,_,h,k=>jP (ts:=ts) (GZ h (k t List.mem_cons_self).1) λx hx=>k x (List.mem_cons_of_mem _ hx)
theorem wL {r w:Nat}:∀{ts:List aY} {R:List (List Nat)},Blk r w R->(∀t∈ts,inB r w t)->(∀l∈R,∀c∈l,uh c)->∀l∈bM R ts,∀c∈l,uh c
 | [],_,_,_,g=>g
 | t::ts,_,h,k,g=>wL (ts:=ts) (GZ h (k t List.mem_cons_self).1) (λx hx=>k x (List.mem_cons_of_mem _ hx)) (abp h (k t List.mem_cons_self).1 g (.inr (k t List.mem_cons_self).2.2))
theorem YJ {r w:Nat}{j3 y8:List (List Nat)}{bi bj:Nat}(B:Qm r w j3 y8 bi bj){ts:List aY}(k:∀t∈ts,inB r w t):Qm r w (bM j3 ts) y8 bi bj:=
 ⟨B.r1,B.r9,B.w1,B.w9,jP B.br k,B.bm,wL B.br k B.cr,B.cm,B.bi,B.bj⟩
theorem Jh (R:List (List Nat))(ts:List aY)(t:aY):bM R (ts++[t])=setAt (bM R ts) t.1 t.2.1 t.2.2:=by unfold bM;rw[List.foldl_append];rfl
structure dH (H0 H:Hp)(ps:List Addr)(R:List (List Nat)):Prop where
 len:ps.length=R.length
 nd:ps.Nodup
 fr:∀p∈ps,H0 p=none
 at_:∀(i:Nat) (h:i < ps.length),H ps[i]=some (.lst (Ts (ones (R.getD i []))))
theorem dH.mv {H0 H H':Hp}{ps:List Addr}{R:List (List Nat)}(h:dH H0 H ps R)(k:∀p∈ps,H' p=H p):dH H0 H' ps R:=
 ⟨h.len,h.nd,h.fr,λi hi=>by rw[k _ (List.getElem_mem _)];exact h.at_ i hi⟩
theorem dH.Ji {H0 H H':Hp}{ps:List Addr}{R:List (List Nat)}(h:dH H0 H ps R)(k:Same H H'):dH H0 H' ps R:=
 ⟨h.len,h.nd,h.fr,λi hi=>k _ _ (h.at_ i hi)⟩
theorem dH.snoc {H0 H:Hp}{ps:List Addr}{R:List (List Nat)}(h:dH H0 H ps R){p:Addr}{l:List Nat}(hn:p∉ps)(h0:H0 p=none)(hp:H p=some (.lst (Ts (ones l)))):dH H0 H (ps++[p]) (R++[l]):=by
 refine⟨by simp[h.len],?_,λx hx=>?_,λi hi=>?_⟩
 ·rw[List.nodup_append]
  refine⟨h.nd,by simp,λa ha b hb=>?_⟩;rw[List.mem_singleton.mp hb];exact λz=>hn (z ▸ ha)
 ·rcases List.mem_append.mp hx with z | z
  ·exact h.fr x z
  ·rw[List.mem_singleton.mp z];exact h0
 ·by_cases c:i < ps.length
  ·rw[List.getElem_append_left c,h.at_ i c,List.getD_eq_getElem?_getD,List.getD_eq_getElem?_getD,List.getElem?_append_left (by rw[<- h.len];exact c)]
  ·have e:i=ps.length:=by simp at hi;omega
   subst e;rw[List.getElem_append_right (Nat.le_refl _)];simp only[Nat.sub_self,List.getElem_singleton];rw[hp,List.getD_eq_getElem?_getD,List.getElem?_append_right (by rw[h.len];exact Nat.le_refl _),h.len];simp
theorem dH.set {H0 H:Hp}{ps:List Addr}{R:List (List Nat)}(h:dH H0 H ps R){i j z:Nat}(hi:i < ps.length):dH H0 (upd H ps[i] (.lst ((Ts (ones (R.getD i []))).set j (.str (S [z]))))) ps (setAt R i j z):=by
 have e:(Ts (ones (R.getD i []))).set j (.str (S [z]))=Ts (ones ((R.getD i []).set j z)):=by
  show List.set (((R.getD i []).map λc=>[c]).map λl=>V.str (S l)) j (V.str (S [z]))=((List.set (R.getD i []) j z).map λc=>[c]).map λl=>V.str (S l);rw[List.map_set,List.map_set]
 rw[e];refine⟨by unfold setAt;rw[List.length_set];exact h.len,h.nd,h.fr,λk hk=>?_⟩;by_cases c:k=i
 ·subst c
  rw[ao];unfold setAt;rw[List.getD_eq_getElem?_getD (l:=R.set _ _),List.getElem?_set_self (by rw[<- h.len];exact hi)];rfl
 ·rw[aP (λz=>c ((List.getElem_inj h.nd).mp z)),h.at_ k hk]
  unfold setAt;rw[List.getD_eq_getElem?_getD (l:=R.set _ _),List.getElem?_set_ne (λz=>c z.symm),<- List.getD_eq_getElem?_getD]
noncomputable def Lw (C:Addr):Sp:=λvs H Q _=>∃(p t:Addr) (as:List Addr) (ts:List aY) (r w:Nat) (j3 y8:List (List Nat)) (bi bj:Nat),vs=[.ref p,.ref t]/\eE C H p r w j3 y8 bi bj/\H t=some (.tup (as.map V.ref))/\cM H as ts/\(∀t∈ts,inB r w t)/\
 ∀(p':Addr) (H':Hp),Same H H'->eE C H' p' r w (bM j3 ts) y8 bi bj->Q (.ref p') H'
theorem abq {f C f0:Addr}{fd jk:FuncData}(F:gk K "laid" "Board.laid" iH f fd)(T:gj K C)(iJ:mg "list"=none)(bU:mg "tuple"=none)(CQ:mg "Board"=some (.ref C))(G3:Mk K C f0)(G4:cD P w K mg base fK 5 f0 jk ["self","rows","marks","begin"] (GR C))(G5:Binds K jk ["self","rows","marks","begin"] []) :
  cD P w K mg base fK 8 f fd ["self","laying"] (Lw C):=by
 refine F.dh iR (λvs H Q E h=>?_) (λcdv A outer s H vs Q E hr h=>?_)
 ·obtain⟨p,t,as,ts,r,w,j3,y8,bi,bj,rfl,_⟩:=h
  rfl
 ·obtain⟨p,t,as,ts,r,w,j3,y8,bi,bj,rfl,BA,ht,hL,hin,q⟩:=h
  obtain⟨⟨dx,pr,pm,pb,hx,hpr,hpm,hpb⟩,B⟩:=BA;have r9:=B.r9;have w9:=B.w9;have hbr:=B.br;refine⟨_,(au (vH (ix:=2) (ns:=["row"]) iR.nd rfl (Or.inl rfl) rfl (dR.of ["self","laying","lines",".3","column","sign"] [3] (by kernel_rfl)) (dF (jU (qv 0) rfl)) (λ_ _ _ _ _=>(oO (show (["row","self","laying","lines",".3","column","sign"]:List Str).Nodup by decide +kernel) rfl (by rfl))) (λ_ _ _ _ _=>cu) (λ_ _ _ _ _=>(eO (wB rfl) (by rfl) iJ PyProof.Rows.boot_list (aj (qv 0) ak)))) (au (dM PassesOwn.never rfl (dF (qv 1)) (pZ rfl (cB (bK (i:=3) iR.nd rfl (Or.inl rfl)) (cB (bK (i:=4) iR.nd rfl (Or.inl rfl)) (cB (bK (i:=5) iR.nd rfl (Or.inl rfl)) lq)))) (aA (pY (qv 5) (sO (aL dj (qv 2) (qv 3) (λ_ _=>rfl)) (qv 4) set_list)))) (aA (aX (Gx G3 G4 (hr.mono (by decide)) rfl CQ G5 .nil mj (aj (eO gO (by rfl) bU PyProof.Rows.boot_tuple (aj (iQ rfl (gQ.of iR.nd (by kernel_rfl)) (fG (qv 2)) (λ_ _ _ _ _=>cu) (λ_ _ _ _ _=>(adq K PySem.F.plainAttrs_str PySem.F.slot_str_join PySem.F.type_str_join (Yj K) (bN [] (by decide +kernel)) (aj (qv 0) ak)))) ak)) (aj (jU (qv 0) rfl) (aj (jU (qv 0) rfl) ak)))))))),?_⟩;refine⟨_,rfl,p,C,dx,_,_,rfl,hx,T.cl,T.nr,rfl,pr,rfl,⟨_,aK.of hpr⟩,λM hM=>qP (f:=dB [3] 0) (tt:=fJ) (xs:=Ts j3) (λi ys H2=>∃ps:List Addr,ys=ps.map V.ref/\H2 M=some (.lst ys)/\Same H H2/\dH H H2 ps (j3.take i)/\M∉ps)
   ⟨[],rfl,ao,Same.upd hM,⟨by simp,List.nodup_nil,λp h=>by simp at h,λi h=>by simp at h⟩,by simp⟩ (λi ys H2 _ h=>by obtain⟨_,_,_,sm,_⟩:=h;exact aK.of (sm _ _ hpr)) ?_ ?_⟩
  ·rintro i x ys H2 hi ⟨ps,rfl,iI,sm,lW,nM⟩
   obtain⟨l,hl,rfl⟩:=sY hi;have hil:i < (Ts j3).length:=(List.getElem?_eq_some_iff.mp hi).1;have tu:l.length=w:=hbr.gJ _ (List.mem_of_getElem? hl);have gR:(Ts j3).length=r:=by rw[List.length_map,hbr.len]
   have hpl:ps.length<=9:=by rw[lW.len,List.length_take,hbr.len];omega
   refine Ry ⟨_,rfl,l,rfl,by omega,λc hc=>?_⟩;have Lx:M≠c:=λz=>by rw[<- z,iI]at hc;cases hc
   have ncp:c∉ps:=λz=>by
    obtain⟨k,hk,e⟩:=List.mem_iff_getElem.mp z;have:=lW.at_ k hk;rw[e,hc]at this;cases this
   refine⟨by rw[aP Lx];exact iI,by rw[List.length_map];exact aD (by omega),cX.mk hil ⟨ps++[c],by simp,ao,(sm.bJ (sm.free hc)).bJ hM,?_,?_⟩⟩
   ·rw[show j3.take (i+1)=j3.take i++[l] by rw[List.take_add_one,hl];rfl]
    refine dH.mv ((lW.Ji (Same.upd hc)).snoc ncp (sm.free hc) ao) λy hy=>aP λz=>?_;rcases List.mem_append.mp hy with u | u
    ·exact nM (z ▸ u)
    ·exact Lx (z.symm.trans (List.mem_singleton.mp u))
   ·intro z
    rcases List.mem_append.mp z with u | u
    ·exact nM u
    ·exact Lx (List.mem_singleton.mp u)
  ·rintro ys H2 ⟨ps,rfl,iI,sm,lW,nM⟩
   rw[List.take_of_length_le (by rw[List.length_map];exact Nat.le_refl _)]at lW;refine⟨_,rfl,t,rfl,⟨_,aK.of (sm _ _ ht)⟩,rK (K:=K) (a:=t) (xs:=as.map V.ref) (λi σ H3=>∃v3 v4 v5:Option V,σ=[some (.ref p),some (.ref t),some (.ref M),v3,v4,v5]/\Same H H3/\H3 M=some (.lst (ps.map V.ref))/\dH H H3 ps (bM j3 (ts.take i)))
    ⟨none,none,none,rfl,sm,iI,lW⟩ (λi σ H3 _ h=>by obtain⟨_,_,_,_,sm,_⟩:=h;exact aK.of (sm _ _ ht)) ?_ ?_⟩
   ·rintro i x σ H3 hx' ⟨v3,v4,v5,rfl,sm3,yG,jQ⟩
    rw[List.getElem?_map]at hx';have hi:i < as.length:=by
     rcases Nat.lt_or_ge i as.length with z | z
     ·exact z
     ·rw[List.getElem?_eq_none z]at hx';cases hx'
    rw[List.getElem?_eq_getElem hi]at hx';have hx':V.ref as[i]=x:=Option.some.inj hx';subst hx';obtain⟨u,eu,hU⟩:=hL.get hi;have hum:=List.mem_of_getElem? eu;obtain⟨u1,u2,u3⟩:=hin u hum;have hb3:Blk r w (bM j3 (ts.take i)):=jP hbr λy hy=>hin y (List.mem_of_mem_take hy);have hpl:ps.length=r:=by rw[jQ.len,hb3.len]
    have hps:u.1 < ps.length:=by omega
    refine⟨as[i],_,rfl,aK.of (sm3 _ _ hU),rfl,_,_,rfl,_,_,rfl,_,_,rfl,rfl,?_⟩;refine⟨_,rfl,_,rfl,_,rfl,M,_,_,.ref ps[u.1],rfl,rfl,aN.of yG,aB (by simp[hps]),_,rfl,ps[u.1],_,_,u.2.1,rfl,rfl,jQ.at_ u.1 hps,?_,?_⟩
    ·have:((bM j3 (ts.take i)).getD u.1 []).length=w:=by
      rw[List.getD_eq_getElem?_getD,List.getElem?_eq_getElem (by rw[hb3.len];exact u1)];exact hb3.gJ _ (List.getElem_mem _)
     unfold yD;rw[List.length_map,List.length_map,this,if_pos (by omega),if_pos (by omega)];congr 1
    ·refine⟨_,_,_,rfl,sm3.bJ (jQ.fr _ (List.getElem_mem _)),?_,?_⟩
     ·have ne:M≠ps[u.1]:=λz=>nM (by rw[z];exact List.getElem_mem _)
      rw[aP ne];exact yG
     ·rw[show bM j3 (ts.take (i+1))=setAt (bM j3 (ts.take i)) u.1 u.2.1 u.2.2 by rw[List.take_add_one,eu];exact Jh _ _ _]
      exact jQ.set hps
   ·rintro σ H3 ⟨v3,v4,v5,rfl,sm3,yG,jQ⟩
    rw[List.take_of_length_le (by rw[List.length_map,hL.len];exact Nat.le_refl _)]at jQ;have B':=YJ B hin;have hpl:ps.length=r:=by rw[jQ.len,B'.br.len]
    refine⟨_,rfl,M,rfl,⟨_,aN.of yG⟩,λN hN=>Ir (xs:=ps.map V.ref) (λi ys H4=>ys=Ts ((bM j3 ts).take i)/\H4 N=some (.lst ys)/\Same H3 H4) ⟨rfl,ao,Same.upd hN⟩ (λi ys H4 _ h=>aN.of (h.2.2 _ _ yG)) ?_ ?_⟩
    ·rintro i x ys H4 hi ⟨rfl,hN4,lX⟩
     rw[List.getElem?_map]at hi;have hi':i < ps.length:=by
      rcases Nat.lt_or_ge i ps.length with z | z
      ·exact z
      ·rw[List.getElem?_eq_none z]at hi;cases hi
     rw[List.getElem?_eq_getElem hi']at hi;have hi:V.ref ps[i]=x:=Option.some.inj hi;subst hi;have Fy:i < (bM j3 ts).length:=by rw[<- jQ.len];exact hi'
     have hg:(bM j3 ts).getD i []=(bM j3 ts)[i]:=by rw[List.getD_eq_getElem?_getD,List.getElem?_eq_getElem Fy];rfl
     have hw:(bM j3 ts)[i].length=w:=B'.br.gJ _ (List.getElem_mem _);have hat:=jQ.at_ i hi';rw[hg]at hat;refine⟨rfl,_,rfl,ps[i],ones (bM j3 ts)[i],rfl,rfl,aN.of (lX _ _ hat),by rw[pK,hw];omega,hN4,?_,cX.mk (by rw[List.length_map];exact hi') ⟨?_,ao,lX.bJ hN⟩⟩
     ·rw[List.length_map,List.length_take];exact aD (by omega)
     ·rw[pK,oW,List.take_add_one,List.getElem?_eq_getElem Fy];rfl
    ·rintro ys H4 ⟨rfl,hN4,lX⟩
     rw[List.take_of_length_le (by rw[List.length_map,jQ.len];exact Nat.le_refl _)]at hN4;refine⟨N,_,rfl,.inl ⟨aN.of hN4,λl hl=>?_⟩⟩;have s5:=(sm3.trans lX).bJ (o:=.tup (Ts (bM j3 ts))) ((sm3.trans lX).free hl);refine⟨_,rfl,p,C,dx,_,_,rfl,s5 _ _ hx,T.cl,T.nm,rfl,_,rfl,p,C,dx,_,_,rfl,s5 _ _ hx,T.cl,T.nb,rfl,λx dy nx ndx sU=>?_⟩;have s6:Same (upd H4 l (.tup (Ts (bM j3 ts)))) (upd (upd (upd H4 l (.tup (Ts (bM j3 ts)))) dy (HO.own x)) x (HO.ins C dy [])):=λb o e=>by rw[aP (bV e nx),aP (bV e ndx)];exact e
     refine⟨x,dy,l,pm,pb,r,w,bM j3 ts,y8,bi,bj,rfl,ao,s6 _ _ ao,s6 _ _ (s5 _ _ hpm),s6 _ _ (s5 _ _ hpb),B',λH5 kp hx5=>⟨rfl,?_⟩⟩;have s7:Same (upd H4 l (.tup (Ts (bM j3 ts)))) H5:=λb o e=>kp b o (s6 b o e) (bV e nx);exact q x H5 (s5.trans s7) ⟨⟨dy,l,pm,pb,hx5,s7 _ _ ao,s7 _ _ (s5 _ _ hpm),s7 _ _ (s5 _ _ hpb)⟩,B'⟩
end
end My
end
section
namespace My
open PySem L2
section
variable {P:Program}{w:World}{K:W.Frag}{mg:Str->Option Value}{base:Heap}
noncomputable def Qu:Sp:=λvs H Q _=>∃(p:Addr) (j3:List (List Nat)) (r w:Nat) (i j:Int),vs=[.ref p,.int i,.int j]/\H p=some (.tup (Ts j3))/\Blk r w j3/\1<=r/\r<=9/\w<=9/\∀(b:Bool) (H':Hp),Same H H'->Q (.bl b) H'
theorem YK {t1 t2 t3 t4:Addr}{a1 b1 a2 b2 a3 b3 a4 b4:Int}{H:Hp}(h1:H t1=some (.tup [.int a1,.int b1]))(h2:H t2=some (.tup [.int a2,.int b2]))(h3:H t3=some (.tup [.int a3,.int b3]))(h4:H t4=some (.tup [.int a4,.int b4]))
  {n:Nat} {x:V} (h:([V.ref t1,V.ref t2,V.ref t3,V.ref t4]:List V)[n]?=some x):∃(t:Addr) (u v:Int),x=.ref t/\H t=some (.tup [.int u,.int v]):=by
 match n,h with
 | 0,h=>exact⟨t1,_,_,(Option.some.inj h).symm,h1⟩
 | 1,h=>exact⟨t2,_,_,(Option.some.inj h).symm,h2⟩
 | 2,h=>exact⟨t3,_,_,(Option.some.inj h).symm,h3⟩
 | 3,h=>exact⟨t4,_,_,(Option.some.inj h).symm,h4⟩
 | n+4,h=>exact absurd h (by simp)
noncomputable def j7 (j3:List (List Nat))(r w:Nat)(H:Hp)(a:Addr):Prop:=∃i j:Nat,H a=some (.tup [.int i,.int j])/\i < r/\j < w/\cell j3 i j=46
theorem j7.ji {j3:List (List Nat)}{r w:Nat}{H H':Hp}{a:Addr}(h:j7 j3 r w H a)(k:∀a xs,H a=some (.tup xs)->H' a=some (.tup xs)):j7 j3 r w H' a:=by
 obtain⟨i,j,e,b⟩:=h;exact⟨i,j,k _ _ e,b⟩
theorem Jj {j3:List (List Nat)}{H:Hp}{r w:Nat}:∀{fs:List Addr},(∀a∈fs,j7 j3 r w H a)->∃ds,dO K H 1 ds (fs.map V.ref)/\ds.length=fs.length
 | [],_=>⟨[],.nil,rfl⟩
 | a::fs,h=>by
  obtain⟨ds,h1,h2⟩:=Jj (fs:=fs) λx hx=>h x (List.mem_cons_of_mem _ hx);obtain⟨i,j,e,_,_⟩:=h a List.mem_cons_self;exact⟨.tup [.int i,.int j]::ds,.cons (.tup (aK.of e) (.cons (.int _) (.cons (.int _) .nil))) h1,by simp[h2]⟩
noncomputable def Ly:Sp:=λvs H Q _=>∃(p:Addr) (j3:List (List Nat)) (r w:Nat) (c:Int),vs=[.ref p,.int c]/\H p=some (.tup (Ts j3))/\Blk r w j3/\1<=r/\r<=9/\1<=w/\w<=9/\(∃i j,i < r/\j < w/\cell j3 i j=46)/\
 ∀(t:Addr) (i j:Nat) (H':Hp),Same H H'->H' t=some (.tup [.int i,.int j])->i < r->j < w->cell j3 i j=46->Q (.ref t) H'
theorem mU {H:Hp}{M:Addr}{ys zs:List V}(hM:H M=some (.lst ys)):∀a xs,H a=some (.tup xs)->upd H M (.lst zs) a=some (.tup xs):=λa xs e=>by
 have ne:a≠M:=λz=>by rw[z,hM]at e;cases e
 rw[aP ne];exact e
theorem VP (D:aJ K mg "_law_starts" wF ["_law_rows_here","_law_cell"])(aU:mg "len"=none)(cJ:mg "range"=none)(zx:Def P w K mg base "_law_is_near" 1 ["_law_rows_here","_law_row","_law_column"] Qu):Def P w K mg base "_law_starts" 2 ["_law_rows_here","_law_cell"] Ly:=by
 refine D.dh qj (λvs H Q E h=>?_) (λf cdv A outer s H vs Q E hr h=>?_)
 ·obtain⟨p,j3,r,w,c,rfl,_⟩:=h
  rfl
 ·obtain⟨p,j3,r,w,c,rfl,hp,hb,r1,r9,w1,w9,hfree,q⟩:=h
  have gR:(Ts j3).length=r:=by rw[List.length_map,hb.len]
  have h0:0 < j3.length:=by rw[hb.len];omega
  have hw0:j3[0].length=w:=hb.gJ _ (List.getElem_mem _);refine⟨_,(au (aM (i:=2) qj.nd rfl (Or.inl rfl) (fZ ak)) (au (aM (i:=3) qj.nd rfl (Or.inl rfl) (fZ ak)) (au (dM PassesOwn.never rfl (jA (by rfl) cJ (aj (aH bI (by rfl) aU PySem.boot_len (aj (qv 0) ak)) ak)) (bK (i:=4) qj.nd rfl (Or.inl rfl)) (aA (dM PassesOwn.never rfl (jA (by rfl) cJ (aj (aH bY (by rfl) aU PySem.boot_len (aj (aL aO (qv 0) aq (λ_ _=>rfl)) ak)) ak)) (bK (i:=5) qj.nd rfl (Or.inl rfl)) (aA (bO (bx sI (aL sE (aL aO (qv 0) (qv 4) (λ_ _=>rfl)) (qv 5) (λ_ _=>rfl)) (bN [46] (by decide +kernel)) (bh _)) (au (dY (gA PySem.F.plainAttrs_list PySem.F.slot_list_append PySem.F.type_list_append g_ (qv 2) (aj (bR (aj (qv 4) (aj (qv 5) ak))) ak))) (aA (bO (cO (bF zx (hr.mono (by decide)) rfl (aj (qv 0) (aj (qv 4) (aj (qv 5) ak))))) (aA (dY (gA PySem.F.plainAttrs_list PySem.F.slot_list_append PySem.F.type_list_append g_ (qv 3) (aj (bR (aj (qv 4) (aj (qv 5) ak))) ak)))) bB))) bB))))) (au (bO (QW.qt (iB (bx (Vi hr.units) (qv 3) (fZ ak) (bh _)) (jW (bx Rc (aG bT (qv 1) aq) aq (bh _))))) (aA (aX (aL dj (qv 3) (aG bT (aG cQ (qv 1) aq) (aH bI (by rfl) aU PySem.boot_len (aj (qv 3) ak))) (λ_ _=>rfl)))) bB) (aA (aX (aL dj (qv 2) (aG bT (aG cQ (qv 1) aq) (aH bI (by rfl) aU PySem.boot_len (aj (qv 2) ak))) (λ_ _=>rfl)))))))),?_⟩;refine⟨by show 0<=sizeLine;decide,λF hF=>⟨by show 0<=sizeLine;decide,λG hG=>?_⟩⟩;have sF:Same H (upd H F (HO.lst [])):=Same.upd hF;have hG0:=sF.free hG;have nFG:F≠G:=λz=>by rw[<- z,ao]at hG;cases hG
  have sG:=sF.bJ (o:=HO.lst []) hG0;refine⟨_,rfl,p,_,rfl,.inr (aK.of (sG _ _ hp)),_,rfl,by rw[gR];omega,by rw[gR];omega,?_⟩;rw[gR,Int.toNat_natCast];refine gC (lo:=0) (n:=r) (λi σ H2=>∃(v4 v5:Option V) (fs gs:List Addr),σ=[some (.ref p),some (.int c),some (.ref F),some (.ref G),v4,v5]/\Same H H2/\H2 F=some (.lst (fs.map V.ref))/\H2 G=some (.lst (gs.map V.ref))/\(∀a∈fs,j7 j3 r w H2 a)/\(∀a∈gs,j7 j3 r w H2 a)/\fs.length<=i*9/\gs.length<=i*9/\∀i' j',i' < i->j' < w->cell j3 i' j'=46->fs≠[])
   ⟨none,none,[],[],rfl,sG,by rw[aP nFG,ao];rfl,ao,λa h=>by simp at h,λa h=>by simp at h,Nat.zero_le _,Nat.zero_le _,λi' j' h=>by omega⟩ ?_ ?_
  ·rintro i σ H2 hi ⟨v4,v5,fs,gs,rfl,sm,yH,hG2,okf,okg,lf,lg,hsome⟩
   refine⟨_,rfl,p,_,_,.str (S j3[0]),rfl,rfl,aK.of (sm _ _ hp),aB (j:=0) (d_ (by simp[h0])),_,rfl,Nat.le_of_lt (aD (by omega)),_,rfl,by rw[hw0];omega,by rw[hw0];omega,?_⟩;rw[hw0,Int.toNat_natCast];refine gC (lo:=0) (n:=w) (λj σ H3=>∃(v5:Option V) (fs gs:List Addr),σ=[some (.ref p),some (.int c),some (.ref F),some (.ref G),some (.int (0+(i:Int))),v5]/\Same H H3/\H3 F=some (.lst (fs.map V.ref))/\H3 G=some (.lst (gs.map V.ref))/\(∀a∈fs,j7 j3 r w H3 a)/\(∀a∈gs,j7 j3 r w H3 a)/\fs.length<=i*9+j/\gs.length<=i*9+j/\∀i' j',(i' < i\/(i'=i/\j' < j))->j' < w->cell j3 i' j'=46->fs≠[])
    ⟨v5,fs,gs,rfl,sm,yH,hG2,okf,okg,lf,lg,λi' j' h h1 h2=>hsome i' j' (by omega) h1 h2⟩ ?_ ?_
   ·rintro j σ H3 hj ⟨v5,fs,gs,rfl,s3,B_,zy,CV,zA,lf3,lg3,Lz⟩
    have g1:i < j3.length:=by rw[hb.len];exact hi
    have hwi:j3[i].length=w:=hb.gJ _ (List.getElem_mem _);have g2:j < j3[i].length:=by omega
    have hce:=cell_eq g1 g2;refine⟨_,rfl,_,rfl,p,_,_,.str (S j3[i]),rfl,rfl,aK.of (s3 _ _ hp),by rw[Int.zero_add];exact aB (d_ (by simp[g1])),_,rfl,j3[i],_,j3[i][j],rfl,rfl,Nat.le_of_lt (aD (by omega)),by rw[Int.zero_add];exact aB (by simp[g2]),[j3[i][j]],[46],rfl,rfl,_,rfl,?_⟩;rw[<- hce];by_cases hc:cell j3 i j=46
    ·rw[decide_eq_true (show [cell j3 i j]=[46] by rw[hc])]
     refine bw ⟨_,rfl,.inl ⟨rfl,_,aN.of B_⟩,_,rfl,_,rfl,by show 2<=sizeLine;decide,λb hbn=>?_⟩;have k4:Same H3 (upd H3 b (HO.tup [.int (0+(i:Int)),.int (0+(j:Int))])):=Same.upd hbn;have hF4:=k4 _ _ B_;refine⟨F,_,_,rfl,rfl,hF4,by rw[List.length_map];exact aD (by omega),?_⟩;have hPb:j7 j3 r w (upd (upd H3 b (HO.tup [.int (0+(i:Int)),.int (0+(j:Int))])) F (HO.lst (fs.map V.ref++[V.ref b]))) b:=⟨i,j,mU hF4 _ _ (by rw[ao,Int.zero_add,Int.zero_add]),hi,hj,hc⟩
     have YL:∀a∈fs++[b],j7 j3 r w (upd (upd H3 b (HO.tup [.int (0+(i:Int)),.int (0+(j:Int))])) F (HO.lst (fs.map V.ref++[V.ref b]))) a:=λa ha=>by
      rcases List.mem_append.mp ha with z | z
      ·exact((CV a z).ji λa xs e=>k4 a _ e).ji (mU hF4)
      ·rw[List.mem_singleton.mp z];exact hPb
     have YM:∀a∈gs,j7 j3 r w (upd (upd H3 b (HO.tup [.int (0+(i:Int)),.int (0+(j:Int))])) F (HO.lst (fs.map V.ref++[V.ref b]))) a:=λa ha=>((zA a ha).ji λa xs e=>k4 a _ e).ji (mU hF4);have Qv:upd (upd H3 b (HO.tup [.int (0+(i:Int)),.int (0+(j:Int))])) F (HO.lst (fs.map V.ref++[V.ref b])) F=some (.lst ((fs++[b]).map V.ref)):=by rw[ao];simp
     have hG5:upd (upd H3 b (HO.tup [.int (0+(i:Int)),.int (0+(j:Int))])) F (HO.lst (fs.map V.ref++[V.ref b])) G=some (.lst (gs.map V.ref)):=by rw[aP nFG.symm];exact k4 _ _ zy
     have s5:Same H (upd (upd H3 b (HO.tup [.int (0+(i:Int)),.int (0+(j:Int))])) F (HO.lst (fs.map V.ref++[V.ref b]))):=(s3.trans k4).bJ hF;generalize upd (upd H3 b (HO.tup [.int (0+(i:Int)),.int (0+(j:Int))])) F (HO.lst (fs.map V.ref++[V.ref b]))=H5 at YL YM Qv hG5 s5 ⊢;refine⟨_,rfl,_,rfl,_,rfl,p,j3,r,w,(i:Int),(j:Int),by show [V.ref p,V.int (0+(i:Int)),V.int (0+(j:Int))]=_;rw[Int.zero_add,Int.zero_add],s5 _ _ hp,hb,r1,r9,w9,λbb H6 s6=>⟨_,rfl,?_⟩⟩;refine jJ (λ_=>?_) (λ_=>?_)
     ·have hG6:=s6 _ _ hG5
      refine⟨_,rfl,.inl ⟨rfl,_,aN.of hG6⟩,_,rfl,_,rfl,by show 2<=sizeLine;decide,λb2 hb2=>?_⟩;have k7:Same H6 (upd H6 b2 (HO.tup [.int (0+(i:Int)),.int (0+(j:Int))])):=Same.upd hb2;have hG7:=k7 _ _ hG6;refine⟨G,_,_,rfl,rfl,hG7,by rw[List.length_map];exact aD (by omega),?_⟩;refine⟨_,fs++[b],gs++[b2],rfl,((s5.trans s6).trans k7).bJ hG0,by rw[aP nFG];exact k7 _ _ (s6 _ _ Qv),by rw[ao];simp,λa ha=>?_,λa ha=>?_,by simp;omega,by simp;omega,λ_ _ _ _ _=>by simp⟩
      ·exact(((YL a ha).ji λa xs e=>s6 a _ e).ji λa xs e=>k7 a _ e).ji (mU hG7)
      ·rcases List.mem_append.mp ha with z | z
       ·exact(((YM a z).ji λa xs e=>s6 a _ e).ji λa xs e=>k7 a _ e).ji (mU hG7)
       ·rw[List.mem_singleton.mp z]
        exact⟨i,j,mU hG7 _ _ (by rw[ao,Int.zero_add,Int.zero_add]),hi,hj,hc⟩
     ·exact⟨_,fs++[b],gs,rfl,s5.trans s6,s6 _ _ Qv,s6 _ _ hG5,λa ha=>(YL a ha).ji λa xs e=>s6 a _ e,λa ha=>(YM a ha).ji λa xs e=>s6 a _ e,by simp;omega,by omega,λ_ _ _ _ _=>by simp⟩
    ·rw[decide_eq_false (show ¬[cell j3 i j]=[46] from λz=>hc (by injection z))]
     refine aV ⟨_,fs,gs,rfl,s3,B_,zy,CV,zA,by omega,by omega,λi' j' h h1 h2=>?_⟩;by_cases he:i'=i/\j'=j
     ·rw[he.1,he.2]at h2;exact absurd h2 hc
     ·exact Lz i' j' (by omega) h1 h2
   ·rintro σ H3 ⟨v5,fs,gs,rfl,s3,B_,zy,CV,zA,lf3,lg3,Lz⟩
    exact⟨_,_,fs,gs,rfl,s3,B_,zy,CV,zA,by omega,by omega,λi' j' h h1 h2=>Lz i' j' (by omega) h1 h2⟩
  ·rintro σ H2 ⟨v4,v5,fs,gs,rfl,sm,yH,hG2,okf,okg,lf,lg,hsome⟩
   have afE:fs≠[]:=by
    obtain⟨i,j,hi,hj,hc⟩:=hfree;exact hsome i j hi hj hc
   have pick:∀(H3:Hp) (hs:List Addr) (G':Addr),hs≠[]->Same H H3->H3 G'=some (.lst (hs.map V.ref))->(∀a∈hs,j7 j3 r w H3 a)->∃a,m6 (hs.map V.ref) (c/4%((hs.map V.ref).length:Int))=some (.ref a)/\(0:Int) < ((hs.map V.ref).length:Int)/\Q (.ref a) H3:=λH3 hs G' hne sm3 zy ok=>by
    have hl0:0 < hs.length:=List.length_pos_iff.mpr hne;obtain⟨x,hx,hm⟩:=rN (xs:=hs.map V.ref) (n:=(hs.map V.ref).length) rfl (by rw[List.length_map];exact hl0) (c/4);obtain⟨a,ha,rfl⟩:=List.mem_map.mp hm;obtain⟨i,j,e,hi,hj,hc⟩:=ok a ha;exact⟨a,hx,by rw[List.length_map];omega,q a i j H3 sm3 e hi hj hc⟩
   refine⟨_,rfl,by show 0<=sizeLine;decide,λe he=>?_⟩;have k3:Same H2 (upd H2 e (HO.lst [])):=Same.upd he;have CV:∀a∈fs,j7 j3 r w (upd H2 e (HO.lst [])) a:=λa ha=>(okf a ha).ji λa xs z=>k3 a _ z;have zA:∀a∈gs,j7 j3 r w (upd H2 e (HO.lst [])) a:=λa ha=>(okg a ha).ji λa xs z=>k3 a _ z;obtain⟨es,hes,hel⟩:=Jj (K:=K) zA;have he3:upd H2 e (HO.lst []) e=some (.lst []):=ao;have B_:=k3 _ _ yH;have zy:=k3 _ _ hG2;have s3:=sm.trans k3;generalize upd H2 e (HO.lst [])=H3 at k3 CV zA hes he3 B_ zy s3 ⊢;refine⟨2,.lst es,.lst [],by decide,.lst (aN.of zy) hes,.lst (aN.of he3) .nil,_,rfl,?_⟩;obtain⟨af,hf1,hf2,hf3⟩:=pick H3 fs F afE s3 B_ CV;have last:Xu (pR (ac5 K) (gU 2) (pR (rI (λ_ j=>0 < j) λi j=>.int (i%j)) (pR (rI acP λi j=>.int (i/j)) (gU 1) (tC (.int 4))) (Kr (λxs H Q=>∃p ys,xs=[.ref p]/\(aN K H p ys\/aK K H p ys)/\Q (.int ys.length) H) (k_ (gU 2) oH)))) { nx:=λx H'=>Q V.non H',rt:=Q } [some (.ref p),some (.int c),some (.ref F),some (.ref G),v4,v5] H3:=
    ⟨_,rfl,_,rfl,_,_,rfl,rfl,⟨by decide,by decide⟩,_,rfl,F,_,rfl,.inl (aN.of B_),_,_,rfl,rfl,hf2,F,_,_,_,rfl,rfl,aN.of B_,hf1,hf3⟩
   by_cases hz:gs=[]
   ·have ez:es=[]:=List.eq_nil_of_length_eq_zero (by rw[hel,hz];rfl)
    subst ez;simp only[if_true,decide_true,Bool.not_true];exact aV (aV last)
   ·have ez:¬Dt.lst es=Dt.lst []:=λy=>hz (by
     injection y with y;rw[y]at hel;exact List.eq_nil_of_length_eq_zero hel.symm)
    simp only[if_true,ez,decide_false,Bool.not_false];obtain⟨ag,hg1,hg2,hg3⟩:=pick H3 gs G hz s3 zy zA;refine⟨_,rfl,_,_,rfl,rfl,(by show (0:Int) < 4;decide),_,_,rfl,rfl,_,rfl,jJ (λ_=>?_) (λ_=>last)⟩;exact⟨_,rfl,_,rfl,_,_,rfl,rfl,⟨by decide,by decide⟩,_,rfl,G,_,rfl,.inl (aN.of zy),_,_,rfl,rfl,hg2,G,_,_,_,rfl,rfl,aN.of zy,hg1,hg3⟩
end
end My
end
section
namespace My
open PySem L2
section
variable {P:Program}{w:World}{K:W.Frag}{mg:Str->Option Value}{base:Heap}
theorem adT {c:Nat}(h:lG c):lG (PyProof.Rows.lo1 c):=by
 unfold PyProof.Rows.lo1
 split
 ·rename_i h2
  exact VG ⟨by omega,by omega⟩
 ·exact h
theorem aar {i:Nat}:∀{ts:List aY},(∀t∈ts,t.1=i)->ts.Pairwise (λa b=>a.1=b.1)
 | [],_=>.nil
 | t::ts,h=>.cons (λb hb=>by rw[h t List.mem_cons_self,h b (List.mem_cons_of_mem _ hb)]) (aar λb hb=>h b (List.mem_cons_of_mem _ hb))
noncomputable def Fz (ts:List aY):Prop:=ts.Pairwise (λa b=>a.1=b.1)\/ts.Pairwise (λa b=>a.1 < b.1)
noncomputable def Sd (ts:List aY):Prop:=ts.Pairwise (λa b=>a.1=b.1/\a.2.1 < b.2.1)\/ts.Pairwise (λa b=>a.1 < b.1)
noncomputable def FJ:Sp:=λvs H Q _=>∃(p:Addr) (j3:List (List Nat)) (r w:Nat) (c:Int) (ls:List Nat) (m:Nat),vs=[.ref p,.int c,.str (S ls),.int m]/\H p=some (.tup (Ts j3))/\Blk r w j3/\1<=r/\r<=9/\1<=w/\w<=9/\(∃i j,i < r/\j < w/\cell j3 i j=46)/\R0 ls/\1<=m/\m<=7/\
 ∀(t:Addr) (as:List Addr) (ts:List aY) (H':Hp),Same H H'->H' t=some (.tup (as.map V.ref))->cM H' as ts->(∀t∈ts,inB r w t)->ts≠[]->ts.length<=7->Sd ts->Q (.ref t) H'
theorem O1 (D:aJ K mg "_law_straight" rz ["_law_rows_here","_law_cell","_law_letters_here","_law_many"])(aU:mg "len"=none)(j6:mg "int"=none)(bU:mg "tuple"=none)(YQ:Def P w K mg base "_law_starts" 2 ["_law_rows_here","_law_cell"] Ly)(qp:Def P w K mg base "_law_draw" 1 ["_law_cell","_law_j"] zp)(Lp:Def P w K mg base "_law_sign" 1 ["_law_cell","_law_letters_here"] R7):Def P w K mg base "_law_straight" 3 ["_law_rows_here","_law_cell","_law_letters_here","_law_many"] FJ:=by
 refine D.dh cZ (λvs H Q E h=>?_) (λf cdv A outer s H vs Q E hr h=>?_)
 ·obtain⟨p,j3,r,w,c,ls,m,rfl,_⟩:=h
  rfl
 ·obtain⟨p,j3,r,w,c,ls,m,rfl,hp,hb,r1,r9,w1,w9,hfree,hA,m1,m7,q⟩:=h
  have gR:(Ts j3).length=r:=by rw[List.length_map,hb.len]
  have h0:0 < j3.length:=by rw[hb.len];omega
  have hw0:j3[0].length=w:=hb.gJ _ (List.getElem_mem _);refine⟨_,(au (aM (i:=4) cZ.nd rfl (Or.inl rfl) (aG bT (qv 1) aq)) (au (pY (bF YQ (hr.mono (by decide)) rfl (aj (qv 0) (aj (aG cQ (qv 1) aq) ak))) (pZ rfl (cB (bK (i:=5) cZ.nd rfl (Or.inl rfl)) (cB (bK (i:=6) cZ.nd rfl (Or.inl rfl)) lq)))) (au (aM (i:=7) cZ.nd rfl (Or.inl rfl) (fZ ak)) (au (aM (i:=8) cZ.nd rfl (Or.inl rfl) aq) (au (aM (i:=9) cZ.nd rfl (Or.inl rfl) (aG cQ (qv 1) aq)) (au (gD (Cv PassesOwn.never (QW.qt (iB (bx jG (qv 5) (aH bI (by rfl) aU PySem.boot_len (aj (qv 0) ak)) (bh _)) (iB (bx jG (qv 6) (aH bY (by rfl) aU PySem.boot_len (aj (aL aO (qv 0) aq (λ_ _=>rfl)) ak)) (bh _)) (jW (bx jG (aH bI (by rfl) aU PySem.boot_len (aj (qv 7) ak)) (qv 3) (bh _)))))) (au (gD (bO (bx sI (aL sE (aL aO (qv 0) (qv 5) (λ_ _=>rfl)) (qv 6) (λ_ _=>rfl)) (bN [46] (by decide +kernel)) (bh _)) (au (aM (i:=10) cZ.nd rfl (Or.inl rfl) (bF qp (hr.mono (by decide)) rfl (aj (qv 1) (aj (aG b_ (aH bI (by rfl) aU PySem.boot_len (aj (qv 7) ak)) aq) ak)))) (au (gD (bO (bx gq (aG bT (aG cQ (qv 1) aq) aq) aq (bh _)) (au (aM (i:=10) cZ.nd rfl (Or.inl rfl) (aG bT (qv 9) aq)) (aA (aM (i:=9) cZ.nd rfl (Or.inl rfl) (aG cQ (qv 9) aq)))) bB)) (au (aM (i:=11) cZ.nd rfl (Or.inl rfl) (bF Lp (hr.mono (by decide)) rfl (aj (qv 10) (aj (qv 2) ak)))) (au (gD (bO (bx gq (qv 8) aq (bh _)) (aA (aM (i:=11) cZ.nd rfl (Or.inl rfl) (vD PySem.F.plainAttrs_str PySem.F.slot_str_lower PySem.F.type_str_lower vG (qv 11)))) bB)) (au (aM (i:=8) cZ.nd rfl (Or.inl rfl) (aG b_ (qv 8) (eO Ia (by rfl) j6 PyProof.Rows.boot_int (aj (eY nH (qv 11) (vD PySem.F.plainAttrs_str PySem.F.slot_str_lower PySem.F.type_str_lower vG (qv 11)) (bh _)) ak)))) (aA (dY (gA PySem.F.plainAttrs_list PySem.F.slot_list_append PySem.F.type_list_append g_ (qv 7) (aj (bR (aj (qv 5) (aj (qv 6) (aj (qv 11) ak)))) ak))))))))) bB)) (au (aM (i:=5) cZ.nd rfl (Or.inl rfl) (aG b_ (qv 5) (qv 4))) (aA (aM (i:=6) cZ.nd rfl (Or.inl rfl) (aG fX (aG b_ (qv 6) aq) (qv 4)))))))) (aA (aX (eO gO (by rfl) bU PyProof.Rows.boot_tuple (aj (qv 7) ak)))))))))),?_⟩;refine⟨_,rfl,_,_,rfl,rfl,(by show (0:Int) < 2;decide),?_⟩;obtain⟨wy,ewy,hwy⟩:∃wy:Nat,c%2=(wy:Int)/\wy<=1:=⟨(c%2).toNat,by omega,by omega⟩
  dsimp only;rw[ewy];refine⟨_,rfl,_,rfl,_,_,rfl,rfl,⟨by decide,by decide⟩,p,j3,r,w,_,rfl,hp,hb,r1,r9,w1,w9,hfree,λt0 i0 j0 H1 s1 ht0 hi0 hj0 hc0=>?_⟩;refine⟨t0,_,rfl,aK.of ht0,rfl,_,_,rfl,_,_,rfl,rfl,?_⟩;refine⟨by show 0<=sizeLine;decide,λF hF=>?_⟩;have hF0:=s1.free hF;refine⟨_,rfl,_,_,rfl,rfl,⟨by decide,by decide⟩,?_⟩;refine⟨λσ' H'=>∃(v5 v6 v8 v9 v10 v11:Option V) (as:List Addr) (ts:List aY),σ'=[some (.ref p),some (.int c),some (.str (S ls)),some (.int m),some (.int wy),v5,v6,some (.ref F),v8,v9,v10,v11]/\Same H H'/\H' F=some (.lst (as.map V.ref))/\cM H' as ts/\(∀t∈ts,inB r w t)/\ts≠[]/\ts.length<=7/\Sd ts,?_,?_⟩
  ·refine⟨λmm σ H'=>∃(i j:Nat) (bl re:Int) (v10 v11:Option V) (as:List Addr) (ts:List aY),σ=[some (.ref p),some (.int c),some (.str (S ls)),some (.int m),some (.int wy),some (.int i),some (.int j),some (.ref F),some (.int bl),some (.int re),v10,v11]/\Same H H'/\H' F=some (.lst (as.map V.ref))/\cM H' as ts/\(∀t∈ts,inB r w t)/\ts.length<=m/\(wy=0->ts.Pairwise (λa b=>a.2.1 < b.2.1)/\∀t∈ts,t.1=i/\t.2.1 < j)/\(wy=1->ts.Pairwise (λa b=>a.1 < b.1)/\∀t∈ts,t.1 < i)/\((i=i0/\j=j0/\ts=[])\/ts≠[])/\i<=r/\j<=w/\mm=(r+w)-(i+j),
    ⟨_,i0,j0,_,_,none,none,[],[],rfl,s1.bJ hF0,ao,cM.nil,λt h=>by simp at h,Nat.zero_le _,λ_=>⟨.nil,λt h=>by simp at h⟩,λ_=>⟨.nil,λt h=>by simp at h⟩,.inl ⟨rfl,rfl,rfl⟩,by omega,by omega,rfl⟩,?_⟩
   rintro mm σ H2 ⟨i,j,bl,re,v10,v11,as,ts,rfl,sm,yH,hL,hin,hlen,hl0,hl1,hst,hir,hjw,rfl⟩;have hpS:=aK.of (K:=K) (sm _ _ hp);have hal:=hL.len;have ex:ts≠[]->∃(v5 v6 v8 v9 w10 w11:Option V) (as:List Addr) (ts:List aY),([some (.ref p),some (.int c),some (.str (S ls)),some (.int m),some (.int wy),some (.int i),some (.int j),some (.ref F),some (.int bl),some (.int re),v10,v11]:St)=[some (.ref p),some (.int c),some (.str (S ls)),some (.int m),some (.int wy),v5,v6,some (.ref F),v8,v9,w10,w11]/\Same H H2/\H2 F=some (.lst (as.map V.ref))/\cM H2 as ts/\(∀t∈ts,inB r w t)/\ts≠[]/\ts.length<=7/\Sd ts:=λhne=>by
    refine⟨_,_,_,_,_,_,as,ts,rfl,sm,yH,hL,hin,hne,by omega,?_⟩;by_cases z:wy=0
    ·exact .inl ((aar λt ht=>((hl0 z).2 t ht).1).and (hl0 z).1)
    ·exact .inr (hl1 (by omega)).1
   refine⟨_,rfl,_,rfl,p,_,rfl,.inr hpS,_,_,rfl,rfl,_,rfl,?_⟩;rw[gR];by_cases c1:(i:Int) < (r:Int)
   ·rw[decide_eq_true c1]
    refine bw ⟨_,rfl,_,rfl,p,_,_,.str (S j3[0]),rfl,rfl,hpS,aB (j:=0) (d_ (by simp[h0])),_,rfl,Nat.le_of_lt (aD (by omega)),_,_,rfl,rfl,_,rfl,?_⟩;rw[hw0];by_cases c2:(j:Int) < (w:Int)
    ·rw[decide_eq_true c2]
     refine bw ⟨_,rfl,F,_,rfl,.inl (aN.of yH),_,rfl,_,_,rfl,rfl,_,rfl,?_⟩;rw[List.length_map];by_cases c3:(as.length:Int) < (m:Int)
     ·rw[decide_eq_true c3]
      have g1:i < j3.length:=by rw[hb.len];omega
      have hwi:j3[i].length=w:=hb.gJ _ (List.getElem_mem _);have g2:j < j3[i].length:=by omega
      have hce:=cell_eq g1 g2;refine bw ⟨λσ' H'=>∃(bl re:Int) (v10 v11:Option V) (as:List Addr) (ts:List aY),σ'=[some (.ref p),some (.int c),some (.str (S ls)),some (.int m),some (.int wy),some (.int ((i+wy:Nat):Int)),some (.int ((j+1-wy:Nat):Int)),some (.ref F),some (.int bl),some (.int re),v10,v11]/\Same H H'/\H' F=some (.lst (as.map V.ref))/\cM H' as ts/\(∀t∈ts,inB r w t)/\ts.length<=m/\(wy=0->ts.Pairwise (λa b=>a.2.1 < b.2.1)/\∀t∈ts,t.1=i/\t.2.1<=j)/\(wy=1->ts.Pairwise (λa b=>a.1 < b.1)/\∀t∈ts,t.1<=i)/\ts≠[],?_,?_⟩
      ·rintro σ' H' ⟨bl,re,v10,v11,as,ts,rfl,sm',hF',hL',LC,hlen',Sg,hl1',hne⟩
       refine⟨(r+w)-(i+wy+(j+1-wy)),by omega,i+wy,j+1-wy,bl,re,v10,v11,as,ts,rfl,sm',hF',hL',LC,hlen',λz=>⟨(Sg z).1,λt ht=>?_⟩,λz=>⟨(hl1' z).1,λt ht=>?_⟩,.inr hne,by omega,by omega,rfl⟩
       ·have:=(Sg z).2 t ht;omega
       ·have:=(hl1' z).2 t ht;omega
      refine⟨λσ' H'=>∃(bl re:Int) (v10 v11:Option V) (as:List Addr) (ts:List aY),σ'=[some (.ref p),some (.int c),some (.str (S ls)),some (.int m),some (.int wy),some (.int i),some (.int j),some (.ref F),some (.int bl),some (.int re),v10,v11]/\Same H H'/\H' F=some (.lst (as.map V.ref))/\cM H' as ts/\(∀t∈ts,inB r w t)/\ts.length<=m/\(wy=0->ts.Pairwise (λa b=>a.2.1 < b.2.1)/\∀t∈ts,t.1=i/\t.2.1<=j)/\(wy=1->ts.Pairwise (λa b=>a.1 < b.1)/\∀t∈ts,t.1<=i)/\ts≠[],?_,?_⟩
      ·refine⟨_,rfl,_,rfl,p,_,_,.str (S j3[i]),rfl,rfl,hpS,aB (d_ (by simp[g1])),_,rfl,j3[i],_,j3[i][j],rfl,rfl,Nat.le_of_lt (aD (by omega)),aB (by simp[g2]),[j3[i][j]],[46],rfl,rfl,_,rfl,?_⟩
       rw[<- hce];by_cases hc:cell j3 i j=46
       ·rw[decide_eq_true (show [cell j3 i j]=[46] by rw[hc])]
        have e3:(((as.map V.ref).length:Nat):Int)+3=((as.length+3:Nat):Int):=by rw[List.length_map];omega
        refine bw ⟨_,rfl,_,rfl,F,_,rfl,.inl (aN.of yH),_,_,rfl,rfl,c,as.length+3,by show [V.int c,V.int ((((as.map V.ref).length:Nat):Int)+3)]=_;rw[e3],by omega,λnu=>?_⟩;refine⟨λσ' H'=>H'=H2/\∃nu re:Int,σ'=[some (.ref p),some (.int c),some (.str (S ls)),some (.int m),some (.int wy),some (.int i),some (.int j),some (.ref F),some (.int bl),some (.int re),some (.int nu),v11],?_,?_⟩
        ·exact⟨_,rfl,_,_,rfl,rfl,⟨by decide,by decide⟩,_,_,rfl,rfl,(by show (0:Int) < 2;decide),rfl,_,rfl,jJ (λ_=>⟨_,rfl,_,_,rfl,rfl,(by show (0:Int) < 2000;decide),_,rfl,_,_,rfl,rfl,⟨by decide,by decide⟩,rfl,_,_,rfl⟩) (λ_=>⟨rfl,_,_,rfl⟩)⟩
        rintro σ' H' ⟨rfl,nu,re,rfl⟩;refine⟨_,rfl,_,rfl,_,ls,rfl,hA,λz hz=>?_⟩;refine⟨λσ' yI=>yI=H'/\∃z:Nat,lG z/\σ'=[some (.ref p),some (.int c),some (.str (S ls)),some (.int m),some (.int wy),some (.int i),some (.int j),some (.ref F),some (.int bl),some (.int re),some (.int nu),some (.str (S [z]))],?_,?_⟩
        ·exact⟨_,rfl,rfl,_,rfl,jJ (λ_=>⟨_,rfl,rfl,[z],rfl,rfl,by show 1<=1000;decide,λd hd=>by rw[List.mem_singleton.mp hd];exact hz.lt,rfl,_,adT hz,rfl⟩) (λ_=>⟨rfl,z,hz,rfl⟩)⟩
        rintro σ' yI ⟨rfl,z,hz,rfl⟩;refine⟨_,rfl,_,rfl,_,rfl,rfl,[z],rfl,rfl,by show 1<=1000;decide,λd hd=>by rw[List.mem_singleton.mp hd];exact hz.lt,_,_,rfl,rfl,.inr ⟨_,rfl,_,_,rfl,rfl,?_⟩⟩;refine⟨_,rfl,.inl ⟨rfl,_,aN.of yH⟩,_,rfl,_,rfl,_,rfl,by show 3<=sizeLine;decide,λb hbn=>?_⟩;have k5:Same yI (upd yI b (HO.tup [.int i,.int j,.str (S [z])])):=Same.upd hbn;have Qv:=k5 _ _ yH;refine⟨F,_,_,rfl,rfl,Qv,by rw[List.length_map];exact aD (by omega),?_⟩;refine⟨_,re,_,_,as++[b],ts++[(i,j,z)],rfl,(sm.trans k5).bJ hF0,by rw[ao];simp,?_,λt ht=>?_,by rw[List.length_append];simp;omega,λy=>⟨?_,λt ht=>?_⟩,λy=>⟨?_,λt ht=>?_⟩,by simp⟩
        ·exact((hL.mv k5).snoc (t:=(i,j,z)) ao).ji (mU Qv)
        ·rcases List.mem_append.mp ht with y | y
         ·exact hin t y
         ·rw[List.mem_singleton.mp y];exact⟨by show i < r;omega,by show j < w;omega,hz⟩
        ·rw[List.pairwise_append]
         refine⟨(hl0 y).1,List.pairwise_singleton _ _,λa ha b' hb'=>?_⟩;rw[List.mem_singleton.mp hb'];exact((hl0 y).2 a ha).2
        ·rcases List.mem_append.mp ht with x | x
         ·have:=(hl0 y).2 t x;exact⟨this.1,Nat.le_of_lt this.2⟩
         ·rw[List.mem_singleton.mp x];exact⟨rfl,Nat.le_refl _⟩
        ·rw[List.pairwise_append]
         refine⟨(hl1 y).1,List.pairwise_singleton _ _,λa ha b' hb'=>?_⟩;rw[List.mem_singleton.mp hb'];exact(hl1 y).2 a ha
        ·rcases List.mem_append.mp ht with x | x
         ·have:=(hl1 y).2 t x;omega
         ·rw[List.mem_singleton.mp x];exact Nat.le_refl _
       ·rw[decide_eq_false (show ¬[cell j3 i j]=[46] from λz=>hc (by injection z))]
        refine aV ⟨bl,re,v10,v11,as,ts,rfl,sm,yH,hL,hin,hlen,λy=>⟨(hl0 y).1,λt ht=>⟨((hl0 y).2 t ht).1,Nat.le_of_lt ((hl0 y).2 t ht).2⟩⟩,λy=>⟨(hl1 y).1,λt ht=>Nat.le_of_lt ((hl1 y).2 t ht)⟩,?_⟩;rcases hst with⟨z1,z2,_⟩ | z
        ·rw[z1,z2]at hc;exact absurd hc0 hc
        ·exact z
      ·rintro σ' H' ⟨bl,re,v10,v11,as,ts,rfl,sm',hF',hL',LC,hlen',Sg,hl1',hne⟩
       refine⟨_,rfl,_,rfl,_,_,rfl,rfl,?_⟩;refine⟨_,rfl,_,_,rfl,rfl,_,rfl,_,_,rfl,rfl,?_⟩;refine⟨bl,re,v10,v11,as,ts,?_,sm',hF',hL',LC,hlen',Sg,hl1',hne⟩;rw[show ((i+wy:Nat):Int)=(i:Int)+(wy:Int) by omega,show ((j+1-wy:Nat):Int)=(j:Int)+1-(wy:Int) by omega];rfl
     ·rw[decide_eq_false c3]
      refine aV (ex ?_);rcases hst with⟨_,_,z⟩ | z
      ·rw[z]at hal
       have:as.length=0:=hal;omega
      ·exact z
    ·rw[decide_eq_false c2]
     refine aV (aV (ex ?_));rcases hst with⟨_,z,_⟩ | z
     ·omega
     ·exact z
   ·rw[decide_eq_false c1]
    refine aV (aV (ex ?_));rcases hst with⟨z,_,_⟩ | z
    ·omega
    ·exact z
  ·rintro σ' H' ⟨v5,v6,v8,v9,v10,v11,as,ts,rfl,sm,yH,hL,hin,hne,h7,hline⟩
   refine⟨_,rfl,F,_,rfl,.inl ⟨aN.of yH,λT hT=>?_⟩⟩;have k:Same H' (upd H' T (HO.tup (as.map V.ref))):=Same.upd hT;exact q T as ts _ (sm.trans k) ao (hL.mv k) hin hne h7 hline
end
end My
end
section
namespace My
open PySem L2
section
variable {P:Program}{w:World}{K:W.Frag}{mg:Str->Option Value}{base:Heap}
noncomputable def VR:Sp:=λvs H Q _=>∃(pr t:Addr) (as:List Addr) (ts:List aY) (r w:Nat) (j3:List (List Nat)),vs=[.ref pr,.ref t]/\H pr=some (.tup (Ts j3))/\Blk r w j3/\r<=9/\w<=9/\H t=some (.tup (as.map V.ref))/\cM H as ts/\(∀t∈ts,inB r w t)/\
 ∀(M:Addr) (ps:List Addr) (H':Hp),Same H H'->H' M=some (.lst (ps.map V.ref))->dH H H' ps (bM j3 ts)->Q (.ref M) H'
theorem abr (D:aJ K mg "_law_grid" Ft ["_law_rows_here","_law_laying"])(iJ:mg "list"=none):Def P w K mg base "_law_grid" 1 ["_law_rows_here","_law_laying"] VR:=by
 refine D.dh vK (λvs H Q E h=>?_) (λf cdv A outer s H vs Q E hr h=>?_)
 ·obtain⟨pr,t,as,ts,r,w,j3,rfl,_⟩:=h
  rfl
 ·obtain⟨pr,t,as,ts,r,w,j3,rfl,hpr,hbr,r9,w9,ht,hL,hin,q⟩:=h
  refine⟨_,(au (vH (ix:=2) (ns:=["_law_row"]) vK.nd rfl (Or.inl rfl) rfl (dR.of ["_law_rows_here","_law_laying","_law_grid_here",".3","_law_column","_law_sign_here"] [3] (by kernel_rfl)) (dF (qv 0)) (λ_ _ _ _ _=>(oO (show (["_law_row","_law_rows_here","_law_laying","_law_grid_here",".3","_law_column","_law_sign_here"]:List Str).Nodup by decide +kernel) rfl (by rfl))) (λ_ _ _ _ _=>cu) (λ_ _ _ _ _=>(eO (wB rfl) (by rfl) iJ PyProof.Rows.boot_list (aj (qv 0) ak)))) (au (dM PassesOwn.never rfl (dF (qv 1)) (pZ rfl (cB (bK (i:=3) vK.nd rfl (Or.inl rfl)) (cB (bK (i:=4) vK.nd rfl (Or.inl rfl)) (cB (bK (i:=5) vK.nd rfl (Or.inl rfl)) lq)))) (aA (pY (qv 5) (sO (aL dj (qv 2) (qv 3) (λ_ _=>rfl)) (qv 4) set_list)))) (aA (aX (qv 2))))),?_⟩;refine⟨_,rfl,pr,rfl,⟨_,aK.of hpr⟩,λM hM=>qP (f:=dB [3] 0) (tt:=fJ) (xs:=Ts j3) (λi ys H2=>∃ps:List Addr,ys=ps.map V.ref/\H2 M=some (.lst ys)/\Same H H2/\dH H H2 ps (j3.take i)/\M∉ps)
   ⟨[],rfl,ao,Same.upd hM,⟨by simp,List.nodup_nil,λp h=>by simp at h,λi h=>by simp at h⟩,by simp⟩ (λi ys H2 _ h=>by obtain⟨_,_,_,sm,_⟩:=h;exact aK.of (sm _ _ hpr)) ?_ ?_⟩
  ·rintro i x ys H2 hi ⟨ps,rfl,iI,sm,lW,nM⟩
   obtain⟨l,hl,rfl⟩:=sY hi;have hil:i < (Ts j3).length:=(List.getElem?_eq_some_iff.mp hi).1;have tu:l.length=w:=hbr.gJ _ (List.mem_of_getElem? hl);have gR:(Ts j3).length=r:=by rw[List.length_map,hbr.len]
   have hpl:ps.length<=9:=by rw[lW.len,List.length_take,hbr.len];omega
   refine Ry ⟨_,rfl,l,rfl,by omega,λc hc=>?_⟩;have Lx:M≠c:=λz=>by rw[<- z,iI]at hc;cases hc
   have ncp:c∉ps:=λz=>by
    obtain⟨k,hk,e⟩:=List.mem_iff_getElem.mp z;have:=lW.at_ k hk;rw[e,hc]at this;cases this
   refine⟨by rw[aP Lx];exact iI,by rw[List.length_map];exact aD (by omega),cX.mk hil ⟨ps++[c],by simp,ao,(sm.bJ (sm.free hc)).bJ hM,?_,?_⟩⟩
   ·rw[show j3.take (i+1)=j3.take i++[l] by rw[List.take_add_one,hl];rfl]
    refine dH.mv ((lW.Ji (Same.upd hc)).snoc ncp (sm.free hc) ao) λy hy=>aP λz=>?_;rcases List.mem_append.mp hy with u | u
    ·exact nM (z ▸ u)
    ·exact Lx (z.symm.trans (List.mem_singleton.mp u))
   ·intro z
    rcases List.mem_append.mp z with u | u
    ·exact nM u
    ·exact Lx (List.mem_singleton.mp u)
  ·rintro ys H2 ⟨ps,rfl,iI,sm,lW,nM⟩
   rw[List.take_of_length_le (by rw[List.length_map];exact Nat.le_refl _)]at lW;refine⟨_,rfl,t,rfl,⟨_,aK.of (sm _ _ ht)⟩,rK (K:=K) (a:=t) (xs:=as.map V.ref) (λi σ H3=>∃v3 v4 v5:Option V,σ=[some (.ref pr),some (.ref t),some (.ref M),v3,v4,v5]/\Same H H3/\H3 M=some (.lst (ps.map V.ref))/\dH H H3 ps (bM j3 (ts.take i)))
    ⟨none,none,none,rfl,sm,iI,lW⟩ (λi σ H3 _ h=>by obtain⟨_,_,_,_,sm,_⟩:=h;exact aK.of (sm _ _ ht)) ?_ ?_⟩
   ·rintro i x σ H3 hx' ⟨v3,v4,v5,rfl,sm3,yG,jQ⟩
    rw[List.getElem?_map]at hx';have hi:i < as.length:=by
     rcases Nat.lt_or_ge i as.length with z | z
     ·exact z
     ·rw[List.getElem?_eq_none z]at hx';cases hx'
    rw[List.getElem?_eq_getElem hi]at hx';have hx':V.ref as[i]=x:=Option.some.inj hx';subst hx';obtain⟨u,eu,hU⟩:=hL.get hi;have hum:=List.mem_of_getElem? eu;obtain⟨u1,u2,u3⟩:=hin u hum;have hb3:Blk r w (bM j3 (ts.take i)):=jP hbr λy hy=>hin y (List.mem_of_mem_take hy);have hpl:ps.length=r:=by rw[jQ.len,hb3.len]
    have hps:u.1 < ps.length:=by omega
    refine⟨as[i],_,rfl,aK.of (sm3 _ _ hU),rfl,_,_,rfl,_,_,rfl,_,_,rfl,rfl,?_⟩;refine⟨_,rfl,_,rfl,_,rfl,M,_,_,.ref ps[u.1],rfl,rfl,aN.of yG,aB (by simp[hps]),_,rfl,ps[u.1],_,_,u.2.1,rfl,rfl,jQ.at_ u.1 hps,?_,?_⟩
    ·have:((bM j3 (ts.take i)).getD u.1 []).length=w:=by
      rw[List.getD_eq_getElem?_getD,List.getElem?_eq_getElem (by rw[hb3.len];exact u1)];exact hb3.gJ _ (List.getElem_mem _)
     unfold yD;rw[List.length_map,List.length_map,this,if_pos (by omega),if_pos (by omega)];congr 1
    ·refine⟨_,_,_,rfl,sm3.bJ (jQ.fr _ (List.getElem_mem _)),?_,?_⟩
     ·have ne:M≠ps[u.1]:=λz=>nM (by rw[z];exact List.getElem_mem _)
      rw[aP ne];exact yG
     ·rw[show bM j3 (ts.take (i+1))=setAt (bM j3 (ts.take i)) u.1 u.2.1 u.2.2 by rw[List.take_add_one,eu];exact Jh _ _ _]
      exact jQ.set hps
   ·rintro σ H3 ⟨v3,v4,v5,rfl,sm3,yG,jQ⟩
    rw[List.take_of_length_le (by rw[List.length_map,hL.len];exact Nat.le_refl _)]at jQ;have B':=jP hbr hin;have hpl:ps.length=r:=by rw[jQ.len,B'.len]
    exact⟨_,rfl,q M ps H3 sm3 yG jQ⟩
theorem YS {l:List Nat}{k low:Nat}(h1:low<=k)(hk:k<=l.length)(h2:∀m,low<=m->m < k->l[m]?≠some 46)(h3:low=0\/l[low-1]?=some 46):dg (l.take k)=(l.take k).drop low:=by
 rcases h3 with e | e
 ·subst e
  rw[List.drop_zero];refine yU λhm=>?_;obtain⟨m,hm⟩:=List.mem_iff_getElem?.mp hm;have hmk:m < (l.take k).length:=(List.getElem?_eq_some_iff.mp hm).1;rw[List.length_take]at hmk;exact h2 m (by omega) (by omega) (by rw[List.getElem?_take,if_pos (by omega)]at hm;exact hm)
 ·by_cases h0:low=0
  ·subst h0
   rw[List.drop_zero];refine yU λhm=>?_;obtain⟨m,hm⟩:=List.mem_iff_getElem?.mp hm;have hmk:m < (l.take k).length:=(List.getElem?_eq_some_iff.mp hm).1;rw[List.length_take]at hmk;exact h2 m (by omega) (by omega) (by rw[List.getElem?_take,if_pos (by omega)]at hm;exact hm)
  ·have:=KR (l:=l.take k) (i:=low-1) (by rw[List.getElem?_take,if_pos (by omega)];exact e) (λm hm z=>by
    have hmk:m < (l.take k).length:=(List.getElem?_eq_some_iff.mp z).1;rw[List.length_take]at hmk;rw[List.getElem?_take,if_pos (by omega)]at z;exact h2 m (by omega) (by omega) z)
   rw[this,show low-1+1=low by omega]
theorem V0 {l:List Nat}{k high:Nat}(h1:k<=high)(hk:high<=l.length)(h2:∀m,k<=m->m < high->l[m]?≠some 46)(h3:high=l.length\/l[high]?=some 46):d9 (l.drop k)=(l.drop k).take (high-k):=by
 rcases h3 with e | e
 ·rw[List.take_of_length_le (by rw[List.length_drop];omega)]
  refine yS λhm=>?_;obtain⟨m,hm⟩:=List.mem_iff_getElem?.mp hm;have hmk:m < (l.drop k).length:=(List.getElem?_eq_some_iff.mp hm).1;rw[List.length_drop]at hmk;rw[List.getElem?_drop]at hm;exact h2 (k+m) (by omega) (by omega) hm
 ·refine wz (by rw[List.getElem?_drop,show k+(high-k)=high by omega];exact e) λm hm z=>?_
  rw[List.getElem?_drop]at z;exact h2 (k+m) (by omega) (by omega) z
theorem abt {l:List Nat}{k low high:Nat}(a1:low<=k)(a2:k<=high)(a3:high<=l.length)(b1:dg (l.take k)=(l.take k).drop low)(b2:d9 (l.drop k)=(l.drop k).take (high-k)) :
  dg (l.take k)++d9 (l.drop k)=(l.drop low).take (high-low)/\(dg (l.take k)).length=k-low:=by
 constructor
 ·rw[b1,b2,List.drop_take,show high-low=(k-low)+(high-k) by omega,List.take_add,List.drop_drop,show low+(k-low)=k by omega]
 ·rw[b1,List.length_drop,List.length_take];omega
abbrev mV:=Nat × Nat × Nat × List Nat
noncomputable def LK (H:Hp)(a:Addr)(q:mV):Prop:=H a=some (.tup [.int q.1,.int q.2.1,.int q.2.2.1,.str (S q.2.2.2)])
noncomputable def lK (R:List (List Nat))(i j wy:Nat):mV:=
 (if wy=0 then i else i-(dg ((lineOf R i j (wy:Int)).take i)).length,if wy=0 then j-(dg ((lineOf R i j (wy:Int)).take j)).length else j,wy,dg ((lineOf R i j (wy:Int)).take (placeOf i j (wy:Int)))++d9 ((lineOf R i j (wy:Int)).drop (placeOf i j (wy:Int))))
noncomputable def eV (wy i x:Nat):Nat:=if wy=0 then i else x
noncomputable def clo (wy j x:Nat):Nat:=if wy=0 then x else j
theorem V1 {r w:Nat}{R:List (List Nat)}(hb:Blk r w R){i j wy x:Nat}(hi:i < r)(hx:x < (lineOf R i j (wy:Int)).length):cell R (eV wy i x) (clo wy j x)=(lineOf R i j (wy:Int))[x]:=by
 unfold eV clo;by_cases h:wy=0
 ·subst h
  rw[if_pos rfl,if_pos rfl];have hx':x < (R.getD i []).length:=hx;have h1:(R.getD i []).getD x 0=(R.getD i [])[x]:=by rw[List.getD_eq_getElem?_getD (l:=R.getD i []),List.getElem?_eq_getElem hx'];rfl
  exact h1
 ·rw[if_neg h,if_neg h]
  have e:lineOf R i j (wy:Int)=um R j:=if_neg (by omega);have hx':x < (um R j).length:=by rw[<- e];exact hx
  have:(lineOf R i j (wy:Int))[x]=(um R j)[x]:=by simp only[e]
  rw[this];unfold um at hx' ⊢;rw[List.length_map]at hx';rw[List.getElem_map];unfold cell;rw[List.getD_eq_getElem?_getD (l:=R),List.getElem?_eq_getElem hx'];rfl
theorem wM {H0 H:Hp}{ps:List Addr}{R:List (List Nat)}{r w a b:Nat}(h:dH H0 H ps R)(hb:Blk r w R)(ha:a < r)(hbw:b < w):∃(hp:a < ps.length),H ps[a]=some (.lst (Ts (ones (R.getD a []))))/\(Ts (ones (R.getD a [])))[b]?=some (.str (S [cell R a b]))/\(Ts (ones (R.getD a []))).length=w:=by
 have hp:a < ps.length:=by rw[h.len,hb.len];exact ha
 have hra:a < R.length:=by rw[hb.len];exact ha
 have hg:R.getD a []=R[a]:=by rw[List.getD_eq_getElem?_getD,List.getElem?_eq_getElem hra];rfl
 have hl:R[a].length=w:=hb.gJ _ (List.getElem_mem _);refine⟨hp,h.at_ a hp,?_,by rw[List.length_map,List.length_map,hg,hl]⟩;have tD:b < R[a].length:=by omega
 rw[hg,cell_eq hra tD];simp[Ts,ones,tD]
noncomputable def V2 (K:W.Frag):Sp:=λvs H Q _=>∃(M:Addr) (H0:Hp) (ps:List Addr) (R:List (List Nat)) (r w i j wy:Nat),vs=[.ref M,.int i,.int j,.int wy]/\H M=some (.lst (ps.map V.ref))/\dH H0 H ps R/\Blk r w R/\r<=9/\w<=9/\i < r/\j < w/\wy<=1/\
 ∀(t:Addr) (H':Hp),Same H H'->LK H' t (lK R i j wy)->Q (.ref t) H'
theorem Sh (D:aJ K mg "_law_run" Kc ["_law_grid_here","_law_row","_law_column","_law_way"])(aU:mg "len"=none):Def P w K mg base "_law_run" 1 ["_law_grid_here","_law_row","_law_column","_law_way"] (V2 K):=by
 refine D.dh sX (λvs H Q E h=>?_) (λf cdv A outer s H vs Q E hr h=>?_)
 ·obtain⟨M,H0,ps,R,r,w,i,j,wy,rfl,_⟩:=h
  rfl
 ·obtain⟨M,H0,ps,R,r,w,i,j,wy,rfl,hM,lW,hb,r9,w9,hi,hj,hwy,q⟩:=h
  have hll:=nY hb hi (j:=j) (way:=(wy:Int));have hk:placeOf i j (wy:Int) < (lineOf R i j (wy:Int)).length:=by
   rw[hll];unfold placeOf
   split <;> assumption
  have hl9:(lineOf R i j (wy:Int)).length<=9:=by rw[hll];split <;> assumption
  have hcell:=λx (hx:x < (lineOf R i j (wy:Int)).length)=>V1 hb hi (j:=j) (wy:=wy) hx;have hq:LK=LK:=rfl;have hkw:placeOf i j (wy:Int)=if wy=0 then j else i:=by
   unfold placeOf;by_cases z:wy=0
   ·rw[if_pos z,if_pos (by omega)]
   ·rw[if_neg z,if_neg (by omega)]
  have tu:(lineOf R i j (wy:Int)).length=if wy=0 then w else r:=by
   rw[hll];by_cases z:wy=0
   ·rw[if_pos z,if_pos (by omega)]
   ·rw[if_neg z,if_neg (by omega)]
  have FN:∀k low:Nat,k=placeOf i j (wy:Int)->low+(dg ((lineOf R i j (wy:Int)).take k)).length=k->lK R i j wy=(eV wy i low,clo wy j low,wy,dg ((lineOf R i j (wy:Int)).take k)++d9 ((lineOf R i j (wy:Int)).drop k)):=by
   intro k low ek hlow;unfold lK eV clo;rw[<- ek];rw[hkw]at ek;by_cases z:wy=0
   ·rw[if_pos z]at ek
    subst ek;rw[if_pos z,if_pos z,if_pos z,if_pos z,show k-(dg ((lineOf R i k (wy:Int)).take k)).length=low by omega]
   ·rw[if_neg z]at ek
    subst ek;rw[if_neg z,if_neg z,if_neg z,if_neg z,show k-(dg ((lineOf R k j (wy:Int)).take k)).length=low by omega]
  generalize hLL:lineOf R i j (wy:Int)=l at hk hl9 hcell tu FN;generalize hKK:placeOf i j (wy:Int)=k at hk hkw FN;have FN:=FN k;have hz:∀n,n<=100->n<=sizeLine:=λn h=>Nat.le_of_lt (aD (by omega));have hpl:ps.length=r:=by rw[lW.len,hb.len]
  have rr:∀x,x < l.length->eV wy i x < r:=λx hx=>by
   unfold eV;split
   ·exact hi
   ·rw[tu,if_neg (by assumption)]at hx;exact hx
  have cc:∀x,x < l.length->clo wy j x < w:=λx hx=>by
   unfold clo;split
   ·rw[tu,if_pos (by assumption)]at hx;exact hx
   ·exact hj
  refine⟨_,(au (gD (Cv PassesOwn.never (QW.qt (iB (bx Rf (qv 1) (qv 3) (bh _)) (iB (bx Rf (qv 2) (aG fX aq (qv 3)) (bh _)) (jW (bx nH (aL dj (aL dj (qv 0) (aG fX (qv 1) (qv 3)) (λ_ _=>rfl)) (aG b_ (aG fX (qv 2) aq) (qv 3)) (λ_ _=>rfl)) (bN [46] (by decide +kernel)) (bh _)))))) (au (aM (i:=1) sX.nd rfl (Or.inl rfl) (aG fX (qv 1) (qv 3))) (aA (aM (i:=2) sX.nd rfl (Or.inl rfl) (aG b_ (aG fX (qv 2) aq) (qv 3))))))) (au (aM (i:=4) sX.nd rfl (Or.inl rfl) (bN [] (by decide +kernel))) (au (aM (i:=5) sX.nd rfl (Or.inl rfl) (bR (aj (qv 1) (aj (qv 2) ak)))) (au (gD (Cv PassesOwn.never (QW.qt (iB (bx jG (aL aO (qv 5) aq (λ_ _=>rfl)) (aH bI (by rfl) aU PySem.boot_len (aj (qv 0) ak)) (bh _)) (iB (bx jG (aL aO (qv 5) aq (λ_ _=>rfl)) (aH bI (by rfl) aU PySem.boot_len (aj (aL dj (qv 0) aq (λ_ _=>rfl)) ak)) (bh _)) (jW (bx nH (aL dj (aL dj (qv 0) (aL aO (qv 5) aq (λ_ _=>rfl)) (λ_ _=>rfl)) (aL aO (qv 5) aq (λ_ _=>rfl)) (λ_ _=>rfl)) (bN [46] (by decide +kernel)) (bh _)))))) (au (aM (i:=4) sX.nd rfl (Or.inl rfl) (aG m8 (qv 4) (aL dj (aL dj (qv 0) (aL aO (qv 5) aq (λ_ _=>rfl)) (λ_ _=>rfl)) (aL aO (qv 5) aq (λ_ _=>rfl)) (λ_ _=>rfl)))) (aA (aM (i:=5) sX.nd rfl (Or.inl rfl) (bR (aj (aG b_ (aL aO (qv 5) aq (λ_ _=>rfl)) (qv 3)) (aj (aG fX (aG b_ (aL aO (qv 5) aq (λ_ _=>rfl)) aq) (qv 3)) ak)))))))) (aA (aX (bR (aj (qv 1) (aj (qv 2) (aj (qv 3) (aj (qv 4) ak))))))))))),?_⟩;have hM':aN K H M (ps.map V.ref):=aN.of hM;refine⟨λσ H'=>H'=H/\∃low:Nat,low<=k/\σ=[some (.ref M),some (.int (eV wy i low)),some (.int (clo wy j low)),some (.int wy),none,none]/\(∀x,low<=x->x < k->l[x]?≠some 46)/\(low=0\/l[low-1]?=some 46),?_,?_⟩
  ·refine⟨λm σ H'=>H'=H/\m<=k/\σ=[some (.ref M),some (.int (eV wy i m)),some (.int (clo wy j m)),some (.int wy),none,none]/\∀x,m<=x->x < k->l[x]?≠some 46,⟨k,rfl,Nat.le_refl _,?_,λx h1 h2=>by omega⟩,?_⟩
   ·unfold eV clo
    by_cases z:wy=0
    ·rw[if_pos z,if_pos z,hkw,if_pos z];rfl
    ·rw[if_neg z,if_neg z,hkw,if_neg z];rfl
   rintro m σ H' ⟨rfl,hm,rfl,hx⟩;have adU:m=0->H'=H'/\∃low:Nat,low<=k/\([some (.ref M),some (.int (eV wy i m)),some (.int (clo wy j m)),some (.int wy),none,none]:St)=[some (.ref M),some (.int (eV wy i low)),some (.int (clo wy j low)),some (.int wy),none,none]/\(∀x,low<=x->x < k->l[x]?≠some 46)/\(low=0\/l[low-1]?=some 46):=λz=>⟨rfl,m,hm,rfl,hx,.inl z⟩
   refine⟨_,rfl,_,rfl,_,_,rfl,rfl,_,rfl,jJ (λhc1=>?_) (λhc1=>?_)⟩
   ·refine⟨_,rfl,_,rfl,_,_,rfl,rfl,_,_,rfl,rfl,_,rfl,jJ (λhc2=>?_) (λhc2=>?_)⟩
    ·have d1:(wy:Int)<=(eV wy i m:Int):=of_decide_eq_true hc1
     have d2:1-(wy:Int)<=(clo wy j m:Int):=of_decide_eq_true hc2;have hm0:0 < m:=by
      unfold eV at d1;unfold clo at d2;by_cases z:wy=0
      ·rw[if_pos z]at d2;omega
      ·rw[if_neg z]at d1;omega
     have hm1:m-1 < l.length:=by omega
     obtain⟨g1,g2,g3,_⟩:=wM lW hb (rr (m-1) hm1) (cc (m-1) hm1);have er:(eV wy i m:Int)-(wy:Int)=(eV wy i (m-1):Int):=by
      unfold eV;by_cases z:wy=0
      ·rw[if_pos z,if_pos z];omega
      ·rw[if_neg z,if_neg z];omega
     have ec:(clo wy j m:Int)-1+(wy:Int)=(clo wy j (m-1):Int):=by
      unfold clo;by_cases z:wy=0
      ·rw[if_pos z,if_pos z];omega
      ·rw[if_neg z,if_neg z];omega
     refine⟨_,rfl,_,rfl,_,rfl,_,_,rfl,rfl,M,_,_,.ref ps[eV wy i (m-1)],rfl,rfl,hM',by show m6 _ ((eV wy i m:Int)-(wy:Int))=_;rw[er];exact aB (by simp[g1]),_,rfl,_,_,rfl,rfl,_,rfl,_,_,rfl,rfl,ps[eV wy i (m-1)],_,_,.str (S [cell R (eV wy i (m-1)) (clo wy j (m-1))]),rfl,rfl,aN.of g2,by show m6 _ ((clo wy j m:Int)-1+(wy:Int))=_;rw[ec];exact aB g3,_,_,rfl,rfl,_,rfl,?_⟩;rw[hcell _ hm1];by_cases hne:l[m-1]=46
     ·rw[decide_eq_true (show [l[m-1]]=[46] by rw[hne])]
      exact aV ⟨rfl,m,hm,rfl,hx,.inr (by rw[List.getElem?_eq_getElem hm1,hne])⟩
     ·rw[decide_eq_false (show ¬[l[m-1]]=[46] by simpa using hne)]
      refine bw ⟨λσ H4=>H4=H'/\σ=[some (.ref M),some (.int (eV wy i (m-1))),some (.int (clo wy j (m-1))),some (.int wy),none,none],λσ' yI ⟨e1,e2⟩=>⟨m-1,by omega,e1,by omega,e2,λx h1 h2=>?_⟩,?_⟩
      ·by_cases hx2:x=m-1
       ·subst hx2;rw[List.getElem?_eq_getElem hm1];simpa using hne
       ·exact hx x (by omega) h2
      ·refine⟨_,rfl,_,rfl,_,_,rfl,rfl,_,rfl,_,_,rfl,rfl,_,rfl,_,_,rfl,rfl,rfl,?_⟩
       rw[<- er,<- ec];rfl
    ·refine aV (adU ?_)
     have d2:¬1-(wy:Int)<=(clo wy j m:Int):=λz=>hc2 (decide_eq_true z);unfold clo at d2;by_cases z:wy=0
     ·rw[if_pos z]at d2;omega
     ·rw[if_neg z]at d2;omega
   ·refine aV (adU ?_)
    have d1:¬(wy:Int)<=(eV wy i m:Int):=λz=>hc1 (decide_eq_true z);unfold eV at d1;by_cases z:wy=0
    ·rw[if_pos z]at d1;omega
    ·rw[if_neg z]at d1;omega
  rintro σ H' ⟨rfl,low,hlk,rfl,hx,hlow⟩;have aas:=YS hlk (by omega) hx hlow;refine⟨_,rfl,_,rfl,by show 2<=sizeLine;decide,λt0 ht0=>?_⟩;have k0:Same H' (upd H' t0 (HO.tup [.int (eV wy i low),.int (clo wy j low)])):=Same.upd ht0;refine⟨λσ yI=>Same H' yI/\∃v5:Option V,σ=[some (.ref M),some (.int (eV wy i low)),some (.int (clo wy j low)),some (.int wy),some (.str (S (dg (l.take k)++d9 (l.drop k)))),v5],?_,?_⟩
  ·refine⟨λm σ yI=>∃(hg:Nat) (t:Addr),low<=hg/\hg<=l.length/\m=l.length-hg/\Same H' yI/\yI t=some (.tup [.int (eV wy i hg),.int (clo wy j hg)])/\σ=[some (.ref M),some (.int (eV wy i low)),some (.int (clo wy j low)),some (.int wy),some (.str (S ((l.drop low).take (hg-low)))),some (.ref t)]/\∀x,low<=x->x < hg->l[x]?≠some 46,
    ⟨_,low,t0,Nat.le_refl _,by omega,rfl,k0,ao,by rw[Nat.sub_self];rfl,λx h1 h2=>by omega⟩,?_⟩
   rintro m σ H2 ⟨hg,t,h1,h2,rfl,sm,ht,rfl,hy⟩;have hS:=aK.of (K:=K) ht;have iI:=aN.of (K:=K) (sm _ _ hM);have adV:=lW.Ji sm;have ex:(hg=l.length\/l[hg]?=some 46)->Same H' H2/\∃v5:Option V,([some (.ref M),some (.int (eV wy i low)),some (.int (clo wy j low)),some (.int wy),some (.str (S ((l.drop low).take (hg-low)))),some (.ref t)]:St)=[some (.ref M),some (.int (eV wy i low)),some (.int (clo wy j low)),some (.int wy),some (.str (S (dg (l.take k)++d9 (l.drop k)))),v5]:=λhend=>by
    have hkg:k<=hg:=by
     rcases Nat.lt_or_ge hg k with z | z
     ·rcases hend with e | e
      ·omega
      ·exact absurd e (hx hg h1 z)
     ·exact z
    obtain⟨c1,_⟩:=abt hlk hkg h2 aas (V0 hkg h2 (λx a b=>hy x (by omega) b) hend);exact⟨sm,_,by rw[c1]⟩
   have hlz:l.length-0=l.length:=rfl;obtain⟨gz,gz1,_,gz2⟩:=wM adV hb (show 0 < r by omega) (show 0 < w by omega);refine⟨_,rfl,t,_,_,_,rfl,rfl,hS,aB (j:=0) rfl,_,rfl,M,_,rfl,.inl iI,_,_,rfl,rfl,_,rfl,jJ (λhc1=>?_) (λhc1=>?_)⟩
   ·refine⟨_,rfl,t,_,_,_,rfl,rfl,hS,aB (j:=1) rfl,_,rfl,M,_,_,.ref ps[0],rfl,rfl,iI,aB (j:=0) (by simp[gz]),ps[0],_,rfl,.inl (aN.of gz1),_,_,rfl,rfl,_,rfl,jJ (λhc2=>?_) (λhc2=>?_)⟩
    ·have d1:(eV wy i hg:Int) < ((ps.map V.ref).length:Int):=of_decide_eq_true hc1
     have d2:(clo wy j hg:Int) < ((Ts (ones (R.getD 0 []))).length:Int):=of_decide_eq_true hc2;rw[List.length_map,hpl]at d1;rw[gz2]at d2;have Qw:hg < l.length:=by
      rw[tu];unfold eV at d1;unfold clo at d2;by_cases z:wy=0
      ·rw[if_pos z]at d2 ⊢;omega
      ·rw[if_neg z]at d1 ⊢;omega
     obtain⟨g1,g2,g3,_⟩:=wM adV hb (rr hg Qw) (cc hg Qw);refine⟨_,rfl,_,rfl,t,_,_,_,rfl,rfl,hS,aB (j:=0) rfl,M,_,_,.ref ps[eV wy i hg],rfl,rfl,iI,aB (by simp[g1]),_,rfl,t,_,_,_,rfl,rfl,hS,aB (j:=1) rfl,ps[eV wy i hg],_,_,.str (S [cell R (eV wy i hg) (clo wy j hg)]),rfl,rfl,aN.of g2,aB g3,_,_,rfl,rfl,_,rfl,?_⟩;rw[hcell _ Qw];by_cases hne:l[hg]=46
     ·rw[decide_eq_true (show [l[hg]]=[46] by rw[hne])]
      exact aV (ex (.inr (by rw[List.getElem?_eq_getElem Qw,hne])))
     ·rw[decide_eq_false (show ¬[l[hg]]=[46] by simpa using hne)]
      have er:(eV wy i hg:Int)+(wy:Int)=(eV wy i (hg+1):Int):=by
       unfold eV;by_cases z:wy=0
       ·rw[if_pos z,if_pos z];omega
       ·rw[if_neg z,if_neg z];omega
      have ec:(clo wy j hg:Int)+1-(wy:Int)=(clo wy j (hg+1):Int):=by
       unfold clo;by_cases z:wy=0
       ·rw[if_pos z,if_pos z];omega
       ·rw[if_neg z,if_neg z];omega
      have afF:(l.drop low).take (hg-low)++[l[hg]]=(l.drop low).take (hg+1-low):=by
       have hlen:hg-low < (l.drop low).length:=by rw[List.length_drop];omega
       rw[show hg+1-low=hg-low+1 by omega,List.take_succ,List.getElem?_eq_getElem hlen,List.getElem_drop];simp only[show low+(hg-low)=hg by omega];rfl
      refine bw ⟨λσ H4=>∃t2:Addr,Same H' H4/\H4 t2=some (.tup [.int (eV wy i (hg+1)),.int (clo wy j (hg+1))])/\σ=[some (.ref M),some (.int (eV wy i low)),some (.int (clo wy j low)),some (.int wy),some (.str (S ((l.drop low).take (hg+1-low)))),some (.ref t2)],λσ' yI ⟨t2,e1,e2,e3⟩=>⟨l.length-(hg+1),by omega,hg+1,t2,by omega,by omega,rfl,e1,e2,e3,λx a1 a2=>?_⟩,?_⟩
      ·by_cases hx2:x=hg
       ·subst hx2;rw[List.getElem?_eq_getElem Qw];simpa using hne
       ·exact hy x a1 (by omega)
      ·refine⟨_,rfl,_,rfl,_,rfl,t,_,_,_,rfl,rfl,hS,aB (j:=0) rfl,M,_,_,.ref ps[eV wy i hg],rfl,rfl,iI,aB (by simp[g1]),_,rfl,t,_,_,_,rfl,rfl,hS,aB (j:=1) rfl,ps[eV wy i hg],_,_,.str (S [cell R (eV wy i hg) (clo wy j hg)]),rfl,rfl,aN.of g2,aB g3,(l.drop low).take (hg-low),_,rfl,rfl,hz _ (by rw[List.length_take,List.length_drop];simp;omega),?_⟩
       rw[hcell _ Qw,afF];refine⟨_,rfl,t,_,_,_,rfl,rfl,hS,aB (j:=0) rfl,_,rfl,_,_,rfl,rfl,_,rfl,t,_,_,_,rfl,rfl,hS,aB (j:=1) rfl,_,_,rfl,rfl,_,rfl,_,_,rfl,rfl,by show 2<=sizeLine;decide,λt2 Jk=>?_⟩;refine⟨t2,sm.bJ (sm.free Jk),?_,rfl⟩;rw[ao,<- er,<- ec]
    ·refine aV (ex (.inl ?_))
     have d2:¬(clo wy j hg:Int) < ((Ts (ones (R.getD 0 []))).length:Int):=λz=>hc2 (decide_eq_true z);rw[gz2]at d2;rw[tu]at h2 ⊢;unfold clo at d2;by_cases z:wy=0
     ·rw[if_pos z]at d2 h2 ⊢;omega
     ·rw[if_neg z]at d2;omega
   ·refine aV (ex (.inl ?_))
    have d1:¬(eV wy i hg:Int) < ((ps.map V.ref).length:Int):=λz=>hc1 (decide_eq_true z);rw[List.length_map,hpl]at d1;rw[tu]at h2 ⊢;unfold eV at d1;by_cases z:wy=0
    ·rw[if_pos z]at d1;omega
    ·rw[if_neg z]at d1 h2 ⊢;omega
  ·rintro σ yI ⟨sm,v5,rfl⟩
   refine⟨_,rfl,_,rfl,_,rfl,_,rfl,by show 4<=sizeLine;decide,λT hT=>?_⟩;refine q T _ (sm.bJ (sm.free hT)) ?_;have hlen:low+(dg (l.take k)).length=k:=by rw[aas,List.length_drop,List.length_take];omega
   rw[FN low rfl hlen];exact ao
end
end My
end
section
namespace My
open PySem L2
section
variable {P:Program}{w:World}{K:W.Frag}{mg:Str->Option Value}{base:Heap}
structure cY {α:Type}(enc:α->List V)(H:Hp)(as:List Addr)(xs:List α):Prop where
 len:as.length=xs.length
 at_:∀(i:Nat) (a:Addr) (x:α),as[i]?=some a->xs[i]?=some x->H a=some (.tup (enc x))
theorem cY.ji {α:Type}{enc:α->List V}{H H':Hp}{as:List Addr}{xs:List α}(k:∀a ys,H a=some (.tup ys)->H' a=some (.tup ys))(h:cY enc H as xs):cY enc H' as xs:=⟨h.len,λi a x h1 h2=>k _ _ (h.at_ i a x h1 h2)⟩
theorem cY.mv {α:Type}{enc:α->List V}{H H':Hp}{as:List Addr}{xs:List α}(k:Same H H')(h:cY enc H as xs):cY enc H' as xs:=h.ji λa ys e=>k a _ e
theorem cY.nil {α:Type}{enc:α->List V}{H:Hp}:cY enc H [] []:=⟨rfl,λi a x h=>by simp at h⟩
theorem cY.one {α:Type}{enc:α->List V}{H:Hp}{a:Addr}{x:α}(h:H a=some (.tup (enc x))):cY enc H [a] [x]:=⟨rfl,λi b y h1 h2=>by
 match i,h1,h2 with
 | 0,h1,h2=>
  have e1:a=b:=Option.some.inj h1;have e2:x=y:=Option.some.inj h2;rw[<- e1,<- e2];exact h
 | n+1,h1,h2=>exact absurd h1 (by simp)⟩
theorem cY.app {α:Type}{enc:α->List V}{H:Hp}{as bs:List Addr}{xs ys:List α}(h:cY enc H as xs)(g:cY enc H bs ys):cY enc H (as++bs) (xs++ys):=by
 refine⟨by rw[List.length_append,List.length_append,h.len,g.len],λi a x h1 h2=>?_⟩;by_cases c:i < as.length
 ·rw[List.getElem?_append_left c]at h1
  rw[List.getElem?_append_left (by rw[<- h.len];exact c)]at h2;exact h.at_ i a x h1 h2
 ·rw[List.getElem?_append_right (by omega)]at h1
  rw[List.getElem?_append_right (by rw[<- h.len];omega),<- h.len]at h2;exact g.at_ _ a x h1 h2
theorem cY.get {α:Type}{enc:α->List V}{H:Hp}{as:List Addr}{xs:List α}(h:cY enc H as xs){i:Nat}(hi:i < as.length):∃x,xs[i]?=some x/\H as[i]=some (.tup (enc x)):=by
 have hx:i < xs.length:=by rw[<- h.len];exact hi
 exact⟨xs[i],List.getElem?_eq_getElem hx,h.at_ i _ _ (List.getElem?_eq_getElem hi) (List.getElem?_eq_getElem hx)⟩
abbrev QL:=cY (λq:mV=>[V.int q.1,V.int q.2.1,V.int q.2.2.1,V.str (S q.2.2.2)])
abbrev AL3:=cY (λq:Nat × Nat × Nat=>[V.int q.1,V.int q.2.1,V.int q.2.2])
noncomputable def fW (ts:List aY):Nat:=if ts.head?.map (·.1)=ts.getLast?.map (·.1) then 0 else 1
noncomputable def oX (ts:List aY):List (Nat × Nat × Nat):=(ts.take 1).map (λt=>(t.1,t.2.1,fW ts))++ts.map λt=>(t.1,t.2.1,1-fW ts)
noncomputable def qd (R:List (List Nat))(a:Nat × Nat × Nat):mV:=lK R a.1 a.2.1 a.2.2
noncomputable def rB (q:mV):Bool:=decide (1 < q.2.2.2.length)
noncomputable def fB (j3:List (List Nat))(ts:List aY):List mV:=((oX ts).map (qd (bM j3 ts))).filter rB
theorem V3 (ts:List aY):fW ts<=1:=by unfold fW;split <;> decide
theorem CZ {r w:Nat}{R:List (List Nat)}(hb:Blk r w R)(r9:r<=9)(w9:w<=9){i j wy:Nat}(hi:i < r):(lK R i j wy).2.2.2.length<=20:=by
 have hll:=nY hb hi (j:=j) (way:=(wy:Int));have h9:(lineOf R i j (wy:Int)).length<=9:=by rw[hll];split <;> assumption
 show (dg _++d9 _).length<=20;have a1:=nj ((lineOf R i j (wy:Int)).take (placeOf i j (wy:Int)));have a2:=uo ((lineOf R i j (wy:Int)).drop (placeOf i j (wy:Int)));rw[List.length_take]at a1;rw[List.length_drop]at a2;rw[List.length_append];omega
theorem Jl {ts:List aY}(h:0 < ts.length):fW ts=if ts[0].1=ts[ts.length-1].1 then 0 else 1:=by
 unfold fW;rw[List.head?_eq_getElem?,List.getLast?_eq_getElem?,List.getElem?_eq_getElem h,List.getElem?_eq_getElem (by omega)];simp only[Option.map_some,Option.some.injEq]
theorem fD {H:Hp}{as:List Addr}{ts:List aY}(hL:cM H as ts){i:Nat}(hi:i < ts.length):∃(h:i < as.length),H as[i]=some (.tup [.int ts[i].1,.int ts[i].2.1,.str (S [ts[i].2.2])]):=by
 have h:i < as.length:=by rw[hL.len];exact hi
 obtain⟨t,e,ht⟩:=hL.get h;rw[List.getElem?_eq_getElem hi]at e;have e:=Option.some.inj e;rw[<- e]at ht;exact⟨h,ht⟩
theorem G6 {as:List Addr}(h:0 < as.length):m6 (as.map V.ref) (-1)=some (.ref as[as.length-1]):=by
 have e:as.map V.ref=(as.take (as.length-1)).map V.ref++[V.ref as[as.length-1]]:=by
  rw[<- List.map_singleton,<- List.map_append];congr 1;have:=List.take_append_drop (as.length-1) as;rw[List.drop_eq_getElem_cons (by omega),show as.length-1+1=as.length by omega,List.drop_length]at this;exact this.symm
 rw[e];exact XS _ _
theorem adW (a b:Nat):(if (!decide (V.int (a:Int)=V.int (b:Int)))=true then (1:Int) else 0)=((if a=b then 0 else 1:Nat):Int):=by
 by_cases h:a=b
 ·subst h;simp
 ·have:¬V.int (a:Int)=V.int (b:Int):=λz=>h (by injection z with z;exact Int.ofNat.inj z)
  simp[h,this]
noncomputable def LQ:Sp:=λvs H Q _=>∃(pr t:Addr) (as:List Addr) (ts:List aY) (r w:Nat) (j3:List (List Nat)),vs=[.ref pr,.ref t]/\H pr=some (.tup (Ts j3))/\Blk r w j3/\r<=9/\w<=9/\H t=some (.tup (as.map V.ref))/\cM H as ts/\(∀t∈ts,inB r w t)/\0 < ts.length/\ts.length<=7/\
 ∀(T:Addr) (bs:List Addr) (H':Hp),Same H H'->H' T=some (.tup (bs.map V.ref))->QL H' bs (fB j3 ts)->Q (.ref T) H'
theorem LR (D:aJ K mg "_law_words" Bg ["_law_rows_here","_law_laying"])(aU:mg "len"=none)(j6:mg "int"=none)(bU:mg "tuple"=none)(adX:Def P w K mg base "_law_grid" 1 ["_law_rows_here","_law_laying"] VR)(aat:Def P w K mg base "_law_run" 1 ["_law_grid_here","_law_row","_law_column","_law_way"] (V2 K)):Def P w K mg base "_law_words" 2 ["_law_rows_here","_law_laying"] LQ:=by
 refine D.dh mQ (λvs H Q E h=>?_) (λf cdv A outer s H vs Q E hr h=>?_)
 ·obtain⟨pr,t,as,ts,r,w,j3,rfl,_⟩:=h
  rfl
 ·obtain⟨pr,t,as,ts,r,w,j3,rfl,hpr,hb,r9,w9,ht,hL,hin,h0,h7,q⟩:=h
  refine⟨_,(au (aM (i:=2) mQ.nd rfl (Or.inl rfl) (bF adX (hr.mono (by decide)) rfl (aj (qv 0) (aj (qv 1) ak)))) (au (aM (i:=3) mQ.nd rfl (Or.inl rfl) (eO Ia (by rfl) j6 PyProof.Rows.boot_int (aj (eY lZ (aL aO (aL aO (qv 1) aq (λ_ _=>rfl)) aq (λ_ _=>rfl)) (aL aO (aL aO (qv 1) (wk rY aq) (λ_ _=>rfl)) aq (λ_ _=>rfl)) (bh _)) ak))) (au (aM (i:=4) mQ.nd rfl (Or.inl rfl) (fZ (aj (bF aat (hr.mono (by decide)) rfl (aj (qv 2) (aj (aL aO (aL aO (qv 1) aq (λ_ _=>rfl)) aq (λ_ _=>rfl)) (aj (aL aO (aL aO (qv 1) aq (λ_ _=>rfl)) aq (λ_ _=>rfl)) (aj (qv 3) ak))))) ak))) (au (dM PassesOwn.never rfl (dF (qv 1)) (pZ rfl (cB (bK (i:=5) mQ.nd rfl (Or.inl rfl)) (cB (bK (i:=6) mQ.nd rfl (Or.inl rfl)) (cB (bK (i:=7) mQ.nd rfl (Or.inl rfl)) lq)))) (aA (dY (gA PySem.F.plainAttrs_list PySem.F.slot_list_append PySem.F.type_list_append g_ (qv 4) (aj (bF aat (hr.mono (by decide)) rfl (aj (qv 2) (aj (qv 5) (aj (qv 6) (aj (aG fX aq (qv 3)) ak))))) ak))))) (aA (aX (eO gO (by rfl) bU PyProof.Rows.boot_tuple (aj (dJ (ns:=["_law_run_here"]) rfl (dR.of ["_law_rows_here","_law_laying","_law_grid_here","_law_line","_law_runs","_law_row","_law_column","_law_sign_here"] [] (by kernel_rfl)) (fG (qv 4)) (λ_ _ _ _ _=>(oO (show (["_law_run_here","_law_rows_here","_law_laying","_law_grid_here","_law_line","_law_runs","_law_row","_law_column","_law_sign_here"]:List Str).Nodup by decide +kernel) rfl (by rfl))) (λ_ _ _ _ _=>(Bc (bx Rc (aH bY (by rfl) aU PySem.boot_len (aj (aL (jw K) (qv 0) aq (λ_ _=>rfl)) ak)) aq (bh _)))) (λ_ _ _ _ _=>(qv 0))) ak)))))))),?_⟩;refine⟨_,rfl,_,rfl,pr,t,as,ts,r,w,j3,rfl,hpr,hb,r9,w9,ht,hL,hin,λM ps H1 s1 hM lW=>?_⟩;have hb':=jP hb hin;generalize hR:bM j3 ts=R at lW hb';have hal:=hL.len;have hL1:=hL.mv s1;obtain⟨g0,e0⟩:=fD hL1 h0;obtain⟨gl,el⟩:=fD hL1 (show ts.length-1 < ts.length by omega);have ht1:=aK.of (K:=K) (s1 _ _ ht);have eal:as.length-1=ts.length-1:=by omega
  have wN:m6 (as.map V.ref) (-1)=some (.ref as[ts.length-1]):=by
   rw[G6 (show 0 < as.length by omega)];simp only[eal]
  refine⟨_,rfl,t,_,_,.ref as[0],rfl,rfl,ht1,aB (j:=0) (by simp[g0]),as[0],_,_,_,rfl,rfl,aK.of e0,aB (j:=0) rfl,_,rfl,_,rfl,t,_,_,.ref as[ts.length-1],rfl,rfl,ht1,wN,as[ts.length-1],_,_,_,rfl,rfl,aK.of el,aB (j:=0) rfl,rfl,.inr ⟨_,rfl,?_⟩⟩;dsimp only;rw[adW,<- Jl h0];have gR:=V3 ts;obtain⟨b1,b2,_⟩:=hin _ (List.getElem_mem h0);refine⟨_,rfl,_,rfl,t,_,_,.ref as[0],rfl,rfl,ht1,aB (j:=0) (by simp[g0]),as[0],_,_,_,rfl,rfl,aK.of e0,aB (j:=0) rfl,_,rfl,t,_,_,.ref as[0],rfl,rfl,ht1,aB (j:=0) (by simp[g0]),as[0],_,_,_,rfl,rfl,aK.of e0,aB (j:=1) rfl,_,rfl,M,H,ps,R,r,w,ts[0].1,ts[0].2.1,fW ts,rfl,hM,lW,hb',r9,w9,b1,b2,gR,λt1 H2 s2 hq1=>?_⟩;refine⟨by show 1<=sizeLine;decide,λL hLl=>?_⟩;have k3:Same H2 (upd H2 L (HO.lst [.ref t1])):=Same.upd hLl;have s3:=s2.trans k3;have hL0:=s2.free hLl;refine⟨_,rfl,t,rfl,⟨_,aK.of (s3 _ _ (s1 _ _ ht))⟩,rK (K:=K) (a:=t) (xs:=as.map V.ref) (λn σ H'=>∃(v5 v6 v7:Option V) (bs:List Addr),σ=[some (.ref pr),some (.ref t),some (.ref M),some (.int (fW ts)),some (.ref L),v5,v6,v7]/\Same H1 H'/\H' L=some (.lst (bs.map V.ref))/\bs.length=n+1/\QL H' bs (((ts.take 1).map (λt=>(t.1,t.2.1,fW ts))++(ts.take n).map λt=>(t.1,t.2.1,1-fW ts)).map (qd R)))
   ⟨none,none,none,[t1],rfl,s3,ao,rfl,?_⟩ (λn σ H' _ h=>by obtain⟨_,_,_,_,_,sm,_⟩:=h;exact aK.of (sm _ _ (s1 _ _ ht))) ?_ ?_⟩
  ·have e1:ts.take 1=[ts[0]]:=by rw[List.take_one,List.head?_eq_getElem?,List.getElem?_eq_getElem h0];rfl
   rw[e1,List.take_zero,List.map_nil,List.append_nil];exact cY.one (k3 _ _ hq1)
  ·rintro n x σ H' hx ⟨v5,v6,v7,bs,rfl,sm,V4,tD,hQ⟩
   have hn:n < as.length:=by have:=(List.getElem?_eq_some_iff.mp hx).1;simpa using this
   have hnt:n < ts.length:=by omega
   rw[List.getElem?_map,List.getElem?_eq_getElem hn]at hx;have hx:V.ref as[n]=x:=Option.some.inj hx;subst hx;obtain⟨_,en⟩:=fD (hL1.mv sm) hnt;obtain⟨c1,c2,_⟩:=hin _ (List.getElem_mem hnt);refine⟨as[n],_,rfl,aK.of en,rfl,_,_,rfl,_,_,rfl,_,_,rfl,rfl,?_⟩;have e1l:(1:Int)-(fW ts:Int)=((1-fW ts:Nat):Int):=by omega
   refine⟨_,rfl,.inl ⟨rfl,_,aN.of V4⟩,_,rfl,_,rfl,_,rfl,_,rfl,_,_,rfl,rfl,M,H,ps,R,r,w,ts[n].1,ts[n].2.1,1-fW ts,by show [V.ref M,V.int (ts[n].1:Int),V.int (ts[n].2.1:Int),V.int (1-(fW ts:Int))]=_;rw[e1l],sm _ _ hM,lW.Ji sm,hb',r9,w9,c1,c2,by omega,λt2 H4 s4 hq2=>?_⟩;have adY:=s4 _ _ V4;refine⟨L,_,_,rfl,rfl,adY,by rw[List.length_map];exact aD (by omega),?_⟩;refine⟨_,_,_,bs++[t2],rfl,(sm.trans s4).bJ hL0,by rw[ao];simp,by simp[tD],?_⟩;rw[show ts.take (n+1)=ts.take n++(some ts[n]).toList by rw[List.take_add_one,List.getElem?_eq_getElem hnt]];have e2:(((ts.take 1).map (λt=>(t.1,t.2.1,fW ts))++(ts.take n++(some ts[n]).toList).map λt=>(t.1,t.2.1,1-fW ts)).map (qd R))=(((ts.take 1).map (λt=>(t.1,t.2.1,fW ts))++(ts.take n).map λt=>(t.1,t.2.1,1-fW ts)).map (qd R))++[qd R (ts[n].1,ts[n].2.1,1-fW ts)]:=by
    rw[List.map_append (l₁:=ts.take n),<- List.append_assoc,List.map_append];rfl
   rw[e2];exact((hQ.mv s4).app (cY.one hq2)).ji (mU adY)
  ·rintro σ H' ⟨v5,v6,v7,bs,rfl,sm,V4,tD,hQ⟩
   rw[List.length_map]at tD;rw[List.length_map,hal,List.take_length]at hQ;have hQ':QL H' bs ((oX ts).map (qd R)):=hQ;have hqb:∀n (x:mV),((oX ts).map (qd R))[n]?=some x->x.2.2.2.length<=20:=λn x hx=>by
    obtain⟨a,ha,rfl⟩:=List.mem_map.mp (List.mem_of_getElem? hx);have hi:a.1 < r:=by
     rcases List.mem_append.mp ha with z | z
     ·obtain⟨u,hu,rfl⟩:=List.mem_map.mp z
      exact(hin u (List.mem_of_mem_take hu)).1
     ·obtain⟨u,hu,rfl⟩:=List.mem_map.mp z
      exact(hin u hu).1
    exact CZ hb' r9 w9 hi
   refine⟨_,rfl,L,rfl,⟨_,aN.of V4⟩,λN hN=>uQ (K:=K) (a:=L) (f:=dB [] 0) (tt:=Ay (pR (En λi j=>V.bl (decide (j < i))) (Kr Rr (k_ (pR (Ku K) (gU 0) (tC (V.int 3))) oH)) (tC (V.int 1)))) (te:=gU 0) (xs:=bs.map V.ref) (λn ys H3=>∃cs:List Addr,ys=cs.map V.ref/\cs.length<=n/\H3 N=some (.lst ys)/\Same H' H3/\QL H3 cs ((((oX ts).map (qd R)).take n).filter rB))
    ⟨[],rfl,Nat.le_refl _,ao,Same.upd hN,cY.nil⟩ (λn ys H3 _ h=>by obtain⟨_,_,_,_,sm,_⟩:=h;exact aN.of (sm _ _ V4)) ?_ ?_⟩
   ·rintro n x ys H3 hx ⟨cs,rfl,hcl,i_,sm3,V5⟩
    have hn:n < bs.length:=by have:=(List.getElem?_eq_some_iff.mp hx).1;simpa using this
    rw[List.getElem?_map,List.getElem?_eq_getElem hn]at hx;have hx:V.ref bs[n]=x:=Option.some.inj hx;subst hx;obtain⟨qq,eq,hat⟩:=(hQ'.mv sm3).get hn;have adZ:=hqb n qq eq;refine⟨_,rfl,bs[n],_,_,_,rfl,rfl,aK.of hat,aB (j:=3) rfl,_,rfl,Nat.le_of_lt (aD (by omega)),_,_,rfl,rfl,_,rfl,?_⟩;by_cases hc:rB qq=true
    ·have:decide ((1:Int) < (qq.2.2.2.length:Int))=true:=decide_eq_true (by have:=of_decide_eq_true hc;omega)
     rw[this];refine bw ⟨_,rfl,i_,by rw[List.length_map];exact aD (by omega),cX.mk (by rw[List.length_map];exact hn) ⟨cs++[bs[n]],by simp,by simp;omega,by rw[ao],sm3.bJ hN,?_⟩⟩;rw[List.take_add_one,eq,List.filter_append];have e2:((some qq).toList).filter rB=[qq]:=by simp[hc]
     rw[e2];exact(V5.app (cY.one hat)).ji (mU i_)
    ·have:decide ((1:Int) < (qq.2.2.2.length:Int))=false:=decide_eq_false (λz=>hc (decide_eq_true (by omega)))
     rw[this];refine aV (cX.mk (by rw[List.length_map];exact hn) ⟨cs,rfl,by omega,i_,sm3,?_⟩);rw[List.take_add_one,eq,List.filter_append];have e2:((some qq).toList).filter rB=[]:=by simp[hc]
     rw[e2,List.append_nil];exact V5
   ·rintro ys H3 ⟨cs,rfl,hcl,i_,sm3,V5⟩
    rw[List.length_map,hQ'.len,List.take_length]at V5;refine⟨N,_,rfl,.inl ⟨aN.of i_,λT hT=>?_⟩⟩;have k:Same H3 (upd H3 T (HO.tup (cs.map V.ref))):=Same.upd hT;refine q T cs _ (((s1.trans sm).trans sm3).trans k) ao ?_;unfold fB;rw[hR];exact V5.mv k
theorem V6 {ts:List aY}(hl:Fz ts)(h0:0 < ts.length):((ts.map λt=>decide (V.int (t.1:Int)=V.int (ts[0].1:Int))).all id)=decide (fW ts=0):=by
 have hd:∀a b:Nat,decide (V.int (a:Int)=V.int (b:Int))=decide (a=b):=λa b=>by
  by_cases h:a=b
  ·subst h;simp
  ·have:¬V.int (a:Int)=V.int (b:Int):=λz=>h (by injection z with z;exact Int.ofNat.inj z)
   simp[h,this]
 have key:(∀t∈ts,t.1=ts[0].1)↔ts[0].1=ts[ts.length-1].1:=by
  constructor
  ·intro h
   exact(h _ (List.getElem_mem _)).symm
  ·intro h t ht
   obtain⟨i,hi,rfl⟩:=List.mem_iff_getElem.mp ht;rcases hl with hl | hl
   ·rw[List.pairwise_iff_getElem]at hl
    rcases Nat.eq_zero_or_pos i with z | z
    ·subst z;rfl
    ·exact(hl 0 i h0 hi z).symm
   ·rw[List.pairwise_iff_getElem]at hl
    rcases Nat.eq_zero_or_pos (ts.length-1) with z | z
    ·have:i=0:=by omega
     subst this;rfl
    ·have:=hl 0 (ts.length-1) h0 (by omega) z
     omega
 rw[Jl h0,Bool.eq_iff_iff,List.all_eq_true,decide_eq_true_iff];constructor
 ·intro h
  rw[if_pos];refine key.mp λt ht=>?_;have:=h _ (List.mem_map.mpr ⟨t,ht,rfl⟩);rw[hd]at this;exact of_decide_eq_true this
 ·intro h x hx
  obtain⟨t,ht,rfl⟩:=List.mem_map.mp hx;have he:ts[0].1=ts[ts.length-1].1:=by
   by_cases z:ts[0].1=ts[ts.length-1].1
   ·exact z
   ·rw[if_neg z]at h;cases h
  rw[hd];exact decide_eq_true (key.mpr he t ht)
noncomputable def L_:Sp:=λvs H Q _=>∃(t:Addr) (as:List Addr) (ts:List aY),vs=[.ref t]/\H t=some (.tup (as.map V.ref))/\cM H as ts/\0 < ts.length/\ts.length<=7/\Fz ts/\∀H',Same H H'->Q (.bl (decide (fW ts=0))) H'
theorem Ma (D:aJ K mg "is_across" lV ["laying"])(dU:mg "all"=none):Def P w K mg base "is_across" 1 ["laying"] L_:=by
 refine D.dh zf (λvs H Q E h=>?_) (λf cdv A outer s H vs Q E hr h=>?_)
 ·obtain⟨t,as,ts,rfl,_⟩:=h
  rfl
 ·obtain⟨t,as,ts,rfl,ht,hL,h0,h7,hl,q⟩:=h
  have hal:=hL.len;refine⟨_,(aA (aX (aH (iC rfl) (by rfl) dU h_ (aj (dJ (ns:=["row","column","sign"]) rfl (dR.of ["laying"] [] (by kernel_rfl)) (dF (qv 0)) (λ_ _ _ _ _=>(lB K rfl (show (["row","column","sign","laying"]:List Str).Nodup by decide +kernel) rfl rfl rfl (by rfl) (by rfl) (by rfl))) (λ_ _ _ _ _=>cu) (λ_ _ _ _ _=>(eY gq (qv 0) (aL (jw K) (aL (jw K) (qv 3) aq (λ_ _=>rfl)) aq (λ_ _=>rfl)) (bh _)))) ak)))),?_⟩;refine⟨_,rfl,t,rfl,⟨_,aK.of ht⟩,λN hN=>gW (K:=K) (KT:=K) (a:=t) (f:=dB [] 0) (tt:=fJ) (xs:=as.map V.ref) (λn ys H3=>ys=((ts.take n).map λt=>decide (V.int (t.1:Int)=V.int (ts[0].1:Int))).map V.bl/\H3 N=some (.lst ys)/\Same H H3)
   ⟨rfl,ao,Same.upd hN⟩ (λn ys H3 _ h=>aK.of (h.2.2 _ _ ht)) ?_ ?_⟩
  ·rintro n x ys H3 hx ⟨rfl,i_,sm3⟩
   have hn:n < as.length:=by have:=(List.getElem?_eq_some_iff.mp hx).1;simpa using this
   have hnt:n < ts.length:=by omega
   rw[List.getElem?_map,List.getElem?_eq_getElem hn]at hx;have hx:V.ref as[n]=x:=Option.some.inj hx;obtain⟨_,en⟩:=fD (hL.mv sm3) hnt;obtain⟨g0,e0⟩:=fD (hL.mv sm3) h0;refine qQ hx.symm (aK.of en) ?_;refine⟨_,rfl,_,rfl,t,_,_,.ref as[0],rfl,rfl,aK.of (sm3 _ _ ht),aB (j:=0) (by simp[g0]),as[0],_,_,_,rfl,rfl,aK.of e0,aB (j:=0) rfl,rfl,i_,?_,cX.mk (by rw[List.length_map];exact hn) ⟨?_,ao,sm3.bJ hN⟩⟩
   ·rw[List.length_map,List.length_map,List.length_take];exact aD (by omega)
   ·rw[show ts.take (n+1)=ts.take n++(some ts[n]).toList by rw[List.take_add_one,List.getElem?_eq_getElem hnt],List.map_append,List.map_append]
    rfl
  ·rintro ys H3 ⟨rfl,i_,sm3⟩
   refine⟨N,_,rfl,aN.of i_,?_⟩;rw[List.length_map,hal,List.take_length,V6 hl h0];exact q H3 sm3
theorem V7 {r w:Nat}{R:List (List Nat)}{i j wy:Nat}(hwy:wy<=1):YH i j (wy:Int) (lineOf R i j (wy:Int))=[.int (lK R i j wy).1,.int (lK R i j wy).2.1,.str (S (lK R i j wy).2.2.2)]:=by
 unfold YH lK placeOf;by_cases z:wy=0
 ·subst z
  have a1:=nj ((lineOf R i j ((0:Nat):Int)).take j);rw[List.length_take]at a1;rw[if_pos rfl];show [V.int (i:Int),V.int ((j:Int)-_),_]=[V.int (i:Int),V.int ((j-_:Nat):Int),_]
  rw[Int.ofNat_sub (by omega)];rfl
 ·have:wy=1:=by omega
  subst this;have a1:=nj ((lineOf R i j ((1:Nat):Int)).take i);rw[List.length_take]at a1;rw[if_neg (by decide)];show [V.int ((i:Int)-_),V.int (j:Int),_]=[V.int ((i-_:Nat):Int),V.int (j:Int),_]
  rw[Int.ofNat_sub (by omega)];rfl
noncomputable def Mf (C:Addr):Sp:=λvs H Q _=>∃(b t:Addr) (as:List Addr) (ts:List aY) (r w:Nat) (j3 y8:List (List Nat)) (bi bj:Nat),vs=[.ref b,.ref t]/\eE C H b r w j3 y8 bi bj/\H t=some (.tup (as.map V.ref))/\cM H as ts/\(∀t∈ts,inB r w t)/\0 < ts.length/\ts.length<=7/\Fz ts/\
 ∀(T:Addr) (bs:List Addr) (H':Hp),Same H H'->H' T=some (.tup (bs.map V.ref))->QL H' bs (fB j3 ts)->Q (.ref T) H'
theorem V8 {C f1 f2:Addr}{iK fd2:FuncData}(D:aJ K mg "formed" wD ["board","laying"])(aU:mg "len"=none)(bU:mg "tuple"=none)(gK:gj K C)(tE:Meth K C "laid" f1)(tG:cD P w K mg base fK 8 f1 iK ["self","laying"] (Lw C))(tH:Binds K iK ["self","laying"] [])
  (O2:Meth K C "run" f2) (O4:cD P w K mg base fK 2 f2 fd2 ["self","row","column","way"] (aaq C)) (O5:Binds K fd2 ["self","row","column","way"] []) (uT:Def P w K mg base "is_across" 1 ["laying"] L_):Def P w K mg base "formed" 10 ["board","laying"] (Mf C):=by
 refine D.dh iY (λvs H Q E h=>?_) (λf cdv A outer s H vs Q E hr h=>?_)
 ·obtain⟨b,t,as,ts,r,w,j3,y8,bi,bj,rfl,_⟩:=h
  rfl
 ·obtain⟨b,t,as,ts,r,w,j3,y8,bi,bj,rfl,BA,ht,hL,hin,h0,h7,hl,q⟩:=h
  obtain⟨dx,_,_,_,ex,_⟩:=id BA.ex;have r9:=BA.ok.r9;have w9:=BA.ok.w9;have hal:=hL.len;have gR:=V3 ts;refine⟨_,(au (aM (i:=2) iY.nd rfl (Or.inl rfl) (oN (qv 0) gK.cl tE tG (hr.mono (by decide)) tH .nil mj (aj (qv 1) ak))) (au (gD (aM (i:=3) iY.nd rfl (Or.inr rfl) (mK (cO (bF uT (hr.mono (by decide)) rfl (aj (qv 1) ak))) aq aq))) (au (aM (i:=4) iY.nd rfl (Or.inl rfl) (fZ (aj (bR (aj (aL aO (aL aO (qv 1) aq (λ_ _=>rfl)) aq (λ_ _=>rfl)) (aj (aL aO (aL aO (qv 1) aq (λ_ _=>rfl)) aq (λ_ _=>rfl)) (aj (qv 3) ak)))) ak))) (au (dY (gA PySem.F.plainAttrs_list PySem.F.slot_list_extend PySem.F.type_list_extend Ux (qv 4) (aj (dJ (ns:=["row","column","sign"]) rfl (dR.of ["board","laying","after","way","asked",".5",".6","words","along","run"] [5,6] (by kernel_rfl)) (dF (qv 1)) (λ_ _ _ _ _=>(lB K rfl (show (["row","column","sign","board","laying","after","way","asked",".5",".6","words","along","run"]:List Str).Nodup by decide +kernel) rfl rfl rfl (by rfl) (by rfl) (by rfl))) (λ_ _ _ _ _=>cu) (λ_ _ _ _ _=>(bR (aj (qv 0) (aj (qv 1) (aj (aG fX aq (qv 6)) ak)))))) ak))) (au (aM (i:=7) iY.nd rfl (Or.inl rfl) (fZ ak)) (au (dM PassesOwn.never rfl (fG (qv 4)) (pZ rfl (cB (bK (i:=5) iY.nd rfl (Or.inl rfl)) (cB (bK (i:=6) iY.nd rfl (Or.inl rfl)) (cB (bK (i:=8) iY.nd rfl (Or.inl rfl)) lq)))) (au (aM (i:=9) iY.nd rfl (Or.inl rfl) (oN (qv 2) gK.cl O2 O4 (hr.mono (by decide)) O5 .nil mj (aj (qv 5) (aj (qv 6) (aj (qv 8) ak))))) (aA (bO (bx Rf (aH bY (by rfl) aU PySem.boot_len (aj (aL aO (qv 9) aq (λ_ _=>rfl)) ak)) aq (bh _)) (aA (dY (gA PySem.F.plainAttrs_list PySem.F.slot_list_append PySem.F.type_list_append g_ (qv 7) (aj (bR (aj (aL aO (qv 9) aq (λ_ _=>rfl)) (aj (aL aO (qv 9) aq (λ_ _=>rfl)) (aj (qv 8) (aj (aL aO (qv 9) aq (λ_ _=>rfl)) ak))))) ak)))) bB)))) (aA (aX (eO gO (by rfl) bU PyProof.Rows.boot_tuple (aj (qv 7) ak)))))))))),?_⟩;refine⟨_,rfl,b,dx,_,rfl,ex,rfl,_,rfl,b,t,as,ts,r,w,j3,y8,bi,bj,rfl,BA,ht,hL,hin,λx1 H1 s1 B1=>?_⟩;have hb':=jP BA.ok.br hin;generalize hR:bM j3 ts=R at B1 hb';refine⟨λσ H'=>Same H1 H'/\σ=[some (.ref b),some (.ref t),some (.ref x1),some (.int (fW ts)),none,none,none,none,none,none],?_,?_⟩
  ·refine⟨_,rfl,t,as,ts,rfl,s1 _ _ ht,hL.mv s1,h0,h7,hl,λH2 s2=>⟨_,rfl,?_⟩⟩
   by_cases z:fW ts=0
   ·rw[decide_eq_true z]
    refine bw ⟨s2,?_⟩;rw[z];rfl
   ·rw[decide_eq_false z]
    refine aV ⟨s2,?_⟩;rw[show fW ts=1 by omega];rfl
  rintro σ H2 ⟨s2,rfl⟩;have s12:=s1.trans s2;have hL2:=hL.mv s12;have Jk:=s12 _ _ ht;obtain⟨g0,e0⟩:=fD hL2 h0;refine⟨_,rfl,t,_,_,.ref as[0],rfl,rfl,aK.of Jk,aB (j:=0) (by simp[g0]),as[0],_,_,_,rfl,rfl,aK.of e0,aB (j:=0) rfl,_,rfl,t,_,_,.ref as[0],rfl,rfl,aK.of Jk,aB (j:=0) (by simp[g0]),as[0],_,_,_,rfl,rfl,aK.of e0,aB (j:=1) rfl,_,rfl,by show 3<=sizeLine;decide,λt1 ht1=>⟨by show 1<=sizeLine;decide,λA0 hA0=>?_⟩⟩;have k3:Same H2 (upd H2 t1 (HO.tup [.int ts[0].1,.int ts[0].2.1,.int (fW ts)])):=Same.upd ht1;have k4:=k3.bJ (o:=HO.lst [.ref t1]) (k3.free hA0);have hA0':=k3.free hA0;have n1A:t1≠A0:=λz=>by rw[<- z,ao]at hA0;cases hA0
  have e1:upd (upd H2 t1 (HO.tup [.int ts[0].1,.int ts[0].2.1,.int (fW ts)])) A0 (HO.lst [.ref t1]) t1=some (.tup [.int ts[0].1,.int ts[0].2.1,.int (fW ts)]):=by rw[aP n1A,ao]
  have eA:upd (upd H2 t1 (HO.tup [.int ts[0].1,.int ts[0].2.1,.int (fW ts)])) A0 (HO.lst [.ref t1]) A0=some (.lst [.ref t1]):=ao;generalize upd (upd H2 t1 (HO.tup [.int ts[0].1,.int ts[0].2.1,.int (fW ts)])) A0 (HO.lst [.ref t1])=H4 at k4 e1 eA ⊢;have ht4:=k4 _ _ Jk;have qm:=hL2.mv k4;have e1l:(1:Int)-(fW ts:Int)=((1-fW ts:Nat):Int):=by omega
  refine⟨_,rfl,.inl ⟨rfl,_,aN.of eA⟩,_,rfl,t,rfl,⟨_,aK.of ht4⟩,λN hN=>gW (K:=K) (KT:=K) (a:=t) (f:=dB [5,6] 0) (tt:=fJ) (xs:=as.map V.ref) (λn ys H5=>∃cs:List Addr,ys=cs.map V.ref/\cs.length=n/\H5 N=some (.lst ys)/\Same H4 H5/\AL3 H5 cs ((ts.take n).map λt=>(t.1,t.2.1,1-fW ts)))
   ⟨[],rfl,rfl,ao,Same.upd hN,cY.nil⟩ (λn ys H5 _ h=>by obtain⟨_,_,_,_,sm,_⟩:=h;exact aK.of (sm _ _ ht4)) ?_ ?_⟩
  ·rintro n x ys H5 hx ⟨cs,rfl,hcl,nZ,ig,uq⟩
   have hn:n < as.length:=by have:=(List.getElem?_eq_some_iff.mp hx).1;simpa using this
   have hnt:n < ts.length:=by omega
   rw[List.getElem?_map,List.getElem?_eq_getElem hn]at hx;have hx:V.ref as[n]=x:=Option.some.inj hx;obtain⟨_,en⟩:=fD (qm.mv ig) hnt;refine qQ hx.symm (aK.of en) ?_;refine⟨_,rfl,_,rfl,_,rfl,_,_,rfl,rfl,by show 3<=sizeLine;decide,λg hg=>?_⟩;have kg:Same H5 (upd H5 g (HO.tup [.int ts[n].1,.int ts[n].2.1,.int (1-(fW ts:Int))])):=Same.upd hg;have Jm:=kg _ _ nZ;refine⟨Jm,by rw[List.length_map];exact aD (by omega),cX.mk (by rw[List.length_map];exact hn) ⟨cs++[g],by simp,by simp[hcl],by rw[ao],(ig.trans kg).bJ hN,?_⟩⟩;rw[show ts.take (n+1)=ts.take n++[ts[n]] by rw[List.take_add_one,List.getElem?_eq_getElem hnt];rfl,List.map_append];refine((uq.mv kg).app (cY.one (x:=(ts[n].1,ts[n].2.1,1-fW ts)) ?_)).ji (mU Jm);rw[ao,e1l]
  rintro ys H5 ⟨cs,rfl,hcl,nZ,ig,uq⟩;rw[List.length_map]at hcl;rw[List.length_map,hal,List.take_length]at uq;have eA5:=ig _ _ eA;refine⟨A0,N,_,_,rfl,rfl,eA5,nZ,by rw[List.length_map,hcl];exact Nat.le_of_lt (aD (by simp;omega)),?_⟩;have YT:AL3 (upd H5 A0 (HO.lst ([V.ref t1]++cs.map V.ref))) ([t1]++cs) (oX ts):=by
   have hone:AL3 H5 [t1] ((ts.take 1).map λt=>(t.1,t.2.1,fW ts)):=by
    rw[List.take_one,List.head?_eq_getElem?,List.getElem?_eq_getElem h0];exact cY.one (x:=(ts[0].1,ts[0].2.1,fW ts)) (ig _ _ e1)
   exact(hone.app uq).ji (mU eA5)
  have sH6:Same H1 (upd H5 A0 (HO.lst ([V.ref t1]++cs.map V.ref))):=λa o e=>by
   have:=(k4.trans ig) _ _ (s2 _ _ e);rw[aP (λz=>by rw[z]at e;have:=s2 _ _ e;rw[hA0']at this;cases this)];exact this
  have eA6:upd H5 A0 (HO.lst ([V.ref t1]++cs.map V.ref)) A0=some (.lst (([t1]++cs).map V.ref)):=by rw[ao];simp
  generalize upd H5 A0 (HO.lst ([V.ref t1]++cs.map V.ref))=H6 at YT sH6 eA6 ⊢;have ad0:=YT.len;have hak:(oX ts).length=1+ts.length:=by
   unfold oX;rw[List.length_append,List.length_map,List.length_map,List.length_take];omega
  have afG:∀n (a:Nat × Nat × Nat),(oX ts)[n]?=some a->a.1 < r/\a.2.1 < w/\a.2.2<=1:=λn a ha=>by
   rcases List.mem_append.mp (List.mem_of_getElem? ha) with z | z
   ·obtain⟨u,hu,rfl⟩:=List.mem_map.mp z
    have:=hin u (List.mem_of_mem_take hu);exact⟨this.1,this.2.1,gR⟩
   ·obtain⟨u,hu,rfl⟩:=List.mem_map.mp z
    have:=hin u hu;exact⟨this.1,this.2.1,by show 1-fW ts<=1;omega⟩
  refine⟨by show 0<=sizeLine;decide,λW hW=>?_⟩;have hW0:=sH6.free hW;have nWA:A0≠W:=λz=>by rw[<- z,eA6]at hW;cases hW
  have kW:Same H6 (upd H6 W (HO.lst [])):=Same.upd hW;refine⟨_,rfl,A0,rfl,⟨_,aN.of (kW _ _ eA6)⟩,mH (K:=K) (a:=A0) (xs:=([t1]++cs).map V.ref) (λn σ H'=>∃(v6 v7 v8 v9:Option V) (bs:List Addr),σ=[some (.ref b),some (.ref t),some (.ref x1),some (.int (fW ts)),some (.ref A0),v6,v7,some (.ref W),v8,v9]/\Same H6 H'/\H' W=some (.lst (bs.map V.ref))/\bs.length<=n/\QL H' bs ((((oX ts).take n).map (qd R)).filter rB))
   ⟨none,none,none,none,[],rfl,kW,ao,Nat.le_refl _,cY.nil⟩ (λn σ H' _ h=>by obtain⟨_,_,_,_,_,_,sm,_⟩:=h;exact aN.of (sm _ _ eA6)) ?_ ?_⟩
  ·rintro n x σ H' hx ⟨v6,v7,v8,v9,bs,rfl,sm,hWb,tD,hQ⟩
   have hn:n < ([t1]++cs).length:=by have:=(List.getElem?_eq_some_iff.mp hx).1;simpa using this
   rw[List.getElem?_map,List.getElem?_eq_getElem hn]at hx;have hx:V.ref ([t1]++cs)[n]=x:=Option.some.inj hx;subst hx;obtain⟨a,ea,hat⟩:=(YT.mv sm).get hn;obtain⟨c1,c2,c3⟩:=afG n a ea;have hn9:n < 9:=by rw[ad0,hak]at hn;omega
   refine⟨([t1]++cs)[n],_,rfl,aK.of hat,rfl,_,_,rfl,_,_,rfl,_,_,rfl,rfl,?_⟩;have B2:=B1.mv (sH6.trans sm);obtain⟨dx1,_,_,_,ex1,_⟩:=id B2.ex;refine⟨_,rfl,x1,dx1,_,rfl,ex1,rfl,_,rfl,_,rfl,_,rfl,x1,r,w,R,y8,bi,bj,a.1,a.2.1,(a.2.2:Int),rfl,B2,c1,c2,by omega,λt2 H7 s7 _ ht7=>?_⟩;rw[V7 (r:=r) (w:=w) c3]at ht7;have hlen:=CZ hb' r9 w9 c1 (j:=a.2.1) (wy:=a.2.2);have hS7:=aK.of (K:=K) ht7;have YW:=s7 _ _ hWb;refine⟨_,rfl,t2,_,_,_,rfl,rfl,hS7,aB (j:=2) rfl,_,rfl,Nat.le_of_lt (aD (by omega)),_,_,rfl,rfl,_,rfl,?_⟩;have aau:(oX ts).take (n+1)=(oX ts).take n++[a]:=by rw[List.take_add_one,ea];rfl
   by_cases hc:rB (qd R a)=true
   ·have:decide ((2:Int)<=((lK R a.1 a.2.1 a.2.2).2.2.2.length:Int))=true:=decide_eq_true (by have:=of_decide_eq_true hc;show (2:Int)<=((qd R a).2.2.2.length:Int);omega)
    rw[this];refine bw ⟨_,rfl,.inl ⟨rfl,_,aN.of YW⟩,_,rfl,t2,_,_,_,rfl,rfl,hS7,aB (j:=0) rfl,_,rfl,t2,_,_,_,rfl,rfl,hS7,aB (j:=1) rfl,_,rfl,_,rfl,t2,_,_,_,rfl,rfl,hS7,aB (j:=2) rfl,by show 4<=sizeLine;decide,λg hg=>?_⟩;have kg:Same H7 (upd H7 g (HO.tup [.int (lK R a.1 a.2.1 a.2.2).1,.int (lK R a.1 a.2.1 a.2.2).2.1,.int a.2.2,.str (S (lK R a.1 a.2.1 a.2.2).2.2.2)])):=Same.upd hg;have hWg:=kg _ _ YW;refine⟨W,_,_,rfl,rfl,hWg,by rw[List.length_map];exact aD (by omega),?_⟩;refine⟨_,_,_,_,bs++[g],rfl,((sm.trans s7).trans kg).bJ hW,by rw[ao];simp,by simp;omega,?_⟩;rw[aau,List.map_append,List.filter_append];have e2:([a].map (qd R)).filter rB=[qd R a]:=by simp[hc]
    rw[e2];exact(((hQ.mv s7).mv kg).app (cY.one (x:=qd R a) ao)).ji (mU hWg)
   ·have:decide ((2:Int)<=((lK R a.1 a.2.1 a.2.2).2.2.2.length:Int))=false:=decide_eq_false (λz=>hc (decide_eq_true (by have z:(2:Int)<=((qd R a).2.2.2.length:Int):=z;omega)))
    rw[this];refine aV ⟨_,_,_,_,bs,rfl,sm.trans s7,YW,by omega,?_⟩;rw[aau,List.map_append,List.filter_append];have e2:([a].map (qd R)).filter rB=[]:=by simp[hc]
    rw[e2,List.append_nil];exact hQ.mv s7
  ·rintro σ H' ⟨v6,v7,v8,v9,bs,rfl,sm,hWb,tD,hQ⟩
   rw[List.length_map,ad0,List.take_length]at hQ;refine⟨_,rfl,W,_,rfl,.inl ⟨aN.of hWb,λT hT=>?_⟩⟩;have k:Same H' (upd H' T (HO.tup (bs.map V.ref))):=Same.upd hT;refine q T bs _ (((s1.trans sH6).trans sm).trans k) ao ?_;unfold fB;rw[hR];exact hQ.mv k
end
end My
end
section
namespace My
open PySem L2
section
variable {P:Program}{w:World}{K:W.Frag}{mg:Str->Option Value}{base:Heap}
noncomputable def C_ (K:W.Frag)(T:String)(H:Hp)(x:V):Prop:=∃t,jt K H x t/\W.kitOne K t (.type T)=some false
theorem jt.mv {K:W.Frag}{H H':Hp}{x:V}{t:Value}(h:jt K H x t)(s:Same H H'):jt K H' x t:=by
 cases h with
 | non=>exact .non
 | bl b=>exact .bl b
 | int i=>exact .int i
 | str x=>exact .str x
 | flt x=>exact .flt x
 | lst e=>exact .lst (s _ _ e)
 | lM e=>exact .lM (s _ _ e)
 | tup e=>exact .tup (s _ _ e)
 | dK e=>exact .dK (s _ _ e)
 | dT e=>exact .dT (s _ _ e)
 | ins e a b c d f=>exact .ins (s _ _ e) a b c d f
theorem C_.mv {K:W.Frag}{T:String}{H H':Hp}{x:V}(h:C_ K T H x)(s:Same H H'):C_ K T H' x:=let ⟨t,a,b⟩:=h;⟨t,jt.mv a s,b⟩
noncomputable def Dc (K:W.Frag):Sp:=λvs H Q _=>(∃i:Int,vs=[.int i]/\Q (.bl true) H)\/(∃b:Bool,vs=[.bl b]/\Q (.bl false) H)\/∃x,vs=[x]/\C_ K "int" H x/\Q (.bl false) H
theorem Mg (D:aJ K mg "is_whole" nO ["thing"])(j6:mg "int"=none)(jV:mg "bool"=none)(aQ:mg "isinstance"=none):Def P w K mg base "is_whole" 1 ["thing"] (Dc K):=by
 refine D.dh BP (λvs H Q E h=>?_) (λf cdv A outer s H vs Q E hr h=>?_)
 ·rcases h with⟨i,rfl,_⟩ | ⟨i,rfl,_⟩ | ⟨i,rfl,_⟩ <;> rfl
 ·refine⟨_,(aA (aX (jT (aH d7 (by rfl) aQ PyProof.Rows.boot_isinstance (aj (qv 0) (aj (iw (v:=.ty "int") (by rfl) j6 PyProof.Rows.boot_int rfl) ak))) (iV (Vf (aH d7 (by rfl) aQ PyProof.Rows.boot_isinstance (aj (qv 0) (aj (iw (v:=.ty "bool") (by rfl) jV PyProof.Rows.boot_bool rfl) ak)))))))),?_⟩
  rcases h with⟨i,rfl,q⟩ | ⟨b,rfl,q⟩ | ⟨x,rfl,⟨t,ty,k⟩,q⟩
  ·exact⟨_,rfl,_,_,_,true,rfl,.int _,(by kernel_rfl),true,rfl,bw ⟨_,rfl,_,_,_,false,rfl,.int _,(by kernel_rfl),false,rfl,q⟩⟩
  ·exact⟨_,rfl,_,_,_,true,rfl,.bl _,(by kernel_rfl),true,rfl,bw ⟨_,rfl,_,_,_,true,rfl,.bl _,(by kernel_rfl),true,rfl,q⟩⟩
  ·exact⟨_,rfl,_,_,_,false,rfl,ty,k,false,rfl,aV q⟩
theorem all_map {α:Type}(l:List α)(f:α->Bool):((l.map f).all id)=l.all f:=by induction l with | nil=>rfl | cons a l ih=>simp[ih]
theorem take_snoc {α β:Type}{l:List α}{i:Nat}{a:α}(h:l[i]?=some a)(f:α->β):(l.take (i+1)).map f=(l.take i).map f++[f a]:=by
 rw[List.take_add_one,h,List.map_append];rfl
inductive ur (K:W.Frag) (H:Hp):V->Option Int->Prop
 | int (i:Int):ur K H (.int i) (some i)
 | bl (b:Bool):ur K H (.bl b) none
 | no {x:V} (h:C_ K "int" H x):ur K H x none
theorem ur.mv {H H':Hp}{x:V}{o:Option Int}(h:ur K H x o)(s:Same H H'):ur K H' x o:=by
 cases h with
 | int i=>exact .int i
 | bl b=>exact .bl b
 | no h=>exact .no (h.mv s)
noncomputable def FP (r w:Nat)(oi oj:Option Int):Bool:=match oi,oj with | some i,some j=>decide (0<=i/\i < r/\0<=j/\j < w) | _,_=>false
noncomputable def Qx (K:W.Frag):Sp:=λvs H Q _=>∃(p:Addr) (ls:List (List Nat)) (r w:Nat) (x y:V) (oi oj:Option Int),vs=[.ref p,x,y]/\H p=some (.tup (Ts ls))/\Blk r w ls/\1<=r/\r<=9/\w<=9/\ur K H x oi/\ur K H y oj/\Q (.bl (FP r w oi oj)) H
theorem ur.sp {H:Hp}{x:V}{o:Option Int}{Q:VK}{E:XK}(h:ur K H x o)(q:Q (.bl o.isSome) H):Dc K [x] H Q E:=by
 cases h with
 | int i=>exact .inl ⟨i,rfl,q⟩
 | bl b=>exact .inr (.inl ⟨b,rfl,q⟩)
 | no h=>exact .inr (.inr ⟨x,rfl,h,q⟩)
theorem G7 (D:aJ K mg "is_cell_of" j_ ["rows","row","column"])(aU:mg "len"=none)(nW:Def P w K mg base "is_whole" 1 ["thing"] (Dc K)):Def P w K mg base "is_cell_of" 2 ["rows","row","column"] (Qx K):=by
 refine D.dh yE (λvs H Q E h=>?_) (λf cdv A outer s H vs Q E hr h=>?_)
 ·obtain⟨p,ls,r,w,x,y,oi,oj,rfl,_⟩:=h
  rfl
 ·obtain⟨p,ls,r,w,x,y,oi,oj,rfl,hp,hb,r1,r9,w9,hx,hy,q⟩:=h
  have gR:(Ts ls).length=r:=by rw[List.length_map,hb.len]
  have h0:0 < ls.length:=by rw[hb.len];omega
  have hw0:ls[0].length=w:=hb.gJ _ (List.getElem_mem _);refine⟨_,(au (bO (QW.qt (pB (dN (cO (bF nW (hr.mono (by decide)) rfl (aj (qv 1) ak)))) (lR (dN (cO (bF nW (hr.mono (by decide)) rfl (aj (qv 2) ak))))))) (aA (aX gw)) bB) (aA (aX (jT (jK jl jG aq (qv 1) (aH bI (by rfl) aU PySem.boot_len (aj (qv 0) ak))) (iV (jK jl jG aq (qv 2) (aH bY (by rfl) aU PySem.boot_len (aj (aL aO (qv 0) aq (λ_ _=>rfl)) ak)))))))),?_⟩;refine⟨_,rfl,?_⟩;dsimp only[oH,k_];refine ur.sp hx ⟨_,rfl,?_⟩;cases hx with
  | bl b=>exact bw q
  | no h=>exact bw q
  | int i=>
   refine aV ⟨_,rfl,?_⟩;dsimp only[oH,k_];refine ur.sp hy ⟨_,rfl,?_⟩;cases hy with
   | bl b=>exact bw q
   | no h=>exact bw q
   | int j=>
    refine aV ?_;have q:Q (.bl (decide (0<=i/\i < (r:Int)/\0<=j/\j < (w:Int)))) H:=q;refine⟨_,rfl,_,_,rfl,rfl,_,rfl,?_⟩;by_cases h1:0<=i
    ·rw[decide_eq_true h1]
     refine bw ⟨_,rfl,p,_,rfl,.inr (aK.of hp),_,_,rfl,rfl,_,rfl,?_⟩;rw[gR];by_cases h2:i < (r:Int)
     ·rw[decide_eq_true h2]
      refine bw ⟨_,rfl,_,_,rfl,rfl,_,rfl,?_⟩;by_cases h3:0<=j
      ·rw[decide_eq_true h3]
       refine bw ⟨_,rfl,p,_,_,.str (S ls[0]),rfl,rfl,aK.of hp,aB (j:=0) (d_ (by simp[h0])),_,rfl,Nat.le_of_lt (aD (by omega)),_,_,rfl,rfl,?_⟩;rw[hw0];simpa [h1,h2,h3] using q
      ·rw[decide_eq_false h3]
       refine aV ?_;simpa [h1,h2,h3] using q
     ·rw[decide_eq_false h2]
      refine aV ?_;simpa [h1,h2] using q
    ·rw[decide_eq_false h1]
     refine aV ⟨_,rfl,aV ?_⟩;simpa [h1] using q
inductive Qy (K:W.Frag) (H:Hp):V->Option (List Nat)->Prop
 | no {x:V} (h:aan K H x):Qy K H x none
 | str (l:List Nat) (h:l.length<=1000):Qy K H (.str (S l)) (some l)
theorem Qy.mv {H H':Hp}{x:V}{o:Option (List Nat)}(h:Qy K H x o)(s:Same H H'):Qy K H' x o:=by
 cases h with
 | no h=>exact .no (let ⟨t,a,b⟩:=h;⟨t,jt.mv a s,b⟩)
 | str l h=>exact .str l h
abbrev uw:=Option (Option Int × Option Int × Option (List Nat))
inductive vO (K:W.Frag) (H:Hp):V->uw->Prop
 | no {x:V} (h:C_ K "tuple" H x):vO K H x none
 | bad {b:Addr} {xs:List V} (h:H b=some (.tup xs)) (hl:xs.length≠3):vO K H (.ref b) none
 | tri {b:Addr} {x y z:V} {oi oj:Option Int} {ol:Option (List Nat)} (h:H b=some (.tup [x,y,z])) (hx:ur K H x oi) (hy:ur K H y oj) (hz:Qy K H z ol):vO K H (.ref b) (some (oi,oj,ol))
theorem vO.mv {H H':Hp}{x:V}{o:uw}(h:vO K H x o)(s:Same H H'):vO K H' x o:=by
 cases h with
 | no h=>exact .no (h.mv s)
 | bad h hl=>exact .bad (s _ _ h) hl
 | tri h hx hy hz=>exact .tri (s _ _ h) (hx.mv s) (hy.mv s) (hz.mv s)
noncomputable def sgO (ol:Option (List Nat)):Bool:=match ol with | none=>false | some l=>BX l
noncomputable def pL (r w:Nat)(o:uw):Bool:=match o with | none=>false | some (oi,oj,ol)=>FP r w oi oj&&sgO ol
noncomputable def Jo (K:W.Frag)(C:Addr):Sp:=λvs H Q _=>∃(b:Addr) (x:V) (o:uw) (r w:Nat) (j3 y8:List (List Nat)) (bi bj:Nat),vs=[.ref b,x]/\eE C H b r w j3 y8 bi bj/\vO K H x o/\Q (.bl (pL r w o)) H
theorem Mh {C:Addr}(D:aJ K mg "is_triple" pH ["board","thing"])(aU:mg "len"=none)(bU:mg "tuple"=none)(aQ:mg "isinstance"=none)(T:gj K C)
  (kh:Def P w K mg base "is_cell_of" 2 ["rows","row","column"] (Qx K)) (zm:Def P w K mg base "is_sign" 1 ["thing"] (Lg K)):Def P w K mg base "is_triple" 3 ["board","thing"] (Jo K C):=by
 refine D.dh Lf (λvs H Q E h=>?_) (λf cdv A outer s H vs Q E hr h=>?_)
 ·obtain⟨b,x,o,r,w,j3,y8,bi,bj,rfl,_⟩:=h
  rfl
 ·obtain⟨b,x,o,r,w,j3,y8,bi,bj,rfl,BA,hT,q⟩:=h
  obtain⟨⟨dx,pr,pm,pb,hb,hpr,hpm,hpb⟩,B⟩:=BA;refine⟨_,(au (bO (QW.qt (pB (dN (cO (aH d7 (by rfl) aQ PyProof.Rows.boot_isinstance (aj (qv 1) (aj (iw (v:=.ty "tuple") (by rfl) bU PyProof.Rows.boot_tuple rfl) ak))))) (lR (bx lZ (aH bI (by rfl) aU PySem.boot_len (aj (qv 1) ak)) aq (bh _))))) (aA (aX gw)) bB) (aA (aX (jT (bF kh (hr.mono (by decide)) rfl (aj (jU (qv 0) rfl) (aj (aL aO (qv 1) aq (λ_ _=>rfl)) (aj (aL aO (qv 1) aq (λ_ _=>rfl)) ak)))) (iV (bF zm (hr.mono (by decide)) rfl (aj (aL aO (qv 1) aq (λ_ _=>rfl)) ak))))))),?_⟩;cases hT with
  | no h=>
   obtain⟨t,ty,k⟩:=h;exact⟨_,rfl,_,_,_,false,rfl,ty,k,_,rfl,bw (bw q)⟩
  | @bad a xs h hl=>
   refine⟨_,rfl,_,_,_,true,rfl,.tup h,(by kernel_rfl),_,rfl,aV ⟨_,rfl,a,_,rfl,.inr (aK.of h),rfl,_,rfl,?_⟩⟩;rw[decide_eq_false (show ¬V.int (xs.length:Nat)=V.int 3 from λz=>hl (by injection z with z;omega))];exact bw q
  | @tri a x y z oi oj ol h hx hy hz=>
   refine⟨_,rfl,_,_,_,true,rfl,.tup h,(by kernel_rfl),_,rfl,aV ⟨_,rfl,a,_,rfl,.inr (aK.of h),rfl,_,rfl,Ba rfl ?_⟩⟩;refine⟨_,rfl,b,C,dx,_,_,rfl,hb,T.cl,T.nr,rfl,_,rfl,a,_,_,x,rfl,rfl,aK.of h,aB (j:=0) rfl,_,rfl,a,_,_,y,rfl,rfl,aK.of h,aB (j:=1) rfl,pr,j3,r,w,x,y,oi,oj,rfl,hpr,B.br,B.r1,B.r9,B.w9,hx,hy,_,rfl,?_⟩;have q:Q (.bl (FP r w oi oj&&sgO ol)) H:=q;cases hc:FP r w oi oj with
   | false=>rw[hc]at q;exact aV q
   | true=>
    rw[hc]at q;refine bw ⟨_,rfl,a,_,_,z,rfl,rfl,aK.of h,aB (j:=2) rfl,?_⟩;dsimp only[oH,k_];cases hz with
    | no h=>exact .inl ⟨z,rfl,h,q⟩
    | str l hl=>exact .inr ⟨l,rfl,hl,q⟩
abbrev Mi:=cY (λq:Nat × Nat=>[V.int q.1,V.int q.2])
noncomputable def zB:Sp:=λvs H Q _=>∃(t:Addr) (as:List Addr) (ts:List aY),vs=[.ref t]/\H t=some (.tup (as.map V.ref))/\cM H as ts/\ts.length<=100/\
 ∀(L:Addr) (cs:List Addr) (H':Hp),Same H H'->H' L=some (.lst (cs.map V.ref))->Mi H' cs (ts.map λt=>(t.1,t.2.1))->Q (.ref L) H'
theorem O6 (D:aJ K mg "cells_of" qZ ["laying"]):Def P w K mg base "cells_of" 1 ["laying"] zB:=by
 refine D.dh Ot (λvs H Q E h=>?_) (λf cdv A outer s H vs Q E hr h=>?_)
 ·obtain⟨t,as,ts,rfl,_⟩:=h
  rfl
 ·obtain⟨t,as,ts,rfl,ht,hL,h7,q⟩:=h
  have hal:=hL.len;refine⟨_,(aA (aX (dJ (ns:=["row","column","sign"]) rfl (dR.of ["laying"] [] (by kernel_rfl)) (dF (qv 0)) (λ_ _ _ _ _=>(lB K rfl (show (["row","column","sign","laying"]:List Str).Nodup by decide +kernel) rfl rfl rfl (by rfl) (by rfl) (by rfl))) (λ_ _ _ _ _=>cu) (λ_ _ _ _ _=>(bR (aj (qv 0) (aj (qv 1) ak))))))),?_⟩;refine⟨_,rfl,t,rfl,⟨_,aK.of ht⟩,λN hN=>gW (K:=K) (KT:=K) (a:=t) (f:=dB [] 0) (tt:=fJ) (xs:=as.map V.ref) (λn ys H5=>∃cs:List Addr,ys=cs.map V.ref/\cs.length=n/\H5 N=some (.lst ys)/\Same H H5/\Mi H5 cs ((ts.take n).map λt=>(t.1,t.2.1)))
   ⟨[],rfl,rfl,ao,Same.upd hN,cY.nil⟩ (λn ys H5 _ h=>by obtain⟨_,_,_,_,sm,_⟩:=h;exact aK.of (sm _ _ ht)) ?_ ?_⟩
  ·rintro n x ys H5 hx ⟨cs,rfl,hcl,nZ,ig,uq⟩
   have hn:n < as.length:=by have:=(List.getElem?_eq_some_iff.mp hx).1;simpa using this
   have hnt:n < ts.length:=by omega
   rw[List.getElem?_map,List.getElem?_eq_getElem hn]at hx;have hx:V.ref as[n]=x:=Option.some.inj hx;obtain⟨_,en⟩:=fD (hL.mv ig) hnt;refine qQ hx.symm (aK.of en) ?_;refine⟨_,rfl,_,rfl,by show 2<=sizeLine;decide,λg hg=>?_⟩;have kg:Same H5 (upd H5 g (HO.tup [.int ts[n].1,.int ts[n].2.1])):=Same.upd hg;have Jm:=kg _ _ nZ;refine⟨Jm,by rw[List.length_map];exact aD (by omega),cX.mk (by rw[List.length_map];exact hn) ⟨cs++[g],by simp,by simp[hcl],by rw[ao],(ig.trans kg).bJ hN,?_⟩⟩;rw[show ts.take (n+1)=ts.take n++[ts[n]] by rw[List.take_add_one,List.getElem?_eq_getElem hnt];rfl,List.map_append];exact((uq.mv kg).app (cY.one (x:=(ts[n].1,ts[n].2.1)) ao)).ji (mU Jm)
  ·rintro ys H5 ⟨cs,rfl,hcl,nZ,ig,uq⟩
   rw[List.length_map,hal,List.take_length]at uq;exact q N cs H5 ig nZ uq
end
end My
end
section
namespace My
open PySem L2
section
variable {P:Program}{w:World}{K:W.Frag}{mg:Str->Option Value}{base:Heap}
structure Dd (K:W.Frag)(H:Hp)(xs:List V)(os:List uw):Prop where
 len:xs.length=os.length
 at_:∀(i:Nat) (x:V) (o:uw),xs[i]?=some x->os[i]?=some o->vO K H x o
inductive V9 (K:W.Frag) (H:Hp):V->Option (List uw)->Prop
 | no {x:V} (h:C_ K "tuple" H x):V9 K H x none
 | tup {p:Addr} {xs:List V} {os:List uw} (h:H p=some (.tup xs)) (hp:Dd K H xs os) (h1:os.length<=100):V9 K H (.ref p) (some os)
noncomputable def mkT (t:aY):uw:=some (some (t.1:Int),some (t.2.1:Int),some [t.2.2])
noncomputable def aav (o:uw):Nat × Nat:=match o with | some (some i,some j,_)=>(i.toNat,j.toNat) | _=>(0,0)
noncomputable def ltQ (p:(Nat × Nat) × (Nat × Nat)):Bool:=decide (p.1.1*1000+p.1.2 < p.2.1*1000+p.2.2)
noncomputable def n6 (cs:List (Nat × Nat)):Bool:=(cs.zip (cs.drop 1)).all ltQ
noncomputable def layB (r w:Nat)(o:Option (List uw)):Bool:=match o with | none=>false | some os=>decide (1<=os.length/\os.length<=7)&&os.all (pL r w)&&n6 (os.map aav)
theorem Mj (ts:List aY):(ts.map mkT).map aav=ts.map λt=>(t.1,t.2.1):=by
 rw[List.map_map];exact List.map_congr_left λt _=>rfl
theorem YX {r w:Nat}{o:uw}(h:pL r w o=true):∃t:aY,o=mkT t/\inB r w t:=by
 match o with
 | none=>cases h
 | some (oi,oj,ol)=>
  unfold pL at h;simp only[Bool.and_eq_true]at h;obtain⟨h1,h2⟩:=h
  match oi,oj,ol with
  | none,_,_=>cases h1
  | some i,none,_=>cases h1
  | some i,some j,none=>cases h2
  | some i,some j,some l=>
   have h1:=of_decide_eq_true h1;have h2:BX l=true:=h2
   match l with
   | []=>cases h2
   | [c]=>
    refine⟨(i.toNat,j.toNat,c),?_,⟨by show i.toNat < r;omega,by show j.toNat < w;omega,h2⟩⟩;show some (some i,some j,some [c])=some (some ((i.toNat:Nat):Int),some ((j.toNat:Nat):Int),some [c]);rw[Int.toNat_of_nonneg h1.1,Int.toNat_of_nonneg h1.2.2.1]
   | _::_::_=>cases h2
theorem YZ {r w:Nat}{t:aY}(h:inB r w t):pL r w (mkT t)=true:=by
 unfold pL mkT FP sgO;have h1:=h.1;have h2:=h.2.1;simp only[Bool.and_eq_true];exact⟨decide_eq_true (by omega),h.2.2⟩
theorem Jp {r w:Nat}:∀{os:List uw},os.all (pL r w)=true->∃ts:List aY,os=ts.map mkT/\∀t∈ts,inB r w t
 | [],_=>⟨[],rfl,λt h=>by simp at h⟩
 | o::os,h=>by
  rw[List.all_cons,Bool.and_eq_true]at h;obtain⟨ts,e,k⟩:=Jp h.2;obtain⟨t,e2,k2⟩:=YX h.1;exact⟨t::ts,by rw[e,e2];rfl,λu hu=>by
   rcases List.mem_cons.mp hu with z | z
   ·rw[z];exact k2
   ·exact k u z⟩
theorem vO.ae3 {H:Hp}{x:V}{t:aY}(h:vO K H x (mkT t)):∃b,x=.ref b/\vN H b t:=by
 generalize ho:mkT t=o at h;cases h with
 | no _=>cases ho
 | bad _ _=>cases ho
 | @tri b x y z oi oj ol h hx hy hz=>
  have ho:=Option.some.inj ho;injection ho with e1 e2;injection e2 with e2 e3;subst e1 e2 e3;cases hx;cases hy;cases hz;exact⟨b,rfl,h⟩
theorem Dd.lay {H:Hp}:∀{ts:List aY} {xs:List V},Dd K H xs (ts.map mkT)->∃as:List Addr,xs=as.map V.ref/\cM H as ts
 | [],[],_=>⟨[],rfl,cM.nil⟩
 | [],_::_,h=>by have:=h.len;simp at this
 | _::_,[],h=>by have:=h.len;simp at this
 | t::ts,x::xs,h=>by
  obtain⟨b,rfl,hb⟩:=(h.at_ 0 x (mkT t) rfl rfl).ae3;obtain⟨as,e,hL⟩:=Dd.lay (ts:=ts) (xs:=xs) ⟨by have:=h.len;simpa using this,λi x o a c=>h.at_ (i+1) x o a c⟩;refine⟨b::as,by rw[e];rfl,⟨λa ha=>?_,?_⟩⟩
  ·rcases List.mem_cons.mp ha with z | z
   ·rw[z,Fx hb];exact hb
   ·exact hL.at_ a z
  ·rw[List.map_cons,hL.eq,Fx hb]
theorem vO.mk {H:Hp}{b:Addr}{t:aY}(h:vN H b t):vO K H (.ref b) (mkT t):=.tri h (.int _) (.int _) (.str _ (by show 1<=1000;decide))
theorem Dd.of_lay {H:Hp}{as:List Addr}{ts:List aY}(h:cM H as ts):Dd K H (as.map V.ref) (ts.map mkT):=by
 refine⟨by rw[List.length_map,List.length_map,h.len],λi x o hx ho=>?_⟩;rw[List.getElem?_map]at hx ho;obtain⟨a,ha,rfl⟩:=Option.map_eq_some_iff.mp hx;obtain⟨t,ht,rfl⟩:=Option.map_eq_some_iff.mp ho;have hi:i < as.length:=(List.getElem?_eq_some_iff.mp ha).1;obtain⟨u,hu,hU⟩:=h.get hi;rw[ht]at hu;rw[Option.some.inj hu];rw[List.getElem?_eq_getElem hi]at ha;rw[<- Option.some.inj ha];exact vO.mk hU
noncomputable def V_ (K:W.Frag)(C:Addr):Sp:=λvs H Q _=>∃(b:Addr) (x:V) (o:Option (List uw)) (r w:Nat) (j3 y8:List (List Nat)) (bi bj:Nat),vs=[.ref b,x]/\eE C H b r w j3 y8 bi bj/\V9 K H x o/\∀H',Same H H'->Q (.bl (layB r w o)) H'
theorem Ml {C:Addr}(D:aJ K mg "is_laying" pI ["board","thing"])(aU:mg "len"=none)(bU:mg "tuple"=none)(aQ:mg "isinstance"=none)(dU:mg "all"=none)(FQ:mg "zip"=none)(kj:∃t,mg "MOST_TILES"=some (.int 7 t))
  (O7:Def P w K mg base "is_triple" 3 ["board","thing"] (Jo K C)) (wO:Def P w K mg base "cells_of" 1 ["laying"] zB):Def P w K mg base "is_laying" 4 ["board","thing"] (V_ K C):=by
 refine D.dh sW (λvs H Q E h=>?_) (λf cdv A outer s H vs Q E hr h=>?_)
 ·obtain⟨b,x,o,r,w,j3,y8,bi,bj,rfl,_⟩:=h
  rfl
 ·obtain⟨b,x,o,r,w,j3,y8,bi,bj,rfl,BA,hT,q⟩:=h
  have w9:=BA.ok.w9;refine⟨_,(au (bO (QW.qt (pB (dN (cO (aH d7 (by rfl) aQ PyProof.Rows.boot_isinstance (aj (qv 1) (aj (iw (v:=.ty "tuple") (by rfl) bU PyProof.Rows.boot_tuple rfl) ak))))) (lR (dN (mJ jl jl aq (aH bI (by rfl) aU PySem.boot_len (aj (qv 1) ak)) (Rw (by rfl) kj)))))) (aA (aX gw)) bB) (au (bO (dN (cO (aH (iC rfl) (by rfl) dU h_ (aj (iQ rfl (gQ.of sW.nd (by kernel_rfl)) (dF (qv 1)) (λ_ _ _ _ _=>cu) (λ_ _ _ _ _=>(bF O7 (hr.mono (by decide)) rfl (aj (qv 1) (aj (qv 0) ak))))) ak)))) (aA (aX gw)) bB) (au (aM (i:=2) sW.nd rfl (Or.inl rfl) (bF wO (hr.mono (by decide)) rfl (aj (qv 1) ak))) (aA (aX (aH (iC rfl) (by rfl) dU h_ (aj (dJ (ns:=["cell","later"]) rfl (dR.of ["board","thing","cells"] [] (by kernel_rfl)) (abh (by rfl) FQ (aj (qv 2) (aj (j9 A_ (qv 2) (lu aq) oM) ak))) (λ_ _ _ _ _=>(rO K rfl (show (["cell","later","board","thing","cells"]:List Str).Nodup by decide +kernel) rfl rfl (by rfl) (by rfl))) (λ_ _ _ _ _=>cu) (λ_ _ _ _ _=>(eY (adL hr.acX) (qv 0) (qv 1) (bh _)))) ak))))))),?_⟩;cases hT with
  | no h=>
   obtain⟨t,ty,k⟩:=h;exact⟨_,rfl,_,_,_,false,rfl,ty,k,_,rfl,bw (bw (q H (Same.refl _)))⟩
  | @tup p xs os hp hP h100=>
   have hlen:=hP.len;refine⟨_,rfl,_,_,_,true,rfl,.tup hp,(by kernel_rfl),_,rfl,aV ?_⟩;have F:¬layB r w (some os)=true->∀H',Same H H'->Q (.bl false) H':=λz H' s'=>by
    have:=q H' s';rw[Bool.not_eq_true _ |>.mp z]at this;exact this
   refine⟨_,rfl,p,_,rfl,.inr (aK.of hp),_,_,rfl,rfl,?_⟩;rw[hlen];by_cases h1:1<=os.length
   ·refine⟨true,by simp;omega,bw ⟨_,_,rfl,rfl,?_⟩⟩
    by_cases h7:os.length<=7
    ·refine⟨true,by simp;omega,aV ?_⟩
     refine⟨_,rfl,p,rfl,⟨_,aK.of hp⟩,λL hL=>sJ (xs:=xs) (λi ys H2=>ys=((os.take i).map (pL r w)).map V.bl/\H2 L=some (.lst ys)/\Same H H2) ⟨rfl,ao,Same.upd hL⟩ (λi ys H2 _ h=>aK.of (h.2.2 _ _ hp)) ?_ ?_⟩
     ·rintro i x ys H2 hi ⟨rfl,hL2,sm⟩
      have hil:i < xs.length:=(List.getElem?_eq_some_iff.mp hi).1;have hio:i < os.length:=by omega
      have ho:=List.getElem?_eq_getElem hio;refine⟨_,rfl,_,rfl,b,x,os[i],r,w,j3,y8,bi,bj,rfl,BA.mv sm,(hP.at_ i x _ hi ho).mv sm,hL2,?_,cX.mk hil ⟨?_,ao,sm.bJ hL⟩⟩
      ·rw[List.length_map,List.length_map,List.length_take];exact aD (by omega)
      ·rw[take_snoc ho,List.map_append];rfl
     ·rintro ys H2 ⟨rfl,hL2,sm⟩
      refine⟨L,_,rfl,aN.of hL2,?_⟩;rw[hlen,List.take_length,all_map];refine⟨_,rfl,?_⟩;cases ha:os.all (pL r w) with
      | false=>exact bw (F (by unfold layB;simp only;rw[ha];simp) H2 sm)
      | true=>
       refine aV ?_;obtain⟨ts,rfl,hin⟩:=Jp ha;obtain⟨as,rfl,hLy⟩:=hP.lay;rw[List.length_map]at h1 h7;refine⟨_,rfl,p,as,ts,rfl,sm _ _ hp,hLy.mv sm,by omega,λLc cs H3 s3 hLc hcs=>?_⟩;have Ca:=sm.trans s3;refine⟨_,rfl,_,rfl,_,rfl,Lc,_,rfl,aN.of hLc,λM hM=>?_⟩;have hcl:=hcs.len;rw[List.length_map]at hcl;have eM:oK (cs.map V.ref) (some 1) none=(cs.drop 1).map V.ref:=by
        unfold oK;rw[show (some (1:Int))=some (((1:Nat):Int)) from rfl,HT.vB,HT.Cq,List.length_map,Nat.min_eq_left (show 1<=cs.length by omega),List.take_of_length_le (by rw[List.length_drop,List.length_map];omega),List.map_drop]
       rw[eM];have sM:Same H3 (upd H3 M (HO.lst ((cs.drop 1).map V.ref))):=Same.upd hM;have Jq:upd H3 M (HO.lst ((cs.drop 1).map V.ref)) M=some (.lst ((cs.drop 1).map V.ref)):=ao;have Y4:=sM _ _ hLc;have Sq:=hcs.mv sM;have zE:=Ca.trans sM;generalize upd H3 M (HO.lst ((cs.drop 1).map V.ref))=H4 at sM Jq Y4 Sq zE ⊢;generalize hcc:(ts.map λt=>(t.1,t.2.1))=cc at Sq;have afH:cc.length=cs.length:=by rw[<- hcc,List.length_map,hcl]
       have hw9:∀u∈cc,u.2 < 1000:=λu hu=>by
        rw[<- hcc]at hu;obtain⟨t,ht,rfl⟩:=List.mem_map.mp hu;have:=(hin t ht).2.1;show t.2.1 < 1000;omega
       have hzl:(cc.zip (cc.drop 1)).length=cs.length-1:=by rw[List.length_zip,List.length_drop,afH];omega
       refine⟨Lc,M,rfl,⟨_,aN.of Y4⟩,⟨_,aN.of Jq⟩,λN hN=>adK (f:=dB [] 0) (K:=K) (KT:=K) (a:=Lc) (b:=M) (tt:=fJ) (xs:=cs.map V.ref) (ys:=(cs.drop 1).map V.ref) (by rw[List.length_map,List.length_map,List.length_drop];omega)
        (λn zs H5=>zs=(((cc.zip (cc.drop 1)).take n).map ltQ).map V.bl/\H5 N=some (.lst zs)/\Same H4 H5)
        ⟨rfl,ao,Same.upd hN⟩ (λn zs H5 _ h=>⟨aN.of (h.2.2 _ _ Y4),aN.of (h.2.2 _ _ Jq)⟩) ?_ ?_⟩
       ·rintro n x y zs H5 T hx hy ⟨rfl,nZ,ig⟩ hT
        have kT:Same H5 (upd H5 T (HO.tup [x,y])):=Same.upd hT;rw[List.getElem?_map]at hx hy;obtain⟨a1,ha1,rfl⟩:=Option.map_eq_some_iff.mp hx;obtain⟨a2,ha2,rfl⟩:=Option.map_eq_some_iff.mp hy;rw[List.getElem?_drop]at ha2;have n1:n < cs.length:=(List.getElem?_eq_some_iff.mp ha1).1;have n2:1+n < cs.length:=(List.getElem?_eq_some_iff.mp ha2).1;have c1:cc[n]?=some cc[n]:=List.getElem?_eq_getElem (by omega);have c2:cc[1+n]?=some cc[1+n]:=List.getElem?_eq_getElem (by omega);have e1:=kT _ _ (ig _ _ (Sq.at_ n a1 _ ha1 c1));have e2:=kT _ _ (ig _ _ (Sq.at_ (1+n) a2 _ ha2 c2));refine Rz rfl (aK.of ao) ?_;refine⟨_,rfl,_,rfl,a1,a2,_,_,_,_,rfl,rfl,e1,e2,hw9 _ (List.getElem_mem _),hw9 _ (List.getElem_mem _),kT _ _ nZ,?_,cX.mk (by rw[List.length_map,List.length_drop];omega) ⟨?_,ao,(ig.trans kT).bJ hN⟩⟩
        ·rw[List.length_map,List.length_map,List.length_take];exact aD (by omega)
        ·have ez:(cc.zip (cc.drop 1))[n]?=some (cc[n],cc[1+n]):=by
          rw[List.getElem?_zip_eq_some];exact⟨c1,by rw[List.getElem?_drop];exact c2⟩
         rw[take_snoc ez,List.map_append];rfl
       ·rintro zs H5 ⟨rfl,nZ,ig⟩
        refine⟨N,_,rfl,aN.of nZ,?_⟩;rw[List.take_of_length_le (by rw[List.length_map,List.length_drop,hzl];omega),all_map];have:=q H5 (zE.trans ig);have e:layB r w (some (ts.map mkT))=n6 cc:=by
         unfold layB;simp only;rw[ha,Mj,hcc,List.length_map,decide_eq_true (show 1<=ts.length/\ts.length<=7 from ⟨h1,h7⟩)];rfl
        rw[e]at this;exact this
    ·refine⟨false,by simp;omega,bw ?_⟩
     exact F (by unfold layB;simp;omega) H (Same.refl _)
   ·refine⟨false,by simp;omega,aV ⟨_,rfl,bw ?_⟩⟩
    exact F (by unfold layB;simp;omega) H (Same.refl _)
end
end My
end
section
namespace My
open PySem L2
section
variable {P:Program}{w:World}{K:W.Frag}{mg:Str->Option Value}{base:Heap}
theorem abu {f C R:Addr}{fd:FuncData}(F:gk K "__init__" "Taken.__init__" iD f fd)(fU:mg "RackError"=some (.ref R))(jh:InitOf K R)(T:lJ K mg "Taken" C f ["row","column"]):cD P w K mg base fK 1 f fd ["self","row","column"] (Fe C "row" "column"):=by
 refine F.dh JL (λvs H Q E h=>?_) (λcdv A outer s H vs Q E hr h=>?_)
 ·obtain⟨a,v,u,rfl,_⟩:=h
  rfl
 ·obtain⟨a,v,u,rfl,ha,q⟩:=h
  refine⟨_,(au (dY (qT (by rfl) fU jh (aj (qv 0) (aj (qv 1) (aj (qv 2) ak))))) (au (rQ (qv 0) (qv 1) rfl) (aA (rQ (qv 0) (qv 2) rfl)))),?_⟩;refine⟨_,rfl,_,rfl,_,rfl,a,C,f,none,[v,u],rfl,ha,T.M.ini,by show 2<=sizeLine;decide,?_⟩;exact⟨_,rfl,_,rfl,a,C,none,rfl,ha,T.T,T.no _ (by simp),.inl ⟨rfl,λdx ne nd=>⟨_,rfl,_,rfl,a,C,some dx,rfl,ao,T.T,T.no _ (by simp),.inr ⟨dx,_,rfl,by rw[aP ne,ao],by show 1 < 50;decide,q dx ne nd⟩⟩⟩⟩
theorem ad1 {f C R:Addr}{fd:FuncData}(F:gk K "__init__" "Gap.__init__" jL f fd)(fU:mg "RackError"=some (.ref R))(jh:InitOf K R)(T:lJ K mg "Gap" C f ["row","column"]):cD P w K mg base fK 1 f fd ["self","row","column"] (Fe C "row" "column"):=by
 refine F.dh Om (λvs H Q E h=>?_) (λcdv A outer s H vs Q E hr h=>?_)
 ·obtain⟨a,v,u,rfl,_⟩:=h
  rfl
 ·obtain⟨a,v,u,rfl,ha,q⟩:=h
  refine⟨_,(au (dY (qT (by rfl) fU jh (aj (qv 0) (aj (qv 1) (aj (qv 2) ak))))) (au (rQ (qv 0) (qv 1) rfl) (aA (rQ (qv 0) (qv 2) rfl)))),?_⟩;refine⟨_,rfl,_,rfl,_,rfl,a,C,f,none,[v,u],rfl,ha,T.M.ini,by show 2<=sizeLine;decide,?_⟩;exact⟨_,rfl,_,rfl,a,C,none,rfl,ha,T.T,T.no _ (by simp),.inl ⟨rfl,λdx ne nd=>⟨_,rfl,_,rfl,a,C,some dx,rfl,ao,T.T,T.no _ (by simp),.inr ⟨dx,_,rfl,by rw[aP ne,ao],by show 1 < 50;decide,q dx ne nd⟩⟩⟩⟩
theorem Jr {H:Hp}{a dx:Addr}{o p q p2:HO}(na:H a=none)(ne:dx≠a)(nd:upd H a o dx=none):upd (upd (upd (upd H a o) dx p) a q) dx p2 a=some q/\Same H (drop (upd (upd (upd (upd H a o) dx p) a q) dx p2) a)/\drop (upd (upd (upd (upd H a o) dx p) a q) dx p2) a dx=some p2:=by
 rw[aP ne]at nd;refine⟨by rw[aP ne.symm,ao],λb u e=>?_,?_⟩
 ·have h1:b≠a:=bV e na
  have h2:b≠dx:=bV e nd;rw[gH h1,aP h2,aP h1,aP h2,aP h1];exact e
 ·rw[gH ne,ao]
abbrev Cd (i j:Nat):List (Str × V):=gM "column" (.int j) [("row",.int i)]
theorem G8 {α:Type}{p:α->Bool}{l:List α}{n:Nat}(hn:n < l.length)(h0:∀x∈l.take n,p x=false)(h1:p l[n]=true):l.find? p=some l[n]:=by
 have e:l=l.take n++l[n]::l.drop (n+1):=by rw[<- List.drop_eq_getElem_cons hn,List.take_append_drop]
 have e2:(l.take n++l[n]::l.drop (n+1)).find? p=some l[n]:=by
  rw[List.find?_append,List.find?_eq_none.mpr λx hx=>by rw[h0 x hx];decide,Option.none_or,List.find?_cons_of_pos h1]
 rw[<- e]at e2;exact e2
theorem Bo {α:Type}{p:α->Bool}{l:List α}(h0:∀x∈l,p x=false):l.find? p=none:=List.find?_eq_none.mpr λx hx=>by rw[h0 x hx];decide
theorem ad2 (a b:Nat):decide (V.int (a:Int)=V.int (b:Int))=decide (a=b):=by
 by_cases h:a=b
 ·subst h;simp
 ·have:¬V.int (a:Int)=V.int (b:Int):=λz=>h (by injection z with z;exact Int.ofNat.inj z)
  simp[h,this]
noncomputable def j4 (ts:List aY):Bool:=ts.all λt=>decide (t.1=(ts.headD (0,0,0)).1)
noncomputable def j5 (ts:List aY):Bool:=ts.all λt=>decide (t.2.1=(ts.headD (0,0,0)).2.1)
theorem mW {ts:List aY}(h:0 < ts.length):ts.headD (0,0,0)=ts[0]:=by
 cases ts with
 | nil=>simp at h
 | cons a b=>rfl
noncomputable def Js:Sp:=λvs H Q _=>∃(t:Addr) (as:List Addr) (ts:List aY),vs=[.ref t]/\H t=some (.tup (as.map V.ref))/\cM H as ts/\0 < ts.length/\ts.length<=7/\∀H',Same H H'->Q (.bl (j4 ts)) H'
noncomputable def Qz:Sp:=λvs H Q _=>∃(t:Addr) (as:List Addr) (ts:List aY),vs=[.ref t]/\H t=some (.tup (as.map V.ref))/\cM H as ts/\0 < ts.length/\ts.length<=7/\∀H',Same H H'->Q (.bl (j5 ts)) H'
theorem JW (D:aJ K mg "is_across" lV ["laying"])(dU:mg "all"=none):Def P w K mg base "is_across" 1 ["laying"] Js:=by
 refine D.dh zf (λvs H Q E h=>?_) (λf cdv A outer s H vs Q E hr h=>?_)
 ·obtain⟨t,as,ts,rfl,_⟩:=h
  rfl
 ·obtain⟨t,as,ts,rfl,ht,hL,h0,h7,q⟩:=h
  have hal:=hL.len;have hh:=mW h0;refine⟨_,(aA (aX (aH (iC rfl) (by rfl) dU h_ (aj (dJ (ns:=["row","column","sign"]) rfl (dR.of ["laying"] [] (by kernel_rfl)) (dF (qv 0)) (λ_ _ _ _ _=>(lB K rfl (show (["row","column","sign","laying"]:List Str).Nodup by decide +kernel) rfl rfl rfl (by rfl) (by rfl) (by rfl))) (λ_ _ _ _ _=>cu) (λ_ _ _ _ _=>(eY gq (qv 0) (aL (jw K) (aL (jw K) (qv 3) aq (λ_ _=>rfl)) aq (λ_ _=>rfl)) (bh _)))) ak)))),?_⟩;refine⟨_,rfl,t,rfl,⟨_,aK.of ht⟩,λN hN=>gW (K:=K) (KT:=K) (a:=t) (f:=dB [] 0) (tt:=fJ) (xs:=as.map V.ref) (λn ys H3=>ys=((ts.take n).map λt=>decide (t.1=(ts.headD (0,0,0)).1)).map V.bl/\H3 N=some (.lst ys)/\Same H H3)
   ⟨rfl,ao,Same.upd hN⟩ (λn ys H3 _ h=>aK.of (h.2.2 _ _ ht)) ?_ ?_⟩
  ·rintro n x ys H3 hx ⟨rfl,i_,sm3⟩
   have hn:n < as.length:=by have:=(List.getElem?_eq_some_iff.mp hx).1;simpa using this
   have hnt:n < ts.length:=by omega
   rw[List.getElem?_map,List.getElem?_eq_getElem hn]at hx;have hx:V.ref as[n]=x:=Option.some.inj hx;obtain⟨_,en⟩:=fD (hL.mv sm3) hnt;obtain⟨g0,e0⟩:=fD (hL.mv sm3) h0;refine qQ hx.symm (aK.of en) ?_;refine⟨_,rfl,_,rfl,t,_,_,.ref as[0],rfl,rfl,aK.of (sm3 _ _ ht),aB (j:=0) (by simp[g0]),as[0],_,_,_,rfl,rfl,aK.of e0,aB (j:=0) rfl,rfl,i_,?_,cX.mk (by rw[List.length_map];exact hn) ⟨?_,ao,sm3.bJ hN⟩⟩
   ·rw[List.length_map,List.length_map,List.length_take];exact aD (by omega)
   ·rw[take_snoc (List.getElem?_eq_getElem hnt),List.map_append,hh,ad2]
    rfl
  ·rintro ys H3 ⟨rfl,i_,sm3⟩
   refine⟨N,_,rfl,aN.of i_,?_⟩;rw[List.length_map,hal,List.take_length,all_map];exact q H3 sm3
theorem Ss (D:aJ K mg "is_down" uc ["laying"])(dU:mg "all"=none):Def P w K mg base "is_down" 1 ["laying"] Qz:=by
 refine D.dh RT (λvs H Q E h=>?_) (λf cdv A outer s H vs Q E hr h=>?_)
 ·obtain⟨t,as,ts,rfl,_⟩:=h
  rfl
 ·obtain⟨t,as,ts,rfl,ht,hL,h0,h7,q⟩:=h
  have hal:=hL.len;have hh:=mW h0;refine⟨_,(aA (aX (aH (iC rfl) (by rfl) dU h_ (aj (dJ (ns:=["row","column","sign"]) rfl (dR.of ["laying"] [] (by kernel_rfl)) (dF (qv 0)) (λ_ _ _ _ _=>(lB K rfl (show (["row","column","sign","laying"]:List Str).Nodup by decide +kernel) rfl rfl rfl (by rfl) (by rfl) (by rfl))) (λ_ _ _ _ _=>cu) (λ_ _ _ _ _=>(eY gq (qv 1) (aL (jw K) (aL (jw K) (qv 3) aq (λ_ _=>rfl)) aq (λ_ _=>rfl)) (bh _)))) ak)))),?_⟩;refine⟨_,rfl,t,rfl,⟨_,aK.of ht⟩,λN hN=>gW (K:=K) (KT:=K) (a:=t) (f:=dB [] 0) (tt:=fJ) (xs:=as.map V.ref) (λn ys H3=>ys=((ts.take n).map λt=>decide (t.2.1=(ts.headD (0,0,0)).2.1)).map V.bl/\H3 N=some (.lst ys)/\Same H H3)
   ⟨rfl,ao,Same.upd hN⟩ (λn ys H3 _ h=>aK.of (h.2.2 _ _ ht)) ?_ ?_⟩
  ·rintro n x ys H3 hx ⟨rfl,i_,sm3⟩
   have hn:n < as.length:=by have:=(List.getElem?_eq_some_iff.mp hx).1;simpa using this
   have hnt:n < ts.length:=by omega
   rw[List.getElem?_map,List.getElem?_eq_getElem hn]at hx;have hx:V.ref as[n]=x:=Option.some.inj hx;obtain⟨_,en⟩:=fD (hL.mv sm3) hnt;obtain⟨g0,e0⟩:=fD (hL.mv sm3) h0;refine qQ hx.symm (aK.of en) ?_;refine⟨_,rfl,_,rfl,t,_,_,.ref as[0],rfl,rfl,aK.of (sm3 _ _ ht),aB (j:=0) (by simp[g0]),as[0],_,_,_,rfl,rfl,aK.of e0,aB (j:=1) rfl,rfl,i_,?_,cX.mk (by rw[List.length_map];exact hn) ⟨?_,ao,sm3.bJ hN⟩⟩
   ·rw[List.length_map,List.length_map,List.length_take];exact aD (by omega)
   ·rw[take_snoc (List.getElem?_eq_getElem hnt),List.map_append,hh,ad2]
    rfl
  ·rintro ys H3 ⟨rfl,i_,sm3⟩
   refine⟨N,_,rfl,aN.of i_,?_⟩;rw[List.length_map,hal,List.take_length,all_map];exact q H3 sm3
abbrev IL2:=cY (λq:Int × Int=>[V.int q.1,V.int q.2])
noncomputable def around (i j:Int):List (Int × Int):=[(i-1,j),(i+1,j),(i,j-1),(i,j+1)]
noncomputable def ux (j3:List (List Nat))(r w:Nat)(p:Int × Int):Bool:=!decide ([atC j3 r w p.1 p.2]=[46])
noncomputable def gZ (j3:List (List Nat))(r w:Nat)(i j:Int):Bool:=(around i j).any (ux j3 r w)
theorem any_map {α:Type}(l:List α)(f:α->Bool):((l.map f).any id)=l.any f:=by induction l with | nil=>rfl | cons a l ih=>simp[ih]
noncomputable def Mp (C:Addr):Sp:=λvs H Q _=>∃(b:Addr) (r w:Nat) (j3 y8:List (List Nat)) (bi bj:Nat) (i j:Int),vs=[.ref b,.int i,.int j]/\eE C H b r w j3 y8 bi bj/\∀H',Same H H'->Q (.bl (gZ j3 r w i j)) H'
theorem JX {C f1:Addr}{iK:FuncData}(D:aJ K mg "is_next_to_taken" iW ["board","row","column"])(uy:mg "any"=none)(dW:∃t,mg "FREE"=some (.str (S [46]) t))(gK:gj K C)(n8:Meth K C "at" f1)(n_:cD P w K mg base fK 3 f1 iK ["self","row","column"] (R8 C))(oh:Binds K iK ["self","row","column"] []) :
  Def P w K mg base "is_next_to_taken" 5 ["board","row","column"] (Mp C):=by
 refine D.dh jZ (λvs H Q E h=>?_) (λf cdv A outer s H vs Q E hr h=>?_)
 ·obtain⟨b,r,w,j3,y8,bi,bj,i,j,rfl,_⟩:=h
  rfl
 ·obtain⟨b,r,w,j3,y8,bi,bj,i,j,rfl,BA,q⟩:=h
  refine⟨_,(au (aM (i:=3) jZ.nd rfl (Or.inl rfl) (bR (aj (bR (aj (aG fX (qv 1) aq) (aj (qv 2) ak))) (aj (bR (aj (aG b_ (qv 1) aq) (aj (qv 2) ak))) (aj (bR (aj (qv 1) (aj (aG fX (qv 2) aq) ak))) (aj (bR (aj (qv 1) (aj (aG b_ (qv 2) aq) ak))) ak)))))) (aA (aX (aH (K8 rfl) (by rfl) uy Iz (aj (iQ rfl (gQ.of jZ.nd (by kernel_rfl)) (dF (qv 3)) (λ_ _ _ _ _=>cu) (λ_ _ _ _ _=>(eY nH (oN (qv 1) gK.cl n8 n_ (hr.mono (by decide)) oh .nil mj (aj (aL (jw K) (qv 0) aq (λ_ _=>rfl)) (aj (aL (jw K) (qv 0) aq (λ_ _=>rfl)) ak))) (qO (by rfl) dW) (bh _)))) ak))))),?_⟩;refine⟨_,rfl,_,_,rfl,rfl,_,rfl,by show 2<=sizeLine;decide,λg1 h1=>⟨_,rfl,_,_,rfl,rfl,_,rfl,by show 2<=sizeLine;decide,λg2 h2=>⟨_,rfl,_,rfl,_,_,rfl,rfl,by show 2<=sizeLine;decide,λg3 h3=>⟨_,rfl,_,rfl,_,_,rfl,rfl,by show 2<=sizeLine;decide,λg4 h4=>⟨by show 4<=sizeLine;decide,λA hA=>?_⟩⟩⟩⟩⟩;dsimp only at h1 h2 h3 h4 hA ⊢;have k1:Same H (upd H g1 (HO.tup [.int (i-1),.int j])):=Same.upd h1;have e1:upd H g1 (HO.tup [.int (i-1),.int j]) g1=some (.tup [.int (i-1),.int j]):=ao;generalize upd H g1 (HO.tup [.int (i-1),.int j])=H1 at k1 e1 h2 h3 h4 hA ⊢;have k2:Same H1 (upd H1 g2 (HO.tup [.int (i+1),.int j])):=Same.upd h2;have e2:upd H1 g2 (HO.tup [.int (i+1),.int j]) g2=some (.tup [.int (i+1),.int j]):=ao;generalize upd H1 g2 (HO.tup [.int (i+1),.int j])=H2 at k2 e2 h3 h4 hA ⊢;have k3:Same H2 (upd H2 g3 (HO.tup [.int i,.int (j-1)])):=Same.upd h3;have e3:upd H2 g3 (HO.tup [.int i,.int (j-1)]) g3=some (.tup [.int i,.int (j-1)]):=ao;generalize upd H2 g3 (HO.tup [.int i,.int (j-1)])=H3 at k3 e3 h4 hA ⊢;have k4:Same H3 (upd H3 g4 (HO.tup [.int i,.int (j+1)])):=Same.upd h4;have e4:upd H3 g4 (HO.tup [.int i,.int (j+1)]) g4=some (.tup [.int i,.int (j+1)]):=ao;generalize upd H3 g4 (HO.tup [.int i,.int (j+1)])=H4 at k4 e4 hA ⊢;have k5:Same H4 (upd H4 A (HO.tup [.ref g1,.ref g2,.ref g3,.ref g4])):=Same.upd hA;have e5:upd H4 A (HO.tup [.ref g1,.ref g2,.ref g3,.ref g4]) A=some (.tup ([g1,g2,g3,g4].map V.ref)):=ao;have il:IL2 H4 [g1,g2,g3,g4] (around i j):=((cY.one (x:=(i-1,j)) (k4 _ _ (k3 _ _ (k2 _ _ e1)))).app (cY.one (x:=(i+1,j)) (k4 _ _ (k3 _ _ e2)))).app ((cY.one (x:=(i,j-1)) (k4 _ _ e3)).app (cY.one (x:=(i,j+1)) e4));have s5:=(((k1.trans k2).trans k3).trans k4).trans k5;have il5:=il.mv k5;generalize upd H4 A (HO.tup [.ref g1,.ref g2,.ref g3,.ref g4])=H5 at k5 e5 s5 il5 ⊢;have BA5:=BA.mv s5;refine⟨_,rfl,A,rfl,⟨_,aK.of e5⟩,λN hN=>sJ (xs:=[g1,g2,g3,g4].map V.ref) (λn ys H6=>ys=(((around i j).take n).map (ux j3 r w)).map V.bl/\H6 N=some (.lst ys)/\Same H5 H6)
   ⟨rfl,ao,Same.upd hN⟩ (λn ys H6 _ h=>aK.of (h.2.2 _ _ e5)) ?_ ?_⟩
  ·rintro n x ys H6 hx ⟨rfl,Jt,qu⟩
   have hn:n < [g1,g2,g3,g4].length:=by have:=(List.getElem?_eq_some_iff.mp hx).1;simpa using this
   have hn4:n < 4:=hn;rw[List.getElem?_map,List.getElem?_eq_getElem hn]at hx;have hx:V.ref [g1,g2,g3,g4][n]=x:=Option.some.inj hx;subst hx;obtain⟨u,eu,hu⟩:=(il5.mv qu).get hn;have BA6:=BA5.mv qu;obtain⟨dx,_,_,_,ex,_⟩:=id BA6.ex;refine⟨_,rfl,b,dx,_,rfl,ex,rfl,_,rfl,_,_,_,_,rfl,rfl,aK.of hu,aB (j:=0) rfl,_,rfl,_,_,_,_,rfl,rfl,aK.of hu,aB (j:=1) rfl,b,r,w,j3,y8,bi,bj,u.1,u.2,rfl,BA6,[_],[46],rfl,rfl,Jt,?_,cX.mk (by rw[List.length_map];exact hn) ⟨?_,ao,qu.bJ hN⟩⟩
   ·rw[List.length_map,List.length_map,List.length_take];exact aD (by omega)
   ·rw[take_snoc eu,List.map_append];rfl
  ·rintro ys H6 ⟨rfl,Jt,qu⟩
   refine⟨N,_,rfl,aN.of Jt,?_⟩;rw[List.take_of_length_le (by show 4<=4;decide),any_map];exact q H6 (s5.trans qu)
noncomputable def FT:Sp:=λvs H Q _=>∃c:Nat,vs=[.str (S [c])]/\c < 128/\Q (.str (S ([c].map PyProof.Rows.lo1))) H
theorem Mq (D:aJ K mg "letter_of" pD ["sign"]):Def P w K mg base "letter_of" 1 ["sign"] FT:=by
 refine D.dh Le (λvs H Q E h=>?_) (λf cdv A outer s H vs Q E hr h=>?_)
 ·obtain⟨c,rfl,_⟩:=h
  rfl
 ·obtain⟨c,rfl,hc,q⟩:=h
  refine⟨_,(aA (aX (vD PySem.F.plainAttrs_str PySem.F.slot_str_lower PySem.F.type_str_lower vG (qv 0)))),?_⟩;exact⟨_,rfl,rfl,[c],rfl,rfl,by show 1<=1000;decide,λd hd=>by rw[List.mem_singleton.mp hd];exact hc,q⟩
end
end My
end
section
namespace My
open PySem L2
section
variable {P:Program}{w:World}{K:W.Frag}{mg:Str->Option Value}{base:Heap}
theorem Df {j3:List (List Nat)}{r w i j:Nat}(hi:i < r)(hj:j < w):atC j3 r w (i:Int) (j:Int)=cell j3 i j:=by
 unfold atC cell;rw[if_pos ⟨by omega,by omega,by omega,by omega⟩,Int.toNat_natCast,Int.toNat_natCast]
noncomputable def Wa (j3:List (List Nat))(t:aY):Bool:=!decide ([cell j3 t.1 t.2.1]=[46])
noncomputable def mX (j3:List (List Nat))(ts:List aY):Option aY:=ts.find? (Wa j3)
noncomputable def Mr (C CT:Addr):Sp:=λvs H Q E=>∃(b t:Addr) (as:List Addr) (ts:List aY) (r w:Nat) (j3 y8:List (List Nat)) (bi bj:Nat),vs=[.ref b,.ref t]/\eE C H b r w j3 y8 bi bj/\H t=some (.tup (as.map V.ref))/\cM H as ts/\(∀t∈ts,inB r w t)/\
 (∀u,mX j3 ts=some u->∀(dx:Addr) (H':Hp),Same H H'->H' dx=some (.ext (XD dx (Cd u.1 u.2.1)))->E (.ref CT) (some dx) H')/\
 (mX j3 ts=none->∀H',Same H H'->Q .non H')
theorem JZ {C CT f0 f1:Addr}{jk iK:FuncData}(D:aJ K mg "check_free" nP ["board","laying"])(dW:∃t,mg "FREE"=some (.str (S [46]) t))(gK:gj K C)(n8:Meth K C "at" f1)(n_:cD P w K mg base fK 3 f1 iK ["self","row","column"] (R8 C))(oh:Binds K iK ["self","row","column"] [])
  (T:lJ K mg "Taken" CT f0 ["row","column"]) (abv:cD P w K mg base fK 1 f0 jk ["self","row","column"] (Fe CT "row" "column")) (G9:Binds K jk ["self","row","column"] []):DefX P w K mg base "check_free" 5 ["board","laying"] (Mr C CT):=by
 refine D.wC mC (λvs H Q E h=>?_) (λf cdv A outer s H vs Q E hr h=>?_)
 ·obtain⟨b,t,as,ts,r,w,j3,y8,bi,bj,rfl,_⟩:=h
  rfl
 ·obtain⟨b,t,as,ts,r,w,j3,y8,bi,bj,rfl,BA,ht,hL,hin,qE,q⟩:=h
  have abw:=T.M;have Dg:=T.Fb;have hal:=hL.len;refine⟨_,(aA (dM PassesOwn.leaving rfl (dF (qv 1)) (pZ rfl (cB (bK (i:=2) mC.nd rfl (Or.inl rfl)) (cB (bK (i:=3) mC.nd rfl (Or.inl rfl)) (cB (bK (i:=4) mC.nd rfl (Or.inl rfl)) lq)))) (aA (bO (bx nH (oN (qv 0) gK.cl n8 n_ (hr.mono (by decide)) oh .nil mj (aj (qv 2) (aj (qv 3) ak))) (qO (by rfl) dW) (bh _)) (aA (qe m9 rfl abw abv (hr.mono (by decide)) (by rfl) Dg G9 (aj (qv 2) (aj (qv 3) ak)))) bB)))),?_⟩;refine⟨_,rfl,t,rfl,⟨_,aK.of ht⟩,rK (K:=K) (a:=t) (xs:=as.map V.ref) (λn σ H'=>∃v2 v3 v4:Option V,σ=[some (.ref b),some (.ref t),v2,v3,v4]/\Same H H'/\∀x∈ts.take n,Wa j3 x=false)
   ⟨none,none,none,rfl,Same.refl _,λx hx=>by simp at hx⟩ (λn σ H' _ h=>by obtain⟨_,_,_,_,sm,_⟩:=h;exact aK.of (sm _ _ ht)) ?_ ?_⟩
  ·rintro n x σ H' hx ⟨v2,v3,v4,rfl,sm,hfr⟩
   have hn:n < as.length:=by have:=(List.getElem?_eq_some_iff.mp hx).1;simpa using this
   have hnt:n < ts.length:=by omega
   rw[List.getElem?_map,List.getElem?_eq_getElem hn]at hx;have hx:V.ref as[n]=x:=Option.some.inj hx;subst hx;obtain⟨_,en⟩:=fD (hL.mv sm) hnt;obtain⟨c1,c2,_⟩:=hin _ (List.getElem_mem hnt);have BA':=BA.mv sm;obtain⟨dx0,_,_,_,ex,_⟩:=id BA'.ex;refine⟨as[n],_,rfl,aK.of en,rfl,_,_,rfl,_,_,rfl,_,_,rfl,rfl,?_⟩;refine⟨_,rfl,b,dx0,_,rfl,ex,rfl,_,rfl,_,rfl,b,r,w,j3,y8,bi,bj,_,_,rfl,BA',[_],[46],rfl,rfl,_,rfl,?_⟩;rw[Df c1 c2];cases ht0:Wa j3 ts[n] with
   | true=>
    rw[show (!decide ([cell j3 ts[n].1 ts[n].2.1]=[46]))=true from ht0];refine bw ⟨_,rfl,_,rfl,by show 2<=sizeLine;decide,λa na=>⟨a,_,_,rfl,ao,λdx ne nd=>?_⟩⟩;obtain⟨k0,k1,k2⟩:=Jr (q:=.ext (fP a (.ref CT) (some dx))) (p:=.ext (XD dx [("row",.int ts[n].1)])) (p2:=.ext (XD dx (Cd ts[n].1 ts[n].2.1))) na ne nd;exact⟨rfl,some dx,k0,qE ts[n] (G8 hnt hfr ht0) dx _ (sm.trans k1) k2⟩
   | false=>
    rw[show (!decide ([cell j3 ts[n].1 ts[n].2.1]=[46]))=false from ht0];refine aV ⟨_,_,_,rfl,sm,λx hx=>?_⟩;rw[List.take_add_one,List.getElem?_eq_getElem hnt]at hx;rcases List.mem_append.mp hx with z | z
    ·exact hfr x z
    ·rw[List.mem_singleton.mp z];exact ht0
  ·rintro σ H' ⟨v2,v3,v4,rfl,sm,hfr⟩
   rw[List.length_map,hal,List.take_length]at hfr;exact q (Bo hfr) H' sm
noncomputable def QB (CC:Addr):Sp:=λvs H Q E=>∃(t:Addr) (as:List Addr) (ts:List aY),vs=[.ref t]/\H t=some (.tup (as.map V.ref))/\cM H as ts/\0 < ts.length/\ts.length<=7/\
 ((j4 ts||j5 ts)=false->∀H',Same H H'->E (.ref CC) none H')/\((j4 ts||j5 ts)=true->∀H',Same H H'->Q .non H')
theorem Bw {CC:Addr}(D:aJ K mg "check_straight" jN ["laying"])(wQ:mg "Crooked"=some (.ref CC))(Wb:W.excIn K CC gY "ValueError.__new__"=true)
  (uT:Def P w K mg base "is_across" 1 ["laying"] Js) (Wc:Def P w K mg base "is_down" 1 ["laying"] Qz):DefX P w K mg base "check_straight" 3 ["laying"] (QB CC):=by
 refine D.wC Bv (λvs H Q E h=>?_) (λf cdv A outer s H vs Q E hr h=>?_)
 ·obtain⟨t,as,ts,rfl,_⟩:=h
  rfl
 ·obtain⟨t,as,ts,rfl,ht,hL,h0,h7,qE,q⟩:=h
  refine⟨_,(aA (bO (QW.qt (iB (dN (cO (bF uT (hr.mono (by decide)) rfl (aj (qv 0) ak)))) (jW (dN (cO (bF Wc (hr.mono (by decide)) rfl (aj (qv 0) ak))))))) (aA (CJ m9 rfl rfl (by rfl) wQ Wb (aj (bN [116,104,101,32,99,101,108,108,115,32,97,114,101,32,110,111,116,32,105,110,32,111,110,101,32,108,105,110,101] (by decide +kernel)) ak))) bB)),?_⟩;refine⟨_,rfl,t,as,ts,rfl,ht,hL,h0,h7,λH1 s1=>⟨_,rfl,?_⟩⟩;cases ha:j4 ts with
  | true=>exact aV (aV (q (by rw[ha];rfl) H1 s1))
  | false=>
   refine bw ⟨_,rfl,t,as,ts,rfl,s1 _ _ ht,hL.mv s1,h0,h7,λH2 s2=>⟨_,rfl,?_⟩⟩;cases hd:j5 ts with
   | true=>exact aV (q (by rw[ha,hd];rfl) H2 (s1.trans s2))
   | false=>exact bw ⟨by show 1<=sizeLine;decide,qE (by rw[ha,hd];rfl) H2 (s1.trans s2)⟩
structure FW (R:List (List Nat))(a b c d i j:Nat):Prop where
 i1:a<=i
 i2:i<=b
 j1:c<=j
 j2:j<=d
 fr:cell R i j=46
 up:∀i' j',a<=i'->i' < i->c<=j'->j'<=d->cell R i' j'≠46
 le:∀j',c<=j'->j' < j->cell R i j'≠46
noncomputable def uz (R:List (List Nat))(a b c d:Nat):Prop:=∀i j,a<=i->i<=b->c<=j->j<=d->cell R i j≠46
noncomputable def fH (ts:List aY):aY:=ts.getLastD (0,0,0)
noncomputable def gG (ts:List aY):aY:=ts.headD (0,0,0)
theorem Ms {ts:List aY}(h:0 < ts.length):fH ts=ts[ts.length-1]:=by
 unfold fH;rw[List.getLastD_eq_getLast?,List.getLast?_eq_getElem?,List.getElem?_eq_getElem (by omega)];rfl
noncomputable def Mt (C CG:Addr):Sp:=λvs H Q E=>∃(b t:Addr) (as:List Addr) (ts:List aY) (r w:Nat) (j3 y8:List (List Nat)) (bi bj:Nat),vs=[.ref b,.ref t]/\eE C H b r w j3 y8 bi bj/\H t=some (.tup (as.map V.ref))/\cM H as ts/\(∀t∈ts,inB r w t)/\0 < ts.length/\
 (∀i j,FW (bM j3 ts) (gG ts).1 (fH ts).1 (gG ts).2.1 (fH ts).2.1 i j->∀(dx:Addr) (H':Hp),Same H H'->H' dx=some (.ext (XD dx (Cd i j)))->E (.ref CG) (some dx) H')/\
 (uz (bM j3 ts) (gG ts).1 (fH ts).1 (gG ts).2.1 (fH ts).2.1->∀H',Same H H'->Q .non H')
theorem J0 {C CG f0 f1 f2:Addr}{jk iK fd2:FuncData}(D:aJ K mg "check_gaps" nQ ["board","laying"])(cJ:mg "range"=none)(dW:∃t,mg "FREE"=some (.str (S [46]) t))(gK:gj K C)(n8:Meth K C "at" f1)(n_:cD P w K mg base fK 3 f1 iK ["self","row","column"] (R8 C))(oh:Binds K iK ["self","row","column"] [])
  (tE:Meth K C "laid" f2) (tG:cD P w K mg base fK 8 f2 fd2 ["self","laying"] (Lw C)) (tH:Binds K fd2 ["self","laying"] [])
  (T:lJ K mg "Gap" CG f0 ["row","column"]) (ae4:cD P w K mg base fK 1 f0 jk ["self","row","column"] (Fe CG "row" "column")) (Sv:Binds K jk ["self","row","column"] []):DefX P w K mg base "check_gaps" 10 ["board","laying"] (Mt C CG):=by
 refine D.wC mD (λvs H Q E h=>?_) (λf cdv A outer s H vs Q E hr h=>?_)
 ·obtain⟨b,t,as,ts,r,w,j3,y8,bi,bj,rfl,_⟩:=h
  rfl
 ·obtain⟨b,t,as,ts,r,w,j3,y8,bi,bj,rfl,BA,ht,hL,hin,h0,qE,q⟩:=h
  have ae5:=T.M;have Mu:=T.Fb;have hal:=hL.len;have r9:=BA.ok.r9;have w9:=BA.ok.w9;obtain⟨dx,_,_,_,ex,_⟩:=id BA.ex;refine⟨_,(au (aM (i:=2) mD.nd rfl (Or.inl rfl) (oN (qv 0) gK.cl tE tG (hr.mono (by decide)) tH .nil mj (aj (qv 1) ak))) (aA (dM PassesOwn.leaving rfl (tW (by rfl) cJ (aj (aL aO (aL aO (qv 1) aq (λ_ _=>rfl)) aq (λ_ _=>rfl)) (aj (aG b_ (aL aO (aL aO (qv 1) (wk rY aq) (λ_ _=>rfl)) aq (λ_ _=>rfl)) aq) ak))) (bK (i:=3) mD.nd rfl (Or.inl rfl)) (aA (dM PassesOwn.leaving rfl (tW (by rfl) cJ (aj (aL aO (aL aO (qv 1) aq (λ_ _=>rfl)) aq (λ_ _=>rfl)) (aj (aG b_ (aL aO (aL aO (qv 1) (wk rY aq) (λ_ _=>rfl)) aq (λ_ _=>rfl)) aq) ak))) (bK (i:=4) mD.nd rfl (Or.inl rfl)) (aA (bO (bx sI (oN (qv 2) gK.cl n8 n_ (hr.mono (by decide)) oh .nil mj (aj (qv 3) (aj (qv 4) ak))) (qO (by rfl) dW) (bh _)) (aA (qe m9 rfl ae5 ae4 (hr.mono (by decide)) (by rfl) Mu Sv (aj (qv 3) (aj (qv 4) ak)))) bB))))))),?_⟩;refine⟨_,rfl,b,dx,_,rfl,ex,rfl,_,rfl,b,t,as,ts,r,w,j3,y8,bi,bj,rfl,BA,ht,hL,hin,λx1 H1 s1 B1=>?_⟩;rw[show gG ts=ts[0] from mW h0,Ms h0]at qE q;obtain⟨a1,a2,_⟩:=hin _ (List.getElem_mem h0);obtain⟨l1,l2,_⟩:=hin _ (List.getElem_mem (show ts.length-1 < ts.length by omega));have hL1:=hL.mv s1;have ht1:=s1 _ _ ht;obtain⟨g0,e0⟩:=fD hL1 h0;obtain⟨gl,el⟩:=fD hL1 (show ts.length-1 < ts.length by omega);have eal:as.length-1=ts.length-1:=by omega
  have wN:m6 (as.map V.ref) (-1)=some (.ref as[ts.length-1]):=by
   rw[G6 (show 0 < as.length by omega)];simp only[eal]
  generalize hR:bM j3 ts=R at B1 qE q;generalize ef:ts[0]=ff at e0 qE q a1 a2;generalize eg:ts[ts.length-1]=ll at el qE q l1 l2;refine⟨_,rfl,t,_,_,.ref as[0],rfl,rfl,aK.of ht1,aB (j:=0) (by simp[g0]),as[0],_,_,_,rfl,rfl,aK.of e0,aB (j:=0) rfl,_,rfl,_,rfl,t,_,_,.ref as[ts.length-1],rfl,rfl,aK.of ht1,wN,as[ts.length-1],_,_,_,rfl,rfl,aK.of el,aB (j:=0) rfl,_,_,rfl,rfl,(ff.1:Int),(ll.1:Int)+1,rfl,⟨by omega,by omega,by omega,by omega⟩,?_⟩;refine gC (lo:=(ff.1:Int)) (λn σ H'=>∃v3 v4:Option V,σ=[some (.ref b),some (.ref t),some (.ref x1),v3,v4]/\Same H1 H'/\∀i j,ff.1<=i->i < ff.1+n->ff.2.1<=j->j<=ll.2.1->cell R i j≠46)
   ⟨none,none,rfl,Same.refl _,λi j z1 z2=>by omega⟩ ?_ ?_
  ·rintro n σ H' hn ⟨v3,v4,rfl,sm,hup⟩
   have hn2:ff.1+n<=ll.1:=by omega
   have en:(ff.1:Int)+(n:Int)=((ff.1+n:Nat):Int):=by omega
   rw[en];have Jk:=sm _ _ ht1;have e02:=sm _ _ e0;have el2:=sm _ _ el;refine⟨_,rfl,t,_,_,.ref as[0],rfl,rfl,aK.of Jk,aB (j:=0) (by simp[g0]),as[0],_,_,_,rfl,rfl,aK.of e02,aB (j:=1) rfl,_,rfl,_,rfl,t,_,_,.ref as[ts.length-1],rfl,rfl,aK.of Jk,wN,as[ts.length-1],_,_,_,rfl,rfl,aK.of el2,aB (j:=1) rfl,_,_,rfl,rfl,(ff.2.1:Int),(ll.2.1:Int)+1,rfl,⟨by omega,by omega,by omega,by omega⟩,?_⟩;refine gC (lo:=(ff.2.1:Int)) (λm σ H2=>∃v4:Option V,σ=[some (.ref b),some (.ref t),some (.ref x1),some (.int ((ff.1+n:Nat):Int)),v4]/\Same H1 H2/\∀j,ff.2.1<=j->j < ff.2.1+m->cell R (ff.1+n) j≠46)
    ⟨_,rfl,sm,λj z1 z2=>by omega⟩ ?_ ?_
   ·rintro m σ H2 hm ⟨v4,rfl,Wd,hle⟩
    have hm2:ff.2.1+m<=ll.2.1:=by omega
    have em:(ff.2.1:Int)+(m:Int)=((ff.2.1+m:Nat):Int):=by omega
    rw[em];have B2:=B1.mv Wd;obtain⟨dx1,_,_,_,ex1,_⟩:=id B2.ex;refine⟨_,rfl,x1,dx1,_,rfl,ex1,rfl,_,rfl,_,rfl,x1,r,w,R,y8,bi,bj,_,_,rfl,B2,[_],[46],rfl,rfl,_,rfl,?_⟩;rw[Df (show ff.1+n < r by omega) (show ff.2.1+m < w by omega)];by_cases hc:cell R (ff.1+n) (ff.2.1+m)=46
    ·rw[decide_eq_true (show [cell R (ff.1+n) (ff.2.1+m)]=[46] by rw[hc])]
     refine bw ⟨_,rfl,_,rfl,by show 2<=sizeLine;decide,λa na=>⟨a,_,_,rfl,ao,λdx ne nd=>?_⟩⟩;obtain⟨k0,k1,k2⟩:=Jr (q:=.ext (fP a (.ref CG) (some dx))) (p:=.ext (XD dx [("row",.int (ff.1+n:Nat))])) (p2:=.ext (XD dx (Cd (ff.1+n) (ff.2.1+m)))) na ne nd;exact⟨rfl,some dx,k0,qE _ _ ⟨by omega,hn2,by omega,hm2,hc,hup,hle⟩ dx _ ((s1.trans Wd).trans k1) k2⟩
    ·rw[decide_eq_false (show ¬[cell R (ff.1+n) (ff.2.1+m)]=[46] from λz=>hc (by injection z))]
     refine aV ⟨_,rfl,Wd,λj z1 z2=>?_⟩;by_cases z:j=ff.2.1+m
     ·rw[z];exact hc
     ·exact hle j z1 (by omega)
   ·rintro σ H2 ⟨v4,rfl,Wd,hle⟩
    refine⟨_,_,rfl,Wd,λi j z1 z2 z3 z4=>?_⟩;by_cases z:i=ff.1+n
    ·rw[z];exact hle j z3 (by omega)
    ·exact hup i j z1 (by omega) z3 z4
  ·rintro σ H' ⟨v3,v4,rfl,sm,hup⟩
   exact q (λi j z1 z2 z3 z4=>hup i j z1 (by omega) z3 z4) H' (s1.trans sm)
noncomputable def dX (t:aY):Nat × Nat:=(t.1,t.2.1)
noncomputable def qw (j3:List (List Nat))(r w bi bj:Nat)(ts:List aY):Bool:=if isFree j3=true then decide ((bi,bj)∈ts.map dX) else ts.any λt=>gZ j3 r w t.1 t.2.1
theorem dO.Wf {H:Hp}:∀{cs:List Addr} {cc:List (Nat × Nat)},Mi H cs cc->dO K H 1 (cc.map λc=>Dt.tup [.int c.1,.int c.2]) (cs.map V.ref)
 | [],[],_=>.nil
 | [],_::_,h=>by have:=h.len;simp at this
 | _::_,[],h=>by have:=h.len;simp at this
 | a::cs,c::cc,h=>.cons (.tup (aK.of (h.at_ 0 a c rfl rfl)) (.cons (.int _) (.cons (.int _) .nil))) (dO.Wf ⟨by have:=h.len;simpa using this,λi a x h1 h2=>h.at_ (i+1) a x h1 h2⟩)
theorem vP {c:Nat × Nat}{cc:List (Nat × Nat)}:Dt.tup [.int c.1,.int c.2]∈(cc.map λc=>Dt.tup [.int (c.1:Int),.int (c.2:Int)])↔c∈cc:=by
 constructor
 ·intro h
  obtain⟨d,hd,e⟩:=List.mem_map.mp h;injection e with e;injection e with e1 e2;injection e1 with e1;injection e2 with e2;injection e2 with e2;have:d=c:=Prod.ext (Int.ofNat.inj e1) (Int.ofNat.inj e2);rw[<- this];exact hd
 ·intro h
  exact List.mem_map.mpr ⟨c,h,rfl⟩
noncomputable def Mv (C CA:Addr):Sp:=λvs H Q E=>∃(b t:Addr) (as:List Addr) (ts:List aY) (r w:Nat) (j3 y8:List (List Nat)) (bi bj:Nat),vs=[.ref b,.ref t]/\eE C H b r w j3 y8 bi bj/\H t=some (.tup (as.map V.ref))/\cM H as ts/\ts.length<=7/\
 (qw j3 r w bi bj ts=false->∀H',Same H H'->E (.ref CA) none H')/\(qw j3 r w bi bj ts=true->∀H',Same H H'->Q .non H')
open Classical in
theorem FZ {C CA f1:Addr}{iK:FuncData}(D:aJ K mg "check_joined" lD ["board","laying"])(uy:mg "any"=none)(gK:gj K C)(Ga:Meth K C "is_free" f1)(Gb:cD P w K mg base fK 1 f1 iK ["self"] (VN C))(Gd:Binds K iK ["self"] [])
  (Dh:mg "Apart"=some (.ref CA)) (abx:W.excIn K CA gY "ValueError.__new__"=true) (wO:Def P w K mg base "cells_of" 1 ["laying"] zB) (zF:Def P w K mg base "is_next_to_taken" 5 ["board","row","column"] (Mp C)):DefX P w K mg base "check_joined" 7 ["board","laying"] (Mv C CA):=by
 refine D.wC nR (λvs H Q E h=>?_) (λf cdv A outer s H vs Q E hr h=>?_)
 ·obtain⟨b,t,as,ts,r,w,j3,y8,bi,bj,rfl,_⟩:=h
  rfl
 ·obtain⟨b,t,as,ts,r,w,j3,y8,bi,bj,rfl,BA,ht,hL,h7,qE,q⟩:=h
  have hal:=hL.len;obtain⟨dx,pr,pm,pb,ex,_,_,hpb⟩:=id BA.ex;refine⟨_,(au (gD (bO (cO (Yd (qv 0) gK.cl Ga Gb (hr.mono (by decide)) Gd .nil mj)) (aA (aM (i:=2) nR.nd rfl (Or.inl rfl) (eY (Qi hr.units) (jU (qv 0) rfl) (bF wO (hr.mono (by decide)) rfl (aj (qv 1) ak)) rfl))) (aA (aM (i:=2) nR.nd rfl (Or.inl rfl) (aH (K8 rfl) (by rfl) uy Iz (aj (dJ (ns:=["row","column","sign"]) rfl (dR.of ["board","laying","joined"] [] (by kernel_rfl)) (dF (qv 1)) (λ_ _ _ _ _=>(lB K rfl (show (["row","column","sign","board","laying","joined"]:List Str).Nodup by decide +kernel) rfl rfl rfl (by rfl) (by rfl) (by rfl))) (λ_ _ _ _ _=>cu) (λ_ _ _ _ _=>(bF zF (hr.mono (by decide)) rfl (aj (qv 3) (aj (qv 0) (aj (qv 1) ak)))))) ak)))))) (aA (bO (dN (cO (qv 2))) (aA (CJ m9 rfl rfl (by rfl) Dh abx (aj (bN [116,104,101,32,108,97,121,105,110,103,32,105,115,32,106,111,105,110,101,100,32,116,111,32,110,111,116,104,105,110,103] (by decide +kernel)) ak))) bB))),?_⟩;refine⟨λσ H'=>Same H H'/\σ=[some (.ref b),some (.ref t),some (.bl (qw j3 r w bi bj ts))],?_,?_⟩
  ·refine⟨_,rfl,b,dx,_,rfl,ex,rfl,b,r,w,j3,y8,bi,bj,rfl,BA,λH1 s1=>⟨_,rfl,?_⟩⟩
   cases hf:isFree j3 with
   | true=>
    refine bw ⟨_,rfl,b,C,dx,_,_,rfl,s1 _ _ ex,gK.cl,gK.nb,rfl,_,rfl,t,as,ts,rfl,s1 _ _ ht,hL.mv s1,by omega,λLc cs H2 s2 hLc hcs=>?_⟩;have afI:=s2 _ _ (s1 _ _ hpb);refine⟨2,.tup [.int bi,.int bj],(ts.map dX).map λc=>Dt.tup [.int c.1,.int c.2],by decide,.tup (aK.of afI) (.cons (.int _) (.cons (.int _) .nil)),.lst (aN.of hLc) (dO.Wf hcs),?_⟩;refine⟨s1.trans s2,?_⟩;have e:qw j3 r w bi bj ts=decide ((bi,bj)∈ts.map dX):=by unfold qw;rw[if_pos hf]
    rw[e];simp only[Bool.false_eq_true,if_false];by_cases hm:(bi,bj)∈ts.map dX
    ·rw[decide_eq_true hm,decide_eq_true (vP (c:=(bi,bj)).mpr hm)];rfl
    ·rw[decide_eq_false hm,decide_eq_false (λz=>hm (vP (c:=(bi,bj)).mp z))];rfl
   | false=>
    refine aV ⟨_,rfl,t,rfl,⟨_,aK.of (s1 _ _ ht)⟩,λN hN=>gW (K:=K) (KT:=K) (a:=t) (f:=dB [] 0) (tt:=fJ) (xs:=as.map V.ref) (λn ys H3=>ys=((ts.take n).map λt=>gZ j3 r w t.1 t.2.1).map V.bl/\H3 N=some (.lst ys)/\Same H1 H3)
     ⟨rfl,ao,Same.upd hN⟩ (λn ys H3 _ h=>aK.of (h.2.2 _ _ (s1 _ _ ht))) ?_ ?_⟩
    ·rintro n x ys H3 hx ⟨rfl,i_,sm3⟩
     have hn:n < as.length:=by have:=(List.getElem?_eq_some_iff.mp hx).1;simpa using this
     have hnt:n < ts.length:=by omega
     rw[List.getElem?_map,List.getElem?_eq_getElem hn]at hx;have hx:V.ref as[n]=x:=Option.some.inj hx;have Ca:=s1.trans sm3;obtain⟨_,en⟩:=fD (hL.mv Ca) hnt;refine qQ hx.symm (aK.of en) ?_;refine⟨_,rfl,_,rfl,_,rfl,b,r,w,j3,y8,bi,bj,_,_,rfl,BA.mv Ca,λH4 s4=>⟨s4 _ _ i_,?_,cX.mk (by rw[List.length_map];exact hn) ⟨?_,ao,(sm3.trans s4).bJ hN⟩⟩⟩
     ·rw[List.length_map,List.length_map,List.length_take];exact aD (by omega)
     ·rw[take_snoc (List.getElem?_eq_getElem hnt),List.map_append];rfl
    ·rintro ys H3 ⟨rfl,i_,sm3⟩
     refine⟨N,_,rfl,aN.of i_,s1.trans sm3,?_⟩;rw[List.length_map,hal,List.take_length,any_map];have e:qw j3 r w bi bj ts=ts.any λt=>gZ j3 r w t.1 t.2.1:=by unfold qw;rw[if_neg (by rw[hf];decide)]
     rw[e];rfl
  ·rintro σ H' ⟨sm,rfl⟩
   refine⟨_,rfl,_,rfl,?_⟩;cases hj:qw j3 r w bi bj ts with
   | true=>exact aV (q hj H' sm)
   | false=>exact bw ⟨by show 1<=sizeLine;decide,qE hj H' sm⟩
end
end My
end
section
namespace My
open PySem L2
section
variable {P:Program}{w:World}{K:W.Frag}{mg:Str->Option Value}{base:Heap}
structure Mw (w:List Nat):Prop where
 lo:2<=w.length
 hi:w.length<=9
 az:∀c∈w,isLet c
noncomputable def Mx:Sp:=λvs H Q _=>∃l:List Nat,vs=[.str (S l)]/\Mw l/\∀H',Same H H'->Q (.bl true) H'
theorem ad3 {c:Nat}(h:isLet c):decide ([c] < [97])=false/\decide ([122] < [c])=false:=by
 have hlt:∀a b:Nat,([a] < [b])↔a < b:=λa b=>by simp[List.cons_lt_cons_iff]
 constructor
 ·rw[decide_eq_false];rw[hlt];have:=h.1;omega
 ·rw[decide_eq_false];rw[hlt];have:=h.2;omega
theorem Sw (D:aJ K mg "is_word" ud ["text"])(hlen:mg "len"=none)(hall:mg "all"=none):Def P w K mg base "is_word" 1 ["text"] Mx:=by
 refine D.dh Fl (λvs H Q E h=>?_) (λf cdv A outer s H vs Q E hr h=>?_)
 ·obtain⟨l,rfl,_⟩:=h
  rfl
 ·obtain⟨l,rfl,hw,q⟩:=h
  have h1:=hw.lo;have h2:=hw.hi;have hz:l.length<=sizeLine:=Nat.le_of_lt (aD (by omega));refine⟨_,aA (aX (jT (jK jl jl aq (aH bY (by rfl) hlen PySem.boot_len (aj (qv 0) ak)) aq)
   (iV (aH (iC rfl) (by rfl) hall (by decide +kernel) (aj (iQ rfl (gQ.of Fl.nd (by kernel_rfl)) (yR (qv 0)) (λ_ _ _ _ _=>cu)
    (λ_ _ _ _ _=>jK qb qb (bN [97] (by decide +kernel)) (qv 0) (bN [122] (by decide +kernel)))) ak))))),?_⟩
  refine⟨_,rfl,l,rfl,hz,_,_,rfl,rfl,true,(by simp;omega),?_⟩;refine bw ⟨_,_,rfl,rfl,true,(by simp;omega),?_⟩;refine bw ?_;refine⟨_,rfl,l,rfl,λL hL=>wu (λi ys H2=>ys=(List.replicate i true).map V.bl/\H2 L=some (.lst ys)/\Same H H2) ⟨rfl,ao,Same.upd hL⟩ ?_ ?_⟩
  ·rintro i c ys H2 hi ⟨rfl,hL2,sm⟩
   have hil:i < l.length:=(List.getElem?_eq_some_iff.mp hi).1;obtain⟨a1,a2⟩:=ad3 (hw.az c (List.mem_of_getElem? hi));refine⟨_,rfl,[97],[c],rfl,rfl,true,by rw[a1];rfl,bw ⟨[c],[122],rfl,rfl,hL2,?_,cX.mk hil ⟨?_,ao,sm.bJ hL⟩⟩⟩
   ·rw[List.length_map,List.length_replicate];exact aD (by omega)
   ·rw[a2,List.replicate_succ',List.map_append];rfl
  ·rintro ys H2 ⟨rfl,hL2,sm⟩
   refine⟨L,List.replicate l.length true,rfl,aN.of hL2,?_⟩;have e:(List.replicate l.length true).all id=true:=by simp
   rw[e];exact q H2 sm
noncomputable def QD:Sp:=λvs H Q _=>∃l:List Nat,vs=[.str (S l)]/\Mw l/\∀H',Same H H'->Q .non H'
theorem J1 (D:aJ K mg "check_word" nU ["text"])(D1:Def P w K mg base "is_word" 1 ["text"] Mx):Def P w K mg base "check_word" 2 ["text"] QD:=by
 refine D.dh JN (λvs H Q E h=>?_) (λf cdv A outer s H vs Q E hr h=>?_)
 ·obtain⟨l,rfl,_⟩:=h
  rfl
 ·obtain⟨l,rfl,hw,q⟩:=h
  refine⟨_,aA (bO (dN (cO (bF D1 hr rfl (aj (qv 0) ak)))) Iu bB),?_⟩;refine⟨_,rfl,l,rfl,hw,λH1 s1=>⟨true,rfl,?_⟩⟩;exact aV (q H1 s1)
structure vQ (K:W.Frag)(C:Addr):Prop where
 cl:Cls K C
 nh:lQ K C "held"
noncomputable def ou (ws:List (List Nat)):List (Key × V):=ws.map λl=>(jY l,V.bl true)
theorem Y5 {a b:List Nat}(h:jY a=jY b):a=b:=J9 (Sum.inr.inj h)
theorem G_ (ws:List (List Nat))(l:List Nat):jH (ou ws) (jY l)=if l∈ws then some (.bl true) else none:=by
 induction ws with
 | nil=>simp[ou,jH]
 | cons a r ih=>
  by_cases e:a=l
  ·subst e
   have:jH (ou (a::r)) (jY a)=some (.bl true):=rZ (p:=(jY a,V.bl true)) rfl;rw[this];simp
  ·have:jH (ou (a::r)) (jY l)=jH (ou r) (jY l):=su (p:=(jY a,V.bl true)) λz=>e (Y5 z)
   rw[this,ih];have e':¬l=a:=λz=>e z.symm;simp[e']
theorem aby {ws:List (List Nat)}{l:List Nat}(h:l∈ws):putK (ou ws) (jY l) (.bl true)=ou ws:=by
 have hany:((ou ws).any λkv=>decide (kv.1=jY l))=true:=by rw[vZ,G_,if_pos h];rfl
 unfold putK;rw[if_pos hany];refine(List.map_congr_left λkv hkv=>?_).trans (List.map_id _);obtain⟨a,_,rfl⟩:=List.mem_map.mp hkv;by_cases e:jY a=jY l
 ·simp[e]
 ·simp[e]
theorem abz {ws:List (List Nat)}{l:List Nat}(h:l∉ws):putK (ou ws) (jY l) (.bl true)=ou (ws++[l]):=by
 rw[X5 _ (by rw[G_,if_neg h])];simp[ou]
structure qx (C:Addr)(H:Hp)(p d:Addr)(ws:List (List Nat)):Prop where
 ob:∃dx,H p=some (.ins C dx [("held",.ref d)])
 dc:H d=some (.dK (ou ws))
 nd:ws.Nodup
 az:∀l∈ws,Mw l
noncomputable def uU (ws:List (List Nat))(l:List Nat):List (List Nat):=if l∈ws then ws else ws++[l]
theorem Mz (ws:List (List Nat))(l:List Nat):putK (ou ws) (jY l) (.bl true)=ou (uU ws l):=by
 unfold uU
 split
 ·rename_i h;exact aby h
 ·rename_i h;exact abz h
theorem QF {ws:List (List Nat)}{l:List Nat}(h:ws.Nodup):(uU ws l).Nodup:=by
 unfold uU
 split
 ·exact h
 ·rename_i hl;exact PB h hl
theorem MF {ws:List (List Nat)}{l x:List Nat}:x∈uU ws l↔x∈ws\/x=l:=by
 unfold uU
 split
 ·rename_i h;exact⟨.inl,λz=>z.elim id λe=>e ▸ h⟩
 ·simp
theorem MJ (ws:List (List Nat))(l:List Nat):(uU ws l).length<=ws.length+1:=by
 unfold uU
 split
 ·omega
 ·simp
noncomputable def ae6 (K:W.Frag)(H:Hp)(a:Addr)(ls:List (List Nat)):Prop:=aN K H a (Ts ls)\/aK K H a (Ts ls)
noncomputable def Wg (K:W.Frag)(C:Addr):Sp:=λvs H Q _=>∃(p dx a:Addr) (ls:List (List Nat)),vs=[.ref p,.ref a]/\H p=some (.ins C dx [])/\ae6 K H a ls/\(∀l∈ls,Mw l)/\ls.length<=200/\
 ∀(d:Addr) (ws:List (List Nat)) (H':Hp),H d=none->qx C H' p d ws->(∀x,x∈ws↔x∈ls)->ws.length<=ls.length->(∀b o,H b=some o->b≠p->H' b=some o)->Q .non H'
theorem abA {f C:Addr}{fd:FuncData}(F:gk K "__init__" "Book.__init__" jg f fd)(T:vQ K C)(D1:Def P w K mg base "check_word" 2 ["text"] QD):cD P w K mg base fK 3 f fd ["self","words"] (Wg K C):=by
 refine F.dh zj (λvs H Q E h=>?_) (λcdv A outer s H vs Q E hr h=>?_)
 ·obtain⟨p,dx,a,ls,rfl,_⟩:=h
  rfl
 ·obtain⟨p,dx,a,ls,rfl,hp,hS,hW,hn,k⟩:=h
  have hu:=Rp hr;have nd:=zj.nd;refine⟨_,au (Eu (qv 0) Ye rfl) (aA (dM PassesOwn.never rfl ((fG (qv 1)).or (dF (qv 1))) (bK (i:=2) nd rfl (Or.inl rfl))
   (au (dY (bF D1 hr rfl (aj (qv 2) ak))) (aA (Qa hu (jU (qv 0) rfl) (qv 2) gw rfl))))),?_⟩
  intro d hd;have npd:p≠d:=bV hp hd;refine⟨_,rfl,p,C,dx,[],rfl,(by rw[aP npd];exact hp),T.cl,T.nh,(by show 0 < 1000;decide),?_⟩;have hP1:upd (upd H d (HO.dK [])) p (HO.ins C dx (gM "held" (V.ref d) [])) p=some (.ins C dx [("held",.ref d)]):=ao;have hD1:upd (upd H d (HO.dK [])) p (HO.ins C dx (gM "held" (V.ref d) [])) d=some (.dK (ou [])):=by rw[aP npd.symm,ao];rfl
  have Wh:∀b o,H b=some o->b≠p->upd (upd H d (HO.dK [])) p (HO.ins C dx (gM "held" (V.ref d) [])) b=some o:=λb o e hb=>by rw[aP hb,aP (bV e hd)];exact e
  generalize upd (upd H d (HO.dK [])) p (HO.ins C dx (gM "held" (V.ref d) []))=H1 at hP1 hD1 Wh ⊢;have npl:∀o,H p=some o->(∀ys,o≠.lst ys)/\∀u ys,o≠.lM u (.lst ys):=λo e=>by
   rw[hp]at e;cases e;exact⟨λ_ z=>(nomatch z),λ_ _ z=>(nomatch z)⟩
  have npt:∀o,H p=some o->(∀ys,o≠.tup ys)/\∀u ys,o≠.lM u (.tup ys):=λo e=>by
   rw[hp]at e;cases e;exact⟨λ_ z=>(nomatch z),λ_ _ z=>(nomatch z)⟩
  rcases hS with hS | hS
  ·refine .inl ⟨_,rfl,a,rfl,⟨_,hS.keep Wh npl⟩,mH (K:=K) (a:=a) (xs:=Ts ls) (λi σ H2=>∃(v2:Option V) (ws:List (List Nat)),σ=[some (.ref p),some (.ref a),v2]/\H2 p=some (.ins C dx [("held",.ref d)])/\H2 d=some (.dK (ou ws))/\ws.Nodup/\
    (∀x,x∈ws↔x∈ls.take i)/\ws.length<=i/\∀b o,H b=some o->b≠p->H2 b=some o) ⟨none,[],rfl,hP1,hD1,List.nodup_nil,λx=>by simp,Nat.le_refl _,Wh⟩ (λi σ H2 _ ⟨_,_,_,_,_,_,_,_,kp⟩=>hS.keep kp npl) ?_ ?_⟩
   ·rintro i y σ H2 hi ⟨v2,ws,rfl,hp2,hd2,hnd,hm,hl,kp⟩
    rw[List.getElem?_map]at hi;obtain⟨l,hl2,e⟩:=Option.map_eq_some_iff.mp hi;subst e;have hil:i < ls.length:=(List.getElem?_eq_some_iff.mp hl2).1;refine⟨_,rfl,l,rfl,hW l (List.mem_of_getElem? hl2),λH3 s3=>?_⟩;have hd3:=s3 _ _ hd2;refine⟨_,rfl,p,C,dx,_,_,rfl,s3 _ _ hp2,T.cl,T.nh,rfl,_,rfl,d,_,rfl,wg.k (k:=jY l) hd3 (by rw[ou,List.length_map];exact aD (by omega)),?_⟩;refine⟨_,uU ws l,rfl,by rw[aP npd];exact s3 _ _ hp2,by rw[ao,Mz],QF hnd,λx=>?_,Nat.le_trans (MJ _ _) (by omega),λb o e hb=>?_⟩
    ·rw[MF,hm,List.take_add_one,hl2];simp
    ·rw[aP (bV e hd)];exact s3 _ _ (kp b o e hb)
   ·rintro σ H2 ⟨v2,ws,rfl,hp2,hd2,hnd,hm,hl,kp⟩
    rw[List.length_map]at hm hl;rw[List.take_length]at hm;exact k d ws H2 hd ⟨⟨dx,hp2⟩,hd2,hnd,λl hl=>hW l ((hm l).mp hl)⟩ hm hl kp
  ·refine .inr ⟨_,rfl,a,rfl,⟨_,hS.keep Wh npt⟩,rK (K:=K) (a:=a) (xs:=Ts ls) (λi σ H2=>∃(v2:Option V) (ws:List (List Nat)),σ=[some (.ref p),some (.ref a),v2]/\H2 p=some (.ins C dx [("held",.ref d)])/\H2 d=some (.dK (ou ws))/\ws.Nodup/\
    (∀x,x∈ws↔x∈ls.take i)/\ws.length<=i/\∀b o,H b=some o->b≠p->H2 b=some o) ⟨none,[],rfl,hP1,hD1,List.nodup_nil,λx=>by simp,Nat.le_refl _,Wh⟩ (λi σ H2 _ ⟨_,_,_,_,_,_,_,_,kp⟩=>hS.keep kp npt) ?_ ?_⟩
   ·rintro i y σ H2 hi ⟨v2,ws,rfl,hp2,hd2,hnd,hm,hl,kp⟩
    rw[List.getElem?_map]at hi;obtain⟨l,hl2,e⟩:=Option.map_eq_some_iff.mp hi;subst e;have hil:i < ls.length:=(List.getElem?_eq_some_iff.mp hl2).1;refine⟨_,rfl,l,rfl,hW l (List.mem_of_getElem? hl2),λH3 s3=>?_⟩;have hd3:=s3 _ _ hd2;refine⟨_,rfl,p,C,dx,_,_,rfl,s3 _ _ hp2,T.cl,T.nh,rfl,_,rfl,d,_,rfl,wg.k (k:=jY l) hd3 (by rw[ou,List.length_map];exact aD (by omega)),?_⟩;refine⟨_,uU ws l,rfl,by rw[aP npd];exact s3 _ _ hp2,by rw[ao,Mz],QF hnd,λx=>?_,Nat.le_trans (MJ _ _) (by omega),λb o e hb=>?_⟩
    ·rw[MF,hm,List.take_add_one,hl2];simp
    ·rw[aP (bV e hd)];exact s3 _ _ (kp b o e hb)
   ·rintro σ H2 ⟨v2,ws,rfl,hp2,hd2,hnd,hm,hl,kp⟩
    rw[List.length_map]at hm hl;rw[List.take_length]at hm;exact k d ws H2 hd ⟨⟨dx,hp2⟩,hd2,hnd,λl hl=>hW l ((hm l).mp hl)⟩ hm hl kp
noncomputable def aaw (C:Addr):Sp:=λvs H Q _=>∃(p d:Addr) (ws:List (List Nat)) (l:List Nat),vs=[.ref p,.str (S l)]/\qx C H p d ws/\Q (.bl (decide (l∈ws))) H
theorem ad4 {f C:Addr}{fd:FuncData}(F:gk K "has" "Book.has" jO f fd)(T:vQ K C):cD P w K mg base fK 1 f fd ["self","text"] (aaw C):=by
 refine F.dh Ou (λvs H Q E h=>?_) (λcdv A outer s H vs Q E hr h=>?_)
 ·obtain⟨p,d,ws,l,rfl,_⟩:=h
  rfl
 ·obtain⟨p,d,ws,l,rfl,B,q⟩:=h
  have hu:=Rp hr;obtain⟨⟨dx,hp⟩,hd,_,_⟩:=id B;refine⟨_,aA (aX (adk (adi hu (qv 1) (jU (qv 0) rfl)))),?_⟩;refine⟨_,rfl,_,rfl,p,C,dx,_,_,rfl,hp,T.cl,T.nh,rfl,d,_,rfl,sy.k (k:=jY l) hd,?_⟩;rw[G_];by_cases h:l∈ws
  ·rw[if_pos h];simpa [h] using q
  ·rw[if_neg h];simpa [h] using q
noncomputable def cP (c:Nat):Nat:=if 65<=c/\c<=90 then 63 else c
noncomputable def Wi (c:Nat):Prop:=isLet c\/(65<=c/\c<=90)
theorem Wi.lt {c:Nat}(h:Wi c):c < 128:=by
 rcases h with h | h
 ·have:=h.2;omega
 ·omega
noncomputable def vR (left:List (List Nat)):List Nat->Sum Nat (List (List Nat))
 | []=>.inr left
 | c::cs=>if [cP c]∈left then vR (left.erase [cP c]) cs else .inl (cP c)
theorem QH:∀{us:List (List Nat)},(∀l∈us,l.length=1)->us.flatten.length=us.length
 | [],_=>rfl
 | u::us,h=>by
  rw[List.flatten_cons,List.length_append,QH λl hl=>h l (List.mem_cons_of_mem _ hl),h u List.mem_cons_self,List.length_cons];omega
noncomputable def Wj:Sp:=λvs H Q _=>∃c:Nat,vs=[.str (S [c])]/\c < 128/\Q (.str (S [cP c])) H
theorem le1 (a b:Nat):(!decide ([b] < [a]))=decide (a<=b):=by
 by_cases h:a<=b
 ·rw[decide_eq_true h,decide_eq_false (by simp[List.cons_lt_cons_iff];omega)];rfl
 ·rw[decide_eq_false h,decide_eq_true (by simp[List.cons_lt_cons_iff];omega)];rfl
theorem Sx (D:aJ K mg "tile_of" tZ ["sign"]):Def P w K mg base "tile_of" 1 ["sign"] Wj:=by
 refine D.dh RQ (λvs H Q E h=>?_) (λf cdv A outer s H vs Q E hr h=>?_)
 ·obtain⟨c,rfl,_⟩:=h
  rfl
 ·obtain⟨c,rfl,hc,q⟩:=h
  refine⟨_,(aA (aX (mK (mJ qb qb (bN [65] (by decide +kernel)) (qv 0) (bN [90] (by decide +kernel))) (bN [63] (by decide +kernel)) (qv 0)))),?_⟩;refine⟨_,rfl,[65],[c],rfl,rfl,?_⟩;rw[le1];unfold cP at q;by_cases h1:65<=c
  ·rw[decide_eq_true h1]
   refine⟨_,rfl,bw ⟨[c],[90],rfl,rfl,?_⟩⟩;rw[le1];by_cases h2:c<=90
   ·rw[if_pos ⟨h1,h2⟩]at q
    rw[decide_eq_true h2];exact⟨_,rfl,bw q⟩
   ·rw[if_neg λz=>h2 z.2]at q
    rw[decide_eq_false h2];exact⟨_,rfl,aV ⟨_,rfl,q⟩⟩
  ·rw[if_neg λz=>h1 z.1]at q
   rw[decide_eq_false h1];exact⟨_,rfl,aV ⟨_,rfl,aV ⟨_,rfl,q⟩⟩⟩
theorem ad5 (x:List Nat)(ws:List (List Nat)):inV (.str (S x)) (Ts ws)=decide (x∈ws):=by
 unfold inV
 induction ws with
 | nil=>simp[Ts]
 | cons y ws ih=>
  have e:BJ (.str (S y)) (.str (S x))=decide (y=x):=by
   show decide (S y=S x)=_;by_cases h:y=x
   ·rw[h];simp
   ·have h2:S y≠S x:=λe=>h (J9 e)
    simp[h,h2]
  show (BJ (.str (S y)) (.str (S x))||(Ts ws).any _)=_;rw[e,ih];by_cases h:y=x
  ·simp[h]
  ·have h2:¬x=y:=λe=>h e.symm
   simp[h,h2]
theorem abB (ws:List (List Nat)):(Ts ws).all qN=true:=by rw[List.all_eq_true];intro x hx;obtain⟨l,_,rfl⟩:=List.mem_map.mp hx;rfl
theorem Sy {f C R:Addr}{fd:FuncData}(F:gk K "__init__" "Lacking.__init__" f9 f fd)(fU:mg "RackError"=some (.ref R))(jh:InitOf K R)(T:lJ K mg "Lacking" C f ["tile"]):cD P w K mg base fK 1 f fd ["self","tile"] (Fd C "tile"):=by
 refine F.dh Fi (λvs H Q E h=>?_) (λcdv A outer s H vs Q E hr h=>?_)
 ·obtain⟨a,v,rfl,_⟩:=h
  rfl
 ·obtain⟨a,v,rfl,ha,q⟩:=h
  refine⟨_,(au (dY (qT (by rfl) fU jh (aj (qv 0) (aj (qv 1) ak)))) (aA (rQ (qv 0) (qv 1) rfl))),?_⟩;refine⟨_,rfl,_,rfl,a,C,f,none,[v],rfl,ha,T.M.ini,by show 1<=sizeLine;decide,?_⟩;exact⟨_,rfl,_,rfl,a,C,none,rfl,ha,T.T,T.no _ (by simp),.inl ⟨rfl,λdx ne nd=>q dx ne nd⟩⟩
noncomputable def Wk (C:Addr):Sp:=λvs H Q E=>∃(rack signs:List Nat),vs=[.str (S rack),.str (S signs)]/\rack.length<=63/\signs.length<=63/\(∀c∈signs,Wi c)/\
 (∀t,vR (rack.map λc=>[c]) signs=.inl t->∀(dx:Addr) (H':Hp),Same H H'->H' dx=some (.ext (XD dx [("tile",.str (S [t]))]))->E (.ref C) (some dx) H')/\
 (∀left,vR (rack.map λc=>[c]) signs=.inr left->∀(ws:List (List Nat)) (H':Hp),Same H H'->ws.Perm left->ws.Pairwise (λa b=>decide (b < a)=false)->Q (.str (S ws.flatten)) H')
theorem SJ {C f0:Addr}{jk:FuncData}(D:aJ K mg "left_of" t_ ["rack","signs"])(iJ:mg "list"=none)(kE:mg "sorted"=none)(T:lJ K mg "Lacking" C f0 ["tile"])(Wm:cD P w K mg base fK 1 f0 jk ["self","tile"] (Fd C "tile"))(zG:Binds K jk ["self","tile"] [])
  (Wn:Def P w K mg base "tile_of" 1 ["sign"] Wj):DefX P w K mg base "left_of" 3 ["rack","signs"] (Wk C):=by
 refine D.wC qU (λvs H Q E h=>?_) (λf cdv A outer s H vs Q E hr h=>?_)
 ·obtain⟨rack,signs,rfl,_⟩:=h
  rfl
 ·obtain⟨rack,signs,rfl,afJ,afW,hsg,qE,q⟩:=h
  have Wo:=T.M;have wR:=T.Fb;refine⟨_,(au (aM (i:=2) qU.nd rfl (Or.inl rfl) (eO (wB rfl) (by rfl) iJ PyProof.Rows.boot_list (aj (qv 0) ak))) (au (dM PassesOwn.leaving rfl (yR (qv 1)) (bK (i:=3) qU.nd rfl (Or.inl rfl)) (au (aM (i:=4) qU.nd rfl (Or.inl rfl) (bF Wn (hr.mono (by decide)) rfl (aj (qv 3) ak))) (au (bO (bx Kw (qv 4) (qv 2) rfl) (aA (qe m9 rfl Wo Wm (hr.mono (by decide)) (by rfl) wR zG (aj (qv 4) ak))) bB) (aA (dY (gA PySem.F.plainAttrs_list PySem.F.slot_list_remove PySem.F.type_list_remove Vm (qv 2) (aj (qv 4) ak))))))) (aA (aX (gA PySem.F.plainAttrs_str PySem.F.slot_str_join PySem.F.type_str_join rM (bN [] (by decide +kernel)) (aj (aH KZ (by rfl) kE PyProof.Rows.boot_sorted (aj (qv 2) ak)) ak)))))),?_⟩;refine⟨_,rfl,rack,rfl,by omega,λL hL=>?_⟩;have s1:Same H (upd H L (.lst (Ts (rack.map λc=>[c])))):=Same.upd hL;refine⟨_,rfl,signs,rfl,?_⟩;refine aa1 (λi σ H2=>∃(v3 v4:Option V) (us:List (List Nat)),σ=[some (.str (S rack)),some (.str (S signs)),some (.ref L),v3,v4]/\Same H H2/\H2 L=some (.lst (Ts us))/\us.length<=63/\(∀l∈us,l.length=1)/\vR (rack.map λc=>[c]) signs=vR us (signs.drop i))
   ⟨none,none,rack.map λc=>[c],rfl,s1,ao,by rw[List.length_map];exact afJ,λl hl=>by obtain⟨c,_,rfl⟩:=List.mem_map.mp hl;rfl,by rw[List.drop_zero]⟩ ?_ ?_
  ·rintro i c σ H2 hc ⟨v3,v4,us,rfl,sm,hL2,hul,hu1,hgo⟩
   have hcs:=hsg c (List.mem_of_getElem? hc);have hi:i < signs.length:=(List.getElem?_eq_some_iff.mp hc).1;have hdrop:signs.drop i=c::signs.drop (i+1):=by
    rw[List.drop_eq_getElem_cons hi];rw[List.getElem?_eq_getElem hi]at hc;rw[Option.some.inj hc]
   rw[hdrop]at hgo;refine⟨_,rfl,c,rfl,hcs.lt,?_⟩;refine⟨_,rfl,_,rfl,L,Ts us,rfl,.inl (aN.of hL2),rfl,abB us,?_⟩;rw[ad5];by_cases hm:[cP c]∈us
   ·rw[decide_eq_true hm]
    refine⟨_,rfl,aV ⟨_,rfl,.inl ⟨rfl,_,aN.of hL2⟩,_,rfl,L,us,[cP c],rfl,rfl,hL2,hm,by omega,?_⟩⟩;refine⟨_,_,us.erase [cP c],rfl,sm.bJ hL,ao,?_,λl hl=>hu1 l (List.mem_of_mem_erase hl),?_⟩
    ·have:=(List.erase_sublist (a:=[cP c]) (l:=us)).length_le;omega
    ·rw[hgo];show (if _ then _ else _)=_;rw[if_pos hm]
   ·rw[decide_eq_false hm]
    have e:vR (rack.map λc=>[c]) signs=.inl (cP c):=by rw[hgo];show (if _ then _ else _)=_;rw[if_neg hm]
    refine⟨_,rfl,bw ⟨_,rfl,by show 1<=sizeLine;decide,λa na=>⟨a,_,rfl,ao,λdx ne nd=>⟨rfl,some dx,ao,?_⟩⟩⟩⟩;obtain⟨k1,k2⟩:=drop_new (q:=.ext (fP a (.ref C) (some dx))) (p:=.ext (XD dx [("tile",.str (S [cP c]))])) na ne nd;exact qE _ e dx _ (sm.trans k1) k2
  ·rintro σ H2 ⟨v3,v4,us,rfl,sm,hL2,hul,hu1,hgo⟩
   rw[List.drop_length]at hgo;refine⟨rfl,_,rfl,L,us,rfl,aN.of hL2,by omega,λp ws hp pm pw=>?_⟩;refine⟨p,ws,rfl,rfl,aN.of ao,?_,?_⟩
   ·rw[QH λl hl=>hu1 l (pm.mem_iff.mp hl),pm.length_eq];omega
   ·exact q us hgo ws _ (sm.bJ (sm.free hp)) pm pw
theorem Wq {f C R:Addr}{fd:FuncData}(F:gk K "__init__" "NoWord.__init__" gP f fd)(fU:mg "RackError"=some (.ref R))(jh:InitOf K R)(T:lJ K mg "NoWord" C f ["word"]):cD P w K mg base fK 1 f fd ["self","word"] (Fd C "word"):=by
 refine F.dh GF (λvs H Q E h=>?_) (λcdv A outer s H vs Q E hr h=>?_)
 ·obtain⟨a,v,rfl,_⟩:=h
  rfl
 ·obtain⟨a,v,rfl,ha,q⟩:=h
  refine⟨_,(au (dY (qT (by rfl) fU jh (aj (qv 0) (aj (qv 1) ak)))) (aA (rQ (qv 0) (qv 1) rfl))),?_⟩;refine⟨_,rfl,_,rfl,a,C,f,none,[v],rfl,ha,T.M.ini,by show 1<=sizeLine;decide,?_⟩;exact⟨_,rfl,_,rfl,a,C,none,rfl,ha,T.T,T.no _ (by simp),.inl ⟨rfl,λdx ne nd=>q dx ne nd⟩⟩
end
end My
end
section
namespace My
open PySem L2
section
variable {P:Program}{w:World}{K:W.Frag}{mg:Str->Option Value}{base:Heap}
theorem zH {p:Nat->Bool}:∀{l:List Nat} {c:Nat},c∈l.takeWhile p->c∈l/\p c=true
 | [],c,h=>by simp at h
 | a::l,c,h=>by
  rw[List.takeWhile_cons]at h;by_cases z:p a=true
  ·rw[if_pos z]at h
   rcases List.mem_cons.mp h with e | e
   ·rw[e];exact⟨List.mem_cons_self,z⟩
   ·have:=zH e;exact⟨List.mem_cons_of_mem _ this.1,this.2⟩
  ·rw[if_neg z]at h;simp at h
theorem Y6 {r w:Nat}{R:List (List Nat)}(hb:Blk r w R)(hp:∀l∈R,∀c∈l,uh c){i j wy:Nat}(hi:i < r)(hj:j < w):∀c∈lineOf R i j (wy:Int),uh c:=λc hc=>by
 unfold lineOf at hc
 split at hc
 ·rw[List.getD_eq_getElem?_getD,List.getElem?_eq_getElem (by rw[hb.len];exact hi)]at hc
  exact hp _ (List.getElem_mem _) c hc
 ·obtain⟨l,hl,e⟩:=List.mem_map.mp hc
  have hw:=hb.gJ l hl;have e2:l.getD j 0=l[j]:=by rw[List.getD_eq_getElem?_getD,List.getElem?_eq_getElem (show j < l.length by omega)];rfl
  rw[<- e,e2];exact hp l hl _ (List.getElem_mem _)
theorem abC {r w:Nat}{R:List (List Nat)}(hb:Blk r w R)(hp:∀l∈R,∀c∈l,uh c){i j wy:Nat}(hi:i < r)(hj:j < w):∀c∈(lK R i j wy).2.2.2,lG c:=λc hc=>by
 have key:∀c,c∈lineOf R i j (wy:Int)->(c != 46)=true->lG c:=λc h1 h2=>by
  rcases Y6 hb hp hi hj c h1 with z | z
  ·rw[z]at h2;cases h2
  ·exact z
 rcases List.mem_append.mp (show c∈dg _++d9 _ from hc) with z | z
 ·unfold dg at z
  have:=zH (List.mem_reverse.mp z);exact key c (List.mem_of_mem_take (List.mem_reverse.mp this.1)) this.2
 ·have:=zH z
  exact key c (List.mem_of_mem_drop this.1) this.2
theorem Di {r w:Nat}{j3:List (List Nat)}{ts:List aY}(hb:Blk r w (bM j3 ts))(hp:∀l∈bM j3 ts,∀c∈l,uh c)(hin:∀t∈ts,inB r w t):∀q∈fB j3 ts,∀c∈q.2.2.2,lG c:=λq hq=>by
 obtain⟨a,ha,rfl⟩:=List.mem_map.mp (List.mem_filter.mp hq).1;have hi:a.1 < r/\a.2.1 < w:=by
  rcases List.mem_append.mp ha with z | z
  ·obtain⟨u,hu,rfl⟩:=List.mem_map.mp z
   have:=hin u (List.mem_of_mem_take hu);exact⟨this.1,this.2.1⟩
  ·obtain⟨u,hu,rfl⟩:=List.mem_map.mp z
   have:=hin u hu;exact⟨this.1,this.2.1⟩
 exact abC hb hp hi.1 hi.2
theorem Ce {r w:Nat}{j3:List (List Nat)}{ts:List aY}(hb:Blk r w (bM j3 ts))(r9:r<=9)(w9:w<=9)(hin:∀t∈ts,inB r w t):∀q∈fB j3 ts,q.2.2.2.length<=20:=λq hq=>by
 obtain⟨a,ha,rfl⟩:=List.mem_map.mp (List.mem_filter.mp hq).1;have hi:a.1 < r:=by
  rcases List.mem_append.mp ha with z | z
  ·obtain⟨u,hu,rfl⟩:=List.mem_map.mp z
   exact(hin u (List.mem_of_mem_take hu)).1
  ·obtain⟨u,hu,rfl⟩:=List.mem_map.mp z
   exact(hin u hu).1
 exact CZ hb r9 w9 hi
noncomputable def dQ (q:mV):Dt:=.tup [.int q.1,.int q.2.1,.int q.2.2.1,.str q.2.2.2]
theorem dO.ofQ {H:Hp}:∀{bs:List Addr} {qs:List mV},QL H bs qs->(∀q∈qs,∀c∈q.2.2.2,c < 128)->dO K H 1 (qs.map dQ) (bs.map V.ref)
 | [],[],_,_=>.nil
 | [],_::_,h,_=>by have:=h.len;simp at this
 | _::_,[],h,_=>by have:=h.len;simp at this
 | a::bs,q::qs,h,k=>.cons (.tup (aK.of (h.at_ 0 a q rfl rfl)) (.cons (.int _) (.cons (.int _) (.cons (.int _) (.cons (.str _ (k q List.mem_cons_self)) .nil))))) (dO.ofQ ⟨by have:=h.len;simpa using this,λi a x h1 h2=>h.at_ (i+1) a x h1 h2⟩ λq' hq'=>k q' (List.mem_cons_of_mem _ hq'))
noncomputable def wU (q:mV):List Nat:=q.2.2.2.map PyProof.Rows.lo1
noncomputable def MN (ws:List (List Nat))(q:mV):Bool:=!decide (wU q∈ws)
noncomputable def vU (j3:List (List Nat))(ws:List (List Nat))(ts:List aY):Option (List Nat):=if fB j3 ts=[] then some ([(gG ts).2.2].map PyProof.Rows.lo1) else ((fB j3 ts).find? (MN ws)).map wU
noncomputable def Ju (C CB CW:Addr):Sp:=λvs H Q E=>∃(b k d t:Addr) (ws:List (List Nat)) (as:List Addr) (ts:List aY) (r w:Nat) (j3 y8:List (List Nat)) (bi bj:Nat),vs=[.ref b,.ref k,.ref t]/\eE C H b r w j3 y8 bi bj/\qx CB H k d ws/\H t=some (.tup (as.map V.ref))/\cM H as ts/\(∀t∈ts,inB r w t)/\0 < ts.length/\ts.length<=7/\Fz ts/\
 (∀l,vU j3 ws ts=some l->∀(dx:Addr) (H':Hp),Same H H'->H' dx=some (.ext (XD dx [("word",.str (S l))]))->E (.ref CW) (some dx) H')/\(vU j3 ws ts=none->∀H',Same H H'->Q .non H')
theorem qx.mv {C:Addr}{H H':Hp}{p d:Addr}{ws:List (List Nat)}(B:qx C H p d ws)(s:Same H H'):qx C H' p d ws:=⟨let ⟨dx,e⟩:=B.ob;⟨dx,s _ _ e⟩,s _ _ B.dc,B.nd,B.az⟩
theorem SM {j3:List (List Nat)}{ts:List aY}(h:ts.length<=7):(fB j3 ts).length<=100:=by
 refine Nat.le_trans (List.length_filter_le _ _) ?_;rw[List.length_map];unfold oX;rw[List.length_append,List.length_map,List.length_map,List.length_take];omega
open Classical in
theorem Hf {C CB CW f0 f1:Addr}{jk iK:FuncData}(D:aJ K mg "check_words" mF ["board","book","laying"])(Ws:vQ K CB)(SN:Meth K CB "has" f1)(SQ:cD P w K mg base fK 1 f1 iK ["self","text"] (aaw CB))(SX:Binds K iK ["self","text"] [])
  (T:lJ K mg "NoWord" CW f0 ["word"]) (MP:cD P w K mg base fK 1 f0 jk ["self","word"] (Fd CW "word")) (wV:Binds K jk ["self","word"] []) (Y7:Def P w K mg base "formed" 10 ["board","laying"] (Mf C)) (O8:Def P w K mg base "letter_of" 1 ["sign"] FT):DefX P w K mg base "check_words" 12 ["board","book","laying"] (Ju C CB CW):=by
 refine D.wC gb (λvs H Q E h=>?_) (λf cdv A outer s H vs Q E hr h=>?_)
 ·obtain⟨b,k,d,t,ws,as,ts,r,w,j3,y8,bi,bj,rfl,_⟩:=h
  rfl
 ·obtain⟨b,k,d,t,ws,as,ts,r,w,j3,y8,bi,bj,rfl,BA,BK,ht,hL,hin,h0,h7,hl1,qE,q⟩:=h
  have M4:=T.M;have nq:=T.Fb;have hb':=jP BA.ok.br hin;have hp':=wL BA.ok.br hin BA.ok.cr;have hsg:=Di hb' hp' hin;have h20:=Ce hb' BA.ok.r9 BA.ok.w9 hin;have hwl:=SM (j3:=j3) h7;have hlt:∀q∈fB j3 ts,∀c∈q.2.2.2,c < 128:=λq hq c hc=>(hsg q hq c hc).lt;refine⟨_,(au (aM (i:=3) gb.nd rfl (Or.inl rfl) (bF Y7 (hr.mono (by decide)) rfl (aj (qv 0) (aj (qv 2) ak)))) (au (bO (bx (Ew hr.units) (qv 3) (bR ak) (bh _)) (aA (qe m9 rfl M4 MP (hr.mono (by decide)) (by rfl) nq wV (aj (bF O8 (hr.mono (by decide)) rfl (aj (aL aO (aL aO (qv 2) aq (λ_ _=>rfl)) aq (λ_ _=>rfl)) ak)) ak))) bB) (aA (dM PassesOwn.leaving rfl (dF (qv 3)) (pZ rfl (cB (bK (i:=4) gb.nd rfl (Or.inl rfl)) (cB (bK (i:=5) gb.nd rfl (Or.inl rfl)) (cB (bK (i:=6) gb.nd rfl (Or.inl rfl)) (cB (bK (i:=7) gb.nd rfl (Or.inl rfl)) lq))))) (au (aM (i:=8) gb.nd rfl (Or.inl rfl) (vD PySem.F.plainAttrs_str PySem.F.slot_str_lower PySem.F.type_str_lower vG (qv 7))) (aA (bO (dN (cO (oN (qv 1) Ws.cl SN SQ (hr.mono (by decide)) SX .nil mj (aj (qv 8) ak)))) (aA (qe m9 rfl M4 MP (hr.mono (by decide)) (by rfl) nq wV (aj (qv 8) ak))) bB))))))),?_⟩;refine⟨_,rfl,_,rfl,b,t,as,ts,r,w,j3,y8,bi,bj,rfl,BA,ht,hL,hin,h0,h7,hl1,λT1 b1 H1 s1 hT1 hQ1=>?_⟩;generalize hW:fB j3 ts=W at hsg h20 hwl hlt hQ1;refine⟨_,rfl,by show 0<=sizeLine;decide,λZ hZ=>?_⟩;have sZ:Same H1 (upd H1 Z (HO.tup [])):=Same.upd hZ;have eZ:upd H1 Z (HO.tup []) Z=some (.tup []):=ao;have hT2:=sZ _ _ hT1;have hQ2:=hQ1.mv sZ;have yJ:=s1.trans sZ;generalize upd H1 Z (HO.tup [])=H2 at sZ eZ hT2 hQ2 yJ ⊢;refine⟨2,.tup (W.map dQ),.tup [],by decide,.tup (aK.of hT2) (dO.ofQ hQ2 hlt),.tup (aK.of eZ) .nil,_,rfl,?_⟩;have tD:=hQ2.len;cases QJ:W with
  | nil=>
   simp only[List.map_nil,decide_true];obtain⟨g0,e0⟩:=fD (hL.mv yJ) h0;have hh:gG ts=ts[0]:=mW h0;have hs0:=(hin _ (List.getElem_mem h0)).2.2;refine bw ⟨_,rfl,t,_,_,.ref as[0],rfl,rfl,aK.of (yJ _ _ ht),aB (j:=0) (by simp[g0]),as[0],_,_,_,rfl,rfl,aK.of e0,aB (j:=2) rfl,ts[0].2.2,rfl,hs0.lt,by show 1<=sizeLine;decide,λa na=>⟨a,_,rfl,ao,λdx ne nd=>⟨rfl,some dx,ao,?_⟩⟩⟩;obtain⟨k1,k2⟩:=drop_new (q:=.ext (fP a (.ref CW) (some dx))) (p:=.ext (XD dx [("word",.str (S ([ts[0].2.2].map PyProof.Rows.lo1)))])) na ne nd;refine qE _ ?_ dx _ (yJ.trans k1) k2;unfold vU;rw[if_pos (hW.trans QJ),hh]
  | cons q0 Wr=>
   have hne:¬(Dt.tup (W.map dQ)=Dt.tup []):=λz=>by rw[QJ]at z;injection z with z;cases z
   have hmw:vU j3 ws ts=(W.find? (MN ws)).map wU:=by
    unfold vU;rw[if_neg (by rw[hW,QJ];simp),hW]
   rw[<- QJ];rw[decide_eq_false hne];refine aV ⟨_,rfl,T1,rfl,⟨_,aK.of hT2⟩,rK (K:=K) (a:=T1) (xs:=b1.map V.ref) (λn σ H'=>∃v4 v5 v6 v7 v8:Option V,σ=[some (.ref b),some (.ref k),some (.ref t),some (.ref T1),v4,v5,v6,v7,v8]/\Same H2 H'/\∀x∈W.take n,MN ws x=false)
    ⟨none,none,none,none,none,rfl,Same.refl _,λx hx=>by simp at hx⟩ (λn σ H' _ h=>by obtain⟨_,_,_,_,_,_,sm,_⟩:=h;exact aK.of (sm _ _ hT2)) ?_ ?_⟩
   ·rintro n x σ H' hx ⟨v4,v5,v6,v7,v8,rfl,sm,hfr⟩
    have hn:n < b1.length:=by have:=(List.getElem?_eq_some_iff.mp hx).1;simpa using this
    have Jv:n < W.length:=by omega
    rw[List.getElem?_map,List.getElem?_eq_getElem hn]at hx;have hx:V.ref b1[n]=x:=Option.some.inj hx;subst hx;have en:=(hQ2.mv sm).at_ n _ _ (List.getElem?_eq_getElem hn) (List.getElem?_eq_getElem Jv);have hm:=List.getElem_mem Jv;have afX:=h20 _ hm;refine⟨b1[n],_,rfl,aK.of en,rfl,_,_,rfl,_,_,rfl,_,_,rfl,_,_,rfl,rfl,?_⟩;refine⟨_,rfl,rfl,W[n].2.2.2,rfl,rfl,by omega,hlt _ hm,?_⟩;have BK':=BK.mv (yJ.trans sm);obtain⟨dk,ek⟩:=BK'.ob;refine⟨_,rfl,k,dk,_,rfl,ek,rfl,_,rfl,k,d,ws,_,rfl,BK',_,rfl,?_⟩;cases hq0:MN ws W[n] with
    | true=>
     rw[show (!decide (W[n].2.2.2.map PyProof.Rows.lo1∈ws))=true from hq0];refine bw ⟨_,rfl,by show 1<=sizeLine;decide,λa na=>⟨a,_,rfl,ao,λdx ne nd=>⟨rfl,some dx,ao,?_⟩⟩⟩;obtain⟨k1,k2⟩:=drop_new (q:=.ext (fP a (.ref CW) (some dx))) (p:=.ext (XD dx [("word",.str (S (wU W[n])))])) na ne nd;refine qE _ ?_ dx _ ((yJ.trans sm).trans k1) k2;rw[hmw,G8 Jv hfr hq0];rfl
    | false=>
     rw[show (!decide (W[n].2.2.2.map PyProof.Rows.lo1∈ws))=false from hq0];refine aV ⟨_,_,_,_,_,rfl,sm,λx hx=>?_⟩;rw[List.take_add_one,List.getElem?_eq_getElem Jv]at hx;rcases List.mem_append.mp hx with z | z
     ·exact hfr x z
     ·rw[List.mem_singleton.mp z];exact hq0
   ·rintro σ H' ⟨v4,v5,v6,v7,v8,rfl,sm,hfr⟩
    rw[List.length_map,tD,List.take_length]at hfr;exact q (by rw[hmw,Bo hfr];rfl) H' (yJ.trans sm)
inductive Vd
 | ok | jz (i j:Nat) | jB | gap (i j:Nat) | jC | lY (t:Nat) | nw (l:List Nat)
inductive tK (j3:List (List Nat)) (r w bi bj:Nat) (ws:List (List Nat)) (rack:List Nat) (ts:List aY):Vd->Prop
 | jz {u:aY} (h:mX j3 ts=some u):tK j3 r w bi bj ws rack ts (.jz u.1 u.2.1)
 | jB (h1:mX j3 ts=none) (h:(j4 ts||j5 ts)=false):tK j3 r w bi bj ws rack ts .jB
 | gap {i j:Nat} (h1:mX j3 ts=none) (h2:(j4 ts||j5 ts)=true) (h:FW (bM j3 ts) (gG ts).1 (fH ts).1 (gG ts).2.1 (fH ts).2.1 i j):tK j3 r w bi bj ws rack ts (.gap i j)
 | jC (h1:mX j3 ts=none) (h2:(j4 ts||j5 ts)=true) (h3:uz (bM j3 ts) (gG ts).1 (fH ts).1 (gG ts).2.1 (fH ts).2.1) (h:qw j3 r w bi bj ts=false):tK j3 r w bi bj ws rack ts .jC
 | lY {t:Nat} (h1:mX j3 ts=none) (h2:(j4 ts||j5 ts)=true) (h3:uz (bM j3 ts) (gG ts).1 (fH ts).1 (gG ts).2.1 (fH ts).2.1) (h4:qw j3 r w bi bj ts=true) (h:vR (rack.map λc=>[c]) (ts.map (·.2.2))=.inl t):tK j3 r w bi bj ws rack ts (.lY t)
 | nw {l:List Nat} (h1:mX j3 ts=none) (h2:(j4 ts||j5 ts)=true) (h3:uz (bM j3 ts) (gG ts).1 (fH ts).1 (gG ts).2.1 (fH ts).2.1) (h4:qw j3 r w bi bj ts=true) (h5:∃left,vR (rack.map λc=>[c]) (ts.map (·.2.2))=.inr left) (h:vU j3 ws ts=some l):tK j3 r w bi bj ws rack ts (.nw l)
 | ok (h1:mX j3 ts=none) (h2:(j4 ts||j5 ts)=true) (h3:uz (bM j3 ts) (gG ts).1 (fH ts).1 (gG ts).2.1 (fH ts).2.1) (h4:qw j3 r w bi bj ts=true) (h5:∃left,vR (rack.map λc=>[c]) (ts.map (·.2.2))=.inr left) (h:vU j3 ws ts=none):tK j3 r w bi bj ws rack ts .ok
structure uD where
 lay:Addr
 jz:Addr
 jB:Addr
 gap:Addr
 jC:Addr
 lY:Addr
 nw:Addr
noncomputable def Jw (c:uD)(H:Hp)(cls:Value)(dd:Option Addr):Vd->Prop
 | .ok=>False
 | .jz i j=>cls=.ref c.jz/\∃dx,dd=some dx/\H dx=some (.ext (XD dx (Cd i j)))
 | .jB=>cls=.ref c.jB/\dd=none
 | .gap i j=>cls=.ref c.gap/\∃dx,dd=some dx/\H dx=some (.ext (XD dx (Cd i j)))
 | .jC=>cls=.ref c.jC/\dd=none
 | .lY t=>cls=.ref c.lY/\∃dx,dd=some dx/\H dx=some (.ext (XD dx [("tile",.str (S [t]))]))
 | .nw l=>cls=.ref c.nw/\∃dx,dd=some dx/\H dx=some (.ext (XD dx [("word",.str (S l))]))
theorem QK {cs:List (Nat × Nat)}(h:n6 cs=true):∀n,(hn:n+1 < cs.length)->cs[n].1*1000+cs[n].2 < cs[n+1].1*1000+cs[n+1].2:=λn hn=>by
 unfold n6 at h;rw[List.all_eq_true]at h;have:=h (cs[n],cs[n+1]) (by
  refine List.mem_of_getElem? (i:=n) ?_;rw[List.getElem?_zip_eq_some];exact⟨List.getElem?_eq_getElem (by omega),by rw[List.getElem?_drop,Nat.add_comm 1 n];exact List.getElem?_eq_getElem hn⟩)
 exact of_decide_eq_true this
theorem M5 {cs:List (Nat × Nat)}(h:n6 cs=true):∀k n,(hn:n+k+1 < cs.length)->cs[n].1*1000+cs[n].2 < cs[n+k+1].1*1000+cs[n+k+1].2
 | 0,n,hn=>QK h n hn
 | k+1,n,hn=>Nat.lt_trans (M5 h k n (by omega)) (QK h (n+k+1) hn)
theorem abD {ts:List aY}{r w:Nat}(w9:w<=9)(hin:∀t∈ts,inB r w t)(h0:0 < ts.length)(hr:n6 (ts.map dX)=true)(hs:(j4 ts||j5 ts)=true):Fz ts:=by
 have hh:=mW h0;rw[Bool.or_eq_true]at hs;rcases hs with hs | hs
 ·refine .inl ?_
  unfold j4 at hs;rw[List.all_eq_true]at hs;rw[List.pairwise_iff_getElem];intro i j hi hj _;rw[of_decide_eq_true (hs _ (List.getElem_mem hi)),of_decide_eq_true (hs _ (List.getElem_mem hj))]
 ·refine .inr ?_
  unfold j5 at hs;rw[List.all_eq_true]at hs;rw[List.pairwise_iff_getElem];intro i j hi hj hij;have e1:=of_decide_eq_true (hs _ (List.getElem_mem hi));have e2:=of_decide_eq_true (hs _ (List.getElem_mem hj));have:=M5 hr (j-i-1) i (by rw[List.length_map];omega);simp only[show i+(j-i-1)+1=j by omega,List.getElem_map]at this;have this:ts[i].1*1000+ts[i].2.1 < ts[j].1*1000+ts[j].2.1:=this;omega
theorem M6 {c:Nat}(h:lG c):Wi c:=by
 unfold lG BX BW Fw at h;simp at h;exact h
noncomputable def QM (K : W.Frag)(C CB : Addr)(c : uD) : Sp := λvs H Q E => ∃(b k d : Addr) (ws : List (List Nat)) (rack : List Nat) (x : V) (r w : Nat) (j3 y8 : List (List Nat)) (bi bj : Nat), vs = [.ref b, .ref k, .str (S rack), x] /\ eE C H b r w j3 y8 bi bj /\ qx CB H k d ws /\ rack.length <= 63 /\
  ((∃o, V9 K H x o /\ layB r w o = false /\ ∀H', Same H H' -> E (.ref c.lay) none H') \/
   (∃(t : Addr) (as : List Addr) (ts : List aY), x = .ref t /\ H t = some (.tup (as.map V.ref)) /\ cM H as ts /\ (∀t ∈ ts, inB r w t) /\ 0 < ts.length /\ ts.length <= 7 /\ n6 (ts.map dX) = true /\
     (∀v cls dd H', tK j3 r w bi bj ws rack ts v -> Jw c H' cls dd v -> Same H H' -> E cls dd H') /\ (tK j3 r w bi bj ws rack ts .ok -> ∀H', Same H H' -> Q .non H')))
theorem Ge {C CB:Addr}{c:uD}(D:aJ K mg "check_laying" lE ["board","book","rack","laying"])(uV:mg "NoLaying"=some (.ref c.lay))(S5:W.excIn K c.lay gY "ValueError.__new__"=true)
  (O9:Def P w K mg base "is_laying" 4 ["board","thing"] (V_ K C)) (M7:DefX P w K mg base "check_free" 5 ["board","laying"] (Mr C c.jz)) (Dj:DefX P w K mg base "check_straight" 3 ["laying"] (QB c.jB)) (M8:DefX P w K mg base "check_gaps" 10 ["board","laying"] (Mt C c.gap))
  (Hg:DefX P w K mg base "check_joined" 7 ["board","laying"] (Mv C c.jC)) (Wu:DefX P w K mg base "left_of" 3 ["rack","signs"] (Wk c.lY)) (J2:DefX P w K mg base "check_words" 12 ["board","book","laying"] (Ju C CB c.nw)):DefX P w K mg base "check_laying" 14 ["board","book","rack","laying"] (QM K C CB c):=by
 refine D.wC Fj (λvs H Q E h=>?_) (λf cdv A outer s H vs Q E hr h=>?_)
 ·obtain⟨b,k,d,ws,rack,x,r,w,j3,y8,bi,bj,rfl,_⟩:=h
  rfl
 ·obtain⟨b,k,d,ws,rack,x,r,w,j3,y8,bi,bj,rfl,BA,BK,h63,h⟩:=h
  refine⟨_,(au (bO (dN (cO (bF O9 (hr.mono (by decide)) rfl (aj (qv 0) (aj (qv 3) ak))))) (aA (CJ m9 rfl rfl (by rfl) uV S5 (aj (bN [110,111,32,108,97,121,105,110,103,32,102,111,114,32,116,104,105,115,32,98,111,97,114,100] (by decide +kernel)) ak))) bB) (au (dY (oR M7 (hr.mono (by decide)) rfl rP.all (aj (qv 0) (aj (qv 3) ak)))) (au (dY (oR Dj (hr.mono (by decide)) rfl rP.all (aj (qv 3) ak))) (au (dY (oR M8 (hr.mono (by decide)) rfl rP.all (aj (qv 0) (aj (qv 3) ak)))) (au (dY (oR Hg (hr.mono (by decide)) rfl rP.all (aj (qv 0) (aj (qv 3) ak)))) (au (dY (oR Wu (hr.mono (by decide)) rfl rP.all (aj (qv 2) (aj (gA PySem.F.plainAttrs_str PySem.F.slot_str_join PySem.F.type_str_join rM (bN [] (by decide +kernel)) (aj (dJ (ns:=["row","column","sign"]) rfl (dR.of ["board","book","rack","laying"] [] (by kernel_rfl)) (dF (qv 3)) (λ_ _ _ _ _=>(lB K rfl (show (["row","column","sign","board","book","rack","laying"]:List Str).Nodup by decide +kernel) rfl rfl rfl (by rfl) (by rfl) (by rfl))) (λ_ _ _ _ _=>cu) (λ_ _ _ _ _=>(qv 2))) ak)) ak)))) (aA (dY (oR J2 (hr.mono (by decide)) rfl rP.all (aj (qv 0) (aj (qv 1) (aj (qv 3) ak)))))))))))),?_⟩;rcases h with⟨o,hD,hB,qE⟩ | ⟨t,as,ts,rfl,ht,hL,hin,h0,h7,Fy,qE,q⟩
  ·refine⟨_,rfl,_,rfl,b,x,o,r,w,j3,y8,bi,bj,rfl,BA,hD,λH1 s1=>⟨_,rfl,?_⟩⟩
   rw[hB];exact bw ⟨by show 1<=sizeLine;decide,qE H1 s1⟩
  ·have hal:=hL.len
   have hB:layB r w (some (ts.map mkT))=true:=by
    unfold layB;simp only;rw[Mj,List.length_map,decide_eq_true (show 1<=ts.length/\ts.length<=7 by omega),show n6 (ts.map λt=>(t.1,t.2.1))=true from Fy,List.all_map];have:ts.all (pL r w ∘ mkT)=true:=List.all_eq_true.mpr λt ht=>YZ (hin t ht);rw[this];rfl
   refine⟨_,rfl,_,rfl,b,.ref t,some (ts.map mkT),r,w,j3,y8,bi,bj,rfl,BA,.tup ht (Dd.of_lay hL) (by rw[List.length_map];omega),λH1 s1=>⟨_,rfl,?_⟩⟩;rw[hB];refine aV ⟨True.intro,_,rfl,_,rfl,b,t,as,ts,r,w,j3,y8,bi,bj,rfl,BA.mv s1,s1 _ _ ht,hL.mv s1,hin,λu hu dx H' s' hd=>qE _ _ _ H' (.jz hu) ⟨rfl,dx,rfl,hd⟩ (s1.trans s'),λv1 H2 s2=>?_⟩;have yJ:=s1.trans s2;refine⟨True.intro,_,rfl,t,as,ts,rfl,yJ _ _ ht,hL.mv yJ,h0,h7,λe H' s'=>qE _ _ _ H' (.jB v1 e) ⟨rfl,rfl⟩ (yJ.trans s'),λv2 H3 s3=>?_⟩;have Ca:=yJ.trans s3;refine⟨True.intro,_,rfl,_,rfl,b,t,as,ts,r,w,j3,y8,bi,bj,rfl,BA.mv Ca,Ca _ _ ht,hL.mv Ca,hin,h0,λi j e dx H' s' hd=>qE _ _ _ H' (.gap v1 v2 e) ⟨rfl,dx,rfl,hd⟩ (Ca.trans s'),λv3 H4 s4=>?_⟩;have zE:=Ca.trans s4;refine⟨True.intro,_,rfl,_,rfl,b,t,as,ts,r,w,j3,y8,bi,bj,rfl,BA.mv zE,zE _ _ ht,hL.mv zE,h7,λe H' s'=>qE _ _ _ H' (.jC v1 v2 v3 e) ⟨rfl,rfl⟩ (zE.trans s'),λv4 H5 s5=>?_⟩;have s05:=zE.trans s5;have ht5:=s05 _ _ ht;refine⟨True.intro,_,rfl,rfl,_,rfl,t,rfl,⟨_,aK.of ht5⟩,λN hN=>gW (K:=K) (KT:=K) (a:=t) (f:=dB [] 0) (tt:=fJ) (xs:=as.map V.ref) (λn ys H6=>ys=Ts (ones ((ts.take n).map (·.2.2)))/\H6 N=some (.lst ys)/\Same H5 H6)
    ⟨rfl,ao,Same.upd hN⟩ (λn ys H6 _ h=>aK.of (h.2.2 _ _ ht5)) ?_ ?_⟩
   ·rintro n x ys H6 hx ⟨rfl,Jt,qu⟩
    have hn:n < as.length:=by have:=(List.getElem?_eq_some_iff.mp hx).1;simpa using this
    have hnt:n < ts.length:=by omega
    rw[List.getElem?_map,List.getElem?_eq_getElem hn]at hx;have hx:V.ref as[n]=x:=Option.some.inj hx;obtain⟨_,en⟩:=fD (hL.mv (s05.trans qu)) hnt;refine qQ hx.symm (aK.of en) ?_;refine⟨_,rfl,Jt,?_,cX.mk (by rw[List.length_map];exact hn) ⟨?_,ao,qu.bJ hN⟩⟩
    ·rw[List.length_map,List.length_map,List.length_map,List.length_take];exact aD (by omega)
    ·rw[take_snoc (List.getElem?_eq_getElem hnt)]
     simp[Ts,ones]
   ·rintro ys H6 ⟨rfl,Jt,qu⟩
    rw[List.length_map,hal,List.take_length]at Jt;have s06:=s05.trans qu;refine⟨N,ones (ts.map (·.2.2)),rfl,rfl,aN.of Jt,by rw[pK,List.length_map];omega,?_⟩;rw[pK];refine⟨rack,ts.map (·.2.2),rfl,h63,by rw[List.length_map];omega,λc hc=>?_,λtl e dx H' s' hd=>qE _ _ _ H' (.lY v1 v2 v3 v4 e) ⟨rfl,dx,rfl,hd⟩ (s06.trans s'),λleft v5 ws' H7 s7 _ _=>?_⟩
    ·obtain⟨u,hu,rfl⟩:=List.mem_map.mp hc
     exact M6 (hin u hu).2.2
    have QV:=s06.trans s7;refine⟨True.intro,_,rfl,_,rfl,_,rfl,b,k,d,t,ws,as,ts,r,w,j3,y8,bi,bj,rfl,BA.mv QV,BK.mv QV,QV _ _ ht,hL.mv QV,hin,h0,h7,abD BA.ok.w9 hin h0 Fy v2,λl e dx H' s' hd=>qE _ _ _ H' (.nw v1 v2 v3 v4 ⟨left,v5⟩ e) ⟨rfl,dx,rfl,hd⟩ (QV.trans s'),λv6 H8 s8=>?_⟩;exact q (.ok v1 v2 v3 v4 ⟨left,v5⟩ v6) H8 (QV.trans s8)
end
end My
end
section
namespace My
open PySem L2
section
variable {P:Program}{w:World}{K:W.Frag}{mg:Str->Option Value}{base:Heap}
theorem gF.mv {H H':Hp}{dd:Option Addr}(h:gF H dd)(s:Same H H'):gF H' dd:=by
 cases dd with
 | none=>trivial
 | some d=>obtain⟨o,e⟩:=h;exact⟨o,s _ _ e⟩
structure pN (K:W.Frag)(cs os:List Addr)(C:Addr)(i:Nat):Prop where
 is:pC K C
 val:W.kitOne K (.ref C) (.type "ValueError")=some true
 ix:∀j D,cs[j]?=some D->W.kitOne K (.ref C) (.ref D)=some (decide (j=i))
 no:W.kitAny K (.ref C) (os.map Value.ref)=some false
 lt:i < 7
noncomputable def bits (j:Nat):List Bool:=[decide (0=j),decide (1=j),decide (2=j),decide (3=j),decide (4=j),decide (5=j),decide (6=j)]
theorem S6:∀j,j < 7->((bits j).filter id).length=1:=by decide
theorem abE:∀j,j < 7->(bits j)[j]?=some true/\∀m,m < j->(bits j)[m]?=some false:=by
 intro j hj;have h1:∀j,j < 7->(bits j)[j]?=some true:=by decide
 have h2:∀j,j < 7->∀m,m < 7->m < j->(bits j)[m]?=some false:=by decide
 exact⟨h1 j hj,λm hm=>h2 j hj m (by omega) hm⟩
noncomputable def QX (K:W.Frag)(cs os:List Addr):Sp:=λvs H Q _=>∃(a C:Addr) (dd:Option Addr) (j:Nat),vs=[.ref a]/\H a=some (.ext (mL a (.ref C) dd))/\gF H dd/\pN K cs os C j/\∀H',Same H H'->Q (.int j) H'
theorem Y8 {bf bH bD bW bL aZ bA cF cg cG cU cH dG cI cV:Addr}(D:aJ K mg "_law_class" Bh ["_law_error"])(aU:mg "len"=none)(aQ:mg "isinstance"=none)(kI:mg "ValueError"=none)(uV:mg "NoLaying"=some (.ref bf))(Dg:mg "Taken"=some (.ref bH))(wQ:mg "Crooked"=some (.ref bD))(Mu:mg "Gap"=some (.ref bW))(Dh:mg "Apart"=some (.ref bL))(wR:mg "Lacking"=some (.ref aZ))(nq:mg "NoWord"=some (.ref bA))(Wv:mg "NoBack"=some (.ref cF))(S7:mg "NoBoard"=some (.ref cg))(Ww:mg "NoDeed"=some (.ref cG))(Y9:mg "NoRow"=some (.ref cU))(Wx:mg "NoText"=some (.ref cH))(abF:mg "Over"=some (.ref dG))(Wy:mg "TooFew"=some (.ref cI))(Y_:mg "Twice"=some (.ref cV)):Def P w K mg base "_law_class" 1 ["_law_error"] (QX K [bf,bH,bD,bW,bL,aZ,bA] [cF,cg,cG,cU,cH,dG,cI,cV]):=by
 refine D.dh wH (λvs H Q E h=>?_) (λf cdv A outer s H vs Q E hr h=>?_)
 ·obtain⟨a,C,dd,j,rfl,_⟩:=h
  rfl
 ·obtain⟨a,C,dd,j,rfl,ha,hdk,cx,q⟩:=h
  have is:=cx.is;have hj:=cx.lt;have S8:=cx.ix 0 bf rfl;have abG:=cx.ix 1 bH rfl;have Wz:=cx.ix 2 bD rfl;have ae7:=cx.ix 3 bW rfl;have abH:=cx.ix 4 bL rfl;have WD:=cx.ix 5 aZ rfl;have Za:=cx.ix 6 bA rfl;refine⟨_,(au (aM (i:=1) wH.nd rfl (Or.inl rfl) (fZ (aj (aH fO (by rfl) aQ PyProof.Rows.boot_isinstance (aj (qv 0) (aj (fj (v:=.ref _) (by rfl) uV rfl) ak))) (aj (aH fO (by rfl) aQ PyProof.Rows.boot_isinstance (aj (qv 0) (aj (fj (v:=.ref _) (by rfl) Dg rfl) ak))) (aj (aH fO (by rfl) aQ PyProof.Rows.boot_isinstance (aj (qv 0) (aj (fj (v:=.ref _) (by rfl) wQ rfl) ak))) ak))))) (au (aM (i:=1) wH.nd rfl (Or.inl rfl) (aG KC (qv 1) (fZ (aj (aH fO (by rfl) aQ PyProof.Rows.boot_isinstance (aj (qv 0) (aj (fj (v:=.ref _) (by rfl) Mu rfl) ak))) (aj (aH fO (by rfl) aQ PyProof.Rows.boot_isinstance (aj (qv 0) (aj (fj (v:=.ref _) (by rfl) Dh rfl) ak))) (aj (aH fO (by rfl) aQ PyProof.Rows.boot_isinstance (aj (qv 0) (aj (fj (v:=.ref _) (by rfl) wR rfl) ak))) ak)))))) (au (aM (i:=1) wH.nd rfl (Or.inl rfl) (aG KC (qv 1) (fZ (aj (aH fO (by rfl) aQ PyProof.Rows.boot_isinstance (aj (qv 0) (aj (fj (v:=.ref _) (by rfl) nq rfl) ak))) ak)))) (au (bO (cO (aH JK (by rfl) aQ PyProof.Rows.boot_isinstance (aj (qv 0) (aj (bR (aj (fj (v:=.ref _) (by rfl) Wv rfl) (aj (fj (v:=.ref _) (by rfl) S7 rfl) (aj (fj (v:=.ref _) (by rfl) Ww rfl) (aj (fj (v:=.ref _) (by rfl) Y9 rfl) (aj (fj (v:=.ref _) (by rfl) Wx rfl) (aj (fj (v:=.ref _) (by rfl) abF rfl) (aj (fj (v:=.ref _) (by rfl) Wy rfl) (aj (fj (v:=.ref _) (by rfl) Y_ rfl) ak))))))))) ak)))) (aA (aX (wk rY aq))) bB) (au (bO (QW.qt (pB (dN (cO (aH fO (by rfl) aQ PyProof.Rows.boot_isinstance (aj (qv 0) (aj (iw (v:=.ty "ValueError") (by rfl) kI E_ rfl) ak))))) (lR (bx lZ (aH bI (by rfl) aU PySem.boot_len (aj (dJ (ns:=["_law_one"]) rfl (dR.of ["_law_error","_law_some"] [] (by kernel_rfl)) (fG (qv 1)) (λ_ _ _ _ _=>(oO (show (["_law_one","_law_error","_law_some"]:List Str).Nodup by decide +kernel) rfl (by rfl))) (λ_ _ _ _ _=>(Bc (cO (qv 0)))) (λ_ _ _ _ _=>(qv 0))) ak)) aq (bh _))))) (aA (aX (wk rY aq))) bB) (aA (aX (gA PySem.F.plainAttrs_list PySem.F.slot_list_index PySem.F.type_list_index Vy (qv 1) (aj gw ak))))))))),?_⟩;refine⟨_,rfl,a,C,.ref bf,.ref bf,dd,_,rfl,.inl ⟨bf,rfl,rfl⟩,ha,hdk,is,S8,_,rfl,a,C,.ref bH,.ref bH,dd,_,rfl,.inl ⟨bH,rfl,rfl⟩,ha,hdk,is,abG,_,rfl,a,C,.ref bD,.ref bD,dd,_,rfl,.inl ⟨bD,rfl,rfl⟩,ha,hdk,is,Wz,by show 3<=sizeLine;decide,λM0 hM0=>?_⟩;have t0:Same H (upd H M0 (HO.lst [V.bl (decide (0=j)),V.bl (decide (1=j)),V.bl (decide (2=j))])):=Same.upd hM0;have f0:upd H M0 (HO.lst [V.bl (decide (0=j)),V.bl (decide (1=j)),V.bl (decide (2=j))]) M0=some (.lst [V.bl (decide (0=j)),V.bl (decide (1=j)),V.bl (decide (2=j))]):=ao;have s0:=t0;generalize upd H M0 (HO.lst [V.bl (decide (0=j)),V.bl (decide (1=j)),V.bl (decide (2=j))])=G0 at t0 f0 s0 ⊢;refine⟨_,rfl,_,rfl,a,C,.ref bW,.ref bW,dd,_,rfl,.inl ⟨bW,rfl,rfl⟩,(s0 _ _ ha),(gF.mv hdk s0),is,ae7,_,rfl,a,C,.ref bL,.ref bL,dd,_,rfl,.inl ⟨bL,rfl,rfl⟩,(s0 _ _ ha),(gF.mv hdk s0),is,abH,_,rfl,a,C,.ref aZ,.ref aZ,dd,_,rfl,.inl ⟨aZ,rfl,rfl⟩,(s0 _ _ ha),(gF.mv hdk s0),is,WD,by show 3<=sizeLine;decide,λM1 hM1=>?_⟩;have t1:Same G0 (upd G0 M1 (HO.lst [V.bl (decide (3=j)),V.bl (decide (4=j)),V.bl (decide (5=j))])):=Same.upd hM1;have f1:upd G0 M1 (HO.lst [V.bl (decide (3=j)),V.bl (decide (4=j)),V.bl (decide (5=j))]) M1=some (.lst [V.bl (decide (3=j)),V.bl (decide (4=j)),V.bl (decide (5=j))]):=ao;have u1:=t1 _ _ f0;have s1a:=s0.trans t1;generalize upd G0 M1 (HO.lst [V.bl (decide (3=j)),V.bl (decide (4=j)),V.bl (decide (5=j))])=G1 at t1 f1 u1 s1a ⊢;refine⟨M0,M1,_,_,rfl,rfl,u1,f1,by show 3+3<=sizeLine;decide,λL1 hL1=>?_⟩;have v1:Same G1 (upd G1 L1 (HO.lst ([V.bl (decide (0=j)),V.bl (decide (1=j)),V.bl (decide (2=j))]++[V.bl (decide (3=j)),V.bl (decide (4=j)),V.bl (decide (5=j))]))):=Same.upd hL1;have e1:upd G1 L1 (HO.lst ([V.bl (decide (0=j)),V.bl (decide (1=j)),V.bl (decide (2=j))]++[V.bl (decide (3=j)),V.bl (decide (4=j)),V.bl (decide (5=j))])) L1=some (.lst ([V.bl (decide (0=j)),V.bl (decide (1=j)),V.bl (decide (2=j))]++[V.bl (decide (3=j)),V.bl (decide (4=j)),V.bl (decide (5=j))])):=ao;have s1:=s1a.trans v1;generalize upd G1 L1 (HO.lst ([V.bl (decide (0=j)),V.bl (decide (1=j)),V.bl (decide (2=j))]++[V.bl (decide (3=j)),V.bl (decide (4=j)),V.bl (decide (5=j))]))=K1 at v1 e1 s1 ⊢;refine⟨_,rfl,_,rfl,a,C,.ref bA,.ref bA,dd,_,rfl,.inl ⟨bA,rfl,rfl⟩,(s1 _ _ ha),(gF.mv hdk s1),is,Za,by show 1<=sizeLine;decide,λM2 iI=>?_⟩;have t2:Same K1 (upd K1 M2 (HO.lst [V.bl (decide (6=j))])):=Same.upd iI;have f2:upd K1 M2 (HO.lst [V.bl (decide (6=j))]) M2=some (.lst [V.bl (decide (6=j))]):=ao;have u2:=t2 _ _ e1;have s2a:=s1.trans t2;generalize upd K1 M2 (HO.lst [V.bl (decide (6=j))])=G2 at t2 f2 u2 s2a ⊢;refine⟨L1,M2,_,_,rfl,rfl,u2,f2,by show 6+1<=sizeLine;decide,λL2 hL2=>?_⟩;have v2:Same G2 (upd G2 L2 (HO.lst (([V.bl (decide (0=j)),V.bl (decide (1=j)),V.bl (decide (2=j))]++[V.bl (decide (3=j)),V.bl (decide (4=j)),V.bl (decide (5=j))])++[V.bl (decide (6=j))]))):=Same.upd hL2;have e2:upd G2 L2 (HO.lst (([V.bl (decide (0=j)),V.bl (decide (1=j)),V.bl (decide (2=j))]++[V.bl (decide (3=j)),V.bl (decide (4=j)),V.bl (decide (5=j))])++[V.bl (decide (6=j))])) L2=some (.lst (([V.bl (decide (0=j)),V.bl (decide (1=j)),V.bl (decide (2=j))]++[V.bl (decide (3=j)),V.bl (decide (4=j)),V.bl (decide (5=j))])++[V.bl (decide (6=j))])):=ao;have s2:=s2a.trans v2;generalize upd G2 L2 (HO.lst (([V.bl (decide (0=j)),V.bl (decide (1=j)),V.bl (decide (2=j))]++[V.bl (decide (3=j)),V.bl (decide (4=j)),V.bl (decide (5=j))])++[V.bl (decide (6=j))]))=K2 at v2 e2 s2 ⊢;have eb:K2 L2=some (.lst ((bits j).map V.bl)):=e2;refine⟨_,rfl,by show 8<=sizeLine;decide,λTP hTP=>?_⟩;have v3:Same K2 (upd K2 TP (HO.tup [V.ref cF,V.ref cg,V.ref cG,V.ref cU,V.ref cH,V.ref dG,V.ref cI,V.ref cV])):=Same.upd hTP;have e3:upd K2 TP (HO.tup [V.ref cF,V.ref cg,V.ref cG,V.ref cU,V.ref cH,V.ref dG,V.ref cI,V.ref cV]) TP=some (.tup ([cF,cg,cG,cU,cH,dG,cI,cV].map V.ref)):=ao;have s3:=s2.trans v3;have eb3:=v3 _ _ eb;generalize upd K2 TP (HO.tup [V.ref cF,V.ref cg,V.ref cG,V.ref cU,V.ref cH,V.ref dG,V.ref cI,V.ref cV])=K3 at v3 e3 s3 eb3 ⊢;refine⟨a,C,TP,_,dd,false,rfl,s3 _ _ ha,gF.mv hdk s3,is,e3,cx.no,_,rfl,aV ?_⟩;refine⟨_,rfl,a,C,.ty "ValueError",.type "ValueError",dd,true,rfl,.inr ⟨_,rfl,rfl⟩,s3 _ _ ha,gF.mv hdk s3,is,cx.val,_,rfl,aV ?_⟩;refine⟨_,rfl,L2,rfl,⟨_,aN.of eb3⟩,λN hN=>uQ (K:=K) (a:=L2) (f:=dB [] 0) (tt:=tB (gU 0)) (te:=gU 0) (xs:=(bits j).map V.bl) (λn ys H5=>ys=(((bits j).take n).filter id).map V.bl/\H5 N=some (.lst ys)/\Same K3 H5)
   ⟨rfl,ao,Same.upd hN⟩ (λn ys H5 _ h=>aN.of (h.2.2 _ _ eb3)) ?_ ?_⟩
  ·rintro n x ys H5 hx ⟨rfl,nZ,ig⟩
   have hn:n < ((bits j).map V.bl).length:=(List.getElem?_eq_some_iff.mp hx).1;rw[List.getElem?_map]at hx;obtain⟨b,hb,rfl⟩:=Option.map_eq_some_iff.mp hx;have hn7:n < 7:=hn;refine⟨_,rfl,_,rfl,?_⟩;have et:(((bits j).take (n+1)).filter id).map V.bl=(((bits j).take n).filter id).map V.bl++([b].filter id).map V.bl:=by rw[List.take_add_one,hb,List.filter_append,List.map_append];rfl
   cases b with
   | true=>
    refine bw ⟨_,rfl,nZ,?_,cX.mk hn ⟨et.symm,ao,ig.bJ hN⟩⟩;rw[List.length_map];exact aD (Nat.le_trans (List.length_filter_le _ _) (by rw[List.length_take];omega))
   | false=>
    refine aV (cX.mk hn ⟨?_,nZ,ig⟩);rw[et];simp
  ·rintro ys H5 ⟨rfl,nZ,ig⟩
   rw[List.length_map,List.take_length]at nZ;refine⟨N,_,rfl,.inl (aN.of nZ),rfl,_,rfl,?_⟩;rw[List.length_map];obtain⟨b1,b2⟩:=abE j hj;refine Ba (by rw[S6 j hj];rfl) ?_;have eb5:=ig _ _ eb3;exact⟨_,rfl,.inl ⟨rfl,_,aN.of eb5⟩,L2,bits j,j,rfl,rfl,eb5,b1,b2,by show 7<=1000;decide,q _ (s3.trans ig)⟩
theorem Jw.Ji {c:uD}{H H':Hp}{cls:Value}{dd:Option Addr}{v:Vd}(h:Jw c H cls dd v)(s:Same H H'):Jw c H' cls dd v:=by
 cases v with
 | ok=>exact h
 | jz i j=>exact⟨h.1,let ⟨dx,e,k⟩:=h.2;⟨dx,e,s _ _ k⟩⟩
 | jB=>exact h
 | gap i j=>exact⟨h.1,let ⟨dx,e,k⟩:=h.2;⟨dx,e,s _ _ k⟩⟩
 | jC=>exact h
 | lY t=>exact⟨h.1,let ⟨dx,e,k⟩:=h.2;⟨dx,e,s _ _ k⟩⟩
 | nw l=>exact⟨h.1,let ⟨dx,e,k⟩:=h.2;⟨dx,e,s _ _ k⟩⟩
structure VdM (K:W.Frag)(c:uD)(CR:Addr):Prop where
 lay:W.exmOne K (.ref c.lay) (.ref CR)=some true
 jz:W.exmOne K (.ref c.jz) (.ref CR)=some true
 jB:W.exmOne K (.ref c.jB) (.ref CR)=some true
 gap:W.exmOne K (.ref c.gap) (.ref CR)=some true
 jC:W.exmOne K (.ref c.jC) (.ref CR)=some true
 lY:W.exmOne K (.ref c.lY) (.ref CR)=some true
 nw:W.exmOne K (.ref c.nw) (.ref CR)=some true
theorem Jw.match_ {c:uD}{CR:Addr}(M:VdM K c CR){H:Hp}{cls:Value}{dd:Option Addr}{v:Vd}(h:Jw c H cls dd v):W.exmOne K cls (.ref CR)=some true:=by
 cases v with
 | ok=>exact h.elim
 | jz i j=>rw[h.1];exact M.jz
 | jB=>rw[h.1];exact M.jB
 | gap i j=>rw[h.1];exact M.gap
 | jC=>rw[h.1];exact M.jC
 | lY t=>rw[h.1];exact M.lY
 | nw l=>rw[h.1];exact M.nw
noncomputable def M9 (K : W.Frag)(C CB : Addr)(c : uD) : Sp := λvs H Q _ => ∃(b k d : Addr) (ws : List (List Nat)) (rack : List Nat) (x : V) (r w : Nat) (j3 y8 : List (List Nat)) (bi bj : Nat), vs = [.ref b, .ref k, .str (S rack), x] /\ eE C H b r w j3 y8 bi bj /\ qx CB H k d ws /\ rack.length <= 63 /\
  ((∃o, V9 K H x o /\ layB r w o = false /\ ∀(a : Addr) (H' : Hp), Same H H' -> H' a = some (.ext (mL a (.ref c.lay) none)) -> Q (.ref a) H') \/
   (∃(t : Addr) (as : List Addr) (ts : List aY), x = .ref t /\ H t = some (.tup (as.map V.ref)) /\ cM H as ts /\ (∀t ∈ ts, inB r w t) /\ 0 < ts.length /\ ts.length <= 7 /\ n6 (ts.map dX) = true /\
     (∀v cls dd a H', tK j3 r w bi bj ws rack ts v -> Jw c H' cls dd v -> Same H H' -> H' a = some (.ext (mL a cls dd)) -> Q (.ref a) H') /\ (tK j3 r w bi bj ws rack ts .ok -> ∀H', Same H H' -> Q .non H')))
theorem WK {C CB CR:Addr}{c:uD}(D:aJ K mg "_law_caught" wI ["_law_board","_law_book","_law_rack","_law_laying"])(fU:mg "RackError"=some (.ref CR))(M:VdM K c CR)(Hh:DefX P w K mg base "check_laying" 14 ["board","book","rack","laying"] (QM K C CB c)) :
  Def P w K mg base "_law_caught" 16 ["_law_board","_law_book","_law_rack","_law_laying"] (M9 K C CB c):=by
 refine D.dh ql (λvs H Q E h=>?_) (λf cdv A outer s H vs Q E hr h=>?_)
 ·obtain⟨b,k,d,ws,rack,x,r,w,j3,y8,bi,bj,rfl,_⟩:=h
  rfl
 ·obtain⟨b,k,d,ws,rack,x,r,w,j3,y8,bi,bj,rfl,BA,BK,h63,h⟩:=h
  refine⟨_,(au (aM (i:=4) ql.nd rfl (Or.inl rfl) Ve) (au (adI rfl rfl (by rfl) fU ql.nd (i:=5) rfl (by rfl) (λpn xe E0 σ0 hp hx=>(aA (aM (i:=4) ql.nd rfl (Or.inl rfl) (oR Hh (hr.mono (by decide)) rfl hx (aj (qv 0) (aj (qv 1) (aj (qv 2) (aj (qv 3) ak)))))))) (λ_=>(aA (aM (i:=4) ql.nd rfl (Or.inl rfl) (qv 5))))) (aA (aX (qv 4))))),?_⟩;rcases h with⟨o,hD,hB,q⟩ | ⟨t,as,ts,rfl,ht,hL,hin,h0,h7,Fy,qE,q⟩
  ·refine⟨λcls dd H'=>cls=.ref c.lay/\dd=none/\Same H H',?_,?_⟩
   ·exact⟨rfl,_,rfl,_,rfl,_,rfl,_,rfl,b,k,d,ws,rack,x,r,w,j3,y8,bi,bj,rfl,BA,BK,h63,.inl ⟨o,hD,hB,λH' s'=>⟨rfl,rfl,s'⟩⟩⟩
   ·rintro a cls dd H' ⟨rfl,rfl,s3⟩ na
    exact⟨M.lay,_,rfl,_,rfl,q a _ (s3.trans (Same.upd na)) ao⟩
  ·refine⟨λcls dd H'=>∃v,tK j3 r w bi bj ws rack ts v/\Jw c H' cls dd v/\Same H H',?_,?_⟩
   ·refine⟨rfl,_,rfl,_,rfl,_,rfl,_,rfl,b,k,d,ws,rack,.ref t,r,w,j3,y8,bi,bj,rfl,BA,BK,h63,.inr ⟨t,as,ts,rfl,ht,hL,hin,h0,h7,Fy,λv cls dd H' h1 h2 h3=>⟨v,h1,h2,h3⟩,λh1 H' s'=>?_⟩⟩
    exact⟨_,rfl,q h1 H' s'⟩
   ·rintro a cls dd H' ⟨v,h1,h2,s3⟩ na
    exact⟨h2.match_ M,_,rfl,_,rfl,qE v cls dd a _ h1 (h2.Ji (Same.upd na)) (s3.trans (Same.upd na)) ao⟩
end
end My
end
section
namespace My
open PySem L2
section
variable {P:Program}{w:World}{K:W.Frag}{mg:Str->Option Value}{base:Heap}
noncomputable def rR (i j:Int):List (Int × Int):=[(i-1,j),(i,j-1),(i,j+1),(i+1,j)]
theorem abI (j3:List (List Nat))(r w:Nat)(i j:Int):(rR i j).any (ux j3 r w)=gZ j3 r w i j:=by
 unfold gZ rR around;simp only[List.any_cons,List.any_nil,Bool.or_false];cases ux j3 r w (i-1,j) <;> cases ux j3 r w (i,j-1) <;> cases ux j3 r w (i,j+1) <;> cases ux j3 r w (i+1,j) <;> rfl
noncomputable def Hi:Sp:=λvs H Q _=>∃(p:Addr) (j3:List (List Nat)) (r w:Nat) (i j:Int),vs=[.ref p,.int i,.int j]/\H p=some (.tup (Ts j3))/\Blk r w j3/\1<=r/\r<=9/\w<=9/\∀(H':Hp),Same H H'->Q (.bl (gZ j3 r w i j)) H'
theorem Bp {j3:List (List Nat)}{r w:Nat}{u v:Int}(h:¬(0<=u/\u < (r:Int)/\0<=v/\v < (w:Int))):ux j3 r w (u,v)=false:=by
 unfold ux atC;simp only;rw[if_neg h];rfl
theorem O_ (D:aJ K mg "_law_is_near" qg ["_law_rows_here","_law_row","_law_column"])(aU:mg "len"=none):Def P w K mg base "_law_is_near" 1 ["_law_rows_here","_law_row","_law_column"] Hi:=by
 refine D.dh rm (λvs H Q E h=>?_) (λf cdv A outer s H vs Q E hr h=>?_)
 ·obtain⟨p,j3,r,w,i,j,rfl,_⟩:=h
  rfl
 ·obtain⟨pr,j3,r,w,i,j,rfl,hp0,hb,r1,r9,w9,q⟩:=h
  refine⟨_,(au (dM PassesOwn.never rfl (fG (fZ (aj (bR (aj (aG fX (qv 1) aq) (aj (qv 2) ak))) (aj (bR (aj (qv 1) (aj (aG fX (qv 2) aq) ak))) (aj (bR (aj (qv 1) (aj (aG b_ (qv 2) aq) ak))) (aj (bR (aj (aG b_ (qv 1) aq) (aj (qv 2) ak))) ak)))))) (bK (i:=3) rm.nd rfl (Or.inl rfl)) (aA (bO (QW.qt (iB (mJ jl jG aq (aL aO (qv 3) aq (λ_ _=>rfl)) (aH bI (by rfl) aU PySem.boot_len (aj (qv 0) ak))) (iB (mJ jl jG aq (aL aO (qv 3) aq (λ_ _=>rfl)) (aH bY (by rfl) aU PySem.boot_len (aj (aL aO (qv 0) aq (λ_ _=>rfl)) ak))) (jW (bx nH (aL sE (aL aO (qv 0) (aL aO (qv 3) aq (λ_ _=>rfl)) (λ_ _=>rfl)) (aL aO (qv 3) aq (λ_ _=>rfl)) (λ_ _=>rfl)) (bN [46] (by decide +kernel)) (bh _)))))) (aA (aX gw)) bB))) (aA (aX gw))),?_⟩;refine⟨_,rfl,_,_,rfl,rfl,_,rfl,by show 2<=sizeLine;decide,λt1 h1=>⟨_,rfl,_,rfl,_,_,rfl,rfl,by show 2<=sizeLine;decide,λt2 h2=>⟨_,rfl,_,rfl,_,_,rfl,rfl,by show 2<=sizeLine;decide,λt3 h3=>⟨_,rfl,_,_,rfl,rfl,_,rfl,by show 2<=sizeLine;decide,λt4 h4=>⟨by show 4<=sizeLine;decide,λT hT=>?_⟩⟩⟩⟩⟩;have s1:Same H (upd H t1 (HO.tup [.int (i-1),.int j])):=Same.upd h1;have s2:=s1.bJ (o:=HO.tup [.int i,.int (j-1)]) (s1.free h2);have s3:=s2.bJ (o:=HO.tup [.int i,.int (j+1)]) (s2.free h3);have s4:=s3.bJ (o:=HO.tup [.int (i+1),.int j]) (s3.free h4);have s5:=s4.bJ (o:=HO.lst [.ref t1,.ref t2,.ref t3,.ref t4]) (s4.free hT);have k5:Same _ _:=Same.upd (o:=HO.lst [.ref t1,.ref t2,.ref t3,.ref t4]) hT;have k4:Same _ _:=Same.upd (o:=HO.tup [.int (i+1),.int j]) h4;have k3:Same _ _:=Same.upd (o:=HO.tup [.int i,.int (j+1)]) h3;have k2:Same _ _:=Same.upd (o:=HO.tup [.int i,.int (j-1)]) h2;have e1:=k5 _ _ (k4 _ _ (k3 _ _ (k2 _ _ (ao (H:=H) (a:=t1) (o:=HO.tup [.int (i-1),.int j])))));have e2:=k5 _ _ (k4 _ _ (k3 _ _ (ao (a:=t2) (o:=HO.tup [.int i,.int (j-1)]))));have e3:=k5 _ _ (k4 _ _ (ao (a:=t3) (o:=HO.tup [.int i,.int (j+1)])));have e4:=k5 _ _ (ao (a:=t4) (o:=HO.tup [.int (i+1),.int j]));have e5:upd (upd (upd (upd (upd H t1 (HO.tup [.int (i-1),.int j])) t2 (HO.tup [.int i,.int (j-1)])) t3 (HO.tup [.int i,.int (j+1)])) t4 (HO.tup [.int (i+1),.int j])) T (HO.lst [.ref t1,.ref t2,.ref t3,.ref t4]) T=some (.lst ([t1,t2,t3,t4].map V.ref)):=ao;generalize upd (upd (upd (upd (upd H t1 (HO.tup [.int (i-1),.int j])) t2 (HO.tup [.int i,.int (j-1)])) t3 (HO.tup [.int i,.int (j+1)])) t4 (HO.tup [.int (i+1),.int j])) T (HO.lst [.ref t1,.ref t2,.ref t3,.ref t4])=H5 at s5 e1 e2 e3 e4 e5 ⊢;have il5:IL2 H5 [t1,t2,t3,t4] (rR i j):=((cY.one (x:=(i-1,j)) e1).app (cY.one (x:=(i,j-1)) e2)).app ((cY.one (x:=(i,j+1)) e3).app (cY.one (x:=(i+1,j)) e4));have hp:=aK.of (K:=K) (s5 _ _ hp0);have gR:(Ts j3).length=r:=by rw[List.length_map,hb.len]
  have h0:0 < j3.length:=by rw[hb.len];omega
  have hw0:j3[0].length=w:=hb.gJ _ (List.getElem_mem _);rw[<- abI]at q;refine⟨T,rfl,⟨_,aN.of e5⟩,mH (K:=K) (a:=T) (xs:=[t1,t2,t3,t4].map V.ref) (λn σ H6=>H6=H5/\∃v3:Option V,σ=[some (.ref pr),some (.int i),some (.int j),v3]/\∀p∈(rR i j).take n,ux j3 r w p=false)
   ⟨rfl,none,rfl,λp hp=>by simp at hp⟩ (λn σ H6 _ h=>by rw[h.1];exact aN.of e5) ?_ ?_⟩
  ·rintro n x σ H6 hx ⟨rfl,v3,rfl,hfr⟩
   have hn:n < [t1,t2,t3,t4].length:=by have:=(List.getElem?_eq_some_iff.mp hx).1;simpa using this
   rw[List.getElem?_map,List.getElem?_eq_getElem hn]at hx;have hx:V.ref [t1,t2,t3,t4][n]=x:=Option.some.inj hx;subst hx;obtain⟨⟨u,v⟩,eu,ht⟩:=il5.get hn;generalize [t1,t2,t3,t4][n]=t at ht ⊢;have hS:=aK.of (K:=K) ht;have nx:ux j3 r w (u,v)=false->H6=H6/\∃v3:Option V,([some (.ref pr),some (.int i),some (.int j),some (.ref t)]:St)=[some (.ref pr),some (.int i),some (.int j),v3]/\∀p∈(rR i j).take (n+1),ux j3 r w p=false:=λz=>⟨rfl,_,rfl,λp hp=>by
    rw[List.take_add_one,eu]at hp;rcases List.mem_append.mp hp with y | y
    ·exact hfr p y
    ·rw[List.mem_singleton.mp y];exact z⟩
   refine⟨_,rfl,t,_,_,_,rfl,rfl,hS,aB (j:=0) rfl,_,_,rfl,rfl,_,rfl,?_⟩;by_cases c1:0<=u
   ·rw[decide_eq_true c1]
    refine bw ⟨_,rfl,pr,_,rfl,.inr hp,_,_,rfl,rfl,_,rfl,?_⟩;rw[gR];by_cases c2:u < (r:Int)
    ·rw[decide_eq_true c2]
     refine bw ⟨_,rfl,t,_,_,_,rfl,rfl,hS,aB (j:=1) rfl,_,_,rfl,rfl,_,rfl,?_⟩;by_cases c3:0<=v
     ·rw[decide_eq_true c3]
      refine bw ⟨_,rfl,pr,_,_,.str (S j3[0]),rfl,rfl,hp,aB (j:=0) (d_ (by simp[h0])),_,rfl,Nat.le_of_lt (aD (by omega)),_,_,rfl,rfl,_,rfl,?_⟩;rw[hw0];by_cases c4:v < (w:Int)
      ·rw[decide_eq_true c4]
       obtain⟨u,rfl⟩:∃k:Nat,u=k:=⟨u.toNat,by omega⟩
       obtain⟨v,rfl⟩:∃k:Nat,v=k:=⟨v.toNat,by omega⟩
       have hi:u < j3.length:=by rw[hb.len];omega
       have hgi:j3[u]?=some (j3.getD u []):=by rw[List.getD_eq_getElem?_getD,List.getElem?_eq_getElem hi];rfl
       have hw:(j3.getD u []).length=w:=hb.gJ _ (List.mem_of_getElem? hgi);have VL:(j3.getD u [])[v]?=some ((j3.getD u []).getD v 0):=by rw[List.getD_eq_getElem?_getD (l:=j3.getD u []),List.getElem?_eq_getElem (by omega)];rfl
       have hat:atC j3 r w (u:Int) (v:Int)=(j3.getD u []).getD v 0:=Df (by omega) (by omega);refine bw ⟨_,rfl,_,rfl,t,_,_,_,rfl,rfl,hS,aB (j:=0) rfl,pr,_,_,_,rfl,rfl,hp,aB (d_ hgi),_,rfl,t,_,_,_,rfl,rfl,hS,aB (j:=1) rfl,_,_,_,rfl,rfl,Nat.le_of_lt (aD (by omega)),aB VL,_,_,rfl,rfl,_,rfl,?_⟩;rw[<- hat];cases ht0:ux j3 r w ((u:Int),(v:Int)) with
       | true=>
        rw[show (!decide ([atC j3 r w (u:Int) (v:Int)]=[46]))=true from ht0];have hq:=q H6 s5;rw[List.any_eq_true.mpr ⟨_,List.mem_of_getElem? eu,ht0⟩]at hq;exact bw hq
       | false=>
        rw[show (!decide ([atC j3 r w (u:Int) (v:Int)]=[46]))=false from ht0];exact aV (nx ht0)
      ·rw[decide_eq_false c4]
       exact aV (aV (nx (Bp λz=>c4 z.2.2.2)))
     ·rw[decide_eq_false c3]
      exact aV ⟨_,rfl,aV (aV (nx (Bp λz=>c3 z.2.2.1)))⟩
    ·rw[decide_eq_false c2]
     exact aV (aV (nx (Bp λz=>c2 z.2.1)))
   ·rw[decide_eq_false c1]
    exact aV ⟨_,rfl,aV (aV (nx (Bp λz=>c1 z.1)))⟩
  ·rintro σ H6 ⟨rfl,v3,rfl,hfr⟩
   have hq:=q H6 s5;have:(rR i j).any (ux j3 r w)=false:=by
    rw[List.any_eq_false];intro p hp;rw[hfr p (by rw[List.take_of_length_le (by show 4<=4;decide)];exact hp)];decide
   rw[this]at hq;exact hq
theorem Zb {r w:Nat}{R:List (List Nat)}(hb:Blk r w R){a b z i j:Nat}(ha:a < r)(hbw:b < w)(hi:i < r)(hj:j < w):cell (setAt R a b z) i j=if i=a/\j=b then z else cell R i j:=by
 have la:a < R.length:=by rw[hb.len];exact ha
 have li:i < R.length:=by rw[hb.len];exact hi
 have ga:R.getD a []=R[a]:=by rw[List.getD_eq_getElem?_getD,List.getElem?_eq_getElem la];rfl
 have gi:R.getD i []=R[i]:=by rw[List.getD_eq_getElem?_getD,List.getElem?_eq_getElem li];rfl
 have wa:R[a].length=w:=hb.gJ _ (List.getElem_mem _);unfold cell setAt;rw[List.getD_eq_getElem?_getD (l:=R.set a _)];by_cases e:i=a
 ·subst e
  rw[List.getElem?_set_self li,ga];show (R[i].set b z).getD j 0=_;rw[List.getD_eq_getElem?_getD];by_cases e2:j=b
  ·subst e2
   rw[List.getElem?_set_self (by omega),if_pos ⟨rfl,rfl⟩];rfl
  ·rw[List.getElem?_set_ne (λz=>e2 z.symm),if_neg (λz=>e2 z.2),List.getD_eq_getElem?_getD]
 ·rw[List.getElem?_set_ne (λz=>e z.symm),if_neg (λz=>e z.1),<- List.getD_eq_getElem?_getD]
theorem Jx {r w i j:Nat}(hi:i < r)(hj:j < w):∀{ts:List aY} {R:List (List Nat)},Blk r w R->(∀t∈ts,inB r w t)->((i,j)∉ts.map dX->cell (bM R ts) i j=cell R i j)/\((i,j)∈ts.map dX->lG (cell (bM R ts) i j))
 | [],R,_,_=>⟨λ_=>rfl,λh=>by simp at h⟩
 | t::ts,R,hb,hin=>by
  obtain⟨t1,t2,t3⟩:=hin t List.mem_cons_self;have hb2:=GZ hb t1 (j:=t.2.1) (z:=t.2.2);obtain⟨k1,k2⟩:=Jx hi hj (ts:=ts) hb2 λu hu=>hin u (List.mem_cons_of_mem _ hu);have e:bM R (t::ts)=bM (setAt R t.1 t.2.1 t.2.2) ts:=rfl;rw[e];have hc:=Zb hb t1 t2 hi hj (z:=t.2.2);constructor
  ·intro h
   rw[List.map_cons,List.mem_cons,not_or]at h;rw[k1 h.2,hc,if_neg];intro z;exact h.1 (by show (i,j)=(t.1,t.2.1);rw[z.1,z.2])
  ·intro h
   by_cases hm:(i,j)∈ts.map dX
   ·exact k2 hm
   ·rw[k1 hm,hc]
    rw[List.map_cons,List.mem_cons]at h;rcases h with z | z
    ·have z:(i,j)=(t.1,t.2.1):=z
     injection z with z1 z2;rw[if_pos ⟨z1,z2⟩];exact t3
    ·exact absurd z hm
theorem WL {r w i j:Nat}(hi:i < r)(hj:j < w){ts:List aY}{R:List (List Nat)}(hb:Blk r w R)(hin:∀t∈ts,inB r w t):cell (bM R ts) i j=46↔cell R i j=46/\(i,j)∉ts.map dX:=by
 obtain⟨k1,k2⟩:=Jx hi hj hb hin;constructor
 ·intro h
  by_cases hm:(i,j)∈ts.map dX
  ·have:=k2 hm
   rw[h]at this;cases this
  ·exact⟨(k1 hm).symm.trans h,hm⟩
 ·intro h
  rw[k1 h.2];exact h.1
end
end My
end
section
namespace My
open PySem L2
section
variable {P:Program}{w:World}{K:W.Frag}{mg:Str->Option Value}{base:Heap}
noncomputable def M_ (j3:List (List Nat))(r w bi bj:Nat)(cc:List (Nat × Nat)):Bool:=if isFree j3=true then decide ((bi,bj)∈cc) else cc.any λc=>gZ j3 r w c.1 c.2
theorem ad6 (j3:List (List Nat))(r w bi bj:Nat)(ts:List aY):M_ j3 r w bi bj (ts.map dX)=qw j3 r w bi bj ts:=by
 unfold M_ qw;rw[List.any_map];rfl
noncomputable def jR (l:List Nat):Bool:=!decide (l=(List.replicate l.length [46]).flatten)
theorem Zc (n:Nat):(List.replicate n [46]).flatten=List.replicate n 46:=by
 induction n with
 | zero=>rfl
 | succ n ih=>rw[List.replicate_succ,List.flatten_cons,ih,List.replicate_succ];rfl
theorem Nb {l:List Nat}:jR l=false↔∀c∈l,c=46:=by
 unfold jR;rw[Zc];constructor
 ·intro h
  have:l=List.replicate l.length 46:=by simpa using h
  exact(List.eq_replicate_iff.mp this).2
 ·intro h
  have:l=List.replicate l.length 46:=List.eq_replicate_iff.mpr ⟨rfl,h⟩;rw[decide_eq_true this];rfl
theorem Nf {j3:List (List Nat)}:isFree j3=true↔j3.filter jR=[]:=by
 unfold isFree;rw[List.all_eq_true,List.filter_eq_nil_iff];constructor
 ·intro h l hl
  have:jR l=false:=Nb.mpr λc hc=>by
   have:=of_decide_eq_true (h c (List.mem_flatten.mpr ⟨l,hl,hc⟩));injection this
  rw[this];decide
 ·intro h c hc
  obtain⟨l,hl,hcl⟩:=List.mem_flatten.mp hc;have:jR l=false:=by
   cases e:jR l with
   | false=>rfl
   | true=>exact absurd e (h l hl)
  rw[Nb.mp this c hcl];rfl
theorem dO.aax {H:Hp}:∀{ls:List (List Nat)},(∀l∈ls,∀c∈l,c < 128)->dO K H 1 (ls.map Dt.str) (Ts ls)
 | [],_=>.nil
 | l::ls,h=>.cons (.str l (h l List.mem_cons_self)) (dO.aax λl' hl'=>h l' (List.mem_cons_of_mem _ hl'))
noncomputable def Ng:Sp:=λvs H Q _=>∃(pr pb Lc:Addr) (j3:List (List Nat)) (r w bi bj:Nat) (cs:List Addr) (cc:List (Nat × Nat)),vs=[.ref pr,.ref pb,.ref Lc]/\H pr=some (.tup (Ts j3))/\Blk r w j3/\1<=r/\r<=9/\1<=w/\w<=9/\(∀l∈j3,∀c∈l,uh c)/\H pb=some (.tup [.int bi,.int bj])/\H Lc=some (.lst (cs.map V.ref))/\Mi H cs cc/\cc.length<=7/\
 ∀H',Same H H'->Q (.bl (M_ j3 r w bi bj cc)) H'
open Classical in
theorem WM (D:aJ K mg "_law_joined" wG ["_law_rows_here","_law_begin","_law_cells"])(aU:mg "len"=none)(zx:Def P w K mg base "_law_is_near" 1 ["_law_rows_here","_law_row","_law_column"] Hi):Def P w K mg base "_law_joined" 2 ["_law_rows_here","_law_begin","_law_cells"] Ng:=by
 refine D.dh VD (λvs H Q E h=>?_) (λf cdv A outer s H vs Q E hr h=>?_)
 ·obtain⟨pr,pb,Lc,j3,r,w,bi,bj,cs,cc,rfl,_⟩:=h
  rfl
 ·obtain⟨pr,pb,Lc,j3,r,w,bi,bj,cs,cc,rfl,hpr,hb,r1,r9,w1,w9,Nh,hpb,hLc,hcs,h7,q⟩:=h
  have gR:(Ts j3).length=r:=by rw[List.length_map,hb.len]
  have hcl:=hcs.len;refine⟨_,(au (bO (bx (Ew hr.units) (dJ (ns:=["_law_text"]) rfl (dR.of ["_law_rows_here","_law_begin","_law_cells"] [] (by kernel_rfl)) (dF (qv 0)) (λ_ _ _ _ _=>(oO (show (["_law_text","_law_rows_here","_law_begin","_law_cells"]:List Str).Nodup by decide +kernel) rfl (by rfl))) (λ_ _ _ _ _=>(Bc (bx nH (qv 0) (aG PX (bN [46] (by decide +kernel)) (aH bY (by rfl) aU PySem.boot_len (aj (qv 0) ak))) (bh _)))) (λ_ _ _ _ _=>(qv 0))) (fZ ak) (bh _)) (aA (aX (eY (Qi hr.units) (qv 1) (qv 2) rfl))) bB) (aA (aX (eY (Vi hr.units) (dJ (ns:=["_law_cell"]) rfl (dR.of ["_law_rows_here","_law_begin","_law_cells"] [] (by kernel_rfl)) (fG (qv 2)) (λ_ _ _ _ _=>(oO (show (["_law_cell","_law_rows_here","_law_begin","_law_cells"]:List Str).Nodup by decide +kernel) rfl (by rfl))) (λ_ _ _ _ _=>(Bc (cO (bF zx (hr.mono (by decide)) rfl (aj (qv 1) (aj (aL (jw K) (qv 0) aq (λ_ _=>rfl)) (aj (aL (jw K) (qv 0) aq (λ_ _=>rfl)) ak))))))) (λ_ _ _ _ _=>(qv 0))) (fZ ak) (bh _))))),?_⟩;refine⟨_,rfl,pr,rfl,⟨_,aK.of hpr⟩,λN hN=>qP (K:=K) (a:=pr) (f:=dB [] 0) (tt:=Ay (pR ade (gU 0) (pR aai (tC (V.str (S [46]))) (Kr Rr (k_ (gU 0) oH))))) (te:=gU 0) (xs:=Ts j3) (λn ys H2=>ys=Ts ((j3.take n).filter jR)/\H2 N=some (.lst ys)/\Same H H2)
   ⟨rfl,ao,Same.upd hN⟩ (λn ys H2 _ h=>aK.of (h.2.2 _ _ hpr)) ?_ ?_⟩
  ·rintro n x ys H2 hx ⟨rfl,WQ,sm⟩
   obtain⟨l,hl,rfl⟩:=sY hx;have hn:n < (Ts j3).length:=(List.getElem?_eq_some_iff.mp hx).1;have tu:l.length=w:=hb.gJ _ (List.mem_of_getElem? hl);refine⟨_,rfl,_,rfl,l,rfl,Nat.le_of_lt (aD (by omega)),[46],l.length,rfl,rfl,by omega,by omega,by decide,l,_,rfl,rfl,_,rfl,?_⟩;have et:(j3.take (n+1)).filter jR=(j3.take n).filter jR++[l].filter jR:=by rw[List.take_add_one,hl,List.filter_append];rfl
   cases hf:jR l with
   | true=>
    rw[show (!decide (l=(List.replicate l.length [46]).flatten))=true from hf];refine bw ⟨_,rfl,WQ,?_,cX.mk hn ⟨?_,ao,sm.bJ hN⟩⟩
    ·rw[List.length_map]
     exact aD (Nat.le_trans (List.length_filter_le _ _) (by rw[List.length_take];omega))
    ·rw[et,oW];simp[hf]
   | false=>
    rw[show (!decide (l=(List.replicate l.length [46]).flatten))=false from hf];refine aV (cX.mk hn ⟨?_,WQ,sm⟩);rw[et];simp[hf]
  ·rintro ys H2 ⟨rfl,WQ,sm⟩
   rw[List.length_map,List.take_length]at WQ;refine⟨by show 0<=sizeLine;decide,λZ hZ=>?_⟩;have sZ:Same H2 (upd H2 Z (HO.lst [])):=Same.upd hZ;have eZ:upd H2 Z (HO.lst []) Z=some (.lst []):=ao;have i_:=sZ _ _ WQ;have s3:=sm.trans sZ;generalize upd H2 Z (HO.lst [])=H3 at sZ eZ i_ s3 ⊢;have afK:∀l∈j3.filter jR,∀c∈l,c < 128:=λl hl c hc=>by
    rcases Nh l (List.mem_filter.mp hl).1 c hc with e | e
    ·omega
    ·exact e.lt
   refine⟨2,.lst ((j3.filter jR).map Dt.str),.lst [],by decide,.lst (aN.of i_) (dO.aax afK),.lst (aN.of eZ) .nil,_,rfl,?_⟩;simp only[Bool.false_eq_true,if_false];by_cases hf:isFree j3=true
   ·have he:Dt.lst ((j3.filter jR).map Dt.str)=Dt.lst []:=by rw[Nf.mp hf];rfl
    rw[decide_eq_true he];refine bw ⟨_,rfl,_,rfl,2,.tup [.int bi,.int bj],cc.map λc=>Dt.tup [.int c.1,.int c.2],by decide,.tup (aK.of (s3 _ _ hpb)) (.cons (.int _) (.cons (.int _) .nil)),.lst (aN.of (s3 _ _ hLc)) (dO.Wf (hcs.mv s3)),?_⟩;have hq:=q H3 s3;have e:M_ j3 r w bi bj cc=decide ((bi,bj)∈cc):=by unfold M_;rw[if_pos hf]
    rw[e]at hq;simp only[Bool.false_eq_true,if_false];by_cases hm:(bi,bj)∈cc
    ·rw[decide_eq_true hm]at hq
     rw[decide_eq_true (vP (c:=(bi,bj)).mpr hm)];exact hq
    ·rw[decide_eq_false hm]at hq
     rw[decide_eq_false (λz=>hm (vP (c:=(bi,bj)).mp z))];exact hq
   ·have he:¬Dt.lst ((j3.filter jR).map Dt.str)=Dt.lst []:=λz=>by
     injection z with z;exact hf (Nf.mpr (List.map_eq_nil_iff.mp z))
    rw[decide_eq_false he];refine aV ⟨_,rfl,Lc,rfl,⟨_,aN.of (s3 _ _ hLc)⟩,λM hM=>uQ (K:=K) (a:=Lc) (f:=dB [] 0) (tt:=tB (J4 Hi [] E0 (k_ (gU 1) (k_ (pR (Ku K) (gU 0) (tC (V.int 0))) (k_ (pR (Ku K) (gU 0) (tC (V.int 1))) oH))))) (te:=gU 0) (xs:=cs.map V.ref) (λn ys H4=>∃ds:List Addr,ys=ds.map V.ref/\ds.length<=n/\H4 M=some (.lst ys)/\Same H3 H4/\Mi H4 ds ((cc.take n).filter λc=>gZ j3 r w c.1 c.2))
     ⟨[],rfl,Nat.le_refl _,ao,Same.upd hM,cY.nil⟩ (λn ys H4 _ h=>by obtain⟨_,_,_,_,sm,_⟩:=h;exact aN.of (sm _ _ (s3 _ _ hLc))) ?_ ?_⟩
    ·rintro n x ys H4 hx ⟨ds,rfl,hdl,Jq,lX,WR⟩
     have hn:n < cs.length:=by have:=(List.getElem?_eq_some_iff.mp hx).1;simpa using this
     rw[List.getElem?_map,List.getElem?_eq_getElem hn]at hx;have hx:V.ref cs[n]=x:=Option.some.inj hx;subst hx;have zE:=s3.trans lX;obtain⟨u,eu,hu⟩:=(hcs.mv zE).get hn;refine⟨_,rfl,_,rfl,cs[n],_,_,_,rfl,rfl,aK.of hu,aB (j:=0) rfl,_,rfl,cs[n],_,_,_,rfl,rfl,aK.of hu,aB (j:=1) rfl,pr,j3,r,w,_,_,rfl,zE _ _ hpr,hb,r1,r9,w9,λH5 s5=>⟨_,rfl,?_⟩⟩;have et:(cc.take (n+1)).filter (λc=>gZ j3 r w c.1 c.2)=(cc.take n).filter (λc=>gZ j3 r w c.1 c.2)++[u].filter (λc=>gZ j3 r w c.1 c.2):=by rw[List.take_add_one,eu,List.filter_append];rfl
     cases hf2:gZ j3 r w u.1 u.2 with
     | true=>
      have Jy:=s5 _ _ Jq;refine bw ⟨_,rfl,Jy,by rw[List.length_map];exact aD (by omega),cX.mk (by rw[List.length_map];exact hn) ⟨ds++[cs[n]],by simp,by simp;omega,by rw[ao],(lX.trans s5).bJ hM,?_⟩⟩;rw[et];have e2:[u].filter (λc=>gZ j3 r w c.1 c.2)=[u]:=by simp[hf2]
      rw[e2];exact((WR.mv s5).app (cY.one (s5 _ _ hu))).ji (mU Jy)
     | false=>
      refine aV (cX.mk (by rw[List.length_map];exact hn) ⟨ds,rfl,by omega,s5 _ _ Jq,lX.trans s5,?_⟩);rw[et];have e2:[u].filter (λc=>gZ j3 r w c.1 c.2)=[]:=by simp[hf2]
      rw[e2,List.append_nil];exact WR.mv s5
    ·rintro ys H4 ⟨ds,rfl,hdl,Jq,lX,WR⟩
     rw[List.length_map,hcl,List.take_length]at WR;refine⟨by show 0<=sizeLine;decide,λZ2 hZ2=>?_⟩;have sZ2:Same H4 (upd H4 Z2 (HO.lst [])):=Same.upd hZ2;have eZ2:upd H4 Z2 (HO.lst []) Z2=some (.lst []):=ao;have Jy:=sZ2 _ _ Jq;have hP5:=WR.mv sZ2;generalize upd H4 Z2 (HO.lst [])=H5 at sZ2 eZ2 Jy hP5 ⊢;refine⟨2,.lst _,.lst [],by decide,.lst (aN.of Jy) (dO.Wf hP5),.lst (aN.of eZ2) .nil,?_⟩;have hq:=q H5 (s3.trans (lX.trans sZ2));have e:M_ j3 r w bi bj cc=cc.any λc=>gZ j3 r w c.1 c.2:=by unfold M_;rw[if_neg hf]
     rw[e]at hq;simp only[if_true];cases ha:(cc.any λc=>gZ j3 r w c.1 c.2) with
     | true=>
      rw[ha]at hq;have:¬(Dt.lst (((cc.filter λc=>gZ j3 r w c.1 c.2)).map λc=>Dt.tup [.int c.1,.int c.2])=Dt.lst []):=λz=>by
       injection z with z;have z:=List.map_eq_nil_iff.mp z;obtain⟨c,hc1,hc2⟩:=List.any_eq_true.mp ha;exact absurd hc2 (List.filter_eq_nil_iff.mp z c hc1)
      rw[decide_eq_false this];exact hq
     | false=>
      rw[ha]at hq;have:Dt.lst (((cc.filter λc=>gZ j3 r w c.1 c.2)).map λc=>Dt.tup [.int c.1,.int c.2])=Dt.lst []:=by
       rw[List.filter_eq_nil_iff.mpr λc hc=>by have:=List.any_eq_false.mp ha c hc;exact this];rfl
      rw[decide_eq_true this];exact hq
end
end My
end
section
namespace My
open PySem L2
section
variable {P:Program}{w:World}{K:W.Frag}{mg:Str->Option Value}{base:Heap}
inductive wW (j3:List (List Nat)) (r w bi bj:Nat) (ts:List aY):Nat->Nat->Nat->Prop
 | jz {u:aY} (h:mX j3 ts=some u):wW j3 r w bi bj ts 1 u.1 u.2.1
 | jB (h1:mX j3 ts=none) (h:(j4 ts||j5 ts)=false):wW j3 r w bi bj ts 2 0 0
 | gap {i j:Nat} (h1:mX j3 ts=none) (h2:(j4 ts||j5 ts)=true) (h:FW (bM j3 ts) (gG ts).1 (fH ts).1 (gG ts).2.1 (fH ts).2.1 i j):wW j3 r w bi bj ts 3 i j
 | jC (h1:mX j3 ts=none) (h2:(j4 ts||j5 ts)=true) (h3:uz (bM j3 ts) (gG ts).1 (fH ts).1 (gG ts).2.1 (fH ts).2.1) (h:qw j3 r w bi bj ts=false):wW j3 r w bi bj ts 4 0 0
 | ok (h1:mX j3 ts=none) (h2:(j4 ts||j5 ts)=true) (h3:uz (bM j3 ts) (gG ts).1 (fH ts).1 (gG ts).2.1 (fH ts).2.1) (h:qw j3 r w bi bj ts=true):wW j3 r w bi bj ts 9 0 0
theorem WT {ts:List aY}(h0:0 < ts.length){g:aY->Nat}{m M:Int}(hm:m∈ts.map λt=>(g t:Int))(h1:∀x∈ts.map (λt=>(g t:Int)),m<=x)(hM:M∈ts.map λt=>(g t:Int))(h2:∀x∈ts.map (λt=>(g t:Int)),M>=x) :
  decide (V.int m=V.int M)=ts.all λt=>decide (g t=g (ts.headD (0,0,0))):=by
 rw[mW h0];cases e:(ts.all λt=>decide (g t=g ts[0])) with
 | true=>
  rw[List.all_eq_true]at e;have key:∀x∈ts.map (λt=>(g t:Int)),x=(g ts[0]:Int):=λx hx=>by
   obtain⟨t,ht,rfl⟩:=List.mem_map.mp hx;have:=of_decide_eq_true (e t ht);rw[this]
  rw[key m hm,key M hM];simp
 | false=>
  refine decide_eq_false λz=>?_;injection z with z;have:(ts.all λt=>decide (g t=g ts[0]))=true:=List.all_eq_true.mpr λt ht=>by
   have a1:=h1 _ (List.mem_map.mpr ⟨t,ht,rfl⟩);have a2:=h2 _ (List.mem_map.mpr ⟨t,ht,rfl⟩);have b1:=h1 _ (List.mem_map.mpr ⟨ts[0],List.getElem_mem h0,rfl⟩);have b2:=h2 _ (List.mem_map.mpr ⟨ts[0],List.getElem_mem h0,rfl⟩);exact decide_eq_true (by omega)
  rw[this]at e;cases e
theorem wX {f:St->St}{σ:St}(ix:Nat){Hs H':Hp}{cs:List Addr}{cc:List (Nat × Nat)}{n:Nat}{x:V}{ys:List V}{N:Addr}(hx:(cs.map V.ref)[n]?=some x)
  (hh:ys=((cc.take n).map λc=>(((if ix=0 then c.1 else c.2:Nat)):Int)).map V.int/\H' N=some (.lst ys)/\Same Hs H') (hcs:Mi Hs cs cc) (h7:cc.length<=7) (hN:Hs N=none) (hix:ix=0\/ix=1) :
  nJ (cs.map V.ref).length n N (λv H Q=>∃a p q,v=.ref a/\aK K H a [p,q]/\Q [some p,some q]) f σ fJ (gU ix) x H' ys (λys H'=>ys=((cc.take (n+1)).map λc=>(((if ix=0 then c.1 else c.2:Nat)):Int)).map V.int/\H' N=some (.lst ys)/\Same Hs H'):=by
 obtain⟨rfl,hN',sm⟩:=hh;have hn:n < cs.length:=by have:=(List.getElem?_eq_some_iff.mp hx).1;simpa using this
 have hcl:=hcs.len;rw[List.getElem?_map,List.getElem?_eq_getElem hn]at hx;have hx:V.ref cs[n]=x:=Option.some.inj hx;obtain⟨u,eu,hu⟩:=(hcs.mv sm).get hn;refine Rz hx.symm (aK.of hu) ?_;have hz:(((cc.take n).map λc=>(((if ix=0 then c.1 else c.2:Nat)):Int)).map V.int).length < sizeLine:=by rw[List.length_map,List.length_map,List.length_take];exact aD (by omega)
 rcases hix with rfl | rfl
 ·refine⟨_,rfl,hN',hz,cX.mk (by rw[List.length_map];exact hn) ⟨?_,ao,sm.bJ hN⟩⟩
  rw[take_snoc eu,List.map_append];rfl
 ·refine⟨_,rfl,hN',hz,cX.mk (by rw[List.length_map];exact hn) ⟨?_,ao,sm.bJ hN⟩⟩
  rw[take_snoc eu,List.map_append];rfl
noncomputable def WW:Sp:=λvs H Q _=>∃(pr pb t:Addr) (j3:List (List Nat)) (r w bi bj:Nat) (as:List Addr) (ts:List aY),vs=[.ref pr,.ref pb,.ref t]/\H pr=some (.tup (Ts j3))/\Blk r w j3/\1<=r/\r<=9/\1<=w/\w<=9/\(∀l∈j3,∀c∈l,uh c)/\H pb=some (.tup [.int bi,.int bj])/\H t=some (.tup (as.map V.ref))/\cM H as ts/\(∀t∈ts,inB r w t)/\0 < ts.length/\ts.length<=7/\
 ∀(T:Addr) (d x y:Nat) (H':Hp),Same H H'->wW j3 r w bi bj ts d x y->H' T=some (.tup [.int d,.int x,.int y])->Q (.ref T) H'
open Classical in
theorem Ni (D:aJ K mg "_law_cells_due" pJ ["_law_rows_here","_law_begin","_law_laying"])(cJ:mg "range"=none)(Bq:mg "min"=none)(Br:mg "max"=none)(Zd:Def P w K mg base "_law_joined" 2 ["_law_rows_here","_law_begin","_law_cells"] Ng):Def P w K mg base "_law_cells_due" 3 ["_law_rows_here","_law_begin","_law_laying"] WW:=by
 refine D.dh jy (λvs H Q E h=>?_) (λf cdv A outer s H vs Q E hr h=>?_)
 ·obtain⟨pr,pb,t,j3,r,w,bi,bj,as,ts,rfl,_⟩:=h
  rfl
 ·obtain⟨pr,pb,t,j3,r,w,bi,bj,as,ts,rfl,hpr,hb,r1,r9,w1,w9,Nh,hpb,ht,hL,hin,h0,h7,q⟩:=h
  have hal:=hL.len;refine⟨_,(au (vH (ix:=3) (ns:=["_law_row","_law_column","_law_sign_here"]) jy.nd rfl (Or.inl rfl) rfl (dR.of ["_law_rows_here","_law_begin","_law_laying","_law_cells",".4",".5"] [4,5] (by kernel_rfl)) (dF (qv 2)) (λ_ _ _ _ _=>(lB K rfl (show (["_law_row","_law_column","_law_sign_here","_law_rows_here","_law_begin","_law_laying","_law_cells",".4",".5"]:List Str).Nodup by decide +kernel) rfl rfl rfl (by rfl) (by rfl) (by rfl))) (λ_ _ _ _ _=>cu) (λ_ _ _ _ _=>(bR (aj (qv 0) (aj (qv 1) ak))))) (au (dM PassesOwn.never rfl (fG (qv 3)) (pZ rfl (cB (bK (i:=4) jy.nd rfl (Or.inl rfl)) (cB (bK (i:=5) jy.nd rfl (Or.inl rfl)) lq))) (aA (bO (bx nH (aL sE (aL aO (qv 0) (qv 4) (λ_ _=>rfl)) (qv 5) (λ_ _=>rfl)) (bN [46] (by decide +kernel)) (bh _)) (aA (aX (bR (aj aq (aj (qv 4) (aj (qv 5) ak)))))) bB))) (au (gD (bO (bx lZ (aH (Jd rfl) (by rfl) Bq PyProof.Rows.boot_min (aj (dJ (ns:=["_law_row","_law_column"]) rfl (dR.of ["_law_rows_here","_law_begin","_law_laying","_law_cells",".4",".5"] [4,5] (by kernel_rfl)) (fG (qv 3)) (λ_ _ _ _ _=>(rO K rfl (show (["_law_row","_law_column","_law_rows_here","_law_begin","_law_laying","_law_cells",".4",".5"]:List Str).Nodup by decide +kernel) rfl rfl (by rfl) (by rfl))) (λ_ _ _ _ _=>cu) (λ_ _ _ _ _=>(qv 0))) ak)) (aH (Je rfl) (by rfl) Br PyProof.Rows.boot_max (aj (dJ (ns:=["_law_row","_law_column"]) rfl (dR.of ["_law_rows_here","_law_begin","_law_laying","_law_cells",".4",".5"] [4,5] (by kernel_rfl)) (fG (qv 3)) (λ_ _ _ _ _=>(rO K rfl (show (["_law_row","_law_column","_law_rows_here","_law_begin","_law_laying","_law_cells",".4",".5"]:List Str).Nodup by decide +kernel) rfl rfl (by rfl) (by rfl))) (λ_ _ _ _ _=>cu) (λ_ _ _ _ _=>(qv 0))) ak)) (bh _)) (aA (bO (bx lZ (aH (Jd rfl) (by rfl) Bq PyProof.Rows.boot_min (aj (dJ (ns:=["_law_row","_law_column"]) rfl (dR.of ["_law_rows_here","_law_begin","_law_laying","_law_cells",".4",".5"] [4,5] (by kernel_rfl)) (fG (qv 3)) (λ_ _ _ _ _=>(rO K rfl (show (["_law_row","_law_column","_law_rows_here","_law_begin","_law_laying","_law_cells",".4",".5"]:List Str).Nodup by decide +kernel) rfl rfl (by rfl) (by rfl))) (λ_ _ _ _ _=>cu) (λ_ _ _ _ _=>(qv 1))) ak)) (aH (Je rfl) (by rfl) Br PyProof.Rows.boot_max (aj (dJ (ns:=["_law_row","_law_column"]) rfl (dR.of ["_law_rows_here","_law_begin","_law_laying","_law_cells",".4",".5"] [4,5] (by kernel_rfl)) (fG (qv 3)) (λ_ _ _ _ _=>(rO K rfl (show (["_law_row","_law_column","_law_rows_here","_law_begin","_law_laying","_law_cells",".4",".5"]:List Str).Nodup by decide +kernel) rfl rfl (by rfl) (by rfl))) (λ_ _ _ _ _=>cu) (λ_ _ _ _ _=>(qv 1))) ak)) (bh _)) (aA (aX (bR (aj aq (aj aq (aj aq ak)))))) bB)) bB)) (au (dM PassesOwn.never rfl (tW (by rfl) cJ (aj (aL aO (aL dj (qv 3) aq (λ_ _=>rfl)) aq (λ_ _=>rfl)) (aj (aG b_ (aL aO (aL dj (qv 3) (wk rY aq) (λ_ _=>rfl)) aq (λ_ _=>rfl)) aq) ak))) (bK (i:=4) jy.nd rfl (Or.inl rfl)) (aA (dM PassesOwn.never rfl (tW (by rfl) cJ (aj (aL aO (aL dj (qv 3) aq (λ_ _=>rfl)) aq (λ_ _=>rfl)) (aj (aG b_ (aL aO (aL dj (qv 3) (wk rY aq) (λ_ _=>rfl)) aq (λ_ _=>rfl)) aq) ak))) (bK (i:=5) jy.nd rfl (Or.inl rfl)) (aA (bO (QW.qt (iB (bx sI (aL sE (aL aO (qv 0) (qv 4) (λ_ _=>rfl)) (qv 5) (λ_ _=>rfl)) (bN [46] (by decide +kernel)) (bh _)) (jW (bx (RM hr.units) (bR (aj (qv 4) (aj (qv 5) ak))) (qv 3) rfl)))) (aA (aX (bR (aj aq (aj (qv 4) (aj (qv 5) ak)))))) bB))))) (au (bO (dN (cO (bF Zd (hr.mono (by decide)) rfl (aj (qv 0) (aj (qv 1) (aj (qv 3) ak)))))) (aA (aX (bR (aj aq (aj aq (aj aq ak)))))) bB) (aA (aX (bR (aj aq (aj aq (aj aq ak))))))))))),?_⟩;refine⟨_,rfl,t,rfl,⟨_,aK.of ht⟩,λLc ad7=>gW (K:=K) (KT:=K) (a:=t) (f:=dB [4,5] 0) (tt:=fJ) (xs:=as.map V.ref) (λn ys H5=>∃cs:List Addr,ys=cs.map V.ref/\cs.length=n/\H5 Lc=some (.lst ys)/\Same H H5/\Mi H5 cs ((ts.take n).map dX))
   ⟨[],rfl,rfl,ao,Same.upd ad7,cY.nil⟩ (λn ys H5 _ h=>by obtain⟨_,_,_,_,sm,_⟩:=h;exact aK.of (sm _ _ ht)) ?_ ?_⟩
  ·rintro n x ys H5 hx ⟨cs,rfl,hcl,nZ,ig,uq⟩
   have hn:n < as.length:=by have:=(List.getElem?_eq_some_iff.mp hx).1;simpa using this
   have hnt:n < ts.length:=by omega
   rw[List.getElem?_map,List.getElem?_eq_getElem hn]at hx;have hx:V.ref as[n]=x:=Option.some.inj hx;obtain⟨_,en⟩:=fD (hL.mv ig) hnt;refine qQ hx.symm (aK.of en) ?_;refine⟨_,rfl,_,rfl,by show 2<=sizeLine;decide,λg hg=>?_⟩;have kg:Same H5 (upd H5 g (HO.tup [.int ts[n].1,.int ts[n].2.1])):=Same.upd hg;have Jm:=kg _ _ nZ;refine⟨Jm,by rw[List.length_map];exact aD (by omega),cX.mk (by rw[List.length_map];exact hn) ⟨cs++[g],by simp,by simp[hcl],by rw[ao],(ig.trans kg).bJ ad7,?_⟩⟩;rw[take_snoc (List.getElem?_eq_getElem hnt)];exact((uq.mv kg).app (cY.one (x:=(ts[n].1,ts[n].2.1)) ao)).ji (mU Jm)
  rintro ys H1 ⟨cs,rfl,hcl,hLc,s1,hcs⟩;rw[List.length_map]at hcl;rw[List.length_map,hal,List.take_length]at hcs;have Nj:cs.length=ts.length:=by omega
  have S9:∀n,(h:n < ts.length)->(ts.map dX)[n]?=some (ts[n].1,ts[n].2.1):=λn h=>by rw[List.getElem?_map,List.getElem?_eq_getElem h];rfl
  have Nk:=s1 _ _ hpr;have Nm:(ts.map dX).length<=7:=by rw[List.length_map];exact h7
  refine⟨_,rfl,Lc,rfl,⟨_,aN.of hLc⟩,mH (K:=K) (a:=Lc) (xs:=cs.map V.ref) (λn σ H'=>∃v4 v5:Option V,σ=[some (.ref pr),some (.ref pb),some (.ref t),some (.ref Lc),v4,v5]/\Same H1 H'/\∀x∈ts.take n,Wa j3 x=false)
   ⟨none,none,rfl,Same.refl _,λx hx=>by simp at hx⟩ (λn σ H' _ h=>by obtain⟨_,_,_,sm,_⟩:=h;exact aN.of (sm _ _ hLc)) ?_ ?_⟩
  ·rintro n x σ H' hx ⟨v4,v5,rfl,sm,hfr⟩
   have hn:n < cs.length:=by have:=(List.getElem?_eq_some_iff.mp hx).1;simpa using this
   have hnt:n < ts.length:=by omega
   rw[List.getElem?_map,List.getElem?_eq_getElem hn]at hx;have hx:V.ref cs[n]=x:=Option.some.inj hx;subst hx;have en:=(hcs.mv sm).at_ n _ _ (List.getElem?_eq_getElem hn) (S9 n hnt);obtain⟨c1,c2,_⟩:=hin _ (List.getElem_mem hnt);have g1:ts[n].1 < j3.length:=by rw[hb.len];exact c1
   have hwi:j3[ts[n].1].length=w:=hb.gJ _ (List.getElem_mem _);have g2:ts[n].2.1 < j3[ts[n].1].length:=by omega
   have hce:=cell_eq g1 g2;refine⟨cs[n],_,rfl,aK.of en,rfl,_,_,rfl,_,_,rfl,rfl,?_⟩;refine⟨_,rfl,_,rfl,pr,_,_,.str (S j3[ts[n].1]),rfl,rfl,aK.of (sm _ _ Nk),aB (d_ (by simp[g1])),_,rfl,j3[ts[n].1],_,j3[ts[n].1][ts[n].2.1],rfl,rfl,Nat.le_of_lt (aD (by omega)),aB (by simp[g2]),[j3[ts[n].1][ts[n].2.1]],[46],rfl,rfl,_,rfl,?_⟩;rw[<- hce];cases ht0:Wa j3 ts[n] with
   | true=>
    rw[show (!decide ([cell j3 ts[n].1 ts[n].2.1]=[46]))=true from ht0];exact bw ⟨_,rfl,_,rfl,by show 3<=sizeLine;decide,λT hT=>q T 1 _ _ _ ((s1.trans sm).trans (Same.upd hT)) (.jz (G8 hnt hfr ht0)) ao⟩
   | false=>
    rw[show (!decide ([cell j3 ts[n].1 ts[n].2.1]=[46]))=false from ht0];refine aV ⟨_,_,rfl,sm,λx hx=>?_⟩;rw[List.take_add_one,List.getElem?_eq_getElem hnt]at hx;rcases List.mem_append.mp hx with z | z
    ·exact hfr x z
    ·rw[List.mem_singleton.mp z];exact ht0
  rintro σ H2 ⟨v4,v5,rfl,sm,hfr⟩;rw[List.length_map,Nj,List.take_length]at hfr;have d1:mX j3 ts=none:=Bo hfr;have s2:=s1.trans sm;refine⟨λσ H'=>Same H2 H'/\σ=[some (.ref pr),some (.ref pb),some (.ref t),some (.ref Lc),v4,v5]/\(j4 ts||j5 ts)=true,?_,?_⟩
  ·refine⟨_,rfl,Lc,rfl,⟨_,aN.of (sm _ _ hLc)⟩,λA1 hA1=>lU (K:=K) (KT:=K) (a:=Lc) (f:=dB [4,5] 0) (tt:=fJ) (te:=gU 0) (xs:=cs.map V.ref) (λn ys H'=>ys=(((ts.map dX).take n).map λc=>(((if 0=0 then c.1 else c.2:Nat)):Int)).map V.int/\H' A1=some (.lst ys)/\Same H2 H')
    ⟨rfl,ao,Same.upd hA1⟩ (λn ys H' _ h=>aN.of (h.2.2 _ _ (sm _ _ hLc))) (λn x ys H' hx hh=>wX 0 hx hh (hcs.mv sm) Nm hA1 (by decide)) ?_⟩
   rintro ys H3 ⟨rfl,WX,k3⟩;rw[List.length_map,Nj,List.take_of_length_le (by rw[List.length_map];exact Nat.le_refl _),show ((ts.map dX).map λc=>(((if 0=0 then c.1 else c.2:Nat)):Int))=ts.map (λt=>(t.1:Int)) by rw[List.map_map];rfl]at WX;refine⟨A1,ts.map λt=>(t.1:Int),rfl,aN.of WX,by rw[List.length_map];exact h0,λm hm hmn=>?_⟩;refine⟨_,rfl,Lc,rfl,⟨_,aN.of ((sm.trans k3) _ _ hLc)⟩,λA2 hA2=>lU (K:=K) (KT:=K) (a:=Lc) (f:=dB [4,5] 0) (tt:=fJ) (te:=gU 0) (xs:=cs.map V.ref) (λn ys H'=>ys=(((ts.map dX).take n).map λc=>(((if 0=0 then c.1 else c.2:Nat)):Int)).map V.int/\H' A2=some (.lst ys)/\Same H3 H')
    ⟨rfl,ao,Same.upd hA2⟩ (λn ys H' _ h=>aN.of (h.2.2 _ _ ((sm.trans k3) _ _ hLc))) (λn x ys H' hx hh=>wX 0 hx hh (hcs.mv (sm.trans k3)) Nm hA2 (by decide)) ?_⟩
   rintro ys H4 ⟨rfl,WY,k4⟩;rw[List.length_map,Nj,List.take_of_length_le (by rw[List.length_map];exact Nat.le_refl _),show ((ts.map dX).map λc=>(((if 0=0 then c.1 else c.2:Nat)):Int))=ts.map (λt=>(t.1:Int)) by rw[List.map_map];rfl]at WY;refine⟨A2,ts.map λt=>(t.1:Int),rfl,aN.of WY,by rw[List.length_map];exact h0,λM hM hmx=>?_⟩;refine⟨rfl,_,rfl,?_⟩;have Jz:=k3.trans k4;rw[WT (g:=λt=>t.1) h0 hm hmn hM hmx];cases ha:j4 ts with
   | true=>
    rw[show (ts.all λt=>decide (t.1=(ts.headD (0,0,0)).1))=true from ha];exact aV ⟨Jz,rfl,by rw[Bool.true_or]⟩
   | false=>
    rw[show (ts.all λt=>decide (t.1=(ts.headD (0,0,0)).1))=false from ha];refine bw ?_;refine⟨_,rfl,Lc,rfl,⟨_,aN.of ((sm.trans Jz) _ _ hLc)⟩,λA3 WX=>lU (K:=K) (KT:=K) (a:=Lc) (f:=dB [4,5] 0) (tt:=fJ) (te:=gU 1) (xs:=cs.map V.ref) (λn ys H'=>ys=(((ts.map dX).take n).map λc=>(((if 1=0 then c.1 else c.2:Nat)):Int)).map V.int/\H' A3=some (.lst ys)/\Same H4 H')
     ⟨rfl,ao,Same.upd WX⟩ (λn ys H' _ h=>aN.of (h.2.2 _ _ ((sm.trans Jz) _ _ hLc))) (λn x ys H' hx hh=>wX 1 hx hh (hcs.mv (sm.trans Jz)) Nm WX (by decide)) ?_⟩
    rintro ys H5 ⟨rfl,uq,k5⟩;rw[List.length_map,Nj,List.take_of_length_le (by rw[List.length_map];exact Nat.le_refl _),show ((ts.map dX).map λc=>(((if 1=0 then c.1 else c.2:Nat)):Int))=ts.map (λt=>(t.2.1:Int)) by rw[List.map_map];rfl]at uq;refine⟨A3,ts.map λt=>(t.2.1:Int),rfl,aN.of uq,by rw[List.length_map];exact h0,λm2 hm2 afL=>?_⟩;refine⟨_,rfl,Lc,rfl,⟨_,aN.of ((sm.trans (Jz.trans k5)) _ _ hLc)⟩,λA4 WY=>lU (K:=K) (KT:=K) (a:=Lc) (f:=dB [4,5] 0) (tt:=fJ) (te:=gU 1) (xs:=cs.map V.ref) (λn ys H'=>ys=(((ts.map dX).take n).map λc=>(((if 1=0 then c.1 else c.2:Nat)):Int)).map V.int/\H' A4=some (.lst ys)/\Same H5 H')
     ⟨rfl,ao,Same.upd WY⟩ (λn ys H' _ h=>aN.of (h.2.2 _ _ ((sm.trans (Jz.trans k5)) _ _ hLc))) (λn x ys H' hx hh=>wX 1 hx hh (hcs.mv (sm.trans (Jz.trans k5))) Nm WY (by decide)) ?_⟩
    rintro ys H6 ⟨rfl,hA6,k6⟩;rw[List.length_map,Nj,List.take_of_length_le (by rw[List.length_map];exact Nat.le_refl _),show ((ts.map dX).map λc=>(((if 1=0 then c.1 else c.2:Nat)):Int))=ts.map (λt=>(t.2.1:Int)) by rw[List.map_map];rfl]at hA6;refine⟨A4,ts.map λt=>(t.2.1:Int),rfl,aN.of hA6,by rw[List.length_map];exact h0,λM2 iI afM=>?_⟩;refine⟨rfl,_,rfl,?_⟩;have s26:=Jz.trans (k5.trans k6);rw[WT (g:=λt=>t.2.1) h0 hm2 afL iI afM];cases hd:j5 ts with
    | true=>
     rw[show (ts.all λt=>decide (t.2.1=(ts.headD (0,0,0)).2.1))=true from hd];exact aV ⟨s26,rfl,rfl⟩
    | false=>
     rw[show (ts.all λt=>decide (t.2.1=(ts.headD (0,0,0)).2.1))=false from hd];exact bw ⟨by show 3<=sizeLine;decide,λT hT=>q T 2 0 0 _ ((s2.trans s26).trans (Same.upd hT)) (.jB d1 (by rw[ha,hd];rfl)) ao⟩
  rintro σ H3 ⟨k3,rfl,d2⟩;have s3:=s2.trans k3;have s13:=sm.trans k3;have Hj:=s13 _ _ hLc;have S_:=hcs.mv s13;have z0:0 < cs.length:=by omega
  have zl:cs.length-1 < cs.length:=by omega
  have e0:=S_.at_ 0 _ _ (List.getElem?_eq_getElem z0) (S9 0 h0);have el:=S_.at_ (cs.length-1) _ _ (List.getElem?_eq_getElem zl) (by rw[show cs.length-1=ts.length-1 by omega];exact S9 _ (by omega));have wN:m6 (cs.map V.ref) (-1)=some (.ref cs[cs.length-1]):=G6 z0;obtain⟨a1,a2,_⟩:=hin _ (List.getElem_mem h0);obtain⟨l1,l2,_⟩:=hin _ (List.getElem_mem (show ts.length-1 < ts.length by omega));have ef:gG ts=ts[0]:=mW h0;have eg:=Ms h0;generalize hff:ts[0]=ff at e0 a1 a2 ef;generalize hll:ts[ts.length-1]=ll at el l1 l2 eg;have hR:∀i j,i < r->j < w->(cell (bM j3 ts) i j=46↔cell j3 i j=46/\(i,j)∉ts.map dX):=λi j hi hj=>WL hi hj hb hin;have hDs:∀H',Same H3 H'->ju K H' 2 (.lst ((ts.map dX).map λc=>Dt.tup [.int c.1,.int c.2])) (.ref Lc):=λH' sH=>.lst (aN.of (sH _ _ Hj)) (dO.Wf (S_.mv sH));generalize hRR:bM j3 ts=R at hR;refine⟨_,rfl,Lc,_,_,.ref cs[0],rfl,rfl,aN.of Hj,aB (j:=0) (by simp[z0]),cs[0],_,_,_,rfl,rfl,aK.of e0,aB (j:=0) rfl,_,rfl,_,rfl,Lc,_,_,.ref cs[cs.length-1],rfl,rfl,aN.of Hj,wN,cs[cs.length-1],_,_,_,rfl,rfl,aK.of el,aB (j:=0) rfl,_,_,rfl,rfl,(ff.1:Int),(ll.1:Int)+1,rfl,⟨by omega,by omega,by omega,by omega⟩,?_⟩;refine gC (lo:=(ff.1:Int)) (λn σ H'=>∃v4 v5:Option V,σ=[some (.ref pr),some (.ref pb),some (.ref t),some (.ref Lc),v4,v5]/\Same H3 H'/\∀i j,ff.1<=i->i < ff.1+n->ff.2.1<=j->j<=ll.2.1->cell R i j≠46)
   ⟨_,_,rfl,Same.refl _,λi j z1 z2=>by omega⟩ ?_ ?_
  ·rintro n σ H' hn ⟨v4,v5,rfl,lX,hup⟩
   have hn2:ff.1+n<=ll.1:=by omega
   have en:(ff.1:Int)+(n:Int)=((ff.1+n:Nat):Int):=by omega
   rw[en];refine⟨_,rfl,Lc,_,_,.ref cs[0],rfl,rfl,aN.of (lX _ _ Hj),aB (j:=0) (by simp[z0]),cs[0],_,_,_,rfl,rfl,aK.of (lX _ _ e0),aB (j:=1) rfl,_,rfl,_,rfl,Lc,_,_,.ref cs[cs.length-1],rfl,rfl,aN.of (lX _ _ Hj),wN,cs[cs.length-1],_,_,_,rfl,rfl,aK.of (lX _ _ el),aB (j:=1) rfl,_,_,rfl,rfl,(ff.2.1:Int),(ll.2.1:Int)+1,rfl,⟨by omega,by omega,by omega,by omega⟩,?_⟩;refine gC (lo:=(ff.2.1:Int)) (λm σ H'=>∃v5:Option V,σ=[some (.ref pr),some (.ref pb),some (.ref t),some (.ref Lc),some (.int ((ff.1+n:Nat):Int)),v5]/\Same H3 H'/\∀j,ff.2.1<=j->j < ff.2.1+m->cell R (ff.1+n) j≠46)
    ⟨_,rfl,lX,λj z1 z2=>by omega⟩ ?_ ?_
   ·rintro m σ H5 hm ⟨v5,rfl,ig,hle⟩
    have hm2:ff.2.1+m<=ll.2.1:=by omega
    have em:(ff.2.1:Int)+(m:Int)=((ff.2.1+m:Nat):Int):=by omega
    rw[em];have ci:ff.1+n < r:=by omega
    have cj:ff.2.1+m < w:=by omega
    generalize hii:ff.1+n=ii at ci hle hn2 hup ⊢;generalize hjj:ff.2.1+m=jj at cj hle hm2 ⊢;have g1:ii < j3.length:=by rw[hb.len];exact ci
    have hwi:j3[ii].length=w:=hb.gJ _ (List.getElem_mem _);have g2:jj < j3[ii].length:=by omega
    have hce:=cell_eq g1 g2;refine⟨_,rfl,_,rfl,pr,_,_,.str (S j3[ii]),rfl,rfl,aK.of (s3.trans ig _ _ hpr),aB (d_ (by simp[g1])),_,rfl,j3[ii],_,j3[ii][jj],rfl,rfl,Nat.le_of_lt (aD (by omega)),aB (by simp[g2]),[j3[ii][jj]],[46],rfl,rfl,_,rfl,?_⟩;rw[<- hce];have nx:cell R ii jj≠46->∀H',Same H3 H'->∃v5:Option V,([some (.ref pr),some (.ref pb),some (.ref t),some (.ref Lc),some (.int (ii:Int)),some (.int (jj:Int))]:St)=[some (.ref pr),some (.ref pb),some (.ref t),some (.ref Lc),some (.int (ii:Int)),v5]/\Same H3 H'/\∀j,ff.2.1<=j->j < ff.2.1+(m+1)->cell R ii j≠46:=λz H' sH=>⟨_,rfl,sH,λj y1 y2=>by
     by_cases y:j=jj
     ·rw[y];exact z
     ·exact hle j y1 (by omega)⟩
    by_cases hc:cell j3 ii jj=46
    ·rw[decide_eq_true (show [cell j3 ii jj]=[46] by rw[hc])]
     refine bw ⟨_,rfl,_,rfl,by show 2<=sizeLine;decide,λg hg=>?_⟩;have kg:Same H5 (upd H5 g (HO.tup [.int (ii:Int),.int (jj:Int)])):=Same.upd hg;have eg2:upd H5 g (HO.tup [.int (ii:Int),.int (jj:Int)]) g=some (.tup [.int (ii:Int),.int (jj:Int)]):=ao;have sg:=ig.trans kg;generalize upd H5 g (HO.tup [.int (ii:Int),.int (jj:Int)])=H6 at kg eg2 sg ⊢;refine⟨_,rfl,2,.tup [.int (ii:Int),.int (jj:Int)],_,by decide,.tup (aK.of eg2) (.cons (.int _) (.cons (.int _) .nil)),hDs H6 sg,_,rfl,?_⟩;simp only[if_true];by_cases hm3:(ii,jj)∈ts.map dX
     ·rw[decide_eq_true (vP (c:=(ii,jj)).mpr hm3)]
      exact aV (nx (λz=>((hR ii jj ci cj).mp z).2 hm3) H6 sg)
     ·rw[decide_eq_false (λz=>hm3 (vP (c:=(ii,jj)).mp z))]
      refine bw ⟨_,rfl,_,rfl,by show 3<=sizeLine;decide,λT hT=>?_⟩;refine q T 3 ii jj _ ((s3.trans sg).trans (Same.upd hT)) (.gap d1 d2 ?_) ao;rw[hRR,ef,eg];exact⟨by omega,hn2,by omega,hm2,(hR ii jj ci cj).mpr ⟨hc,hm3⟩,hup,λj y1 y2=>hle j y1 (by omega)⟩
    ·rw[decide_eq_false (show ¬[cell j3 ii jj]=[46] from λz=>hc (by injection z))]
     exact aV (aV (nx (λz=>hc ((hR ii jj ci cj).mp z).1) H5 ig))
   ·rintro σ H5 ⟨v5,rfl,ig,hle⟩
    refine⟨_,_,rfl,ig,λi j z1 z2 z3 z4=>?_⟩;by_cases z:i=ff.1+n
    ·rw[z];exact hle j z3 (by omega)
    ·exact hup i j z1 (by omega) z3 z4
  ·rintro σ H4 ⟨v4,v5,rfl,lX,hup⟩
   have d3:uz (bM j3 ts) (gG ts).1 (fH ts).1 (gG ts).2.1 (fH ts).2.1:=by
    rw[hRR,ef,eg];exact λi j z1 z2 z3 z4=>hup i j z1 (by omega) z3 z4
   have s4:=s3.trans lX;refine⟨_,rfl,_,rfl,_,rfl,pr,pb,Lc,j3,r,w,bi,bj,cs,ts.map dX,rfl,s4 _ _ hpr,hb,r1,r9,w1,w9,Nh,s4 _ _ hpb,lX _ _ Hj,S_.mv lX,Nm,λH5 k5=>⟨_,rfl,?_⟩⟩;rw[ad6];have s5:=s4.trans k5;cases hj:qw j3 r w bi bj ts with
   | true=>exact aV ⟨by show 3<=sizeLine;decide,λT hT=>q T 9 0 0 _ (s5.trans (Same.upd hT)) (.ok d1 d2 d3 hj) ao⟩
   | false=>exact bw ⟨by show 3<=sizeLine;decide,λT hT=>q T 4 0 0 _ (s5.trans (Same.upd hT)) (.jC d1 d2 d3 hj) ao⟩
end
end My
end
section
namespace My
open PySem L2
section
variable {P:Program}{w:World}{K:W.Frag}{mg:Str->Option Value}{base:Heap}
theorem abJ {c:Nat}(h:Wi c):(([c].map PyProof.Rows.lo1=[c])->cP c=c)/\(¬([c].map PyProof.Rows.lo1=[c])->cP c=63):=by
 unfold cP PyProof.Rows.lo1;rw[List.map_singleton];rcases h with h | h
 ·have h1:=h.1
  have h2:=h.2;rw[if_neg (by omega),if_neg (by omega)];exact⟨λ_=>rfl,λz=>absurd rfl z⟩
 ·rw[if_pos h,if_pos h]
  exact⟨λz=>by injection z with z;omega,λ_=>rfl⟩
theorem W0 {r w:Nat}{R:List (List Nat)}(hb:Blk r w R)(r9:r<=9)(w9:w<=9){i j wy:Nat}(hi:i < r):(lK R i j wy).2.2.2.length<=9:=by
 have hll:=nY hb hi (j:=j) (way:=(wy:Int));have h9:(lineOf R i j (wy:Int)).length<=9:=by rw[hll];split <;> assumption
 show (dg _++d9 _).length<=9;have a1:=nj ((lineOf R i j (wy:Int)).take (placeOf i j (wy:Int)));have a2:=uo ((lineOf R i j (wy:Int)).drop (placeOf i j (wy:Int)));rw[List.length_take]at a1;rw[List.length_drop]at a2;rw[List.length_append];omega
theorem ad8 {c:Nat}(h:lG c):isLet (PyProof.Rows.lo1 c):=by
 unfold PyProof.Rows.lo1;rcases M6 h with h | h
 ·have h1:=h.1
  have h2:=h.2;rw[if_neg (by omega)];exact h
 ·rw[if_pos h];exact⟨by omega,by omega⟩
theorem Ze {r w:Nat}{j3:List (List Nat)}{ts:List aY}(hb:Blk r w (bM j3 ts))(hp:∀l∈bM j3 ts,∀c∈l,uh c)(r9:r<=9)(w9:w<=9)(hin:∀t∈ts,inB r w t):∀q∈fB j3 ts,Mw (wU q):=λq hq=>by
 have hsg:=Di hb hp hin q hq;obtain⟨hm,hl⟩:=List.mem_filter.mp hq;obtain⟨a,ha,e⟩:=List.mem_map.mp hm;have hi:a.1 < r:=by
  rcases List.mem_append.mp ha with z | z
  ·obtain⟨u,hu,rfl⟩:=List.mem_map.mp z
   exact(hin u (List.mem_of_mem_take hu)).1
  ·obtain⟨u,hu,rfl⟩:=List.mem_map.mp z
   exact(hin u hu).1
 have h9:q.2.2.2.length<=9:=by rw[<- e];exact W0 hb r9 w9 hi
 have h2:=of_decide_eq_true hl;unfold wU;refine⟨by rw[List.length_map];omega,by rw[List.length_map];exact h9,λc hc=>?_⟩;obtain⟨d,hd,rfl⟩:=List.mem_map.mp hc;exact ad8 (hsg d hd)
theorem Np:∀cs:List Nat,vR ((cs.map cP).map λc=>[c]) cs=.inr []
 | []=>rfl
 | c::cs=>by
  show (if [cP c]∈[cP c]::(cs.map cP).map (λc=>[c]) then vR (([cP c]::(cs.map cP).map λc=>[c]).erase [cP c]) cs else _)=_;rw[if_pos List.mem_cons_self,List.erase_cons_head];exact Np cs
noncomputable def QZ:Sp:=λvs H Q _=>∃(t:Addr) (as:List Addr) (ts:List aY) (r w:Nat),vs=[.ref t]/\H t=some (.tup (as.map V.ref))/\cM H as ts/\(∀t∈ts,inB r w t)/\ts.length<=7/\∀H',Same H H'->Q (.str (S ((ts.map (·.2.2)).map cP))) H'
theorem Zf (D:aJ K mg "_law_tiles" Bj ["_law_laying"]):Def P w K mg base "_law_tiles" 1 ["_law_laying"] QZ:=by
 refine D.dh CK (λvs H Q E h=>?_) (λf cdv A outer s H vs Q E hr h=>?_)
 ·obtain⟨t,as,ts,r,w,rfl,_⟩:=h
  rfl
 ·obtain⟨t,as,ts,r,w,rfl,ht,hL,hin,h7,q⟩:=h
  have hal:=hL.len;refine⟨_,(au (vH (ix:=1) (ns:=["_law_row","_law_column","_law_sign_here"]) CK.nd rfl (Or.inl rfl) rfl (dR.of ["_law_laying","_law_signs"] [] (by kernel_rfl)) (dF (qv 0)) (λ_ _ _ _ _=>(lB K rfl (show (["_law_row","_law_column","_law_sign_here","_law_laying","_law_signs"]:List Str).Nodup by decide +kernel) rfl rfl rfl (by rfl) (by rfl) (by rfl))) (λ_ _ _ _ _=>cu) (λ_ _ _ _ _=>(qv 2))) (aA (aX (gA PySem.F.plainAttrs_str PySem.F.slot_str_join PySem.F.type_str_join rM (bN [] (by decide +kernel)) (aj (iQ rfl (gQ.of CK.nd (by kernel_rfl)) (fG (qv 1)) (λ_ _ _ _ _=>cu) (λ_ _ _ _ _=>(mK (bx sI (qv 0) (Qj K PySem.F.plainAttrs_str PySem.F.slot_str_lower PySem.F.type_str_lower vG (qv 0)) (bh _)) (qv 0) (bN [63] (by decide +kernel))))) ak))))),?_⟩;refine⟨_,rfl,t,rfl,⟨_,aK.of ht⟩,λM hM=>gW (K:=K) (KT:=K) (a:=t) (f:=dB [] 0) (tt:=fJ) (xs:=as.map V.ref) (λn ys H2=>ys=Ts (ones ((ts.take n).map (·.2.2)))/\H2 M=some (.lst ys)/\Same H H2)
   ⟨rfl,ao,Same.upd hM⟩ (λn ys H2 _ h=>aK.of (h.2.2 _ _ ht)) ?_ ?_⟩
  ·rintro n x ys H2 hx ⟨rfl,iI,sm⟩
   have hn:n < as.length:=by have:=(List.getElem?_eq_some_iff.mp hx).1;simpa using this
   have hnt:n < ts.length:=by omega
   rw[List.getElem?_map,List.getElem?_eq_getElem hn]at hx;have hx:V.ref as[n]=x:=Option.some.inj hx;obtain⟨_,en⟩:=fD (hL.mv sm) hnt;refine qQ hx.symm (aK.of en) ?_;refine⟨_,rfl,iI,?_,cX.mk (by rw[List.length_map];exact hn) ⟨?_,ao,sm.bJ hM⟩⟩
   ·rw[List.length_map,List.length_map,List.length_map,List.length_take];exact aD (by omega)
   ·rw[take_snoc (List.getElem?_eq_getElem hnt)]
    simp[Ts,ones]
  ·rintro ys H2 ⟨rfl,iI,sm⟩
   rw[List.length_map,hal,List.take_length]at iI;generalize hcs:ts.map (·.2.2)=cs at iI q;have hcl:cs.length<=7:=by rw[<- hcs,List.length_map];exact h7
   have hsg:∀c∈cs,lG c:=λc hc=>by
    rw[<- hcs]at hc;obtain⟨u,hu,rfl⟩:=List.mem_map.mp hc;exact(hin u hu).2.2
   refine⟨rfl,_,rfl,M,rfl,⟨_,aN.of iI⟩,λN hN=>Ir (xs:=Ts (ones cs)) (λi ys H3=>ys=Ts (ones ((cs.take i).map cP))/\H3 N=some (.lst ys)/\Same H2 H3) ⟨rfl,ao,Same.upd hN⟩ (λi ys H3 _ h=>aN.of (h.2.2 _ _ iI)) ?_ ?_⟩
   ·rintro i x ys H3 hi ⟨rfl,i_,sm3⟩
    obtain⟨l,hl,rfl⟩:=sY hi;rw[List.getElem?_map]at hl;obtain⟨c,hc,rfl⟩:=Option.map_eq_some_iff.mp hl;have hil:i < (Ts (ones cs)).length:=(List.getElem?_eq_some_iff.mp hi).1;have hcg:=hsg c (List.mem_of_getElem? hc);obtain⟨k1,k2⟩:=abJ (M6 hcg);have fin:H3 N=some (.lst (Ts (ones ((cs.take i).map cP))))/\(Ts (ones ((cs.take i).map cP))).length < sizeLine/\cX (Ts (ones cs)).length i (Ts (ones ((cs.take i).map cP))++[V.str (S [cP c])]=Ts (ones ((cs.take (i+1)).map cP))/\upd H3 N (.lst (Ts (ones ((cs.take i).map cP))++[V.str (S [cP c])])) N=some (.lst (Ts (ones ((cs.take i).map cP))++[V.str (S [cP c])]))/\Same H2 (upd H3 N (.lst (Ts (ones ((cs.take i).map cP))++[V.str (S [cP c])])))):=by
     refine⟨i_,?_,cX.mk hil ⟨?_,ao,sm3.bJ hN⟩⟩
     ·rw[List.length_map,List.length_map,List.length_map,List.length_take];exact aD (by omega)
     ·rw[take_snoc hc];simp[Ts,ones]
    refine⟨_,rfl,_,rfl,rfl,[c],rfl,rfl,by show 1<=1000;decide,λd hd=>by rw[List.mem_singleton.mp hd];exact hcg.lt,[c],_,rfl,rfl,_,rfl,?_⟩;by_cases e:[c]=[c].map PyProof.Rows.lo1
    ·rw[decide_eq_true e]
     refine bw ⟨_,rfl,?_⟩;rw[k1 e.symm]at fin;exact fin
    ·rw[decide_eq_false e]
     refine aV ?_;rw[k2 λy=>e y.symm]at fin;exact fin
   ·rintro ys H3 ⟨rfl,i_,sm3⟩
    have e:cs.take (Ts (ones cs)).length=cs:=by rw[List.length_map,List.length_map,List.take_length]
    rw[e]at i_;refine⟨N,ones (cs.map cP),rfl,rfl,aN.of i_,by rw[pK,List.length_map];omega,?_⟩;rw[pK];exact q H3 (sm.trans sm3)
end
end My
end
section
namespace My
open PySem L2
section
variable {P:Program}{w:World}{K:W.Frag}{mg:Str->Option Value}{base:Heap}
theorem abK {xs:List V}{b:Nat}(h:b<=xs.length):oK xs none (some (b:Int))=xs.take b:=by
 unfold oK;rw[HT.vB,HT.Cq,Nat.min_eq_left h];simp
theorem W2 {xs:List V}{a:Nat}(h:a<=xs.length):oK xs (some (a:Int)) none=xs.drop a:=by
 unfold oK;rw[HT.vB,HT.Cq,Nat.min_eq_left h,List.take_of_length_le (by rw[List.length_drop];omega)]
abbrev Q0:=List (List Key × V)
noncomputable def Bs (R W:Nat)(kv:List Key × V):Prop:=∃r c z:Nat,kv=([Sum.inl (r:Int),Sum.inl (c:Int)],.str (S [z]))/\r < R/\c < W/\lG z
theorem Zg {R W:Nat}{kvs:Q0}{k:List Key}{v:V}(h:∀kv∈kvs,Bs R W kv)(hk:Bs R W (k,v)):∀kv∈putK kvs k v,Bs R W kv:=by
 unfold putK;intro kv hkv
 split at hkv
 ·obtain⟨p,hp,rfl⟩:=List.mem_map.mp hkv
  split
  ·rename_i e
   rw[e];exact hk
  ·exact h p hp
 ·rcases List.mem_append.mp hkv with z | z
  ·exact h _ z
  ·rw[List.mem_singleton.mp z];exact hk
theorem abL (kvs:Q0)(k:List Key)(v:V):0 < (putK kvs k v).length:=by
 unfold putK
 split
 ·rename_i e
  rw[List.length_map];cases kvs with
  | nil=>simp at e
  | cons=>simp
 ·simp
theorem abM {kvs:Q0}{k:List Key}(h:k∈kvs.map (·.1)):∃v,jH kvs k=some v/\(k,v)∈kvs:=by
 induction kvs with
 | nil=>simp at h
 | cons p r ih=>
  by_cases e:p.1=k
  ·exact⟨p.2,rZ e,by rw[<- e];exact List.mem_cons_self⟩
  ·rw[List.map_cons]at h
   rcases List.mem_cons.mp h with z | z
   ·exact absurd z.symm e
   ·obtain⟨v,a,b⟩:=ih z
    exact⟨v,by rw[su e];exact a,List.mem_cons_of_mem _ b⟩
noncomputable def rkK (k:List Key):Nat:=match k with
 | [.inl x,.inl y]=>x.toNat*1000+y.toNat
 | _=>0
noncomputable def Nq (H:Hp)(a:Addr):Nat:=match H a with
 | some (.tup [.int x,.int y])=>x.toNat*1000+y.toNat
 | _=>0
theorem abN {R W:Nat}{H:Hp}:∀{kvs:Q0} {bs:List Addr},(∀kv∈kvs,Bs R W kv)->Paired (λ(k:List Key) (b:Addr)=>H b=some (.tup (k.map kV))) (kvs.map (·.1)) bs->
  bs.map (Nq H)=(kvs.map (·.1)).map rkK/\∀b∈bs,∃r c:Nat,[Sum.inl (r:Int),Sum.inl (c:Int)]∈kvs.map (·.1)/\H b=some (.tup [.int r,.int c])/\Nq H b=r*1000+c/\r < R/\c < W:=by
 intro kvs
 induction kvs with
 | nil=>
  intro bs _ p;cases p;exact⟨rfl,λb hb=>by simp at hb⟩
 | cons kv kvs ih=>
  intro bs g p;cases p with
  | @cons _ b _ bs hb p=>
   obtain⟨i1,i2⟩:=ih (λx hx=>g x (List.mem_cons_of_mem _ hx)) p;obtain⟨r,c,z,rfl,r9,c9,z9⟩:=g kv List.mem_cons_self;have hb':H b=some (.tup [.int r,.int c]):=hb;have e1:Nq H b=r*1000+c:=by unfold Nq;rw[hb'];rfl
   refine⟨by rw[List.map_cons,List.map_cons,List.map_cons,i1,e1];rfl,λx hx=>?_⟩;rcases List.mem_cons.mp hx with y | y
   ·subst y
    exact⟨r,c,List.mem_cons_self,hb',e1,r9,c9⟩
   ·obtain⟨r,c,a1,a2⟩:=i2 x y
    exact⟨r,c,List.mem_cons_of_mem _ a1,a2⟩
theorem ae8 {R W:Nat}(hW:W<=9):∀{kvs:Q0},(∀kv∈kvs,Bs R W kv)->(kvs.map (·.1)).Nodup->((kvs.map (·.1)).map rkK).Nodup:=by
 intro kvs
 induction kvs with
 | nil=>exact λ_ _=>List.nodup_nil
 | cons kv kvs ih=>
  intro g nd;rw[List.map_cons]at nd;obtain⟨n1,n2⟩:=List.nodup_cons.mp nd;rw[List.map_cons,List.map_cons];refine List.nodup_cons.mpr ⟨λhm=>n1 ?_,ih (λx hx=>g x (List.mem_cons_of_mem _ hx)) n2⟩;obtain⟨k,hk,e⟩:=List.mem_map.mp hm;obtain⟨kv',hkv',rfl⟩:=List.mem_map.mp hk;obtain⟨r,c,z,rfl,r9,c9,_⟩:=g kv List.mem_cons_self;obtain⟨r',c',z',e',r9',c9',_⟩:=g kv' (List.mem_cons_of_mem _ hkv');rw[e']at e;have e2:r'*1000+c'=r*1000+c:=e;have er:r'=r:=by omega
  have ec:c'=c:=by omega
  have:kv'.1=[Sum.inl (r:Int),Sum.inl (c:Int)]:=by rw[e',er,ec]
  rw[<- this];exact hk
structure nC (H0 H:Hp)(ps:List Addr)(ts:List aY):Prop where
 len:ps.length=ts.length
 nd:ps.Nodup
 fr:∀p∈ps,H0 p=none
 at_:∀(i:Nat) (p:Addr) (t:aY),ps[i]?=some p->ts[i]?=some t->H p=some (.lst [.int t.1,.int t.2.1,.str (S [t.2.2])])
theorem nC.mv {H0 H H':Hp}{ps:List Addr}{ts:List aY}(h:nC H0 H ps ts)(k:∀p∈ps,H' p=H p):nC H0 H' ps ts:=
 ⟨h.len,h.nd,h.fr,λi p t h1 h2=>by rw[k p (List.mem_of_getElem? h1)];exact h.at_ i p t h1 h2⟩
theorem nC.Ji {H0 H H':Hp}{ps:List Addr}{ts:List aY}(h:nC H0 H ps ts)(k:Same H H'):nC H0 H' ps ts:=
 ⟨h.len,h.nd,h.fr,λi p t h1 h2=>k _ _ (h.at_ i p t h1 h2)⟩
theorem nC.set {H0 H:Hp}{ps:List Addr}{ts:List aY}(h:nC H0 H ps ts){k:Nat}(hk:k < ps.length)(t':aY):nC H0 (upd H ps[k] (.lst [.int t'.1,.int t'.2.1,.str (S [t'.2.2])])) ps (ts.set k t'):=by
 refine⟨by rw[List.length_set];exact h.len,h.nd,h.fr,λi p t h1 h2=>?_⟩;by_cases e:i=k
 ·subst e
  rw[List.getElem?_eq_getElem hk]at h1;rw[List.getElem?_set_self (by rw[<- h.len];exact hk)]at h2;rw[<- Option.some.inj h1,<- Option.some.inj h2,ao]
 ·rw[List.getElem?_set_ne (λz=>e z.symm)]at h2
  have hi:i < ps.length:=(List.getElem?_eq_some_iff.mp h1).1;have e1:p=ps[i]:=by rw[List.getElem?_eq_getElem hi]at h1;exact(Option.some.inj h1).symm
  rw[aP (by rw[e1];exact λz=>e ((List.getElem_inj h.nd).mp z))];exact h.at_ i p t h1 h2
theorem nC.get {H0 H:Hp}{ps:List Addr}{ts:List aY}(h:nC H0 H ps ts){k:Nat}(hk:k < ps.length):∃hk2:k < ts.length,H ps[k]=some (.lst [.int ts[k].1,.int ts[k].2.1,.str (S [ts[k].2.2])]):=
 ⟨by rw[<- h.len];exact hk,h.at_ k _ _ (List.getElem?_eq_getElem hk) (List.getElem?_eq_getElem _)⟩
theorem nC.sub {H0 H:Hp}{ps:List Addr}{ts:List aY}(h:nC H0 H ps ts)(a b:Nat)(hab:a<=b):nC H0 H (ps.take a++ps.drop b) (ts.take a++ts.drop b):=by
 refine⟨by rw[List.length_append,List.length_append,List.length_take,List.length_take,List.length_drop,List.length_drop,h.len],?_,λp hp=>?_,λi p t h1 h2=>?_⟩
 ·have:(ps.take a++ps.drop b).Sublist ps:=by
   have e:=List.take_append_drop a ps;rw[show ps.drop b=(ps.drop a).drop (b-a) by rw[List.drop_drop];congr 1;omega];exact(List.Sublist.append (List.Sublist.refl _) (List.drop_sublist _ _)).trans (by rw[e];exact List.Sublist.refl _)
  exact this.nodup h.nd
 ·rcases List.mem_append.mp hp with z | z
  ·exact h.fr p (List.mem_of_mem_take z)
  ·exact h.fr p (List.mem_of_mem_drop z)
 ·have hl:=h.len
  by_cases c:i < (ps.take a).length
  ·rw[List.getElem?_append_left c,List.getElem?_take_of_lt (by rw[List.length_take]at c;omega)]at h1
   rw[List.getElem?_append_left (by rw[List.length_take]at c ⊢;omega),List.getElem?_take_of_lt (by rw[List.length_take]at c;omega)]at h2;exact h.at_ i p t h1 h2
  ·rw[List.getElem?_append_right (by omega),List.getElem?_drop]at h1
   rw[List.getElem?_append_right (by rw[List.length_take]at c ⊢;omega),List.getElem?_drop]at h2;have e:(ps.take a).length=(ts.take a).length:=by rw[List.length_take,List.length_take,hl]
   rw[<- e]at h2;exact h.at_ _ p t h1 h2
noncomputable def W3:Sp:=λvs H Q _=>∃(t pr:Addr) (c:Int) (j3:List (List Nat)) (r w:Nat) (as:List Addr) (ts:List aY),vs=[.ref t,.int c,.ref pr]/\H pr=some (.tup (Ts j3))/\Blk r w j3/\1<=r/\r<=9/\1<=w/\w<=9/\H t=some (.tup (as.map V.ref))/\cM H as ts/\(∀t∈ts,inB r w t)/\0 < ts.length/\ts.length<=7/\
 ∀(p:Addr) (as:List Addr) (ts:List aY) (H':Hp),Same H H'->H' p=some (.tup (as.map V.ref))->cM H' as ts->(∀t∈ts,inB r w t)->(ts.map rk).Pairwise (· < ·)->0 < ts.length->ts.length<=7->Q (.ref p) H'
theorem abO (D:aJ K mg "_law_bent" Fv ["_law_laying","_law_cell","_law_rows_here"])(aU:mg "len"=none)(iJ:mg "list"=none)(bU:mg "tuple"=none)(kE:mg "sorted"=none):Def P w K mg base "_law_bent" 1 ["_law_laying","_law_cell","_law_rows_here"] W3:=by
 refine D.dh lF (λvs H Q E h=>?_) (λf cdv A outer s H vs Q E hr h=>?_)
 ·obtain⟨t,pr,c,j3,r,w,as,ts,rfl,_⟩:=h
  rfl
 ·obtain⟨t,pr,c,j3,r,w,as,ts,rfl,hpr,hb,r1,r9,w1,w9,ht,hL,hin,h0,h7,q⟩:=h
  have hu:=Rp hr;have hal:=hL.len;have gR:(Ts j3).length=r:=by rw[List.length_map,hb.len]
  have hr0:0 < j3.length:=by rw[hb.len];omega
  have hw0:j3[0].length=w:=hb.gJ _ (List.getElem_mem _);have hrw:r*w<=81:=Nat.mul_le_mul r9 w9;have afN:1<=r*w:=Nat.mul_le_mul r1 w1;refine⟨_,(au (vH (ix:=3) (ns:=["_law_one"]) lF.nd rfl (Or.inl rfl) rfl (dR.of ["_law_laying","_law_cell","_law_rows_here","_law_some","_law_at","_law_spot","_law_found","_law_row","_law_column","_law_sign_here"] [] (by kernel_rfl)) (dF (qv 0)) (λ_ _ _ _ _=>(oO (show (["_law_one","_law_laying","_law_cell","_law_rows_here","_law_some","_law_at","_law_spot","_law_found","_law_row","_law_column","_law_sign_here"]:List Str).Nodup by decide +kernel) rfl (by rfl))) (λ_ _ _ _ _=>cu) (λ_ _ _ _ _=>(eO (JG K) (by rfl) iJ PyProof.Rows.boot_list (aj (qv 0) ak)))) (au (aM (i:=4) lF.nd rfl (Or.inl rfl) (aG bT (aG cQ (qv 1) aq) (aH bI (by rfl) aU PySem.boot_len (aj (qv 3) ak)))) (au (aM (i:=5) lF.nd rfl (Or.inl rfl) (aG bT (aG cQ (qv 1) aq) (aG jr (aH bI (by rfl) aU PySem.boot_len (aj (qv 2) ak)) (aH bY (by rfl) aU PySem.boot_len (aj (aL aO (qv 2) aq (λ_ _=>rfl)) ak))))) (au (gD (bO (bx gq (aG bT (qv 1) aq) aq (bh _)) (aA (pY (aG cQ (qv 5) (aH bY (by rfl) aU PySem.boot_len (aj (aL aO (qv 2) aq (λ_ _=>rfl)) ak))) (sO (aL dj (qv 3) (qv 4) (λ_ _=>rfl)) aq set_list))) bB)) (au (gD (bO (bx gq (aG bT (qv 1) aq) aq (bh _)) (aA (pY (aG bT (qv 5) (aH bY (by rfl) aU PySem.boot_len (aj (aL aO (qv 2) aq (λ_ _=>rfl)) ak))) (sO (aL dj (qv 3) (qv 4) (λ_ _=>rfl)) aq set_list))) bB)) (au (gD (bO (bx gq (aG bT (qv 1) aq) aq (bh _)) (au (pY (aG cQ (qv 5) (aH bY (by rfl) aU PySem.boot_len (aj (aL aO (qv 2) aq (λ_ _=>rfl)) ak))) (sO (aL dj (qv 3) (qv 4) (λ_ _=>rfl)) aq set_list)) (aA (pY (aG bT (qv 5) (aH bY (by rfl) aU PySem.boot_len (aj (aL aO (qv 2) aq (λ_ _=>rfl)) ak))) (sO (aL dj (qv 3) (qv 4) (λ_ _=>rfl)) aq set_list)))) bB)) (au (gD (bO (QW.qt (iB (bx gq (aG bT (qv 1) aq) aq (bh _)) (jW (bx Rc (aH bI (by rfl) aU PySem.boot_len (aj (qv 3) ak)) aq (bh _))))) (aA (aM (i:=3) lF.nd rfl (Or.inl rfl) (aG KC (j9 A_ (qv 3) oM (lu (aG b_ aq (aG bT (qv 4) (aG fX (aH bI (by rfl) aU PySem.boot_len (aj (qv 3) ak)) aq))))) (j9 A_ (qv 3) (lu (aG b_ aq (aG bT (qv 4) (aG fX (aH bI (by rfl) aU PySem.boot_len (aj (qv 3) ak)) aq)))) oM)))) bB)) (au (aM (i:=6) lF.nd rfl (Or.inr rfl) Yt) (au (dM PassesOwn.never rfl (fG (qv 3)) (adN rfl (cB (bK (i:=7) lF.nd rfl (Or.inl rfl)) (cB (bK (i:=8) lF.nd rfl (Or.inl rfl)) (cB (bK (i:=9) lF.nd rfl (Or.inl rfl)) lq)))) (aA (Qa hu (qv 6) (bR (aj (qv 7) (aj (qv 8) ak))) (qv 9) rfl))) (aA (aX (eO gO (by rfl) bU PyProof.Rows.boot_tuple (aj (dJ (ns:=["_law_row","_law_column"]) rfl (dR.of ["_law_laying","_law_cell","_law_rows_here","_law_some","_law_at","_law_spot","_law_found",".7",".8","_law_sign_here"] [7,8] (by kernel_rfl)) (fG (aH K6 (by rfl) kE PyProof.Rows.boot_sorted (aj (eO (RJ rfl) (by rfl) iJ PyProof.Rows.boot_list (aj (qv 6) ak)) ak))) (λ_ _ _ _ _=>(rO K rfl (show (["_law_row","_law_column","_law_laying","_law_cell","_law_rows_here","_law_some","_law_at","_law_spot","_law_found",".7",".8","_law_sign_here"]:List Str).Nodup by decide +kernel) rfl rfl (by rfl) (by rfl))) (λ_ _ _ _ _=>cu) (λ_ _ _ _ _=>(bR (aj (qv 0) (aj (qv 1) (aj (aa7 hu (qv 8) (bR (aj (qv 0) (aj (qv 1) ak))) (λ_ _=>rfl)) ak)))))) ak))))))))))))),?_⟩;refine⟨_,rfl,t,rfl,⟨_,aK.of ht⟩,λL hL0=>qP (K:=K) (a:=t) (f:=dB [] 0) (tt:=fJ) (xs:=as.map V.ref) (λn ys H'=>∃ps:List Addr,ys=ps.map V.ref/\H' L=some (.lst ys)/\Same H H'/\nC H H' ps (ts.take n)/\L∉ps)
   ⟨[],rfl,ao,Same.upd hL0,⟨by simp,List.nodup_nil,λp h=>by simp at h,λi p t h=>by simp at h⟩,by simp⟩ (λn ys H' _ h=>by obtain⟨_,_,_,sm,_⟩:=h;exact aK.of (sm _ _ ht)) ?_ ?_⟩
  ·rintro n x ys H' hx ⟨ps,rfl,hL',sm,hl3,nL⟩
   have hn:n < as.length:=by have:=(List.getElem?_eq_some_iff.mp hx).1;simpa using this
   have hnt:n < ts.length:=by omega
   rw[List.getElem?_map,List.getElem?_eq_getElem hn]at hx;have hx:V.ref as[n]=x:=Option.some.inj hx;subst hx;obtain⟨_,en⟩:=fD (hL.mv sm) hnt;have hpl:ps.length=n:=by rw[hl3.len,List.length_take];omega
   refine Ry ⟨_,rfl,as[n],_,rfl,.inr (aK.of en),λp hp=>?_⟩;have nLp:L≠p:=λz=>by rw[<- z,hL']at hp;cases hp
   have npp:p∉ps:=λz=>by
    obtain⟨k,hk,e⟩:=List.mem_iff_getElem.mp z;obtain⟨_,e2⟩:=hl3.get hk;rw[e,hp]at e2;cases e2
   have kp:Same H' (upd H' p (HO.lst [.int ts[n].1,.int ts[n].2.1,.str (S [ts[n].2.2])])):=Same.upd hp;refine⟨by rw[aP nLp];exact hL',by rw[List.length_map];exact aD (by omega),cX.mk (by rw[List.length_map];exact hn) ⟨ps++[p],by simp,ao,(sm.trans kp).bJ hL0,?_,?_⟩⟩
   ·rw[show ts.take (n+1)=ts.take n++[ts[n]] by rw[List.take_add_one,List.getElem?_eq_getElem hnt];rfl]
    refine nC.mv (H:=upd H' p (HO.lst [.int ts[n].1,.int ts[n].2.1,.str (S [ts[n].2.2])])) ⟨by simp[hl3.len];omega,?_,λy hy=>?_,λi y u h1 h2=>?_⟩ λy hy=>aP λz=>?_
    ·rw[List.nodup_append]
     refine⟨hl3.nd,by simp,λa ha b hb=>?_⟩;rw[List.mem_singleton.mp hb];exact λz=>npp (z ▸ ha)
    ·rcases List.mem_append.mp hy with z | z
     ·exact hl3.fr y z
     ·rw[List.mem_singleton.mp z];exact sm.free hp
    ·by_cases ci:i < ps.length
     ·rw[List.getElem?_append_left ci]at h1
      rw[List.getElem?_append_left (by rw[<- hl3.len];exact ci)]at h2;exact kp _ _ (hl3.at_ i y u h1 h2)
     ·rw[List.getElem?_append_right (by omega)]at h1
      rw[List.getElem?_append_right (by rw[<- hl3.len];omega),<- hl3.len]at h2
      match i-ps.length,h1,h2 with
      | 0,h1,h2=>
       rw[<- Option.some.inj h1,<- Option.some.inj h2];exact ao
      | m+1,h1,_=>simp at h1
    ·rcases List.mem_append.mp hy with u | u
     ·exact nL (z ▸ u)
     ·exact nLp (z.symm.trans (List.mem_singleton.mp u))
   ·intro z
    rcases List.mem_append.mp z with u | u
    ·exact nL u
    ·exact nLp (List.mem_singleton.mp u)
  rintro ys H1 ⟨ps,rfl,hL1,s1,hl3,nL⟩;rw[List.length_map,hal,List.take_length]at hl3;have hpl:ps.length=ts.length:=hl3.len;have hpm:(ps.map V.ref).length=ps.length:=List.length_map ..;obtain⟨k,ek,hk⟩:∃k:Nat,c/5%(((ps.map V.ref).length:Nat):Int)=(k:Int)/\k < ps.length:=by
   have a1:=Int.emod_nonneg (c/5) (show (((ps.map V.ref).length:Nat):Int)≠0 by omega);have a2:=Int.emod_lt_of_pos (c/5) (show (0:Int) < (((ps.map V.ref).length:Nat):Int) by omega);exact⟨(c/5%(((ps.map V.ref).length:Nat):Int)).toNat,by omega,by omega⟩
  refine⟨_,rfl,_,_,rfl,rfl,⟨by decide,by decide⟩,_,rfl,L,_,rfl,.inl (aN.of hL1),_,_,rfl,rfl,(by show (0:Int) < (((ps.map V.ref).length:Nat):Int);omega),?_⟩;dsimp only;rw[ek];have Nk:=s1 _ _ hpr;have em:((Ts j3).length:Int)*((j3[0].length:Nat):Int)=((r*w:Nat):Int):=by rw[gR,hw0];exact(Int.natCast_mul r w).symm
  obtain⟨sp,Qt,hsp⟩:∃sp:Nat,c/40%((r*w:Nat):Int)=(sp:Int)/\sp < r*w:=by
   have a1:=Int.emod_nonneg (c/40) (show ((r*w:Nat):Int)≠0 by omega);have a2:=Int.emod_lt_of_pos (c/40) (show (0:Int) < ((r*w:Nat):Int) by omega);exact⟨(c/40%((r*w:Nat):Int)).toNat,by omega,by omega⟩
  refine⟨_,rfl,_,_,rfl,rfl,⟨by decide,by decide⟩,_,rfl,pr,_,rfl,.inr (aK.of Nk),_,rfl,pr,_,_,.str (S j3[0]),rfl,rfl,aK.of Nk,aB (j:=0) (d_ (by simp[hr0])),_,rfl,Nat.le_of_lt (aD (by omega)),_,_,rfl,rfl,.inl ⟨by omega,by omega⟩,_,_,rfl,rfl,(by show (0:Int) < ((Ts j3).length:Int)*((j3[0].length:Nat):Int);rw[em];omega),?_⟩;dsimp only;rw[em,Qt];have hdiv:sp/w < r:=Nat.div_lt_of_lt_mul (by rw[Nat.mul_comm];exact hsp);have hmod:sp%w < w:=Nat.mod_lt _ (by omega);have ediv:(sp:Int)/((j3[0].length:Nat):Int)=((sp/w:Nat):Int):=by rw[hw0];exact(Int.natCast_ediv sp w).symm
  have emod:(sp:Int)%((j3[0].length:Nat):Int)=((sp%w:Nat):Int):=by rw[hw0];exact(Int.natCast_emod sp w).symm
  have St1:∃S1:St->Hp->Prop,S1=λσ H'=>∃qy:List aY,σ=[some (.ref t),some (.int c),some (.ref pr),some (.ref L),some (.int (k:Int)),some (.int (sp:Int)),none,none,none,none]/\Same H H'/\H' L=some (.lst (ps.map V.ref))/\nC H H' ps qy/\(∀t∈qy,inB r w t)/\qy.length=ts.length:=⟨_,rfl⟩
  obtain⟨S1,Gf⟩:=St1;have nLk:L≠ps[k]:=λz=>nL (by rw[z];exact List.getElem_mem _);have Nr:∀(qy:List aY) (H':Hp),Same H H'->H' L=some (.lst (ps.map V.ref))->nC H H' ps qy->(∀t∈qy,inB r w t)->qy.length=ts.length->∀(i0 j0:Nat),i0 < r->j0 < w->∀(hk2:k < qy.length),S1 [some (.ref t),some (.int c),some (.ref pr),some (.ref L),some (.int (k:Int)),some (.int (sp:Int)),none,none,none,none] (upd H' ps[k] (.lst [.int (i0:Int),.int (j0:Int),.str (S [qy[k].2.2])])):=by
   intro qy H' sm hL' ad9 Dk hlen2 i0 j0 hi0 hj0 hk2;rw[Gf];refine⟨qy.set k (i0,j0,qy[k].2.2),rfl,sm.bJ (ad9.fr _ (List.getElem_mem _)),by rw[aP nLk];exact hL',ad9.set hk (i0,j0,qy[k].2.2),λu hu=>?_,by rw[List.length_set];exact hlen2⟩;rcases List.mem_or_eq_of_mem_set hu with z | z
   ·exact Dk u z
   ·rw[z];exact⟨hi0,hj0,(Dk _ (List.getElem_mem hk2)).2.2⟩
  have lz:j3[0].length<=sizeLine:=Nat.le_of_lt (aD (by omega));have lk3:∀x y z:V,([x,y,z]:List V).length=3:=λ_ _ _=>rfl;refine⟨S1,?_,?_⟩
  ·refine⟨_,rfl,_,_,rfl,rfl,(by show (0:Int) < 5;decide),rfl,_,rfl,?_⟩
   refine jJ (λ_=>?_) (λ_=>by rw[Gf];exact⟨ts,rfl,s1,hL1,hl3,hin,rfl⟩);obtain⟨hk2,ekk⟩:=hl3.get hk;refine⟨_,rfl,_,rfl,pr,_,_,.str (S j3[0]),rfl,rfl,aK.of Nk,aB (j:=0) (d_ (by simp[hr0])),_,rfl,lz,_,_,rfl,rfl,⟨by omega,by omega⟩,_,rfl,_,rfl,L,_,_,.ref ps[k],rfl,rfl,aN.of hL1,aB (by simp[hk]),ps[k],_,_,0,rfl,rfl,ekk,rfl,?_⟩;dsimp only;rw[ediv];exact Nr ts H1 s1 hL1 hl3 hin rfl (sp/w) ts[k].2.1 hdiv (hin _ (List.getElem_mem hk2)).2.1 hk2
  intro σ2 H2 hS;rw[Gf]at hS;obtain⟨qy,rfl,s2,hL2,Tc,Dk,hlen2⟩:=hS;refine⟨S1,?_,?_⟩
  ·refine⟨_,rfl,_,_,rfl,rfl,(by show (0:Int) < 5;decide),rfl,_,rfl,?_⟩
   refine jJ (λ_=>?_) (λ_=>by rw[Gf];exact⟨qy,rfl,s2,hL2,Tc,Dk,hlen2⟩);obtain⟨hk2,ekk⟩:=Tc.get hk;refine⟨_,rfl,_,rfl,pr,_,_,.str (S j3[0]),rfl,rfl,aK.of (s2 _ _ hpr),aB (j:=0) (d_ (by simp[hr0])),_,rfl,lz,_,_,rfl,rfl,(by show (0:Int) < ((j3[0].length:Nat):Int);omega),_,rfl,_,rfl,L,_,_,.ref ps[k],rfl,rfl,aN.of hL2,aB (by simp[hk]),ps[k],_,_,1,rfl,rfl,ekk,rfl,?_⟩;dsimp only;rw[emod];exact Nr qy H2 s2 hL2 Tc Dk hlen2 qy[k].1 (sp%w) (Dk _ (List.getElem_mem hk2)).1 hmod hk2
  intro σ3 H3 hS;rw[Gf]at hS;obtain⟨zJ,rfl,s3,Lj,Td,Tf,hlen3⟩:=hS;refine⟨S1,?_,?_⟩
  ·refine⟨_,rfl,_,_,rfl,rfl,(by show (0:Int) < 5;decide),rfl,_,rfl,?_⟩
   refine jJ (λ_=>?_) (λ_=>by rw[Gf];exact⟨zJ,rfl,s3,Lj,Td,Tf,hlen3⟩);obtain⟨hk2,ekk⟩:=Td.get hk;refine⟨_,rfl,_,rfl,pr,_,_,.str (S j3[0]),rfl,rfl,aK.of (s3 _ _ hpr),aB (j:=0) (d_ (by simp[hr0])),_,rfl,lz,_,_,rfl,rfl,⟨by omega,by omega⟩,_,rfl,_,rfl,L,_,_,.ref ps[k],rfl,rfl,aN.of Lj,aB (by simp[hk]),ps[k],_,_,0,rfl,rfl,ekk,rfl,?_⟩;dsimp only;rw[ediv];have hS4:=Nr zJ H3 s3 Lj Td Tf hlen3 (sp/w) zJ[k].2.1 hdiv (Tf _ (List.getElem_mem hk2)).2.1 hk2;have e4:upd H3 ps[k] (.lst [.int ((sp/w:Nat):Int),.int (zJ[k].2.1:Int),.str (S [zJ[k].2.2])]) ps[k]=some (.lst [.int ((sp/w:Nat):Int),.int (zJ[k].2.1:Int),.str (S [zJ[k].2.2])]):=ao;rw[Gf]at hS4;obtain⟨Q5,_,s4,qm,Dl,Dm,Tg⟩:=hS4;show Ck _ _ _ _ (upd H3 ps[k] (.lst [.int ((sp/w:Nat):Int),.int (zJ[k].2.1:Int),.str (S [zJ[k].2.2])]));generalize upd H3 ps[k] (.lst [.int ((sp/w:Nat):Int),.int (zJ[k].2.1:Int),.str (S [zJ[k].2.2])])=H4 at e4 s4 qm Dl;obtain⟨hk4,ad_⟩:=Dl.get hk;rw[ad_]at e4;refine⟨_,rfl,_,rfl,pr,_,_,.str (S j3[0]),rfl,rfl,aK.of (s4 _ _ hpr),aB (j:=0) (d_ (by simp[hr0])),_,rfl,lz,_,_,rfl,rfl,(by show (0:Int) < ((j3[0].length:Nat):Int);omega),_,rfl,_,rfl,L,_,_,.ref ps[k],rfl,rfl,aN.of qm,aB (by simp[hk]),ps[k],_,_,1,rfl,rfl,ad_,rfl,?_⟩;dsimp only;rw[emod];exact Nr Q5 H4 s4 qm Dl Dm Tg Q5[k].1 (sp%w) (Dm _ (List.getElem_mem hk4)).1 hmod hk4
  intro σ4 H4 hS;rw[Gf]at hS;obtain⟨Q5,rfl,s4,qm,Dl,Dm,Tg⟩:=hS;clear Nr Gf;refine⟨λσ H'=>∃(M:Addr) (qs:List Addr) (zK:List aY),σ=[some (.ref t),some (.int c),some (.ref pr),some (.ref M),some (.int (k:Int)),some (.int (sp:Int)),none,none,none,none]/\Same H H'/\H' M=some (.lst (qs.map V.ref))/\nC H H' qs zK/\(∀t∈zK,inB r w t)/\0 < zK.length/\zK.length<=7,?_,?_⟩
  ·refine⟨_,rfl,_,_,rfl,rfl,(by show (0:Int) < 5;decide),rfl,_,rfl,?_⟩
   have stay:∃(M:Addr) (qs:List Addr) (zK:List aY),([some (.ref t),some (.int c),some (.ref pr),some (.ref L),some (.int (k:Int)),some (.int (sp:Int)),none,none,none,none]:St)=[some (.ref t),some (.int c),some (.ref pr),some (.ref M),some (.int (k:Int)),some (.int (sp:Int)),none,none,none,none]/\Same H H4/\H4 M=some (.lst (qs.map V.ref))/\nC H H4 qs zK/\(∀t∈zK,inB r w t)/\0 < zK.length/\zK.length<=7:=⟨L,ps,Q5,rfl,s4,qm,Dl,Dm,by omega,by omega⟩
   refine jJ (λ_=>?_) (λ_=>aV stay);refine⟨_,rfl,L,_,rfl,.inl (aN.of qm),_,_,rfl,rfl,_,rfl,?_⟩;by_cases h2:(2:Int) < (((ps.map V.ref).length:Nat):Int)
   ·rw[decide_eq_true h2]
    obtain⟨m,em2,hm2⟩:∃m:Nat,(k:Int)%((((ps.map V.ref).length:Nat):Int)-2)=(m:Int)/\m+2 < ps.length:=by
     have a1:=Int.emod_nonneg (k:Int) (show (((ps.map V.ref).length:Nat):Int)-2≠0 by omega);have a2:=Int.emod_lt_of_pos (k:Int) (show (0:Int) < (((ps.map V.ref).length:Nat):Int)-2 by omega);exact⟨((k:Int)%((((ps.map V.ref).length:Nat):Int)-2)).toNat,by omega,by omega⟩
    refine bw ⟨_,rfl,_,rfl,_,rfl,L,_,rfl,.inl (aN.of qm),_,_,rfl,rfl,_,_,rfl,rfl,(by show (0:Int) < (((ps.map V.ref).length:Nat):Int)-2;omega),_,_,rfl,rfl,_,rfl,L,_,rfl,aN.of qm,λM1 hM1=>?_⟩;dsimp only;rw[em2,show (1:Int)+(m:Int)=((1+m:Nat):Int) by omega,abK (by omega),<- List.map_take];have k1:Same H4 (upd H4 M1 (HO.lst ((ps.take (1+m)).map V.ref))):=Same.upd hM1;have e1:upd H4 M1 (HO.lst ((ps.take (1+m)).map V.ref)) M1=some (.lst ((ps.take (1+m)).map V.ref)):=ao;generalize upd H4 M1 (HO.lst ((ps.take (1+m)).map V.ref))=H5 at k1 e1 ⊢;refine⟨_,rfl,_,rfl,_,rfl,L,_,rfl,.inl (aN.of (k1 _ _ qm)),_,_,rfl,rfl,_,_,rfl,rfl,(by show (0:Int) < (((ps.map V.ref).length:Nat):Int)-2;omega),_,_,rfl,rfl,_,rfl,L,_,rfl,aN.of (k1 _ _ qm),λM2 iI=>?_⟩;dsimp only;rw[em2,show (2:Int)+(m:Int)=((2+m:Nat):Int) by omega,W2 (by omega),<- List.map_drop];have k2:Same H5 (upd H5 M2 (HO.lst ((ps.drop (2+m)).map V.ref))):=Same.upd iI;have e2:upd H5 M2 (HO.lst ((ps.drop (2+m)).map V.ref)) M2=some (.lst ((ps.drop (2+m)).map V.ref)):=ao;have e1':=k2 _ _ e1;generalize upd H5 M2 (HO.lst ((ps.drop (2+m)).map V.ref))=H6 at k2 e2 e1' ⊢;refine⟨M1,M2,_,_,rfl,rfl,e1',e2,Nat.le_of_lt (aD (by rw[List.length_map,List.length_map,List.length_take,List.length_drop];omega)),λM3 yG=>?_⟩;have k3:Same H6 (upd H6 M3 (HO.lst ((ps.take (1+m)).map V.ref++(ps.drop (2+m)).map V.ref))):=Same.upd yG;have s47:=(k1.trans k2).trans k3;refine⟨M3,ps.take (1+m)++ps.drop (2+m),Q5.take (1+m)++Q5.drop (2+m),rfl,s4.trans s47,by rw[ao,List.map_append],(Dl.Ji s47).sub _ _ (by omega),λu hu=>?_,?_,?_⟩
    ·rcases List.mem_append.mp hu with z | z
     ·exact Dm u (List.mem_of_mem_take z)
     ·exact Dm u (List.mem_of_mem_drop z)
    ·rw[List.length_append,List.length_take];omega
    ·rw[List.length_append,List.length_take,List.length_drop];omega
   ·rw[decide_eq_false h2]
    exact aV stay
  clear qm Dl Dm Tg s4 Td Lj Tf hlen3 s3 Tc hL2 Dk hlen2 s2;rintro σ5 H5 ⟨M,qs,zK,rfl,s5,Jy,aea,afO,h05,h75⟩;have hql:=aea.len;intro d hd;have s6:Same H5 (upd H5 d (.dT [])):=Same.upd hd;have hd0:H d=none:=s5.free hd;refine⟨_,rfl,M,rfl,⟨_,aN.of (s6 _ _ Jy)⟩,mH (K:=K) (a:=M) (xs:=qs.map V.ref) (λn σ H'=>∃(v7 v8 v9:Option V) (kvs:Q0),σ=[some (.ref t),some (.int c),some (.ref pr),some (.ref M),some (.int (k:Int)),some (.int (sp:Int)),some (.ref d),v7,v8,v9]/\Same H5 H'/\H' d=some (.dT kvs)/\(∀kv∈kvs,Bs r w kv)/\kvs.length<=n/\(0 < n->0 < kvs.length))
   ⟨none,none,none,[],rfl,s6,ao,λkv h=>by simp at h,Nat.le_refl _,λz=>absurd z (by decide)⟩ (λn σ H' _ h=>by obtain⟨_,_,_,_,_,sm,_⟩:=h;exact aN.of (sm _ _ Jy)) ?_ ?_⟩
  ·rintro n x σ H6 hx ⟨v7,v8,v9,kvs,rfl,sm,hd6,hg,hkl,_⟩
   have hn:n < qs.length:=by have:=(List.getElem?_eq_some_iff.mp hx).1;simpa using this
   rw[List.getElem?_map,List.getElem?_eq_getElem hn]at hx;have hx:V.ref qs[n]=x:=Option.some.inj hx;subst hx;obtain⟨hn5,en⟩:=aea.get hn;obtain⟨b1,b2,b3⟩:=afO _ (List.getElem_mem hn5);generalize zK[n]=z at en b1 b2 b3;refine⟨qs[n],_,rfl,aN.of (sm _ _ en),rfl,_,_,rfl,_,_,rfl,_,_,rfl,rfl,?_⟩;refine⟨_,rfl,_,rfl,_,rfl,_,rfl,by show 2<=sizeLine;decide,λb hb=>?_⟩;have ndb:d≠b:=λy=>by rw[<- y,hd6]at hb;cases hb
   refine⟨d,_,rfl,wg.t (k:=[Sum.inl (z.1:Int),Sum.inl (z.2.1:Int)]) (by rw[aP ndb];exact hd6) ao (aD (by omega)),?_⟩;refine⟨_,_,_,putK kvs [Sum.inl (z.1:Int),Sum.inl (z.2.1:Int)] (.str (S [z.2.2])),rfl,(sm.bJ (sm.free hb)).bJ hd,ao,Zg hg ⟨z.1,z.2.1,z.2.2,rfl,b1,b2,b3⟩,?_,λ_=>abL _ _ _⟩;have:=uP kvs [Sum.inl (z.1:Int),Sum.inl (z.2.1:Int)] (.str (S [z.2.2]));omega
  ·rintro σ H2 ⟨v7,v8,v9,kvs,rfl,sm,hd2,hg,hkl,hkp⟩
   rw[List.length_map]at hkl hkp;refine⟨_,rfl,d,kvs,rfl,hd2,λnd L bs hL pb=>?_⟩;obtain⟨e1,e2⟩:=abN hg pb;have tD:bs.length=kvs.length:=by have:=congrArg List.length e1;simpa using this
   have hk7:kvs.length<=7:=by omega
   have hk1:1<=kvs.length:=hkp (by omega);have s3:Same H2 (upd H2 L (.lst (bs.map V.ref))):=Same.upd hL;refine⟨L,bs,Nq H2,rfl,aN.of ao,by omega,λb hb=>?_,by rw[e1];exact ae8 w9 hg nd,λL2 bs' hL2 pm pw=>?_⟩
   ·obtain⟨r',c',_,a2,a3,r9',c9'⟩:=e2 b hb
    exact⟨r',c',[],s3 _ _ a2,by omega,a3,.inl rfl⟩
   ·have s4:=s3.bJ (o:=.lst (bs'.map V.ref)) (s3.free hL2)
    refine⟨L2,rfl,⟨_,aN.of ao⟩,λM hM=>lU (f:=dB [7,8] 0) (tt:=fJ) (xs:=bs'.map V.ref) (λi ys H6=>∃(as:List Addr) (ts:List aY),ys=as.map V.ref/\as.length=i/\H6 M=some (.lst ys)/\Same (upd (upd H2 L (.lst (bs.map V.ref))) L2 (.lst (bs'.map V.ref))) H6/\cM H6 as ts/\ts.map rk=(bs'.take i).map (Nq H2)/\∀t∈ts,inB r w t)
     ⟨[],[],rfl,rfl,ao,Same.upd hM,cM.nil,rfl,λt h=>by simp at h⟩ (λi ys H6 _ h=>by obtain⟨_,_,_,_,_,qu,_⟩:=h;exact aN.of (qu _ _ ao)) ?_ ?_⟩
    ·rintro i x ys H6 hx ⟨as,ts,rfl,hal,hM6,qu,hB,hrk,Zh⟩
     rw[List.getElem?_map]at hx;have hi:i < bs'.length:=by
      rcases Nat.lt_or_ge i bs'.length with z | z
      ·exact z
      ·rw[List.getElem?_eq_none z]at hx;cases hx
     rw[List.getElem?_eq_getElem hi]at hx;have hx:V.ref bs'[i]=x:=Option.some.inj hx;obtain⟨r',c',hkey,a2,a3,r9',c9'⟩:=e2 bs'[i] (pm.mem_iff.mp (List.getElem_mem _));obtain⟨v,hv,LC⟩:=abM hkey;obtain⟨r'',c'',z,ez,_,_,z9⟩:=hg _ LC;have ev:v=.str (S [z]):=(Prod.mk.inj ez).2;subst ev;have sd:Same H2 H6:=s4.trans qu;refine Rz hx.symm (aK.of (sd _ _ a2)) ?_;refine⟨_,rfl,_,rfl,_,rfl,_,rfl,_,rfl,by show 2<=sizeLine;decide,λb hb=>?_⟩;have ndb:d≠b:=λy=>by rw[<- y,sd _ _ hd2]at hb;cases hb
     refine⟨d,.str (S [z]),rfl,hv ▸ sy.t (k:=[Sum.inl (r':Int),Sum.inl (c':Int)]) (by rw[aP ndb];exact sd _ _ hd2) ao,by show 3<=sizeLine;decide,λg hgn=>?_⟩;have s7:Same H6 (upd H6 b (.tup [.int r',.int c'])):=Same.upd hb;have s8:=s7.bJ (o:=.tup [.int r',.int c',.str (S [z])]) (s7.free hgn);have hM8:=s8 _ _ hM6;refine⟨hM8,by rw[List.length_map,hal];exact aD (by have:=pm.length_eq;omega),cX.mk (by rw[List.length_map];exact hi) ⟨as++[g],ts++[(r',c',z)],by simp,by simp[hal],by rw[ao],?_,?_,?_,?_⟩⟩
     ·exact(qu.trans s8).bJ hM
     ·refine cM.snoc ((hB.mv s8).ji (Ls hM8)) ?_
      exact Ls hM8 _ _ ao
     ·rw[List.map_append,hrk,List.take_succ,List.getElem?_eq_getElem hi]
      rw[List.map_append];show _++[r'*1000+c']=_++[Nq H2 bs'[i]]
      rw[a3]
     ·intro t ht
      rcases List.mem_append.mp ht with y | y
      ·exact Zh t y
      ·rw[List.mem_singleton.mp y];exact⟨r9',c9',z9⟩
    ·rintro ys H6 ⟨as,ts,rfl,hal,hM6,qu,hB,hrk,Zh⟩
     rw[List.length_map]at hal;rw[List.take_of_length_le (by rw[List.length_map];exact Nat.le_refl _)]at hrk;have afY:=pm.length_eq;have afZ:=hB.len;refine⟨M,_,rfl,.inl ⟨aN.of hM6,λl hl=>?_⟩⟩;have sl:Same H6 (upd H6 l (.tup (as.map V.ref))):=Same.upd hl;exact q l as ts _ (((s5.trans sm).trans (s4.trans qu)).trans sl) ao (hB.mv sl) Zh (by rw[hrk];exact pw) (by omega) (by omega)
end
end My
end
section
namespace My
open PySem L2
section
variable {P:Program}{w:World}{K:W.Frag}{mg:Str->Option Value}{base:Heap}
theorem Zi {R:List (List Nat)}{a b c d i j i' j':Nat}(h:FW R a b c d i j)(g:FW R a b c d i' j'):i=i'/\j=j':=by
 have e:i=i':=by
  rcases Nat.lt_trichotomy i i' with z | z | z
  ·exact absurd h.fr (g.up i j h.i1 z h.j1 h.j2)
  ·exact z
  ·exact absurd g.fr (h.up i' j' g.i1 z g.j1 g.j2)
 subst e;refine⟨rfl,?_⟩;rcases Nat.lt_trichotomy j j' with z | z | z
 ·exact absurd h.fr (g.le j h.j1 z)
 ·exact z
 ·exact absurd g.fr (h.le j' g.j1 z)
theorem Nt {j3:List (List Nat)}{r w bi bj:Nat}{ws:List (List Nat)}{rack:List Nat}{ts:List aY}{d x y:Nat}{v:Vd}(h:wW j3 r w bi bj ts d x y)(h9:d≠9)(g:tK j3 r w bi bj ws rack ts v) :
  (d=1/\v=.jz x y)\/(d=2/\v=.jB)\/(d=3/\v=.gap x y)\/(d=4/\v=.jC):=by
 cases h with
 | jz d1=>
  cases g with
  | jz h=>rw[d1]at h;cases h;exact .inl ⟨rfl,rfl⟩
  | jB h1 _=>rw[d1]at h1;cases h1
  | gap h1 _ _=>rw[d1]at h1;cases h1
  | jC h1 _ _ _=>rw[d1]at h1;cases h1
  | lY h1 _ _ _ _=>rw[d1]at h1;cases h1
  | nw h1 _ _ _ _ _=>rw[d1]at h1;cases h1
  | ok h1 _ _ _ _ _=>rw[d1]at h1;cases h1
 | jB d1 d2=>
  cases g with
  | jz h=>rw[d1]at h;cases h
  | jB _ _=>exact .inr (.inl ⟨rfl,rfl⟩)
  | gap _ h2 _=>rw[d2]at h2;cases h2
  | jC _ h2 _ _=>rw[d2]at h2;cases h2
  | lY _ h2 _ _ _=>rw[d2]at h2;cases h2
  | nw _ h2 _ _ _ _=>rw[d2]at h2;cases h2
  | ok _ h2 _ _ _ _=>rw[d2]at h2;cases h2
 | gap d1 d2 d3=>
  cases g with
  | jz h=>rw[d1]at h;cases h
  | jB _ h2=>rw[d2]at h2;cases h2
  | gap _ _ h3=>obtain⟨e1,e2⟩:=Zi d3 h3;subst e1 e2;exact .inr (.inr (.inl ⟨rfl,rfl⟩))
  | jC _ _ h3 _=>exact absurd d3.fr (h3 _ _ d3.i1 d3.i2 d3.j1 d3.j2)
  | lY _ _ h3 _ _=>exact absurd d3.fr (h3 _ _ d3.i1 d3.i2 d3.j1 d3.j2)
  | nw _ _ h3 _ _ _=>exact absurd d3.fr (h3 _ _ d3.i1 d3.i2 d3.j1 d3.j2)
  | ok _ _ h3 _ _ _=>exact absurd d3.fr (h3 _ _ d3.i1 d3.i2 d3.j1 d3.j2)
 | jC d1 d2 d3 d4=>
  cases g with
  | jz h=>rw[d1]at h;cases h
  | jB _ h2=>rw[d2]at h2;cases h2
  | gap _ _ h3=>exact absurd h3.fr (d3 _ _ h3.i1 h3.i2 h3.j1 h3.j2)
  | jC _ _ _ _=>exact .inr (.inr (.inr ⟨rfl,rfl⟩))
  | lY _ _ _ h4 _=>rw[d4]at h4;cases h4
  | nw _ _ _ h4 _ _=>rw[d4]at h4;cases h4
  | ok _ _ _ h4 _ _=>rw[d4]at h4;cases h4
 | ok _ _ _ _=>exact absurd rfl h9
theorem W4 {j3:List (List Nat)}{r w bi bj:Nat}{ws:List (List Nat)}{rack:List Nat}{ts:List aY}{x y:Nat}{v:Vd}(h:wW j3 r w bi bj ts 9 x y)(g:tK j3 r w bi bj ws rack ts v) :
  (∃t,v=.lY t/\vR (rack.map λc=>[c]) (ts.map (·.2.2))=.inl t)\/(∃left,vR (rack.map λc=>[c]) (ts.map (·.2.2))=.inr left/\((∃l,v=.nw l/\vU j3 ws ts=some l)\/(v=.ok/\vU j3 ws ts=none))):=by
 cases h with
 | ok d1 d2 d3 d4=>
  cases g with
  | jz h=>rw[d1]at h;cases h
  | jB _ h=>rw[d2]at h;cases h
  | gap _ _ h=>exact absurd h.fr (d3 _ _ h.i1 h.i2 h.j1 h.j2)
  | jC _ _ _ h=>rw[d4]at h;cases h
  | lY _ _ _ _ h=>exact .inl ⟨_,rfl,h⟩
  | nw _ _ _ _ h5 h=>obtain⟨left,e⟩:=h5;exact .inr ⟨left,e,.inl ⟨_,rfl,h⟩⟩
  | ok _ _ _ _ h5 h=>obtain⟨left,e⟩:=h5;exact .inr ⟨left,e,.inr ⟨rfl,h⟩⟩
theorem Zj {j3:List (List Nat)}{r w bi bj:Nat}{ws:List (List Nat)}{ts:List aY}{x y:Nat}{v:Vd}(h:wW j3 r w bi bj ts 9 x y)(g:tK j3 r w bi bj ws ((ts.map (·.2.2)).map cP) ts v):(∃l,v=.nw l/\vU j3 ws ts=some l)\/(v=.ok/\vU j3 ws ts=none):=by
 rcases W4 h g with⟨t,_,e⟩ | ⟨_,_,e⟩
 ·rw[Np]at e;cases e
 ·exact e
theorem aeb {j3 ws:List (List Nat)}{ts:List aY}(h:∀q∈fB j3 ts,wU q∈ws){l:List Nat}(e:vU j3 ws ts=some l):fB j3 ts=[]:=by
 unfold vU at e
 split at e
 ·assumption
 ·rw[Bo λq hq=>by unfold MN;rw[decide_eq_true (h q hq)];rfl]at e
  cases e
noncomputable def uD.all (c:uD):List Addr:=[c.lay,c.jz,c.jB,c.gap,c.jC,c.lY,c.nw]
structure VdF (K:W.Frag)(c:uD)(os:List Addr):Prop where
 lay:pN K c.all os c.lay 0
 jz:pN K c.all os c.jz 1
 jB:pN K c.all os c.jB 2
 gap:pN K c.all os c.gap 3
 jC:pN K c.all os c.jC 4
 lY:pN K c.all os c.lY 5
 nw:pN K c.all os c.nw 6
 non:W.kitOne K (.type "NoneType") (.ref c.lay)=some false
theorem Gg (i j:Nat):List.lookup ("row":Str) (Cd i j)=some (V.int (i:Int)):=by
 rw[lO,if_neg (by decide)];rfl
theorem Gh (i j:Nat):List.lookup ("column":Str) (Cd i j)=some (V.int (j:Int)):=by
 rw[lO,if_pos rfl]
noncomputable def Ti (K:W.Frag)(C:Addr):Prop:=W.hasDictIn K C=true/\W.findIn K (.ref C) "row"=some none/\W.findIn K (.ref C) "column"=some none
noncomputable def Hl (K : W.Frag)(c : uD)(os : List Addr) : Sp := λvs H Q _ => ∃(x : V) (T Wt : Addr) (b1 : List Addr) (W : List mV) (d i j : Nat), vs = [x, .ref T, .ref Wt] /\ H T = some (.tup [.int d, .int i, .int j]) /\ H Wt = some (.tup (b1.map V.ref)) /\ QL H b1 W /\ (∀q ∈ W, ∀c ∈ q.2.2.2, c < 128) /\
  ((d = 9 /\ x = .non) \/ (d = 9 /\ W = [] /\ ∃a dd, x = .ref a /\ H a = some (.ext (mL a (.ref c.nw) dd)) /\ gF H dd) \/
   (d ≠ 9 /\ ∃a C dd, x = .ref a /\ H a = some (.ext (mL a (.ref C) dd)) /\ gF H dd /\ pN K c.all os C d /\ ((d ≠ 1 /\ d ≠ 3) \/ (Ti K C /\ ∃dx, dd = some dx /\ H dx = some (.ext (XD dx (Cd i j))))))) /\
  ∀H', Same H H' -> Q (.bl true) H'
open Classical in
theorem Zk {c:uD}{os:List Addr}(D:aJ K mg "_law_right" Bk ["_law_caught_here","_law_due","_law_words_here"])(aQ:mg "isinstance"=none)(jV:mg "bool"=none)(nq:mg "NoWord"=some (.ref c.nw))(VF:VdF K c os)
  (abP:Def P w K mg base "_law_class" 1 ["_law_error"] (QX K c.all os)):Def P w K mg base "_law_right" 2 ["_law_caught_here","_law_due","_law_words_here"] (Hl K c os):=by
 refine D.dh YD (λvs H Q E h=>?_) (λf cdv A outer s H vs Q E hr h=>?_)
 ·obtain⟨x,T,Wt,b1,W,d,i,j,rfl,_⟩:=h
  rfl
 ·obtain⟨x,T,Wt,b1,W,d,i,j,rfl,hT,W5,hQ,hlt,hc,q⟩:=h
  refine⟨_,(au (bO (bx gq (aL aO (qv 1) aq (λ_ _=>rfl)) aq (bh _)) (aA (aX (Ru (eY acS (qv 0) Ve (bh _)) (iV (jT (eY (Ew hr.units) (qv 2) (bR ak) (bh _)) (iV (aH fO (by rfl) aQ PyProof.Rows.boot_isinstance (aj (qv 0) (aj (fj (v:=.ref _) (by rfl) nq rfl) ak))))))))) bB) (au (bO (bx lZ (bF abP (hr.mono (by decide)) rfl (aj (qv 0) ak)) (aL aO (qv 1) aq (λ_ _=>rfl)) (bh _)) (aA (aX gw)) bB) (au (bO (QW.qt (iB (bx lZ (aL aO (qv 1) aq (λ_ _=>rfl)) aq (bh _)) (jW (bx lZ (aL aO (qv 1) aq (λ_ _=>rfl)) aq (bh _))))) (aA (aX gw)) bB) (au (bO (QW.qt (pB (cO (aH d7 (by rfl) aQ PyProof.Rows.boot_isinstance (aj (Bd (qv 0) rfl) (aj (iw (v:=.ty "bool") (by rfl) jV PyProof.Rows.boot_bool rfl) ak)))) (lR (cO (aH d7 (by rfl) aQ PyProof.Rows.boot_isinstance (aj (Bd (qv 0) rfl) (aj (iw (v:=.ty "bool") (by rfl) jV PyProof.Rows.boot_bool rfl) ak))))))) (aA (aX gw)) bB) (aA (aX (eY (Ew hr.units) (bR (aj (Bd (qv 0) rfl) (aj (Bd (qv 0) rfl) ak))) (bR (aj (aL aO (qv 1) aq (λ_ _=>rfl)) (aj (aL aO (qv 1) aq (λ_ _=>rfl)) ak))) (bh _)))))))),?_⟩;refine⟨_,rfl,T,_,_,.int d,rfl,rfl,aK.of hT,aB (j:=0) rfl,rfl,_,rfl,?_⟩;rcases hc with⟨rfl,rfl⟩ | ⟨rfl,rfl,a,dd,rfl,ha,hdk⟩ | ⟨h9,a,C,dd,rfl,ha,hdk,cx,hf⟩
  ·rw[decide_eq_true (show V.int ((9:Nat):Int)=V.int 9 from rfl)]
   refine bw ⟨_,rfl,rfl,_,rfl,?_⟩;rw[decide_eq_true (show V.non=V.non from rfl)];exact bw (q H (Same.refl _))
  ·rw[decide_eq_true (show V.int ((9:Nat):Int)=V.int 9 from rfl)]
   refine bw ⟨_,rfl,rfl,_,rfl,?_⟩;rw[decide_eq_false (show ¬V.ref a=V.non from λz=>nomatch z)];refine aV ⟨_,rfl,by show 0<=sizeLine;decide,λZ hZ=>?_⟩;have sZ:Same H (upd H Z (HO.tup [])):=Same.upd hZ;have eZ:upd H Z (HO.tup []) Z=some (.tup []):=ao;generalize upd H Z (HO.tup [])=H1 at sZ eZ ⊢;refine⟨2,.tup (([]:List mV).map dQ),.tup [],by decide,.tup (aK.of (sZ _ _ W5)) (dO.ofQ (hQ.mv sZ) hlt),.tup (aK.of eZ) .nil,_,rfl,?_⟩;simp only[Bool.false_eq_true,if_false];rw[decide_eq_true (show Dt.tup (([]:List mV).map dQ)=Dt.tup [] from rfl)];exact bw ⟨_,rfl,a,c.nw,.ref c.nw,.ref c.nw,dd,true,rfl,.inl ⟨c.nw,rfl,rfl⟩,sZ _ _ ha,gF.mv hdk sZ,VF.nw.is,VF.nw.ix 6 c.nw rfl,q _ sZ⟩
  ·rw[decide_eq_false (show ¬V.int (d:Int)=V.int 9 from λz=>h9 (by injection z with z;omega))]
   refine aV ⟨_,rfl,a,C,dd,d,rfl,ha,hdk,cx,λH1 s1=>?_⟩;refine⟨_,rfl,T,_,_,.int d,rfl,rfl,aK.of (s1 _ _ hT),aB (j:=0) rfl,rfl,_,rfl,Ba rfl ?_⟩;have hT1:=s1 _ _ hT;refine⟨_,rfl,T,_,_,.int d,rfl,rfl,aK.of hT1,aB (j:=0) rfl,rfl,_,rfl,?_⟩;rcases hf with⟨n1,n3⟩ | ⟨⟨hd,nr,nc⟩,dx,rfl,hdx⟩
   ·rw[decide_eq_false (show ¬V.int (d:Int)=V.int 1 from λz=>n1 (by injection z with z;omega))]
    refine bw ⟨_,rfl,T,_,_,.int d,rfl,rfl,aK.of hT1,aB (j:=0) rfl,rfl,_,rfl,?_⟩;rw[decide_eq_false (show ¬V.int (d:Int)=V.int 3 from λz=>n3 (by injection z with z;omega))];exact bw (q H1 s1)
   ·have ha1:=s1 _ _ ha
    have zL:=s1 _ _ hdx;by_cases n1:d=1
    ·rw[decide_eq_true (show V.int (d:Int)=V.int 1 by rw[n1];rfl)]
     refine aV (aV ?_);refine⟨_,rfl,a,C,dx,_,_,rfl,ha1,zL,cx.is,hd,nr,Gg i j,_,_,_,false,rfl,.int _,(by kernel_rfl),_,rfl,aV ?_⟩;refine⟨_,rfl,a,C,dx,_,_,rfl,ha1,zL,cx.is,hd,nc,Gh i j,_,_,_,false,rfl,.int _,(by kernel_rfl),_,rfl,aV ?_⟩;refine⟨_,rfl,a,C,dx,_,_,rfl,ha1,zL,cx.is,hd,nr,Gg i j,_,rfl,a,C,dx,_,_,rfl,ha1,zL,cx.is,hd,nc,Gh i j,by show 2<=sizeLine;decide,λg1 hg1=>?_⟩;have k1:Same H1 (upd H1 g1 (HO.tup [.int (i:Int),.int (j:Int)])):=Same.upd hg1;have e1:upd H1 g1 (HO.tup [.int (i:Int),.int (j:Int)]) g1=some (.tup [.int (i:Int),.int (j:Int)]):=ao;generalize upd H1 g1 (HO.tup [.int (i:Int),.int (j:Int)])=H2 at k1 e1 ⊢;refine⟨_,rfl,T,_,_,.int i,rfl,rfl,aK.of (k1 _ _ hT1),aB (j:=1) rfl,_,rfl,T,_,_,.int j,rfl,rfl,aK.of (k1 _ _ hT1),aB (j:=2) rfl,by show 2<=sizeLine;decide,λg2 hg2=>?_⟩;have k2:Same H2 (upd H2 g2 (HO.tup [.int (i:Int),.int (j:Int)])):=Same.upd hg2;have e2:upd H2 g2 (HO.tup [.int (i:Int),.int (j:Int)]) g2=some (.tup [.int (i:Int),.int (j:Int)]):=ao;have e1':=k2 _ _ e1;generalize upd H2 g2 (HO.tup [.int (i:Int),.int (j:Int)])=H3 at k2 e2 e1' ⊢;refine⟨2,.tup [.int i,.int j],.tup [.int i,.int j],by decide,.tup (aK.of e1') (.cons (.int _) (.cons (.int _) .nil)),.tup (aK.of e2) (.cons (.int _) (.cons (.int _) .nil)),?_⟩;simp only[Bool.false_eq_true,if_false,decide_true];exact q _ (s1.trans (k1.trans k2))
    ·rw[decide_eq_false (show ¬V.int (d:Int)=V.int 1 from λz=>n1 (by injection z with z;omega))]
     refine bw ⟨_,rfl,T,_,_,.int d,rfl,rfl,aK.of hT1,aB (j:=0) rfl,rfl,_,rfl,?_⟩;by_cases n3:d=3
     ·rw[decide_eq_true (show V.int (d:Int)=V.int 3 by rw[n3];rfl)]
      refine aV ?_;refine⟨_,rfl,a,C,dx,_,_,rfl,ha1,zL,cx.is,hd,nr,Gg i j,_,_,_,false,rfl,.int _,(by kernel_rfl),_,rfl,aV ?_⟩;refine⟨_,rfl,a,C,dx,_,_,rfl,ha1,zL,cx.is,hd,nc,Gh i j,_,_,_,false,rfl,.int _,(by kernel_rfl),_,rfl,aV ?_⟩;refine⟨_,rfl,a,C,dx,_,_,rfl,ha1,zL,cx.is,hd,nr,Gg i j,_,rfl,a,C,dx,_,_,rfl,ha1,zL,cx.is,hd,nc,Gh i j,by show 2<=sizeLine;decide,λg1 hg1=>?_⟩;have k1:Same H1 (upd H1 g1 (HO.tup [.int (i:Int),.int (j:Int)])):=Same.upd hg1;have e1:upd H1 g1 (HO.tup [.int (i:Int),.int (j:Int)]) g1=some (.tup [.int (i:Int),.int (j:Int)]):=ao;generalize upd H1 g1 (HO.tup [.int (i:Int),.int (j:Int)])=H2 at k1 e1 ⊢;refine⟨_,rfl,T,_,_,.int i,rfl,rfl,aK.of (k1 _ _ hT1),aB (j:=1) rfl,_,rfl,T,_,_,.int j,rfl,rfl,aK.of (k1 _ _ hT1),aB (j:=2) rfl,by show 2<=sizeLine;decide,λg2 hg2=>?_⟩;have k2:Same H2 (upd H2 g2 (HO.tup [.int (i:Int),.int (j:Int)])):=Same.upd hg2;have e2:upd H2 g2 (HO.tup [.int (i:Int),.int (j:Int)]) g2=some (.tup [.int (i:Int),.int (j:Int)]):=ao;have e1':=k2 _ _ e1;generalize upd H2 g2 (HO.tup [.int (i:Int),.int (j:Int)])=H3 at k2 e2 e1' ⊢;refine⟨2,.tup [.int i,.int j],.tup [.int i,.int j],by decide,.tup (aK.of e1') (.cons (.int _) (.cons (.int _) .nil)),.tup (aK.of e2) (.cons (.int _) (.cons (.int _) .nil)),?_⟩;simp only[Bool.false_eq_true,if_false,decide_true];exact q _ (s1.trans (k1.trans k2))
     ·rw[decide_eq_false (show ¬V.int (d:Int)=V.int 3 from λz=>n3 (by injection z with z;omega))]
      exact bw (q H1 s1)
end
end My
end
section
namespace My
open PySem L2
section
variable {P:Program}{w:World}{K:W.Frag}{mg:Str->Option Value}{base:Heap}
theorem abQ {ts:List aY}(h:(ts.map rk).Pairwise (· < ·)):n6 (ts.map dX)=true:=by
 unfold n6;rw[List.all_eq_true];intro p hp;obtain⟨i,hi,e⟩:=List.mem_iff_getElem.mp hp;have hl:=hi;rw[List.length_zip,List.length_drop,List.length_map]at hl;rw[List.getElem_zip,List.getElem_drop,List.getElem_map,List.getElem_map]at e;rw[<- e];refine decide_eq_true ?_;have:=List.pairwise_iff_getElem.mp h i (1+i) (by rw[List.length_map];omega) (by rw[List.length_map];omega) (by omega);rw[List.getElem_map,List.getElem_map]at this;exact this
theorem abR {ds:List Int}{lo hi:Option Int}{v:V}(h:v∈oK (ds.map V.int) lo hi):∃d:Int,v=.int d:=by
 unfold oK at h;have h2:=List.mem_of_mem_drop (List.mem_of_mem_take h);obtain⟨d,hd,e⟩:=List.mem_map.mp h2;exact⟨d,e.symm⟩
theorem Pa {j3:List (List Nat)}{ts:List aY}(h:ts.length<=7):(fB j3 ts).length<=8:=by
 refine Nat.le_trans (List.length_filter_le _ _) ?_;rw[List.length_map];unfold oX;rw[List.length_append,List.length_map,List.length_map,List.length_take];omega
theorem aec {C CB f g0 g1:Addr}{c:uD}{os:List Addr}{fd fe0 fe1:FuncData}(F:gk K "law" "law" Kd f fd)(aU:mg "len"=none)(cJ:mg "range"=none)(VF:VdF K c os)(rT:Ti K c.jz)(rG:Ti K c.gap)
  (gK:gj K C) (CQ:mg "Board"=some (.ref C)) (G3:Mk K C g0) (G4:cD P w K mg base fK 5 g0 fe0 ["self","rows","marks","begin"] (GR C)) (G5:Binds K fe0 ["self","rows","marks","begin"] [])
  (Ws:vQ K CB) (abS:mg "Book"=some (.ref CB)) (aed:Mk K CB g1) (aee:cD P w K mg base fK 3 g1 fe1 ["self","words"] (Wg K CB)) (aef:Binds K fe1 ["self","words"] [])
  (W6:Def P w K mg base "_law_letters" 1 ["_law_cell"] VJ) (ni:Def P w K mg base "_law_cell_at" 1 ["_law_script","_law_k"] (Lh K)) (aeg:Def P w K mg base "_law_rows" 2 ["_law_script","_law_letters_here"] (Qs K)) (abT:Def P w K mg base "_law_marks" 2 ["_law_rows_here","_law_cell"] Lq)
  (qp:Def P w K mg base "_law_draw" 1 ["_law_cell","_law_j"] zp) (Tj:Def P w K mg base "_law_straight" 3 ["_law_rows_here","_law_cell","_law_letters_here","_law_many"] FJ) (aeh:Def P w K mg base "_law_bent" 1 ["_law_laying","_law_cell","_law_rows_here"] W3)
  (abU:Def P w K mg base "_law_words" 2 ["_law_rows_here","_law_laying"] LQ) (abV:Def P w K mg base "_law_tiles" 1 ["_law_laying"] QZ) (Pb:Def P w K mg base "_law_cells_due" 3 ["_law_rows_here","_law_begin","_law_laying"] WW)
  (abW:Def P w K mg base "_law_right" 2 ["_law_caught_here","_law_due","_law_words_here"] (Hl K c os)) (Zm:Def P w K mg base "_law_caught" 16 ["_law_board","_law_book","_law_rack","_law_laying"] (M9 K C CB c)):cD P w K mg base fK 18 f fd ["_law_script"] (J_ K):=by
 refine F.dh iZ (λvs H Q E h=>?_) (λcdv A outer s H vs Q E hr h=>?_)
 ·obtain⟨a,ns,rfl,_⟩:=h
  rfl
 ·obtain⟨a,ns,rfl,hS,hn,q⟩:=h
  refine⟨_,(au (aM (i:=1) iZ.nd rfl (Or.inl rfl) (bF W6 (hr.mono (by decide)) rfl (aj (bF ni (hr.mono (by decide)) rfl (aj (qv 0) (aj aq ak))) ak))) (au (aM (i:=2) iZ.nd rfl (Or.inl rfl) (bF aeg (hr.mono (by decide)) rfl (aj (qv 0) (aj (qv 1) ak)))) (au (aM (i:=3) iZ.nd rfl (Or.inl rfl) (aG bT (aG cQ (bF ni (hr.mono (by decide)) rfl (aj (qv 0) (aj aq ak))) aq) (aG jr (aH bI (by rfl) aU PySem.boot_len (aj (qv 2) ak)) (aH bY (by rfl) aU PySem.boot_len (aj (aL aO (qv 2) aq (λ_ _=>rfl)) ak))))) (au (aM (i:=4) iZ.nd rfl (Or.inl rfl) (bR (aj (aG cQ (qv 3) (aH bY (by rfl) aU PySem.boot_len (aj (aL aO (qv 2) aq (λ_ _=>rfl)) ak))) (aj (aG bT (qv 3) (aH bY (by rfl) aU PySem.boot_len (aj (aL aO (qv 2) aq (λ_ _=>rfl)) ak))) ak)))) (au (aM (i:=5) iZ.nd rfl (Or.inl rfl) (Gx G3 G4 (hr.mono (by decide)) rfl CQ G5 .nil mj (aj (qv 2) (aj (bF abT (hr.mono (by decide)) rfl (aj (qv 2) (aj (bF ni (hr.mono (by decide)) rfl (aj (qv 0) (aj aq ak))) ak))) (aj (qv 4) ak))))) (au (dM PassesOwn.never rfl (fG (j9 A_ (qv 0) (lu aq) (lu aq))) (bK (i:=6) iZ.nd rfl (Or.inl rfl)) (au (aM (i:=7) iZ.nd rfl (Or.inl rfl) (bF Tj (hr.mono (by decide)) rfl (aj (qv 2) (aj (bF qp (hr.mono (by decide)) rfl (aj (qv 6) (aj aq ak))) (aj (qv 1) (aj (aG b_ aq (aG bT (qv 6) aq)) ak)))))) (au (aM (i:=7) iZ.nd rfl (Or.inl rfl) (bF aeh (hr.mono (by decide)) rfl (aj (qv 7) (aj (bF qp (hr.mono (by decide)) rfl (aj (qv 6) (aj aq ak))) (aj (qv 2) ak))))) (au (aM (i:=8) iZ.nd rfl (Or.inl rfl) (bF Pb (hr.mono (by decide)) rfl (aj (qv 2) (aj (qv 4) (aj (qv 7) ak))))) (au (aM (i:=9) iZ.nd rfl (Or.inl rfl) (bR ak)) (au (gD (bO (bx gq (aL aO (qv 8) aq (λ_ _=>rfl)) aq (bh _)) (aA (aM (i:=9) iZ.nd rfl (Or.inl rfl) (bF abU (hr.mono (by decide)) rfl (aj (qv 2) (aj (qv 7) ak))))) bB)) (au (aM (i:=10) iZ.nd rfl (Or.inl rfl) (Gx aed aee (hr.mono (by decide)) rfl abS aef .nil mj (aj (dJ (ns:=["_law_row","_law_column","_law_way","_law_signs"]) rfl (dR.of ["_law_script","_law_letters_here","_law_rows_here","_law_spot","_law_begin","_law_board","_law_cell","_law_laying","_law_due","_law_words_here","_law_book","_law_turn"] [] (by kernel_rfl)) (dF (qv 9)) (λ_ _ _ _ _=>(abl K rfl (show (["_law_row","_law_column","_law_way","_law_signs","_law_script","_law_letters_here","_law_rows_here","_law_spot","_law_begin","_law_board","_law_cell","_law_laying","_law_due","_law_words_here","_law_book","_law_turn"]:List Str).Nodup by decide +kernel) rfl rfl rfl rfl (by rfl) (by rfl) (by rfl) (by rfl))) (λ_ _ _ _ _=>cu) (λ_ _ _ _ _=>(Qj K PySem.F.plainAttrs_str PySem.F.slot_str_lower PySem.F.type_str_lower vG (qv 3)))) ak))) (aA (dM PassesOwn.never rfl (jA (by rfl) cJ (aj aq ak)) (bK (i:=11) iZ.nd rfl (Or.inl rfl)) (aA (bO (dN (cO (bF abW (hr.mono (by decide)) rfl (aj (bF Zm (hr.mono (by decide)) rfl (aj (qv 5) (aj (qv 10) (aj (bF abV (hr.mono (by decide)) rfl (aj (qv 7) ak)) (aj (qv 7) ak))))) (aj (qv 8) (aj (qv 9) ak)))))) (aA (aX gw)) bB))))))))))) (aA (aX gw)))))))),?_⟩;refine⟨_,rfl,a,ns,0,rfl,hS,λc0=>⟨c0,rfl,λls H1 s1 hA=>?_⟩⟩;refine⟨_,rfl,_,rfl,a,ns,ls,rfl,s1.seq hS,hA,λpr j3 r w H2 s2 hpr hb r1 r9 w1 w9 Nh hfree=>?_⟩;have sH2:=s1.trans s2;have gR:(Ts j3).length=r:=by rw[List.length_map,hb.len]
  have hr0:0 < j3.length:=by rw[hb.len];omega
  have hw0:j3[0].length=w:=hb.gJ _ (List.getElem_mem _);have hrw:r*w<=81:=Nat.mul_le_mul r9 w9;have afN:1<=r*w:=Nat.mul_le_mul r1 w1;have lz:j3[0].length<=sizeLine:=Nat.le_of_lt (aD (by omega));have em:((Ts j3).length:Int)*((j3[0].length:Nat):Int)=((r*w:Nat):Int):=by rw[gR,hw0];exact(Int.natCast_mul r w).symm
  refine⟨_,rfl,a,ns,0,rfl,sH2.seq hS,λc1=>?_⟩;obtain⟨sp,Qt,hsp⟩:∃sp:Nat,c1/64%((r*w:Nat):Int)=(sp:Int)/\sp < r*w:=by
   have a1:=Int.emod_nonneg (c1/64) (show ((r*w:Nat):Int)≠0 by omega);have a2:=Int.emod_lt_of_pos (c1/64) (show (0:Int) < ((r*w:Nat):Int) by omega);exact⟨(c1/64%((r*w:Nat):Int)).toNat,by omega,by omega⟩
  refine⟨_,_,rfl,rfl,⟨by decide,by decide⟩,_,rfl,pr,_,rfl,.inr (aK.of hpr),_,rfl,pr,_,_,.str (S j3[0]),rfl,rfl,aK.of hpr,aB (j:=0) (d_ (by simp[hr0])),_,rfl,lz,_,_,rfl,rfl,.inl ⟨by omega,by omega⟩,_,_,rfl,rfl,(by show (0:Int) < ((Ts j3).length:Int)*((j3[0].length:Nat):Int);rw[em];omega),?_⟩;dsimp only;rw[em,Qt];have hdiv:sp/w < r:=Nat.div_lt_of_lt_mul (by rw[Nat.mul_comm];exact hsp);have hmod:sp%w < w:=Nat.mod_lt _ (by omega);have ediv:(sp:Int)/((j3[0].length:Nat):Int)=((sp/w:Nat):Int):=by rw[hw0];exact(Int.natCast_ediv sp w).symm
  have emod:(sp:Int)%((j3[0].length:Nat):Int)=((sp%w:Nat):Int):=by rw[hw0];exact(Int.natCast_emod sp w).symm
  refine⟨_,rfl,_,rfl,pr,_,_,.str (S j3[0]),rfl,rfl,aK.of hpr,aB (j:=0) (d_ (by simp[hr0])),_,rfl,lz,_,_,rfl,rfl,⟨by omega,by omega⟩,_,rfl,_,rfl,pr,_,_,.str (S j3[0]),rfl,rfl,aK.of hpr,aB (j:=0) (d_ (by simp[hr0])),_,rfl,lz,_,_,rfl,rfl,(by show (0:Int) < ((j3[0].length:Nat):Int);omega),by show 2<=sizeLine;decide,λpb hpb=>?_⟩;dsimp only;rw[ediv,emod];have kb:Same H2 (upd H2 pb (HO.tup [V.int ((sp/w:Nat):Int),V.int ((sp%w:Nat):Int)])):=Same.upd hpb;have Tn:upd H2 pb (HO.tup [V.int ((sp/w:Nat):Int),V.int ((sp%w:Nat):Int)]) pb=some (.tup [.int ((sp/w:Nat):Int),.int ((sp%w:Nat):Int)]):=ao;have Zn:=kb _ _ hpr;have sH3:=sH2.trans kb;generalize upd H2 pb (HO.tup [V.int ((sp/w:Nat):Int),V.int ((sp%w:Nat):Int)])=H3 at kb Tn Zn sH3 ⊢;generalize sp/w=bi at hdiv Tn;generalize sp%w=bj at hmod Tn;refine⟨_,rfl,_,rfl,_,rfl,a,ns,2,rfl,sH3.seq hS,λc2=>⟨pr,j3,r,w,c2,rfl,Zn,hb,r1,r9,w9,λpm y8 H4 s4 hpm hbm hmk=>?_⟩⟩;have sH4:=sH3.trans s4;have aei:=s4 _ _ Zn;have aej:=s4 _ _ Tn;have B:Qm r w j3 y8 bi bj:=⟨r1,r9,w1,w9,hb,hbm,Nh,hmk,hdiv,hmod⟩
  refine⟨_,rfl,λb dx nx ndx sU=>?_⟩;have t2:Same H4 (upd (upd H4 dx (HO.own b)) b (HO.ins C dx [])):=λc o e=>by rw[aP (bV e nx),aP (bV e ndx)];exact e
  refine⟨b,dx,pr,pm,pb,r,w,j3,y8,bi,bj,rfl,ao,t2 _ _ aei,t2 _ _ hpm,t2 _ _ aej,B,λH5 kp hx5=>⟨rfl,?_⟩⟩;have t3:Same H4 H5:=λc o e=>kp c o (t2 c o e) (bV e nx);have Tp:=t3 _ _ aei;have aek:=t3 _ _ aej;have BA:eE C H5 b r w j3 y8 bi bj:=⟨⟨dx,pr,pm,pb,hx5,Tp,t3 _ _ hpm,aek⟩,B⟩
  have sH5:=sH4.trans t3;refine⟨_,rfl,_,rfl,_,rfl,a,_,rfl,sH5.seq hS,λta hta=>?_⟩;generalize hxs:oK (ns.map V.int) (some 3) (some 63)=xs;have kta:Same H5 (upd H5 ta (HO.lst xs)):=Same.upd hta;have Zo:upd H5 ta (HO.lst xs) ta=some (.lst xs):=ao;generalize upd H5 ta (HO.lst xs)=H8 at kta Zo ⊢;refine⟨ta,rfl,⟨_,aN.of Zo⟩,mH (K:=K) (a:=ta) (xs:=xs) (λn σ H'=>∃v6 v7 v8 v9 v10 v11:Option V,σ=[some (.ref a),some (.str (S ls)),some (.ref pr),some (.int (sp:Int)),some (.ref pb),some (.ref b),v6,v7,v8,v9,v10,v11]/\Same H8 H')
   ⟨none,none,none,none,none,none,rfl,Same.refl _⟩ (λn σ H' _ h=>by obtain⟨_,_,_,_,_,_,_,sm⟩:=h;exact aN.of (sm _ _ Zo)) ?_ ?_⟩
  ·rintro n x σ H9 hx ⟨v6,v7,v8,v9,v10,v11,rfl,s9⟩
   obtain⟨cc,rfl⟩:∃cc:Int,x=.int cc:=by
    have:=List.mem_of_getElem? hx;rw[<- hxs]at this;exact abR this
   obtain⟨m,hm,hm1,hm7⟩:∃m:Nat,1+cc%7=(m:Int)/\1<=m/\m<=7:=⟨(1+cc%7).toNat,by omega,by omega,by omega⟩
   have k9:=kta.trans s9;have ael:=k9 _ _ Tp;refine⟨_,rfl,_,rfl,cc,1,rfl,by decide,λcd=>?_⟩;refine⟨_,rfl,_,rfl,_,_,rfl,rfl,(by show (0:Int) < 7;decide),_,_,rfl,rfl,pr,j3,r,w,cd,ls,m,by show [V.ref pr,V.int cd,V.str (S ls),V.int (1+cc%7)]=_;rw[hm],ael,hb,r1,r9,w1,w9,hfree,hA,hm1,hm7,λt0 as0 ts0 H10 PL ht0 hL0 afP hne0 h70 _=>?_⟩;refine⟨_,rfl,_,rfl,cc,2,rfl,by decide,λcd2=>?_⟩;refine⟨_,rfl,t0,pr,cd2,j3,r,w,as0,ts0,rfl,PL _ _ ael,hb,r1,r9,w1,w9,ht0,hL0,afP,List.length_pos_iff.mpr hne0,h70,λt as ts H11 s11 ht hL hin hrk h0 h7=>?_⟩;have Fy:=abQ hrk;have k11:=(k9.trans PL).trans s11;refine⟨_,rfl,_,rfl,_,rfl,pr,pb,t,j3,r,w,bi,bj,as,ts,rfl,k11 _ _ Tp,hb,r1,r9,w1,w9,Nh,k11 _ _ aek,ht,hL,hin,h0,h7,λT d x y H12 s12 hdr hT=>?_⟩;have k12:=k11.trans s12;have hb':=jP hb hin;have hp':=wL hb hin Nh;have aem:∀q∈fB j3 ts,∀c∈q.2.2.2,c < 128:=λq hq c hc=>(Di hb' hp' hin q hq c hc).lt;have adZ:∀q∈fB j3 ts,q.2.2.2.length<=20:=Ce hb' r9 w9 hin;refine⟨by show 0<=sizeLine;decide,λZ hZ=>?_⟩;have kZ:Same H12 (upd H12 Z (HO.tup [])):=Same.upd hZ;have eZ:upd H12 Z (HO.tup []) Z=some (.tup (([]:List Addr).map V.ref)):=ao;generalize upd H12 Z (HO.tup [])=H13 at kZ eZ ⊢;have k13:=k12.trans kZ;have q13:=s12.trans kZ;refine⟨λσ' H'=>∃(Wt:Addr) (b1:List Addr) (W:List mV),σ'=[some (.ref a),some (.str (S ls)),some (.ref pr),some (.int (sp:Int)),some (.ref pb),some (.ref b),some (.int cc),some (.ref t),some (.ref T),some (.ref Wt),v10,v11]/\Same H13 H'/\H' Wt=some (.tup (b1.map V.ref))/\QL H' b1 W/\((d=9/\W=fB j3 ts)\/(d≠9/\W=[])),?_,?_⟩
   ·refine⟨_,rfl,T,_,_,.int d,rfl,rfl,aK.of (kZ _ _ hT),aB (j:=0) rfl,rfl,_,rfl,?_⟩
    by_cases h9:d=9
    ·rw[decide_eq_true (show V.int (d:Int)=V.int 9 by rw[h9];rfl)]
     exact bw ⟨_,rfl,_,rfl,pr,t,as,ts,r,w,j3,rfl,k13 _ _ Tp,hb,r9,w9,q13 _ _ ht,hL.mv q13,hin,h0,h7,λT1 b1 H14 W7 hT1 hQ1=>⟨T1,b1,_,rfl,W7,hT1,hQ1,.inl ⟨h9,rfl⟩⟩⟩
    ·rw[decide_eq_false (show ¬V.int (d:Int)=V.int 9 from λz=>h9 (by injection z with z;omega))]
     exact aV ⟨Z,[],[],rfl,Same.refl _,eZ,cY.nil,.inr ⟨h9,rfl⟩⟩
   rintro σ' H14 ⟨Wt,b1,W,rfl,W7,W5,hQ,hW⟩;have k14:=k13.trans W7;have q14:=q13.trans W7;have afQ:=W7 _ _ (kZ _ _ hT);have Tq:∀q∈W,q∈fB j3 ts:=λq hq=>by
    rcases hW with⟨_,e⟩ | ⟨_,e⟩
    ·rw[e]at hq;exact hq
    ·rw[e]at hq;simp at hq
   have hWl:W.length<=8:=by
    rcases hW with⟨_,e⟩ | ⟨_,e⟩
    ·rw[e];exact Pa h7
    ·rw[e];decide
   have tD:=hQ.len;refine⟨_,rfl,Wt,rfl,⟨_,aK.of W5⟩,λN hN=>RN (K:=K) (KT:=K) (a:=Wt) (f:=dB [] 0) (tt:=fJ) (te:=Rn K "str" adn (gU 3)) (xs:=b1.map V.ref) (λn ys H'=>ys=Ts ((W.take n).map wU)/\H' N=some (.lst ys)/\Same H14 H')
    ⟨rfl,ao,Same.upd hN⟩ (λn ys H' _ h=>aK.of (h.2.2 _ _ W5)) ?_ ?_⟩
   ·rintro n2 x2 ys H' hx2 ⟨rfl,hN',sm⟩
    have hn:n2 < b1.length:=by have:=(List.getElem?_eq_some_iff.mp hx2).1;simpa using this
    have Jv:n2 < W.length:=by omega
    rw[List.getElem?_map,List.getElem?_eq_getElem hn]at hx2;have hx2:V.ref b1[n2]=x2:=Option.some.inj hx2;have en:=(hQ.mv sm).at_ n2 _ _ (List.getElem?_eq_getElem hn) (List.getElem?_eq_getElem Jv);have hm2:=Tq _ (List.getElem_mem Jv);refine ae1 hx2.symm (aK.of en) ?_;refine⟨_,rfl,rfl,W[n2].2.2.2,rfl,rfl,by have:=adZ _ hm2;omega,aem _ hm2,hN',?_,cX.mk (by rw[List.length_map];exact hn) ⟨?_,ao,sm.bJ hN⟩⟩
    ·rw[List.length_map,List.length_map,List.length_take];exact aD (by omega)
    ·rw[take_snoc (List.getElem?_eq_getElem Jv),<- oW];rfl
   rintro ys H15 ⟨rfl,aen,s15⟩;rw[List.length_map,tD,List.take_length]at aen;intro k dk nk ndk nek;have t4:Same H15 (upd (upd H15 dk (HO.own k)) k (HO.ins CB dk [])):=λc o e=>by rw[aP (bV e nk),aP (bV e ndk)];exact e
   refine⟨k,dk,N,W.map wU,rfl,ao,.inl (aN.of (t4 _ _ aen)),λl hl=>?_,by rw[List.length_map];omega,λdd0 bs H16 _ BK hbs _ afR=>⟨rfl,?_⟩⟩
   ·obtain⟨q0,hq0,rfl⟩:=List.mem_map.mp hl
    exact Ze hb' hp' r9 w9 hin q0 (Tq q0 hq0)
   have s16:Same H15 H16:=λc o e=>afR c o (t4 c o e) (bV e nk);have q16:=q14.trans (s15.trans s16);have k16:=k14.trans (s15.trans s16);have ae9:=s15.trans s16;have hrl:((ts.map (·.2.2)).map cP).length<=63:=by rw[List.length_map,List.length_map];omega
   refine⟨2,rfl,by decide,by decide,?_⟩;refine gC (lo:=0) (λi2 σ H'=>∃v11:Option V,σ=[some (.ref a),some (.str (S ls)),some (.ref pr),some (.int (sp:Int)),some (.ref pb),some (.ref b),some (.int cc),some (.ref t),some (.ref T),some (.ref Wt),some (.ref k),v11]/\Same H16 H') ⟨_,rfl,Same.refl _⟩ ?_ ?_
   ·rintro i2 σ H17 hi2 ⟨w11,rfl,W8⟩
    have q17:=q16.trans W8;have k17:=k16.trans W8;refine⟨_,rfl,_,rfl,_,rfl,t,as,ts,r,w,rfl,q17 _ _ ht,hL.mv q17,hin,h7,λH18 s18=>?_⟩;have q18:=q17.trans s18;have k18:=k17.trans s18;have Ke:=W8.trans s18;have Tr:=ae9.trans Ke;have fin:∀(xv:V) (vV:Hp),Same H18 vV->((d=9/\xv=.non)\/(d=9/\W=[]/\∃a dd,xv=.ref a/\vV a=some (.ext (mL a (.ref c.nw) dd))/\gF vV dd)\/
      (d≠9/\∃a C dd,xv=.ref a/\vV a=some (.ext (mL a (.ref C) dd))/\gF vV dd/\pN K c.all os C d/\((d≠1/\d≠3)\/(Ti K C/\∃dx,dd=some dx/\vV dx=some (.ext (XD dx (Cd x y)))))))->∀(Q':VK) (E':XK),(∀H',Same vV H'->Q' (.bl true) H')->Hl K c os [xv,.ref T,.ref Wt] vV Q' E':=λxv vV Gi hc Q' E' hq=>
     ⟨xv,T,Wt,b1,W,d,x,y,rfl,Gi _ _ (Tr _ _ afQ),Gi _ _ (Tr _ _ W5),(hQ.mv Tr).mv Gi,λq hq c hc=>aem q (Tq q hq) c hc,hc,hq⟩
    refine⟨_,rfl,b,k,dd0,bs,_,.ref t,r,w,j3,y8,bi,bj,rfl,BA.mv k18,BK.mv Ke,hrl,.inr ⟨t,as,ts,rfl,q18 _ _ ht,hL.mv q18,hin,h0,h7,Fy,λvd cls dd e vV hv1 hv2 Gi he=>?_,λhv1 vV Gi=>?_⟩⟩
    ·refine⟨_,rfl,_,rfl,?_⟩
     dsimp only[oH,k_];refine fin (.ref e) vV Gi ?_ _ _ λH20 s20=>⟨_,rfl,aV ⟨_,rfl,Ke.trans (Gi.trans s20)⟩⟩
     by_cases h9:d=9
     ·subst h9
      rcases Zj hdr hv1 with⟨l,rfl,e2⟩ | ⟨rfl,_⟩
      ·obtain⟨rfl,Nu,rfl,Dn⟩:=hv2
       have hWw:W=fB j3 ts:=by
        rcases hW with⟨_,e⟩ | ⟨z,_⟩
        ·exact e
        ·exact absurd rfl z
       have QJ:fB j3 ts=[]:=aeb (λq0 hq0=>(hbs _).mpr (List.mem_map.mpr ⟨q0,by rw[hWw];exact hq0,rfl⟩)) e2;exact .inr (.inl ⟨rfl,hWw.trans QJ,e,some Nu,rfl,he,⟨_,Dn⟩⟩)
      ·exact hv2.elim
     ·refine .inr (.inr ⟨h9,?_⟩)
      rcases Nt hdr h9 hv1 with⟨rfl,rfl⟩ | ⟨rfl,rfl⟩ | ⟨rfl,rfl⟩ | ⟨rfl,rfl⟩
      ·obtain⟨rfl,Nu,rfl,Dn⟩:=hv2
       exact⟨e,c.jz,some Nu,rfl,he,⟨_,Dn⟩,VF.jz,.inr ⟨rT,Nu,rfl,Dn⟩⟩
      ·obtain⟨rfl,rfl⟩:=hv2
       exact⟨e,c.jB,none,rfl,he,True.intro,VF.jB,.inl ⟨by decide,by decide⟩⟩
      ·obtain⟨rfl,Nu,rfl,Dn⟩:=hv2
       exact⟨e,c.gap,some Nu,rfl,he,⟨_,Dn⟩,VF.gap,.inr ⟨rG,Nu,rfl,Dn⟩⟩
      ·obtain⟨rfl,rfl⟩:=hv2
       exact⟨e,c.jC,none,rfl,he,True.intro,VF.jC,.inl ⟨by decide,by decide⟩⟩
    ·refine⟨_,rfl,_,rfl,?_⟩
     dsimp only[oH,k_];refine fin .non vV Gi ?_ _ _ λH20 s20=>⟨_,rfl,aV ⟨_,rfl,Ke.trans (Gi.trans s20)⟩⟩
     by_cases h9:d=9
     ·exact .inl ⟨h9,rfl⟩
     ·rcases Nt hdr h9 hv1 with⟨_,z⟩ | ⟨_,z⟩ | ⟨_,z⟩ | ⟨_,z⟩ <;> cases z
   ·rintro σ H17 ⟨w11,rfl,W8⟩
    exact⟨_,_,_,_,_,_,rfl,s9.trans (PL.trans (s11.trans (q16.trans W8)))⟩
  ·rintro σ H9 ⟨v6,v7,v8,v9,v10,v11,rfl,s9⟩
   exact q _
end
end My
end
namespace My
open PySem L2
section
variable {P:Program}{w:World}{K:W.Frag}{mg:Str->Option Value}{base:Heap}
structure wY (K:W.Frag)(mg:Str->Option Value)(C f0 f1 f2 f3 f4:Addr)(jk iK fd2 Q6 Q7:FuncData):Prop where
 T:gj K C
 Fb:mg "Board"=some (.ref C)
 M:Mk K C f0
 F0:gk K "__init__" "Board.__init__" iG f0 jk
 b0:Binds K jk ["self","rows","marks","begin"] []
 F1:gk K "at" "Board.at" jM f1 iK
 b1:Binds K iK ["self","row","column"] []
 m1:Meth K C "at" f1
 F2:gk K "is_free" "Board.is_free" fQ f2 fd2
 b2:Binds K fd2 ["self"] []
 m2:Meth K C "is_free" f2
 F3:gk K "run" "Board.run" jf f3 Q6
 b3:Binds K Q6 ["self","row","column","way"] []
 m3:Meth K C "run" f3
 F4:gk K "laid" "Board.laid" iH f4 Q7
 b4:Binds K Q7 ["self","laying"] []
 m4:Meth K C "laid" f4
theorem Zq {h:Heap}{C f0 f1 f2 f3 f4:Addr}(X:K.In h)(G:h.Ns mainGlobals mg)
  {od0 an0 od1 an1 od2 an2 od3 an3 od4 an4:Option Addr} {sl0 sl1 sl2 Vs sl4:Array (Option Value)} {oc0 kV0 dc0 pm0 W9 ct0 oc1 kV1 dc1 pm1 W_ ct1 oc2 kV2 dc2 pm2 cd2 ct2 oc3 kV3 dc3 pm3 cd3 ct3 oc4 kV4 dc4 pm4 cd4 ct4:Value}
  (aC:W.nsIn K mainGlobals "Board"=some (some (.ref C)))
  (a0:W.findIn K (.ref C) "__init__"=some (some (.ref f0))) (i0:W.isFn K (.ref f0)=true) (l0:K.lookup f0=some ⟨oc0,od0,.func (W.fnOf "__init__" "Board.__init__" (d8 iG) (cT iG) (aF iG) .none kV0 dc0 pm0 an0 W9 ct0),sl0⟩) (c0:W.codeIn K W9 "Board.__init__"=true) (k0:W.keepIn K (.ref f0)=true)
  (a1:W.findIn K (.ref C) "at"=some (some (.ref f1))) (i1:W.isFn K (.ref f1)=true) (l1:K.lookup f1=some ⟨oc1,od1,.func (W.fnOf "at" "Board.at" (d8 jM) (cT jM) (aF jM) .none kV1 dc1 pm1 an1 W_ ct1),sl1⟩) (c1:W.codeIn K W_ "Board.at"=true) (k1:W.keepIn K (.ref f1)=true)
  (a2:W.findIn K (.ref C) "is_free"=some (some (.ref f2))) (i2:W.isFn K (.ref f2)=true) (l2:K.lookup f2=some ⟨oc2,od2,.func (W.fnOf "is_free" "Board.is_free" (d8 fQ) (cT fQ) (aF fQ) .none kV2 dc2 pm2 an2 cd2 ct2),sl2⟩) (c2:W.codeIn K cd2 "Board.is_free"=true) (k2:W.keepIn K (.ref f2)=true)
  (a3:W.findIn K (.ref C) "run"=some (some (.ref f3))) (i3:W.isFn K (.ref f3)=true) (l3:K.lookup f3=some ⟨oc3,od3,.func (W.fnOf "run" "Board.run" (d8 jf) (cT jf) (aF jf) .none kV3 dc3 pm3 an3 cd3 ct3),Vs⟩) (c3:W.codeIn K cd3 "Board.run"=true) (k3:W.keepIn K (.ref f3)=true)
  (a4:W.findIn K (.ref C) "laid"=some (some (.ref f4))) (i4:W.isFn K (.ref f4)=true) (l4:K.lookup f4=some ⟨oc4,od4,.func (W.fnOf "laid" "Board.laid" (d8 iH) (cT iH) (aF iH) .none kV4 dc4 pm4 an4 cd4 ct4),sl4⟩) (c4:W.codeIn K cd4 "Board.laid"=true) (k4:W.keepIn K (.ref f4)=true)
  (pg:W.plainGet K C Str.empty=true) (hd:W.hasDictIn K C=true) (po:W.plainOver K C=true) (sa:W.findIn K (.ref C) "__setattr__"=some (some (.builtin "object.__setattr__"))) (mk:W.makesIn K C=true) (kc:W.keepIn K (.ref C)=true) (Nv:W.findIn K (.ref C) "rows"=some none) (nf1:W.findIn K (.ref C) "marks"=some none) (nf2:W.findIn K (.ref C) "begin"=some none):∃C f0 f1 f2 f3 f4 jk iK fd2 Q6 Q7,wY K mg C f0 f1 f2 f3 f4 jk iK fd2 Q6 Q7:=by
 have F0:=iU (st:=iG) l0 c0 k0;have F1:=iU (st:=jM) l1 c1 k1;have F2:=iU (st:=fQ) l2 c2 k2;have F3:=iU (st:=jf) l3 c3 k3;have F4:=iU (st:=iH) l4 c4 k4;exact⟨C,f0,f1,f2,f3,f4,_,_,_,_,_,⟨⟨pg,hd,po,sa⟩,Nv,nf1,nf2⟩,W.mg_of X G aC,⟨mk,a0,i0,kc⟩,F0,F0.binds (ps:=["self","rows","marks","begin"]) (λ_ _ _ _ _ _ us hl=>L2.e4 (λ_ _ _ _=>rfl) us hl),F1,F1.binds (ps:=["self","row","column"]) (λ_ _ _ _ _ _ us hl=>L2.e3 (λ_ _ _=>rfl) us hl),⟨a1,i1,k1⟩,F2,F2.binds (ps:=["self"]) (λ_ _ _ _ _ _ us hl=>L2.e1 (λ_=>rfl) us hl),⟨a2,i2,k2⟩,F3,F3.binds (ps:=["self","row","column","way"]) (λ_ _ _ _ _ _ us hl=>L2.e4 (λ_ _ _ _=>rfl) us hl),⟨a3,i3,k3⟩,F4,F4.binds (ps:=["self","laying"]) (λ_ _ _ _ _ _ us hl=>L2.e2 (λ_ _=>rfl) us hl),⟨a4,i4,k4⟩⟩
structure zM (K:W.Frag)(mg:Str->Option Value)(C f0 f1:Addr)(jk iK:FuncData):Prop where
 T:vQ K C
 Fb:mg "Book"=some (.ref C)
 M:Mk K C f0
 F0:gk K "__init__" "Book.__init__" jg f0 jk
 b0:Binds K jk ["self","words"] []
 F1:gk K "has" "Book.has" jO f1 iK
 b1:Binds K iK ["self","text"] []
 m1:Meth K C "has" f1
theorem abX {h:Heap}{C f0 f1:Addr}(X:K.In h)(G:h.Ns mainGlobals mg)
  {od0 an0 od1 an1:Option Addr} {sl0 sl1:Array (Option Value)} {oc0 kV0 dc0 pm0 W9 ct0 oc1 kV1 dc1 pm1 W_ ct1:Value}
  (aC:W.nsIn K mainGlobals "Book"=some (some (.ref C)))
  (a0:W.findIn K (.ref C) "__init__"=some (some (.ref f0))) (i0:W.isFn K (.ref f0)=true) (l0:K.lookup f0=some ⟨oc0,od0,.func (W.fnOf "__init__" "Book.__init__" (d8 jg) (cT jg) (aF jg) .none kV0 dc0 pm0 an0 W9 ct0),sl0⟩) (c0:W.codeIn K W9 "Book.__init__"=true) (k0:W.keepIn K (.ref f0)=true)
  (a1:W.findIn K (.ref C) "has"=some (some (.ref f1))) (i1:W.isFn K (.ref f1)=true) (l1:K.lookup f1=some ⟨oc1,od1,.func (W.fnOf "has" "Book.has" (d8 jO) (cT jO) (aF jO) .none kV1 dc1 pm1 an1 W_ ct1),sl1⟩) (c1:W.codeIn K W_ "Book.has"=true) (k1:W.keepIn K (.ref f1)=true)
  (pg:W.plainGet K C Str.empty=true) (hd:W.hasDictIn K C=true) (po:W.plainOver K C=true) (sa:W.findIn K (.ref C) "__setattr__"=some (some (.builtin "object.__setattr__"))) (mk:W.makesIn K C=true) (kc:W.keepIn K (.ref C)=true) (Nv:W.findIn K (.ref C) "held"=some none):∃C f0 f1 jk iK,zM K mg C f0 f1 jk iK:=by
 have F0:=iU (st:=jg) l0 c0 k0;have F1:=iU (st:=jO) l1 c1 k1;exact⟨C,f0,f1,_,_,⟨⟨pg,hd,po,sa⟩,Nv⟩,W.mg_of X G aC,⟨mk,a0,i0,kc⟩,F0,F0.binds (ps:=["self","words"]) (λ_ _ _ _ _ _ us hl=>L2.e2 (λ_ _=>rfl) us hl),F1,F1.binds (ps:=["self","text"]) (λ_ _ _ _ _ _ us hl=>L2.e2 (λ_ _=>rfl) us hl),⟨a1,i1,k1⟩⟩
structure Zr (K:W.Frag)(mg:Str->Option Value)(bf bH bD bW bL aZ bA cF cg cG cU cH dG cI cV CR fV jm dI eG:Addr)(kJ qz jc jD:FuncData):Prop where
 Gj:mg "NoLaying"=some (.ref bf)
 abY:mg "Taken"=some (.ref bH)
 JB:mg "Crooked"=some (.ref bD)
 ae_:mg "Gap"=some (.ref bW)
 Q8:mg "Apart"=some (.ref bL)
 Xa:mg "Lacking"=some (.ref aZ)
 Nx:mg "NoWord"=some (.ref bA)
 Zt:mg "NoBack"=some (.ref cF)
 Xb:mg "NoBoard"=some (.ref cg)
 Zu:mg "NoDeed"=some (.ref cG)
 abZ:mg "NoRow"=some (.ref cU)
 Zv:mg "NoText"=some (.ref cH)
 aeo:mg "Over"=some (.ref dG)
 Zw:mg "TooFew"=some (.ref cI)
 ab0:mg "Twice"=some (.ref cV)
 mR:mg "RackError"=some (.ref CR)
 I:InitOf K CR
 oA:W.excIn K bf gY "ValueError.__new__"=true
 qC:W.excIn K bD gY "ValueError.__new__"=true
 vW:W.excIn K bL gY "ValueError.__new__"=true
 oY:lJ K mg "Taken" bH fV ["row","column"]
 Bt:gk K "__init__" "Taken.__init__" iD fV kJ
 G9:Binds K kJ ["self","row","column"] []
 wZ:lJ K mg "Gap" bW jm ["row","column"]
 Kf:gk K "__init__" "Gap.__init__" jL jm qz
 Sv:Binds K qz ["self","row","column"] []
 uE:lJ K mg "Lacking" aZ dI ["tile"]
 uF:gk K "__init__" "Lacking.__init__" f9 dI jc
 zG:Binds K jc ["self","tile"] []
 w5:lJ K mg "NoWord" bA eG ["word"]
 w6:gk K "__init__" "NoWord.__init__" gP eG jD
 wV:Binds K jD ["self","word"] []
 M:VdM K ⟨bf,bH,bD,bW,bL,aZ,bA⟩ CR
 V:VdF K ⟨bf,bH,bD,bW,bL,aZ,bA⟩ [cF,cg,cG,cU,cH,dG,cI,cV]
theorem oZ {C:Addr}{Cs:List Addr}{j:Nat}(h:(Cs.zipIdx.all λp=>W.kitOne K (.ref C) (.ref p.1)==some (decide (p.2=j)))=true):∀i D,Cs[i]?=some D->W.kitOne K (.ref C) (.ref D)=some (decide (i=j)):=λi D e=>
 beq_iff_eq.mp (List.all_eq_true.mp h (D,i) (List.mem_zipIdx_iff_getElem?.mpr e))
theorem ab1 {h:Heap}{bf bH bD bW bL aZ bA cF cg cG cU cH dG cI cV CR fV jm dI eG:Addr}(X:K.In h)(G:h.Ns mainGlobals mg)
  {Zx Zy aep aer Tt Tv Xc Xd:Option Addr} {Zz aes Tw Xe:Array (Option Value)} {ZC ZD ZF ZG Ny ZJ aeu aev aew aex Xf aey Tz TF TJ TQ Gk TV Xg Xh Xi Xj JC Xk:Value}
  (xg:W.nsIn K mainGlobals "NoLaying"=some (some (.ref bf)))
  (Bu:W.nsIn K mainGlobals "Taken"=some (some (.ref bH)))
  (zN:W.nsIn K mainGlobals "Crooked"=some (some (.ref bD)))
  (Kg:W.nsIn K mainGlobals "Gap"=some (some (.ref bW)))
  (Ho:W.nsIn K mainGlobals "Apart"=some (some (.ref bL)))
  (uG:W.nsIn K mainGlobals "Lacking"=some (some (.ref aZ)))
  (xq:W.nsIn K mainGlobals "NoWord"=some (some (.ref bA)))
  (Dp:W.nsIn K mainGlobals "NoBack"=some (some (.ref cF)))
  (zO:W.nsIn K mainGlobals "NoBoard"=some (some (.ref cg)))
  (Dq:W.nsIn K mainGlobals "NoDeed"=some (some (.ref cG)))
  (Hq:W.nsIn K mainGlobals "NoRow"=some (some (.ref cU)))
  (Dr:W.nsIn K mainGlobals "NoText"=some (some (.ref cH)))
  (Nz:W.nsIn K mainGlobals "Over"=some (some (.ref dG)))
  (Du:W.nsIn K mainGlobals "TooFew"=some (some (.ref cI)))
  (Hr:W.nsIn K mainGlobals "Twice"=some (some (.ref cV)))
  (aR:W.nsIn K mainGlobals "RackError"=some (some (.ref CR)))
  (oA:W.excIn K bf gY "ValueError.__new__"=true)
  (qC:W.excIn K bD gY "ValueError.__new__"=true)
  (vW:W.excIn K bL gY "ValueError.__new__"=true)
  (xr:W.exmOne K (.ref bf) (.ref CR)=some true)
  (Ht:W.exmOne K (.ref bH) (.ref CR)=some true)
  (zP:W.exmOne K (.ref bD) (.ref CR)=some true)
  (TX:W.exmOne K (.ref bW) (.ref CR)=some true)
  (Hu:W.exmOne K (.ref bL) (.ref CR)=some true)
  (zQ:W.exmOne K (.ref aZ) (.ref CR)=some true)
  (Dv:W.exmOne K (.ref bA) (.ref CR)=some true)
  (NK:W.findIn K (.ref bH) "__init__"=some (some (.ref fV)))
  (Dw:W.isFn K (.ref fV)=true)
  (Dy:K.lookup fV=some ⟨ZC,Zx,.func (W.fnOf "__init__" "Taken.__init__" (d8 iD) (cT iD) (aF iD) .none ZD ZF ZG Zy Ny ZJ),Zz⟩)
  (Dz:W.codeIn K Ny "Taken.__init__"=true)
  (DG:W.keepIn K (.ref fV)=true)
  (zR:tX K bH fV=true)
  (DK:W.keepIn K (.ref bH)=true)
  (DN:((W.clsIn K bH).any λcd=>cd.hasDict&&oV cd.mro)=true)
  (DP:W.findIn K (.ref bH) "__setattr__"=some (some (.builtin "object.__setattr__")))
  (DQ:W.hasDictIn K bH=true)
  (uW:W.findIn K (.ref bH) "row"=some none)
  (o7:W.findIn K (.ref bH) "column"=some none)
  (Xl:W.findIn K (.ref bW) "__init__"=some (some (.ref jm)))
  (NP:W.isFn K (.ref jm)=true)
  (NQ:K.lookup jm=some ⟨aeu,aep,.func (W.fnOf "__init__" "Gap.__init__" (d8 jL) (cT jL) (aF jL) .none aev aew aex aer Xf aey),aes⟩)
  (NT:W.codeIn K Xf "Gap.__init__"=true)
  (NZ:W.keepIn K (.ref jm)=true)
  (Hv:tX K bW jm=true)
  (N5:W.keepIn K (.ref bW)=true)
  (N6:((W.clsIn K bW).any λcd=>cd.hasDict&&oV cd.mro)=true)
  (N7:W.findIn K (.ref bW) "__setattr__"=some (some (.builtin "object.__setattr__")))
  (N8:W.hasDictIn K bW=true)
  (zT:W.findIn K (.ref bW) "row"=some none)
  (tL:W.findIn K (.ref bW) "column"=some none)
  (Gm:W.findIn K (.ref aZ) "__init__"=some (some (.ref dI)))
  (xu:W.isFn K (.ref dI)=true)
  (xG:K.lookup dI=some ⟨Tz,Tt,.func (W.fnOf "__init__" "Lacking.__init__" (d8 f9) (cT f9) (aF f9) .none TF TJ TQ Tv Gk TV),Tw⟩)
  (xH:W.codeIn K Gk "Lacking.__init__"=true)
  (xJ:W.keepIn K (.ref dI)=true)
  (uX:tX K aZ dI=true)
  (xK:W.keepIn K (.ref aZ)=true)
  (xM:((W.clsIn K aZ).any λcd=>cd.hasDict&&oV cd.mro)=true)
  (xO:W.findIn K (.ref aZ) "__setattr__"=some (some (.builtin "object.__setattr__")))
  (xP:W.hasDictIn K aZ=true)
  (o8:W.findIn K (.ref aZ) "tile"=some none)
  (JD:W.findIn K (.ref bA) "__init__"=some (some (.ref eG)))
  (zU:W.isFn K (.ref eG)=true)
  (zV:K.lookup eG=some ⟨Xg,Xc,.func (W.fnOf "__init__" "NoWord.__init__" (d8 gP) (cT gP) (aF gP) .none Xh Xi Xj Xd JC Xk),Xe⟩)
  (zW:W.codeIn K JC "NoWord.__init__"=true)
  (zX:W.keepIn K (.ref eG)=true)
  (xQ:tX K bA eG=true)
  (zY:W.keepIn K (.ref bA)=true)
  (zZ:((W.clsIn K bA).any λcd=>cd.hasDict&&oV cd.mro)=true)
  (z_:W.findIn K (.ref bA) "__setattr__"=some (some (.builtin "object.__setattr__")))
  (Aa:W.hasDictIn K bA=true)
  (qG:W.findIn K (.ref bA) "word"=some none)
  (hn:W.specialIn K (.builtin "object.__class__") "__get__"=some (some (.builtin "getset_descriptor.__get__")))
  (ht:W.takesIn K (.builtin "object.__class__")=some true)
  (uY:(W.clsIn K bf).isSome=true)
  (uZ:W.findIn K (.ref bf) "__getattribute__"=some (some (.builtin "BaseException.__getattribute__")))
  (u0:W.findIn K (.ref bf) "__getattr__"=some none)
  (u6:W.findIn K (.ref bf) "__class__"=some (some (.builtin "object.__class__")))
  (u9:W.mroIn K bf (.type "object")=some true)
  (u_:W.mroIn K bf (.type "BaseException")=some true)
  (xR:W.kitOne K (.ref bf) (.type "ValueError")=some true)
  (xT:(([bf,bH,bD,bW,bL,aZ,bA]:List Addr).zipIdx.all λp=>W.kitOne K (.ref bf) (.ref p.1)==some (decide (p.2=0)))=true)
  (xU:W.kitAny K (.ref bf) (([cF,cg,cG,cU,cH,dG,cI,cV]:List Addr).map Value.ref)=some false)
  (xV:(W.clsIn K bH).isSome=true)
  (xW:W.findIn K (.ref bH) "__getattribute__"=some (some (.builtin "BaseException.__getattribute__")))
  (xX:W.findIn K (.ref bH) "__getattr__"=some none)
  (xY:W.findIn K (.ref bH) "__class__"=some (some (.builtin "object.__class__")))
  (tM:W.mroIn K bH (.type "object")=some true)
  (xZ:W.mroIn K bH (.type "BaseException")=some true)
  (Hw:W.kitOne K (.ref bH) (.type "ValueError")=some true)
  (Hx:(([bf,bH,bD,bW,bL,aZ,bA]:List Addr).zipIdx.all λp=>W.kitOne K (.ref bH) (.ref p.1)==some (decide (p.2=1)))=true)
  (Hy:W.kitAny K (.ref bH) (([cF,cg,cG,cU,cH,dG,cI,cV]:List Addr).map Value.ref)=some false)
  (yc:(W.clsIn K bD).isSome=true)
  (yd:W.findIn K (.ref bD) "__getattribute__"=some (some (.builtin "BaseException.__getattribute__")))
  (yg:W.findIn K (.ref bD) "__getattr__"=some none)
  (yh:W.findIn K (.ref bD) "__class__"=some (some (.builtin "object.__class__")))
  (yj:W.mroIn K bD (.type "object")=some true)
  (yp:W.mroIn K bD (.type "BaseException")=some true)
  (Ab:W.kitOne K (.ref bD) (.type "ValueError")=some true)
  (Ac:(([bf,bH,bD,bW,bL,aZ,bA]:List Addr).zipIdx.all λp=>W.kitOne K (.ref bD) (.ref p.1)==some (decide (p.2=2)))=true)
  (Ad:W.kitAny K (.ref bD) (([cF,cg,cG,cU,cH,dG,cI,cV]:List Addr).map Value.ref)=some false)
  (Gn:(W.clsIn K bW).isSome=true)
  (Gp:W.findIn K (.ref bW) "__getattribute__"=some (some (.builtin "BaseException.__getattribute__")))
  (Gq:W.findIn K (.ref bW) "__getattr__"=some none)
  (Gr:W.findIn K (.ref bW) "__class__"=some (some (.builtin "object.__class__")))
  (Ae:W.mroIn K bW (.type "object")=some true)
  (Gs:W.mroIn K bW (.type "BaseException")=some true)
  (TY:W.kitOne K (.ref bW) (.type "ValueError")=some true)
  (T3:(([bf,bH,bD,bW,bL,aZ,bA]:List Addr).zipIdx.all λp=>W.kitOne K (.ref bW) (.ref p.1)==some (decide (p.2=3)))=true)
  (T4:W.kitAny K (.ref bW) (([cF,cg,cG,cU,cH,dG,cI,cV]:List Addr).map Value.ref)=some false)
  (DR:(W.clsIn K bL).isSome=true)
  (DW:W.findIn K (.ref bL) "__getattribute__"=some (some (.builtin "BaseException.__getattribute__")))
  (DX:W.findIn K (.ref bL) "__getattr__"=some none)
  (DY:W.findIn K (.ref bL) "__class__"=some (some (.builtin "object.__class__")))
  (D_:W.mroIn K bL (.type "object")=some true)
  (Ea:W.mroIn K bL (.type "BaseException")=some true)
  (Hz:W.kitOne K (.ref bL) (.type "ValueError")=some true)
  (HB:(([bf,bH,bD,bW,bL,aZ,bA]:List Addr).zipIdx.all λp=>W.kitOne K (.ref bL) (.ref p.1)==some (decide (p.2=4)))=true)
  (HD:W.kitAny K (.ref bL) (([cF,cg,cG,cU,cH,dG,cI,cV]:List Addr).map Value.ref)=some false)
  (rC:(W.clsIn K aZ).isSome=true)
  (rD:W.findIn K (.ref aZ) "__getattribute__"=some (some (.builtin "BaseException.__getattribute__")))
  (rE:W.findIn K (.ref aZ) "__getattr__"=some none)
  (rF:W.findIn K (.ref aZ) "__class__"=some (some (.builtin "object.__class__")))
  (oE:W.mroIn K aZ (.type "object")=some true)
  (rH:W.mroIn K aZ (.type "BaseException")=some true)
  (Af:W.kitOne K (.ref aZ) (.type "ValueError")=some true)
  (Ag:(([bf,bH,bD,bW,bL,aZ,bA]:List Addr).zipIdx.all λp=>W.kitOne K (.ref aZ) (.ref p.1)==some (decide (p.2=5)))=true)
  (Ah:W.kitAny K (.ref aZ) (([cF,cg,cG,cU,cH,dG,cI,cV]:List Addr).map Value.ref)=some false)
  (uH:(W.clsIn K bA).isSome=true)
  (uI:W.findIn K (.ref bA) "__getattribute__"=some (some (.builtin "BaseException.__getattribute__")))
  (uJ:W.findIn K (.ref bA) "__getattr__"=some none)
  (uK:W.findIn K (.ref bA) "__class__"=some (some (.builtin "object.__class__")))
  (qD:W.mroIn K bA (.type "object")=some true)
  (uL:W.mroIn K bA (.type "BaseException")=some true)
  (Eb:W.kitOne K (.ref bA) (.type "ValueError")=some true)
  (Ec:(([bf,bH,bD,bW,bL,aZ,bA]:List Addr).zipIdx.all λp=>W.kitOne K (.ref bA) (.ref p.1)==some (decide (p.2=6)))=true)
  (Ed:W.kitAny K (.ref bA) (([cF,cg,cG,cU,cH,dG,cI,cV]:List Addr).map Value.ref)=some false)
  (nn:W.kitOne K (.type "NoneType") (.ref bf)=some false)
  (g2:W.specialIn K (.ref CR) "__getattribute__"=some (some (.builtin "type.__getattribute__")))
  (rd:W.readsIn K CR (.type "type")=true)
  (fc:W.findCls K (.ref CR) (.type "type") "__init__"=some (.val (.builtin "ValueError.__init__")))
  : ∃bf bH bD bW bL aZ bA cF cg cG cU cH dG cI cV CR fV jm dI eG kJ qz jc jD,Zr K mg bf bH bD bW bL aZ bA cF cg cG cU cH dG cI cV CR fV jm dI eG kJ qz jc jD:=by
 have Bt:=iU (st:=iD) Dy Dz DG;have Kf:=iU (st:=jL) NQ NT NZ;have uF:=iU (st:=f9) xG xH xJ;have w6:=iU (st:=gP) zV zW zX;have oY:lJ K mg "Taken" bH fV ["row","column"]:=⟨W.mg_of X G Bu,⟨zR,Dw,DK⟩,⟨DN,tM,DP⟩,⟨xV,xW,xX,xY,hn,ht,tM,xZ⟩,DQ,λg hg=>by
  rcases List.mem_cons.mp hg with z | z
  ·rw[z];exact uW
  ·rw[List.mem_singleton.mp z];exact o7⟩
 have wZ:lJ K mg "Gap" bW jm ["row","column"]:=⟨W.mg_of X G Kg,⟨Hv,NP,N5⟩,⟨N6,Ae,N7⟩,⟨Gn,Gp,Gq,Gr,hn,ht,Ae,Gs⟩,N8,λg hg=>by
  rcases List.mem_cons.mp hg with z | z
  ·rw[z];exact zT
  ·rw[List.mem_singleton.mp z];exact tL⟩
 have uE:lJ K mg "Lacking" aZ dI ["tile"]:=⟨W.mg_of X G uG,⟨uX,xu,xK⟩,⟨xM,oE,xO⟩,⟨rC,rD,rE,rF,hn,ht,oE,rH⟩,xP,λg hg=>by
  rw[List.mem_singleton.mp hg];exact o8⟩
 have w5:lJ K mg "NoWord" bA eG ["word"]:=⟨W.mg_of X G xq,⟨xQ,zU,zY⟩,⟨zZ,qD,z_⟩,⟨uH,uI,uJ,uK,hn,ht,qD,uL⟩,Aa,λg hg=>by
  rw[List.mem_singleton.mp hg];exact qG⟩
 exact⟨bf,bH,bD,bW,bL,aZ,bA,cF,cg,cG,cU,cH,dG,cI,cV,CR,fV,jm,dI,eG,_,_,_,_,⟨W.mg_of X G xg,W.mg_of X G Bu,W.mg_of X G zN,W.mg_of X G Kg,W.mg_of X G Ho,W.mg_of X G uG,W.mg_of X G xq,W.mg_of X G Dp,W.mg_of X G zO,W.mg_of X G Dq,W.mg_of X G Hq,W.mg_of X G Dr,W.mg_of X G Nz,W.mg_of X G Du,W.mg_of X G Hr,W.mg_of X G aR,⟨g2,rd,fc⟩,oA,qC,vW,oY,Bt,Bt.binds (ps:=["self","row","column"]) (λ_ _ _ _ _ _ us hl=>L2.e3 (λ_ _ _=>rfl) us hl),wZ,Kf,Kf.binds (ps:=["self","row","column"]) (λ_ _ _ _ _ _ us hl=>L2.e3 (λ_ _ _=>rfl) us hl),uE,uF,uF.binds (ps:=["self","tile"]) (λ_ _ _ _ _ _ us hl=>L2.e2 (λ_ _=>rfl) us hl),w5,w6,w6.binds (ps:=["self","word"]) (λ_ _ _ _ _ _ us hl=>L2.e2 (λ_ _=>rfl) us hl),⟨xr,Ht,zP,TX,Hu,zQ,Dv⟩,⟨⟨⟨uY,uZ,u0,u6,hn,ht,u9,u_⟩,xR,oZ xT,xU,by decide⟩,⟨⟨xV,xW,xX,xY,hn,ht,tM,xZ⟩,Hw,oZ Hx,Hy,by decide⟩,⟨⟨yc,yd,yg,yh,hn,ht,yj,yp⟩,Ab,oZ Ac,Ad,by decide⟩,⟨⟨Gn,Gp,Gq,Gr,hn,ht,Ae,Gs⟩,TY,oZ T3,T4,by decide⟩,⟨⟨DR,DW,DX,DY,hn,ht,D_,Ea⟩,Hz,oZ HB,HD,by decide⟩,⟨⟨rC,rD,rE,rF,hn,ht,oE,rH⟩,Af,oZ Ag,Ah,by decide⟩,⟨⟨uH,uI,uJ,uK,hn,ht,qD,uL⟩,Eb,oZ Ec,Ed,by decide⟩,nn⟩⟩⟩
theorem ab2 (aU:mg "len"=none)(cJ:mg "range"=none)(bU:mg "tuple"=none)(iJ:mg "list"=none)(kE:mg "sorted"=none)(aQ:mg "isinstance"=none)(jV:mg "bool"=none)(j6:mg "int"=none)(Bm:mg "str"=none)(dU:mg "all"=none)(uy:mg "any"=none)(FQ:mg "zip"=none)(Bq:mg "min"=none)(Br:mg "max"=none)(kI:mg "ValueError"=none)
  (dW:∃t,mg "FREE"=some (.str (S [46]) t)) (vM:∃t,mg "MARKS"=some (.str (S MK) t)) (vL:∃t,mg "MOST"=some (.int 9 t)) (kj:∃t,mg "MOST_TILES"=some (.int 7 t)) (rJ:aJ K mg "is_whole" nO ["thing"]) (Ai:aJ K mg "is_sign" tY ["thing"]) (vf:aJ K mg "letter_of" pD ["sign"]) (Aj:aJ K mg "tile_of" tZ ["sign"]) (Ak:aJ K mg "left_of" t_ ["rack","signs"]) (yq:aJ K mg "is_block" qW ["thing"]) (yr:aJ K mg "are_rows" qX ["thing"]) (vg:aJ K mg "are_marks" pG ["thing"]) (oF:aJ K mg "is_cell_of" j_ ["rows","row","column"]) (qH:aJ K mg "is_begin_of" mq ["rows","thing"]) (yt:aJ K mg "is_board" qY ["rows","marks","begin"]) (qI:aJ K mg "column_text" mz ["rows","column"]) (vh:aJ K mg "is_triple" pH ["board","thing"]) (vm:aJ K mg "is_laying" pI ["board","thing"]) (yu:aJ K mg "cells_of" qZ ["laying"]) (pO:aJ K mg "is_across" lV ["laying"]) (Al:aJ K mg "is_down" uc ["laying"]) (kO:aJ K mg "is_next_to_taken" iW ["board","row","column"]) (Ef:aJ K mg "formed" wD ["board","laying"]) (tQ:aJ K mg "check_free" nP ["board","laying"]) (mY:aJ K mg "check_straight" jN ["laying"]) (tR:aJ K mg "check_gaps" nQ ["board","laying"]) (o9:aJ K mg "check_joined" lD ["board","laying"]) (qJ:aJ K mg "check_words" mF ["board","book","laying"]) (o_:aJ K mg "check_laying" lE ["board","book","rack","laying"]) (Am:aJ K mg "is_word" ud ["text"]) (tU:aJ K mg "check_word" nU ["text"]) (Ao:aJ K mg "_law_cell_at" uf ["_law_script","_law_k"]) (N_:aJ K mg "_law_draw" Fo ["_law_cell","_law_j"]) (Aq:aJ K mg "_law_letters" ug ["_law_cell"]) (Oa:aJ K mg "_law_sign" Fp ["_law_cell","_law_letters_here"]) (Ob:aJ K mg "_law_rows" Fq ["_law_script","_law_letters_here"]) (HF:aJ K mg "_law_marks" Bf ["_law_rows_here","_law_cell"]) (Oc:aJ K mg "_law_grid" Ft ["_law_rows_here","_law_laying"]) (T5:aJ K mg "_law_run" Kc ["_law_grid_here","_law_row","_law_column","_law_way"]) (HJ:aJ K mg "_law_words" Bg ["_law_rows_here","_law_laying"]) (uM:aJ K mg "_law_is_near" qg ["_law_rows_here","_law_row","_law_column"]) (Eh:aJ K mg "_law_starts" wF ["_law_rows_here","_law_cell"]) (yw:aJ K mg "_law_straight" rz ["_law_rows_here","_law_cell","_law_letters_here","_law_many"]) (Ei:aJ K mg "_law_joined" wG ["_law_rows_here","_law_begin","_law_cells"]) (vo:aJ K mg "_law_cells_due" pJ ["_law_rows_here","_law_begin","_law_laying"]) (HN:aJ K mg "_law_class" Bh ["_law_error"]) (Ej:aJ K mg "_law_caught" wI ["_law_board","_law_book","_law_rack","_law_laying"]) (Od:aJ K mg "_law_bent" Fv ["_law_laying","_law_cell","_law_rows_here"]) (HS:aJ K mg "_law_tiles" Bj ["_law_laying"]) (HW:aJ K mg "_law_right" Bk ["_law_caught_here","_law_due","_law_words_here"]) {ab3 ab4 ab5 ab6 ab7 ab8:Addr} {ZK ZL ZM ZP ZQ:FuncData} (bQ:wY K mg ab3 ab4 ab5 ab6 ab7 ab8 ZK ZL ZM ZP ZQ) {aez aeA aeB:Addr} {ab9 ab_:FuncData} (kY:zM K mg aez aeA aeB ab9 ab_) {bf bH bD bW bL aZ bA cF cg cG cU cH dG cI cV CR fV jm dI eG:Addr} {kJ qz jc jD:FuncData} (R:Zr K mg bf bH bD bW bL aZ bA cF cg cG cU cH dG cI cV CR fV jm dI eG kJ qz jc jD)
  {f:Addr} {fd:FuncData} (F:gk K "law" "law" Kd f fd):cD P w K mg base fK 20 f fd ["_law_script"] (J_ K):=by
 have c1:=R3 (P:=P) (w:=w) (base:=base) Ao aU;have c2:=abm (P:=P) (w:=w) (base:=base) N_;have c3:=R6 (P:=P) (w:=w) (base:=base) Aq cJ;have c4:=abn (P:=P) (w:=w) (base:=base) Oa aU;have c5:=OJ Ob cJ bU c1 c2 c4;have c6:=Lr HF aU cJ bU c2;have p1:=RZ (P:=P) (w:=w) (base:=base) Ai aU Bm aQ;have p2:=(Mg (P:=P) (w:=w) (base:=base) rJ j6 jV aQ).imp (sp':=Qn) (by intro _ _ _ _ h;exact .inl h);have p3:=Ow (P:=P) (w:=w) (base:=base) yq aU bU Bm dU aQ vL;have p4:=Ox yr dU dW p3 p1;have p5:=Lk vg dU vM p3;have p6:=JQ oF aU p2;have p7:=GQ qH aU bU aQ p6;have p8:=Oz yt aU p4 p5 p7;have p9:=GX (P:=P) (w:=w) (base:=base) qI;have g0:=JT bQ.F0 bQ.T p8;have g1:=ae2 bQ.F1 bQ.T dW p6;have g2:=R9 (P:=P) (w:=w) (base:=base) bQ.F2 bQ.T dU dW;have g3:=adS bQ.F3 bQ.T aU dW p9;have g4:=abq bQ.F4 bQ.T iJ bU bQ.Fb bQ.M g0 bQ.b0;have w1:=Sw (P:=P) (w:=w) (base:=base) Am aU dU;have w2:=J1 tU w1;have k0:=abA kY.F0 kY.T w2;have k1:=ad4 (P:=P) (w:=w) (mg:=mg) (base:=base) kY.F1 kY.T;have c7:=(O_ (P:=P) (w:=w) (base:=base) uM aU).imp (sp':=Qu) (by rintro _ _ _ _⟨p,R,r,w,i,j,a,b,c,d,e,f,q⟩;exact⟨p,R,r,w,i,j,a,b,c,d,e,f,q _⟩);have c8:=VP Eh aU cJ c7;have c9:=O1 yw aU j6 bU c8 c2 c4;have x4:=Ma (P:=P) (w:=w) (base:=base) pO dU;have x5:=V8 Ef aU bU bQ.T bQ.m4 g4 bQ.b4 bQ.m3 g3 bQ.b3 x4;have y1:=Mg (P:=P) (w:=w) (base:=base) rJ j6 jV aQ;have y2:=G7 oF aU y1;have y3:=Mh vh aU bU aQ bQ.T y2 p1;have y4:=O6 (P:=P) (w:=w) (base:=base) yu;have y5:=Ml vm aU bU aQ dU FQ kj y3 y4;have e1:=abu (P:=P) (w:=w) (base:=base) R.Bt R.mR R.I R.oY;have e2:=ad1 (P:=P) (w:=w) (base:=base) R.Kf R.mR R.I R.wZ;have e3:=Sy (P:=P) (w:=w) (base:=base) R.uF R.mR R.I R.uE;have e4:=Wq (P:=P) (w:=w) (base:=base) R.w6 R.mR R.I R.w5;have z1:=JW (P:=P) (w:=w) (base:=base) pO dU;have z2:=Ss (P:=P) (w:=w) (base:=base) Al dU;have z3:=JX kO uy dW bQ.T bQ.m1 g1 bQ.b1;have z4:=Mq (P:=P) (w:=w) (base:=base) vf;have z5:=Sx (P:=P) (w:=w) (base:=base) Aj;have q1:=JZ tQ dW bQ.T bQ.m1 g1 bQ.b1 R.oY e1 R.G9;have q2:=Bw mY R.JB R.qC z1 z2;have q3:=J0 tR cJ dW bQ.T bQ.m1 g1 bQ.b1 bQ.m4 g4 bQ.b4 R.wZ e2 R.Sv;have q4:=FZ o9 uy bQ.T bQ.m2 g2 bQ.b2 R.Q8 R.vW y4 z3;have q5:=SJ Ak iJ kE R.uE e3 R.zG z5;have q6:=Hf qJ kY.T kY.m1 k1 kY.b1 R.w5 e4 R.wV x5 z4;have q7:=Ge (c:=⟨bf,bH,bD,bW,bL,aZ,bA⟩) o_ R.Gj R.oA y5 q1 q2 q3 q4 q5 q6;have l1:=Y8 (P:=P) (w:=w) (base:=base) HN aU aQ kI R.Gj R.abY R.JB R.ae_ R.Q8 R.Xa R.Nx R.Zt R.Xb R.Zu R.abZ R.Zv R.aeo R.Zw R.ab0;have l2:=WK Ej R.mR R.M q7;have l3:=O_ (P:=P) (w:=w) (base:=base) uM aU;have l4:=WM Ei aU l3;have l5:=Ni vo cJ Bq Br l4;have x1:=abr (P:=P) (w:=w) (base:=base) Oc iJ;have x2:=Sh (P:=P) (w:=w) (base:=base) T5 aU;have x3:=LR HJ aU j6 bU x1 x2;have l7:=Zf (P:=P) (w:=w) (base:=base) HS;have l8:=abO (P:=P) (w:=w) (base:=base) Od aU iJ bU kE;have l9:=Zk HW aQ jV R.Nx R.V l1;exact(aec (c:=⟨bf,bH,bD,bW,bL,aZ,bA⟩) F aU cJ R.V ⟨R.oY.hd,R.oY.no _ (by simp),R.oY.no _ (by simp)⟩ ⟨R.wZ.hd,R.wZ.no _ (by simp),R.wZ.no _ (by simp)⟩ bQ.T bQ.Fb bQ.M g0 bQ.b0 kY.T kY.Fb kY.M k0 kY.b0 c3 c1 c5 c6 c2 c9 l8 x3 l7 l5 l9 l2).mono (by decide)
end
end My
namespace PySem.W.Fast
def tw15096396424120339780:=0
def tw12530699999630610133:=0
def tw9424092742437624164:=0
def tw6219244969109056374:=0
def tw5684911834425482296:=0
def tw9508099019304351288:=0
def tw185665673678818476:=0
def tw9151520738536804709:=0
def tw366567493887082069:=0
def tw9089378639561229063:=0
def tw2235474174942079318:=0
def tw12224234493998481637:=0
def tw1056852294661546624:=0
def tw9450016943066194731:=0
def tw8772732738348012554:=0
def tw7923178063305205377:=0
def tw17209025382215499076:=0
def tw9465175381096110917:=0
def tw9461417795068301385:=0
def tw14030996897305489391:=0
def tw12142576015567938765:=0
def tw11046879409912212614:=0
def tw13502330723221428210:=0
def tw9940155148003923801:=0
def tw2115885470153370569:=0
def tw4298339904774238823:=0
def tw5877453780751437574:=0
def tw1925899310495546648:=0
def tw11031929430029766938:=0
def tw9025615655627239350:=0
def tw14561441118796719959:=0
def tw12173080981520965132:=0
def tw11338706284358804051:=0
def tw968689312294396369:=0
def tw3783596507746660620:=0
def tw10881684259093855719:=0
def tw4094510864709441145:=0
def tw15147894294547163341:=0
def tw9092757039138265150:=0
def tw9976972717743831227:=0
def tw9724757501667708357:=0
def tw11555381926202564121:=0
def tw16820232092300677307:=0
def tw11774393459443132686:=0
def tw3744318760111384815:=0
def tw14311660237811057163:=0
def tw15930824611643368254:=0
def tw8176997711219547255:=0
def tw10971793914201487749:=0
def tw3108469503520433852:=0
def tw498063253420210016:=0
def tw17957788120963469280:=0
def tw9798086825136159959:=0
def tw6279971331355061764:=0
def tw7355993252850583246:=0
def tw13345143666440828746:=0
def tw16657017534541570641:=0
def tw7315695571243864752:=0
def tw315182552161344210:=0
def tw13395258642080880443:=0
def tw17105797248867282861:=0
def tw12958188217945665236:=0
def tw14957119120433314219:=0
def tw4584024358280501180:=0
def tw11048242530241538826:=0
def tw8007953280852930085:=0
def tw13232236071749079853:=0
def tw15397867694800971485:=0
def tw8658997862043239179:=0
def tw6772964428247216178:=0
def tw14687472840667882757:=0
def tw7984111392567790535:=0
def tw6844681975947021782:=0
def tw7717836741237389274:=0
def tw1613682210440994542:=0
def tw5567398709794049890:=0
def tw16336005083252934937:=0
def tw1965250560605302663:=0
def tw12858955435988141261:=0
def tw17754667284902441049:=0
def tw3914482207848267690:=0
def tw7412567739864916163:=0
def tw10539111275021600234:=0
def tw16214526931502668367:=0
def tw10442144256742557363:=0
def tw11876400146188607340:=0
def tw10486594342147330015:=0
def tw16905309629402083759:=0
def tw10894284194414106069:=0
def tw13176629645412101084:=0
def tw6457857610202511485:=0
def tw12487855938381515137:=0
def tw15388693958487468383:=0
def tw4445375031256382859:=0
def tw14843826310632983673:=0
def tw16091954398193596359:=0
def tw15696076900319389002:=0
def tw17098759042817387935:=0
def tw15673032127663845628:=0
def tw7011277346885708833:=0
def tw10609956994791903618:=0
def tw3695264978647723636:=0
def tw15656557809783206612:=0
def tw9872751213904115163:=0
def tw10482802571458927421:=0
def tw5316375890884758291:=0
def tw11388176368474460192:=0
def tw6164874682428135929:=0
def tw15056759020435732929:=0
def tw13630454896779878671:=0
def tw12600544076035123861:=0
def tw12838662597763667510:=0
def tw3302469759972232614:=0
def tw122437850362605789:=0
def tw9418856624197861268:=0
def tw10374734197404639431:=0
def tw13007482364134779669:=0
def tw7035585060943116181:=0
def tw12460990724556072309:=0
def tw18305313784056251920:=0
def tw13556288568412000408:=0
def tw14996913921204506821:=0
def tw2176639622781836406:=0
def tw10774360672534881004:=0
def tw15056026718481611823:=0
def tw11674122373792364381:=0
def tw10431181339557494:=0
def tw851679129018812950:=0
def tw17380738946826435060:=0
def tw12199600412293405298:=0
def tw12235822314607394348:=0
def tw10294352703750280937:=0
def tw5702112021464887567:=0
def tw10149246003297023299:=0
def tw7569360169400246481:=0
def tw16223754534435617035:=0
def tw4800405764664745350:=0
def tw831815158536878168:=0
def tw17477688370762172104:=0
def tw16001798552495675098:=0
def tw2750182144034202578:=0
def tw3475486963696737855:=0
def tw10320647534560355141:=0
def tw13050821412957205180:=0
def tw15390508558522275208:=0
def tw16524213803808755756:=0
def tw12622246661152419466:=0
def tw8387374274716679299:=0
def tw437443048173983619:=0
def tw16463172814517800225:=0
def tw3705925821637297233:=0
def tw6494290129310912405:=0
def tw6655616520715975420:=0
def tw9436489370490785133:=0
def tw7402913192137954349:=0
def tw5825584950611248023:=0
def tw3252308087030958936:=0
def tw12050590984950287872:=0
def tw12365108855756643799:=0
def tw10066509436178269442:=0
def tw9285329804084749871:=0
def tw5507801829209503904:=0
def tw4963864603377450423:=0
def tw7097943025694088456:=0
def tw12525808136210369859:=0
def tw1632053808388741700:=0
def tw15816843766833114528:=0
def tw4454741961764435614:=0
def tw15155025409319137252:=0
def tw3372752092714215961:=0
def tw5440682697461708086:=0
def tw6027046942576466421:=0
def tw1613022292701217399:=0
def tw9418717234976127069:=0
def tw4756801395879212070:=0
def tw5861049168912620741:=0
def tw2078203655430488569:=0
def tw11502305095835337481:=0
def tw8611792562510191436:=0
def tw6399941130057930544:=0
def tw5680459228524439289:=0
def tw12011352539130599797:=0
def tw3186216400031841909:=0
def tw1916926419453598758:=0
def tw12037408957208184209:=0
def tw16160875287513220449:=0
def tw12558754515624991262:=0
def tw9829706386557820732:=0
def tw13809217100845979165:=0
def tw13254922404695489595:=0
def tw11009898351236934761:=0
def tw15661489646248511276:=0
def tw12849788572338700470:=0
def tw7656048242052059395:=0
def tw18130107595394847504:=0
def tw11036261560450116689:=0
def tw12600721389575455926:=0
def tw8722163473359721382:=0
def tw9284544657914206912:=0
def tw13669281568941402010:=0
def tw383592809471199446:=0
def tw17143437052634593587:=0
def tw6590959422449923717:=0
def tw4346865140729638350:=0
def tw15941247682677913145:=0
def tw11135271805682318985:=0
def tw6595699042744704477:=0
def tw13335205793233274356:=0
def tw3710336986348526750:=0
def tw16852850337603108704:=0
def tw10712668607706226652:=0
def tw11176340979308547657:=0
def tw16561005056901372310:=0
def tw12897206772292281749:=0
def tw15808630153663105922:=0
def tw5643505541869406779:=0
def tw7383548790566935548:=0
def tw4070246776753685784:=0
def tw12884668781717496497:=0
def tw17573492316040837223:=0
def tw15790298584912211529:=0
def tw6840843857595416805:=0
def tw15867624549109468353:=0
def tw1149121245481362054:=0
def tw9627646067609522359:=0
def tw3108155564475266660:=0
def tw6873057696266964200:=0
def tw7763572407495347522:=0
def tw11227978352719387166:=0
def tw7846427500065549285:=0
def tw2298340584833243159:=0
def tw16128071086597037375:=0
def tw11715011159505428299:=0
def tw17171601502878638036:=0
def tw13775952856743661459:=0
def tw11923688428991510398:=0
def tw15656888768518530536:=0
def tw462948556877119259:=0
def tw15492403295002908867:=0
def tw11266536632563463238:=0
def tw5026190845677103830:=0
def tw5048543479226592267:=0
def tw3170560475059150642:=0
def tw16485208565711931445:=0
def tw13912330952088072687:=0
def tw16319761611758877616:=0
def tw13001535001821544060:=0
def tw6555371801160490409:=0
def tw12228853660216220367:=0
def tw3499172284107618966:=0
def tw14506589720295390268:=0
def tw13326012399657262929:=0
def tw1718939823128206832:=0
def tw5208122005488877609:=0
def tw9435066641974073083:=0
def tw13394164978634159530:=0
def tw2879119718768552663:=0
def tw443781327001509015:=0
def tw10270283829166886781:=0
def tw11892349010067569151:=0
def tw10130846291464316724:=0
def tw9084627845795823212:=0
def tw4363111131039172092:=0
def tw3341478645504268994:=0
def tw6114529676448129342:=0
def tw3866038242908283876:=0
def tw4112463722949452581:=0
def tw10148007840869937076:=0
def tw12211153137944911357:=0
def tw1900930762551242265:=0
def tw880522376433632997:=0
def tw2656838178619921018:=0
def tw17289792388522144334:=0
def tw3315413317554294794:=0
def tw15167680396560391539:=0
def tw15679658223270519321:=0
def tw17436304698248583860:=0
def tw7099614388811295619:=0
def tw7216127918283160379:=0
def tw7195850885444157631:=0
def tw12542827390022195924:=0
def tw10731636092846441146:=0
def tw9449474097574552338:=0
def tw13854346617085468701:=0
def tw2379704817188400686:=0
def tw14351146701214724827:=0
def tw10296455797699163642:=0
def tw5735370064607873253:=0
def tw1471319430781823644:=0
def tw8764542937144273795:=0
def tw3758613586229166510:=0
def tw232755963514861083:=0
def tw568623470533035835:=0
def tw1401587331243723191:=0
def tw3421378554590513251:=0
def tw10855650521185909880:=0
def tw8808372406170828396:=0
def tw6717630303227292468:=0
def tw3213214869170899054:=0
def tw17610723410901678741:=0
def tw6419842480982479237:=0
def tw17431015571348741384:=0
def tw8126036683852922328:=0
def tw14600869341369544180:=0
def tw3730395145362953688:=0
def tw8666240538340843486:=0
def tw10626312151967261426:=0
def tw13326185934203408092:=0
def tw4459368246800805473:=0
def tw3425617347041533818:=0
def tw13190432113482417556:=0
def tw6232665532596526808:=0
def tw4568350899509526910:=0
def tw17459736786665507872:=0
def tw6455918428907081007:=0
def tw15337052628951819568:=0
def tw13047019508252085193:=0
def tw7214253858131981468:=0
def tw18334248211197560483:=0
def tw6678246662434247780:=0
def tw6127754196851945803:=0
def tw13715289350761564339:=0
def tw5078484965122246242:=0
def tw16105033014860353528:=0
def tw9307418628922568722:=0
def tw4006263572325307179:=0
def tw7171106724565707946:=0
def tw2170324832024763583:=0
def tw4467178345311341177:=0
def tw2425393269327857087:=0
def tw2009238541737215788:=0
def tw1000367664940773059:=0
def tw4236301866123099271:=0
def tw9462177560508398730:=0
def tw3839671712047709289:=0
def tw2840889212792807750:=0
def tw14428245255845864853:=0
def tw2251802750246653889:=0
def tw9835615709050152241:=0
def tw4053986704550086197:=0
def tw3998779460071929528:=0
def tw12915072957039671594:=0
def tw14789175688724222588:=0
def tw11107467636873772450:=0
def tw14796285440461924835:=0
def tw8914194541066250319:=0
def tw4230313668081687028:=0
def tw6094668027500795606:=0
def tw13642482336850560436:=0
def tw5443224636202294850:=0
def tw3082508640584660057:=0
def tw13042719487401494825:=0
def tw11715627482946341279:=0
def tw10881635641659248591:=0
def tw4123057089408846404:=0
def tw1119545645299325974:=0
def tw7450376825194642976:=0
def tw16926049430744639429:=0
def tw2190280508878099651:=0
def tw298386138675316079:=0
def tw3033730342377468212:=0
def tw18038070818201644203:=0
end PySem.W.Fast
open PySem PySem.W PyProof.Rows
set_option maxRecDepth 100000 in
set_option maxHeartbeats 0 in
theorem PySem.Challenge.cw_letterrack_k22_cells_that_break_a_rule_holds : PySem.Challenge.rw_letterrack_k22_cells_that_break_a_rule.Holds := by
 w_on;o_law;k_head;(case hw=>w_witness2)
 k_fill
 refine L2.aa0 (x:="_law_script") (l:=PySem.Challenge.rw_letterrack_k22_cells_that_break_a_rule) rfl rfl (λw h Y=>PySem.W.kIn_of Y) ?F
 case F=>
  intro w mg fa h KX G hmg;have aU:mg "len"=none:=by
   refine' PySem.W.mg_none_of KX G ?z
   (case z=>k_is)
  have cJ:mg "range"=none:=by
   refine' PySem.W.mg_none_of KX G ?z
   (case z=>k_is)
  have bU:mg "tuple"=none:=by
   refine' PySem.W.mg_none_of KX G ?z
   (case z=>k_is)
  have iJ:mg "list"=none:=by
   refine' PySem.W.mg_none_of KX G ?z
   (case z=>k_is)
  have kE:mg "sorted"=none:=by
   refine' PySem.W.mg_none_of KX G ?z
   (case z=>k_is)
  have aQ:mg "isinstance"=none:=by
   refine' PySem.W.mg_none_of KX G ?z
   (case z=>k_is)
  have jV:mg "bool"=none:=by
   refine' PySem.W.mg_none_of KX G ?z
   (case z=>k_is)
  have j6:mg "int"=none:=by
   refine' PySem.W.mg_none_of KX G ?z
   (case z=>k_is)
  have Bm:mg "str"=none:=by
   refine' PySem.W.mg_none_of KX G ?z
   (case z=>k_is)
  have dU:mg "all"=none:=by
   refine' PySem.W.mg_none_of KX G ?z
   (case z=>k_is)
  have uy:mg "any"=none:=by
   refine' PySem.W.mg_none_of KX G ?z
   (case z=>k_is)
  have FQ:mg "zip"=none:=by
   refine' PySem.W.mg_none_of KX G ?z
   (case z=>k_is)
  have Bq:mg "min"=none:=by
   refine' PySem.W.mg_none_of KX G ?z
   (case z=>k_is)
  have Br:mg "max"=none:=by
   refine' PySem.W.mg_none_of KX G ?z
   (case z=>k_is)
  have kI:mg "ValueError"=none:=by
   refine' PySem.W.mg_none_of KX G ?z
   (case z=>k_is)
  have dW:∃t,mg "FREE"=some (.str (L2.S [46]) t):=by
   refine' L2.KJ KX G ?z
   (case z=>k_is)
  have vM:∃t,mg "MARKS"=some (.str (L2.S My.MK) t):=by
   refine' L2.KJ KX G ?z
   (case z=>k_is)
  have vL:∃t,mg "MOST"=some (.int 9 t):=by
   refine' L2.KN KX G ?z
   (case z=>k_is)
  have kj:∃t,mg "MOST_TILES"=some (.int 7 t):=by
   refine' L2.KN KX G ?z
   (case z=>k_is)
  have rJ:L2.aJ (L2.KOf KX) mg "is_whole" My.nO ["thing"]:=by
   dsimp only[L2.KOf];refine' L2.bC KX G ?a ?l ?c ?k ?b
   (case a=>k_is);(case l=>k_is);(case c=>k_is);(case k=>k_is)
   (case b=>exact λ_ _ _ _ _ _ us hl=>L2.e1 (λ_=>rfl) us hl)
  have Ai:L2.aJ (L2.KOf KX) mg "is_sign" My.tY ["thing"]:=by
   dsimp only[L2.KOf];refine' L2.bC KX G ?a ?l ?c ?k ?b
   (case a=>k_is);(case l=>k_is);(case c=>k_is);(case k=>k_is)
   (case b=>exact λ_ _ _ _ _ _ us hl=>L2.e1 (λ_=>rfl) us hl)
  have vf:L2.aJ (L2.KOf KX) mg "letter_of" My.pD ["sign"]:=by
   dsimp only[L2.KOf];refine' L2.bC KX G ?a ?l ?c ?k ?b
   (case a=>k_is);(case l=>k_is);(case c=>k_is);(case k=>k_is)
   (case b=>exact λ_ _ _ _ _ _ us hl=>L2.e1 (λ_=>rfl) us hl)
  have Aj:L2.aJ (L2.KOf KX) mg "tile_of" My.tZ ["sign"]:=by
   dsimp only[L2.KOf];refine' L2.bC KX G ?a ?l ?c ?k ?b
   (case a=>k_is);(case l=>k_is);(case c=>k_is);(case k=>k_is)
   (case b=>exact λ_ _ _ _ _ _ us hl=>L2.e1 (λ_=>rfl) us hl)
  have Ak:L2.aJ (L2.KOf KX) mg "left_of" My.t_ ["rack","signs"]:=by
   dsimp only[L2.KOf];refine' L2.bC KX G ?a ?l ?c ?k ?b
   (case a=>k_is);(case l=>k_is);(case c=>k_is);(case k=>k_is)
   (case b=>exact λ_ _ _ _ _ _ us hl=>L2.e2 (λ_ _=>rfl) us hl)
  have yq:L2.aJ (L2.KOf KX) mg "is_block" My.qW ["thing"]:=by
   dsimp only[L2.KOf];refine' L2.bC KX G ?a ?l ?c ?k ?b
   (case a=>k_is);(case l=>k_is);(case c=>k_is);(case k=>k_is)
   (case b=>exact λ_ _ _ _ _ _ us hl=>L2.e1 (λ_=>rfl) us hl)
  have yr:L2.aJ (L2.KOf KX) mg "are_rows" My.qX ["thing"]:=by
   dsimp only[L2.KOf];refine' L2.bC KX G ?a ?l ?c ?k ?b
   (case a=>k_is);(case l=>k_is);(case c=>k_is);(case k=>k_is)
   (case b=>exact λ_ _ _ _ _ _ us hl=>L2.e1 (λ_=>rfl) us hl)
  have vg:L2.aJ (L2.KOf KX) mg "are_marks" My.pG ["thing"]:=by
   dsimp only[L2.KOf];refine' L2.bC KX G ?a ?l ?c ?k ?b
   (case a=>k_is);(case l=>k_is);(case c=>k_is);(case k=>k_is)
   (case b=>exact λ_ _ _ _ _ _ us hl=>L2.e1 (λ_=>rfl) us hl)
  have oF:L2.aJ (L2.KOf KX) mg "is_cell_of" My.j_ ["rows","row","column"]:=by
   dsimp only[L2.KOf];refine' L2.bC KX G ?a ?l ?c ?k ?b
   (case a=>k_is);(case l=>k_is);(case c=>k_is);(case k=>k_is)
   (case b=>exact λ_ _ _ _ _ _ us hl=>L2.e3 (λ_ _ _=>rfl) us hl)
  have qH:L2.aJ (L2.KOf KX) mg "is_begin_of" My.mq ["rows","thing"]:=by
   dsimp only[L2.KOf];refine' L2.bC KX G ?a ?l ?c ?k ?b
   (case a=>k_is);(case l=>k_is);(case c=>k_is);(case k=>k_is)
   (case b=>exact λ_ _ _ _ _ _ us hl=>L2.e2 (λ_ _=>rfl) us hl)
  have yt:L2.aJ (L2.KOf KX) mg "is_board" My.qY ["rows","marks","begin"]:=by
   dsimp only[L2.KOf];refine' L2.bC KX G ?a ?l ?c ?k ?b
   (case a=>k_is);(case l=>k_is);(case c=>k_is);(case k=>k_is)
   (case b=>exact λ_ _ _ _ _ _ us hl=>L2.e3 (λ_ _ _=>rfl) us hl)
  have qI:L2.aJ (L2.KOf KX) mg "column_text" My.mz ["rows","column"]:=by
   dsimp only[L2.KOf];refine' L2.bC KX G ?a ?l ?c ?k ?b
   (case a=>k_is);(case l=>k_is);(case c=>k_is);(case k=>k_is)
   (case b=>exact λ_ _ _ _ _ _ us hl=>L2.e2 (λ_ _=>rfl) us hl)
  have vh:L2.aJ (L2.KOf KX) mg "is_triple" My.pH ["board","thing"]:=by
   dsimp only[L2.KOf];refine' L2.bC KX G ?a ?l ?c ?k ?b
   (case a=>k_is);(case l=>k_is);(case c=>k_is);(case k=>k_is)
   (case b=>exact λ_ _ _ _ _ _ us hl=>L2.e2 (λ_ _=>rfl) us hl)
  have vm:L2.aJ (L2.KOf KX) mg "is_laying" My.pI ["board","thing"]:=by
   dsimp only[L2.KOf];refine' L2.bC KX G ?a ?l ?c ?k ?b
   (case a=>k_is);(case l=>k_is);(case c=>k_is);(case k=>k_is)
   (case b=>exact λ_ _ _ _ _ _ us hl=>L2.e2 (λ_ _=>rfl) us hl)
  have yu:L2.aJ (L2.KOf KX) mg "cells_of" My.qZ ["laying"]:=by
   dsimp only[L2.KOf];refine' L2.bC KX G ?a ?l ?c ?k ?b
   (case a=>k_is);(case l=>k_is);(case c=>k_is);(case k=>k_is)
   (case b=>exact λ_ _ _ _ _ _ us hl=>L2.e1 (λ_=>rfl) us hl)
  have pO:L2.aJ (L2.KOf KX) mg "is_across" My.lV ["laying"]:=by
   dsimp only[L2.KOf];refine' L2.bC KX G ?a ?l ?c ?k ?b
   (case a=>k_is);(case l=>k_is);(case c=>k_is);(case k=>k_is)
   (case b=>exact λ_ _ _ _ _ _ us hl=>L2.e1 (λ_=>rfl) us hl)
  have Al:L2.aJ (L2.KOf KX) mg "is_down" My.uc ["laying"]:=by
   dsimp only[L2.KOf];refine' L2.bC KX G ?a ?l ?c ?k ?b
   (case a=>k_is);(case l=>k_is);(case c=>k_is);(case k=>k_is)
   (case b=>exact λ_ _ _ _ _ _ us hl=>L2.e1 (λ_=>rfl) us hl)
  have kO:L2.aJ (L2.KOf KX) mg "is_next_to_taken" My.iW ["board","row","column"]:=by
   dsimp only[L2.KOf];refine' L2.bC KX G ?a ?l ?c ?k ?b
   (case a=>k_is);(case l=>k_is);(case c=>k_is);(case k=>k_is)
   (case b=>exact λ_ _ _ _ _ _ us hl=>L2.e3 (λ_ _ _=>rfl) us hl)
  have Ef:L2.aJ (L2.KOf KX) mg "formed" My.wD ["board","laying"]:=by
   dsimp only[L2.KOf];refine' L2.bC KX G ?a ?l ?c ?k ?b
   (case a=>k_is);(case l=>k_is);(case c=>k_is);(case k=>k_is)
   (case b=>exact λ_ _ _ _ _ _ us hl=>L2.e2 (λ_ _=>rfl) us hl)
  have tQ:L2.aJ (L2.KOf KX) mg "check_free" My.nP ["board","laying"]:=by
   dsimp only[L2.KOf];refine' L2.bC KX G ?a ?l ?c ?k ?b
   (case a=>k_is);(case l=>k_is);(case c=>k_is);(case k=>k_is)
   (case b=>exact λ_ _ _ _ _ _ us hl=>L2.e2 (λ_ _=>rfl) us hl)
  have mY:L2.aJ (L2.KOf KX) mg "check_straight" My.jN ["laying"]:=by
   dsimp only[L2.KOf];refine' L2.bC KX G ?a ?l ?c ?k ?b
   (case a=>k_is);(case l=>k_is);(case c=>k_is);(case k=>k_is)
   (case b=>exact λ_ _ _ _ _ _ us hl=>L2.e1 (λ_=>rfl) us hl)
  have tR:L2.aJ (L2.KOf KX) mg "check_gaps" My.nQ ["board","laying"]:=by
   dsimp only[L2.KOf];refine' L2.bC KX G ?a ?l ?c ?k ?b
   (case a=>k_is);(case l=>k_is);(case c=>k_is);(case k=>k_is)
   (case b=>exact λ_ _ _ _ _ _ us hl=>L2.e2 (λ_ _=>rfl) us hl)
  have o9:L2.aJ (L2.KOf KX) mg "check_joined" My.lD ["board","laying"]:=by
   dsimp only[L2.KOf];refine' L2.bC KX G ?a ?l ?c ?k ?b
   (case a=>k_is);(case l=>k_is);(case c=>k_is);(case k=>k_is)
   (case b=>exact λ_ _ _ _ _ _ us hl=>L2.e2 (λ_ _=>rfl) us hl)
  have qJ:L2.aJ (L2.KOf KX) mg "check_words" My.mF ["board","book","laying"]:=by
   dsimp only[L2.KOf];refine' L2.bC KX G ?a ?l ?c ?k ?b
   (case a=>k_is);(case l=>k_is);(case c=>k_is);(case k=>k_is)
   (case b=>exact λ_ _ _ _ _ _ us hl=>L2.e3 (λ_ _ _=>rfl) us hl)
  have o_:L2.aJ (L2.KOf KX) mg "check_laying" My.lE ["board","book","rack","laying"]:=by
   dsimp only[L2.KOf];refine' L2.bC KX G ?a ?l ?c ?k ?b
   (case a=>k_is);(case l=>k_is);(case c=>k_is);(case k=>k_is)
   (case b=>exact λ_ _ _ _ _ _ us hl=>L2.e4 (λ_ _ _ _=>rfl) us hl)
  have Am:L2.aJ (L2.KOf KX) mg "is_word" My.ud ["text"]:=by
   dsimp only[L2.KOf];refine' L2.bC KX G ?a ?l ?c ?k ?b
   (case a=>k_is);(case l=>k_is);(case c=>k_is);(case k=>k_is)
   (case b=>exact λ_ _ _ _ _ _ us hl=>L2.e1 (λ_=>rfl) us hl)
  have tU:L2.aJ (L2.KOf KX) mg "check_word" My.nU ["text"]:=by
   dsimp only[L2.KOf];refine' L2.bC KX G ?a ?l ?c ?k ?b
   (case a=>k_is);(case l=>k_is);(case c=>k_is);(case k=>k_is)
   (case b=>exact λ_ _ _ _ _ _ us hl=>L2.e1 (λ_=>rfl) us hl)
  have Ao:L2.aJ (L2.KOf KX) mg "_law_cell_at" My.uf ["_law_script","_law_k"]:=by
   dsimp only[L2.KOf];refine' L2.bC KX G ?a ?l ?c ?k ?b
   (case a=>k_is);(case l=>k_is);(case c=>k_is);(case k=>k_is)
   (case b=>exact λ_ _ _ _ _ _ us hl=>L2.e2 (λ_ _=>rfl) us hl)
  have N_:L2.aJ (L2.KOf KX) mg "_law_draw" My.Fo ["_law_cell","_law_j"]:=by
   dsimp only[L2.KOf];refine' L2.bC KX G ?a ?l ?c ?k ?b
   (case a=>k_is);(case l=>k_is);(case c=>k_is);(case k=>k_is)
   (case b=>exact λ_ _ _ _ _ _ us hl=>L2.e2 (λ_ _=>rfl) us hl)
  have Aq:L2.aJ (L2.KOf KX) mg "_law_letters" My.ug ["_law_cell"]:=by
   dsimp only[L2.KOf];refine' L2.bC KX G ?a ?l ?c ?k ?b
   (case a=>k_is);(case l=>k_is);(case c=>k_is);(case k=>k_is)
   (case b=>exact λ_ _ _ _ _ _ us hl=>L2.e1 (λ_=>rfl) us hl)
  have Oa:L2.aJ (L2.KOf KX) mg "_law_sign" My.Fp ["_law_cell","_law_letters_here"]:=by
   dsimp only[L2.KOf];refine' L2.bC KX G ?a ?l ?c ?k ?b
   (case a=>k_is);(case l=>k_is);(case c=>k_is);(case k=>k_is)
   (case b=>exact λ_ _ _ _ _ _ us hl=>L2.e2 (λ_ _=>rfl) us hl)
  have Ob:L2.aJ (L2.KOf KX) mg "_law_rows" My.Fq ["_law_script","_law_letters_here"]:=by
   dsimp only[L2.KOf];refine' L2.bC KX G ?a ?l ?c ?k ?b
   (case a=>k_is);(case l=>k_is);(case c=>k_is);(case k=>k_is)
   (case b=>exact λ_ _ _ _ _ _ us hl=>L2.e2 (λ_ _=>rfl) us hl)
  have HF:L2.aJ (L2.KOf KX) mg "_law_marks" My.Bf ["_law_rows_here","_law_cell"]:=by
   dsimp only[L2.KOf];refine' L2.bC KX G ?a ?l ?c ?k ?b
   (case a=>k_is);(case l=>k_is);(case c=>k_is);(case k=>k_is)
   (case b=>exact λ_ _ _ _ _ _ us hl=>L2.e2 (λ_ _=>rfl) us hl)
  have Oc:L2.aJ (L2.KOf KX) mg "_law_grid" My.Ft ["_law_rows_here","_law_laying"]:=by
   dsimp only[L2.KOf];refine' L2.bC KX G ?a ?l ?c ?k ?b
   (case a=>k_is);(case l=>k_is);(case c=>k_is);(case k=>k_is)
   (case b=>exact λ_ _ _ _ _ _ us hl=>L2.e2 (λ_ _=>rfl) us hl)
  have T5:L2.aJ (L2.KOf KX) mg "_law_run" My.Kc ["_law_grid_here","_law_row","_law_column","_law_way"]:=by
   dsimp only[L2.KOf];refine' L2.bC KX G ?a ?l ?c ?k ?b
   (case a=>k_is);(case l=>k_is);(case c=>k_is);(case k=>k_is)
   (case b=>exact λ_ _ _ _ _ _ us hl=>L2.e4 (λ_ _ _ _=>rfl) us hl)
  have HJ:L2.aJ (L2.KOf KX) mg "_law_words" My.Bg ["_law_rows_here","_law_laying"]:=by
   dsimp only[L2.KOf];refine' L2.bC KX G ?a ?l ?c ?k ?b
   (case a=>k_is);(case l=>k_is);(case c=>k_is);(case k=>k_is)
   (case b=>exact λ_ _ _ _ _ _ us hl=>L2.e2 (λ_ _=>rfl) us hl)
  have uM:L2.aJ (L2.KOf KX) mg "_law_is_near" My.qg ["_law_rows_here","_law_row","_law_column"]:=by
   dsimp only[L2.KOf];refine' L2.bC KX G ?a ?l ?c ?k ?b
   (case a=>k_is);(case l=>k_is);(case c=>k_is);(case k=>k_is)
   (case b=>exact λ_ _ _ _ _ _ us hl=>L2.e3 (λ_ _ _=>rfl) us hl)
  have Eh:L2.aJ (L2.KOf KX) mg "_law_starts" My.wF ["_law_rows_here","_law_cell"]:=by
   dsimp only[L2.KOf];refine' L2.bC KX G ?a ?l ?c ?k ?b
   (case a=>k_is);(case l=>k_is);(case c=>k_is);(case k=>k_is)
   (case b=>exact λ_ _ _ _ _ _ us hl=>L2.e2 (λ_ _=>rfl) us hl)
  have yw:L2.aJ (L2.KOf KX) mg "_law_straight" My.rz ["_law_rows_here","_law_cell","_law_letters_here","_law_many"]:=by
   dsimp only[L2.KOf];refine' L2.bC KX G ?a ?l ?c ?k ?b
   (case a=>k_is);(case l=>k_is);(case c=>k_is);(case k=>k_is)
   (case b=>exact λ_ _ _ _ _ _ us hl=>L2.e4 (λ_ _ _ _=>rfl) us hl)
  have Ei:L2.aJ (L2.KOf KX) mg "_law_joined" My.wG ["_law_rows_here","_law_begin","_law_cells"]:=by
   dsimp only[L2.KOf];refine' L2.bC KX G ?a ?l ?c ?k ?b
   (case a=>k_is);(case l=>k_is);(case c=>k_is);(case k=>k_is)
   (case b=>exact λ_ _ _ _ _ _ us hl=>L2.e3 (λ_ _ _=>rfl) us hl)
  have vo:L2.aJ (L2.KOf KX) mg "_law_cells_due" My.pJ ["_law_rows_here","_law_begin","_law_laying"]:=by
   dsimp only[L2.KOf];refine' L2.bC KX G ?a ?l ?c ?k ?b
   (case a=>k_is);(case l=>k_is);(case c=>k_is);(case k=>k_is)
   (case b=>exact λ_ _ _ _ _ _ us hl=>L2.e3 (λ_ _ _=>rfl) us hl)
  have HN:L2.aJ (L2.KOf KX) mg "_law_class" My.Bh ["_law_error"]:=by
   dsimp only[L2.KOf];refine' L2.bC KX G ?a ?l ?c ?k ?b
   (case a=>k_is);(case l=>k_is);(case c=>k_is);(case k=>k_is)
   (case b=>exact λ_ _ _ _ _ _ us hl=>L2.e1 (λ_=>rfl) us hl)
  have Ej:L2.aJ (L2.KOf KX) mg "_law_caught" My.wI ["_law_board","_law_book","_law_rack","_law_laying"]:=by
   dsimp only[L2.KOf];refine' L2.bC KX G ?a ?l ?c ?k ?b
   (case a=>k_is);(case l=>k_is);(case c=>k_is);(case k=>k_is)
   (case b=>exact λ_ _ _ _ _ _ us hl=>L2.e4 (λ_ _ _ _=>rfl) us hl)
  have Od:L2.aJ (L2.KOf KX) mg "_law_bent" My.Fv ["_law_laying","_law_cell","_law_rows_here"]:=by
   dsimp only[L2.KOf];refine' L2.bC KX G ?a ?l ?c ?k ?b
   (case a=>k_is);(case l=>k_is);(case c=>k_is);(case k=>k_is)
   (case b=>exact λ_ _ _ _ _ _ us hl=>L2.e3 (λ_ _ _=>rfl) us hl)
  have HS:L2.aJ (L2.KOf KX) mg "_law_tiles" My.Bj ["_law_laying"]:=by
   dsimp only[L2.KOf];refine' L2.bC KX G ?a ?l ?c ?k ?b
   (case a=>k_is);(case l=>k_is);(case c=>k_is);(case k=>k_is)
   (case b=>exact λ_ _ _ _ _ _ us hl=>L2.e1 (λ_=>rfl) us hl)
  have HW:L2.aJ (L2.KOf KX) mg "_law_right" My.Bk ["_law_caught_here","_law_due","_law_words_here"]:=by
   dsimp only[L2.KOf];refine' L2.bC KX G ?a ?l ?c ?k ?b
   (case a=>k_is);(case l=>k_is);(case c=>k_is);(case k=>k_is)
   (case b=>exact λ_ _ _ _ _ _ us hl=>L2.e3 (λ_ _ _=>rfl) us hl)
  have Xm:∃C f0 f1 f2 f3 f4 jk iK fd2 Q6 Q7,My.wY (L2.KOf KX) mg C f0 f1 f2 f3 f4 jk iK fd2 Q6 Q7:=by
   dsimp only[L2.KOf];refine' My.Zq KX G ?aC ?a0 ?i0 ?l0 ?c0 ?k0 ?a1 ?i1 ?l1 ?c1 ?k1 ?a2 ?i2 ?l2 ?c2 ?k2 ?a3 ?i3 ?l3 ?c3 ?k3 ?a4 ?i4 ?l4 ?c4 ?k4 ?pg ?hd ?po ?sa ?mk ?kc ?Nv ?nf1 ?nf2
   (case aC=>k_is)
   (case a0=>k_is)
   (case i0=>k_is)
   (case l0=>k_is)
   (case c0=>k_is)
   (case k0=>k_is)
   (case a1=>k_is)
   (case i1=>k_is)
   (case l1=>k_is)
   (case c1=>k_is)
   (case k1=>k_is)
   (case a2=>k_is)
   (case i2=>k_is)
   (case l2=>k_is)
   (case c2=>k_is)
   (case k2=>k_is)
   (case a3=>k_is)
   (case i3=>k_is)
   (case l3=>k_is)
   (case c3=>k_is)
   (case k3=>k_is)
   (case a4=>k_is)
   (case i4=>k_is)
   (case l4=>k_is)
   (case c4=>k_is)
   (case k4=>k_is)
   (case pg=>k_is)
   (case hd=>k_is)
   (case po=>k_is)
   (case sa=>k_is)
   (case mk=>k_is)
   (case kc=>k_is)
   (case Nv=>k_is)
   (case nf1=>k_is)
   (case nf2=>k_is)
  obtain⟨_,_,_,_,_,_,_,_,_,_,_,ZR⟩:=Xm;have ZS:∃C f0 f1 jk iK,My.zM (L2.KOf KX) mg C f0 f1 jk iK:=by
   dsimp only[L2.KOf];refine' My.abX KX G ?aC ?a0 ?i0 ?l0 ?c0 ?k0 ?a1 ?i1 ?l1 ?c1 ?k1 ?pg ?hd ?po ?sa ?mk ?kc ?Nv
   (case aC=>k_is)
   (case a0=>k_is)
   (case i0=>k_is)
   (case l0=>k_is)
   (case c0=>k_is)
   (case k0=>k_is)
   (case a1=>k_is)
   (case i1=>k_is)
   (case l1=>k_is)
   (case c1=>k_is)
   (case k1=>k_is)
   (case pg=>k_is)
   (case hd=>k_is)
   (case po=>k_is)
   (case sa=>k_is)
   (case mk=>k_is)
   (case kc=>k_is)
   (case Nv=>k_is)
  obtain⟨_,_,_,_,_,acd⟩:=ZS;have xer:∃bf bH bD bW bL aZ bA cF cg cG cU cH dG cI cV CR fV jm dI eG kJ qz jc jD,My.Zr (L2.KOf KX) mg bf bH bD bW bL aZ bA cF cg cG cU cH dG cI cV CR fV jm dI eG kJ qz jc jD:=by
   dsimp only[L2.KOf];refine' My.ab1 KX G ?xg ?Bu ?zN ?Kg ?Ho ?uG ?xq ?Dp ?zO ?Dq ?Hq ?Dr ?Nz ?Du ?Hr ?aR ?oA ?qC ?vW ?xr ?Ht ?zP ?TX ?Hu ?zQ ?Dv ?NK ?Dw ?Dy ?Dz ?DG ?zR ?DK ?DN ?DP ?DQ ?uW ?o7 ?Xl ?NP ?NQ ?NT ?NZ ?Hv ?N5 ?N6 ?N7 ?N8 ?zT ?tL ?Gm ?xu ?xG ?xH ?xJ ?uX ?xK ?xM ?xO ?xP ?o8 ?JD ?zU ?zV ?zW ?zX ?xQ ?zY ?zZ ?z_ ?Aa ?qG ?hn ?ht ?uY ?uZ ?u0 ?u6 ?u9 ?u_ ?xR ?xT ?xU ?xV ?xW ?xX ?xY ?tM ?xZ ?Hw ?Hx ?Hy ?yc ?yd ?yg ?yh ?yj ?yp ?Ab ?Ac ?Ad ?Gn ?Gp ?Gq ?Gr ?Ae ?Gs ?TY ?T3 ?T4 ?DR ?DW ?DX ?DY ?D_ ?Ea ?Hz ?HB ?HD ?rC ?rD ?rE ?rF ?oE ?rH ?Af ?Ag ?Ah ?uH ?uI ?uJ ?uK ?qD ?uL ?Eb ?Ec ?Ed ?nn ?g2 ?rd ?fc
   (case xg=>k_is)
   (case Bu=>k_is)
   (case zN=>k_is)
   (case Kg=>k_is)
   (case Ho=>k_is)
   (case uG=>k_is)
   (case xq=>k_is)
   (case Dp=>k_is)
   (case zO=>k_is)
   (case Dq=>k_is)
   (case Hq=>k_is)
   (case Dr=>k_is)
   (case Nz=>k_is)
   (case Du=>k_is)
   (case Hr=>k_is)
   (case aR=>k_is)
   (case oA=>k_exc)
   (case qC=>k_exc)
   (case vW=>k_exc)
   (case xr=>kernel_rfl)
   (case Ht=>kernel_rfl)
   (case zP=>kernel_rfl)
   (case TX=>kernel_rfl)
   (case Hu=>kernel_rfl)
   (case zQ=>kernel_rfl)
   (case Dv=>kernel_rfl)
   (case NK=>k_is)
   (case Dw=>k_is)
   (case Dy=>k_is)
   (case Dz=>k_is)
   (case DG=>k_is)
   (case zR=>kernel_rfl)
   (case DK=>k_is)
   (case DN=>kernel_rfl)
   (case DP=>k_is)
   (case DQ=>k_is)
   (case uW=>k_is)
   (case o7=>k_is)
   (case Xl=>k_is)
   (case NP=>k_is)
   (case NQ=>k_is)
   (case NT=>k_is)
   (case NZ=>k_is)
   (case Hv=>kernel_rfl)
   (case N5=>k_is)
   (case N6=>kernel_rfl)
   (case N7=>k_is)
   (case N8=>k_is)
   (case zT=>k_is)
   (case tL=>k_is)
   (case Gm=>k_is)
   (case xu=>k_is)
   (case xG=>k_is)
   (case xH=>k_is)
   (case xJ=>k_is)
   (case uX=>kernel_rfl)
   (case xK=>k_is)
   (case xM=>kernel_rfl)
   (case xO=>k_is)
   (case xP=>k_is)
   (case o8=>k_is)
   (case JD=>k_is)
   (case zU=>k_is)
   (case zV=>k_is)
   (case zW=>k_is)
   (case zX=>k_is)
   (case xQ=>kernel_rfl)
   (case zY=>k_is)
   (case zZ=>kernel_rfl)
   (case z_=>k_is)
   (case Aa=>k_is)
   (case qG=>k_is)
   (case hn=>k_is)
   (case ht=>k_is)
   (case uY=>kernel_rfl)
   (case uZ=>k_is)
   (case u0=>k_is)
   (case u6=>k_is)
   (case u9=>k_is)
   (case u_=>k_is)
   (case xR=>kernel_rfl)
   (case xT=>kernel_rfl)
   (case xU=>kernel_rfl)
   (case xV=>kernel_rfl)
   (case xW=>k_is)
   (case xX=>k_is)
   (case xY=>k_is)
   (case tM=>k_is)
   (case xZ=>k_is)
   (case Hw=>kernel_rfl)
   (case Hx=>kernel_rfl)
   (case Hy=>kernel_rfl)
   (case yc=>kernel_rfl)
   (case yd=>k_is)
   (case yg=>k_is)
   (case yh=>k_is)
   (case yj=>k_is)
   (case yp=>k_is)
   (case Ab=>kernel_rfl)
   (case Ac=>kernel_rfl)
   (case Ad=>kernel_rfl)
   (case Gn=>kernel_rfl)
   (case Gp=>k_is)
   (case Gq=>k_is)
   (case Gr=>k_is)
   (case Ae=>k_is)
   (case Gs=>k_is)
   (case TY=>kernel_rfl)
   (case T3=>kernel_rfl)
   (case T4=>kernel_rfl)
   (case DR=>kernel_rfl)
   (case DW=>k_is)
   (case DX=>k_is)
   (case DY=>k_is)
   (case D_=>k_is)
   (case Ea=>k_is)
   (case Hz=>kernel_rfl)
   (case HB=>kernel_rfl)
   (case HD=>kernel_rfl)
   (case rC=>kernel_rfl)
   (case rD=>k_is)
   (case rE=>k_is)
   (case rF=>k_is)
   (case oE=>k_is)
   (case rH=>k_is)
   (case Af=>kernel_rfl)
   (case Ag=>kernel_rfl)
   (case Ah=>kernel_rfl)
   (case uH=>kernel_rfl)
   (case uI=>k_is)
   (case uJ=>k_is)
   (case uK=>k_is)
   (case qD=>k_is)
   (case uL=>k_is)
   (case Eb=>kernel_rfl)
   (case Ec=>kernel_rfl)
   (case Ed=>kernel_rfl)
   (case nn=>kernel_rfl)
   (case g2=>k_is)
   (case rd=>k_is)
   (case fc=>k_is)
  obtain⟨_,_,_,_,_,_,_,_,_,_,_,_,_,_,_,_,_,_,_,_,_,_,_,_,er⟩:=xer;have lw:∃fd:FuncData,L2.gk (L2.KOf KX) "law" "law" My.Kd fa fd/\∀(s:Shared) (v:Value),BindsTo s fd ⟨[v],[]⟩ [("_law_script",v)]:=by
   dsimp only[L2.KOf];refine' L2.adh KX G hmg ?a ?l ?c ?k ?b
   (case a=>k_is);(case l=>k_is);(case c=>k_is);(case k=>k_is)
   (case b=>exact λ_ _ _ _ _ _ _=>rfl)
  obtain⟨fd,F,hb⟩:=lw;exact⟨fd,hb,λbase _ _=>My.ab2 aU cJ bU iJ kE aQ jV j6 Bm dU uy FQ Bq Br kI dW vM vL kj rJ Ai vf Aj Ak yq yr vg oF qH yt qI vh vm yu pO Al kO Ef tQ mY tR o9 qJ o_ Am tU Ao N_ Aq Oa Ob HF Oc T5 HJ uM Eh yw Ei vo HN Ej Od HS HW ZR acd er F⟩

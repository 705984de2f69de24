import PyProof.Rows.All
import Wide.All
import OpenK.AllK
import Wide.FinOn
import Lean
import PyProof.EqAt
import PyProof.EqKinds
import PyProof.TupleCall
import KE.KRevIter
import PyProof.JoinWalk
import PyProof.CollectIter
import KE.KDictSum
import KE.KSortTup
import OpenK.KRaise
import PyProof.StationsW
import OpenK.KOwn
import KE.KTryMore
import KE.KIsNot
import PyProof.NsDelKeeps
import KE.KIsAll
import PyProof.ExcArgs
import PyProof.ListMulRoad
import PyProof.Rows.SeqMore
import PyProof.FactsAll.tuple_2
import PyProof.ExcInit
import OpenK.KCls
import PyProof.WalkInts
import PyProof.SeqI3
import PySem.Challenge.RW_letterrack_k24_words_not_in_the_book
set_option Elab.async false
set_option linter.all false
set_option maxRecDepth 100000
set_option maxHeartbeats 4000000

section
namespace L2
open PySem PySem.Spec PyProof.Rows
abbrev Key:=Sum Int Str
def wz:Key->Value->Bool
 | .inl k,v=>Value.isInt k v
 | .inr x,v=>Value.isStrOf x v
def aeA (w:World):Key->Int
 | .inl k=>hashInt k
 | .inr x=>hashStr w x
theorem fH:∀{k:Key} {v:Value},wz k v=true->(∃i t,k=Sum.inl i/\v=Value.int i t)\/(∃x t,k=Sum.inr x/\v=Value.str x t)
 | .inl i,v,h=>by
  obtain⟨t,e⟩:=Value.isInt_shape (k:=i) (v:=v) h;exact .inl ⟨i,t,rfl,e⟩
 | .inr x,v,h=>by
  obtain⟨t,e⟩:=Value.isStrOf_shape (x:=x) (v:=v) h;exact .inr ⟨x,t,rfl,e⟩
theorem Tw (i:Int)(t:Tok):wz (.inl i) (.int i t)=true:=by simp[wz,Value.isInt]
theorem Tz (x:Str)(t:Tok):wz (.inr x) (.str x t)=true:=by simp[wz,Value.isStrOf]
theorem abT (a b:Int):decide ((Sum.inl a:Key)=Sum.inl b)=(a==b):=by
 by_cases e:a=b
 ·subst e;simp
 ·have h:¬(Sum.inl a:Key)=Sum.inl b:=λq=>e (Sum.inl.inj q)
  rw[decide_eq_false h];exact(beq_eq_false_iff_ne.mpr e).symm
theorem abU (a b:Str):decide ((Sum.inr a:Key)=Sum.inr b)=decide (a=b):=by
 by_cases e:a=b
 ·subst e;simp
 ·have h:¬(Sum.inr a:Key)=Sum.inr b:=λq=>e (Sum.inr.inj q)
  rw[decide_eq_false h,decide_eq_false e]
theorem abV (a:Int)(b:Str):decide ((Sum.inl a:Key)=Sum.inr b)=false:=decide_eq_false (λq=>nomatch q)
theorem abW (a:Str)(b:Int):decide ((Sum.inr a:Key)=Sum.inl b)=false:=decide_eq_false (λq=>nomatch q)
def gA (prog:Program)(w:World):PySem.KeyKind prog w Key where
 is:=wz
 hash:=aeA w
 inj:=λv a b ha hb=>by
  rcases fH ha with⟨i,t,rfl,rfl⟩ | ⟨x,t,rfl,rfl⟩
  ·rcases fH hb with⟨j,u,rfl,e⟩ | ⟨y,u,rfl,e⟩
   ·injection e with e1 _;rw[e1]
   ·exact nomatch e
  ·rcases fH hb with⟨j,u,rfl,e⟩ | ⟨y,u,rfl,e⟩
   ·exact nomatch e
   ·injection e with e1 _;rw[e1]
 byValue:=λk v h=>by
  rcases fH h with⟨i,t,rfl,rfl⟩ | ⟨x,t,rfl,rfl⟩ <;> rfl
 pyHash:=λhv h=>by
  rcases fH hv with⟨i,t,rfl,rfl⟩ | ⟨x,t,rfl,rfl⟩
  ·exact wpAny_pyHash_int h
  ·exact wpAny_pyHash_str h
 eqBool:=λhu hv h=>by
  rcases fH hu with⟨i,t,rfl,rfl⟩ | ⟨x,t,rfl,rfl⟩
  ·rcases fH hv with⟨j,u,rfl,rfl⟩ | ⟨y,u,rfl,rfl⟩
   ·rw[abT]at h;exact wpAny_eqBool_int h
   ·rw[abV]at h;exact SeqAt.EqAt.int_str i t y u _ _ _ _ h
  ·rcases fH hv with⟨j,u,rfl,rfl⟩ | ⟨y,u,rfl,rfl⟩
   ·rw[abW]at h;exact SeqAt.EqAt.str_int x t j u _ _ _ _ h
   ·rw[abU]at h;exact wpAny_eqBool_str h
 «strs»:=λk x t v h=>by
  rcases fH h with⟨i,u,rfl,e⟩ | ⟨y,u,rfl,e⟩
  ·exact nomatch e
  ·injection e with e1 _
   subst e1;cases v <;> rfl
theorem Oi (prog:Program)(w:World)(i:Int)(t:Tok):(gA prog w).is (.inl i) (.int i t)=true:=Tw i t
theorem Oj (prog:Program)(w:World)(x:Str)(t:Tok):(gA prog w).is (.inr x) (.str x t)=true:=Tz x t
inductive V where
 | non | bl (b:Bool) | int (i:Int) | str (x:Str) | yN (b:Array UInt8) | flt (b:UInt64) | ref (a:Addr) | ty (n:String)
 deriving DecidableEq
def RelV:V->Value->Prop
 | .non,u=>u=Value.none
 | .bl b,u=>u=Value.bool b
 | .int i,u=>∃t,u=Value.int i t
 | .str x,u=>∃t,u=Value.str x t
 | .yN b,u=>∃t,u=Value.bytes b t
 | .flt b,u=>∃t,u=Value.float b t
 | .ref a,u=>u=Value.ref a
 | .ty n,u=>u=Value.type n
abbrev Vals:List V->List Value->Prop:=Paired RelV
theorem Vals.length {xs:List V}{us:List Value}(r:Vals xs us):xs.length=us.length:=Paired.length r
theorem Vals.get:∀{xs:List V} {us:List Value} {i:Nat} {x:V},Vals xs us->xs[i]?=some x->∃u,us[i]?=some u/\RelV x u
 | _,_,_,_,.nil,e=>by simp at e
 | _,_,0,_,.cons r _,e=>by simp at e;subst e;exact⟨_,rfl,r⟩
 | _,_,i+1,x,.cons _ t,e=>by
  obtain⟨u,h1,h2⟩:=Vals.get (i:=i) (x:=x) t (by simpa using e);exact⟨u,by simpa using h1,h2⟩
theorem Vals.set {x:V}{u:Value}(r:RelV x u):∀{xs:List V} {us:List Value} (i:Nat),Vals xs us->Vals (xs.set i x) (us.set i u)
 | _,_,_,.nil=>.nil
 | _,_,0,.cons _ t=>.cons r t
 | _,_,i+1,.cons q t=>.cons q (Vals.set r i t)
theorem Vals.append:∀{xs ys:List V} {us ws:List Value},Vals xs us->Vals ys ws->Vals (xs++ys) (us++ws)
 | _,_,_,_,.nil,s=>s
 | _,_,_,_,.cons r t,s=>.cons r (Vals.append t s)
theorem Vals.take:∀{xs:List V} {us:List Value} (n:Nat),Vals xs us->Vals (xs.take n) (us.take n)
 | _,_,0,_=>.nil
 | _,_,_+1,.nil=>.nil
 | _,_,n+1,.cons r t=>.cons r (Vals.take n t)
theorem Vals.drop:∀{xs:List V} {us:List Value} (n:Nat),Vals xs us->Vals (xs.drop n) (us.drop n)
 | _,_,0,r=>r
 | _,_,_+1,.nil=>.nil
 | _,_,n+1,.cons _ t=>Vals.drop n t
def jT:Option V->Option Value->Prop
 | some v,some u=>RelV v u
 | none,none=>True
 | _,_=>False
def KV {κ:Type}:List (κ × V)->List (κ × Value)->Prop:=Paired λ(p:κ × V) (q:κ × Value)=>p.1=q.1/\RelV p.2 q.2
def kV:Key->V
 | .inl i=>.int i
 | .inr x=>.str x
inductive HO where
 | lst (xs:List V)
 | tup (xs:List V)
 | dK (kvs:List (Key × V)) | dT (kvs:List (List Key × V))
 | set (S:Int->Bool) (n:Nat)
 | ins (C dx:Addr) (fs:List (Str × V))
 | own (x:Addr)
 | xd (fs:List (Str × V))
 | met (f x:Addr)
 | rng (lo hi:Int)
 | lM (o:Obj) (u:HO)
 | Ig (ps:Array Value)
 | ext (φ:Heap->Prop)
abbrev Hp:=Addr->Option HO
def upd (H:Hp)(a:Addr)(o:HO):Hp:=λb=>if b=a then some o else H b
theorem ao {H:Hp}{a:Addr}{o:HO}:upd H a o a=some o:=by unfold upd;rw[if_pos rfl]
theorem aP {H:Hp}{a b:Addr}{o:HO}(h:b≠a):upd H a o b=H b:=by unfold upd;rw[if_neg h]
theorem ad4 {H:Hp}{a b:Addr}{o u:HO}(h:H a=some o)(h':H b=some u)(d:o≠u):a≠b:=by
 intro e;subst e;rw[h]at h';exact d (Option.some.inj h')
theorem bR {H:Hp}{a b:Addr}{o:HO}(h:H a=some o)(h':H b=none):a≠b:=by
 intro e;subst e;rw[h]at h';cases h'
section
variable (P:Program)(w:World)
def dj (H:Hp)(h:Heap)(a:Addr):HO->Prop
 | .lst xs=>xs.length<=sizeLine/\∃(its:List Value) (n:Nat),Vals xs its/\h.get? a=some { cls:=.type "list",data:=.seq its.toArray n }
 | .tup xs=>xs.length<=sizeLine/\∃its:List Value,Vals xs its/\IsTup h a its.toArray
 | .dK kvs=>kvs.length<=sizeLine/\(a==sysModules)=false/\∃vs,KV kvs vs/\h.DictOf (gA P w) a vs
 | .dT kvs=>kvs.length<=sizeLine/\(a==sysModules)=false/\∃xs:List (List Key × Addr × Value),
   Paired (λ(p:List Key × V) (q:List Key × Addr × Value)=>p.1=q.1/\H q.2.1=some (.tup (p.1.map kV))/\RelV p.2 q.2.2) kvs xs/\
   ∃o es ep,h.get? a=some o/\o.ExactDict/\o.data=.dict es ep/\es.toList=xs.map (entryOfKey (tupleKind (gA P w)))/\(xs.map (·.1)).Nodup
 | .set S n=>h.SetOf (intKind P w) a S n
 | .ins C dx fs=>H dx=some (.own a)/\fs.length<=1000/\dx≠a/\h.get? a=some (PySem.W.instObj C dx)/\
   ∃mA,h.Ns1 dx mA/\(∀f,jT (fs.lookup f) (mA f))/\PySem.Within mA (fs.map (·.1))
 | .own _=>∃o,h.get? a=some o
 | .xd fs=>∃mA,h.Ns1 a mA/\∀f,jT (fs.lookup f) (mA f)
 | .rng lo hi=>∃t u v,h.get? a=some { cls:=.type "range",data:=.fields #[.int lo t,.int hi u,.int 1 v] }
 | .lM o u=>h.get? a=some o/\dj H h a u
 | .Ig ps=>h.get? a=some { cls:=.none,data:=.fields ps }
 | .met f x=>h.get? a=some (PySem.W.methodObj (.ref f) (.ref x))
 | .ext φ=>φ h/\(∃o,h.get? a=some o)/\∀h1 h2:Heap,φ h1->(∀o,h1.get? a=some o->h2.get? a=some o)->φ h2
def iz (H:Hp)(h:Heap):Prop:=∀a o,H a=some o->dj P w H h a o
end
section
variable {P:Program}{w:World}{H H':Hp}{h h':Heap}{a:Addr}{o:HO}
theorem dj.lt (x:dj P w H h a o):a < h.objs.size:=by
 cases o with
 | lst xs=>obtain⟨_,_,_,_,e⟩:=x;exact Heap.lt_size e
 | tup xs=>obtain⟨_,_,_,p⟩:=x;exact p.lt
 | dK kvs=>obtain⟨_,_,_,_,o,_,_,e,_⟩:=x;exact Heap.lt_size e
 | dT kvs=>obtain⟨_,_,_,_,o,_,_,e,_⟩:=x;exact Heap.lt_size e
 | set S n=>obtain⟨o,_,_,_,e,_⟩:=x;exact Heap.lt_size e
 | ins C dx fs=>obtain⟨_,_,_,e,_⟩:=x;exact Heap.lt_size e
 | own y=>obtain⟨_,e⟩:=x;exact Heap.lt_size e
 | xd fs=>obtain⟨_,⟨_,_,_,e,_⟩,_⟩:=x;exact Heap.lt_size e
 | rng lo hi=>obtain⟨_,_,_,e⟩:=x;exact Heap.lt_size e
 | lM ob u=>obtain⟨e,_⟩:=x;exact Heap.lt_size e
 | Ig ps=>exact Heap.lt_size (show h.get? a=some _ from x)
 | met f y=>exact Heap.lt_size (show h.get? a=some _ from x)
 | ext φ=>obtain⟨_,⟨_,e⟩,_⟩:=x;exact Heap.lt_size e
theorem Paired.Xe {α β:Type}{F G:α->β->Prop}:∀{l₁:List α} {l₂:List β},Paired F l₁ l₂->(∀a b,F a b->G a b)->Paired G l₁ l₂
 | _,_,.nil,_=>.nil
 | _,_,.cons r t,f=>.cons (f _ _ r) (Paired.Xe t f)
theorem dj.stay (x:dj P w H h a o)(k:∀b u,(b=a\/H b=some (.own a))->h.get? b=some u->h'.get? b=some u)
  (ho:∀b,H b=some (.own a)->H' b=some (.own a)) (ht:∀b xs,H b=some (.tup xs)->H' b=some (.tup xs)):dj P w H' h' a o:=by
 induction o with
 | lst xs=>obtain⟨z,its,n,r,e⟩:=x;exact⟨z,its,n,r,k _ _ (.inl rfl) e⟩
 | tup xs=>obtain⟨z,its,r,ob,e,c⟩:=x;exact⟨z,its,r,ob,k _ _ (.inl rfl) e,c⟩
 | dK kvs=>obtain⟨z,y,vs,r,ob,es,ep,e,c⟩:=x;exact⟨z,y,vs,r,ob,es,ep,k _ _ (.inl rfl) e,c⟩
 | dT kvs=>
  obtain⟨z,y,xs,r,ob,es,ep,e,c⟩:=x;exact⟨z,y,xs,Paired.Xe r λp q z=>⟨z.1,ht _ _ z.2.1,z.2.2⟩,ob,es,ep,k _ _ (.inl rfl) e,c⟩
 | set S n=>obtain⟨ob,es,ep,t,e,c⟩:=x;exact⟨ob,es,ep,t,k _ _ (.inl rfl) e,c⟩
 | ins C dx fs=>
  obtain⟨d,z,ne,e,mA,⟨od,es,ep,e2,c⟩,r⟩:=x;exact⟨ho _ d,z,ne,k _ _ (.inl rfl) e,mA,⟨od,es,ep,k _ _ (.inr d) e2,c⟩,r⟩
 | own y=>obtain⟨ob,e⟩:=x;exact⟨ob,k _ _ (.inl rfl) e⟩
 | xd fs=>obtain⟨mA,⟨od,es,ep,e,c⟩,r⟩:=x;exact⟨mA,⟨od,es,ep,k _ _ (.inl rfl) e,c⟩,r⟩
 | rng lo hi=>obtain⟨t,u,v,e⟩:=x;exact⟨t,u,v,k _ _ (.inl rfl) e⟩
 | lM ob u ih=>obtain⟨e,q⟩:=x;exact⟨k _ _ (.inl rfl) e,ih q⟩
 | Ig ps=>
  have e:h.get? a=some { cls:=.none,data:=.fields ps }:=x;show h'.get? a=some { cls:=.none,data:=.fields ps };exact k a _ (.inl rfl) e
 | met f y=>
  have e:h.get? a=some (PySem.W.methodObj (.ref f) (.ref y)):=x;show h'.get? a=some (PySem.W.methodObj (.ref f) (.ref y));exact k a _ (.inl rfl) e
 | ext φ=>obtain⟨p,⟨o,e⟩,st⟩:=x;exact⟨st _ _ p λo q=>k _ _ (.inl rfl) q,⟨o,k _ _ (.inl rfl) e⟩,st⟩
theorem iz.lt (x:iz P w H h)(e:H a=some o):a < h.objs.size:=(x a o e).lt
theorem iz.fresh (x:iz P w H h)(e:h.objs.size<=a):H a=none:=by
 cases q:H a with
 | none=>rfl
 | some u=>exact absurd (Nat.lt_of_lt_of_le (x.lt q) e) (Nat.lt_irrefl _)
theorem iz.kept (x:iz P w H h)(k:∀b u,h.get? b=some u->h'.get? b=some u):iz P w H h':=λa o e=>
 (x a o e).stay (λb u _ q=>k b u q) (λ_ q=>q) λ_ _ q=>q
theorem iz.laid (x:iz P w H h)(k:∀b u,h.get? b=some u->h'.get? b=some u)(hp:h.objs.size<=a)(new:dj P w (upd H a o) h' a o):iz P w (upd H a o) h':=λb u e=>by
 have hn:=x.fresh hp;by_cases hb:b=a
 ·subst hb;rw[ao]at e;cases e;exact new
 ·rw[aP hb]at e
  exact(x b u e).stay (λc v _ q=>k c v q) (λc q=>by rw[aP (bR q hn)];exact q) λc xs q=>by rw[aP (bR q hn)];exact q
end
def Rd (H:Hp)(a:Addr)(u:HO):Prop:=H a=some u\/∃o,H a=some (.lM o u)
theorem Rd.ok {P:Program}{w:World}{H:Hp}{h:Heap}{a:Addr}{u:HO}(r:Rd H a u)(x:iz P w H h):dj P w H h a u:=by
 rcases r with r | ⟨o,r⟩
 ·exact x a u r
 ·obtain⟨_,q⟩:=x a _ r
  exact q
def TF:Option HO->Prop
 | some (.lst _)=>True
 | some (.dK _)=>True
 | some (.dT _)=>True
 | some (.set _ _)=>True
 | some (.ins _ _ _)=>True
 | some (.ext _)=>True
 | _=>False
section
variable {P:Program}{w:World}{H:Hp}{h h':Heap}{x e:Addr}{o':HO}
theorem iz.write (ok:iz P w H h)(mu:TF (H x))(he:e=x\/H e=some (.own x))(k:∀b u,b≠e->h.get? b=some u->h'.get? b=some u)(heo:∃u,h'.get? e=some u)
  (new:dj P w (upd H x o') h' x o'):iz P w (upd H x o') h':=λb u q=>by
 have abX:∀c y,H c=some (.own y)->c≠x:=λc y r z=>by subst z;rw[r]at mu;exact mu
 have aeB:∀c xs,H c=some (.tup xs)->c≠x:=λc xs r z=>by subst z;rw[r]at mu;exact mu
 by_cases hb:b=x
 ·subst hb;rw[ao]at q;cases q;exact new
 ·rw[aP hb]at q
  by_cases hbe:b=e
  ·have q':H b=some (.own x):=by
    rcases he with z | z
    ·exact absurd (hbe.trans z) hb
    ·rw[hbe];exact z
   rw[q]at q';cases q';obtain⟨v,hv⟩:=heo;exact⟨v,by rw[hbe];exact hv⟩
  ·refine(ok b u q).stay (λc v hc r=>k c v ?_ r) (λc r=>by rw[aP (abX c b r)];exact r) λc xs r=>by rw[aP (aeB c xs r)];exact r
   rcases hc with rfl | hc
   ·exact hbe
   ·rintro rfl
    rcases he with z | z
    ·exact abX c b hc z
    ·rw[hc]at z;cases z;exact hb rfl
end
structure Un (fs ex:List Addr)(H H':Hp)(h h':Heap):Prop where
 keep:∀b o,h.get? b=some o->H b=none->b∉fs->b∉ex->h'.get? b=some o
 slot:∀b o,h.get? b=some o->H b=none->b∈fs->b∉ex->∃sl,h'.get? b=some { o with slots:=sl }
 free:∀b o,h.get? b=some o->H b=none->b∉ex->H' b=none
 there:∀b o,h.get? b=some o->b∉ex->∃o',h'.get? b=some o'
 tups:∀b xs,H b=some (.tup xs)->H' b=some (.tup xs)
 jU:∀b o u,H b=some (.lM o u)->H' b=some (.lM o u)
 j5:∀b ps,H b=some (.Ig ps)->∃more,H' b=some (.Ig (ps++more))
section
variable {fs ex:List Addr}{H H1:Hp}{h h1 h':Heap}{a x e:Addr}{o:HO}
theorem Un.any (u:Un fs ex H H1 h h1){b:Addr}{ob:Obj}(q:h.get? b=some ob)(n:H b=none)(hx:b∉ex):∃sl,h1.get? b=some { ob with slots:=sl }:=by
 by_cases hb:b∈fs
 ·exact u.slot b ob q n hb hx
 ·exact⟨ob.slots,u.keep b ob q n hb hx⟩
theorem Un.kept (k:∀b u,h.get? b=some u->h'.get? b=some u):Un fs ex H H h h':=
 ⟨λb ob q _ _ _=>k b ob q,λb ob q _ _ _=>⟨ob.slots,k b ob q⟩,λ_ _ _ n _=>n,λb ob q _=>⟨ob,k b ob q⟩,λ_ _ q=>q,λ_ _ _ q=>q,λ_ ps q=>⟨#[],by rw[q];simp⟩⟩
theorem Un.refl:Un fs ex H H h h:=Un.kept λ_ _ q=>q
theorem Un.laid (k:∀b u,h.get? b=some u->h'.get? b=some u)(hp:h.objs.size<=a)(hn:H a=none):Un fs ex H (upd H a o) h h' where
 keep:=λb u q _ _ _=>k b u q
 slot:=λb u q _ _ _=>⟨u.slots,k b u q⟩
 free:=λb u q n _=>by rw[aP (Nat.ne_of_lt (Nat.lt_of_lt_of_le (Heap.lt_size q) hp))];exact n
 there:=λb u q _=>⟨u,k b u q⟩
 tups:=λb xs q=>by rw[aP (bR q hn)];exact q
 jU:=λb u xs q=>by rw[aP (bR q hn)];exact q
 j5:=λb ps q=>⟨#[],by rw[aP (bR q hn),q];simp⟩
theorem Un.write (mu:TF (H x))(he:e=x\/H e=some (.own x))(k:∀b u,b≠e->h.get? b=some u->h'.get? b=some u)(heo:∃u,h'.get? e=some u):Un fs ex H (upd H x o) h h':=by
 have hx:∀b,H b=none->b≠x:=λb n z=>by subst z;rw[n]at mu;exact mu
 have hb:∀b,H b=none->b≠e:=λb n z=>by
  subst z;rcases he with r | r
  ·exact hx b n r
  ·rw[n]at r;cases r
 have hm:∀b u,H b=some u->¬TF (some u)->b≠x:=λb u q nm z=>by subst z;rw[q]at mu;exact nm mu
 refine⟨λb u q n _ _=>k b u (hb b n) q,λb u q n _ _=>⟨u.slots,k b u (hb b n) q⟩,λb u q n _=>by rw[aP (hx b n)];exact n,λb u q _=>?_,
  λb xs q=>by rw[aP (hm b _ q λz=>z)];exact q,λb u xs q=>by rw[aP (hm b _ q λz=>z)];exact q,λb ps q=>⟨#[],by rw[aP (hm b _ q λz=>z),q];simp⟩⟩
 by_cases hbe:b=e
 ·subst hbe;exact heo
 ·exact⟨u,k b u hbe q⟩
end
def Ih (h:Heap)(H:Hp):List Addr:=(List.range h.objs.size).filter λa=>(H a).isSome
def wB (h:Heap)(H:Hp):Heap:=PySem.W.hideAll h (Ih h H)
theorem TJ (h:Heap)(H:Hp):(wB h H).objs.size=h.objs.size:=PySem.W.hideAll_size _ _
theorem Xf {h:Heap}{H:Hp}{b:Addr}{o:Obj}(e:h.get? b=some o)(n:H b=none):(wB h H).get? b=some o:=
 PySem.W.hideAll_get _ e λhm=>by
  have q:(H b).isSome=true:=(List.mem_filter.mp hm).2;rw[n]at q;simp at q
theorem aao {h:Heap}{H:Hp}{b:Addr}{o:Obj}(e:(wB h H).get? b=some o):h.get? b=some o/\H b=none:=by
 have e':h.get? b=some o:=PySem.W.of_hideAll (Ih h H) e;refine⟨e',?_⟩;cases q:H b with
 | none=>rfl
 | some x=>
  have hm:b∈Ih h H:=List.mem_filter.mpr ⟨List.mem_range.mpr (Heap.lt_size e'),by simp[q]⟩;have z:(wB h H).get? b=none:=PySem.W.hideAll_none (Ih h H) hm;rw[z]at e;cases e
structure Mod (K:PySem.W.Frag)(mg:Str->Option Value)(base:Heap):Prop where
 Ek:K.In base
 glob:base.Ns mainGlobals mg
 blt:∃mb,base.Ns builtinsNs mb/\∀x:Str,x≠"__name__"->mb x=bootBuiltins x
 nolimit:base.NoLimit
structure Cx where
 prog:Program
 w:World
 K:PySem.W.Frag
 mg:Str->Option Value
 base:Heap
 A:Around
 N:List Str
 s₀:Shared
 H₀:Hp
 env:Env
 outer:List Env
 stack:List Env
 ex:List Addr
 fn:Str->Bool
 calm:Bool
 pn:List (Addr × Obj)
 xe:Value->Shared->Prop
def frs (l:List Env):List Addr:=l.filterMap (·.frame)
abbrev Cx.fs (X:Cx):List Addr:=frs X.outer
def Zw (sc:Scope)(x:Str):Prop:=sc.names.lookup x=some .local\/sc.names.lookup x=some .cell\/sc.names.lookup x=some .free
def Loc (sc:Scope)(x:Str):Prop:=sc.names.lookup x=some .local\/sc.names.lookup x=some .cell
def Look (env:Env)(h:Heap)(m:Str->Option Value)(x:Str)(u:Value):Prop:=
 (env.kindOf x=some .local/\m x=some u)\/((env.kindOf x=some .cell\/env.kindOf x=some .free)/\∃c,env.cells.lookup x=some c/\h.IsCell c (some u))
structure Cx.Ok (X:Cx):Prop where
 mod:Mod X.K X.mg X.base
 kind:X.env.scope.kind=.function
 glob:X.env.globals=mainGlobals
 blt:X.env.builtins=builtinsNs
 above:X.s₀.heap.objs.size<=X.env.locals
 inj:∀x y c,X.env.cells.lookup x=some c->X.env.cells.lookup y=some c->x=y
 has:∀x,(X.env.kindOf x=some .cell\/X.env.kindOf x=some .free)->∃c,X.env.cells.lookup x=some c
 cab:∀x c,X.fn x=true->X.env.cells.lookup x=some c->X.s₀.heap.objs.size<=c
 hd:X.calm=true->X.A.handled=none
 frames:X.A.frames=some X.stack
 stk:X.stack=X.outer\/(X.stack=X.env::X.outer/\X.env.frame=some X.env.locals)
 TQ:∀b∈X.ex,b≠X.env.locals/\∀x c,X.env.cells.lookup x=some c->c≠b
 bs:∀b o,X.base.get? b=some o->X.s₀.heap.get? b=some o/\X.H₀ b=none
 qN:X.base.objs.size<=X.s₀.heap.objs.size
 uW:∀b o,X.base.get? b=some o->b∉X.ex
 Cm:∀b∈X.ex,b∉X.fs
 lG:X.s₀.heap.FunFrames X.base X.outer
 yU:∀b∈X.fs,X.H₀ b=none
structure Inv (X:Cx)(pins:List (Addr × Obj))(σ:List (Option V))(H:Hp)(s:Shared):Prop where
 ok:X.Ok
 os:s.os=X.s₀.os
 bare:AllBare s.gens
 base:Un X.fs X.ex X.H₀ H X.s₀.heap s.heap
 loc:∃m,s.heap.Ns X.env.locals m/\∀(i:Nat) (x:Str) (v:V),X.N[i]?=some x->σ[i]?=some (some v)->Zw X.env.scope x->∃u,RelV v u/\Look X.env s.heap m x u
 cell:∀x c,X.env.cells.lookup x=some c->∃v,s.heap.IsCell c v
 free:H X.env.locals=none
 iR:∀x c,X.env.cells.lookup x=some c->H c=none
 pin:∀p∈X.pn++pins,s.heap.get? p.1=some p.2/\H p.1=none/\p.1≠X.env.locals/\p.1∉X.fs/\∀v,p.2.data≠.cell v
 hok:iz X.prog X.w H s.heap
 len:σ.length=X.N.length
section
variable {X:Cx}{pins:List (Addr × Obj)}{σ:List (Option V)}{H H':Hp}{s:Shared}{h':Heap}
theorem Cx.Ok.aeC (ok:X.Ok){b:Addr}{o:Obj}(e:X.base.get? b=some o):b∉X.fs:=λhb=>by
 have:=(ok.lG.mem hb).1;rw[e]at this;cases this
theorem Inv.bs (I:Inv X pins σ H s):∀b o,X.base.get? b=some o->s.heap.get? b=some o/\H b=none:=λb o e=>
 ⟨I.base.keep b o (I.ok.bs b o e).1 (I.ok.bs b o e).2 (I.ok.aeC e) (I.ok.uW b o e),I.base.free b o (I.ok.bs b o e).1 (I.ok.bs b o e).2 (I.ok.uW b o e)⟩
theorem Inv.bk (I:Inv X pins σ H s):∀b o,X.base.get? b=some o->s.heap.get? b=some o:=λb o e=>(I.bs b o e).1
theorem Inv.mod (I:Inv X pins σ H s):Mod X.K X.mg X.base:=I.ok.mod
theorem Inv.fJ (I:Inv X pins σ H s):X.K.In s.heap:=I.ok.mod.Ek.keeps I.bk
theorem Inv.lt (I:Inv X pins σ H s):X.env.locals < s.heap.objs.size:=let ⟨_,hn,_⟩:=I.loc;hn.lt
theorem Inv.sz (I:Inv X pins σ H s):X.s₀.heap.objs.size<=s.heap.objs.size:=Nat.le_trans I.ok.above (Nat.le_of_lt I.lt)
theorem Inv.aeD (I:Inv X pins σ H s){a:Addr}(h:s.heap.objs.size<=a):a∉X.fs:=λhb=>by
 obtain⟨_,o,ho,_⟩:=I.ok.lG.mem hb;exact absurd (Nat.lt_of_lt_of_le (Heap.lt_size ho) (Nat.le_trans I.sz h)) (Nat.lt_irrefl _)
theorem Inv.El (I:Inv X pins σ H s):∀x c,X.env.cells.lookup x=some c->c≠X.env.locals:=λx c e z=>by
 obtain⟨v,o,ho,hd⟩:=I.cell x c e;obtain⟨m,⟨o',es,ep,ho',hd',_⟩,_⟩:=I.loc;rw[z,ho']at ho;cases ho;rw[hd']at hd;cases hd
theorem Inv.lG (I:Inv X pins σ H s):s.heap.FunFrames X.base X.outer:=by
 have all:∀(l:List Env),(∀b∈frs l,b∈X.fs)->X.s₀.heap.FunFrames X.base l->s.heap.FunFrames X.base l:=by
  intro l
  induction l with
  | nil=>intro _ _;trivial
  | cons env r ih=>
   intro hs hl;obtain⟨hk,⟨L,o,hf,hn,ho,hd⟩,hr⟩:=hl;have hL:L∈X.fs:=hs L (by unfold frs;rw[List.filterMap_cons,hf];exact List.mem_cons_self);obtain⟨sl,e⟩:=I.base.slot L o ho (I.ok.yU L hL) hL λz=>I.ok.Cm L z hL;exact⟨hk,⟨L,_,hf,hn,e,hd⟩,ih (λb hb=>hs b (by unfold frs;rw[List.filterMap_cons,hf];exact List.mem_cons_of_mem _ hb)) hr⟩
 exact all X.outer (λ_ hb=>hb) I.ok.lG
theorem Inv.stack (I:Inv X pins σ H s):s.heap.FunFrames X.base X.stack:=by
 rcases I.ok.stk with e | ⟨e,hf⟩
 ·rw[e];exact I.lG
 ·rw[e]
  obtain⟨m,hn,_⟩:=I.loc;refine .cons (by rw[I.ok.kind];decide) hf hn ?_ I.lG;exact Heap.get?_none_of_le (Nat.le_trans I.ok.qN I.ok.above)
theorem Inv.vJ (I:Inv X pins σ H s):∀b∈frs X.stack,b∈X.env.locals::X.fs:=λb hb=>by
 rcases I.ok.stk with e | ⟨e,hf⟩
 ·rw[e]at hb;exact List.mem_cons_of_mem _ hb
 ·rw[e]at hb
  unfold frs at hb;rw[List.filterMap_cons,hf]at hb;exact hb
theorem Inv.oF (I:Inv X pins σ H s):∀b∈frs X.stack,H b=none:=λb hb=>by
 rcases List.mem_cons.mp (I.vJ b hb) with e | hb
 ·rw[e];exact I.free
 ·obtain⟨_,o,ho,_⟩:=I.ok.lG.mem hb
  exact I.base.free b o ho (I.ok.yU b hb) λz=>I.ok.Cm b z hb
theorem Inv.step {g':Array GenState}{t':Nat}{d':Drawn}{ch:List Addr}(I:Inv X pins σ H s)
  (hch:∀b∈ch,(b∈X.ex\/X.s₀.heap.objs.size<=b)/\b≠X.env.locals/\(∀x c,X.env.cells.lookup x=some c->c≠b)/\∀p∈X.pn++pins,p.1≠b)
  (keep:∀b o,b≠X.env.locals->b∉X.fs->b∉ch->s.heap.get? b=some o->H b=none->h'.get? b=some o)
  (slot:∀b o,b≠X.env.locals->b∈X.fs->b∉ch->s.heap.get? b=some o->H b=none->∃sl,h'.get? b=some { o with slots:=sl }) (free:∀b o,b∉ch->s.heap.get? b=some o->H b=none->H' b=none)
  (there:∀b o,b∉ch->s.heap.get? b=some o->∃o',h'.get? b=some o')
  (tups:∀b xs,H b=some (.tup xs)->H' b=some (.tup xs)) (jU:∀b o u,H b=some (.lM o u)->H' b=some (.lM o u)) (j5:∀b ps,H b=some (.Ig ps)->∃more,H' b=some (.Ig (ps++more)))
  (ns:∀m,s.heap.Ns X.env.locals m->h'.Ns X.env.locals m) (hok:iz X.prog X.w H' h') (hg:AllBare g') :
  Inv X pins σ H' { s with heap:=h',gens:=g',drawn:=d',toks:=t' }:=by
 have neL:∀b o,X.s₀.heap.get? b=some o->b≠X.env.locals:=λb o e=>Nat.ne_of_lt (Nat.lt_of_lt_of_le (Heap.lt_size e) I.ok.above);have qO:∀b o,X.s₀.heap.get? b=some o->b∉X.ex->b∉ch:=λb o e hx hb=>by
  rcases(hch b hb).1 with z | z
  ·exact hx z
  ·exact absurd (Nat.lt_of_lt_of_le (Heap.lt_size e) z) (Nat.lt_irrefl _)
 have cellK:∀x c,X.env.cells.lookup x=some c->∀v,s.heap.IsCell c v->h'.IsCell c v:=λx c e v ⟨o,ho,hd⟩=>by
  have TV:c∉ch:=λz=>(hch c z).2.2.1 x c e rfl;by_cases hc:c∈X.fs
  ·obtain⟨sl,q⟩:=slot c o (I.El x c e) hc TV ho (I.iR x c e)
   exact⟨_,q,hd⟩
  ·exact⟨o,keep c o (I.El x c e) hc TV ho (I.iR x c e),hd⟩
 refine⟨I.ok,I.os,hg,⟨λb o e n hb hx=>?_,λb o e n hb hx=>?_,λb o e n hx=>?_,λb o e hx=>?_,λb xs e=>tups b xs (I.base.tups b xs e),λb o xs e=>jU b o xs (I.base.jU b o xs e),λb ps e=>?_⟩,?_,λx c e=>?_,?_,λx c e=>?_,λp hp=>?_,hok,I.len⟩
 ·exact keep b o (neL b o e) hb (qO b o e hx) (I.base.keep b o e n hb hx) (I.base.free b o e n hx)
 ·obtain⟨sl,e1⟩:=I.base.slot b o e n hb hx
  obtain⟨sl',e2⟩:=slot b _ (neL b o e) hb (qO b o e hx) e1 (I.base.free b o e n hx);exact⟨sl',e2⟩
 ·obtain⟨o',e1⟩:=I.base.there b o e hx
  exact free b o' (qO b o e hx) e1 (I.base.free b o e n hx)
 ·obtain⟨o',e1⟩:=I.base.there b o e hx
  exact there b o' (qO b o e hx) e1
 ·obtain⟨m1,e1⟩:=I.base.j5 b ps e
  obtain⟨m2,e2⟩:=j5 b _ e1;exact⟨m1++m2,by rw[e2,Array.append_assoc]⟩
 ·obtain⟨m,hn,hl⟩:=I.loc
  refine⟨m,ns m hn,λi x v e1 e2 e3=>?_⟩;obtain⟨u,r,l⟩:=hl i x v e1 e2 e3;refine⟨u,r,?_⟩;rcases l with l | ⟨k,c,e,z⟩
  ·exact .inl l
  ·exact .inr ⟨k,c,e,cellK x c e _ z⟩
 ·obtain⟨v,z⟩:=I.cell x c e
  exact⟨v,cellK x c e v z⟩
 ·obtain⟨m,⟨o,_,_,ho,_⟩,_⟩:=I.loc
  exact free _ o (λz=>(hch _ z).2.1 rfl) ho I.free
 ·obtain⟨v,o,ho,hd⟩:=I.cell x c e
  exact free c o (λz=>(hch c z).2.2.1 x c e rfl) ho (I.iR x c e)
 ·obtain⟨e,n,ne,nf,d⟩:=I.pin p hp
  have TV:p.1∉ch:=λz=>(hch p.1 z).2.2.2 p hp rfl;exact⟨keep p.1 p.2 ne nf TV e n,free p.1 p.2 TV e n,ne,nf,d⟩
theorem Inv.un {t':Nat}(I:Inv X pins σ H s)(u:Un X.fs [] H H' s.heap h')(hok:iz X.prog X.w H' h'):Inv X pins σ H' { s with heap:=h',toks:=t' }:=by
 obtain⟨m,⟨o,es,ep,ho,r⟩,_⟩:=id I.loc;obtain⟨sl,hL⟩:=u.any ho I.free (by simp);exact I.step (g':=s.gens) (d':=s.drawn) (ch:=[]) (λ_ z=>nomatch z) (λb o _ hb _ e n=>u.keep b o e n hb (by simp)) (λb o _ hb _ e n=>u.slot b o e n hb (by simp)) (λb o _ e n=>u.free b o e n (by simp)) (λb o _ e=>u.there b o e (by simp)) u.tups u.jU u.j5 (λm' hm=>by
  obtain⟨o',es',ep',ho',r'⟩:=hm;rw[ho]at ho';cases ho';exact⟨_,es',ep',hL,r'⟩) hok I.bare
theorem Inv.call {g':Array GenState}{t':Nat}{d':Drawn}{ch:List Addr}(I:Inv X pins σ H s)(u:Un (frs X.stack) ch H H' s.heap h')(hok:iz X.prog X.w H' h')(hg:AllBare g')
  (hch:∀b∈ch,(b∈X.ex\/X.s₀.heap.objs.size<=b)/\b≠X.env.locals/\(∀x c,X.env.cells.lookup x=some c->c≠b)/\∀p∈X.pn++pins,p.1≠b) :
  Inv X pins σ H' { s with heap:=h',gens:=g',drawn:=d',toks:=t' }:=by
 obtain⟨m,⟨o,es,ep,ho,r⟩,_⟩:=id I.loc;obtain⟨sl,hL⟩:=u.any ho I.free λz=>(hch _ z).2.1 rfl;exact I.step (ch:=ch) hch (λb o hL hb hc e n=>u.keep b o e n (λz=>(List.mem_cons.mp (I.vJ b z)).elim hL hb) hc) (λb o _ _ hc e n=>u.any e n hc) (λb o hc e n=>u.free b o e n hc) (λb o hc e=>u.there b o e hc) u.tups u.jU u.j5 (λm' hm=>by
  obtain⟨o',es',ep',ho',r'⟩:=hm;rw[ho]at ho';cases ho';exact⟨_,es',ep',hL,r'⟩) hok hg
theorem Inv.turned {t':Nat}{it:Addr}(I:Inv X pins σ H s)(k:∀b o,b≠it->s.heap.get? b=some o->h'.get? b=some o)(hn:H it=none)(hL:it≠X.env.locals)
  (h1:it∈X.ex\/X.s₀.heap.objs.size<=it) (h2:∀x c,X.env.cells.lookup x=some c->c≠it) (h3:∀p∈X.pn++pins,p.1≠it):Inv X pins σ H { s with heap:=h',toks:=t' }:=by
 have TX:∀b u,H b=some u->b≠it:=λb u e z=>by rw[z,hn]at e;cases e
 refine I.step (g':=s.gens) (d':=s.drawn) (ch:=[it]) (λb hb=>?_) (λb o _ _ hc e _=>k b o (λz=>hc (by simp[z])) e) (λb o _ _ hc e _=>⟨o.slots,k b o (λz=>hc (by simp[z])) e⟩) (λ_ _ _ _ n=>n)
  (λb o hc e=>⟨o,k b o (λz=>hc (by simp[z])) e⟩) (λ_ _ e=>e) (λ_ _ _ e=>e) (λb ps e=>⟨#[],by rw[e];simp⟩) (λm hm=>?_) (λb u e=>?_) I.bare
 ·have e:b=it:=by simpa using hb
  subst e;exact⟨h1,hL,h2,h3⟩
 ·obtain⟨o,es,ep,ho,r⟩:=hm
  exact⟨o,es,ep,k _ o (Ne.symm hL) ho,r⟩
 ·refine(I.hok b u e).stay (λc v hc q=>k c v ?_ q) (λ_ q=>q) λ_ _ q=>q
  rcases hc with z | z
  ·rw[z];exact TX b u e
  ·exact TX c _ z
theorem Inv.tok (I:Inv X pins σ H s)(t:Nat):Inv X pins σ H { s with toks:=t }:=I.un (h':=s.heap) (t':=t) Un.refl I.hok
theorem Inv.kept {t':Nat}(I:Inv X pins σ H s)(k:∀b u,s.heap.get? b=some u->h'.get? b=some u):Inv X pins σ H { s with heap:=h',toks:=t' }:=I.un (Un.kept k) (I.hok.kept k)
theorem Inv.laid {a:Addr}{o:HO}{t':Nat}(I:Inv X pins σ H s)(k:∀b u,s.heap.get? b=some u->h'.get? b=some u)(hp:s.heap.objs.size<=a)(new:dj X.prog X.w (upd H a o) h' a o) :
  Inv X pins σ (upd H a o) { s with heap:=h',toks:=t' }:=I.un (Un.laid k hp (I.hok.fresh hp)) (I.hok.laid k hp new)
theorem Inv.write {x e:Addr}{o:HO}{t':Nat}(I:Inv X pins σ H s)(mu:TF (H x))(he:e=x\/H e=some (.own x))(k:∀b u,b≠e->s.heap.get? b=some u->h'.get? b=some u)(heo:∃u,h'.get? e=some u)
  (new:dj X.prog X.w (upd H x o) h' x o):Inv X pins σ (upd H x o) { s with heap:=h',toks:=t' }:=I.un (Un.write mu he k heo) (I.hok.write mu he k heo new)
theorem Inv.Pj {Bb:List (Addr × Obj)}(I:Inv X pins σ H s)(h:∀p∈Bb,s.heap.get? p.1=some p.2/\H p.1=none/\p.1≠X.env.locals/\p.1∉X.fs/\∀v,p.2.data≠.cell v):Inv X Bb σ H s:=
 ⟨I.ok,I.os,I.bare,I.base,I.loc,I.cell,I.free,I.iR,λp hp=>(List.mem_append.mp hp).elim (λz=>I.pin p (List.mem_append_left _ z)) (h p),I.hok,I.len⟩
theorem Cp {N:List Str}(hN:N.Nodup){i j:Nat}{x:Str}(a:N[i]?=some x)(b:N[j]?=some x):i=j:=by
 obtain⟨h1,e1⟩:=List.getElem?_eq_some_iff.mp a;obtain⟨h2,e2⟩:=List.getElem?_eq_some_iff.mp b;exact(List.getElem_inj hN).mp (e1.trans e2.symm)
theorem Ii {M:Model}{A:Around}{E:Value->Shared->Prop}{i:Nat}{x:Str}{v:V}{u:Value}{Q:Unit->Shared->Prop}(I:Inv X pins σ H s)(hN:X.N.Nodup)(hi:X.N[i]?=some x)(hx:Loc X.env.scope x)(r:RelV v u)
  (h:∀s',Inv X pins (σ.set i (some v)) H s'->(∃a,Heap.SameBut a s.heap s'.heap/\(a=X.env.locals\/X.env.cells.lookup x=some a))->Q () s') (hf:X.fn x=true\/X.env.scope.names.lookup x=some .local:=by first | exact .inl rfl | exact .inr rfl | assumption):wpAny M A (storeName X.env x u) Q E s:=by
 obtain⟨m,hn,hl⟩:=id I.loc;have hcls:(X.env.scope.kind == .class||(X.env.scope.kind == .module&&X.env.locals != X.env.globals))=false:=by rw[I.ok.kind];rfl
 have hiσ:i < σ.length:=by rw[I.len];exact(List.getElem?_eq_some_iff.mp hi).1
 have El:=I.El;have tracked:∀{a:Addr} {h':Heap},(∃o,s.heap.get? a=some o/\H a=none)->Heap.SameBut a s.heap h'->iz X.prog X.w H h':=λ{a h'} ha hs b ob e=>by
  obtain⟨_,_,hfree⟩:=ha;refine(I.hok b ob e).stay (λc w' hc q=>(hs.2 c ?_).trans q) (λ_ q=>q) λ_ _ q=>q;rintro rfl;rcases hc with rfl | hc
  ·rw[hfree]at e;cases e
  ·rw[hfree]at hc;cases hc
 rcases hx with hk | hk
 ·refine wpAny_storeName_local hk hn (λh' hn' hs=>?_) hcls
  obtain⟨oL,_,_,hoL,_⟩:=id hn;refine h _ ⟨I.ok,I.os,I.bare,⟨λb o e n hb hx=>?_,λb o e n hb hx=>?_,I.base.free,λb o e hx=>?_,I.base.tups,I.base.jU,I.base.j5⟩,⟨_,hn',λj y v' e1 e2 e3=>?_⟩,λy c e=>?_,I.free,I.iR,λp hp=>?_,tracked ⟨oL,hoL,I.free⟩ hs,by simpa using I.len⟩ ⟨_,hs,.inl rfl⟩
  ·exact(hs.2 b (Nat.ne_of_lt (Nat.lt_of_lt_of_le (Heap.lt_size e) I.ok.above))).trans (I.base.keep b o e n hb hx)
  ·obtain⟨sl,e1⟩:=I.base.slot b o e n hb hx
   exact⟨sl,(hs.2 b (Nat.ne_of_lt (Nat.lt_of_lt_of_le (Heap.lt_size e) I.ok.above))).trans e1⟩
  ·obtain⟨o',e1⟩:=I.base.there b o e hx
   exact⟨o',(hs.2 b (Nat.ne_of_lt (Nat.lt_of_lt_of_le (Heap.lt_size e) I.ok.above))).trans e1⟩
  ·by_cases hj:j=i
   ·subst hj
    rw[hi]at e1;cases e1;rw[List.getElem?_set_self hiσ]at e2;cases e2;exact⟨u,r,.inl ⟨hk,by simp⟩⟩
   ·rw[List.getElem?_set_ne (Ne.symm hj)]at e2
    obtain⟨u',r',q⟩:=hl j y v' e1 e2 e3;refine⟨u',r',?_⟩;rcases q with⟨k,e⟩ | ⟨k,c,e,z⟩
    ·refine .inl ⟨k,?_⟩
     have:y≠x:=λe=>hj (Cp hN e1 (e ▸ hi));simp[this,e]
    ·exact .inr ⟨k,c,e,z.sameBut hs (El y c e)⟩
  ·obtain⟨w',z⟩:=I.cell y c e
   exact⟨w',z.sameBut hs (El y c e)⟩
  ·obtain⟨e,n,ne,nf,d⟩:=I.pin p hp
   exact⟨(hs.2 p.1 ne).trans e,n,ne,nf,d⟩
 ·have hfn:X.fn x=true:=by
   rcases hf with z | z
   ·exact z
   ·rw[z]at hk;cases hk
  obtain⟨c,hc⟩:=I.ok.has x (.inl hk);obtain⟨w',z⟩:=I.cell x c hc;refine wpAny_storeName_cell I.ok.kind hk hc z (λh' hc' hs=>?_);obtain⟨oc,hoc,aeE⟩:=id z;refine h { s with heap:=h' } ⟨I.ok,I.os,I.bare,⟨λb o e n hb hx=>?_,λb o e n hb hx=>?_,I.base.free,λb o e hx=>?_,I.base.tups,I.base.jU,I.base.j5⟩,⟨m,hn.sameBut hs (Ne.symm (El x c hc)),λj y v' e1 e2 e3=>?_⟩,λy c' e=>?_,I.free,I.iR,λp hp=>?_,tracked ⟨oc,hoc,I.iR x c hc⟩ hs,by simpa using I.len⟩ ⟨c,hs,.inr hc⟩
  ·exact(hs.2 b (Nat.ne_of_lt (Nat.lt_of_lt_of_le (Heap.lt_size e) (I.ok.cab x c hfn hc)))).trans (I.base.keep b o e n hb hx)
  ·obtain⟨sl,e1⟩:=I.base.slot b o e n hb hx
   exact⟨sl,(hs.2 b (Nat.ne_of_lt (Nat.lt_of_lt_of_le (Heap.lt_size e) (I.ok.cab x c hfn hc)))).trans e1⟩
  ·obtain⟨o',e1⟩:=I.base.there b o e hx
   exact⟨o',(hs.2 b (Nat.ne_of_lt (Nat.lt_of_lt_of_le (Heap.lt_size e) (I.ok.cab x c hfn hc)))).trans e1⟩
  ·by_cases hj:j=i
   ·subst hj
    rw[hi]at e1;cases e1;rw[List.getElem?_set_self hiσ]at e2;cases e2;exact⟨u,r,.inr ⟨.inl hk,c,hc,hc'⟩⟩
   ·rw[List.getElem?_set_ne (Ne.symm hj)]at e2
    obtain⟨u',r',q⟩:=hl j y v' e1 e2 e3;refine⟨u',r',?_⟩;rcases q with q | ⟨k,c',e,z'⟩
    ·exact .inl q
    ·refine .inr ⟨k,c',e,z'.sameBut hs ?_⟩
     rintro rfl;exact hj (Cp hN e1 (I.ok.inj _ _ _ e hc ▸ hi))
  ·by_cases hcc:c'=c
   ·subst hcc;exact⟨_,hc'⟩
   ·obtain⟨w2,z2⟩:=I.cell y c' e
    exact⟨w2,z2.sameBut hs hcc⟩
  ·obtain⟨e,n,ne,nf,d⟩:=I.pin p hp
   refine⟨(hs.2 p.1 ?_).trans e,n,ne,nf,d⟩;intro q;rw[q,hoc]at e;have q':oc=p.2:=Option.some.inj e;exact d w' (by rw[<- q'];exact aeE)
theorem wC {M:Model}{A:Around}{E:Value->Shared->Prop}{i:Nat}{x:Str}{v:V}{u:Value}{Q:Unit->Shared->Prop}(I:Inv X pins σ H s)(hN:X.N.Nodup)(hi:X.N[i]?=some x)(hx:Loc X.env.scope x)(r:RelV v u)
  (h:∀s',Inv X pins (σ.set i (some v)) H s'->Q () s') (hf:X.fn x=true\/X.env.scope.names.lookup x=some .local:=by first | exact .inl rfl | exact .inr rfl | assumption):wpAny M A (storeName X.env x u) Q E s:=
 Ii I hN hi hx r (λs' I' _=>h s' I') hf
theorem Inv.call' {s':Shared}{ch:List Addr}(I:Inv X pins σ H s)(ho:s'.os=s.os)(u:Un (frs X.stack) ch H H' s.heap s'.heap)(hok:iz X.prog X.w H' s'.heap)(hg:AllBare s'.gens)
  (hch:∀b∈ch,(b∈X.ex\/X.s₀.heap.objs.size<=b)/\b≠X.env.locals/\(∀x c,X.env.cells.lookup x=some c->c≠b)/\∀p∈X.pn++pins,p.1≠b):Inv X pins σ H' s':=by
 obtain⟨h',g',d',t',o'⟩:=s';have e:o'=s.os:=ho;subst e;exact I.call (g':=g') (t':=t') (d':=d') u hok hg hch
end
abbrev XK:=Value->Option Addr->Hp->Prop
abbrev St:=List (Option V)
abbrev VK:=V->Hp->Prop
abbrev TE:=St->Hp->VK->Prop
abbrev TT:=St->Hp->(Bool->Hp->Prop)->Prop
abbrev TA:=St->Hp->(List V->Hp->Prop)->Prop
structure Ends where
 nx:St->Hp->Prop
 rt:VK
 bk:St->Hp->Prop:=λ_ _=>False
 ct:St->Hp->Prop:=λ_ _=>False
abbrev TS:=Ends->St->Hp->Prop
def EP (X:Cx)(pins:List (Addr × Obj))(σ:St)(Q:VK)(u:Value)(s':Shared):Prop:=∃v H',Inv X pins σ H' s'/\RelV v u/\Q v H'
def TP (X:Cx)(pins:List (Addr × Obj))(σ:St)(Q:Bool->Hp->Prop)(b:Bool)(s':Shared):Prop:=∃H',Inv X pins σ H' s'/\Q b H'
def AP (X:Cx)(pins:List (Addr × Obj))(σ:St)(Q:List V->Hp->Prop)(us:List Value)(s':Shared):Prop:=∃vs H',Inv X pins σ H' s'/\Vals vs us/\Q vs H'
def SP (X:Cx)(pins:List (Addr × Obj))(D:Ends)(f:Flow)(s':Shared):Prop:=
 match f with
 | .next=>∃σ' H',Inv X pins σ' H' s'/\D.nx σ' H'
 | .brk=>∃σ' H',Inv X pins σ' H' s'/\D.bk σ' H'
 | .cont=>∃σ' H',Inv X pins σ' H' s'/\D.ct σ' H'
 | .ret u=>∃v σ' H',Inv X pins σ' H' s'/\RelV v u/\D.rt v H'
def PE (X:Cx)(e:Expr)(t:TE):Prop:=
 ∀(pins:List (Addr × Obj)) (s:Shared) (σ:St) (H:Hp) (Q:VK),Inv X pins σ H s->t σ H Q->wpAny (model X.prog X.w) X.A (eval e X.env) (EP X pins σ Q) X.xe s
def PT (X:Cx)(e:Expr)(t:TT):Prop:=
 ∀(pins:List (Addr × Obj)) (s:Shared) (σ:St) (H:Hp) (Q:Bool->Hp->Prop),Inv X pins σ H s->t σ H Q->wpAny (model X.prog X.w) X.A (isTrue e X.env (eval e X.env)) (TP X pins σ Q) X.xe s
def PW (X:Cx)(e:Expr)(t:TT):Prop:=
 ∀(whole:Sem Value) (pins:List (Addr × Obj)) (s:Shared) (σ:St) (H:Hp) (Q:Bool->Hp->Prop),Inv X pins σ H s->t σ H Q->wpAny (model X.prog X.w) X.A (isTrue e X.env whole) (TP X pins σ Q) X.xe s
theorem PW.pt {X:Cx}{e:Expr}{t:TT}(h:PW X e t):PT X e t:=h _
def PA (X:Cx)(es:List Expr)(t:TA):Prop:=
 ∀(pos:Pos) (pins:List (Addr × Obj)) (s:Shared) (σ:St) (H:Hp) (Q:List V->Hp->Prop),Inv X pins σ H s->t σ H Q->wpAny (model X.prog X.w) X.A (spliced (backTo pos (starEach es X.env))) (AP X pins σ Q) X.xe s
def PS (X:Cx)(st:Stmt)(t:TS):Prop:=
 ∀(pins:List (Addr × Obj)) (s:Shared) (σ:St) (H:Hp) (D:Ends),Inv X pins σ H s->t D σ H->wpAny (model X.prog X.w) X.A (exec st X.env) (SP X pins D) X.xe s
def qP (X:Cx)(st:List Stmt)(t:TS):Prop:=
 ∀(pins:List (Addr × Obj)) (s:Shared) (σ:St) (H:Hp) (D:Ends),Inv X pins σ H s->t D σ H->wpAny (model X.prog X.w) X.A (execs st X.env) (SP X pins D) X.xe s
theorem bG {α:Type}{t:Sem α}{Q Q':α->Shared->Prop}{M:Model}{A:Around}{E:Value->Shared->Prop}{s:Shared}(h:wpAny M A t Q E s)(hQ:∀a s,Q a s->Q' a s):wpAny M A t Q' E s:=wpAny_mono h hQ λ_ _ x=>x
section
variable {X:Cx}
def gK (i:Nat):TE:=λσ H Q=>∃v,σ[i]?=some (some v)/\Q v H
def tC (v:V):TE:=λ_ H Q=>Q v H
theorem abY {i:Nat}{x:Str}{pos:Pos}(hN:X.N[i]?=some x)(hv:Zw X.env.scope x)(hd:(x==("__debug__":Str))=false:=by decide)(hcd:(x==("__classdict__":Str))=false:=by decide):PE X (.Name x pos) (gK i):=by
 intro pins s σ H Q I h;obtain⟨v,e,h⟩:=h;obtain⟨m,hn,hl⟩:=I.loc;obtain⟨u,r,l⟩:=hl i x v hN e hv;have fin:EP X pins σ Q u s:=⟨v,H,I,r,h⟩
 rcases l with⟨hk,hm⟩ | ⟨hk,c,hc,hcell⟩
 ·exact wpAny_Name (wpAny_loadName_local I.ok.kind hk hn hm fin) hd
 ·rcases hk with hk | hk
  ·exact wpAny_Name (wpAny_loadName_cell I.ok.kind hk hc hcell fin) hd
  ·exact wpAny_Name (wpAny_loadName_free I.ok.kind hk hc hcell fin hcd) hd
theorem abZ {i j pos}:PE X (.Constant (.int i) j pos) (tC (.int i)):=λ_ _ _ H _ I h=>wpAny_Constant_int ⟨.int i,H,I.tok _,⟨_,rfl⟩,h⟩
theorem ad5 {b j pos}:PE X (.Constant (.bool b) j pos) (tC (.bl b)):=λ_ _ _ H _ I h=>Constant_bool ⟨.bl b,H,I,rfl,h⟩
theorem ab0 {j pos}:PE X (.Constant .none j pos) (tC .non):=λ_ _ _ H _ I h=>Constant_none ⟨.non,H,I,rfl,h⟩
theorem ab1 {x j pos}:PE X (.Constant (.str x) j pos) (tC (.str x)):=λ_ _ _ H _ I h=>Calls.Constant_str ⟨.str x,H,I.tok _,⟨_,rfl⟩,h⟩
def Gl (X:Cx)(x:Str):Prop:=X.env.kindOf x=some .globalImplicit
theorem mQ {E:Value->Shared->Prop}{pins:List (Addr × Obj)}{s:Shared}{σ:St}{H:Hp}{x:Str}{u:Value}{pos:Pos}{Q:Value->Shared->Prop}(I:Inv X pins σ H s)(hg:Gl X x)(hm:X.mg x=some u)(h:Q u s)
  (hd:(x==("__debug__":Str))=false:=by decide):wpAny (model X.prog X.w) X.A (eval (.Name x pos) X.env) Q E s:=
 Calls.Name_function_global I.ok.kind hg (Calls.loadGlobal_global (by rw[I.ok.glob];exact I.mod.glob.keeps I.bk) hm h) hd
theorem vK {E:Value->Shared->Prop}{pins:List (Addr × Obj)}{s:Shared}{σ:St}{H:Hp}{x:Str}{u:Value}{pos:Pos}{Q:Value->Shared->Prop}(I:Inv X pins σ H s)(hg:Gl X x)(hm:X.mg x=none)(hv:bootBuiltins x=some u)(h:Q u s)
  (hn:x≠"__name__":=by decide) (hd:(x==("__debug__":Str))=false:=by decide):wpAny (model X.prog X.w) X.A (eval (.Name x pos) X.env) Q E s:=by
 obtain⟨mb,h1,h2⟩:=I.mod.blt;exact Calls.Name_function_global I.ok.kind hg (Calls.loadGlobal_builtin (by rw[I.ok.glob];exact I.mod.glob.keeps I.bk) hm (by rw[I.ok.blt];exact h1.keeps I.bk) ((h2 x hn).trans hv) h) hd
theorem aap {x:Str}{v:V}{u:Value}{pos:Pos}(hg:Gl X x)(hm:X.mg x=some u)(r:RelV v u)(hd:(x==("__debug__":Str))=false:=by decide):PE X (.Name x pos) (tC v):=
 λ_ _ _ H _ I h=>mQ I hg hm ⟨v,H,I,r,h⟩ hd
theorem aaq {x:Str}{v:V}{u:Value}{pos:Pos}(hg:Gl X x)(hm:X.mg x=none)(hv:bootBuiltins x=some u)(r:RelV v u)(hn:x≠"__name__":=by decide)(hd:(x==("__debug__":Str))=false:=by decide):PE X (.Name x pos) (tC v):=
 λ_ _ _ H _ I h=>vK I hg hm hv ⟨v,H,I,r,h⟩ hn hd
variable {a b:Expr}{ta tb:TE}{pos:Pos}
def PC (X:Cx)(op:CmpOp)(a b:Expr)(t:TE):Prop:=
 ∀(pins:List (Addr × Obj)) (s:Shared) (σ:St) (H:Hp) (Q:VK),Inv X pins σ H s->t σ H Q->
  wpAny (model X.prog X.w) X.A (eval a X.env) (λv s₁=>wpAny (model X.prog X.w) X.A (eval b X.env) (λu s₂=>wpAny (model X.prog X.w) X.A (compareOp op v u) (EP X pins σ Q) X.xe s₂) X.xe s₁) X.xe s
def tB (t:TE):TT:=λσ H Q=>t σ H λx H1=>∃c,x=.bl c/\Q c H1
theorem ab2 {op:CmpOp}{t:TE}(h:PC X op a b t)(h1:behindInMarks op b=false:=by first | exact Cq _ (by decide) (by decide) | rfl):PE X (.Compare a [op] [b] pos) t:=λpins s σ H Q I hw=>wpAny_Compare1 (h pins s σ H Q I hw) h1
theorem ab3 {op:CmpOp}{t:TE}(h:PC X op a b t)(h1:behindInMarks op b=false:=by first | exact Cq _ (by decide) (by decide) | rfl):PT X (.Compare a [op] [b] pos) (tB t):=by
 intro pins s σ H Q I hw;refine wpAny_isTrue_Compare1 (bG (h pins s σ H _ I hw) λv s1 h1=>bG h1 λu s2 h2=>bG h2 λc s3 ⟨x,H1,I1,r1,q1⟩=>?_) h1;obtain⟨d,rfl,q⟩:=q1;cases r1;exact wpAny_truthy_bool ⟨H1,I1,q⟩
theorem ab4 {e:Expr}{t:TE}(h:PE X e t)(he:∀whole,isTrue e X.env whole=(do let v <- whole;standAt e.pos;holding [v] (truthy v)):=by intro _;rfl):PT X e (tB t):=by
 intro pins s σ H Q I hw;refine isTrue_plain (bG (h pins s σ H _ I hw) λv s1 ⟨x,H1,I1,r1,q1⟩=>?_) (he _);obtain⟨d,rfl,q⟩:=q1;cases r1;exact wpAny_truthy_bool ⟨H1,I1,q⟩
variable {tA lN:TT}{rest:List Expr}
def ab5 (t u:TT):TT:=λσ H Q=>t σ H λc H1=>if c=true then u σ H1 Q else Q false H1
def tOr (t u:TT):TT:=λσ H Q=>t σ H λc H1=>if c=true then Q true H1 else u σ H1 Q
def ab6 (t:TT):TT:=λσ H Q=>t σ H λc H1=>Q (!c) H1
theorem aar (ha:PT X a tA):PW X (.BoolOp .And [a] pos) tA:=by
 intro wh pins s σ H Q I h;refine isTrue_and (bG (ha pins s σ H Q I h) λc s1 e=>?_);cases c with
 | true=>exact isTrue_and_nil e
 | false=>exact e
theorem ab7 (ha:PT X a tA):PW X (.BoolOp .Or [a] pos) tA:=by
 intro wh pins s σ H Q I h;refine isTrue_or (bG (ha pins s σ H Q I h) λc s1 e=>?_);cases c with
 | false=>exact isTrue_or_nil e
 | true=>exact e
theorem ab8 (ha:PT X a tA)(hb:PW X (.BoolOp .And (b::rest) pos) lN):PW X (.BoolOp .And (a::b::rest) pos) (ab5 tA lN):=by
 intro wh pins s σ H Q I h;refine isTrue_and (bG (ha pins s σ H _ I h) λc s1 ⟨H1,I1,q1⟩=>?_);cases c with
 | true=>exact hb wh pins s1 σ H1 Q I1 q1
 | false=>exact⟨H1,I1,q1⟩
theorem ad6 (ha:PT X a tA)(hb:PW X (.BoolOp .Or (b::rest) pos) lN):PW X (.BoolOp .Or (a::b::rest) pos) (tOr tA lN):=by
 intro wh pins s σ H Q I h;refine isTrue_or (bG (ha pins s σ H _ I h) λc s1 ⟨H1,I1,q1⟩=>?_);cases c with
 | true=>exact⟨H1,I1,q1⟩
 | false=>exact hb wh pins s1 σ H1 Q I1 q1
theorem ab9 (ha:PT X a tA):PT X (.UnaryOp .Not a pos) (ab6 tA):=by
 intro pins s σ H Q I h;exact isTrue_not (ha pins s σ H (λc H1=>Q (!c) H1) I h)
def Zx (ta tb:TE):TE:=λσ H Q=>ta σ H λx H1=>∃c,x=.bl c/\if c=true then tb σ H1 Q else Q (.bl false) H1
def ab_ (ta tb:TE):TE:=λσ H Q=>ta σ H λx H1=>∃c,x=.bl c/\if c=true then Q (.bl true) H1 else tb σ H1 Q
def Zy (ta:TE):TE:=λσ H Q=>ta σ H λx H1=>∃c,x=.bl c/\Q (.bl (!c)) H1
theorem acd {op}{t:TE}(h:PE X a t):PE X (.BoolOp op [a] pos) t:=λpins s σ H Q I hw=>BoolOp_one (h pins s σ H Q I hw)
theorem ace (ha:PE X a ta)(hb:PE X (.BoolOp .And (b::rest) pos) tb):PE X (.BoolOp .And (a::b::rest) pos) (Zx ta tb):=by
 intro pins s σ H Q I h;refine BoolOp_and (bG (ha pins s σ H _ I h) λv s1 ⟨x,H1,I1,r1,q1⟩=>?_);obtain⟨c,rfl,q1⟩:=q1;cases r1;refine wpAny_truthy_bool ?_;cases c with
 | true=>exact hb pins s1 σ H1 Q I1 q1
 | false=>exact⟨.bl false,H1,I1,rfl,q1⟩
theorem ad7 (ha:PE X a ta)(hb:PE X (.BoolOp .Or (b::rest) pos) tb):PE X (.BoolOp .Or (a::b::rest) pos) (ab_ ta tb):=by
 intro pins s σ H Q I h;refine BoolOp_or (bG (ha pins s σ H _ I h) λv s1 ⟨x,H1,I1,r1,q1⟩=>?_);obtain⟨c,rfl,q1⟩:=q1;cases r1;refine wpAny_truthy_bool ?_;cases c with
 | false=>exact hb pins s1 σ H1 Q I1 q1
 | true=>exact⟨.bl true,H1,I1,rfl,q1⟩
theorem acf (ha:PE X a ta):PE X (.UnaryOp .Not a pos) (Zy ta):=by
 intro pins s σ H Q I h;refine UnaryOp_ (bG (ha pins s σ H _ I h) λv s1 ⟨x,H1,I1,r1,q1⟩=>?_);obtain⟨c,rfl,q1⟩:=q1;cases r1;exact not_of (wpAny_truthy_bool ⟨.bl (!c),H1,I1,rfl,q1⟩)
def tIf (t:TT)(ta tb:TE):TE:=λσ H Q=>t σ H λc H1=>if c=true then ta σ H1 Q else tb σ H1 Q
theorem Xg {c:Expr}(hc:PT X c tA)(ha:PE X a ta)(hb:PE X b tb):PE X (.IfExp c a b pos) (tIf tA ta tb):=by
 intro pins s σ H Q I h;refine wpAny_IfExp (bG (hc pins s σ H _ I h) λd s1 ⟨H1,I1,q1⟩=>?_);cases d with
 | true=>exact ha pins s1 σ H1 Q I1 q1
 | false=>exact hb pins s1 σ H1 Q I1 q1
end
def aN (K:PySem.W.Frag)(H:Hp)(a:Addr)(xs:List V):Prop:=
 Rd H a (.lst xs)\/
  ∃(o:Obj) (its:Array Value) (n:Nat),K.lookup a=some o/\o.cls=.type "list"/\o.dict=none/\o.data=.seq its n/\its.size<=sizeLine/\Vals xs its.toList
def aK (K:PySem.W.Frag)(H:Hp)(a:Addr)(xs:List V):Prop:=
 Rd H a (.tup xs)\/
  ∃(o:Obj) (its:Array Value) (n:Nat),K.lookup a=some o/\o.cls=.type "tuple"/\o.data=.seq its n/\its.size<=sizeLine/\Vals xs its.toList
def aeF:Value->Option V
 | .none=>some .non
 | .bool b=>some (.bl b)
 | .int i _=>some (.int i)
 | .str x _=>some (.str x)
 | .bytes b _=>some (.yN b)
 | .float b _=>some (.flt b)
 | .ref a=>some (.ref a)
 | .type n=>some (.ty n)
 | _=>none
theorem RelV.abs {x:V}{u:Value}(r:RelV x u):aeF u=some x:=by
 cases x with
 | non=>cases r;rfl
 | bl _=>cases r;rfl
 | int _=>obtain⟨t,rfl⟩:=r;rfl
 | str _=>obtain⟨t,rfl⟩:=r;rfl
 | yN _=>obtain⟨t,rfl⟩:=r;rfl
 | flt _=>obtain⟨t,rfl⟩:=r;rfl
 | ref _=>cases r;rfl
 | ty _=>cases r;rfl
theorem RelV.inj {x y:V}{u:Value}(r:RelV x u)(q:RelV y u):x=y:=Option.some.inj (r.abs.symm.trans q.abs)
theorem Vals.inj:∀{xs ys:List V} {us:List Value},Vals xs us->Vals ys us->xs=ys
 | _,_,_,.nil,.nil=>rfl
 | _,_,_,.cons r t,.cons r' t'=>by rw[r.inj r',Vals.inj t t']
section
variable {X:Cx}{pins:List (Addr × Obj)}{σ:St}{H:Hp}{s:Shared}{a:Addr}{xs ys:List V}
theorem aN.of {K:PySem.W.Frag}(h:H a=some (.lst xs)):aN K H a xs:=.inl (.inl h)
theorem aK.of {K:PySem.W.Frag}(h:H a=some (.tup xs)):aK K H a xs:=.inl (.inl h)
theorem Inv.list (I:Inv X pins σ H s)(h:aN X.K H a xs):∃its:List Value,Vals xs its/\PlainL s.heap a its.toArray/\xs.length<=sizeLine:=by
 rcases h with h | ⟨o,its,n,hk,hc,hd,hs,hz,r⟩
 ·obtain⟨z,its,n,r,e⟩:=h.ok I.hok
  exact⟨its,r,⟨_,n,e,rfl,rfl,rfl⟩,z⟩
 ·refine⟨its.toList,r,⟨o,n,I.fJ a o hk,hc,hd,by simpa using hs⟩,?_⟩
  have e:=r.length;simp only[Array.length_toList]at e;omega
theorem Inv.tuple (I:Inv X pins σ H s)(h:aK X.K H a xs):∃its:List Value,Vals xs its/\IsTup s.heap a its.toArray/\xs.length<=sizeLine:=by
 rcases h with h | ⟨o,its,n,hk,hc,hs,hz,r⟩
 ·obtain⟨z,its,r,p⟩:=h.ok I.hok
  exact⟨its,r,p,z⟩
 ·refine⟨its.toList,r,⟨o,I.fJ a o hk,hc,n,by simpa using hs⟩,?_⟩
  have e:=r.length;simp only[Array.length_toList]at e;omega
theorem Inv.Cr (I:Inv X pins σ H s)(h:aN X.K H a xs)(h':aN X.K H a ys):xs=ys:=by
 obtain⟨its,r,⟨o,n,e,_,_,d⟩,_⟩:=I.list h;obtain⟨its',r',⟨o',n',e',_,_,d'⟩,_⟩:=I.list h';rw[e]at e';cases e';rw[d]at d';injection d' with d1 _;have:its=its':=by simpa using congrArg Array.toList d1
 subst this;exact r.inj r'
theorem Inv.TY (I:Inv X pins σ H s)(h:aK X.K H a xs)(h':aK X.K H a ys):xs=ys:=by
 obtain⟨its,r,⟨o,e,_,n,d⟩,_⟩:=I.tuple h;obtain⟨its',r',⟨o',e',_,n',d'⟩,_⟩:=I.tuple h';rw[e]at e';cases e';rw[d]at d';injection d' with d1 _;have:its=its':=by simpa using congrArg Array.toList d1
 subst this;exact r.inj r'
end
abbrev Cx.wish (X:Cx)(E:Value->Shared->Prop):Cx:={ X with xe:=E }
abbrev Cx.Kp (X:Cx):Cx:=X.wish λ_ _=>False
theorem Cx.Ok.wish {X:Cx}(ok:X.Ok)(E:Value->Shared->Prop):(X.wish E).Ok:=
 ⟨ok.mod,ok.kind,ok.glob,ok.blt,ok.above,ok.inj,ok.has,ok.cab,ok.hd,ok.frames,ok.stk,ok.TQ,ok.bs,ok.qN,ok.uW,ok.Cm,ok.lG,ok.yU⟩
theorem Cx.Ok.pW {X:Cx}{E:Value->Shared->Prop}(ok:(X.wish E).Ok):X.Ok:=
 ⟨ok.mod,ok.kind,ok.glob,ok.blt,ok.above,ok.inj,ok.has,ok.cab,ok.hd,ok.frames,ok.stk,ok.TQ,ok.bs,ok.qN,ok.uW,ok.Cm,ok.lG,ok.yU⟩
section
variable {X:Cx}{pins:List (Addr × Obj)}{σ:St}{H:Hp}{s:Shared}{E:Value->Shared->Prop}
theorem Inv.wish (I:Inv X pins σ H s)(E:Value->Shared->Prop):Inv (X.wish E) pins σ H s:=⟨I.ok.wish E,I.os,I.bare,I.base,I.loc,I.cell,I.free,I.iR,I.pin,I.hok,I.len⟩
theorem Inv.pW (I:Inv (X.wish E) pins σ H s):Inv X pins σ H s:=⟨I.ok.pW,I.os,I.bare,I.base,I.loc,I.cell,I.free,I.iR,I.pin,I.hok,I.len⟩
theorem SP.pW {D:Ends}{f:Flow}{s':Shared}(h:SP (X.wish E) pins D f s'):SP X pins D f s':=by
 cases f with
 | next=>obtain⟨σ',H',I,q⟩:=h;exact⟨σ',H',I.pW,q⟩
 | brk=>obtain⟨σ',H',I,q⟩:=h;exact⟨σ',H',I.pW,q⟩
 | cont=>obtain⟨σ',H',I,q⟩:=h;exact⟨σ',H',I.pW,q⟩
 | ret u=>obtain⟨v,σ',H',I,r,q⟩:=h;exact⟨v,σ',H',I.pW,r,q⟩
theorem qP.Kp {st:List Stmt}{t:TS}(h:qP X.Kp st t):qP X st t:=λpins s σ H D I hw=>
 wpAny_mono (h pins s σ H D (I.wish _) hw) (λ_ _ q=>q.pW) λ_ _ z=>False.elim z
end
section
variable {X:Cx}{st:Stmt}{rest:List Stmt}{t u:TS}{e:Expr}{te:TE}{pos:Pos}
def Zz:TS:=λD σ H=>D.nx σ H
def acg (t u:TS):TS:=λD σ H=>t { D with nx:=u D } σ H
theorem aas:qP X [] Zz:=λ_ _ σ H _ I h=>wpAny_execs_nil ⟨σ,H,I,h⟩
theorem Xh (h1:PS X st t)(h2:qP X rest u):qP X (st::rest) (acg t u):=by
 intro pins s σ H D I h;refine wpAny_execs_cons (bG (h1 pins s σ H { D with nx:=u D } I h) λf s1 q=>?_);cases f with
 | next=>
  obtain⟨σ',H',I',q⟩:=q;exact h2 pins s1 σ' H' D I' q
 | ret v=>exact q
 | brk=>exact q
 | cont=>exact q
theorem aat (h1:PS X st t):qP X [st] t:=by
 intro pins s σ H D I h;refine wpAny_execs_cons (bG (h1 pins s σ H D I h) λf s1 q=>?_);cases f with
 | next=>exact wpAny_execs_nil q
 | ret v=>exact q
 | brk=>exact q
 | cont=>exact q
theorem Inv.quiet {pins:List (Addr × Obj)}{σ:St}{H:Hp}{s:Shared}(I:Inv X pins σ H s):interactive X.env=false:=by simp[interactive,I.ok.kind]
def ZC (te:TE):TS:=λD σ H=>te σ H λ_ H1=>D.nx σ H1
theorem aau (he:PE X e te)(hs:swapsWith e none pos.line X.env=pure false:=by rfl):PS X (.Expr e pos) (ZC te):=by
 intro pins s σ H D I h;exact wpAny_Expr_any (bG (he pins s σ H _ I h) λv s1 ⟨x,H1,I1,r1,q1⟩=>⟨σ,H1,I1,q1⟩) I.quiet hs
def Xi (te:TE):TS:=λD σ H=>te σ H D.rt
theorem ach (he:PE X e te):PS X (.Return (some e) pos) (Xi te):=by
 intro pins s σ H D I h;exact wpAny_Return_some (bG (he pins s σ H _ I h) λv s1 ⟨x,H1,I1,r1,q1⟩=>⟨x,σ,H1,I1,r1,q1⟩)
def aci (c:TT)(t u:TS):TS:=λD σ H=>c σ H λb H1=>if b=true then t D σ H1 else u D σ H1
theorem ad8 {c:Expr}{a b:List Stmt}{tc:TT}(hc:PT X c tc)(ha:qP X a t)(hb:qP X b u):PS X (.If c a b pos) (aci tc t u):=by
 intro pins s σ H D I h;refine wpAny_If (bG (hc pins s σ H _ I h) λd s1 ⟨H1,I1,q1⟩=>?_);cases d with
 | true=>exact ha pins s1 σ H1 D I1 q1
 | false=>exact hb pins s1 σ H1 D I1 q1
def T3:TS:=λ_ _ _=>False
theorem T4 {sts:List Stmt}:qP X sts T3:=λ_ _ _ _ _ _ h=>h.elim
end
abbrev TG:=V->St->Hp->(St->Hp->Prop)->Prop
abbrev BP:=List V->St->Hp->(St->Hp->Prop)->Prop
def PG (X:Cx)(target:Expr)(t:TG):Prop:=
 ∀(pins:List (Addr × Obj)) (s:Shared) (σ:St) (H:Hp) (v:V) (u:Value) (Q:St->Hp->Prop),Inv X pins σ H s->RelV v u->t v σ H Q->
  wpAny (model X.prog X.w) X.A (assign target X.env u) (λ_ s'=>∃σ' H',Inv X pins σ' H' s'/\Q σ' H') X.xe s
def T5 (X:Cx)(ts:List Expr)(t:BP):Prop:=
 ∀(pins:List (Addr × Obj)) (s:Shared) (σ:St) (H:Hp) (vs:List V) (us:List Value) (Q:St->Hp->Prop),Inv X pins σ H s->Vals vs us->t vs σ H Q->
  wpAny (model X.prog X.w) X.A (assignInOrder ((assignEach ts X.env).map (·.2)) us) (λ_ s'=>∃σ' H',Inv X pins σ' H' s'/\Q σ' H') X.xe s
abbrev Q_:=V->V->V->Hp->(Hp->Prop)->Prop
def Xj (X:Cx)(t:Q_):Prop:=
 ∀(pins:List (Addr × Obj)) (s:Shared) (σ:St) (H:Hp) (o i v:V) (ov iv u:Value) (Q:Hp->Prop),Inv X pins σ H s->RelV o ov->RelV i iv->RelV v u->t o i v H Q->
  wpAny (model X.prog X.w) X.A (setItem ov iv u) (λ_ s'=>∃H',Inv X pins σ H' s'/\Q H') X.xe s
section
variable {X:Cx}{pos:Pos}
def m6 (i:Nat):TG:=λv σ H Q=>Q (σ.set i (some v)) H
theorem oG {i:Nat}{x:Str}(hN:X.N.Nodup)(hi:X.N[i]?=some x)(hx:Loc X.env.scope x)(hf:X.fn x=true\/X.env.scope.names.lookup x=some .local:=by first | exact .inl rfl | exact .inr rfl | assumption):PG X (.Name x pos) (m6 i):=by
 intro pins s σ H v u Q I r h;exact wpAny_assign_Name (wC I hN hi hx r (λs' I'=>⟨_,H,I',h⟩) hf)
def Ra:BP:=λvs σ H Q=>vs=[]/\Q σ H
def wD (t:TG)(u:BP):BP:=λvs σ H Q=>∃v r,vs=v::r/\t v σ H λσ' H'=>u r σ' H' Q
theorem Gs:T5 X [] Ra:=by
 intro pins s σ H vs us Q I r h;obtain⟨e,h⟩:=h;subst e;cases r;exact assignInOrder_nil ⟨σ,H,I,h⟩
theorem oH {e:Expr}{es:List Expr}{t:TG}{u:BP}(h1:PG X e t)(h2:T5 X es u)
  (hs:(assignEach (e::es) X.env).map (·.2)=assign e X.env::(assignEach es X.env).map (·.2):=by rfl):T5 X (e::es) (wD t u):=by
 intro pins s σ H vs us Q I r h;obtain⟨v,vr,e1,h⟩:=h;subst e1;cases r with
 | cons r rr=>
  rw[hs];refine assignInOrder_cons (bG (h1 pins s σ H _ _ _ I r h) λ_ s1 ⟨σ1,H1,I1,q1⟩=>?_);exact h2 pins s1 σ1 H1 _ _ Q I1 rr q1
def Rb (K:PySem.W.Frag)(n:Nat)(t:BP):TG:=λv σ H Q=>∃a xs,v=.ref a/\aK K H a xs/\xs.length=n/\t xs σ H Q
theorem Kq {es:List Expr}{k:Nat}{t:BP}{n:Nat}(hc:X.calm=true)(h:T5 X es t)
  (hn:(assignEach es X.env).length=n:=by rfl) (hst:(assignEach es X.env).findIdx? (·.1)=none:=by rfl):PG X (.Tuple es k pos) (Rb X.K n t):=by
 intro pins s σ H v u Q I r hw;obtain⟨a,xs,e1,hq,hl,hw⟩:=hw;subst e1;cases r;obtain⟨its,rv,ht,hz⟩:=I.tuple hq;refine assign_Tuple_tuple (I.ok.hd hc) ht (by simp[hn,<- hl,rv.length]) hst λh' hx=>?_;have I1:Inv X pins σ H { s with heap:=h' }:=I.kept (t':=s.toks) λb o e=>hx b o (Nat.ne_of_lt (Heap.lt_size e)) e;exact h pins _ σ H xs _ Q I1 (by simpa using rv) hw
def acj (to ti:TE)(t:Q_):TG:=λv σ H Q=>to σ H λo H1=>ti σ H1 λi H2=>t o i v H2 λH3=>Q σ H3
theorem acn {o i:Expr}{to ti:TE}{t:Q_}(ho:PE X o to)(hi:PE X i ti)(hs:Xj X t)
  (ha:∀v,assign (.Subscript o i pos) X.env v=(do
   let ov <- holding [v] (eval o X.env)
   let iv <- holding [v,ov] (eval i X.env)
   standAt pos
   holding [v,ov,iv] (setItem ov iv v)
   release [v,ov,iv] []):=by intro _;rfl):PG X (.Subscript o i pos) (acj to ti t):=by
 intro pins s σ H v u Q I r h;rw[ha];refine wpAny_bind (wpAny_holding (bG (ho pins s σ H _ I h) λov s1 ⟨x,H1,I1,r1,q1⟩=>?_));refine wpAny_bind (wpAny_holding (bG (hi pins s1 σ H1 _ I1 q1) λiv s2 ⟨y,H2,I2,r2,q2⟩=>?_));refine wpAny_bind (wpAny_standAt (wpAny_bind (wpAny_holding (bG (hs pins s2 σ H2 x y v ov iv u _ I2 r1 r2 r q2) λ_ s3 ⟨H3,I3,q3⟩=>?_))));exact wpAny_release ⟨σ,H3,I3,q3⟩
def Gu (te:TE)(g:TG):TS:=λD σ H=>te σ H λx H1=>g x σ H1 D.nx
theorem aco {tg e:Expr}{te:TE}{g:TG}(he:PE X e te)(hg:PG X tg g)(hs:swapsWithSole [tg] e pos.line X.env=pure false:=by rfl)(hw:swappedStores [tg] e X.env=pure none:=by rfl)
  (h1:(assignEach [tg] X.env).map (·.2)=[assign tg X.env]:=by rfl):PS X (.Assign [tg] e pos) (Gu te g):=by
 intro pins s σ H D I h;refine wpAny_Assign_stores (bG (he pins s σ H _ I h) λv s1 ⟨x,H1,I1,r1,q1⟩=>?_) hs hw;rw[h1];exact bG (hg pins s1 σ H1 x v _ I1 r1 q1) λ_ s2 q=>q
theorem acp {i:Nat}{x:Str}{e:Expr}{te:TE}{pos':Pos}(hN:X.N.Nodup)(hi:X.N[i]?=some x)(hx:Loc X.env.scope x)(he:PE X e te)(hs:swapsWith e (some (.Name x pos')) pos.line X.env=pure false:=by rfl)(hf:X.fn x=true\/X.env.scope.names.lookup x=some .local:=by first | exact .inl rfl | exact .inr rfl | assumption) :
  PS X (.Assign [.Name x pos'] e pos) (Gu te (m6 i)):=by
 intro pins s σ H D I h;refine wpAny_Assign_Name (bG (he pins s σ H _ I h) λv s1 ⟨y,H1,I1,r1,q1⟩=>?_) hs;exact wC I1 hN hi hx r1 (λs2 I2=>⟨_,H1,I2,q1⟩) hf
end
section
variable {X:Cx}{pos:Pos}
def T6 (c:TT)(tb:TS):TS:=λD σ H=>∃W:Nat->St->Hp->Prop,(∃m,W m σ H)/\∀m σ H,W m σ H->
 c σ H λb H1=>if b=true then ∃N:St->Hp->Prop,(∀σ' H',N σ' H'->∃m',m' < m/\W m' σ' H')/\tb { D with nx:=N,ct:=N,bk:=D.nx } σ H1 else D.nx σ H1
theorem Xk {c:Expr}{body:List Stmt}{tc:TT}{tb:TS}(hp:PassesOwn (model X.prog X.w) X.A X.env X.xe)(hc:PT X c tc)(hb:qP X body tb):PS X (.While c body [] pos) (T6 tc tb):=by
 intro pins s σ H D I h;obtain⟨W,⟨m0,w0⟩,turn⟩:=h;refine wpAny_While (codeAny_whileLoop (λn s'=>∃σ' H',Inv X pins σ' H' s'/\W n σ' H') ?_ m0 ⟨σ,H,I,w0⟩);rintro n s1 ⟨σ1,H1,I1,w1⟩;refine wpAny_passesOwn hp (bG (hc pins s1 σ1 H1 _ I1 (turn n σ1 H1 w1)) λb s2 ⟨H2,I2,q2⟩=>?_);cases b with
 | true=>
  obtain⟨N,hN,q2⟩:=q2;rw[if_pos rfl];refine wpAny_passesOwn hp (bG (hb pins s2 σ1 H2 _ I2 q2) λf s3 q3=>?_);cases f with
  | next=>
   obtain⟨σ3,H3,I3,n3⟩:=q3;obtain⟨m',hm,w3⟩:=hN σ3 H3 n3;exact⟨m',hm,σ3,H3,I3,w3⟩
  | cont=>
   obtain⟨σ3,H3,I3,n3⟩:=q3;obtain⟨m',hm,w3⟩:=hN σ3 H3 n3;exact⟨m',hm,σ3,H3,I3,w3⟩
  | brk=>exact q3
  | ret v=>exact q3
 | false=>
  rw[if_neg Bool.false_ne_true];exact wpAny_execs_nil ⟨σ1,H2,I2,q2⟩
end
structure It where
 go:Nat->Hp->Prop
 nZ:Nat->Hp->V->Hp->Prop
 stop:Nat->Hp->Prop
def mD (X:Cx)(pins:List (Addr × Obj))(H:Hp)(b:Addr):Prop:=
 H b=none/\b≠X.env.locals/\b∉X.fs/\(b∈X.ex\/X.s₀.heap.objs.size<=b)/\(∀x c,X.env.cells.lookup x=some c->c≠b)/\∀p∈X.pn++pins,p.1≠b
theorem Inv.Gv {X:Cx}{pins:List (Addr × Obj)}{σ:St}{H H':Hp}{s:Shared}{b:Addr}(I:Inv X pins σ H s)(hb:s.heap.objs.size<=b)(hn:H' b=none):mD X pins H' b:=by
 refine⟨hn,Nat.ne_of_gt (Nat.lt_of_lt_of_le I.lt hb),I.aeD hb,.inr (Nat.le_trans I.sz hb),λx c e z=>?_,λp hp z=>?_⟩
 ·obtain⟨v,q⟩:=I.cell x c e
  exact absurd (Nat.lt_of_lt_of_le q.lt (by rw[z];exact hb)) (Nat.lt_irrefl _)
 ·exact absurd (Nat.lt_of_lt_of_le (Heap.lt_size (I.pin p hp).1) (by rw[z];exact hb)) (Nat.lt_irrefl _)
structure Turn (P:Program)(w:World)(K:PySem.W.Frag)(tg:Expr)(J:It)(fp:List Addr)(it:Addr)(tn:Nat->Heap->Prop):Prop where
 mem:it∈fp
 obj:∀i h,tn i h->∀b∈fp,∃o,h.get? b=some o/\∀v,o.data≠.cell v
 keep:∀i h h',tn i h->(∀b∈fp,∀o,h.get? b=some o->h'.get? b=some o)->tn i h'
 item:∀(X:Cx),X.prog=P->X.w=w->X.K=K->X.calm=true->∀(i:Nat) (pins:List (Addr × Obj)) (s:Shared) (σ:St) (H:Hp) (E:Value->Shared->Prop),Inv X pins σ H s->(∀b∈fp,mD X pins H b)->tn i s.heap->J.go i H->
  wpAny (model P w) X.A (pyNext (.ref it)) (λr s1=>∃u,r=some u/\
   wpAny (model P w) X.A (letOwnedTupleGo tg (.ref it) u) (λ_ s2=>∃x H',Inv X pins σ H' s2/\RelV x u/\J.nZ i H x H'/\tn (i+1) s2.heap/\∀b∈fp,H' b=none) E s1) E s
 done:∀(X:Cx),X.prog=P->X.w=w->X.K=K->X.calm=true->∀(i:Nat) (pins:List (Addr × Obj)) (s:Shared) (σ:St) (H:Hp) (E:Value->Shared->Prop),Inv X pins σ H s->(∀b∈fp,mD X pins H b)->tn i s.heap->J.stop i H->
  wpAny (model P w) X.A (pyNext (.ref it)) (λr s1=>r=none/\Inv X pins σ H s1) E s
 self:∀(A:Around) (i:Nat) (s:Shared) (Q:Value->Shared->Prop) (E:Value->Shared->Prop),tn i s.heap->Q (.ref it) s->wpAny (model P w) A (pyIter (.ref it)) Q E s
abbrev TI:=St->Hp->(It->Hp->Prop)->Prop
def PIE (X:Cx)(pins:List (Addr × Obj))(σ:St)(tg:Expr)(R:It->Hp->Prop)(itv:Value)(s2:Shared):Prop:=
 ∃(it:Addr) (fp:List Addr) (tn:Nat->Heap->Prop) (J:It) (H':Hp),itv=.ref it/\Inv X pins σ H' s2/\Turn X.prog X.w X.K tg J fp it tn/\tn 0 s2.heap/\(∀b∈fp,mD X pins H' b)/\R J H'
def PI (X:Cx)(tg iter:Expr)(wi:TI):Prop:=
 ∀(pins:List (Addr × Obj)) (s:Shared) (σ:St) (H:Hp) (R:It->Hp->Prop),Inv X pins σ H s->wi σ H R->
  wpAny (model X.prog X.w) X.A (eval iter X.env) (λv s1=>wpAny (model X.prog X.w) X.A (pyIter v) (PIE X pins σ tg R) X.xe s1) X.xe s
theorem J_ {M : Model}{A : Around}{E : Value -> Shared -> Prop}{s : Shared}{tg : Expr}{it : Addr}{u : Value}{o : Obj}{n : String}{vs : Array Value}{Q : Unit -> Shared -> Prop}(ho : s.heap.get? it = some o)(hc : o.cls = .type n)(hd : o.data = .fields vs)
    (hn : ["enumerate", "zip", "dict_itemiterator", "dict_reverseitemiterator", "odict_iterator", "itertools.zip_longest", "itertools.pairwise"].contains n = false) (hQ : Q () s) : wpAny M A (letOwnedTupleGo tg (.ref it) u) Q E s := by
  unfold letOwnedTupleGo;cases tg <;> first
    | exact wpAny_pure hQ
    | (cases u <;> first
        | exact wpAny_pure hQ
        | (refine wpAny_bind (wpAny_load ho ?_)
           rw[hc, hd];show wpAny M A (if (["enumerate", "zip", "dict_itemiterator", "dict_reverseitemiterator", "odict_iterator", "itertools.zip_longest", "itertools.pairwise"].contains n&&vs[0]? == some (rawInt _)) = true then _ else _) Q E s;rw[if_neg (by intro h; rw[hn, Bool.false_and]at h; cases h)];exact wpAny_pure hQ))
def tX (K:PySem.W.Frag)(a:Addr):It:=
 ⟨λi H=>∃xs x,aN K H a xs/\xs[i]?=some x,λi H x H'=>H'=H/\∀xs,aN K H a xs->xs[i]?=some x,λi H=>∃xs,aN K H a xs/\xs.length<=i⟩
def tY (K:PySem.W.Frag)(a:Addr):It:=
 ⟨λi H=>∃xs x,aK K H a xs/\xs[i]?=some x,λi H x H'=>H'=H/\∀xs,aK K H a xs->xs[i]?=some x,λi H=>∃xs,aK K H a xs/\xs.length<=i⟩
def BR (lo:Int)(n:Nat):It:=⟨λi _=>i < n,λi H x H'=>H'=H/\x=.int (lo+i),λi _=>n<=i⟩
theorem T7 {P:Program}{w:World}{K:PySem.W.Frag}{tg:Expr}(a it:Addr):Turn P w K tg (tX K a) [it] it (λi h=>h.IsListIter it a i) where
 mem:=by simp
 obj:=λi h st b hb=>by
  have e:b=it:=by simpa using hb
  subst e;obtain⟨o,e,c,d⟩:=st;exact⟨o,e,λv z=>by rw[d]at z;cases z⟩
 keep:=λi h h' st k=>st.at λo e=>k it (by simp) o e
 item:=by
  intro X hP hw hK hc i pins s σ H E I hf st hg;subst hP hw hK;obtain⟨xs,x,hq,hx⟩:=hg;obtain⟨its,rv,p,hz⟩:=I.list hq;obtain⟨u,hu,ru⟩:=rv.get hx;obtain⟨f0,f1,f2,f3,f4,f5⟩:=hf it (by simp);refine wpAny_pyNext_list_item st p.isList (x:=u) (by simpa using hu) λh' st' sb=>?_;have I1:Inv X pins σ H { s with heap:=h' }:=I.turned (t':=s.toks) (λb o hb e=>(sb.2 b hb).trans e) f0 f1 f3 f4 f5;obtain⟨o,e,c,d⟩:=id st';exact⟨u,rfl,J_ (s:={ s with heap:=h' }) e c d (by decide) ⟨x,H,I1,ru,⟨rfl,λys hy=>by rw[I.Cr hy hq];exact hx⟩,st',λb hb=>(hf b hb).1⟩⟩
 done:=by
  intro X hP hw hK hc i pins s σ H E I hf st hg;subst hP hw hK;obtain⟨xs,hq,hx⟩:=hg;obtain⟨its,rv,p,hz⟩:=I.list hq;obtain⟨f0,f1,f2,f3,f4,f5⟩:=hf it (by simp);have hl:=rv.length;exact wpAny_pyNext_list_end (I.ok.hd hc) st p.isList (by simp;omega) λh' eb=>⟨rfl,I.turned (t':=s.toks) (λb o hb e=>eb b o hb e) f0 f1 f3 f4 f5⟩
 self:=λ_ _ _ _ _ st h=>wpAny_pyIter_listiter st h
theorem Rc {P:Program}{w:World}{K:PySem.W.Frag}{tg:Expr}(a it:Addr):Turn P w K tg (tY K a) [it] it (λi h=>h.IsTupleIter it a i) where
 mem:=by simp
 obj:=λi h st b hb=>by
  have e:b=it:=by simpa using hb
  subst e;obtain⟨o,e,c,d⟩:=st;exact⟨o,e,λv z=>by rw[d]at z;cases z⟩
 keep:=λi h h' st k=>st.at λo e=>k it (by simp) o e
 item:=by
  intro X hP hw hK hc i pins s σ H E I hf st hg;subst hP hw hK;obtain⟨xs,x,hq,hx⟩:=hg;obtain⟨its,rv,p,hz⟩:=I.tuple hq;obtain⟨u,hu,ru⟩:=rv.get hx;obtain⟨f0,f1,f2,f3,f4,f5⟩:=hf it (by simp);refine wpAny_pyNext_tuple_item st (show s.heap.IsTuple a its.toArray from p) (x:=u) (by simpa using hu) λh' st' sb=>?_;have I1:Inv X pins σ H { s with heap:=h' }:=I.turned (t':=s.toks) (λb o hb e=>(sb.2 b hb).trans e) f0 f1 f3 f4 f5;obtain⟨o,e,c,d⟩:=id st';exact⟨u,rfl,J_ (s:={ s with heap:=h' }) e c d (by decide) ⟨x,H,I1,ru,⟨rfl,λys hy=>by rw[I.TY hy hq];exact hx⟩,st',λb hb=>(hf b hb).1⟩⟩
 done:=by
  intro X hP hw hK hc i pins s σ H E I hf st hg;subst hP hw hK;obtain⟨xs,hq,hx⟩:=hg;obtain⟨its,rv,p,hz⟩:=I.tuple hq;obtain⟨f0,f1,f2,f3,f4,f5⟩:=hf it (by simp);have hl:=rv.length;exact wpAny_pyNext_tuple_end (I.ok.hd hc) st (show s.heap.IsTuple a its.toArray from p) (by simp;omega) λh' eb=>⟨rfl,I.turned (t':=s.toks) (λb o hb e=>eb b o hb e) f0 f1 f3 f4 f5⟩
 self:=λ_ _ _ _ _ st h=>wpAny_pyIter_tupleiter st h
theorem Rf {P:Program}{w:World}{K:PySem.W.Frag}{tg:Expr}(it:Addr)(lo:Int)(n:Nat):Turn P w K tg (BR lo n) [it] it (λi h=>IsRangeIter h it (lo+(i:Nat)*1) ((n:Int)-(i:Nat)) 1) where
 mem:=by simp
 obj:=λi h st b hb=>by
  have e:b=it:=by simpa using hb
  subst e;exact⟨_,st,λv z=>by
   have z':Data.fields _=Data.cell v:=z;cases z'⟩
 keep:=λi h h' st k=>k it (by simp) _ st
 item:=by
  intro X hP hw hK hc i pins s σ H E I hf st hg;subst hP hw hK;obtain⟨f0,f1,f2,f3,f4,f5⟩:=hf it (by simp);have W:=Walks.range (prog:=X.prog) (w:=X.w) (I.ok.hd hc) it lo 1 n;refine W.item i s _ _ hg st λv h' tk hv st' kk=>?_;obtain⟨t,rfl⟩:=hv;have I1:Inv X pins σ H { s with heap:=h',toks:=tk }:=I.turned (λb o hb e=>kk b o (by simpa using hb) e) f0 f1 f3 f4 f5;refine⟨_,rfl,J_ (s:={ s with heap:=h',toks:=tk }) (n:="range_iterator") st' rfl rfl (by decide) ⟨.int (lo+i),H,I1,⟨t,?_⟩,⟨rfl,rfl⟩,st',λb hb=>(hf b hb).1⟩⟩;rw[Int.mul_one]
 done:=by
  intro X hP hw hK hc i pins s σ H E I hf st hg;subst hP hw hK;obtain⟨f0,f1,f2,f3,f4,f5⟩:=hf it (by simp);exact wpAny_pyNext_range_end (I.ok.hd hc) st (by have:n<=i:=hg;omega) λh' eb=>⟨rfl,I.turned (t':=s.toks) (λb o hb e=>eb b o hb e) f0 f1 f3 f4 f5⟩
 self:=λ_ _ _ _ _ st h=>wpAny_pyIter_rangeiter st h
section
variable {X:Cx}{tg:Expr}
def ZD (K:PySem.W.Frag)(tl:TE):TI:=λσ H R=>tl σ H λx H1=>∃a,x=.ref a/\(∃xs,aN K H1 a xs)/\R (tX K a) H1
def acq (K:PySem.W.Frag)(tl:TE):TI:=λσ H R=>tl σ H λx H1=>∃a,x=.ref a/\(∃xs,aK K H1 a xs)/\R (tY K a) H1
theorem aav {l:Expr}{tl:TE}(hl:PE X l tl):PI X tg l (ZD X.K tl):=by
 intro pins s σ H R I h;refine bG (hl pins s σ H _ I h) λv s1 ⟨x,H1,I1,r1,q1⟩=>?_;obtain⟨a,e,⟨xs,hq⟩,q⟩:=q1;subst e;cases r1;obtain⟨its,rv,p,hz⟩:=I1.list hq;refine wpAny_pyIter_list p.isList ?_;refine⟨s1.heap.objs.size,[s1.heap.objs.size],_,_,H1,rfl,I1.kept (t':=s1.toks) λb o e=>Heap.get?_push_of_some _ e,T7 a _,⟨_,Heap.get?_push_size _ rfl,rfl,rfl⟩,λb hb=>?_,q⟩;have e:b=s1.heap.objs.size:=by simpa using hb
 subst e;exact I1.Gv (Nat.le_refl _) (I1.hok.fresh (Nat.le_refl _))
theorem acr {l:Expr}{tl:TE}(hl:PE X l tl):PI X tg l (acq X.K tl):=by
 intro pins s σ H R I h;refine bG (hl pins s σ H _ I h) λv s1 ⟨x,H1,I1,r1,q1⟩=>?_;obtain⟨a,e,⟨xs,hq⟩,q⟩:=q1;subst e;cases r1;obtain⟨its,rv,p,hz⟩:=I1.tuple hq;refine wpAny_pyIter_tuple (show s1.heap.IsTuple a its.toArray from p) ?_;refine⟨s1.heap.objs.size,[s1.heap.objs.size],_,_,H1,rfl,I1.kept (t':=s1.toks) λb o e=>Heap.get?_push_of_some _ e,Rc a _,⟨_,Heap.get?_push_size _ rfl,rfl,rfl⟩,λb hb=>?_,q⟩;have e:b=s1.heap.objs.size:=by simpa using hb
 subst e;exact I1.Gv (Nat.le_refl _) (I1.hok.fresh (Nat.le_refl _))
theorem Kr {pins:List (Addr × Obj)}{σ:St}{H:Hp}{s:Shared}{R:It->Hp->Prop}{E:Value->Shared->Prop}{lo hi:Int}{t u v:Tok}{tk:Nat}(I:Inv X pins σ H s)(h1:-(2^62)<=lo)(h2:lo < 2^62)(h3:-(2^62)<=hi)(h4:hi < 2^62)
  (q:R (BR lo (hi-lo).toNat) H):wpAny (model X.prog X.w) X.A (pyIter (.ref s.heap.objs.size)) (PIE X pins σ tg R) E { s with heap:=s.heap.push { cls:=.type "range",data:=.fields #[.int lo t,.int hi u,.int 1 v] },toks:=tk }:=by
 refine wpAny_pyIter_range (IsRange.new ..) (small_one h1 h2 h3 h4) ?_;have I1:Inv X pins σ H { s with heap:=s.heap.push { cls:=.type "range",data:=.fields #[.int lo t,.int hi u,.int 1 v] },toks:=tk }:=I.kept λb o e=>Heap.get?_push_of_some _ e;refine⟨(s.heap.push { cls:=.type "range",data:=.fields #[.int lo t,.int hi u,.int 1 v] }).objs.size,[(s.heap.push { cls:=.type "range",data:=.fields #[.int lo t,.int hi u,.int 1 v] }).objs.size],_,_,H,rfl,
  I1.kept (t':=tk) λb o e=>Heap.get?_push_of_some _ e,Rf _ lo (hi-lo).toNat,?_,λb hb=>?_,q⟩
 ·have e1:lo+((0:Nat):Int)*1=lo:=by simp
  have e2:(((hi-lo).toNat:Nat):Int)-((0:Nat):Int)=Builtin.Range.rangeSize lo hi 1:=by rw[rangeSize_one];split <;> omega
  show IsRangeIter _ _ (lo+((0:Nat):Int)*1) ((((hi-lo).toNat:Nat):Int)-((0:Nat):Int)) 1;rw[e1,e2];exact Heap.get?_push_size _ rfl
 ·have e:b=(s.heap.push { cls:=.type "range",data:=.fields #[.int lo t,.int hi u,.int 1 v] }).objs.size:=by simpa using hb
  subst e;exact I1.Gv (Nat.le_refl _) (I1.hok.fresh (Nat.le_refl _))
def ZF (ta:TA):TI:=λσ H R=>ta σ H λvs H1=>∃j:Int,vs=[.int j]/\-(2^62)<=j/\j < 2^62/\R (BR 0 j.toNat) H1
def ZG (ta:TA):TI:=λσ H R=>ta σ H λvs H1=>∃i j:Int,vs=[.int i,.int j]/\(-(2^62)<=i/\i < 2^62/\-(2^62)<=j/\j < 2^62)/\R (BR i (j-i).toNat) H1
theorem T8 {a:Expr}{ta:TA}{p pos:Pos}(hg:Gl X "range")(hm:X.mg "range"=none)(ha:PA X [a] ta)(hs:starEach [a] X.env=[(false,eval a X.env)]:=by rfl):PI X tg (.Call (.Name "range" p) [a] [] pos) (ZF ta):=by
 intro pins s σ H R I h;refine Call_ (vK I hg hm boot_range (PyProof.Rows.callWith_type1 (bG (ha pos pins s σ H _ I h) λus s1 ⟨vs,H1,I1,r1,q1⟩=>?_) hs rfl));obtain⟨j,e,q1,q2,q⟩:=q1;subst e;cases r1 with
 | cons r rr=>
  cases rr;obtain⟨t,rfl⟩:=r;exact call_range_1 (Kr I1 (by omega) (by omega) q1 q2 (by simpa using q))
theorem T9 {a b:Expr}{ta:TA}{p pos:Pos}(hg:Gl X "range")(hm:X.mg "range"=none)(ha:PA X [a,b] ta)(hs:starEach [a,b] X.env=[(false,eval a X.env),(false,eval b X.env)]:=by rfl)(hs2:starEach [b] X.env=[(false,eval b X.env)]:=by rfl) :
  PI X tg (.Call (.Name "range" p) [a,b] [] pos) (ZG ta):=by
 intro pins s σ H R I h;refine Call_ (vK I hg hm boot_range (PyProof.Rows.callWith_type1 (bG (ha pos pins s σ H _ I h) λus s1 ⟨vs,H1,I1,r1,q1⟩=>?_) (by rw[hs,hs2]) (by rw[hs2];rfl)));obtain⟨i,j,e,⟨q1,q2,q3,q4⟩,q⟩:=q1;subst e;cases r1 with
 | cons r rr=>
  cases rr with
  | cons r' rr=>
   cases rr;obtain⟨t,rfl⟩:=r;obtain⟨t',rfl⟩:=r';exact call_range_2 (Kr I1 q1 q2 q3 q4 q)
def acs (wi:TI)(g:TG)(tb:TS):TS:=λD σ H=>wi σ H λJ H1=>∃W:Nat->Nat->St->Hp->Prop,(∃m,W 0 m σ H1)/\∀i m σ H,W i m σ H->
 (J.stop i H/\D.nx σ H)\/(J.go i H/\∃N:St->Hp->Prop,(∀σ' H',N σ' H'->∃m',m' < m/\W (i+1) m' σ' H')/\∀x H',J.nZ i H x H'->g x σ H' λσ2 H2=>tb { D with nx:=N,ct:=N,bk:=D.nx } σ2 H2)
def rY (fp:List Addr)(h:Heap):List (Addr × Obj):=fp.filterMap λb=>(h.get? b).map λo=>(b,o)
theorem iW {fp:List Addr}{h:Heap}{b:Addr}{o:Obj}(hb:b∈fp)(e:h.get? b=some o):(b,o)∈rY fp h:=List.mem_filterMap.mpr ⟨b,hb,by rw[e];rfl⟩
theorem T_ {fp:List Addr}{h:Heap}{p:Addr × Obj}(hp:p∈rY fp h):p.1∈fp/\h.get? p.1=some p.2:=by
 obtain⟨b,hb,e⟩:=List.mem_filterMap.mp hp;cases q:h.get? b with
 | none=>rw[q]at e;cases e
 | some o=>
  rw[q]at e;have e':(b,o)=p:=Option.some.inj e;subst e';exact⟨hb,q⟩
theorem Inv.pinned {pins:List (Addr × Obj)}{σ:St}{H:Hp}{s:Shared}{fp:List Addr}(I:Inv X pins σ H s)(hf:∀b∈fp,mD X pins H b)(ho:∀b∈fp,∃o,s.heap.get? b=some o/\∀v,o.data≠.cell v):Inv X (pins++rY fp s.heap) σ H s:=
 I.Pj λp hp=>(List.mem_append.mp hp).elim (λz=>I.pin p (List.mem_append_right _ z)) λz=>by
  obtain⟨hb,e⟩:=T_ z;obtain⟨f0,f1,f2,_⟩:=hf p.1 hb;obtain⟨o,e',d⟩:=ho p.1 hb;rw[e]at e';cases e';exact⟨e,f0,f1,f2,d⟩
theorem Inv.jF {pins pl:List (Addr × Obj)}{σ:St}{H:Hp}{s:Shared}(I:Inv X (pins++pl) σ H s):Inv X pins σ H s:=I.Pj λp hp=>I.pin p (List.mem_append_right _ (List.mem_append_left _ hp))
theorem acu {iter:Expr}{body:List Stmt}{wi:TI}{g:TG}{tb:TS}{pos:Pos}(hp:PassesOwn (model X.prog X.w) X.A X.env X.xe)(hc:X.calm=true)(hi:PI X tg iter wi)(hg:PG X tg g)(hb:qP X body tb)
  (hs:∀x,foldedSetIterable iter X.env x=pure x:=by intro _;rfl):PS X (.For tg iter body [] pos) (acs wi g tb):=by
 intro pins s σ H D I h;refine wpAny_For (bG (hi pins s σ H _ I h) λv s1 h1=>bG h1 λitv s2 h2=>?_) hs;obtain⟨it,fp,tn,J,H2,e,I2,T,st2,f2,W,⟨m0,w0⟩,turn⟩:=h2;subst e;have stat:∀{H':Hp},(∀b∈fp,H' b=none)->∀b∈fp,mD X pins H' b:=λhn b hb=>⟨hn b hb,(f2 b hb).2⟩
 refine codeAny_forLoop_any (λn s'=>∃i σ' H',Inv X pins σ' H' s'/\tn i s'.heap/\(∀b∈fp,H' b=none)/\W i n σ' H') ?_ m0 ⟨0,σ,H2,I2,st2,λb hb=>(f2 b hb).1,w0⟩;rintro n s3 ⟨i,σ3,H3,I3,st3,fr3,w3⟩;rcases turn i n σ3 H3 w3 with⟨stop,qn⟩ | ⟨go,N,hN,step⟩
 ·refine wpAny_passesOwn hp (bG (T.done X rfl rfl rfl hc i pins s3 σ3 H3 X.xe I3 (stat fr3) st3 stop) λr s4 ⟨hr,I4⟩=>?_)
  subst hr;exact wpAny_execs_nil ⟨σ3,H3,I4,qn⟩
 ·refine wpAny_passesOwn hp (bG (T.item X rfl rfl rfl hc i pins s3 σ3 H3 X.xe I3 (stat fr3) st3 go) λr s4 ⟨u,hr,h4⟩=>?_)
  subst hr;refine wpAny_passesOwn hp (bG h4 λ_ s5 ⟨x,H5,I5,r5,y5,st5,fr5⟩=>?_);have Pk:=I5.pinned (stat fr5) (T.obj _ _ st5);refine wpAny_passesOwn hp (bG (hg _ s5 σ3 H5 x u _ Pk r5 (step x H5 y5)) λ_ s6 ⟨σ6,H6,I6,q6⟩=>?_);refine wpAny_passesOwn hp (bG (hb _ s6 σ6 H6 _ I6 q6) λf s7 q7=>?_);have again:∀{σ7:St} {H7:Hp},Inv X (pins++rY fp s5.heap) σ7 H7 s7->N σ7 H7->∃m,m < n/\∃i σ' H',Inv X pins σ' H' s7/\tn i s7.heap/\(∀b∈fp,H' b=none)/\W i m σ' H':=λ{σ7 H7} I7 n7=>by
   obtain⟨m',hm,w7⟩:=hN σ7 H7 n7;refine⟨m',hm,i+1,σ7,H7,I7.jF,T.keep _ _ _ st5 λb hb o e=>(I7.pin (b,o) (List.mem_append_right _ (List.mem_append_right _ (iW hb e)))).1,λb hb=>?_,w7⟩;obtain⟨o,e,d⟩:=T.obj _ _ st5 b hb;exact(I7.pin (b,o) (List.mem_append_right _ (List.mem_append_right _ (iW hb e)))).2.1
  cases f with
  | next=>obtain⟨σ7,H7,I7,n7⟩:=q7;exact again I7 n7
  | cont=>obtain⟨σ7,H7,I7,n7⟩:=q7;exact again I7 n7
  | brk=>obtain⟨σ7,H7,I7,q7⟩:=q7;exact⟨σ7,H7,I7.jF,q7⟩
  | ret v=>obtain⟨x7,σ7,H7,I7,r7,q7⟩:=q7;exact⟨x7,σ7,H7,I7.jF,r7,q7⟩
end
theorem oJ {K:PySem.W.Frag}{a:Addr}{xs:List V}{g:TG}{tb:TS}{D:Ends}{σ:St}{H:Hp}(Pv:Nat->St->Hp->Prop)(h0:Pv 0 σ H)(hl:∀i σ H,i<=xs.length->Pv i σ H->aN K H a xs)
  (hs:∀i x σ H,xs[i]?=some x->Pv i σ H->g x σ H λσ2 H2=>tb { D with nx:=Pv (i+1),ct:=Pv (i+1),bk:=D.nx } σ2 H2) (hd:∀σ H,Pv xs.length σ H->D.nx σ H) :
  ∃W:Nat->Nat->St->Hp->Prop,(∃m,W 0 m σ H)/\∀i m σ H,W i m σ H->
   ((tX K a).stop i H/\D.nx σ H)\/((tX K a).go i H/\∃N:St->Hp->Prop,(∀σ' H',N σ' H'->∃m',m' < m/\W (i+1) m' σ' H')/\∀x H',(tX K a).nZ i H x H'->g x σ H' λσ2 H2=>tb { D with nx:=N,ct:=N,bk:=D.nx } σ2 H2):=by
 refine⟨λi m σ H=>m=xs.length-i/\i<=xs.length/\Pv i σ H,⟨xs.length,by simp,Nat.zero_le _,h0⟩,?_⟩;rintro i m σ H ⟨rfl,hi,p⟩;have q:=hl i σ H hi p;by_cases hlt:i < xs.length
 ·refine .inr ⟨⟨xs,xs[i],q,by simp[hlt]⟩,Pv (i+1),λσ' H' p'=>⟨xs.length-(i+1),by omega,rfl,hlt,p'⟩,λx H' y=>?_⟩
  obtain⟨e,y⟩:=y;subst e;exact hs i x σ _ (y xs q) p
 ·have e:i=xs.length:=by omega
  subst e;exact .inl ⟨⟨xs,q,Nat.le_refl _⟩,hd σ H p⟩
theorem mU {K:PySem.W.Frag}{a:Addr}{xs:List V}{g:TG}{tb:TS}{D:Ends}{σ:St}{H:Hp}(Pv:Nat->St->Hp->Prop)(h0:Pv 0 σ H)(hl:∀i σ H,i<=xs.length->Pv i σ H->aK K H a xs)
  (hs:∀i x σ H,xs[i]?=some x->Pv i σ H->g x σ H λσ2 H2=>tb { D with nx:=Pv (i+1),ct:=Pv (i+1),bk:=D.nx } σ2 H2) (hd:∀σ H,Pv xs.length σ H->D.nx σ H) :
  ∃W:Nat->Nat->St->Hp->Prop,(∃m,W 0 m σ H)/\∀i m σ H,W i m σ H->
   ((tY K a).stop i H/\D.nx σ H)\/((tY K a).go i H/\∃N:St->Hp->Prop,(∀σ' H',N σ' H'->∃m',m' < m/\W (i+1) m' σ' H')/\∀x H',(tY K a).nZ i H x H'->g x σ H' λσ2 H2=>tb { D with nx:=N,ct:=N,bk:=D.nx } σ2 H2):=by
 refine⟨λi m σ H=>m=xs.length-i/\i<=xs.length/\Pv i σ H,⟨xs.length,by simp,Nat.zero_le _,h0⟩,?_⟩;rintro i m σ H ⟨rfl,hi,p⟩;have q:=hl i σ H hi p;by_cases hlt:i < xs.length
 ·refine .inr ⟨⟨xs,xs[i],q,by simp[hlt]⟩,Pv (i+1),λσ' H' p'=>⟨xs.length-(i+1),by omega,rfl,hlt,p'⟩,λx H' y=>?_⟩
  obtain⟨e,y⟩:=y;subst e;exact hs i x σ _ (y xs q) p
 ·have e:i=xs.length:=by omega
  subst e;exact .inl ⟨⟨xs,q,Nat.le_refl _⟩,hd σ H p⟩
theorem gk {lo:Int}{n:Nat}{g:TG}{tb:TS}{D:Ends}{σ:St}{H:Hp}(Pv:Nat->St->Hp->Prop)(h0:Pv 0 σ H)
  (hs:∀i σ H,i < n->Pv i σ H->g (.int (lo+i)) σ H λσ2 H2=>tb { D with nx:=Pv (i+1),ct:=Pv (i+1),bk:=D.nx } σ2 H2) (hd:∀σ H,Pv n σ H->D.nx σ H) :
  ∃W:Nat->Nat->St->Hp->Prop,(∃m,W 0 m σ H)/\∀i m σ H,W i m σ H->
   ((BR lo n).stop i H/\D.nx σ H)\/((BR lo n).go i H/\∃N:St->Hp->Prop,(∀σ' H',N σ' H'->∃m',m' < m/\W (i+1) m' σ' H')/\∀x H',(BR lo n).nZ i H x H'->g x σ H' λσ2 H2=>tb { D with nx:=N,ct:=N,bk:=D.nx } σ2 H2):=by
 refine⟨λi m σ H=>m=n-i/\i<=n/\Pv i σ H,⟨n,by simp,Nat.zero_le _,h0⟩,?_⟩;rintro i m σ H ⟨rfl,hi,p⟩;by_cases hlt:i < n
 ·refine .inr ⟨hlt,Pv (i+1),λσ' H' p'=>⟨n-(i+1),by omega,rfl,hlt,p'⟩,λx H' y=>?_⟩
  obtain⟨e,y⟩:=y;subst e y;exact hs i σ _ hlt p
 ·have e:i=n:=by omega
  subst e;exact .inl ⟨Nat.le_refl _,hd σ H p⟩
abbrev R2:=V->V->Hp->VK->Prop
def dX (X:Cx)(f:Value->Value->Sem Value)(r:R2):Prop:=
 ∀(pins:List (Addr × Obj)) (s:Shared) (σ:St) (H:Hp) (x y:V) (v u:Value) (Q:VK),Inv X pins σ H s->RelV x v->RelV y u->r x y H Q->
  wpAny (model X.prog X.w) X.A (f v u) (EP X pins σ Q) X.xe s
def ZJ (X:Cx)(f:Value->Sem Value)(r:V->Hp->VK->Prop):Prop:=
 ∀(pins:List (Addr × Obj)) (s:Shared) (σ:St) (H:Hp) (x:V) (v:Value) (Q:VK),Inv X pins σ H s->RelV x v->r x H Q->
  wpAny (model X.prog X.w) X.A (f v) (EP X pins σ Q) X.xe s
def gC (X:Cx)(f:Value)(r:List V->Hp->VK->Prop):Prop:=
 ∀(pins:List (Addr × Obj)) (s:Shared) (σ:St) (H:Hp) (xs:List V) (us:List Value) (Q:VK),Inv X pins σ H s->Vals xs us->r xs H Q->
  wpAny (model X.prog X.w) X.A (call f us) (EP X pins σ Q) X.xe s
def n6 (r:R2)(ta tb:TE):TE:=λσ H Q=>ta σ H λx H1=>tb σ H1 λy H2=>r x y H2 Q
def tUn (r:V->Hp->VK->Prop)(ta:TE):TE:=λσ H Q=>ta σ H λx H1=>r x H1 Q
def rI (C:Int->Int->Prop)(g:Int->Int->V):R2:=λx y H Q=>∃i j,x=.int i/\y=.int j/\C i j/\Q (g i j) H
def Em (g:Int->Int->V):R2:=λx y H Q=>∃i j,x=.int i/\y=.int j/\Q (g i j) H
def rU (g:Int->V):V->Hp->VK->Prop:=λx H Q=>∃i,x=.int i/\Q (g i) H
section
variable {X:Cx}{a b:Expr}{ta tb:TE}{pos:Pos}
theorem Xl (ha:PE X a ta)(hb:PE X b tb){pins:List (Addr × Obj)}{s:Shared}{σ:St}{H:Hp}{R:V->V->Hp->Prop}(I:Inv X pins σ H s)
  (h:ta σ H λx H1=>tb σ H1 λy H2=>R x y H2) {Q:Value->Shared->Prop} {f:Value->Value->Sem Value}
  (hf:∀v u s2 x y H2,Inv X pins σ H2 s2->RelV x v->RelV y u->R x y H2->wpAny (model X.prog X.w) X.A (f v u) Q X.xe s2) :
  wpAny (model X.prog X.w) X.A (eval a X.env) (λv s₁=>wpAny (model X.prog X.w) X.A (eval b X.env) (λu s₂=>wpAny (model X.prog X.w) X.A (f v u) Q X.xe s₂) X.xe s₁) X.xe s:=by
 refine bG (ha pins s σ H _ I h) λv s1 ⟨x,H1,I1,r1,q1⟩=>?_;refine bG (hb pins s1 σ H1 _ I1 q1) λu s2 ⟨y,H2,I2,r2,q2⟩=>?_;exact hf v u s2 x y H2 I2 r1 r2 q2
theorem ad9 {op:Operator}{r:R2}(ho:dX X (binaryOp op) r)(ha:PE X a ta)(hb:PE X b tb):PE X (.BinOp a op b pos) (n6 r ta tb):=by
 intro pins s σ H Q I h;exact wpAny_BinOp (Xl ha hb I h λv u s2 x y H2 I2 rx ry q=>ho pins s2 σ H2 x y v u Q I2 rx ry q)
theorem ad_ {op:UnaryOp}{r:V->Hp->VK->Prop}(ho:ZJ X (unaryOp op) r)(ha:PE X a ta):PE X (.UnaryOp op a pos) (tUn r ta):=by
 intro pins s σ H Q I h;exact UnaryOp_ (bG (ha pins s σ H _ I h) λv s1 ⟨x,H1,I1,r1,q1⟩=>ho pins s1 σ H1 x v Q I1 r1 q1)
theorem Ua {f:Value->Value->Sem Value}{C:Int->Int->Prop}{g:Int->Int->Int}
  (rule:∀(i j:Int) (t u:Tok) (s:Shared) (Q:Value->Shared->Prop) (E:Value->Shared->Prop),C i j->Q (.int (g i j) s.toks) { s with toks:=s.toks+1 }->wpAny (model X.prog X.w) X.A (f (.int i t) (.int j u)) Q E s) :
  dX X f (rI C λi j=>.int (g i j)):=by
 intro pins s σ H x y v u Q I rx ry h;obtain⟨i,j,rfl,rfl,hc,q⟩:=h;obtain⟨t,rfl⟩:=rx;obtain⟨t',rfl⟩:=ry;exact rule i j t t' s _ _ hc ⟨.int (g i j),H,I.tok _,⟨_,rfl⟩,q⟩
theorem acv {f:Value->Value->Sem Value}{g:Int->Int->Int}
  (rule:∀(i j:Int) (t u:Tok) (s:Shared) (Q:Value->Shared->Prop) (E:Value->Shared->Prop),Q (.int (g i j) s.toks) { s with toks:=s.toks+1 }->wpAny (model X.prog X.w) X.A (f (.int i t) (.int j u)) Q E s) :
  dX X f (Em λi j=>.int (g i j)):=by
 intro pins s σ H x y v u Q I rx ry h;obtain⟨i,j,rfl,rfl,q⟩:=h;obtain⟨t,rfl⟩:=rx;obtain⟨t',rfl⟩:=ry;exact rule i j t t' s _ _ ⟨.int (g i j),H,I.tok _,⟨_,rfl⟩,q⟩
theorem Rg {f:Value->Value->Sem Value}{g:Int->Int->Bool}
  (rule:∀(i j:Int) (t u:Tok) (s:Shared) (Q:Value->Shared->Prop) (E:Value->Shared->Prop),Q (.bool (g i j)) s->wpAny (model X.prog X.w) X.A (f (.int i t) (.int j u)) Q E s) :
  dX X f (Em λi j=>.bl (g i j)):=by
 intro pins s σ H x y v u Q I rx ry h;obtain⟨i,j,rfl,rfl,q⟩:=h;obtain⟨t,rfl⟩:=rx;obtain⟨t',rfl⟩:=ry;exact rule i j t t' s _ _ ⟨.bl (g i j),H,I,rfl,q⟩
def acw (i j:Int):Prop:=0 < j/\j < 1073741824
def aeG (i j:Int):Prop:=0<=j/\j<=1000000/\i.natAbs < 2^64
def Xm (i j:Int):Prop:=(-(2^64) < i/\i < 2^64)\/(-(2^64) < j/\j < 2^64)
theorem Xm.ok {i j:Int}(h:Xm i j):IntMulOk i j:=by
 rcases h with⟨h1,h2⟩ | ⟨h1,h2⟩
 ·exact .of_left (intBits_le_64 h1 h2)
 ·exact .of_right (intBits_le_64 h1 h2)
theorem b_:dX X (binaryOp .Add) (Em λi j=>.int (i+j)):=acv λ_ _ _ _ _ _ _ q=>add_int q
theorem gR:dX X (binaryOp .Sub) (Em λi j=>.int (i-j)):=acv λ_ _ _ _ _ _ _ q=>sub_int q
theorem j6:dX X (binaryOp .Mult) (rI Xm λi j=>.int (i*j)):=Ua λ_ _ _ _ _ _ _ hc q=>mul_int q hc.ok
theorem dJ:dX X (binaryOp .FloorDiv) (rI acw λi j=>.int (i/j)):=Ua λi j _ _ _ _ _ hc q=>by
 have h1:(0:Int) < j:=hc.1;have h2:j < 1073741824:=hc.2;exact floordiv_int (by omega) (by rw[Int.fdiv_eq_ediv_of_nonneg i (by omega)];exact q) (.inl (PyProof.noPylong_small (by omega)))
theorem cL:dX X (binaryOp .Mod) (rI (λ_ j=>0 < j) λi j=>.int (i%j)):=Ua λi j _ _ _ _ _ hc q=>by
 have h1:(0:Int) < j:=hc;exact mod_int' (by omega) (by rw[Int.fmod_eq_emod_of_nonneg i (by omega)];exact q)
theorem acy:dX X (binaryOp .Pow) (rI aeG λi j=>.int (i^j.toNat)):=Ua λ_ _ _ _ _ _ _ hc q=>pow_int_small hc.1 hc.2.1 hc.2.2 q
theorem unI {f:Value->Sem Value}{g:Int->Int}
  (rule:∀(i:Int) (t:Tok) (s:Shared) (Q:Value->Shared->Prop) (E:Value->Shared->Prop),Q (.int (g i) s.toks) { s with toks:=s.toks+1 }->wpAny (model X.prog X.w) X.A (f (.int i t)) Q E s) :
  ZJ X f (rU λi=>.int (g i)):=by
 intro pins s σ H x v Q I rx h;obtain⟨i,rfl,q⟩:=h;obtain⟨t,rfl⟩:=rx;exact rule i t s _ _ ⟨.int (g i),H,I.tok _,⟨_,rfl⟩,q⟩
theorem rZ:ZJ X (unaryOp .USub) (rU λi=>.int (-i)):=unI λ_ _ _ _ _ q=>neg_int q
end
def acz:V->V->Bool
 | .non,.non=>true | .non,.int _=>true | .int _,.non=>true | .non,.bl _=>true | .bl _,.non=>true | .non,.str _=>true | .str _,.non=>true
 | .int _,.int _=>true | .bl _,.bl _=>true | .str _,.str _=>true | .yN _,.yN _=>true
 | .int _,.str _=>true | .str _,.int _=>true | .bl _,.str _=>true | .str _,.bl _=>true
 | _,_=>false
def rEq:R2:=λx y H Q=>acz x y=true/\Q (.bl (decide (x=y))) H
def rNe:R2:=λx y H Q=>acz x y=true/\Q (.bl (!decide (x=y))) H
theorem Pn {i j:Int}:decide (V.int i=V.int j)=(i==j):=by
 rw[Bool.eq_iff_iff];simp
theorem Ub {i j:Bool}:decide (V.bl i=V.bl j)=(i==j):=by
 rw[Bool.eq_iff_iff];simp
theorem Pq {i j:Str}:decide (V.str i=V.str j)=(i==j):=by
 rw[Bool.eq_iff_iff];simp
theorem Pr {i j:Array UInt8}:decide (V.yN i=V.yN j)=(i.toList==j.toList):=by
 rw[Bool.eq_iff_iff];cases i;cases j;simp
section
variable {X:Cx}{a b c:Expr}{ta tb tc:TE}{pos:Pos}
theorem cG {pins:List (Addr × Obj)}{σ:St}{H:Hp}{s:Shared}{Q:VK}{k k':Bool}(I:Inv X pins σ H s)(q:Q (.bl k) H)(e:k=k'):EP X pins σ Q (.bool k') s:=by
 subst e;exact⟨.bl k,H,I,rfl,q⟩
theorem jr:dX X (compareOp .Eq) rEq:=by
 intro pins s σ H x y v u Q I rx ry h;obtain⟨hs,q⟩:=h;cases x with
 | non=>
  cases rx;cases y with
  | non=>cases ry;exact PySem.EqNone.eq_none_none (cG I q (by simp))
  | bl j=>cases ry;exact PySem.EqNone.eq_none_bool (cG I q (by simp))
  | int j=>obtain⟨t',rfl⟩:=ry;exact PySem.EqNone.eq_none_int (cG I q (by simp))
  | str j=>obtain⟨t',rfl⟩:=ry;exact PySem.EqNone.eq_none_str (cG I q (by simp))
  | _=>exact absurd (show false=true from hs) Bool.false_ne_true
 | bl i=>
  cases rx;cases y with
  | non=>cases ry;exact PySem.EqNone.eq_bool_none (cG I q (by simp))
  | bl j=>cases ry;exact eq_bool (cG I q Ub)
  | str j=>obtain⟨t',rfl⟩:=ry;exact PySem.EqMixed.eq_bool_str (cG I q (by simp))
  | _=>exact absurd (show false=true from hs) Bool.false_ne_true
 | int i=>
  obtain⟨t,rfl⟩:=rx;cases y with
  | non=>cases ry;exact PySem.EqNone.eq_int_none (cG I q (by simp))
  | int j=>obtain⟨t',rfl⟩:=ry;exact eq_int (cG I q Pn)
  | str j=>obtain⟨t',rfl⟩:=ry;exact PySem.EqMixed.eq_int_str (cG I q (by simp))
  | _=>exact absurd (show false=true from hs) Bool.false_ne_true
 | str i=>
  obtain⟨t,rfl⟩:=rx;cases y with
  | non=>cases ry;exact PySem.EqNone.eq_str_none (cG I q (by simp))
  | bl j=>cases ry;exact PySem.EqMixed.eq_str_bool (cG I q (by simp))
  | int j=>obtain⟨t',rfl⟩:=ry;exact PySem.EqMixed.eq_str_int (cG I q (by simp))
  | str j=>obtain⟨t',rfl⟩:=ry;exact eq_str (cG I q Pq)
  | _=>exact absurd (show false=true from hs) Bool.false_ne_true
 | yN i=>
  obtain⟨t,rfl⟩:=rx;cases y with
  | yN j=>obtain⟨t',rfl⟩:=ry;exact PySem.W.eq_bytes (cG I q Pr)
  | _=>exact absurd (show false=true from hs) Bool.false_ne_true
 | _=>cases y <;> exact absurd (show false=true from hs) Bool.false_ne_true
theorem pD:dX X (compareOp .NotEq) rNe:=by
 intro pins s σ H x y v u Q I rx ry h;obtain⟨hs,q⟩:=h;cases x with
 | non=>
  cases rx;cases y with
  | non=>cases ry;exact PySem.EqNone.ne_none_none (cG I q (by simp))
  | bl j=>cases ry;exact PySem.EqNone.ne_none_bool (cG I q (by simp))
  | int j=>obtain⟨t',rfl⟩:=ry;exact PySem.EqNone.ne_none_int (cG I q (by simp))
  | str j=>obtain⟨t',rfl⟩:=ry;exact PySem.EqNone.ne_none_str (cG I q (by simp))
  | _=>exact absurd (show false=true from hs) Bool.false_ne_true
 | bl i=>
  cases rx;cases y with
  | non=>cases ry;exact PySem.EqNone.ne_bool_none (cG I q (by simp))
  | bl j=>cases ry;exact ne_bool (cG I q (congrArg not Ub))
  | str j=>obtain⟨t',rfl⟩:=ry;exact PySem.EqMixed.ne_bool_str (cG I q (by simp))
  | _=>exact absurd (show false=true from hs) Bool.false_ne_true
 | int i=>
  obtain⟨t,rfl⟩:=rx;cases y with
  | non=>cases ry;exact PySem.EqNone.ne_int_none (cG I q (by simp))
  | int j=>obtain⟨t',rfl⟩:=ry;exact ne_int (cG I q (congrArg not Pn))
  | str j=>obtain⟨t',rfl⟩:=ry;exact PySem.EqMixed.ne_int_str (cG I q (by simp))
  | _=>exact absurd (show false=true from hs) Bool.false_ne_true
 | str i=>
  obtain⟨t,rfl⟩:=rx;cases y with
  | non=>cases ry;exact PySem.EqNone.ne_str_none (cG I q (by simp))
  | bl j=>cases ry;exact PySem.EqMixed.ne_str_bool (cG I q (by simp))
  | int j=>obtain⟨t',rfl⟩:=ry;exact PySem.EqMixed.ne_str_int (cG I q (by simp))
  | str j=>obtain⟨t',rfl⟩:=ry;exact ne_str (cG I q (congrArg not Pq))
  | _=>exact absurd (show false=true from hs) Bool.false_ne_true
 | yN i=>
  obtain⟨t,rfl⟩:=rx;cases y with
  | yN j=>obtain⟨t',rfl⟩:=ry;exact PySem.W.ne_bytes (cG I q (congrArg not Pr))
  | _=>exact absurd (show false=true from hs) Bool.false_ne_true
 | _=>cases y <;> exact absurd (show false=true from hs) Bool.false_ne_true
theorem jt:dX X (compareOp .Lt) (Em λi j=>.bl (decide (i < j))):=Rg λ_ _ _ _ _ _ _ q=>lt_int q
theorem ju:dX X (compareOp .LtE) (Em λi j=>.bl (decide (i<=j))):=Rg λ_ _ _ _ _ _ _ q=>le_int q
theorem Rh:dX X (compareOp .Gt) (Em λi j=>.bl (decide (j < i))):=Rg λ_ _ _ _ _ _ _ q=>gt_int q
theorem Ri:dX X (compareOp .GtE) (Em λi j=>.bl (decide (j<=i))):=Rg λ_ _ _ _ _ _ _ q=>ge_int q
theorem Uc:dX X (compareOp .In) (λx y H Q=>∃i j,x=.str i/\y=.str j/\Q (.bl (!(Builtin.Str.occurrences j i 0 j.length 1).isEmpty)) H):=by
 intro pins s σ H x y v u Q I rx ry h;obtain⟨i,j,rfl,rfl,q⟩:=h;obtain⟨t,rfl⟩:=rx;obtain⟨t',rfl⟩:=ry;exact in_str (cG I q rfl)
theorem En:dX X (compareOp .Is) (λx y H Q=>y=.non/\Q (.bl (decide (x=.non))) H):=by
 intro pins s σ H x y v u Q I rx ry h;obtain⟨rfl,q⟩:=h;cases ry;refine is_none_gen (cG I q ?_);cases x <;> first
  | (cases rx;rfl)
  | (obtain⟨t,rfl⟩:=rx;rfl)
theorem aaw:dX X (compareOp .IsNot) (λx y H Q=>y=.non/\Q (.bl (!decide (x=.non))) H):=by
 intro pins s σ H x y v u Q I rx ry h;obtain⟨rfl,q⟩:=h;cases ry;refine isnot_none_gen (cG I q ?_);cases x <;> first
  | (cases rx;rfl)
  | (obtain⟨t,rfl⟩:=rx;rfl)
theorem aY (b:Expr){op:CmpOp}(h:op≠.In:=by decide)(h2:op≠.NotIn:=by decide):behindInMarks op b=false:=by
 have e1:(op==CmpOp.In)=false:=by cases op <;> first | rfl | exact absurd rfl h
 have e2:(op==CmpOp.NotIn)=false:=by cases op <;> first | rfl | exact absurd rfl h2
 cases b <;> simp[behindInMarks,e1,e2]
theorem aax {op:CmpOp}{r:R2}(ho:dX X (compareOp op) r)(ha:PE X a ta)(hb:PE X b tb)(hm:behindInMarks op b=false):PE X (.Compare a [op] [b] pos) (n6 r ta tb):=by
 intro pins s σ H Q I h;exact wpAny_Compare1 (Xl ha hb I h λv u s2 x y H2 I2 rx ry q=>ho pins s2 σ H2 x y v u Q I2 rx ry q) hm
def wF (t:TE):TT:=λσ H Q=>t σ H λx H'=>∃k,x=.bl k/\Q k H'
theorem aay {op:CmpOp}{r:R2}(ho:dX X (compareOp op) r)(ha:PE X a ta)(hb:PE X b tb)(hm:behindInMarks op b=false):PT X (.Compare a [op] [b] pos) (wF (n6 r ta tb)):=by
 intro pins s σ H Q I h;refine wpAny_isTrue_Compare1 (bG (ha pins s σ H _ I h) λv s1 ⟨x,H1,I1,r1,q1⟩=>bG (hb pins s1 σ H1 _ I1 q1) λu s2 ⟨y,H2,I2,r2,q2⟩=>
  bG (ho pins s2 σ H2 x y v u _ I2 r1 r2 q2) λc s3 ⟨z,H3,I3,r3,k,e,q3⟩=>?_) hm
 subst e;cases r3;exact wpAny_truthy_bool ⟨H3,I3,q3⟩
def yV (r r':R2)(ta tb tc:TE):TE:=λσ H Q=>ta σ H λx H1=>tb σ H1 λy H2=>r x y H2 λz H3=>∃k,z=.bl k/\
 (if k=true then tc σ H3 λw' H4=>r' y w' H4 Q else Q (.bl false) H3)
theorem Xn {op op':CmpOp}{r r':R2}(ho:dX X (compareOp op) r)(ho':dX X (compareOp op') r')(ha:PE X a ta)(hb:PE X b tb)(hc:PE X c tc)
  (hm:lastMarks [op,op'] [b,c]=false:=by with_unfolding_all rfl):PE X (.Compare a [op,op'] [b,c] pos) (yV r r' ta tb tc):=by
 intro pins s σ H Q I h;refine Compare_chain (bG (ha pins s σ H _ I h) λv s1 ⟨x,H1,I1,r1,q1⟩=>chain_link (bG (hb pins s1 σ H1 _ I1 q1) λu s2 ⟨y,H2,I2,r2,q2⟩=>
  bG (ho pins s2 σ H2 x y v u _ I2 r1 r2 q2) λd s3 ⟨z,H3,I3,r3,k,e,q3⟩=>?_)) hm
 subst e;cases r3;refine wpAny_truthy_bool ?_;cases k with
 | false=>exact ite_ff ⟨.bl false,H3,I3,rfl,q3⟩
 | true=>exact ite_tt (chain_last (bG (hc pins s3 σ H3 _ I3 q3) λw' s4 ⟨z',H4,I4,r4,q4⟩=>ho' pins s4 σ H4 y z' u w' Q I4 r2 r4 q4))
theorem Xo {op op':CmpOp}{r r':R2}(ho:dX X (compareOp op) r)(ho':dX X (compareOp op') r')(ha:PE X a ta)(hb:PE X b tb)(hc:PE X c tc)
  (hm:lastMarks [op,op'] [b,c]=false:=by with_unfolding_all rfl):PT X (.Compare a [op,op'] [b,c] pos) (wF (yV r r' ta tb tc)):=by
 intro pins s σ H Q I h;refine isTrue_chain (bG (ha pins s σ H _ I h) λv s1 ⟨x,H1,I1,r1,q1⟩=>test_link (bG (hb pins s1 σ H1 _ I1 q1) λu s2 ⟨y,H2,I2,r2,q2⟩=>
  bG (ho pins s2 σ H2 x y v u _ I2 r1 r2 q2) λd s3 ⟨z,H3,I3,r3,k,e,q3⟩=>?_)) hm
 subst e;cases r3;refine wpAny_truthy_bool ?_;cases k with
 | false=>
  obtain⟨k',e',q'⟩:=q3;cases e';exact ite_ff ⟨H3,I3,q'⟩
 | true=>
  refine ite_tt (test_last (bG (hc pins s3 σ H3 _ I3 q3) λw' s4 ⟨z',H4,I4,r4,q4⟩=>bG (ho' pins s4 σ H4 y z' u w' _ I4 r2 r4 q4) λd' s5 ⟨z2,H5,I5,r5,k2,e2,q5⟩=>?_));subst e2;cases r5;exact wpAny_truthy_bool ⟨H5,I5,q5⟩
theorem vL:(sizeLine:Nat) < 2^63:=by rw[sizeLine_eq];decide
theorem Rj:dX X (binaryOp .Add) (λx y H Q=>∃i j,x=.str i/\y=.str j/\i.length+j.length<=sizeLine/\Q (.str (i++j)) H):=by
 intro pins s σ H x y v u Q I rx ry h;obtain⟨i,j,rfl,rfl,hz,q⟩:=h;obtain⟨t,rfl⟩:=rx;obtain⟨t',rfl⟩:=ry;exact add_str (λt' tk=>⟨.str (i++j),H,I.tok _,⟨_,rfl⟩,q⟩) hz
theorem vals1 {x:V}{us:List Value}(r:Vals [x] us):∃u,us=[u]/\RelV x u:=by
 cases r with
 | cons r1 r2=>cases r2;exact⟨_,rfl,r1⟩
theorem vals2 {x y:V}{us:List Value}(r:Vals [x,y] us):∃u w',us=[u,w']/\RelV x u/\RelV y w':=by
 cases r with
 | cons r1 r2=>
  cases r2 with
  | cons r3 r4=>cases r4;exact⟨_,_,rfl,r1,r3⟩
theorem Ij:gC X (.type "int") (λxs H Q=>(∃i,xs=[.int i]/\Q (.int i) H)\/∃k,xs=[.bl k]/\Q (.int (if k then 1 else 0)) H):=by
 intro pins s σ H xs us Q I r h;rcases h with⟨i,rfl,q⟩ | ⟨k,rfl,q⟩
 ·obtain⟨u,rfl,t,rfl⟩:=vals1 r
  exact call_int_int ⟨.int i,H,I,⟨_,rfl⟩,q⟩
 ·obtain⟨u,rfl,r1⟩:=vals1 r
  cases r1;exact call_int_bool ⟨.int (if k then 1 else 0),H,I.tok _,⟨_,rfl⟩,q⟩
end
structure Cu (h:Heap)(x dx C:Addr)(mA:Str->Option Value):Prop where
 obj:h.get? x=some (PySem.W.instObj C dx)
 ns:h.Ns1 dx mA
 ne:dx≠x
theorem Ik {h:Heap}{dx:Addr}{mA:Str->Option Value}(n:h.Ns1 dx mA):∃od,h.get? dx=some od/\∀name,PySem.W.lookIn name od=some (mA name):=by
 obtain⟨o,es,ep,ho,hd,hk,_,hm⟩:=n;refine⟨o,ho,λname=>?_⟩;have e:=hm name;unfold nsFind findBy at e;rw[<- Array.find?_toList]at e;unfold PySem.W.lookIn;rw[hd];dsimp only
 split
 ·rename_i y q
  rw[q]at e;exact congrArg some e
 ·rename_i q
  rw[q]at e;have a:es.toList.any (·.refKey)=false:=by
   rw[List.any_eq_false];intro y hy;obtain⟨z,t,hkey⟩:=hk y (Array.mem_toList_iff.mp hy);simp[DictEntry.refKey,hkey]
  have a':¬es.toList.any (·.refKey)=true:=by rw[a];exact Bool.false_ne_true
  rw[if_neg a'];exact congrArg some e
theorem Cu.look {h:Heap}{x dx C:Addr}{mA:Str->Option Value}(I:Cu h x dx C mA):∃od,PySem.W.InstAt h x (PySem.W.instObj C dx) C (some od)/\∀name,PySem.W.lookIn name od=some (mA name):=
 let ⟨od,ho,hl⟩:=Ik I.ns
 ⟨od,⟨I.obj,rfl,rfl,ho⟩,hl⟩
section
variable {prog:Program}{w:World}{A:Around}{E:Value->Shared->Prop}{s:Shared}{K:PySem.W.Frag}{x dx C f:Addr}{mA:Str->Option Value}{name:Str}{v:Value}
theorem get_map {expr:Bool}{Q:Value->Shared->Prop}(X:K.In s.heap)(I:Cu s.heap x dx C mA)(hg:PySem.W.plainGet K C name=true)(hh:PySem.W.hasDictIn K C=true)
  (ha:PySem.W.findIn K (.ref C) name=some none) (hv:mA name=some v) (hv':PySem.W.handedIn v=true) (h:Q v { s with toks:=s.toks+1 }) :
  wpAny (model prog w) A (getAttr (.ref x) name expr) Q E s:=by
 obtain⟨od,J,hl⟩:=I.look;exact PySem.W.get_value X J (PySem.W.plainGet_of hg).1 (PySem.W.findObj_own hh ha rfl (by rw[hl,hv])) hv' h
theorem Xp {pl:Sem Bool}{Q:Value × List Value->Shared->Prop}(X:K.In s.heap)(I:Cu s.heap x dx C mA)(hg:PySem.W.plainGet K C name=true)
  (hf:PySem.W.findIn K (.ref C) name=some (some (.ref f))) (ht:PySem.W.isFn K (.ref f)=true) (hv:mA name=none) (h:Q (.ref f,[.ref x]) s) :
  wpAny (model prog w) A (getMethod (.ref x) name pl) Q E s:=by
 obtain⟨od,J,hl⟩:=I.look;exact PySem.W.method_fn X J (PySem.W.plainGet_of hg).1 (PySem.W.plainGet_of hg).2 hf (beq_iff_eq.mp ht) (by show (PySem.W.lookIn name od).map (·.isSome)=some false;rw[hl,hv];rfl) h
theorem aaz {ns:List Str}{Q:Unit->Shared->Prop}(X:K.In s.heap)(I:Cu s.heap x dx C mA)
  (hs:PySem.W.findIn K (.ref C) "__setattr__"=some (some (.builtin "object.__setattr__"))) (hp:PySem.W.plainOver K C=true) (ht:PySem.W.takerIn K C name=some none) (hh:PySem.W.hasDictIn K C=true)
  (hw:PySem.Within mA ns) (hsz:ns.length<=sizeLine)
  (h:∀h',Cu h' x dx C (λy=>if y=name then some v else mA y)->Heap.SameBut dx s.heap h'->Q () { s with heap:=h',toks:=s.toks+2 }) :
  wpAny (model prog w) A (setAttr (.ref x) name v) Q E s:=by
 obtain⟨od,J,hl⟩:=I.look;refine PySem.W.set_plain X J hs (PySem.W.osa_open (s:={ s with toks:=s.toks+1 }) (r:=none) X J hp ht λb=>?_);obtain⟨cd,hc,hd'⟩:=PySem.W.any_some hh;have hx:s.heap.get? x=some ⟨.ref C,some dx,.plain,#[]⟩:=I.obj;refine wpAny_bind (wpAny_pure (wpAny_bind (wpAny_bind (wpAny_loadPart hx (wpAny_bind (PySem.W.Looks.here (s:={ s with toks:=s.toks+1 }) (PySem.W.looks_clsIn X hc) ?_))))));rw[hd'];refine wpAny_pure (a:=some dx) (wpAny_bind (wpAny_pure (wpAny_bind ?_)));refine wpAny_nsSet1 (s:={ s with toks:=s.toks+1 }) I.ns λh' hn2 hs2=>?_;obtain⟨oD,esD,epD,hoD,hdD,hcD⟩:=hn2.count (PySem.Within.cons name v hw);refine wpAny_bind (wpAny_lookBehind hoD (by rw[hdD];exact pastItsLine_dict (Nat.le_trans hcD (by rw[List.length_cons];omega))) ?_);exact wpAny_pure (h _ ⟨(hs2.2 _ (Ne.symm I.ne)).trans I.obj,hn2,I.ne⟩ hs2)
theorem Xq {R:Result->Shared->Prop}{vs:List Value}{kw:List (Str × Value)}(X:K.In s.heap)(hm:PySem.W.makesIn K C=true)
  (hi:PySem.W.findIn K (.ref C) "__init__"=some (some (.ref f))) (hf:PySem.W.typeIn K (.ref f)=some (.type "function"))
  (h:codeAny (model prog w) (A.under (.builtin "type.__call__" ⟨.ref C::vs,kw⟩)) (.call (.ref f) ⟨.ref (s.heap.objs.size+1)::vs,kw⟩) (PySem.W.InitBack (s.heap.objs.size+1) R)
   { s with heap:=(s.heap.push PySem.W.emptyDict).push (PySem.W.instObj C s.heap.objs.size) }) :
  codeAny (model prog w) A (.call (.ref C) ⟨vs,kw⟩) R s:=by
 obtain⟨hh,g,d,t,os⟩:=s;exact PySem.W.make_core (PySem.W.makes_of X hm) (PySem.W.looks_findIn X hi) (λself=>PySem.W.bind_fn X self hf) (.inl rfl) h
end
def gM (f:Str)(v:V):List (Str × V)->List (Str × V)
 | []=>[(f,v)]
 | (g,x)::r=>if g=f then (g,v)::r else (g,x)::gM f v r
theorem uX (f g:Str)(v:V):∀fs:List (Str × V),(gM f v fs).lookup g=if g=f then some v else fs.lookup g
 | []=>by
  show List.lookup g [(f,v)]=_;by_cases h:g=f
  ·have hb:(g==f)=true:=beq_iff_eq.mpr h
   simp only[List.lookup,hb,if_pos h]
  ·have hb:(g==f)=false:=beq_eq_false_iff_ne.mpr h
   simp only[List.lookup,hb,if_neg h]
 | (k,x)::r=>by
  have ih:=uX f g v r;rw[show gM f v ((k,x)::r)=(if k=f then (k,v)::r else (k,x)::gM f v r) from rfl];by_cases hk:k=f
  ·rw[if_pos hk]
   by_cases h:g=k
   ·have hb:(g==k)=true:=beq_iff_eq.mpr h
    simp only[List.lookup,hb,if_pos (h.trans hk)]
   ·have hb:(g==k)=false:=beq_eq_false_iff_ne.mpr h
    simp only[List.lookup,hb,if_neg (λe:g=f=>h (e.trans hk.symm))]
  ·rw[if_neg hk]
   by_cases h:g=k
   ·have hb:(g==k)=true:=beq_iff_eq.mpr h
    simp only[List.lookup,hb,if_neg (λe:g=f=>hk (h.symm.trans e))]
   ·have hb:(g==k)=false:=beq_eq_false_iff_ne.mpr h
    simp only[List.lookup,hb];exact ih
theorem pX (f:Str)(v:V):∀fs:List (Str × V),f∈(gM f v fs).map (·.1)/\∀g,g∈fs.map (·.1)->g∈(gM f v fs).map (·.1)
 | []=>⟨by simp[gM],λg h=>by simp at h⟩
 | (k,x)::r=>by
  obtain⟨i1,i2⟩:=pX f v r;rw[show gM f v ((k,x)::r)=(if k=f then (k,v)::r else (k,x)::gM f v r) from rfl];by_cases hk:k=f
  ·rw[if_pos hk]
   subst hk;exact⟨by simp,λg h=>by simpa using h⟩
  ·rw[if_neg hk]
   refine⟨?_,λg h=>?_⟩
   ·rw[List.map_cons]
    exact List.mem_cons_of_mem _ i1
   ·rw[List.map_cons]at h ⊢
    rcases List.mem_cons.mp h with e | e
    ·exact List.mem_cons.mpr (.inl e)
    ·exact List.mem_cons_of_mem _ (i2 g e)
theorem uY (f:Str)(v:V):∀fs:List (Str × V),(gM f v fs).length<=fs.length+1
 | []=>by simp[gM]
 | (k,x)::r=>by
  have ih:=uY f v r;rw[show gM f v ((k,x)::r)=(if k=f then (k,v)::r else (k,x)::gM f v r) from rfl];by_cases hk:k=f
  ·rw[if_pos hk,List.length_cons,List.length_cons];omega
  ·rw[if_neg hk,List.length_cons,List.length_cons];omega
theorem jT.some_of {v:V}{o:Option Value}(r:jT (some v) o):∃u,o=some u/\RelV v u:=by
 cases o with
 | none=>exact(show False from r).elim
 | some u=>exact⟨u,rfl,r⟩
theorem jT.none_of {o:Option Value}(r:jT none o):o=none:=by
 cases o with
 | none=>rfl
 | some u=>exact(show False from r).elim
theorem Il {v:V}{u:Value}(r:RelV v u):PySem.W.handedIn u=true:=by
 cases v with
 | non=>cases(show u=Value.none from r);rfl
 | bl b=>cases(show u=Value.bool b from r);rfl
 | int i=>obtain⟨t,e⟩:=(show ∃t,u=Value.int i t from r);cases e;rfl
 | str x=>obtain⟨t,e⟩:=(show ∃t,u=Value.str x t from r);cases e;rfl
 | yN b=>obtain⟨t,e⟩:=(show ∃t,u=Value.bytes b t from r);cases e;rfl
 | flt b=>obtain⟨t,e⟩:=(show ∃t,u=Value.float b t from r);cases e;rfl
 | ref a=>cases(show u=Value.ref a from r);rfl
 | ty n=>cases(show u=Value.type n from r);rfl
section
variable {P:Program}{w:World}{H:Hp}{h:Heap}{a C dx:Addr}{fs:List (Str × V)}
theorem Bc (hok:iz P w H h)(e:H a=some (.ins C dx fs)):∃mA,Cu h a dx C mA/\(∀f,jT (fs.lookup f) (mA f))/\PySem.Within mA (fs.map (·.1))/\fs.length<=1000/\H dx=some (.own a):=by
 obtain⟨d,z,ne,ob,mA,n,r,q⟩:=(show dj P w H h a (.ins C dx fs) from hok a _ e)
 exact⟨mA,⟨ob,n,ne⟩,r,q,z,d⟩
end
structure Cls (K:PySem.W.Frag)(C:Addr):Prop where
 pg:PySem.W.plainGet K C Str.empty=true
 hd:PySem.W.hasDictIn K C=true
 po:PySem.W.plainOver K C=true
 sa:PySem.W.findIn K (.ref C) "__setattr__"=some (some (.builtin "object.__setattr__"))
theorem Cls.get {K:PySem.W.Frag}{C:Addr}(c:Cls K C)(f:Str):PySem.W.plainGet K C f=true:=c.pg
def lO (K:PySem.W.Frag)(C:Addr)(f:Str):Prop:=PySem.W.findIn K (.ref C) f=some none
theorem lO.taker {K:PySem.W.Frag}{C:Addr}{f:Str}(n:lO K C f):PySem.W.takerIn K C f=some none:=by
 unfold PySem.W.takerIn;rw[show PySem.W.findIn K (.ref C) f=some none from n];rfl
structure Con (K:PySem.W.Frag)(C:Addr)(f:Str)(v:V)(u:Value):Prop where
 at_:PySem.W.findIn K (.ref C) f=some (some u)
 rel:RelV v u
 get:PySem.W.specialIn K u "__get__"=some none
 cp:PySem.W.copiedNames.contains f=false
structure Meth (K:PySem.W.Frag)(C:Addr)(m:Str)(f:Addr):Prop where
 at_:PySem.W.findIn K (.ref C) m=some (some (.ref f))
 fn:PySem.W.isFn K (.ref f)=true
 kp:PySem.W.keepIn K (.ref f)=true
section
variable {X:Cx}{pins:List (Addr × Obj)}{σ:St}{H:Hp}{s:Shared}{a C dx:Addr}{fs:List (Str × V)}{f:Str}{v:V}{A:Around}{E:Value->Shared->Prop}
theorem Rk {b:Bool}{Q:Value->Shared->Prop}(I:Inv X pins σ H s)(e:H a=some (.ins C dx fs))(c:Cls X.K C)(n:lO X.K C f)(l:fs.lookup f=some v)
  (h:∀u s',Inv X pins σ H s'->RelV v u->Q u s'):wpAny (model X.prog X.w) A (getAttr (.ref a) f b) Q E s:=by
 obtain⟨mA,O,r,_,_,_⟩:=Bc I.hok e;obtain⟨u,hu,ru⟩:=jT.some_of (v:=v) (o:=mA f) (by rw[<- l];exact r f);exact get_map I.fJ O (c.get f) c.hd n hu (Il ru) (h u _ (I.tok _) ru)
theorem Eo {m:Str}{g:Addr}{pl:Sem Bool}{Q:Value × List Value->Shared->Prop}(I:Inv X pins σ H s)(e:H a=some (.ins C dx fs))(c:Cls X.K C)(k:Meth X.K C m g)(l:fs.lookup m=none)
  (h:Q (.ref g,[.ref a]) s):wpAny (model X.prog X.w) A (getMethod (.ref a) m pl) Q E s:=by
 obtain⟨mA,O,r,_,_,_⟩:=Bc I.hok e;have hn:mA m=none:=jT.none_of (by rw[<- l];exact r m);exact Xp I.fJ O (c.get m) k.at_ k.fn hn h
theorem Rm {y:V}{u:Value}{Q:Unit->Shared->Prop}(I:Inv X pins σ H s)(e:H a=some (.ins C dx fs))(c:Cls X.K C)(n:lO X.K C f)(hl:fs.length < 1000)(ry:RelV y u)
  (h:∀s',Inv X pins σ (upd H a (.ins C dx (gM f y fs))) s'->Q () s'):wpAny (model X.prog X.w) A (setAttr (.ref a) f u) Q E s:=by
 obtain⟨mA,O,r,wi,_,ho⟩:=Bc I.hok e;have hz:(fs.map (·.1)).length<=sizeLine:=by rw[List.length_map,sizeLine_eq];omega
 refine aaz I.fJ O c.sa c.po n.taker c.hd wi hz λh' O' sb=>h _ ?_;have hd:∃o,h'.get? dx=some o:=let ⟨o,_,_,e',_⟩:=O'.ns;⟨o,e'⟩
 refine I.write (x:=a) (e:=dx) (by rw[e];exact True.intro) (.inr ho) (λb q hb z=>(sb.2 b hb).trans z) hd ?_;refine⟨by rw[aP O.ne];exact ho,?_,O.ne,O'.obj,_,O'.ns,λg=>?_,λg hg=>?_⟩
 ·have:=uY f y fs;omega
 ·show jT ((gM f y fs).lookup g) (if g=f then some u else mA g)
  rw[uX];by_cases q:g=f
  ·rw[if_pos q,if_pos q];exact ry
  ·rw[if_neg q,if_neg q];exact r g
 ·by_cases q:g=f
  ·rw[q];exact(pX f y fs).1
  ·refine(pX f y fs).2 g (wi g λz=>hg ?_)
   show (if g=f then some u else mA g)=none;rw[if_neg q];exact z
theorem Inv.made (I:Inv X pins σ H s):Inv X pins σ (upd (upd H s.heap.objs.size (.own (s.heap.objs.size+1))) (s.heap.objs.size+1) (.ins C s.heap.objs.size []))
  { s with heap:=(s.heap.push PySem.W.emptyDict).push (PySem.W.instObj C s.heap.objs.size) }:=by
 have e1:(s.heap.push PySem.W.emptyDict).get? s.heap.objs.size=some PySem.W.emptyDict:=Heap.get?_push_size s.heap rfl;have e2:((s.heap.push PySem.W.emptyDict).push (PySem.W.instObj C s.heap.objs.size)).get? (s.heap.objs.size+1)=some (PySem.W.instObj C s.heap.objs.size):=by
  have:=Heap.get?_push_size (s.heap.push PySem.W.emptyDict) (o:=PySem.W.instObj C s.heap.objs.size) rfl
  rwa [Heap.size_push]at this
 have e3:(s.heap.push PySem.W.emptyDict).Ns s.heap.objs.size (λ_=>none):=⟨PySem.W.emptyDict,#[],_,e1,rfl,(λe he=>absurd he (by simp)),λ_=>rfl⟩
 have I1:=I.laid (a:=s.heap.objs.size) (o:=.own (s.heap.objs.size+1)) (h':=s.heap.push PySem.W.emptyDict) (t':=s.toks) (λb u q=>Heap.get?_push_of_some _ q) (Nat.le_refl _) ⟨_,e1⟩;refine I1.laid (a:=s.heap.objs.size+1) (o:=.ins C s.heap.objs.size []) (t':=s.toks) (λb u q=>Heap.get?_push_of_some _ q) (Nat.le_of_eq (Heap.size_push _ _)) ?_;have ne:s.heap.objs.size≠s.heap.objs.size+1:=Nat.ne_of_lt (Nat.lt_succ_self _);refine⟨by rw[aP ne,ao],Nat.zero_le _,ne,e2,λ_=>none,(Heap.Ns1.of_empty e3).at λo q=>Heap.get?_push_of_some _ q,λ_=>True.intro,λy hy=>absurd rfl hy⟩
theorem Pu {prog:Program}{w:World}{env:Env}{e:Expr}{f:Str}{pos:Pos}{s:Shared}{Q:Value->Shared->Prop}(hb:attributeBase e f env (eval e env)=eval e env)
  (h:wpAny (model prog w) A (eval e env) (λo s₁=>wpAny (model prog w) A (getAttr o f true) Q E s₁) E s):wpAny (model prog w) A (eval (.Attribute e f pos) env) Q E s:=
 Attribute_any_ h (by rw[arm_eval_Attribute,hb])
end
def acA (K:PySem.W.Frag)(ta:TE)(f:Str):TE:=λσ H Q=>ta σ H λx H1=>∃a C dx fs v,x=.ref a/\H1 a=some (.ins C dx fs)/\Cls K C/\lO K C f/\fs.lookup f=some v/\Q v H1
def acB (K:PySem.W.Frag)(ta tv:TE)(f:Str):TS:=λD σ H=>tv σ H λy H1=>ta σ H1 λx H2=>∃a C dx fs,x=.ref a/\H2 a=some (.ins C dx fs)/\Cls K C/\lO K C f/\fs.length < 1000/\
 D.nx σ (upd H2 a (.ins C dx (gM f y fs)))
section
variable {X:Cx}{o e value:Expr}{f:Str}{pos pos':Pos}{ta tv:TE}
theorem acC (he:PE X e ta)(hb:attributeBase e f X.env (eval e X.env)=eval e X.env):PE X (.Attribute e f pos) (acA X.K ta f):=by
 intro pins s σ H Q I h;refine Pu hb (bG (he pins s σ H _ I h) λu s1 ⟨x,H1,I1,rx,a,C,dx,fs,v,ex,ea,c,n,l,q⟩=>?_);subst ex;obtain rfl:u=Value.ref a:=rx;exact Rk I1 ea c n l λu' s2 I2 ru=>⟨v,H1,I2,ru,q⟩
theorem acD (ha:PE X o ta)(hv:PE X value tv)(hs:swapsWith value (some (.Attribute o f pos')) pos.line X.env=pure false):PS X (.Assign [.Attribute o f pos'] value pos) (acB X.K ta tv f):=by
 intro pins s σ H D I h;refine plainObj_wpAny_Assign_Attribute (bG (hv pins s σ H _ I h) λu s1 ⟨y,H1,I1,ry,q⟩=>bG (ha pins s1 σ H1 _ I1 q) λov s2 ⟨x,H2,I2,rx,a,C,dx,fs,ex,ea,c,n,l,q2⟩=>?_) hs;subst ex;obtain rfl:ov=Value.ref a:=rx;exact Rm I2 ea c n l ry λs3 I3=>⟨σ,_,I3,q2⟩
end
section
variable {X:Cx}{pins:List (Addr × Obj)}{σ:St}{H:Hp}{s:Shared}{A:Around}{E:Value->Shared->Prop}{Q:Value->Shared->Prop}{c:Value}{b:Bool}
inductive jy (K:PySem.W.Frag) (H:Hp):V->Value->Prop where
 | non:jy K H .non (.type "NoneType")
 | bl (x:Bool):jy K H (.bl x) (.type "bool")
 | int (i:Int):jy K H (.int i) (.type "int")
 | str (x:Str):jy K H (.str x) (.type "str")
 | flt (x:UInt64):jy K H (.flt x) (.type "float")
 | lst {a:Addr} {xs:List V} (e:H a=some (.lst xs)):jy K H (.ref a) (.type "list")
 | lM {a:Addr} {o:Obj} {xs:List V} (e:H a=some (.lM o (.lst xs))):jy K H (.ref a) (.type "list")
 | tup {a:Addr} {xs:List V} (e:H a=some (.tup xs)):jy K H (.ref a) (.type "tuple")
 | dK {a:Addr} {kvs:List (Key × V)} (e:H a=some (.dK kvs)):jy K H (.ref a) (.type "dict")
 | dT {a:Addr} {kvs:List (List Key × V)} (e:H a=some (.dT kvs)):jy K H (.ref a) (.type "dict")
 | ins {a C dx:Addr} {fs:List (Str × V)} (e:H a=some (.ins C dx fs)) (cl:Cls K C) (ha:PySem.W.findIn K (.ref C) "__class__"=some (some (.builtin "object.__class__")))
   (hn:PySem.W.specialIn K (.builtin "object.__class__") "__get__"=some (some (.builtin "getset_descriptor.__get__"))) (htk:PySem.W.takesIn K (.builtin "object.__class__")=some true)
   (hm:PySem.W.mroIn K C (.type "object")=some true):jy K H (.ref a) (.ref C)
theorem Ud {x:V}{u t:Value}(I:Inv X pins σ H s)(rx:RelV x u)(ty:jy X.K H x t)(e:PySem.W.kitOne X.K t c=some b)(h:∀tk,Q (.bool b) { s with toks:=tk }) :
  wpAny (model X.prog X.w) A (call (.builtin "isinstance") [u,c]) Q E s:=by
 cases ty with
 | non=>cases(show u=Value.none from rx);exact PySem.W.kia_one PySem.W.kitx_none I.fJ True.intro e (λz=>nomatch z) h
 | bl y=>cases(show u=Value.bool y from rx);exact PySem.W.kia_one PySem.W.kitx_bool I.fJ True.intro e (λz=>nomatch z) h
 | int i=>obtain⟨t,q⟩:=(show ∃t,u=Value.int i t from rx);cases q;exact PySem.W.kia_one PySem.W.kitx_int I.fJ True.intro e (λz=>nomatch z) h
 | str y=>obtain⟨t,q⟩:=(show ∃t,u=Value.str y t from rx);cases q;exact PySem.W.kia_one PySem.W.kitx_str I.fJ True.intro e (λz=>nomatch z) h
 | flt y=>obtain⟨t,q⟩:=(show ∃t,u=Value.float y t from rx);cases q;exact PySem.W.kia_one PySem.W.kitx_float I.fJ True.intro e (λz=>nomatch z) h
 | @lst a xs ea=>
  cases(show u=Value.ref a from rx);obtain⟨_,_,n,_,h1⟩:=(show dj X.prog X.w H s.heap a (.lst xs) from I.hok a _ ea)
  exact PySem.W.kia_one PySem.W.kitx_list I.fJ ⟨_,h1,rfl⟩ e (λz=>nomatch z) h
 | @lM a ob xs ea=>
  cases(show u=Value.ref a from rx);obtain⟨_,_,_,n,_,h1⟩:=(show dj X.prog X.w H s.heap a (.lM ob (.lst xs)) from I.hok a _ ea)
  exact PySem.W.kia_one PySem.W.kitx_list I.fJ ⟨_,h1,rfl⟩ e (λz=>nomatch z) h
 | @tup a xs ea=>
  cases(show u=Value.ref a from rx);obtain⟨_,_,_,p⟩:=(show dj X.prog X.w H s.heap a (.tup xs) from I.hok a _ ea)
  obtain⟨o,h1,h2,_⟩:=p;exact PySem.W.kia_one PySem.W.kitx_tuple I.fJ ⟨o,h1,h2⟩ e (λz=>nomatch z) h
 | @dK a kvs ea=>
  cases(show u=Value.ref a from rx);obtain⟨_,_,vs,_,p⟩:=(show dj X.prog X.w H s.heap a (.dK kvs) from I.hok a _ ea)
  obtain⟨o,es,ep,h1,h2,_⟩:=p;exact PySem.W.kia_one PySem.W.kitx_dict I.fJ ⟨o,h1,h2.1⟩ e (λz=>nomatch z) h
 | @dT a kvs ea=>
  cases(show u=Value.ref a from rx);obtain⟨_,_,xs,_,o,es,ep,h1,h2,_⟩:=(show dj X.prog X.w H s.heap a (.dT kvs) from I.hok a _ ea)
  exact PySem.W.kia_one PySem.W.kitx_dict I.fJ ⟨o,h1,h2.1⟩ e (λz=>nomatch z) h
 | @ins a C dx fs ea cl ha hn htk hm=>
  cases(show u=Value.ref a from rx);obtain⟨mA,O,_⟩:=Bc I.hok ea;obtain⟨od,J,_⟩:=O.look;exact PySem.W.kia_one (PySem.W.kitx_own (cl.get _) cl.hd ha hn htk hm) I.fJ J e (λz=>nomatch z) h
end
structure dw (k:Nat)(A:Around):Prop where
 hd:A.handled=none
 dp:A.depth+3*k+5 < recursionLimit
 un:A.units+16*k+200 < cLine
theorem dw.mono {j k:Nat}{A:Around}(r:dw k A)(h:j<=k):dw j A:=⟨r.hd,by have:=r.dp;omega,by have:=r.un;omega⟩
theorem dw.deeper {k:Nat}{A:Around}(r:dw (k+1) A)(env:Env):dw k (A.deeper env):=
 ⟨r.hd,by have:=r.dp;show A.depth+1+3*k+5 < _;omega,by have:=r.un;show A.units+3+16*k+200 < _;omega⟩
theorem Rn {A:Around}{C:Addr}{us:List Value}{kw:List (Str × Value)}:(A.under (.builtin "type.__call__" ⟨.ref C::us,kw⟩)).depth=A.depth+1:=by
 first | rfl | simp[Around.under,Code.weight,Code.isCreation,Code.isGuard,Code.isCaller,Code.frames,Code.isFrame,guardIds]
theorem Ro {A:Around}{C:Addr}{us:List Value}{kw:List (Str × Value)}:(A.under (.builtin "type.__call__" ⟨.ref C::us,kw⟩)).units=A.units+1:=by
 first | rfl | simp[Around.under,Code.cUnits,Code.frames,Code.isFrame]
theorem dw.make {k:Nat}{A:Around}(r:dw (k+1) A)(C:Addr)(us:List Value)(kw:List (Str × Value)):dw k (A.under (.builtin "type.__call__" ⟨.ref C::us,kw⟩)):=
 ⟨r.hd,by have:=r.dp;rw[Rn];omega,by have:=r.un;rw[Ro];omega⟩
theorem dw.depth {k:Nat}{A:Around}(r:dw k A):A.depth < recursionLimit:=by have:=r.dp;omega
theorem dw.units {k:Nat}{A:Around}(r:dw k A):A.units+64 < cLine:=by have:=r.un;omega
theorem dw.acE {k:Nat}{A:Around}(r:dw k A):A.units < cLine:=by have:=r.un;omega
def su:TA:=λ_ H Q=>Q [] H
def m8 (ta:TE)(tr:TA):TA:=λσ H Q=>ta σ H λx H1=>tr σ H1 λxs H2=>Q (x::xs) H2
section
variable {X:Cx}{e:Expr}{es:List Expr}{te:TE}{t:TA}{pos:Pos}
theorem acF:PA X [] su:=λ_ _ _ _ H Q I h=>Calls.spliced_nil ⟨[],H,I,.nil,h⟩
theorem aaA (ha:PE X e te)(hr:PA X es t)(hs:starEach (e::es) X.env=(false,eval e X.env)::starEach es X.env:=by rfl):PA X (e::es) (m8 te t):=by
 intro pos pins s σ H Q I h;rw[hs];show wpAny _ _ (spliced ((false,eval e X.env)::backTo pos (starEach es X.env))) _ _ s;refine Calls.spliced_cons (bG (ha pins s σ H _ I h) λu s1 ⟨x,H1,I1,r1,q1⟩=>?_);exact bG (hr pos pins s1 σ H1 _ I1 q1) λus s2 ⟨xs,H2,I2,r2,q2⟩=>⟨x::xs,H2,I2,.cons r1 r2,q2⟩
def acG (t:TA):TE:=λσ H Q=>t σ H λxs H1=>xs.length<=sizeLine/\∀p,H1 p=none->Q (.ref p) (upd H1 p (.tup xs))
def acH (t:TA):TE:=λσ H Q=>t σ H λxs H1=>xs.length<=sizeLine/\∀p,H1 p=none->Q (.ref p) (upd H1 p (.lst xs))
theorem acI {x1}(h:PA X es t):PE X (.Tuple es x1 pos) (acG t):=by
 intro pins s σ H Q I hq;refine wpAny_Tuple_spliced (bG (h pos pins s σ H _ I hq) λus s1 ⟨xs,H1,I1,r,z,q⟩=>⟨by rw[<- r.length];exact z,?_⟩);have hf:H1 s1.heap.objs.size=none:=I1.hok.fresh (Nat.le_refl _);refine⟨.ref s1.heap.objs.size,upd H1 s1.heap.objs.size (.tup xs),I1.laid (t':=s1.toks) (λb u e=>Heap.get?_push_of_some _ e) (Nat.le_refl _) ?_,rfl,q _ hf⟩;exact⟨z,us,r,⟨_,Heap.get?_push_size _ rfl,rfl,_,rfl⟩⟩
theorem acJ (h:PA X es t):PE X (.List es pos) (acH t):=by
 intro pins s σ H Q I hq;refine wpAny_List_spliced (bG (h pos pins s σ H _ I hq) λus s1 ⟨xs,H1,I1,r,z,q⟩=>⟨by rw[<- r.length];exact z,?_⟩);have hf:H1 s1.heap.objs.size=none:=I1.hok.fresh (Nat.le_refl _);refine⟨.ref s1.heap.objs.size,upd H1 s1.heap.objs.size (.lst xs),I1.laid (t':=s1.toks) (λb u e=>Heap.get?_push_of_some _ e) (Nat.le_refl _) ?_,rfl,q _ hf⟩;exact⟨z,us,0,r,Heap.get?_push_size _ rfl⟩
end
abbrev Sp:=List V->Hp->VK->XK->Prop
abbrev m9:=List Env->Hp->Shared->XK->Value->Shared->Prop
structure Cv (P:Program)(w:World)(K:PySem.W.Frag)(mg:Str->Option Value)(base:Heap)(A:Around)(outer:List Env)(s:Shared)(H:Hp):Prop where
 frames:A.frames=some outer
 mod:Mod K mg base
 bs:∀b o,base.get? b=some o->s.heap.get? b=some o/\H b=none
 qN:base.objs.size<=s.heap.objs.size
 lG:s.heap.FunFrames base outer
 yU:∀b∈frs outer,H b=none
 hok:iz P w H s.heap
 bare:AllBare s.gens
def CE (outer:List Env)(P:Program)(w:World)(H:Hp)(s:Shared)(Q:VK)(u:Value)(s':Shared):Prop:=
 ∃v H',s'.os=s.os/\AllBare s'.gens/\Un (frs outer) [] H H' s.heap s'.heap/\iz P w H' s'.heap/\RelV v u/\Q v H'
def CR (CX:m9)(outer:List Env)(P:Program)(w:World)(H:Hp)(s:Shared)(Q:VK)(E:XK)(r:Result)(s':Shared):Prop:=
 match r with
 | .ok (.ret u)=>CE outer P w H s Q u s'
 | .ok _=>False
 | .error e=>CX outer H s E e s'
structure cu (P:Program)(w:World)(K:PySem.W.Frag)(mg:Str->Option Value)(base:Heap)(CX:m9)(k:Nat)(f:Addr)(fd:FuncData)(ps:List Str)(sp:Sp):Prop where
 len:∀vs H Q E,sp vs H Q E->vs.length=ps.length
 run:∀(A:Around) (outer:List Env) (s:Shared) (H:Hp) (args:Args) (us:List Value) (vs:List V) (Q:VK) (E:XK),dw k A->Cv P w K mg base A outer s H->BindsTo s fd args (ps.zip us)->Vals vs us->sp vs H Q E->
  codeAny (model P w) A (.call (.ref f) args) (CR CX outer P w H s Q E) s
theorem Cv.make {P:Program}{w:World}{K:PySem.W.Frag}{mg:Str->Option Value}{base:Heap}{A:Around}{outer:List Env}{s:Shared}{H:Hp}(e:Cv P w K mg base A outer s H)(C:Addr)(us:List Value)(kw:List (Str × Value)) :
  Cv P w K mg base (A.under (.builtin "type.__call__" ⟨.ref C::us,kw⟩)) outer s H:=⟨by first | exact e.frames | (simpa [Around.under,Code.envs,Code.isFrame,pushEnvs] using e.frames),e.mod,e.bs,e.qN,e.lG,e.yU,e.hok,e.bare⟩
section
variable {X:Cx}{pins:List (Addr × Obj)}{σ:St}{H:Hp}{s s':Shared}
theorem Inv.env0 (I:Inv X pins σ H s):Cv X.prog X.w X.K X.mg X.base X.A X.stack s H:=
 ⟨I.ok.frames,I.ok.mod,I.bs,Nat.le_trans I.ok.qN I.sz,I.stack,I.oF,I.hok,I.bare⟩
theorem Inv.after {Q:VK}{u:Value}(I:Inv X pins σ H s)(h:CE X.stack X.prog X.w H s Q u s'):EP X pins σ Q u s':=by
 obtain⟨v,H',os,bare,un,hok,r,q⟩:=h;obtain⟨hh,g,d,t,os'⟩:=s';obtain rfl:os'=s.os:=os;exact⟨v,H',I.call (h':=hh) (g':=g) (d':=d) (t':=t) (ch:=[]) un hok bare (λb z=>absurd z (by simp)),r,q⟩
end
def Ka (sp:Sp)(iB:List V)(E:XK)(t:TA):TE:=λσ H Q=>t σ H λvs H1=>sp (vs++iB) H1 Q E
def Kc (C:Addr)(m:Str)(sp:Sp)(iB:List V)(E:XK)(ta:TE)(t:TA):TE:=λσ H Q=>ta σ H λx H1=>∃a dx fs,x=.ref a/\H1 a=some (.ins C dx fs)/\fs.lookup m=none/\
 t σ H1 λvs H2=>sp (x::(vs++iB)) H2 Q E
def ZK (C:Addr)(sp:Sp)(iB:List V)(E:XK)(t:TA):TE:=λσ H Q=>t σ H λvs H1=>∀x dx,H1 x=none->H1 dx=none->dx≠x->
 sp (.ref x::(vs++iB)) (upd (upd H1 dx (.own x)) x (.ins C dx [])) (λv H2=>v=.non/\Q (.ref x) H2) E
def Binds (K:PySem.W.Frag)(fd:FuncData)(ps:List Str)(ds:List Value):Prop:=
 ∀(s:Shared) (us:List Value),K.In s.heap->(us++ds).length=ps.length->BindsTo s fd ⟨us,[]⟩ (ps.zip (us++ds))
theorem Binds.all {K:PySem.W.Frag}{fd:FuncData}{ps:List Str}(h:∀us:List Value,us.length=ps.length->bindArgs fd ⟨us,[]⟩=pure (ps.zip us)):Binds K fd ps []:=λs us _ hl=>by
 rw[List.append_nil]at hl ⊢;exact .of_eq (h us hl)
def Passes (CX:m9)(X:Cx)(E:XK):Prop:=∀(pins:List (Addr × Obj)) (σ:St) (H:Hp) (s:Shared) (e:Value) (s':Shared),Inv X pins σ H s->CX X.stack H s E e s'->X.xe e s'
section
variable {X:Cx}{CX:m9}{k:Nat}{f C:Addr}{fd:FuncData}{ps:List Str}{sp:Sp}{iB:List V}{ds:List Value}{E:XK}{x m:Str}{p pos apos:Pos}{e o:Expr}{es:List Expr}{ta:TE}{t:TA}
theorem Ks {pins:List (Addr × Obj)}{σ:St}{H:Hp}{s:Shared}{Q:VK}{us:List Value}{vs:List V}(F:cu X.prog X.w X.K X.mg X.base CX k f fd ps sp)(hr:dw k X.A)(hb:Binds X.K fd ps ds)(hd:Vals iB ds)(hx:Passes CX X E)
  (I:Inv X pins σ H s) (r:Vals vs us) (h:sp (vs++iB) H Q E):wpAny (model X.prog X.w) X.A (call (.ref f) us) (EP X pins σ Q) X.xe s:=by
 have r2:Vals (vs++iB) (us++ds):=r.append hd;have hl:(us++ds).length=ps.length:=by rw[<- r2.length];exact F.len _ _ _ _ h
 refine wpAny_call (codeAny_mono (F.run X.A X.stack s H ⟨us,[]⟩ (us++ds) (vs++iB) Q E hr I.env0 (hb s us I.fJ hl) r2 h) λr s' hq=>?_);cases r with
 | error e=>exact hx pins σ H s e s' I hq
 | ok fl=>
  cases fl with
  | ret u=>exact I.after hq
  | next=>exact False.elim hq
  | brk=>exact False.elim hq
  | cont=>exact False.elim hq
theorem aaB (F:cu X.prog X.w X.K X.mg X.base CX k f fd ps sp)(hr:dw k X.A)(hg:Gl X x)(hm:X.mg x=some (.ref f))(hk:PySem.W.keepIn X.K (.ref f)=true)(hb:Binds X.K fd ps ds)(hd:Vals iB ds)(hx:Passes CX X E)
  (ha:PA X (e::es) t) (hdb:(x==("__debug__":Str))=false:=by decide) (he:starEach (e::es) X.env=(false,eval e X.env)::starEach es X.env:=by rfl) (hpl:(backTo pos (starEach es X.env)).any (·.1)=false:=by rfl) :
  PE X (.Call (.Name x p) (e::es) [] pos) (Ka sp iB E t):=by
 intro pins s σ H Q I h;refine wpAny_Call_Name_kw (mQ I hg hm ?_ hdb);refine PySem.W.callWith_K (h₀:=X.base) I.ok.mod.Ek hk (bG (ha pos pins s σ H _ I h) λus s1 ⟨vs,H1,I1,r,q⟩=>⟨I1.fJ,?_⟩) he hpl;exact Ks F hr hb hd hx I1 r q
theorem aaC {pl:Sem Bool}(he:PE X o ta)(c:Cls X.K C)(hm:Meth X.K C m f)(F:cu X.prog X.w X.K X.mg X.base CX k f fd ps sp)(hr:dw k X.A)(hb:Binds X.K fd ps ds)(hd:Vals iB ds)(hx:Passes CX X E)(ha:PA X (e::es) t)
  (hst:starEach (e::es) X.env=(false,eval e X.env)::starEach es X.env:=by rfl) (hpl:(backTo pos (starEach es X.env)).any (·.1)=false:=by rfl)
  (ht:eval (.Call (.Attribute o m apos) (e::es) [] pos) X.env=(do
   let ov <- eval o X.env
   standAt apos.atName
   let (f,first) <- holding [ov] (getMethod ov m pl)
   callWith pos f first (backTo pos (starEach (e::es) X.env)) (backToKw pos (keywordEach [] X.env))):=by rfl) :
  PE X (.Call (.Attribute o m apos) (e::es) [] pos) (Kc C m sp iB E ta t):=by
 intro pins s σ H Q I h;refine PySem.W.methodCall_KW (pl:=pl) (bG (he pins s σ H _ I h) λu s1 ⟨x,H1,I1,rx,a,dx,fs,ex,ea,l,q⟩=>?_) ht;subst ex;obtain rfl:u=Value.ref a:=rx;refine Eo I1 ea c hm l ?_;refine PySem.W.callWith_K (first:=[.ref a]) (h₀:=X.base) I.ok.mod.Ek hm.kp (bG (ha pos pins s1 σ H1 _ I1 q) λus s2 ⟨vs,H2,I2,r,q2⟩=>⟨I2.fJ,?_⟩) hst hpl;exact Ks (us:=.ref a::us) (vs:=.ref a::vs) F hr hb hd hx I2 (.cons rfl r) q2
theorem Xr {pl:Sem Bool}(he:PE X o ta)(c:Cls X.K C)(hm:Meth X.K C m f)(F:cu X.prog X.w X.K X.mg X.base CX k f fd ps sp)(hr:dw k X.A)(hb:Binds X.K fd ps ds)(hd:Vals iB ds)(hx:Passes CX X E)
  (ht:eval (.Call (.Attribute o m apos) [] [] pos) X.env=(do
   let ov <- eval o X.env
   standAt apos.atName
   let (f,first) <- holding [ov] (getMethod ov m pl)
   callWith pos f first (backTo pos (starEach [] X.env)) (backToKw pos (keywordEach [] X.env))):=by rfl) :
  PE X (.Call (.Attribute o m apos) [] [] pos) (Kc C m sp iB E ta su):=by
 intro pins s σ H Q I h;refine PySem.W.methodCall_KW (pl:=pl) (bG (he pins s σ H _ I h) λu s1 ⟨x,H1,I1,rx,a,dx,fs,ex,ea,l,q⟩=>?_) ht;subst ex;obtain rfl:u=Value.ref a:=rx;refine Eo I1 ea c hm l ?_;exact PySem.W.callWith_K0 (first:=[.ref a]) I1.fJ hm.kp (Ks (us:=[.ref a]) (vs:=[.ref a]) F hr hb hd hx I1 (.cons rfl .nil) q)
structure Mk (K:PySem.W.Frag)(C f:Addr):Prop where
 makes:PySem.W.makesIn K C=true
 init:PySem.W.findIn K (.ref C) "__init__"=some (some (.ref f))
 fn:PySem.W.isFn K (.ref f)=true
 kp:PySem.W.keepIn K (.ref C)=true
theorem Xu {pins:List (Addr × Obj)}{σ:St}{H:Hp}{s:Shared}{Q:VK}{us:List Value}{vs:List V}(M:Mk X.K C f)(F:cu X.prog X.w X.K X.mg X.base CX k f fd ps sp)(hr:dw (k+1) X.A)(hb:Binds X.K fd ps ds)(hd:Vals iB ds)
  (hx:Passes CX X E) (I:Inv X pins σ H s) (r:Vals vs us)
  (h:∀x dx,H x=none->H dx=none->dx≠x->sp (.ref x::(vs++iB)) (upd (upd H dx (.own x)) x (.ins C dx [])) (λv H2=>v=.non/\Q (.ref x) H2) E) :
  wpAny (model X.prog X.w) X.A (call (.ref C) us) (EP X pins σ Q) X.xe s:=by
 have hq:=h (s.heap.objs.size+1) s.heap.objs.size (I.hok.fresh (Nat.le_succ _)) (I.hok.fresh (Nat.le_refl _)) (Nat.ne_of_lt (Nat.lt_succ_self _));have I2:=Inv.made (C:=C) I;have r2:Vals (V.ref (s.heap.objs.size+1)::(vs++iB)) (Value.ref (s.heap.objs.size+1)::(us++ds)):=.cons rfl (r.append hd);have hl:(Value.ref (s.heap.objs.size+1)::us++ds).length=ps.length:=by
  have e:=r2.length;rw[F.len _ _ _ _ hq]at e;exact e.symm
 refine wpAny_call (Xq (f:=f) I.fJ M.makes M.init (beq_iff_eq.mp M.fn) (codeAny_mono (F.run _ X.stack _ _ ⟨Value.ref (s.heap.objs.size+1)::us,[]⟩ (Value.ref (s.heap.objs.size+1)::(us++ds)) _ _ E (hr.make C us [])
  (I2.env0.make C us []) (hb _ (Value.ref (s.heap.objs.size+1)::us) I2.fJ hl) r2 hq) λr s' hq'=>?_))
 cases r with
 | error e=>exact hx pins σ _ _ e s' I2 hq'
 | ok fl=>
  cases fl with
  | ret u=>
   obtain⟨v,H',I3,rv,ev,q3⟩:=I2.after hq';subst ev;exact⟨rv,⟨V.ref (s.heap.objs.size+1),H',I3,rfl,q3⟩⟩
  | next=>exact False.elim hq'
  | brk=>exact False.elim hq'
  | cont=>exact False.elim hq'
theorem aaD (M:Mk X.K C f)(F:cu X.prog X.w X.K X.mg X.base CX k f fd ps sp)(hr:dw (k+1) X.A)(hg:Gl X x)(hm:X.mg x=some (.ref C))(hb:Binds X.K fd ps ds)(hd:Vals iB ds)(hx:Passes CX X E)
  (ha:PA X (e::es) t) (hdb:(x==("__debug__":Str))=false:=by decide) (he:starEach (e::es) X.env=(false,eval e X.env)::starEach es X.env:=by rfl) (hpl:(backTo pos (starEach es X.env)).any (·.1)=false:=by rfl) :
  PE X (.Call (.Name x p) (e::es) [] pos) (ZK C sp iB E t):=by
 intro pins s σ H Q I h;refine wpAny_Call_Name_kw (mQ I hg hm ?_ hdb);refine PySem.W.callWith_K (h₀:=X.base) I.ok.mod.Ek M.kp (bG (ha pos pins s σ H _ I h) λus s1 ⟨vs,H1,I1,r,q⟩=>⟨I1.fJ,?_⟩) he hpl;exact Xu M F hr hb hd hx I1 r q
end
section
variable {fd:FuncData}{ps ks:List Str}
structure afc (K:PySem.W.Frag)(fd:FuncData)(ps ks:List Str)(g:List Value->List Value->List Value)(gV:List V->List V->List V):Prop where
 to:∀(s:Shared) (us ws:List Value),K.In s.heap->(g us ws).length=ps.length->BindsTo s fd ⟨us,ks.zip ws⟩ (ps.zip (g us ws))
 rel:∀{vs:List V} {us:List Value} {zs:List V} {ws:List Value},Vals vs us->Vals zs ws->Vals (gV vs zs) (g us ws)
end
structure aO (N P:List Str)(sc:Scope):Prop where
 kind:sc.kind=.function
 co:sc.isCoroutine=false
 gen:sc.isGenerator=false
 nd:N.Nodup
 pre:N.take P.length=P
 par:∀x∈P,sc.names.lookup x=some .local\/sc.names.lookup x=some .cell
 acK:∀y∈sc.names,y.2≠.free
theorem Im {kindOf:Str->Option NameKind}{x:Str}:∀{binds:List (Str × Value)} {m:Str->Option Value},(∀v,(x,v)∉binds)->bindL kindOf binds m x=m x
 | [],_,_=>rfl
 | (n,v)::r,m,h=>by
  unfold bindL;rw[Im λw hw=>h w (List.mem_cons_of_mem _ hw)]
  split
  ·have:x≠n:=by rintro rfl;exact h v List.mem_cons_self
   simp[this]
  ·rfl
theorem Io {kindOf:Str->Option NameKind}{x:Str}:∀{binds:List (Str × Value)} {m:Str->Option Value},(∀v,(x,v)∉binds)->bindC kindOf binds m x=m x
 | [],_,_=>rfl
 | (n,v)::r,m,h=>by
  unfold bindC;rw[Io λw hw=>h w (List.mem_cons_of_mem _ hw)]
  split
  ·rfl
  ·have:x≠n:=by rintro rfl;exact h v List.mem_cons_self
   simp[this]
theorem Ip {kindOf:Str->Option NameKind}{x:Str}{v:Value}:∀{P:List Str} {vs:List Value} {i:Nat} {m:Str->Option Value},P.Nodup->P[i]?=some x->vs[i]?=some v->kindOf x=some .local->
  bindL kindOf (P.zip vs) m x=some v
 | [],_,_,_,_,h,_,_=>by simp at h
 | _::_,[],_,_,_,_,h,_=>by simp at h
 | p::P,w::vs,0,m,nd,h1,h2,hk=>by
  simp at h1 h2;subst h1;subst h2;show bindL kindOf ((p,w)::P.zip vs) m p=_;unfold bindL;rw[Im λv hv=>(List.nodup_cons.mp nd).1 (List.of_mem_zip hv).1,if_pos hk];simp
 | p::P,w::vs,i+1,m,nd,h1,h2,hk=>by
  show bindL kindOf ((p,w)::P.zip vs) m x=_;unfold bindL;exact Ip (i:=i) (List.nodup_cons.mp nd).2 (by simpa using h1) (by simpa using h2) hk
theorem Ir {kindOf:Str->Option NameKind}{x:Str}{v:Value}:∀{P:List Str} {vs:List Value} {i:Nat} {m:Str->Option Value},P.Nodup->P[i]?=some x->vs[i]?=some v->kindOf x≠some .local->
  bindC kindOf (P.zip vs) m x=some v
 | [],_,_,_,_,h,_,_=>by simp at h
 | _::_,[],_,_,_,_,h,_=>by simp at h
 | p::P,w::vs,0,m,nd,h1,h2,hk=>by
  simp at h1 h2;subst h1;subst h2;show bindC kindOf ((p,w)::P.zip vs) m p=_;unfold bindC;rw[Io λv hv=>(List.nodup_cons.mp nd).1 (List.of_mem_zip hv).1,if_neg hk];simp
 | p::P,w::vs,i+1,m,nd,h1,h2,hk=>by
  show bindC kindOf ((p,w)::P.zip vs) m x=_;unfold bindC;exact Ir (i:=i) (List.nodup_cons.mp nd).2 (by simpa using h1) (by simpa using h2) hk
def start (N:List Str)(vs:List V):St:=vs.map some++List.replicate (N.length-vs.length) none
def oK (CX:m9)(P:Program)(w:World)(K:PySem.W.Frag)(mg:Str->Option Value)(base:Heap)(N:List Str)(qual:Str)(scope:Scope)(f:Addr)(cd:Value)(A:Around)(outer:List Env)(s:Shared)(H:Hp)(E:XK):Cx where
 prog:=P
 w:=w
 K:=K
 mg:=mg
 base:=base
 A:=A.deeper (envOfC qual scope s.heap.objs.size f cd)
 N:=N
 s₀:=s
 H₀:=H
 env:=envOfC qual scope s.heap.objs.size f cd
 outer:=outer
 stack:=envOfC qual scope s.heap.objs.size f cd::outer
 ex:=[]
 calm:=true
 fn:=λ_=>true
 pn:=[]
 xe:=λe s'=>wpAny (model P w) (A.deeper (envOfC qual scope s.heap.objs.size f cd)) (leaving (envOfC qual scope s.heap.objs.size f cd) e) (λ_ s''=>CX outer H s E e s'') (λe' s''=>CX outer H s E e' s'') s'
theorem Ku {sc:Scope}{n:Nat}{x:Str}(h:sc.names.lookup x=some .cell):∃c,(cellsFrom n sc.names []).lookup x=some c:=by
 have q:=PySem.W.cellsFrom_some sc.names n [] (.inl h);exact Option.isSome_iff_exists.mp q
theorem Ue {CX:m9}{P:Program}{w:World}{K:PySem.W.Frag}{mg:Str->Option Value}{base:Heap}{N ps:List Str}{qual:Str}{scope:Scope}{f:Addr}{cd:Value}{A:Around}{outer:List Env}{s s1:Shared}{H:Hp}{E:XK}{us:List Value}{vs:List V}
  (S:aO N ps scope) (hd:A.handled=none) (e0:Cv P w K mg base A outer s H) (hl:vs.length=ps.length) (r:Vals vs us)
  (x:InCallC s s.heap.objs.size (bindL (envOfC qual scope s.heap.objs.size f cd).kindOf (ps.zip us) λ_=>none) (cellsFrom (s.heap.objs.size+1) scope.names []) (bindC (envOfC qual scope s.heap.objs.size f cd).kindOf (ps.zip us) λ_=>none) s1) :
  Inv (oK CX P w K mg base N qual scope f cd A outer s H E) [] (start N vs) H s1:=by
 have hpl:ps.length<=N.length:=by have:=congrArg List.length S.pre;rw[List.length_take]at this;omega
 obtain⟨h1,tk,rfl,hk⟩:=x.done;have Ug:∀b:Addr,b∉(oK CX P w K mg base N qual scope f cd A outer s H E).ex:=λb z=>absurd (show b∈([]:List Addr) from z) (by simp);refine⟨⟨e0.mod,S.kind,rfl,rfl,Nat.le_refl _,λy z c h1 h2=>?_,λy hy=>?_,λy c _ h=>?_,λ_=>hd,Around.frames_deeper e0.frames,.inr ⟨rfl,rfl⟩,λb z=>absurd z (Ug b),e0.bs,e0.qN,λb _ _=>Ug b,λb z=>absurd z (Ug b),e0.lG,e0.yU⟩,
  rfl,e0.bare,Un.kept hk,⟨_,x.toInCall.ns,λi y v h1 h2 h3=>?_⟩,λy c h=>⟨_,x.cell y c h⟩,e0.hok.fresh (Nat.le_refl _),λy c h=>?_,λp hp=>absurd (show p∈([]:List (Addr × Obj)) from hp) (by simp),e0.hok.kept hk,?_⟩
 ·exact name_of_addr x.apart (PySem.mem_of_lookup h1) (PySem.mem_of_lookup h2)
 ·have hy:scope.names.lookup y=some .cell\/scope.names.lookup y=some .free:=hy
  rcases hy with hy | hy
  ·exact Ku hy
  ·exact absurd rfl (S.acK _ (PySem.mem_of_lookup hy))
 ·exact Nat.le_of_lt (x.above y c (PySem.mem_of_lookup h))
 ·have hi:i < vs.length:=by
   unfold start at h2;by_cases hi:i < vs.length
   ·exact hi
   ·rw[List.getElem?_append_right (by simpa using hi)]at h2
    rw[List.getElem?_replicate]at h2
    split at h2 <;> cases h2
  have ha:vs[i]?=some v:=by
   unfold start at h2;rw[List.getElem?_append_left (by simpa using hi),List.getElem?_map]at h2;cases e:vs[i]? with
   | none=>rw[e]at h2;cases h2
   | some a=>rw[e]at h2;cases h2;rfl
  obtain⟨u,hu,rv⟩:=r.get ha;have hp:ps[i]?=some y:=by
   rw[<- S.pre,List.getElem?_take_of_lt (by omega)];exact h1
  have ndP:ps.Nodup:=by rw[<- S.pre];exact S.nd.sublist (List.take_sublist _ _)
  refine⟨u,rv,?_⟩;rcases S.par y (List.mem_of_getElem? hp) with k | k
  ·exact .inl ⟨k,Ip ndP hp hu k⟩
  ·obtain⟨c,e⟩:=Ku (n:=s.heap.objs.size+1) k
   refine .inr ⟨.inl k,c,e,?_⟩;have q:=x.cell y c e;rw[Ir ndP hp hu (by show scope.names.lookup y≠_;rw[k];decide)]at q;exact q
 ·exact e0.hok.fresh (Nat.le_of_lt (x.above y c (PySem.mem_of_lookup h)))
 ·unfold start
  show _=N.length;rw[List.length_append,List.length_map,List.length_replicate];omega
theorem ZL {CX:m9}{P:Program}{w:World}{K:PySem.W.Frag}{mg:Str->Option Value}{base:Heap}{k:Nat}{f:Addr}{name qual:Str}{params:Arguments}{body:List Stmt}{scope:Scope}{dV kV doc pm cdv ct oc:Value}{an od:Option Addr}
  {osl:Array (Option Value)} {N ps:List Str} {sp:Sp} (lk:K.lookup f=some ⟨oc,od,.func (PySem.W.fnOf name qual params body scope dV kV doc pm an cdv ct),osl⟩) (hcd:PySem.W.codeIn K cdv qual=true) (S:aO N ps scope)
  (len:∀vs H Q E,sp vs H Q E->vs.length=ps.length)
  (hbody:∀(A:Around) (outer:List Env) (s:Shared) (H:Hp) (vs:List V) (Q:VK) (E:XK),dw k (A.deeper (envOfC qual scope s.heap.objs.size f cdv))->sp vs H Q E->
   ∃t,qP (oK CX P w K mg base N qual scope f cdv A outer s H E) body t/\t { nx:=λ_ H'=>Q .non H',rt:=Q } (start N vs) H) :
  cu P w K mg base CX (k+1) f (PySem.W.fnOf name qual params body scope dV kV doc pm an cdv ct) ps sp:=by
 refine⟨len,λA outer s H args us vs Q E hr e0 hb r hsp=>?_⟩;have hl:=len _ _ _ _ hsp;have KX:K.In s.heap:=e0.mod.Ek.keeps λb o e=>(e0.bs b o e).1;have lim:s.heap.NoLimit:=e0.mod.nolimit.keeps λb o e=>(e0.bs b o e).1;have hkind:∀y∈ps.zip us,scope.names.lookup y.1=some .local\/(scope.names.lookup y.1=some .cell/\((cellsFrom (s.heap.objs.size+1) scope.names []).lookup y.1).isSome=true):=λ⟨n,v⟩ hy=>by
  rcases S.par n (List.of_mem_zip hy).1 with q | q
  ·exact .inl q
  ·exact .inr ⟨q,PySem.W.cellsFrom_some _ _ _ (.inl q)⟩
 refine codeAny_call_function hr.depth (KX _ _ lk) rfl S.co S.gen rfl (PySem.W.codeRec_of KX hcd) (hb _ _ _ _ ?_);refine wpAny_newFunctionEnv_cells S.kind hkind λenv he s1 x=>?_;subst he;refine⟨lim.keeps x.toInCall.keep,codeAny_func ?_⟩;obtain⟨t,ht,hq⟩:=hbody A outer s H vs Q E (hr.deeper _) hsp;have I:Inv (oK CX P w K mg base N qual scope f cdv A outer s H E) [] (start N vs) H s1:=Ue S hr.hd e0 hl r x;refine wpAny_mono (ht [] s1 (start N vs) H _ I hq) (λfl s' hs=>?_) λe s' hs=>hs;have fin:∀{σ':St} {H':Hp} {v:V} {u:Value},Inv (oK CX P w K mg base N qual scope f cdv A outer s H E) [] σ' H' s'->RelV v u->Q v H'->CE outer P w H s Q u s':=
  λ{σ' H' v u} J rv q=>⟨v,H',J.os,J.bare,J.base,J.hok,rv,q⟩
 cases fl with
 | ret u=>
  obtain⟨v,σ',H',J,rv,q⟩:=hs;exact fin J rv q
 | next=>
  obtain⟨σ',H',J,q⟩:=hs;exact fin (v:=V.non) (u:=Value.none) J rfl q
 | brk=>
  obtain⟨_,_,_,q⟩:=hs;exact False.elim q
 | cont=>
  obtain⟨_,_,_,q⟩:=hs;exact False.elim q
section
variable {X:Cx}{x:Str}{p pos:Pos}{e:Expr}{es:List Expr}{t:TA}{id T:String}{r:List V->Hp->VK->Prop}
def Kv (r:List V->Hp->VK->Prop)(t:TA):TE:=λσ H Q=>t σ H λvs H1=>r vs H1 Q
theorem Xv (hc:gC X (.builtin id) r)(hg:Gl X x)(hm:X.mg x=none)(hv:bootBuiltins x=some (.builtin id))(ha:PA X (e::es) t)(hn:x≠"__name__":=by decide)(hdb:(x==("__debug__":Str))=false:=by decide)
  (he:starEach (e::es) X.env=(false,eval e X.env)::starEach es X.env:=by rfl) (hpl:(backTo pos (starEach es X.env)).any (·.1)=false:=by rfl):PE X (.Call (.Name x p) (e::es) [] pos) (Kv r t):=by
 intro pins s σ H Q I h;refine wpAny_Call_Name_kw (vK I hg hm hv ?_ hn hdb);exact PyProof.Rows.callWith_builtin1 (bG (ha pos pins s σ H _ I h) λus s1 ⟨vs,H1,I1,r1,q1⟩=>hc pins s1 σ H1 vs us Q I1 r1 q1) he hpl
theorem Uh (hc:gC X (.type T) r)(hg:Gl X x)(hm:X.mg x=none)(hv:bootBuiltins x=some (.type T))(ha:PA X (e::es) t)(hn:x≠"__name__":=by decide)(hdb:(x==("__debug__":Str))=false:=by decide)
  (he:starEach (e::es) X.env=(false,eval e X.env)::starEach es X.env:=by rfl) (hpl:(backTo pos (starEach es X.env)).any (·.1)=false:=by rfl):PE X (.Call (.Name x p) (e::es) [] pos) (Kv r t):=by
 intro pins s σ H Q I h;refine wpAny_Call_Name_kw (vK I hg hm hv ?_ hn hdb);exact PyProof.Rows.callWith_type1 (bG (ha pos pins s σ H _ I h) λus s1 ⟨vs,H1,I1,r1,q1⟩=>hc pins s1 σ H1 vs us Q I1 r1 q1) he hpl
end
end L2
namespace HT
open PySem PyProof.Rows
section
def fX (n d:Nat):Option Int->Nat
 | none=>d
 | some v=>if v < 0 then (v+(n:Int)).toNat else min v.toNat n
theorem Xw (n d:Nat):fX n d none=d:=rfl
theorem Gw (n d k:Nat):fX n d (some (k:Int))=min k n:=by
 show (if (k:Int) < 0 then ((k:Int)+(n:Int)).toNat else min (k:Int).toNat n)=min k n;rw[if_neg (by omega),Int.toNat_natCast]
theorem acL (n d:Nat)(hd:d<=n)(o:Option Int):fX n d o<=n:=by
 cases o with
 | none=>exact hd
 | some v=>
  show (if v < 0 then (v+(n:Int)).toNat else min v.toNat n)<=n;by_cases hv:v < 0
  ·rw[if_pos hv];omega
  ·rw[if_neg hv];exact Nat.min_le_right _ _
theorem aaE (v:Int)(n d:Nat):(if v < 0 then max (v+(n:Int)) 0 else min v (n:Int))=((fX n d (some v):Nat):Int):=by
 show (if v < 0 then max (v+(n:Int)) 0 else min v (n:Int))=(((if v < 0 then (v+(n:Int)).toNat else min v.toNat n):Nat):Int)
 by_cases hv:v < 0
 ·simp only[if_pos hv];omega
 ·simp only[if_neg hv];omega
end
end HT
namespace L2
open PySem PySem.Spec PyProof.Rows
abbrev TO:=St->Hp->(Option Int->Hp->Prop)->Prop
def PO (X:Cx)(e:Option Expr)(t:TO):Prop:=
 ∀(pins:List (Addr × Obj)) (s:Shared) (σ:St) (H:Hp) (Q:Option Int->Hp->Prop),Inv X pins σ H s->t σ H Q->
  wpAny (model X.prog X.w) X.A (evalPart e X.env) (λu s'=>∃o H',Inv X pins σ H' s'/\IsPart u o/\Q o H') X.xe s
def Px:TO:=λ_ H Q=>Q none H
def ZM (t:TE):TO:=λσ H Q=>t σ H λx H1=>∃i,x=.int i/\Q (some i) H1
section
variable {X:Cx}{e:Expr}{te:TE}{lo hi:Option Expr}{tl th:TO}{pos p2:Pos}
theorem aaF:PO X none Px:=by
 intro pins s σ H Q I h;rw[evalPart_none];exact wpAny_pure ⟨none,H,I,.none,h⟩
theorem aaG (h:PE X e te):PO X (some e) (ZM te):=by
 intro pins s σ H Q I hw;rw[evalPart_some];refine bG (h pins s σ H _ I hw) λu s1 ⟨x,H1,I1,r1,q1⟩=>?_;obtain⟨i,rfl,q⟩:=q1;obtain⟨t,rfl⟩:=r1;exact⟨some i,H1,I1,.int i t,q⟩
def ZP (X:Cx)(r:V->Option Int->Option Int->Hp->VK->Prop):Prop:=
 ∀(pins:List (Addr × Obj)) (s:Shared) (σ:St) (H:Hp) (x:V) (v vl vu:Value) (lo hi:Option Int) (sl:Addr) (Q:VK),Inv X pins σ H s->RelV x v->s.heap.IsSliceOf sl vl vu .none->IsPart vl lo->IsPart vu hi->r x lo hi H Q->
  ∃T id,typeLookup (.type T) "__getitem__"=pure (some (.builtin id))/\s.TypeIs v T/\wpAny (model X.prog X.w) X.A (getItem v (.ref sl)) (EP X pins σ Q) X.xe s
def tSl (r:V->Option Int->Option Int->Hp->VK->Prop)(te:TE)(tl th:TO):TE:=λσ H Q=>te σ H λx H1=>tl σ H1 λl H2=>th σ H2 λu H3=>r x l u H3 Q
theorem Xx {r:V->Option Int->Option Int->Hp->VK->Prop}(hr:ZP X r)(he:PE X e te)(hl:PO X lo tl)(hu:PO X hi th):PE X (.Subscript e (.Slice lo hi none p2) pos) (tSl r te tl th):=by
 intro pins s σ H Q I h;refine Subscript_ (bG (he pins s σ H _ I h) λv s1 ⟨x,H1,I1,r1,q1⟩=>?_);refine wpAny_Slice (bG (hl pins s1 σ H1 _ I1 q1) λvl s2 ⟨l,H2,I2,pl,q2⟩=>bG (hu pins s2 σ H2 _ I2 q2) λvu s3 ⟨u,H3,I3,pu,q3⟩=>?_);rw[evalPart_none];refine wpAny_pure ?_;have I4:Inv X pins σ H3 { s3 with heap:=s3.heap.push { cls:=.type "slice",data:=.fields #[vl,vu,.none] } }:=I3.kept (t':=s3.toks) λb ob q=>Heap.get?_push_of_some _ q;obtain⟨T,id,hT,ht,hg⟩:=hr pins { s3 with heap:=s3.heap.push { cls:=.type "slice",data:=.fields #[vl,vu,.none] } } σ H3 x v vl vu l u s3.heap.objs.size Q I4 r1 (Heap.IsSliceOf.new ..) pl pu q3;show wpAny (model X.prog X.w) X.A (subscriptTail e (.Slice lo hi none p2) v (.ref s3.heap.objs.size)) (EP X pins σ Q) X.xe { s3 with heap:=s3.heap.push { cls:=.type "slice",data:=.fields #[vl,vu,.none] } };exact tail_any (ops:=[.ref s3.heap.objs.size,v]) ht hT hg (by with_unfolding_all rfl)
def wG (xs:List V)(lo hi:Option Int):List V:=(xs.drop (HT.fX xs.length 0 lo)).take (HT.fX xs.length xs.length hi-HT.fX xs.length 0 lo)
theorem Ol (xs:List V)(lo hi:Option Int):(wG xs lo hi).length<=xs.length:=by
 unfold wG;rw[List.length_take,List.length_drop];omega
end
def yO (n:Nat)(i:Int):Option Nat:=if 0<=i then (if i < n then some i.toNat else none) else if -(n:Int)<=i then some (i+n).toNat else none
def mV {α:Type}(xs:List α)(i:Int):Option α:=(yO xs.length i).bind λj=>xs[j]?
theorem Py {n:Nat}{i:Int}{j:Nat}(h:yO n i=some j):seqIndex? i n=some j/\j < n/\-(n:Int)<=i/\i < n:=by
 unfold yO at h;by_cases h0:0<=i
 ·rw[if_pos h0]at h
  by_cases h1:i < n
  ·rw[if_pos h1]at h
   have e:i.toNat=j:=Option.some.inj h;exact⟨by rw[seqIndex_of h0 h1,e],by omega,by omega,h1⟩
  ·rw[if_neg h1]at h;cases h
 ·rw[if_neg h0]at h
  by_cases h1:-(n:Int)<=i
  ·rw[if_pos h1]at h
   have e:(i+n).toNat=j:=Option.some.inj h;exact⟨by rw[seqIndex_neg (by omega) h1,e],by omega,h1,by omega⟩
  ·rw[if_neg h1]at h;cases h
theorem Gx {α:Type}{xs:List α}{i:Int}{v:α}(h:mV xs i=some v):∃j,seqIndex? i xs.length=some j/\xs[j]?=some v/\j < xs.length/\-(xs.length:Int)<=i/\i < xs.length:=by
 unfold mV at h;cases e:yO xs.length i with
 | none=>rw[e]at h;cases h
 | some j=>
  rw[e]at h;obtain⟨h1,h2,h3,h4⟩:=Py e;exact⟨j,h1,h,h2,h3,h4⟩
theorem aF {α:Type}{xs:List α}{j:Nat}{v:α}(h:xs[j]?=some v):mV xs (j:Int)=some v:=by
 have hj:j < xs.length:=(List.getElem?_eq_some_iff.mp h).1;have e:yO xs.length (j:Int)=some j:=by
  unfold yO;rw[if_pos (by omega),if_pos (by omega)];simp
 unfold mV;rw[e];exact h
theorem Xy {α:Type}(xs:List α)(v:α):mV (xs++[v]) (-1)=some v:=by
 have hl:(xs++[v]).length=xs.length+1:=by simp
 have e:yO (xs++[v]).length (-1)=some xs.length:=by
  unfold yO;rw[hl,if_neg (by decide),if_pos (by omega)];congr 1;omega
 unfold mV;rw[e];show (xs++[v])[xs.length]?=some v;simp
def Pz (b:Expr):Prop:=∀o i,subscripted b false o i=operate [o,i] (getItem o i)
def Kw (X:Cx)(r:R2):Prop:=
 ∀(value slice:Expr) (pins:List (Addr × Obj)) (s:Shared) (σ:St) (H:Hp) (x y:V) (v u:Value) (Q:VK),Inv X pins σ H s->RelV x v->RelV y u->r x y H Q->
  subscripted slice false v u=operate [v,u] (getItem v u)->wpAny (model X.prog X.w) X.A (subscriptTail value slice v u) (EP X pins σ Q) X.xe s
def vM (X:Cx)(id:String)(r:V->List V->Hp->VK->Prop):Prop:=
 ∀(pins:List (Addr × Obj)) (s:Shared) (σ:St) (H:Hp) (x:V) (xs:List V) (v:Value) (us:List Value) (Q:VK),Inv X pins σ H s->RelV x v->Vals xs us->r x xs H Q->
  wpAny (model X.prog X.w) X.A (call (.builtin id) (v::us)) (EP X pins σ Q) X.xe s
section
variable {X:Cx}{a b:Expr}{ta tb:TE}{pos:Pos}
theorem aea {r:R2}(hr:Kw X r)(ha:PE X a ta)(hb:PE X b tb)(hs:Pz b):PE X (.Subscript a b pos) (n6 r ta tb):=by
 intro pins s σ H Q I h;exact Subscript_ (Xl ha hb I h λv u s2 x y H2 I2 rx ry q=>hr a b pins s2 σ H2 x y v u Q I2 rx ry q (hs _ _))
def acM (K:PySem.W.Frag):R2:=λx y H Q=>∃p xs i v,x=.ref p/\y=.int i/\aN K H p xs/\mV xs i=some v/\Q v H
def Ky (K:PySem.W.Frag):R2:=λx y H Q=>∃p xs i v,x=.ref p/\y=.int i/\aK K H p xs/\mV xs i=some v/\Q v H
def aeH:R2:=λx y H Q=>∃z i c,x=.str z/\y=.int i/\z.length<=sizeLine/\mV z.cps.toList i=some c/\Q (.str ⟨#[c]⟩) H
theorem d7:Kw X (acM X.K):=by
 intro value slice pins s σ H x y v u Q I rx ry h hs;obtain⟨p,xs,i,z,rfl,rfl,hq,he,q⟩:=h;cases rx;obtain⟨t,rfl⟩:=ry;obtain⟨its,r,pl,hz⟩:=I.list hq;obtain⟨j,h1,h2,h3,h4,h5⟩:=Gx he;obtain⟨w,ew,Ui⟩:=r.get h2;have hl:=r.length;have hn:=vL;have fin:EP X pins σ Q w s:=⟨z,H,I,Ui,q⟩
 by_cases h0:0<=i
 ·have hj:i.toNat=j:=by
   rw[seqIndex_of h0 h5]at h1;exact Option.some.inj h1
  exact item_listR pl.isList h0 (by omega) (by rw[hj];simpa using ew) fin hs
 ·have hj:(i+(its.toArray.size:Int)).toNat=j:=by
   rw[seqIndex_neg (by omega) h4]at h1;rw[List.size_toArray,<- hl];exact Option.some.inj h1
  exact subscriptTail_builtinR (x:=w) pl.isList.typeIs slot_list_getitem.lookup
   (wpAny_getItem_list_neg (Q:=λr s'=>r=w/\EP X pins σ Q r s') pl.isList (by omega) (by rw[List.size_toArray] <;> omega) (by omega) (by rw[hj];simpa using ew) ⟨rfl,fin⟩) hs
theorem aW:Kw X (Ky X.K):=by
 intro value slice pins s σ H x y v u Q I rx ry h hs;obtain⟨p,xs,i,z,rfl,rfl,hq,he,q⟩:=h;cases rx;obtain⟨t,rfl⟩:=ry;obtain⟨its,r,pl,hz⟩:=I.tuple hq;obtain⟨j,h1,h2,h3,h4,h5⟩:=Gx he;obtain⟨w,ew,Ui⟩:=r.get h2;have hl:=r.length;have hn:=vL;have fin:EP X pins σ Q w s:=⟨z,H,I,Ui,q⟩
 exact subscriptTail_builtinR (x:=w) pl.typeIs slot_tuple_getitem.lookup
  (getItem_tuple (j:=j) (Q:=λr s'=>r=w/\EP X pins σ Q r s') pl (by omega) (by omega) (by rw[List.size_toArray,<- hl];exact h1) (by simpa using ew) ⟨rfl,fin⟩) hs
theorem acN:Kw X aeH:=by
 intro value slice pins s σ H x y v u Q I rx ry h hs;obtain⟨z,i,c,rfl,rfl,hz,he,q⟩:=h;obtain⟨t,rfl⟩:=rx;obtain⟨t',rfl⟩:=ry;obtain⟨j,h1,h2,h3,h4,h5⟩:=Gx he;have hl:z.cps.toList.length=z.length:=by simp[Str.length]
 rw[hl]at h1 h4 h5;have hn:=vL;exact tail_any (typeIs_str s z t) slot_str_getitem.lookup (getItem_str (c:=c) (by
  have e1:decide (i < -(2^63:Int))=false:=decide_eq_false (by omega);have e2:decide (i>=2^63)=false:=decide_eq_false (by omega);rw[e1,e2,Bool.or_false]) (by rw[h1];simpa using h2) ⟨.str ⟨#[c]⟩,H,I.tok _,⟨_,rfl⟩,q⟩) hs
theorem Rp (its:List Value)(n j:Nat)(u:Value):Obj.mapSeq (·.setIfInBounds j u) { cls:=.type "list",data:=.seq its.toArray n }={ cls:=.type "list",data:=.seq (its.set j u).toArray n }:=by
 simp[Obj.mapSeq]
theorem Inv.lst {pins:List (Addr × Obj)}{σ:St}{H:Hp}{s:Shared}{p:Addr}{xs:List V}(I:Inv X pins σ H s)(h:H p=some (.lst xs)) :
  ∃(its:List Value) (n:Nat),Vals xs its/\s.heap.get? p=some { cls:=.type "list",data:=.seq its.toArray n }/\xs.length<=sizeLine:=by
 obtain⟨z,its,n,r,e⟩:=I.hok p _ h;exact⟨its,n,r,e,z⟩
theorem Inv.acO {pins:List (Addr × Obj)}{σ:St}{H:Hp}{s:Shared}{p:Addr}{xs ys:List V}{its its':List Value}{n n':Nat}{f:Obj->Obj}(I:Inv X pins σ H s)(h:H p=some (.lst xs))
  (ho:s.heap.get? p=some { cls:=.type "list",data:=.seq its.toArray n }) (hf:f { cls:=.type "list",data:=.seq its.toArray n }={ cls:=.type "list",data:=.seq its'.toArray n' }) (r:Vals ys its') (hz:ys.length<=sizeLine) (t:Nat) :
  Inv X pins σ (upd H p (.lst ys)) { s with heap:=s.heap.update p f,toks:=t }:=by
 have e:(s.heap.update p f).get? p=some { cls:=.type "list",data:=.seq its'.toArray n' }:=by
  rw[Heap.get?_update_self f ho (by rw[hf] <;> rfl),hf]
 refine I.write (x:=p) (e:=p) (by rw[h];trivial) (.inl rfl) (λb u hb q=>(Heap.get?_update_other _ _ (Ne.symm hb)).trans q) ⟨_,e⟩ ?_;exact⟨hz,its',n',r,e⟩
def aeb:V->V->V->Hp->(Hp->Prop)->Prop:=λo i v H Q=>∃p xs k j,o=.ref p/\i=.int k/\H p=some (.lst xs)/\yO xs.length k=some j/\Q (upd H p (.lst (xs.set j v)))
theorem set_list:Xj X aeb:=by
 intro pins s σ H o i v ov iv u Q I ro ri rv h;obtain⟨p,xs,k,j,rfl,rfl,hp,hj,q⟩:=h;cases ro;obtain⟨t,rfl⟩:=ri;obtain⟨its,n,r,ho,hz⟩:=I.lst hp;obtain⟨h1,h2,h3,h4⟩:=Py hj;have hl:=r.length;have hn:=vL;have I':Inv X pins σ (upd H p (.lst (xs.set j v))) { s with heap:=s.heap.update p (Obj.mapSeq (·.setIfInBounds j u)) }:=
  I.acO hp ho (Rp its n j u) (r.set rv j) (by rw[List.length_set];exact hz) s.toks
 by_cases h0:0<=k
 ·have hk:k.toNat=j:=by
   rw[seqIndex_of h0 h4]at h1;exact Option.some.inj h1
  exact PySem.W.ki_setAt ho h0 (by omega) (by rw[List.size_toArray,<- hl];exact h4) (by rw[hk];exact⟨_,I',q⟩)
 ·have hk:(k+(its.toArray.size:Int)).toNat=j:=by
   rw[seqIndex_neg (by omega) h3]at h1;rw[List.size_toArray,<- hl];exact Option.some.inj h1
  exact PySem.W.ki_setBack ho (by omega) (by rw[List.size_toArray,<- hl];exact h3) (by omega) (by rw[hk];exact⟨_,I',q⟩)
theorem Kz (lo hi:Option Int)(n:Nat):(sliceBounds lo hi none n).1=((HT.fX n 0 lo:Nat):Int)/\(sliceBounds lo hi none n).2.1=((HT.fX n n hi:Nat):Int)/\(sliceBounds lo hi none n).2.2=1:=by
 refine⟨?_,?_,rfl⟩
 ·cases lo with
  | none=>simp[sliceBounds,HT.fX]
  | some i=>
   simp only[sliceBounds,HT.fX,Option.getD_none,show (1:Int) > 0 by decide,if_true];by_cases h:i < 0
   ·simp only[h,if_true] <;> omega
   ·simp only[h,if_false] <;> omega
 ·cases hi with
  | none=>simp[sliceBounds,HT.fX]
  | some i=>
   simp only[sliceBounds,HT.fX,Option.getD_none,show (1:Int) > 0 by decide,if_true];by_cases h:i < 0
   ·simp only[h,if_true] <;> omega
   ·simp only[h,if_false] <;> omega
theorem JM (its:List Value)(lo hi:Option Int):slicePick its.toArray lo hi none=((its.drop (HT.fX its.length 0 lo)).take (HT.fX its.length its.length hi-HT.fX its.length 0 lo)).toArray:=by
 obtain⟨h1,h2,h3⟩:=Kz lo hi its.toArray.size;unfold slicePick;rw[h1,h2,h3];simp only[sliceRange_one,pick_run,List.size_toArray] <;> rfl
def aeI (K:PySem.W.Frag):V->Option Int->Option Int->Hp->VK->Prop:=λx lo hi H Q=>∃a xs,x=.ref a/\aN K H a xs/\∀p,H p=none->Q (.ref p) (upd H p (.lst (wG xs lo hi)))
theorem PB:ZP X (aeI X.K):=by
 intro pins s σ H x v vl vu lo hi sl Q I rx hs pl pu h;obtain⟨a,xs,rfl,hx,q⟩:=h;cases rx;obtain⟨its,r,ht,hz⟩:=I.list hx;have hlen:=r.length;refine⟨"list",_,slot_list_getitem.lookup,ht.isList.typeIs,?_⟩;refine wpAny_getItem_list_slice ht.isList hs pl pu .none (by simp) ?_ (by rw[List.size_toArray] <;> omega);rw[JM,<- hlen];refine⟨.ref s.heap.objs.size,_,I.laid (t':=s.toks) (o:=.lst (wG xs lo hi)) (λb ob q=>Heap.get?_push_of_some _ q) (Nat.le_refl _) ?_,rfl,q _ (I.hok.fresh (Nat.le_refl _))⟩;exact⟨Nat.le_trans (Ol xs lo hi) hz,_,0,(r.drop (HT.fX xs.length 0 lo)).take (HT.fX xs.length xs.length hi-HT.fX xs.length 0 lo),Heap.get?_push_size _ rfl⟩
def qQ:V->Bool
 | .non=>true
 | .bl _=>true
 | .int _=>true
 | .str _=>true
 | _=>false
def BW:V->V->Bool
 | .non,.non=>true
 | .bl a,.bl b=>a==b
 | .bl a,.int b=>(if a then 1 else 0)==b
 | .int a,.bl b=>a==(if b then 1 else 0)
 | .int a,.int b=>a==b
 | .str a,.str b=>a==b
 | _,_=>false
theorem acP {A:Around}{s:Shared}{y x:V}{u v:Value}(ry:RelV y u)(rx:RelV x v)(fy:qQ y=true)(fx:qQ x=true):SeqAt.EqAt A s u v (BW y x):=by
 cases y with
 | non=>
  cases ry;cases x with
  | non=>cases rx;exact SeqAt.EqAt.same _
  | bl b=>cases rx;exact SeqAt.EqAt.none_bool b
  | int b=>obtain⟨t,rfl⟩:=rx;exact SeqAt.EqAt.none_int b t
  | str b=>obtain⟨t,rfl⟩:=rx;exact SeqAt.EqAt.none_str b t
  | _=>exact absurd (show false=true from fx) Bool.false_ne_true
 | bl a=>
  cases ry;cases x with
  | non=>cases rx;exact SeqAt.EqAt.bool_none a
  | bl b=>cases rx;exact SeqAt.EqAt.bool_bool a b
  | int b=>obtain⟨t,rfl⟩:=rx;exact SeqAt.EqAt.bool_int a b t
  | str b=>obtain⟨t,rfl⟩:=rx;exact SeqAt.EqAt.bool_str a b t
  | _=>exact absurd (show false=true from fx) Bool.false_ne_true
 | int a=>
  obtain⟨t',rfl⟩:=ry;cases x with
  | non=>cases rx;exact SeqAt.EqAt.int_none a t'
  | bl b=>cases rx;exact SeqAt.EqAt.int_bool a t' b
  | int b=>obtain⟨t,rfl⟩:=rx;exact SeqAt.EqAt.int_int a t' b t
  | str b=>obtain⟨t,rfl⟩:=rx;exact SeqAt.EqAt.int_str a t' b t
  | _=>exact absurd (show false=true from fx) Bool.false_ne_true
 | str a=>
  obtain⟨t',rfl⟩:=ry;cases x with
  | non=>cases rx;exact SeqAt.EqAt.str_none a t'
  | bl b=>cases rx;exact SeqAt.EqAt.str_bool a t' b
  | int b=>obtain⟨t,rfl⟩:=rx;exact SeqAt.EqAt.str_int a t' b t
  | str b=>obtain⟨t,rfl⟩:=rx;exact SeqAt.EqAt.str_str a t' b t
  | _=>exact absurd (show false=true from fx) Bool.false_ne_true
 | _=>exact absurd (show false=true from fy) Bool.false_ne_true
def Ep (x:V)(u:Value):Bool:=match u with
 | .none=>BW .non x
 | .bool b=>BW (.bl b) x
 | .int i _=>BW (.int i) x
 | .str z _=>BW (.str z) x
 | _=>false
theorem Uj {x y:V}{u:Value}(r:RelV y u)(f:qQ y=true):Ep x u=BW y x:=by
 cases y with
 | non=>cases r;rfl
 | bl b=>cases r;rfl
 | int i=>obtain⟨t,rfl⟩:=r;rfl
 | str z=>obtain⟨t,rfl⟩:=r;rfl
 | _=>exact absurd (show false=true from f) Bool.false_ne_true
theorem Gy {x:V}:∀{xs:List V} {us:List Value},Vals xs us->xs.all qQ=true->us.any (Ep x)=xs.any λy=>BW y x
 | _,_,.nil,_=>rfl
 | y::xs,u::us,.cons r t,f=>by
  rw[List.all_cons,Bool.and_eq_true]at f;rw[List.any_cons,List.any_cons,Uj r f.1,Gy t f.2]
theorem Cw {A:Around}{s:Shared}{x:V}{v:Value}(rx:RelV x v)(fx:qQ x=true):∀{xs:List V} {us:List Value},Vals xs us->xs.all qQ=true->∀u∈us,SeqAt.EqAt A s u v (Ep x u)
 | _,_,.nil,_=>λu hu=>by cases hu
 | y::xs,u::us,.cons r t,f=>λu' hu=>by
  rw[List.all_cons,Bool.and_eq_true]at f;rcases List.mem_cons.mp hu with rfl | hu
  ·rw[Uj r f.1];exact acP r rx f.1 fx
  ·exact Cw rx fx t f.2 u' hu
def inV (x:V)(xs:List V):Bool:=xs.any λy=>BW y x
def rIn (K:PySem.W.Frag)(neg:Bool):R2:=λx y H Q=>∃p xs,y=.ref p/\(aN K H p xs\/aK K H p xs)/\qQ x=true/\xs.all qQ=true/\Q (.bl (if neg then !inV x xs else inV x xs)) H
theorem sy:dX X (compareOp .NotIn) (rIn X.K true):=by
 intro pins s σ H x y v u Q I rx ry h;obtain⟨p,xs,rfl,hq,fx,fs,q⟩:=h;cases ry;rcases hq with hq | hq
 ·obtain⟨its,r,pl,hz⟩:=I.list hq
  refine SeqAt.notIn_listAt (Ep x) pl.isList (λw hw=>Cw rx fx r fs w (by simpa using hw)) ⟨.bl _,H,I,rfl,?_⟩;rw[show its.toArray.any (Ep x)=its.any (Ep x) by simp,Gy r fs];exact q
 ·obtain⟨its,r,pl,hz⟩:=I.tuple hq
  refine SeqAt.notIn_tupleAt (Ep x) pl (λw hw=>Cw rx fx r fs w (by simpa using hw)) ⟨.bl _,H,I,rfl,?_⟩;rw[show its.toArray.any (Ep x)=its.any (Ep x) by simp,Gy r fs];exact q
theorem bL:gC X (.builtin "len") (λxs H Q=>∃p ys,xs=[.ref p]/\(aN X.K H p ys\/aK X.K H p ys)/\Q (.int ys.length) H):=by
 intro pins s σ H xs us Q I r h;obtain⟨p,ys,rfl,hq,q⟩:=h;obtain⟨u,rfl,rx⟩:=vals1 r;cases rx;have hn:=vL;rcases hq with hq | hq
 ·obtain⟨its,r',pl,hz⟩:=I.list hq
  have hlen:=r'.length;exact Calls.call_len_list pl.isList (by simp only[List.size_toArray] <;> omega) ⟨.int ys.length,H,I.tok _,⟨s.toks+1,by rw[List.size_toArray,hlen]⟩,q⟩
 ·obtain⟨its,r',pl,hz⟩:=I.tuple hq
  have hlen:=r'.length;exact len_tuple pl (by simp only[List.size_toArray] <;> omega) ⟨.int ys.length,H,I.tok _,⟨s.toks+1,by rw[List.size_toArray,hlen]⟩,q⟩
theorem KC:gC X (.builtin "len") (λxs H Q=>∃z,xs=[.str z]/\z.length<=sizeLine/\Q (.int z.length) H):=by
 intro pins s σ H xs us Q I r h;obtain⟨z,rfl,hz,q⟩:=h;obtain⟨u,rfl,t,rfl⟩:=vals1 r;have hn:=vL;exact len_str (by omega) ⟨.int z.length,H,I.tok _,⟨_,rfl⟩,q⟩
theorem gO:gC X (.type "tuple") (λxs H Q=>∃p ys,xs=[.ref p]/\((aN X.K H p ys/\∀l,H l=none->Q (.ref l) (upd H l (.tup ys)))\/(aK X.K H p ys/\Q (.ref p) H))):=by
 intro pins s σ H xs us Q I r h;obtain⟨p,ys,rfl,h⟩:=h;obtain⟨u,rfl,rx⟩:=vals1 r;cases rx;rcases h with⟨hq,q⟩ | ⟨hq,q⟩
 ·obtain⟨its,r',pl,hz⟩:=I.list hq
  have hlen:=r'.length;refine call_tuple_list pl.isList (λh' kp=>?_) (by simp only[List.size_toArray] <;> omega);have I1:Inv X pins σ H { s with heap:=h' }:=I.kept (t':=s.toks) kp;have I2:Inv X pins σ (upd H h'.objs.size (.tup ys)) { s with heap:=h'.push { cls:=.type "tuple",data:=.seq its.toArray } }:=
   I1.laid (t':=s.toks) (λb o e=>Heap.get?_push_of_some _ e) (Nat.le_refl _) (show dj X.prog X.w _ _ _ (.tup ys) from ⟨hz,its,r',IsTup.new _ _⟩)
  exact⟨.ref h'.objs.size,_,I2,rfl,q _ (I1.hok.fresh (Nat.le_refl _))⟩
 ·obtain⟨its,r',pl,hz⟩:=I.tuple hq
  exact call_tuple_same pl ⟨.ref p,H,I,rfl,q⟩
def tyV (K:PySem.W.Frag)(T:String)(x:V)(H:Hp):Prop:=match x with
 | .str _=>T="str"
 | .int _=>T="int"
 | .ref p=>(T="list"/\∃xs,aN K H p xs)\/(T="tuple"/\∃o,K.lookup p=some o/\o.cls=.type "tuple"/\o.dict=none)\/
   (T="dict"/\((∃kvs,H p=some (.dK kvs))\/∃kvs,H p=some (.dT kvs)))\/(T="set"/\∃S n,H p=some (.set S n))
 | _=>False
theorem Uk {pins:List (Addr × Obj)}{σ:St}{H:Hp}{s:Shared}{T:String}{x:V}{v:Value}(I:Inv X pins σ H s)(r:RelV x v)(ty:tyV X.K T x H) :
  s.TypeIs v T/\∀a,v=.ref a->∃ob,s.heap.get? a=some ob/\ob.dict=none:=by
 cases x with
 | str z=>
  obtain⟨t,rfl⟩:=r;cases(show T="str" from ty);exact⟨typeIs_str s z t,λ_ e=>nomatch e⟩
 | int i=>
  obtain⟨t,rfl⟩:=r;cases(show T="int" from ty);exact⟨typeIs_int s i t,λ_ e=>nomatch e⟩
 | ref p=>
  cases r;rcases ty with⟨rfl,xs,hq⟩ | ⟨rfl,o,hk,hc,hd⟩ | ⟨rfl,hk⟩ | ⟨rfl,S,n,hk⟩
  ·obtain⟨its,_,pl,_⟩:=I.list hq
   refine⟨pl.isList.typeIs,λa e=>?_⟩;cases e;obtain⟨o,n,e,c,hd,_⟩:=pl;exact⟨o,e,hd⟩
  ·refine⟨⟨o,I.fJ p o hk,hc⟩,λa e=>?_⟩
   cases e;exact⟨o,I.fJ _ o hk,hd⟩
  ·have z:∃o,s.heap.get? p=some o/\o.ExactDict:=by
    rcases hk with⟨kvs,hk⟩ | ⟨kvs,hk⟩
    ·obtain⟨_,_,_,_,o,_,_,e,ex,_⟩:=I.hok p _ hk
     exact⟨o,e,ex⟩
    ·obtain⟨_,_,_,_,o,_,_,e,ex,_⟩:=I.hok p _ hk
     exact⟨o,e,ex⟩
   obtain⟨o,e,ex⟩:=z;refine⟨⟨o,e,ex.1⟩,λa e2=>?_⟩;cases e2;exact⟨o,e,ex.2.1⟩
  ·obtain⟨o,_,_,_,e,ex,_⟩:=I.hok p _ hk
   refine⟨⟨o,e,ex.1⟩,λa e2=>?_⟩;cases e2;exact⟨o,e,ex.2.1⟩
 | _=>exact False.elim ty
def Rq (K:PySem.W.Frag)(T:String)(r:V->List V->Hp->VK->Prop)(to:TE):TE:=λσ H Q=>to σ H λx H1=>tyV K T x H1/\r x [] H1 Q
def tBM (K:PySem.W.Frag)(T:String)(r:V->List V->Hp->VK->Prop)(to:TE)(t:TA):TE:=λσ H Q=>to σ H λx H1=>tyV K T x H1/\t σ H1 λxs H2=>r x xs H2 Q
variable {o e:Expr}{es:List Expr}{to:TE}{t:TA}{name:Str}{apos cpos:Pos}{T id:String}{r:V->List V->Hp->VK->Prop}
theorem acQ (pa:PlainAttrs T)(slot:Slot T name id)(hty:typeOf (.builtin id)=pure (.type "method_descriptor"))(hm:vM X id r)(ho:PE X o to)
  (hbase:attributeBase o name X.env (eval o X.env)=eval o X.env:=by rfl) (hline:(apos.endLine==cpos.line)=true:=by rfl):PE X (.Call (.Attribute o name apos) [] [] cpos) (Rq X.K T r to):=by
 intro pins s σ H Q I h;refine wpAny_Call_method0_late hbase hline (bG (ho pins s σ H _ I h) λv s1 ⟨x,H1,I1,r1,ty,q1⟩=>?_);obtain⟨h1,h2⟩:=Uk I1 r1 ty;exact⟨T,id,pa,slot,hty,h1,h2,Calls.callWith_builtin rfl (PySem.evalArgs_none (hm pins s1 σ H1 x [] v [] Q I1 r1 .nil q1))⟩
theorem aec (pa:PlainAttrs T)(slot:Slot T name id)(hty:typeOf (.builtin id)=pure (.type "method_descriptor"))(hm:vM X id r)(ho:PE X o to)(ha:PA X (e::es) t)
  (hbase:attributeBase o name X.env (eval o X.env)=eval o X.env:=by rfl)
  (hfew:((backTo cpos (starEach (e::es) X.env)).all (λx=>!x.1)&&(backToKw cpos (keywordEach [] X.env)).all (λx=>x.1.isSome)
   && decide ((e::es).length+([]:List Keyword).length+(if ([]:List Keyword).isEmpty then 0 else 1) < 30))=true:=by rfl)
  (hline:(apos.endLine==cpos.line)=true:=by rfl) (hs:starEach (e::es) X.env=(false,eval e X.env)::starEach es X.env:=by rfl) (hplain:(backTo cpos (starEach es X.env)).any (·.1)=false:=by rfl) :
  PE X (.Call (.Attribute o name apos) (e::es) [] cpos) (tBM X.K T r to t):=by
 intro pins s σ H Q I h;refine wpAny_Call_method_late hbase hfew hline rfl (bG (ho pins s σ H _ I h) λv s1 ⟨x,H1,I1,r1,ty,q1⟩=>?_);obtain⟨h1,h2⟩:=Uk I1 r1 ty;refine⟨T,id,pa,slot,hty,h1,h2,?_⟩;have hA:=ha cpos pins s1 σ H1 _ I1 q1;rw[hs]at hA ⊢;refine Calls.callWith_builtin (by show (false||(backTo cpos (starEach es X.env)).any (·.1))=false;rw[hplain] <;> rfl) (Calls.evalArgs_plain ?_);exact bG hA λus s2 ⟨vs,H2,I2,r2,q2⟩=>hm pins s2 σ H2 x vs v us Q I2 r1 r2 q2
end
def Ul (X:Cx)(id:String)(r:V->List V->Hp->VK->Prop):Prop:=
 ∀(pins:List (Addr × Obj)) (s:Shared) (σ:St) (H:Hp) (x:V) (xs:List V) (v:Value) (us:List Value) (Q:VK),Inv X pins σ H s->RelV x v->Vals xs us->r x xs H Q->
  wpAny (model X.prog X.w) X.A (call (.builtin id) (v::us)) (EP X pins σ Q) X.xe s
theorem Vals.one:∀{x:V} {us:List Value},Vals [x] us->∃u,us=[u]/\RelV x u
 | _,_,.cons r .nil=>⟨_,rfl,r⟩
theorem Vals.zero:∀{us:List Value},Vals [] us->us=[]
 | _,.nil=>rfl
theorem Vals.eraseIdx:∀{xs:List V} {us:List Value} (i:Nat),Vals xs us->Vals (xs.eraseIdx i) (us.eraseIdx i)
 | _,_,_,.nil=>.nil
 | _,_,0,.cons _ t=>t
 | _,_,i+1,.cons r t=>.cons r (Vals.eraseIdx i t)
theorem Iu {α:Type}:∀(l:List α) (i:Nat),(l.eraseIdx i).length<=l.length
 | [],_=>Nat.le_refl _
 | _::_,0=>Nat.le_succ _
 | _::r,i+1=>Nat.succ_le_succ (Iu r i)
section
variable {X:Cx}{pins:List (Addr × Obj)}{σ:St}{H:Hp}{s:Shared}{l:Addr}{xs ys:List V}
theorem Inv.Rr {its its':List Value}{n:Nat}{f:Array Value->Array Value}{t':Nat}(I:Inv X pins σ H s)(hH:H l=some (.lst xs))
  (e:s.heap.get? l=some { cls:=.type "list",data:=.seq its.toArray n }) (hf:f its.toArray=its'.toArray) (hv:Vals ys its') (hz:ys.length<=sizeLine) :
  Inv X pins σ (upd H l (.lst ys)) { s with heap:=s.heap.update l (Obj.mapSeq f),toks:=t' }:=by
 have q:=PySem.IsL.update e f;rw[hf]at q;refine I.write (x:=l) (e:=l) (by rw[hH];exact trivial) (.inl rfl) (λb' u hb hu=>(Heap.get?_update_other s.heap (Obj.mapSeq f) (Ne.symm hb)).trans hu) ⟨_,q⟩ ?_;exact⟨hz,its',_,hv,q⟩
theorem Inv.Rt {its:List Value}{t':Nat}(I:Inv X pins σ H s)(hv:Vals ys its)(hz:ys.length<=sizeLine) :
  Inv X pins σ (upd H s.heap.objs.size (.lst ys)) { s with heap:=s.heap.push { cls:=.type "list",data:=.seq its.toArray },toks:=t' }:=
 I.laid (λ_ _ q=>Heap.get?_push_of_some _ q) (Nat.le_refl _) ⟨hz,its,0,hv,Heap.get?_push_size _ rfl⟩
theorem Inv.fresh (I:Inv X pins σ H s):H s.heap.objs.size=none:=I.hok.fresh (Nat.le_refl _)
theorem Inv.yW (I:Inv X pins σ H s)(hH:H l=some (.lst xs)):xs.length<=sizeLine/\∃(its:List Value) (n:Nat),Vals xs its/\xs.length=its.length/\s.heap.get? l=some { cls:=.type "list",data:=.seq its.toArray n }:=by
 obtain⟨z,its,n,r,e⟩:=I.hok l _ hH;exact⟨z,its,n,r,r.length,e⟩
theorem Xz {n:Nat}(h:n<=sizeLine):Builtin.List.listTooLong n=false:=by
 unfold Builtin.List.listTooLong;exact decide_eq_false (by omega)
end
section
variable {X:Cx}
def aaH:V->List V->Hp->VK->Prop:=λx vs H Q=>∃l xs y,x=.ref l/\vs=[y]/\H l=some (.lst xs)/\xs.length < sizeLine/\Q .non (upd H l (.lst (xs++[y])))
theorem gn:Ul X "list.append" aaH:=by
 intro pins s σ H x vs v us Q I rx rv h;obtain⟨l,xs,y,rfl,rfl,hH,hz,q⟩:=h;cases rx;obtain⟨u,rfl,ru⟩:=rv.one;obtain⟨z,its,n,r,hl,e⟩:=I.yW hH;refine call_meets F.slot_list_append ⟨_,e,rfl⟩ F.entry_list_append (F.args_list_append_2 _ _) (PySem.list_append l its.toArray n u (by rw[List.size_toArray];omega)) ⟨e,?_⟩;refine⟨.non,_,I.Rr (its':=its++[u]) hH e (by simp) (r.append (.cons ru .nil)) ?_,rfl,q⟩;rw[List.length_append,List.length_singleton];omega
def aaI:V->List V->Hp->VK->Prop:=λx vs H Q=>∃l b xs zs,x=.ref l/\vs=[.ref b]/\H l=some (.lst xs)/\H b=some (.lst zs)/\xs.length+zs.length<=sizeLine/\Q .non (upd H l (.lst (xs++zs)))
theorem Um:Ul X "list.extend" aaI:=by
 intro pins s σ H x vs v us Q I rx rv h;obtain⟨l,b,xs,zs,rfl,rfl,hH,hB,hz,q⟩:=h;cases rx;obtain⟨u,rfl,ru⟩:=rv.one;cases ru;obtain⟨z,its,n,r,hl,e⟩:=I.yW hH;obtain⟨z2,its2,n2,r2,hl2,e2⟩:=I.yW hB;have hsz:its.toArray.size+its2.toArray.size<=sizeLine:=by rw[List.size_toArray,List.size_toArray];omega
 have aed:¬(!its.toArray.isEmpty&&Builtin.List.listTooLong (its.toArray.size+its2.toArray.size))=true:=by
  rw[Xz hsz,Bool.and_false];exact Bool.false_ne_true
 refine call_meets F.slot_list_extend ⟨_,e,rfl⟩ F.entry_list_extend (F.args_list_extend_2 _ _)
  (AutoSeq1.list_extend_list_list_0 l its.toArray n b its2.toArray n2 aed (by rw[List.size_toArray];omega) (by omega)) ⟨e,e2,?_⟩
 refine⟨.non,_,I.Rr (its':=its++its2) hH e (by simp) (r.append r2) ?_,rfl,q⟩;rw[List.length_append];omega
def acR:V->List V->Hp->VK->Prop:=λx vs H Q=>∃l xs i k y,x=.ref l/\vs=[.int i]/\H l=some (.lst xs)/\-(2^63)<=i/\i < 2^63/\seqIndex? i xs.length=some k/\xs[k]?=some y/\Q y (upd H l (.lst (xs.eraseIdx k)))
theorem XC:Ul X "list.pop" acR:=by
 intro pins s σ H x vs v us Q I rx rv h;obtain⟨l,xs,i,k,y,rfl,rfl,hH,h1,h2,hk,hy,q⟩:=h;cases rx;obtain⟨u,rfl,ru⟩:=rv.one;obtain⟨t,rfl⟩:=ru;obtain⟨z,its,n,r,hl,e⟩:=I.yW hH;obtain⟨w,hw,Ui⟩:=r.get hy;refine call_meets F.slot_list_pop ⟨_,e,rfl⟩ F.entry_list_pop (F.args_list_pop_2 _ _)
  (MeetsSeq.list_pop_at l its.toArray n i t k w (fitsIndex_both h1 h2) (by rw[List.size_toArray,<- hl];exact hk) (by rw[<- Array.getElem?_toList];exact hw) (by rw[List.size_toArray];omega)) ⟨e,?_⟩
 refine⟨y,_,I.Rr (its':=its.eraseIdx k) hH e ?_ (r.eraseIdx k) ?_,Ui,q⟩
 ·show its.toArray.eraseIdxIfInBounds k=(its.eraseIdx k).toArray
  rw[List.eraseIdxIfInBounds_toArray]
 ·have:=Iu xs k
  omega
def aeJ:R2:=λx y H Q=>∃l b xs zs,x=.ref l/\y=.ref b/\H l=some (.lst xs)/\H b=some (.lst zs)/\xs.length+zs.length<=sizeLine/\∀p,H p=none->Q (.ref p) (upd H p (.lst (xs++zs)))
theorem Er:dX X (binaryOp .Add) aeJ:=by
 intro pins s σ H x y v u Q I rx ry h;obtain⟨l,b,xs,zs,rfl,rfl,hH,hB,hz,q⟩:=h;cases rx;cases ry;obtain⟨z,its,n,r,hl,e⟩:=I.yW hH;obtain⟨z2,its2,n2,r2,hl2,e2⟩:=I.yW hB;refine PySem.P.add_list e e2 ?_ (by rw[List.size_toArray,List.size_toArray];omega);have ea:its.toArray++its2.toArray=(its++its2).toArray:=by simp
 rw[ea];exact⟨.ref _,_,I.Rt (t':=s.toks) (r.append r2) (by rw[List.length_append];omega),rfl,q _ I.fresh⟩
theorem len_rep {α:Type}(xs:List α)(k:Nat):(List.replicate k xs).flatten.length=k*xs.length:=by
 induction k with
 | zero=>simp
 | succ k ih=>rw[List.replicate_succ,List.flatten_cons,List.length_append,ih,Nat.succ_mul,Nat.add_comm]
end
section
variable {κ:Type}[DecidableEq κ]
def j7 (kvs:List (κ × V))(k:κ):Option V:=(kvs.find? λkv=>decide (kv.1=k)).map (·.2)
def putK (kvs:List (κ × V))(k:κ)(v:V):List (κ × V):=
 if (kvs.any λkv=>decide (kv.1=k))=true then kvs.map (λkv=>if kv.1=k then (kv.1,v) else kv) else kvs++[(k,v)]
theorem wH {p:κ × V}{r:List (κ × V)}{k:κ}(e:p.1=k):j7 (p::r) k=some p.2:=by simp[j7,List.find?_cons,e]
theorem wI {p:κ × V}{r:List (κ × V)}{k:κ}(e:¬p.1=k):j7 (p::r) k=j7 r k:=by simp[j7,List.find?_cons,e]
theorem wJ (k:κ):∀kvs:List (κ × V),(kvs.any λkv=>decide (kv.1=k))=(j7 kvs k).isSome
 | []=>rfl
 | p::r=>by
  rw[List.any_cons];by_cases e:p.1=k
  ·simp only[wH e,decide_eq_true e,Bool.true_or,Option.isSome_some]
  ·rw[wI e,decide_eq_false e,Bool.false_or];exact wJ k r
theorem BX (kvs:List (κ × V))(k:κ)(v:V):(putK kvs k v).length<=kvs.length+1:=by
 unfold putK
 split
 ·rw[List.length_map];omega
 ·rw[List.length_append,List.length_cons,List.length_nil];omega
theorem XF {kvs:List (κ × V)}{k:κ}(v:V)(h:j7 kvs k=none):putK kvs k v=kvs++[(k,v)]:=by
 unfold putK;rw[wJ,h];exact if_neg (by decide)
theorem jT.yX {o:Option V}{u:Option Value}(r:jT o u):o.isSome=u.isSome:=by
 cases o with
 | none=>cases u with
  | none=>rfl
  | some _=>exact(show False from r).elim
 | some _=>cases u with
  | none=>exact(show False from r).elim
  | some _=>rfl
theorem KV.val {kvs:List (κ × V)}{vs:List (κ × Value)}(r:KV kvs vs)(k:κ):jT (j7 kvs k) (valueAt vs k):=by
 unfold KV at r
 induction r with
 | nil=>exact True.intro
 | @cons p q ps qs h t ih=>
  obtain⟨h1,h2⟩:=h;by_cases e:p.1=k
  ·have e':q.1=k:=h1.symm.trans e
   have b:valueAt (q::qs) k=some q.2:=by simp[valueAt,List.find?_cons,e']
   rw[wH e,b];exact h2
  ·have e':¬q.1=k:=λz=>e (h1.trans z)
   have b:valueAt (q::qs) k=valueAt qs k:=by simp[valueAt,List.find?_cons,e']
   rw[wI e,b];exact ih
theorem KV.any {kvs:List (κ × V)}{vs:List (κ × Value)}(r:KV kvs vs)(k:κ):(kvs.any λkv=>decide (kv.1=k))=vs.any λkv=>decide (kv.1=k):=by
 unfold KV at r
 induction r with
 | nil=>rfl
 | cons h t ih=>rw[List.any_cons,List.any_cons,ih,h.1]
theorem KV.repl {kvs:List (κ × V)}{vs:List (κ × Value)}(r:KV kvs vs)(k:κ){y:V}{u:Value}(ry:RelV y u) :
  KV (kvs.map λkv=>if kv.1=k then (kv.1,y) else kv) (vs.map λkv=>if kv.1=k then (kv.1,u) else kv):=by
 unfold KV at r ⊢
 induction r with
 | nil=>exact .nil
 | @cons p q ps qs h t ih=>
  rw[List.map_cons,List.map_cons];refine .cons ?_ ih;obtain⟨h1,h2⟩:=h;by_cases e:p.1=k
  ·rw[if_pos e,if_pos (h1.symm.trans e)];exact⟨h1,ry⟩
  ·rw[if_neg e,if_neg (λz=>e (h1.trans z))];exact⟨h1,h2⟩
theorem KV.put {kvs:List (κ × V)}{vs:List (κ × Value)}(r:KV kvs vs)(k:κ){y:V}{u:Value}(ry:RelV y u):KV (putK kvs k y) (stored vs k u):=by
 unfold putK stored;rw[r.any k];by_cases e:(vs.any λkv=>decide (kv.1=k))=true
 ·rw[if_pos e,if_pos e];exact r.repl k ry
 ·rw[if_neg e,if_neg e];exact Paired.snoc r ⟨rfl,ry⟩
theorem KV.keys {kvs:List (κ × V)}{vs:List (κ × Value)}(r:KV kvs vs):kvs.map (·.1)=vs.map (·.1):=by
 unfold KV at r
 induction r with
 | nil=>rfl
 | cons h t ih=>rw[List.map_cons,List.map_cons,ih,h.1]
theorem KV.length {kvs:List (κ × V)}{vs:List (κ × Value)}(r:KV kvs vs):kvs.length=vs.length:=Paired.length r
end
theorem Ru {P:Program}{w:World}{k:Key}{u:Value}(r:RelV (kV k) u):(gA P w).is k u=true:=by
 cases k with
 | inl i=>obtain⟨t,e⟩:=(show ∃t,u=Value.int i t from r);subst e;exact Oi P w i t
 | inr x=>obtain⟨t,e⟩:=(show ∃t,u=Value.str x t from r);subst e;exact Oj P w x t
theorem Iw {P:Program}{w:World}:∀{ks:List Key} {us:List Value},Vals (ks.map kV) us->ItemsAre (gA P w) ks us
 | [],_,r=>by rw[List.map_nil]at r;cases r;exact .nil
 | k::ks,_,r=>by
  rw[List.map_cons]at r;cases r with
  | cons h t=>exact .cons (Ru h) (Iw t)
abbrev KT (H:Hp):List (List Key × V)->List (List Key × Addr × Value)->Prop:=Paired λp q=>p.1=q.1/\H q.2.1=some (.tup (p.1.map kV))/\RelV p.2 q.2.2
theorem KT.val {H:Hp}{kvs:List (List Key × V)}{xs:List (List Key × Addr × Value)}(r:KT H kvs xs)(k:List Key):jT (j7 kvs k) ((atKey xs k).map (·.2)):=by
 induction r with
 | nil=>exact True.intro
 | @cons p q ps qs h t ih=>
  obtain⟨h1,_,h2⟩:=h;by_cases e:p.1=k
  ·have e':q.1=k:=h1.symm.trans e
   have b:atKey (q::qs) k=some q.2:=by simp[atKey,List.find?_cons,e']
   rw[wH e,b];exact h2
  ·have e':¬q.1=k:=λz=>e (h1.trans z)
   have b:atKey (q::qs) k=atKey qs k:=by simp[atKey,List.find?_cons,e']
   rw[wI e,b];exact ih
theorem KT.repl {H:Hp}{kvs:List (List Key × V)}{xs:List (List Key × Addr × Value)}(r:KT H kvs xs)(k:List Key){y:V}{u:Value}(ry:RelV y u) :
  KT H (kvs.map λkv=>if kv.1=k then (kv.1,y) else kv) (xs.map (putAt k u)):=by
 induction r with
 | nil=>exact .nil
 | @cons p q ps qs h t ih=>
  rw[List.map_cons,List.map_cons];refine .cons ?_ ih;obtain⟨h1,h2,h3⟩:=h;unfold putAt;by_cases e:p.1=k
  ·rw[if_pos e,if_pos (h1.symm.trans e)];exact⟨h1,h2,ry⟩
  ·rw[if_neg e,if_neg (λz=>e (h1.trans z))];exact⟨h1,h2,h3⟩
theorem KT.put {H:Hp}{kvs:List (List Key × V)}{xs:List (List Key × Addr × Value)}(r:KT H kvs xs)(k:List Key){b:Addr}{y:V}{u:Value}(hb:H b=some (.tup (k.map kV)))(ry:RelV y u) :
  KT H (putK kvs k y) (storedH xs k b u):=by
 have e:(kvs.any λkv=>decide (kv.1=k))=(atKey xs k).isSome:=by
  rw[wJ,(r.val k).yX,Option.isSome_map]
 unfold putK storedH;rw[e];by_cases q:(atKey xs k).isSome=true
 ·rw[if_pos q,if_pos q];exact r.repl k ry
 ·rw[if_neg q,if_neg q];exact Paired.snoc r ⟨rfl,hb,ry⟩
theorem KT.keeps {H H':Hp}{kvs:List (List Key × V)}{xs:List (List Key × Addr × Value)}(r:KT H kvs xs)(ht:∀b ys,H b=some (.tup ys)->H' b=some (.tup ys)):KT H' kvs xs:=
 Paired.Xe r λ_ _ z=>⟨z.1,ht _ _ z.2.1,z.2.2⟩
section
variable {P:Program}{w:World}{H:Hp}{h:Heap}{a:Addr}
theorem ZQ {u:HO}(ok:iz P w H h)(e:Rd H a u):dj P w H h a u:=e.ok ok
theorem ZR {kvs:List (Key × V)}(ok:iz P w H h)(e:Rd H a (.dK kvs)):kvs.length<=sizeLine/\(a==sysModules)=false/\∃vs,KV kvs vs/\h.DictOf (gA P w) a vs:=
 show dj P w H h a (.dK kvs) from ZQ ok e
theorem ZS {kvs:List (Key × V)}(ok:iz P w H h)(e:H a=some (.dK kvs)):kvs.length<=sizeLine/\(a==sysModules)=false/\∃vs,KV kvs vs/\h.DictOf (gA P w) a vs:=ZR ok (.inl e)
theorem KD {ks:List Key}(ok:iz P w H h)(e:H a=some (.tup (ks.map kV))):(tupleKind (gA P w)).is h ks a:=by
 obtain⟨_,its,r,o,h1,h2,n,h3⟩:=(show dj P w H h a (.tup (ks.map kV)) from ok a _ e)
 exact⟨o,its.toArray,n,h1,h2,h3,by simpa using Iw r⟩
theorem ZV {kvs:List (List Key × V)}(ok:iz P w H h)(e:Rd H a (.dT kvs)):kvs.length<=sizeLine/\(a==sysModules)=false/\
  ∃xs,KT H kvs xs/\h.DictOfH (tupleKind (gA P w)) a xs:=by
 obtain⟨z,y,xs,r,o,es,ep,h1,h2,h3,h4,h5⟩:=(show dj P w H h a (.dT kvs) from ZQ ok e)
 refine⟨z,y,xs,r,o,es,ep,h1,h2,h3,h4,λx hx=>?_,h5⟩;have all:∀{l:List (List Key × V)} {m:List (List Key × Addr × Value)},KT H l m->∀x∈m,(tupleKind (gA P w)).is h x.1 x.2.1:=by
  intro l m q
  induction q with
  | nil=>intro x hx;exact nomatch hx
  | @cons p q ps qs hq t ih=>
   intro x hx;rcases List.mem_cons.mp hx with e | hx
   ·subst e
    exact KD ok (by rw[<- hq.1];exact hq.2.1)
   ·exact ih x hx
 exact all r x hx
theorem aee {kvs:List (List Key × V)}(ok:iz P w H h)(e:H a=some (.dT kvs)):kvs.length<=sizeLine/\(a==sysModules)=false/\
  ∃xs,KT H kvs xs/\h.DictOfH (tupleKind (gA P w)) a xs:=ZV ok (.inl e)
end
def Gz (H:Hp)(a:Addr)(y:V)(r:Option V):Prop:=
 (∃kvs k,Rd H a (.dK kvs)/\y=kV k/\r=j7 kvs k)\/∃kvs k b,Rd H a (.dT kvs)/\y=.ref b/\H b=some (.tup (k.map kV))/\r=j7 kvs k
def Cy (H:Hp)(a:Addr)(y v:V)(H':Hp):Prop:=
 (∃kvs k,H a=some (.dK kvs)/\y=kV k/\kvs.length < sizeLine/\H'=upd H a (.dK (putK kvs k v)))\/
 ∃kvs k b,H a=some (.dT kvs)/\y=.ref b/\H b=some (.tup (k.map kV))/\kvs.length < sizeLine/\H'=upd H a (.dT (putK kvs k v))
theorem Gz.k {H:Hp}{a:Addr}{kvs:List (Key × V)}{k:Key}(e:H a=some (.dK kvs)):Gz H a (kV k) (j7 kvs k):=.inl ⟨kvs,k,.inl e,rfl,rfl⟩
theorem Cy.k {H:Hp}{a:Addr}{kvs:List (Key × V)}{k:Key}{v:V}(e:H a=some (.dK kvs))(hl:kvs.length < sizeLine):Cy H a (kV k) v (upd H a (.dK (putK kvs k v))):=.inl ⟨kvs,k,e,rfl,hl,rfl⟩
section
variable {X:Cx}{pins:List (Addr × Obj)}{σ:St}{H:Hp}{s:Shared}{a:Addr}{y v:V}{u r:Value}{o:Option V}{A:Around}{E:Value->Shared->Prop}
theorem Inv.big (I:Inv X pins σ H s):sysModules < s.heap.objs.size:=by
 have h:mainGlobals < s.heap.objs.size:=(I.mod.glob.keeps I.bk).lt;exact Nat.lt_trans (by decide) h
theorem aeK {Q:Value->Shared->Prop}(hu:A.units+1 < cLine)(I:Inv X pins σ H s)(g:Gz H a y o)(ry:RelV y u)(h:∀s',Inv X pins σ H s'->Q (.bool o.isSome) s') :
  wpAny (model X.prog X.w) A (compareOp .In u (.ref a)) Q E s:=by
 rcases g with⟨kvs,k,e,ey,l⟩ | ⟨kvs,k,b,e,ey,eb,l⟩
 ·subst ey
  obtain⟨z,hd,vs,rel,dd⟩:=ZR I.hok e;refine wpAny_in_of (Ru ry) hd dd.mapOf ?_;rw[<- (rel.val k).yX,<- l];exact h _ (I.tok _)
 ·subst ey
  cases(show u=Value.ref b from ry);obtain⟨z,hd,xs,rel,dd⟩:=ZV I.hok e;refine wpAny_in_heap (tupleKind_room_in1 hu) (KD I.hok eb) hd dd ?_;have q:=(rel.val k).yX;rw[Option.isSome_map]at q;rw[<- q,<- l];exact h _ (I.tok _)
theorem PJ {h':Heap}{t':Nat}{ob:HO}(I:Inv X pins σ H s)(mu:TF (H a))(hs:Heap.SameBut a s.heap h')(he:∃q,h'.get? a=some q)(new:dj X.prog X.w (upd H a ob) h' a ob) :
  Inv X pins σ (upd H a ob) { s with heap:=h',toks:=t' }:=
 I.write (x:=a) (e:=a) mu (.inl rfl) (λb q hb z=>(hs.2 b hb).trans z) he new
theorem acS {P:Program}{w:World}{H':Hp}{h':Heap}{kvs:List (Key × V)}{vs:List (Key × Value)}(z:kvs.length<=sizeLine)(hd:(a==sysModules)=false)(rel:KV kvs vs)(dd:h'.DictOf (gA P w) a vs) :
  dj P w H' h' a (.dK kvs):=⟨z,hd,vs,rel,dd⟩
theorem Uo {H':Hp}{Q:Unit->Shared->Prop}(hu:A.units+1 < cLine)(I:Inv X pins σ H s)(g:Cy H a y v H')(ry:RelV y u)(rv:RelV v r)(h:∀s',Inv X pins σ H' s'->Q () s') :
  wpAny (model X.prog X.w) A (setItem (.ref a) u r) Q E s:=by
 rcases g with⟨kvs,k,e,ey,l,eH⟩ | ⟨kvs,k,b,e,ey,eb,l,eH⟩
 ·subst ey eH
  obtain⟨z,hd,vs,rel,dd⟩:=ZS I.hok e;have hz:vs.length<=sizeLine:=by rw[<- rel.length];exact z
  have hl:(putK kvs k v).length<=sizeLine:=by have:=BX kvs k v;omega
  refine wpAny_setItem_pairs (hsz:=hz) (Ru ry) dd λh' Uq hs=>h _ ?_;have he:∃q,h'.get? a=some q:=let ⟨q,_,_,hq,_⟩:=Uq;⟨q,hq⟩
  exact PJ I (by rw[e];exact True.intro) hs he (acS hl hd (rel.put k rv) Uq)
 ·subst ey eH
  cases(show u=Value.ref b from ry);obtain⟨z,hd,xs,rel,dd⟩:=aee I.hok e;have hz:xs.length<=sizeLine:=by rw[<- Paired.length rel];exact z
  have hl:(putK kvs k v).length<=sizeLine:=by have:=BX kvs k v;omega
  refine wpAny_setItem_heap (hsz:=hz) (tupleKind_room_in1 hu) (KD I.hok eb) dd λh' Uq hs=>h _ ?_;obtain⟨q,es,ep,hq,h2,h3,h4,_,h5⟩:=Uq;refine PJ I (by rw[e];exact True.intro) hs ⟨q,hq⟩ ⟨hl,hd,_,(rel.put k eb rv).keeps λc ys ec=>?_,q,es,ep,hq,h2,h3,h4,h5⟩;rw[aP (ad4 ec e (λz=>nomatch z))];exact ec
end
def acT (ty td:TE):TE:=λσ H Q=>ty σ H λy H1=>td σ H1 λx H2=>∃a o,x=.ref a/\Gz H2 a y o/\Q (.bl o.isSome) H2
def ZW (td ty tv:TE):TS:=λD σ H=>tv σ H λv H1=>td σ H1 λx H2=>ty σ H2 λy H3=>∃a H4,x=.ref a/\Cy H3 a y v H4/\D.nx σ H4
section
variable {X:Cx}{o i value:Expr}{pos pos':Pos}{td ty tv:TE}
theorem acU (hu:X.A.units+1 < cLine)(hi:PE X i ty)(ho:PE X o td):PC X .In i o (acT ty td):=by
 intro pins s σ H Q I h;refine bG (hi pins s σ H _ I h) λiv s1 ⟨y,H1,I1,ry,q1⟩=>bG (ho pins s1 σ H1 _ I1 q1) λu s2 ⟨x,H2,I2,rx,a,ov,ex,g,q2⟩=>?_;subst ex;obtain rfl:u=Value.ref a:=rx;exact aeK hu I2 g ry λs3 I3=>⟨.bl ov.isSome,H2,I3,rfl,q2⟩
theorem aaJ (hu:X.A.units+1 < cLine)(ho:PE X o td)(hi:PE X i ty)(hv:PE X value tv)(hs:swapsWith value (some (.Subscript o i pos')) pos.line X.env=pure false) :
  PS X (.Assign [.Subscript o i pos'] value pos) (ZW td ty tv):=by
 intro pins s σ H D I h;refine wpAny_Assign_Subscript (bG (hv pins s σ H _ I h) λr s1 ⟨v,H1,I1,rv,q1⟩=>bG (ho pins s1 σ H1 _ I1 q1) λu s2 ⟨x,H2,I2,rx,q2⟩=>bG (hi pins s2 σ H2 _ I2 q2) λiv s3 ⟨y,H3,I3,ry,a,H4,ex,g,q3⟩=>?_) hs;subst ex;obtain rfl:u=Value.ref a:=rx;exact Uo hu I3 g ry rv λs4 I4=>⟨σ,H4,I4,q3⟩
end
theorem XH {P:Program}{w:World}{H:Hp}(h:Heap)(hb:sysModules < h.objs.size):dj P w H (h.push { cls:=.type "dict",data:=.dict #[] }) h.objs.size (.dK []):=
 ⟨Nat.zero_le _,beq_eq_false_iff_ne.mpr (Ne.symm (Nat.ne_of_lt hb)),[],.nil,Heap.DictOf.new h⟩
def Ur:TE:=λ_ H Q=>∀p,H p=none->Q (.ref p) (upd H p (.dK []))
section
variable {X:Cx}{pos:Pos}
theorem XJ:PE X (.Dict [] [] pos) Ur:=λpins s σ H Q I h=>
 wpAny_Dict_empty ⟨.ref s.heap.objs.size,_,I.laid (a:=s.heap.objs.size) (o:=.dK []) (t':=s.toks) (λ_ _ q=>Heap.get?_push_of_some _ q) (Nat.le_refl _) (XH s.heap I.big),rfl,h _ (I.hok.fresh (Nat.le_refl _))⟩
end
structure M1 (X:Cx)(o:Expr)(m:Str)(apos:Pos)(e:Expr)(cpos:Pos):Prop where
 base:attributeBase o m X.env (eval o X.env)=eval o X.env
 few:((backTo cpos (starEach [e] X.env)).all (λx=>!x.1)&&(backToKw cpos (keywordEach [] X.env)).all (λx=>x.1.isSome)
  && decide (([e]:List Expr).length+([]:List Keyword).length+(if ([]:List Keyword).isEmpty then 0 else 1) < 30))=true
 line:(apos.endLine==cpos.line)=true
 trees:backTo cpos (starEach [e] X.env)=[(false,eval e X.env)]
structure M2 (X:Cx)(o:Expr)(m:Str)(apos:Pos)(e f:Expr)(cpos:Pos):Prop where
 base:attributeBase o m X.env (eval o X.env)=eval o X.env
 few:((backTo cpos (starEach [e,f] X.env)).all (λx=>!x.1)&&(backToKw cpos (keywordEach [] X.env)).all (λx=>x.1.isSome)
  && decide (([e,f]:List Expr).length+([]:List Keyword).length+(if ([]:List Keyword).isEmpty then 0 else 1) < 30))=true
 line:(apos.endLine==cpos.line)=true
 trees:backTo cpos (starEach [e,f] X.env)=[(false,eval e X.env),(false,eval f X.env)]
end L2
namespace Att
open PySem PySem.W PySem.Calls PyProof.Rows
theorem Es {P:Params}{h:Heap}:∀(ns:List Int) (vs:List Value),WellAll P h vs (ns.map WData.int)->IntsAre vs ns:=by
 intro ns
 induction ns with
 | nil=>
  intro vs w;rw[List.map_nil]at w;cases w;exact .nil
 | cons n ns ih=>
  intro vs w;rw[List.map_cons]at w;cases w with
  | cons a b=>
   cases a;exact .cons _ _ (ih _ b)
theorem Us {l:OpenLaw}{n:Nat}(hn:l.most=some n){P:Params}{h:Heap}{args:List WData}{vals:List Value}
  (hpre:l.row.toRowW.claim.pre args=true) (hwl:WellAll P h vals args) :
  ∃a vs ns,vals=[Value.ref a]/\args=[WData.list (ns.map WData.int)]/\h.get? a=some { cls:=.type "list",data:=.seq vs.toArray }/\IntsAre vs ns/\ns.length<=n:=by
 have hsh:WShape.hasAll [] args [.list .int]=true:=(pre_splitW hpre).1;have hc:l.pre.holds [] { args:=args }=true:=(pre_splitW hpre).2;obtain⟨d,r,rfl,h1,h2⟩:=hasAllW_cons hsh;obtain rfl:=hasAllW_nil h2;obtain⟨xs,rfl,h3⟩:=hasW_list h1;obtain⟨ns,rfl⟩:=items_int h3;have hlen:ns.length<=n:=by
  unfold OpenLaw.pre at hc;have h4:(WTm.not (.lt (.lit (.int (n:Int))) (.len (.arg 0)))).holds [] { args:=[.list (ns.map .int)] }=true:=by
   have h4:=(holds_andW hc).1;rw[hn]at h4;exact h4
  have h5:=condW_of h4 (w_not (w_lt w_lit (w_len_list (w_arg rfl))));rw[List.length_map]at h5;refine Nat.le_of_not_lt λq=>?_;have q':(n:Int) < ((ns.length:Nat):Int):=by omega
  first
   | (rw[decide_eq_true q']at h5;exact absurd h5 (by decide))
   | (simp at h5;omega)
 cases hwl with
 | cons w1 w2=>
  cases w2;cases w1 with
  | list ho hall=>exact⟨_,_,ns,rfl,rfl,ho,Es ns _ hall,hlen⟩
theorem Ut (l:OpenLaw)(args:List WData):l.row.toRowW.claim.post args (.bool true) args=true:=
 postW_of (r:=l.row.toRowW) (X:=(true==true))
  (show WShape.has [] (.bool true) .bool=true by first | rfl | decide | simp[WShape.has,WShape.arms,WShape.armsAll])
  (show (WTm.eq .res (.lit (.bool true))).value [] { args:=args,res:=some (.bool true),after:=args }=some (.bool (true==true)) from w_eq_bool (w_res rfl) w_lit) rfl
theorem Om {l:OpenLaw}{n:Nat}{q:Program}{loose:List Str}{XP:(Str->Option Value)->Heap->Prop}{YP:World->Heap->Prop}{d:DefRec}
  (hn:l.most=some n) (hdf:d.params.defaults=[])
  (call:∀(w:World) (s₀ s₁:Shared) (mg mb:Str->Option Value) (fa:Addr) (o:Obj) (pm cd doc:Value) (a:Addr) (vs:List Value) (ns:List Int),
   Ground q loose [] XP w s₀ mg mb s₁.heap->YP w s₁.heap->
   s₁.heap.get? fa=some o->o.data=.func (docDef d.name d.params d.body d.scope pm cd doc)->s₁.heap.CodeRec cd d.name->mg d.name=some (.ref fa)->
   s₁.heap.get? a=some { cls:=.type "list",data:=.seq vs.toArray }->IntsAre vs ns->ns.length<=n->s₁.gens=#[]->
   codeAny (model l.prog w) callerA (.call (.ref fa) ⟨[.ref a],[]⟩) (λr s'=>r=.ok (.ret (.bool true))/\OldK s₁.heap s'.heap/\s'.os=s₁.os/\AllBare s'.gens) s₁) :
  WalkO q loose XP YP l.row.toRowW d [] (λf vs=>PySem.call f vs):=by
 intro w s₀ s₁ mg mb G Y fa o pm cd doc dV kV ho hd hcd hD hmg hg args vals as hpre hlay hrd hwl hlo;obtain rfl:dV=.none:=Dflts.none hD hdf;obtain rfl:kV=.none:=Dflts.noKw hD;obtain⟨a,vs,ns,rfl,rfl,hobj,hints,hlen⟩:=Us hn hpre hwl;refine enter_call (codeAny_mono (call w s₀ s₁ mg mb fa o pm cd doc a vs ns G Y ho (fd_plain hd) hcd hmg hobj hints hlen hg) λr s' hq=>?_);obtain⟨rfl,h2,h3,h4⟩:=hq;exact⟨.inl ⟨.bool true,.bool true,[],rfl,λ_=>rfl,.bool true,Ut l _,λ_=>⟨List.Pairwise.nil,λ_ hm=>(nomatch hm)⟩⟩,h2,h3,h4⟩
end Att
namespace L2
open PySem PySem.Spec PyProof.Rows
theorem Iz:∀{vs:List Value} {ns:List Int},IntsAre vs ns->Vals (ns.map V.int) vs
 | _,_,.nil=>.nil
 | _,_,.cons n t h=>.cons ⟨t,rfl⟩ (Iz h)
def Only (H:Hp):Prop:=∀b,H b=none\/∃o xs,H b=some (.lM o (.lst xs))
theorem XM {P:Program}{w:World}{K:PySem.W.Frag}{mg mb:Str->Option Value}{CX:m9}{k:Nat}{fa a:Addr}{fd:FuncData}{x:Str}{sp:Sp}{s₁:Shared}{vs:List Value}{ns:List Int}
  (KX:K.In s₁.heap) (hns:s₁.heap.Ns mainGlobals mg) (hb:s₁.heap.Ns builtinsNs mb) (hbb:∀x:Str,x≠"__name__"->mb x=bootBuiltins x) (hlim:s₁.heap.NoLimit) (hg:s₁.gens=#[])
  (ha:s₁.heap.get? a=some { cls:=.type "list",data:=.seq vs.toArray }) (hi:IntsAre vs ns) (hl:ns.length<=sizeLine) (hr:dw k callerA)
  (F:∀base:Heap,K.In base->base.Ns mainGlobals mg->cu P w K mg base CX k fa fd [x] sp) (hbind:∀(s:Shared) (u:Value),BindsTo s fd ⟨[u],[]⟩ [(x,u)])
  (hsp:∀H:Hp,Only H->aN K H a (ns.map V.int)->sp [.ref a] H (λv _=>v=.bl true) λ_ _ _=>False)
  (hCX:∀H e s',CX [] H s₁ (λ_ _ _=>False) e s'->False) :
  codeAny (model P w) callerA (.call (.ref fa) ⟨[.ref a],[]⟩) (λr s'=>r=.ok (.ret (.bool true))/\OldK s₁.heap s'.heap/\s'.os=s₁.os/\AllBare s'.gens) s₁:=by
 have rv:=Iz hi;have lenV:=hi.length;have core:∀H:Hp,Only H->aN K H a (ns.map V.int)->iz P w H s₁.heap->(∀b,H b≠none->b=a)->(H a≠none->K.lookup a=none)->
   codeAny (model P w) callerA (.call (.ref fa) ⟨[.ref a],[]⟩) (λr s'=>r=.ok (.ret (.bool true))/\OldK s₁.heap s'.heap/\s'.os=s₁.os/\AllBare s'.gens) s₁:=by
  intro H hO hS hok hA hK;have PK:∀{b:Addr} {o:Obj},s₁.heap.get? b=some o->H b=none->(wB s₁.heap H).get? b=some o:=λe n=>Xf e n;have Ug:∀{b:Addr} {o:Obj} {es:Array DictEntry} {ep:Nat},s₁.heap.get? b=some o->o.data=.dict es ep->H b=none:=λ{b o es ep} e d=>by
   cases q:H b with
   | none=>rfl
   | some u=>
    have e':b=a:=hA b (by rw[q];simp);subst e';rw[ha]at e;cases e;have d':Data.seq vs.toArray _=Data.dict es ep:=d;cases d'
  have ZX:∀{b:Addr} {m:Str->Option Value},s₁.heap.Ns b m->(wB s₁.heap H).Ns b m:=λ{b m} ⟨o,es,ep,e,d,r⟩=>⟨o,es,ep,PK e (Ug e d),d,r⟩
  have hKb:K.In (wB s₁.heap H):=λb o e=>PK (KX b o e) (by
   cases q:H b with
   | none=>rfl
   | some u=>
    have e':b=a:=hA b (by rw[q];simp);subst e';rw[hK (by rw[q];simp)]at e;cases e)
  have hM:Mod K mg (wB s₁.heap H):=⟨hKb,ZX hns,⟨mb,ZX hb,hbb⟩,let ⟨mc,h1,h2⟩:=hlim;⟨mc,ZX h1,h2⟩⟩
  have e0:Cv P w K mg (wB s₁.heap H) callerA [] s₁ H:=⟨rfl,hM,λb o e=>aao e,Nat.le_of_eq (TJ _ _),trivial,λb hb=>absurd (show b∈([]:List Addr) from hb) (by simp),hok,.of_eq hg⟩
  refine codeAny_mono ((F _ hKb (ZX hns)).run callerA [] s₁ H ⟨[.ref a],[]⟩ [.ref a] [.ref a] _ _ hr e0 (hbind s₁ (.ref a)) (.cons rfl .nil) (hsp H hO hS)) λr s' h=>?_;cases r with
  | error e=>exact(hCX H e s' h).elim
  | ok fl=>
   cases fl with
   | next=>exact False.elim h
   | brk=>exact False.elim h
   | cont=>exact False.elim h
   | ret u=>
    obtain⟨v,H',os,bare,un,hok',r',q⟩:=h;have q':v=.bl true:=q;subst q';obtain rfl:u=Value.bool true:=r';refine⟨rfl,OldK.of_keep λb o e=>?_,os,bare⟩;cases q:H b with
    | none=>exact un.keep b o e q (by intro z;exact absurd (show b∈([]:List Addr) from z) (by simp)) (by simp)
    | some u=>
     rcases hO b with z | ⟨ob,xs,z⟩
     ·rw[q]at z;cases z
     ·have z2:=un.jU b ob _ z
      obtain⟨e1,_⟩:=hok b _ z;obtain⟨e2,_⟩:=hok' b _ z2;rw[e]at e1;cases e1;exact e2
 cases hk:K.lookup a with
 | some o=>
  have e:=KX a o hk;rw[ha]at e;cases e;refine core (λ_=>none) (λ_=>.inl rfl) (.inr ⟨_,vs.toArray,_,hk,rfl,rfl,rfl,by rw[List.size_toArray,lenV];exact hl,by simpa using rv⟩) (λb u z=>by have z':(none:Option HO)=some u:=z;cases z') (λb z=>absurd rfl z) λz=>absurd rfl z
 | none=>
  refine core (λb=>if b=a then some (.lM { cls:=.type "list",data:=.seq vs.toArray } (.lst (ns.map V.int))) else none) (λb=>?_) (.inl (.inr ⟨{ cls:=.type "list",data:=.seq vs.toArray },if_pos rfl⟩)) (λb u z=>?_) (λb z=>?_) λ_=>hk
  ·by_cases hb:b=a
   ·exact .inr ⟨_,_,if_pos hb⟩
   ·exact .inl (if_neg hb)
  ·by_cases hb:b=a
   ·have z':=(if_pos hb).symm.trans z
    cases z';subst hb;exact⟨ha,by rw[List.length_map];exact hl,vs,_,rv,ha⟩
   ·have z':=(if_neg hb).symm.trans z
    cases z'
  ·by_cases hb:b=a
   ·exact hb
   ·exact absurd (if_neg hb) z
abbrev KOf {K:PySem.W.Frag}{h:Heap}(_:K.In h):PySem.W.Frag:=K
theorem aaK {l:PySem.W.OpenLaw}{n k:Nat}{q:Program}{loose:List Str}{XP:(Str->Option Value)->Heap->Prop}{YP:World->Heap->Prop}{d:DefRec}{K:Params->PySem.W.Frag}{CX:World->m9}{sp:World->Sp}{x:Str}
  (hn:l.most=some n) (hn2:n<=sizeLine) (hdf:d.params.defaults=[]) (hr:dw k callerA)
  (hY:∀(w:World) (h:Heap),YP w h->(K w.params).In h)
  (F:∀(w:World) (mg:Str->Option Value) (fa:Addr) (h:Heap),(K w.params).In h->h.Ns mainGlobals mg->mg d.name=some (.ref fa)->
   ∃fd:FuncData,(∀(s:Shared) (u:Value),BindsTo s fd ⟨[u],[]⟩ [(x,u)])/\
    ∀base:Heap,(K w.params).In base->base.Ns mainGlobals mg->cu l.prog w (K w.params) mg base (CX w) k fa fd [x] (sp w))
  (hsp:∀(w:World) (H:Hp) (a:Addr) (ns:List Int),ns.length<=n->Only H->aN (K w.params) H a (ns.map V.int)->sp w [.ref a] H (λv _=>v=.bl true) λ_ _ _=>False)
  (hCX:∀(w:World) (H:Hp) (s:Shared) (e:Value) (s':Shared),CX w [] H s (λ_ _ _=>False) e s'->False) :
  PySem.W.WalkO q loose XP YP l.row.toRowW d [] (λf vs=>PySem.call f vs):=by
 refine Att.Om hn hdf λw s₀ s₁ mg mb fa o pm cd doc a vs ns G Y ho hd hcd hmg hobj hints hlen hg=>?_;have KX:=hY w _ Y;obtain⟨fd,hb,hF⟩:=F w mg fa _ KX G.T.g hmg;exact XM KX G.T.g G.T.b G.T.builtins G.T.nolimit hg hobj hints (Nat.le_trans hlen hn2) hr hF hb (λH hO hS=>hsp w H a ns hlen hO hS) λH e s'=>hCX w H s₁ e s'
def inClass (s:Stmt)(j:Nat):Stmt:=match s with
 | .ClassDef _ _ _ body _ _ _ _ _ _ _=>body.getD j (.Pass ⟨0,0,0,0⟩)
 | _=>.Pass ⟨0,0,0,0⟩
def dM (s:Stmt):Arguments:=match s with
 | .FunctionDef _ a _ _ _ _ _ _ _ _=>a
 | _=>{ posonlyargs:=[],args:=[],vararg:=none,kwonlyargs:=[],kw_defaults:=[],kwarg:=none,defaults:=[] }
def cJ (s:Stmt):List Stmt:=match s with
 | .FunctionDef _ _ b _ _ _ _ _ _ _=>b
 | _=>[]
def aB (s:Stmt):Scope:=match s with
 | .FunctionDef _ _ _ _ _ _ sc _ _ _=>sc
 | _=>{ kind:=.function,names:=[],isGenerator:=false,isCoroutine:=false }
abbrev eV:m9:=λ_ _ _ _ _ _=>False
abbrev E0:XK:=λ_ _ _=>False
theorem jw {X:Cx}:Passes eV X E0:=λ_ _ _ _ _ _ _ h=>h.elim
structure fG (K:PySem.W.Frag)(x qual:Str)(st:Stmt)(f:Addr)(fd:FuncData):Prop where
 ex:∃(oc:Value) (od:Option Addr) (kV doc pm:Value) (an:Option Addr) (cdv ct:Value) (osl:Array (Option Value)),
  fd=PySem.W.fnOf x qual (dM st) (cJ st) (aB st) .none kV doc pm an cdv ct/\K.lookup f=some ⟨oc,od,.func fd,osl⟩/\PySem.W.codeIn K cdv qual=true
 kp:PySem.W.keepIn K (.ref f)=true
section
variable {P:Program}{w:World}{K:PySem.W.Frag}{mg:Str->Option Value}{base:Heap}
theorem fG.ok {x qual:Str}{st:Stmt}{f:Addr}{fd:FuncData}{N ps:List Str}{k:Nat}{sp:Sp}(F:fG K x qual st f fd)(S:aO N ps (aB st))(len:∀vs H Q E,sp vs H Q E->vs.length=ps.length)
  (hbody:∀(cdv:Value) (A:Around) (outer:List Env) (s:Shared) (H:Hp) (vs:List V) (Q:VK) (E:XK),dw k (A.deeper (envOfC qual (aB st) s.heap.objs.size f cdv))->sp vs H Q E->
   ∃t,qP (oK eV P w K mg base N qual (aB st) f cdv A outer s H E).Kp (cJ st) t/\t { nx:=λ_ H'=>Q .non H',rt:=Q } (start N vs) H):cu P w K mg base eV (k+1) f fd ps sp:=by
 obtain⟨oc,od,kV,doc,pm,an,cdv,ct,osl,rfl,lk,hcd⟩:=F.ex;refine ZL lk hcd S len λA outer s H vs Q E hr hsp=>?_;obtain⟨t,h,q⟩:=hbody cdv A outer s H vs Q E hr hsp;exact⟨t,h.Kp,q⟩
theorem fG.binds {x qual:Str}{st:Stmt}{f:Addr}{fd:FuncData}{ps:List Str}(F:fG K x qual st f fd)
  (h:∀(kV doc pm:Value) (an:Option Addr) (cdv ct:Value) (us:List Value),us.length=ps.length->bindArgs (PySem.W.fnOf x qual (dM st) (cJ st) (aB st) .none kV doc pm an cdv ct) ⟨us,[]⟩=pure (ps.zip us)):Binds K fd ps []:=by
 obtain⟨oc,od,kV,doc,pm,an,cdv,ct,osl,rfl,lk,hcd⟩:=F.ex;exact .all (h kV doc pm an cdv ct)
theorem gU {x qual:Str}{st:Stmt}{f:Addr}{oc:Value}{od an:Option Addr}{osl:Array (Option Value)}{kV doc pm cdv ct:Value}(l:K.lookup f=some ⟨oc,od,.func (PySem.W.fnOf x qual (dM st) (cJ st) (aB st) .none kV doc pm an cdv ct),osl⟩)
  (c:PySem.W.codeIn K cdv qual=true) (k:PySem.W.keepIn K (.ref f)=true):fG K x qual st f (PySem.W.fnOf x qual (dM st) (cJ st) (aB st) .none kV doc pm an cdv ct):=⟨⟨oc,od,kV,doc,pm,an,cdv,ct,osl,rfl,l,c⟩,k⟩
end
theorem Rv {A:Around}{k:Nat}(hr:dw k A):A.units+1 < cLine:=Nat.lt_of_le_of_lt (Nat.add_le_add_left (by decide:1<=64) _) hr.units
theorem aD {n:Nat}(h:n<=1000):n < sizeLine:=Nat.lt_of_le_of_lt h (by decide)
section
variable {X:Cx}
theorem pv (i:Nat){x:Str}{pos:Pos}(hN:X.N[i]?=some x:=by rfl)(hv:Zw X.env.scope x:=by first | exact Or.inl rfl | exact Or.inr (Or.inl rfl) | exact Or.inr (Or.inr rfl))(hd:(x==("__debug__":Str))=false:=by decide)
  (hcd:(x==("__classdict__":Str))=false:=by decide):PE X (.Name x pos) (gK i):=abY hN hv hd hcd
end
theorem aU {A B:Prop}(h:B):if false=true then A else B:=by
 rw[if_neg Bool.false_ne_true];exact h
theorem bw {A B:Prop}(h:A):if true=true then A else B:=by
 rw[if_pos rfl];exact h
theorem jV {c A B:Prop} [Decidable c] (h1:c->A)(h2:¬c->B):if c then A else B:=by
 by_cases h:c
 ·rw[if_pos h]
  exact h1 h
 ·rw[if_neg h]
  exact h2 h
theorem Bd {c A B:Prop} [Decidable c] (hc:c)(h:B):if (!decide c)=true then A else B:=by
 rw[decide_eq_true hc];exact aU h
def Same (H H':Hp):Prop:=∀b o,H b=some o->H' b=some o
theorem Same.refl (H:Hp):Same H H:=λ_ _ h=>h
theorem Same.trans {H H1 H2:Hp}(a:Same H H1)(b:Same H1 H2):Same H H2:=λc o h=>b c o (a c o h)
theorem Same.free {H H':Hp}(e:Same H H'){l:Addr}(h:H' l=Option.none):H l=Option.none:=by
 cases q:H l with
 | none=>rfl
 | some o=>
  rw[e l o q]at h;cases h
theorem Same.seq {K:PySem.W.Frag}{H H':Hp}{a:Addr}{xs:List V}(e:Same H H')(h:aN K H a xs):aN K H' a xs:=by
 rcases h with(h | ⟨o,h⟩) | h
 ·exact .inl (.inl (e _ _ h))
 ·exact .inl (.inr ⟨o,e _ _ h⟩)
 ·exact .inr h
section
variable {κ:Type}[DecidableEq κ]
theorem GC:∀{l:List κ} {k:κ},l.Nodup->¬k∈l->(l++[k]).Nodup
 | [],k,_,_=>by simp
 | a::r,k,h,hk=>by
  obtain⟨h1,h2⟩:=List.nodup_cons.mp h;show (a::(r++[k])).Nodup;refine List.nodup_cons.mpr ⟨λm=>?_,GC h2 λm=>hk (List.mem_cons.mpr (Or.inr m))⟩;rcases List.mem_append.mp m with q | q
  ·exact h1 q
  ·exact hk (List.mem_cons.mpr (Or.inl (List.mem_singleton.mp q).symm))
end
end L2
end
section
namespace L2
open PySem PySem.Spec PyProof.Rows
def blk (X:Cx)(scope:Scope)(cl:List (Str × Addr))(C:Addr)(x:Str)(s₀:Shared)(H₀:Hp)(fp:List Addr):Cx:=
 { X with N:=x::X.N,s₀:=s₀,H₀:=H₀,env:=compEnvC scope cl C X.env,outer:=X.stack,ex:=fp,fn:=λ_=>false,pn:=[],xe:=λ_ _=>False }
structure gW (X:Cx)(scope:Scope)(x:Str):Prop where
 kind:scope.kind=.function
 pF:∀y∈scope.names,y.2≠.cell
 names:∀y∈scope.names,y.2=.local->scope.names.lookup y.1=some .local
 hx:scope.names.lookup x=some .local
 free:∀y∈scope.names,y.2=.free->X.env.kindOf y.1=some .cell\/X.env.kindOf y.1=some .free
 out:∀y∈X.N,scope.names.lookup y≠some .local
 nd:X.N.Nodup
def PL (sc:Scope)(N:List Str)(scope:Scope)(x:Str):Bool:=
 scope.kind == .function&&scope.names.all (λy=>y.2 != .cell)&&scope.names.all (λy=>y.2 != .local||scope.names.lookup y.1==some .local)&&scope.names.lookup x==some .local &&
 scope.names.all (λy=>y.2 != .free||sc.names.lookup y.1==some .cell||sc.names.lookup y.1==some .free)&&N.all (λy=>scope.names.lookup y != some .local)
theorem gW.of {X:Cx}{scope:Scope}{x:Str}(hN:X.N.Nodup)(h:PL X.env.scope X.N scope x=true):gW X scope x:=by
 unfold PL at h;simp only[Bool.and_eq_true,List.all_eq_true,Bool.or_eq_true,bne_iff_ne,beq_iff_eq,ne_eq]at h;obtain⟨⟨⟨⟨⟨h1,h2⟩,h3⟩,h4⟩,h5⟩,h6⟩:=h;refine⟨h1,λy hy=>h2 y hy,λy hy e=>(h3 y hy).resolve_left λz=>z e,h4,λy hy e=>?_,λy hy=>h6 y hy,hN⟩;rcases h5 y hy with(z | z) | z
 ·exact absurd e z
 ·exact .inl z
 ·exact .inr z
theorem cg {α:Type}:∀{l:List (Str × α)} {x:Str} {a:α},l.lookup x=some a->(x,a)∈l
 | [],_,_,h=>by simp at h
 | (y,b)::r,x,a,h=>by
  rw[List.lookup_cons]at h
  split at h
  ·rename_i e
   have e':x=y:=by simpa using e
   cases h;subst e';exact List.mem_cons_self
  ·exact List.mem_cons_of_mem _ (cg h)
theorem m_ {env:Env}:∀(names:List (Str × NameKind)),(∀y∈names,y.2=.free->∃c,env.cells.lookup y.1=some c)->∀acc:List (Str × Addr),(∀n c,acc.lookup n=some c->env.cells.lookup n=some c)->
  ∃cl,(forIn names acc (λ(p:Str × NameKind) (cs:List (Str × Addr))=>if (p.2==NameKind.free)=true then (do let a <- cellOf env p.1;pure (ForInStep.yield ((p.1,a)::cs))) else (pure (ForInStep.yield cs):Sem _)):Sem (List (Str × Addr)))=pure cl/\
   (∀n c,cl.lookup n=some c->env.cells.lookup n=some c)/\(∀n,(∃c,acc.lookup n=some c)->∃c,cl.lookup n=some c)/\∀n,(n,NameKind.free)∈names->∃c,cl.lookup n=some c
 | [],_,acc,ha=>⟨acc,by simp,ha,λ_ h=>h,λ_ h=>by simp at h⟩
 | (n,k)::r,hf,acc,ha=>by
  have hr:∀y∈r,y.2=.free->∃c,env.cells.lookup y.1=some c:=λy hy=>hf y (List.mem_cons_of_mem _ hy);by_cases hk:k=.free
  ·subst hk
   obtain⟨c,hc⟩:=hf (n,.free) List.mem_cons_self rfl;obtain⟨cl,e,h1,h2,h3⟩:=m_ r hr ((n,c)::acc) (λn' c' h=>by
    rw[List.lookup_cons]at h
    split at h
    ·rename_i q
     have q':n'=n:=by simpa using q
     cases h;subst q';exact hc
    ·exact ha n' c' h)
   refine⟨cl,?_,h1,λn' h=>h2 n' ?_,λn' h=>?_⟩
   ·rw[List.forIn_cons]
    simp only[beq_self_eq_true,if_true];have e2:cellOf env n=pure c:=by unfold cellOf;rw[hc]
    rw[e2];simp only[pure_bind];exact e
   ·obtain⟨c',hc'⟩:=h
    rw[List.lookup_cons]
    split
    ·exact⟨c,rfl⟩
    ·exact⟨c',hc'⟩
   ·rcases List.mem_cons.mp h with q | q
    ·refine h2 n' ⟨c,?_⟩
     cases q;rw[List.lookup_cons,beq_self_eq_true]
    ·exact h3 n' q
  ·have hb:(k==NameKind.free)=false:=by simpa using hk
   obtain⟨cl,e,h1,h2,h3⟩:=m_ r hr acc ha;refine⟨cl,?_,h1,h2,λn' h=>?_⟩
   ·rw[List.forIn_cons]
    simp only[hb,Bool.false_eq_true,if_false,pure_bind];exact e
   ·rcases List.mem_cons.mp h with q | q
    ·cases q;exact absurd rfl hk
    ·exact h3 n' q
theorem bV {env:Env}:∀{names:List (Str × NameKind)} {x:Str} {k:NameKind},
  (names.map λ(n,k)=>if (k==NameKind.free&&env.scope.kind == .function&&env.kindOf n==some .cell) then (n,NameKind.cell) else (n,k)).lookup x=some k->names.lookup x=some k\/(k=.cell/\names.lookup x=some .free)
 | [],_,_,h=>by simp at h
 | (n,j)::r,x,k,h=>by
  have ih:=@bV env r x k;have h':List.lookup x ((if (j==NameKind.free&&env.scope.kind == .function&&env.kindOf n==some .cell)=true then (n,NameKind.cell) else (n,j))::_)=some k:=h;by_cases hc:(j==NameKind.free&&env.scope.kind == .function&&env.kindOf n==some .cell)=true
  ·rw[if_pos hc]at h'
   cases hx:x==n with
   | true=>
    simp only[List.lookup_cons,hx]at h' ⊢;cases h';have:j=.free:=by simp at hc;exact hc.1.1
    exact .inr ⟨rfl,by rw[this]⟩
   | false=>simp only[List.lookup_cons,hx]at h' ⊢;exact ih h'
  ·rw[if_neg hc]at h'
   cases hx:x==n with
   | true=>simp only[List.lookup_cons,hx]at h' ⊢;exact .inl h'
   | false=>simp only[List.lookup_cons,hx]at h' ⊢;exact ih h'
theorem wK {prog:Program}{w:World}{A:Around}{R:Result->Shared->Prop}{s:Shared}{elt target iter:Expr}{ifs:List Expr}{scope:Scope}{pos:Pos}{it acc:Value}{env:Env}(I:Nat->Shared->Prop)
  (turn:∀n s,I n s->wpAny (model prog w) A (pyNext it) (λr s₁=>match r with
   | none=>R (.ok .next) s₁
   | some v=>wpAny (model prog w) A (letOwnedTupleGo target it v) (λ_ s₀=>wpAny (model prog w) A (assign target env v) (λ_ s₂=>
     wpAny (model prog w) A (forIn ifs true λc r=>if r=true then do let ok <- isTrue c env (eval c env);pure (ForInStep.yield ok) else pure (ForInStep.yield r)) (λok s₃=>
      if ok=true then wpAny (model prog w) A (eval elt env) (λx s₄=>
       wpAny (model prog w) A (call (.builtin "list.append") [acc,x]) (λ_ s₅=>∃m,m < n/\I m s₅) (λ_ _=>False) s₄) (λ_ _=>False) s₃
      else ∃m,m < n/\I m s₃) (λ_ _=>False) s₂) (λ_ _=>False) s₀) (λ_ _=>False) s₁) (λ_ _=>False) s)
  (n:Nat) (h:I n s) :
  codeAny (model prog w) A (.compLoop (.ListComp elt [⟨target,iter,ifs,0⟩] scope pos) 0 it acc env) R s:=by
 refine codeAny_loop rfl I (λn s hI=>?_) n h;show wpAny _ A ((compTurn (.ListComp elt [⟨target,iter,ifs,0⟩] scope pos) 0 it acc env).onRaise (λx=>do noteFrame x env;theTreesLotGoes x)) _ _ s;refine wpAny_noted ?_;rw[compTurn_list];refine wpAny_bind (wpAny_standAt (wpAny_bind (wpAny_mono (turn n s hI) (λr s₁ h₁=>?_) λ_ _ h'=>h'.elim)));cases r with
 | none=>exact wpAny_pure h₁
 | some v=>
  refine wpAny_bind (wpAny_mono h₁ (λ_ s₀ h₀=>?_) λ_ _ h'=>h'.elim);refine wpAny_bind (wpAny_mono h₀ (λ_ s₂ h₂=>wpAny_bind (wpAny_mono h₂ (λok s₃ h₃=>?_) λ_ _ h'=>h'.elim)) λ_ _ h'=>h'.elim);cases ok with
  | false=>exact wpAny_pure ⟨rfl,h₃⟩
  | true=>
   exact wpAny_bind (wpAny_bind (wpAny_mono h₃ (λx s₄ h₄=>wpAny_bind (wpAny_mono h₄ (λ_ s₅ h₅=>wpAny_pure (wpAny_pure ⟨rfl,h₅⟩)) λ_ _ h'=>h'.elim)) λ_ _ h'=>h'.elim))
def PN (X:Cx)(ifs:List Expr)(t:TT):Prop:=
 ∀(pins:List (Addr × Obj)) (s:Shared) (σ:St) (H:Hp) (Q:Bool->Hp->Prop),Inv X pins σ H s->t σ H Q->
  wpAny (model X.prog X.w) X.A (forIn ifs true λc r=>if r=true then do let ok <- isTrue c X.env (eval c X.env);pure (ForInStep.yield ok) else pure (ForInStep.yield r)) (TP X pins σ Q) X.xe s
def gq:TT:=λ_ H Q=>Q true H
theorem aaL {X:Cx}:PN X [] gq:=λ_ _ _ H _ I h=>wpAny_tests_nil ⟨H,I,h⟩
theorem aaM {X:Cx}{c:Expr}{t:TT}(h:PT X c t):PN X [c] t:=λpins s σ H Q I q=>wpAny_tests_one (h pins s σ H Q I q)
def Z0 (wi:TI)(tt:TT)(te:TE):TE:=λσ H Q=>wi σ H λJ H1=>∀D,H1 D=none->∃W:Nat->Nat->List V->Hp->Prop,(∃m,W 0 m [] (upd H1 D (.lst [])))/\
 ∀i m ys H,W i m ys H->(J.stop i H/\Q (.ref D) H)\/(J.go i H/\∀x H',J.nZ i H x H'->tt (some x::σ) H' λb H2=>
  if b=true then te (some x::σ) H2 λy H3=>H3 D=some (.lst ys)/\ys.length < sizeLine/\∃m',m' < m/\W (i+1) m' (ys++[y]) (upd H3 D (.lst (ys++[y])))
  else ∃m',m' < m/\W (i+1) m' ys H2)
theorem aaN {X:Cx}{elt iter:Expr}{x:Str}{px:Pos}{ifs:List Expr}{scope:Scope}{pos:Pos}{wi:TI}{tt:TT}{te:TE}(hc:X.calm=true)(ok:gW X scope x)(hi:PI X (.Name x px) iter wi)
  (ht:∀cl C s₀ H₀ fp,PN (blk X scope cl C x s₀ H₀ fp) ifs tt) (he:∀cl C s₀ H₀ fp,PE (blk X scope cl C x s₀ H₀ fp) elt te)
  (hs:∀x,foldedSetIterable iter X.env x=pure x:=by intro _;rfl):PE X (.ListComp elt [⟨.Name x px,iter,ifs,0⟩] scope pos) (Z0 wi tt te):=by
 intro pins s σ H Q I h;obtain⟨cl,hcl,hsub,_,hall⟩:=m_ (env:=X.env) scope.names (λy hy e=>I.ok.has y.1 (ok.free y hy e)) [] (λ_ _ z=>by simp at z);have hclos:closureFor scope X.env=pure cl:=by
  unfold closureFor;simp only[bind_pure];exact hcl
 rw[eval_ListComp];refine wpAny_comprehension_free (use:=none) (E:=X.xe) (cl:=cl) rfl hs hclos ok.kind ok.names (bG (hi pins s σ H _ I h) λv s1 h1=>bG h1 λitv s2 h2=>?_);obtain⟨it,fp,tn,J,H2,e,I2,T,st2,f2,R⟩:=h2;subst e;obtain⟨W,⟨m0,w0⟩,turn⟩:=R s2.heap.objs.size I2.fresh;refine wpAny_newObj_type (wpAny_newFunctionEnv ok.pF (by intro y hy;simp at hy) (λh₁ hns₁ hsb₁=>?_) ok.kind);dsimp only at hns₁ hsb₁ ⊢;have I3:Inv X pins σ (upd H2 s2.heap.objs.size (.lst [])) { s2 with heap:=s2.heap.push { cls:=.type "list",data:=.seq ([]:List Value).toArray } }:=I2.Rt (t':=s2.toks) (ys:=[]) (its:=[]) .nil (Nat.zero_le _);generalize Uu:upd H2 s2.heap.objs.size (HO.lst [])=H3 at *
 generalize hs3:s2.heap.push { cls:=.type "list",data:=.seq ([]:List Value).toArray }=hp3 at *
 generalize hD:s2.heap.objs.size=D at *
 generalize hC:hp3.objs.size=C at *
 have hDC:D < C:=by rw[<- hC,<- hs3,Heap.size_push,hD];exact Nat.lt_succ_self _
 have old:∀b o,hp3.get? b=some o->h₁.get? b=some o:=λb o e=>(hsb₁.2 b (by rw[<- hC];exact Nat.ne_of_lt (Heap.lt_size e))).trans (Heap.get?_push_of_some _ e);have IK:∀b∈fp,b < C:=λb hb=>by
  obtain⟨o,e,_⟩:=T.obj _ _ st2 b hb;rw[<- hC,<- hs3,Heap.size_push];exact Nat.lt_succ_of_lt (Heap.lt_size e)
 have f3:∀b∈fp,mD X pins H3 b:=λb hb=>by
  obtain⟨o,e,_⟩:=T.obj _ _ st2 b hb;refine⟨?_,(f2 b hb).2⟩;rw[<- Uu,aP (by rw[<- hD];exact Nat.ne_of_lt (Heap.lt_size e))];exact(f2 b hb).1
 have yZ:∀b∈fp,b∉frs X.stack:=λb hb z=>by
  obtain⟨_,g1,g2,_⟩:=f3 b hb;rcases List.mem_cons.mp (I3.vJ b z) with q | q
  ·exact g1 q
  ·exact g2 q
 have Uv:(blk X scope cl C x { s2 with heap:=hp3 } H3 fp).Ok:=by
  refine⟨I.ok.mod,?_,I.ok.glob,I.ok.blt,Nat.le_of_eq hC,?_,?_,?_,I.ok.hd,I.ok.frames,.inl rfl,?_,?_,?_,?_,?_,?_,?_⟩
  ·exact ok.kind
  ·exact λa b c h1 h2=>I.ok.inj a b c (hsub a c h1) (hsub b c h2)
  ·intro a ha
   refine hall a ?_;rcases ha with z | z
   ·rcases bV (env:=X.env) z with q | ⟨_,q⟩
    ·exact absurd rfl (ok.pF _ (cg q))
    ·exact cg q
   ·rcases bV (env:=X.env) z with q | ⟨q,_⟩
    ·exact cg q
    ·cases q
  ·intro a c hf;cases hf
  ·intro b hb
   refine⟨Nat.ne_of_lt (IK b hb),λa c h1=>(f3 b hb).2.2.2.2.1 a c (hsub a c h1)⟩
  ·exact I3.bs
  ·exact Nat.le_trans I.ok.qN I3.sz
  ·intro b o e hb
   rcases(f3 b hb).2.2.2.1 with z | z
   ·exact I.ok.uW b o e z
   ·exact absurd (Nat.lt_of_lt_of_le (Heap.lt_size e) (Nat.le_trans I.ok.qN z)) (Nat.lt_irrefl _)
  ·exact yZ
  ·exact I3.stack
  ·exact I3.oF
 have Y0:Inv (blk X scope cl C x { s2 with heap:=hp3 } H3 fp) [] (none::σ) H3 { s2 with heap:=h₁,toks:=s2.toks+([]:List (Str × Value)).length }:=by
  refine⟨Uv,rfl,I3.bare,Un.kept old,⟨_,hns₁,?_⟩,?_,?_,?_,λp hp=>by simp[blk]at hp,I3.hok.kept old,?_⟩
  ·intro i y v e1 e2 e3
   cases i with
   | zero=>simp at e2
   | succ i=>
    have e1':X.N[i]?=some y:=by simpa [blk] using e1
    have e2':σ[i]?=some (some v):=by simpa using e2
    have hy:y∈X.N:=List.mem_of_getElem? e1';have hfree:(y,NameKind.free)∈scope.names:=by
     have key:∀k,(relabel scope X.env).names.lookup y=some k->k≠.local->k=.cell\/k=.free->(y,NameKind.free)∈scope.names:=λk q n hk=>by
      rcases bV (env:=X.env) q with z | ⟨_,z⟩
      ·rcases hk with rfl | rfl
       ·exact absurd rfl (ok.pF _ (cg z))
       ·exact cg z
      ·exact cg z
     rcases e3 with z | z | z
     ·rcases bV (env:=X.env) z with q | ⟨q,_⟩
      ·exact absurd q (ok.out y hy)
      ·cases q
     ·exact key _ z (by decide) (.inl rfl)
     ·exact key _ z (by decide) (.inr rfl)
    have hk:=ok.free _ hfree rfl;obtain⟨m,hn,hl⟩:=I3.loc;obtain⟨u,r,q⟩:=hl i y v e1' e2' (by rcases hk with z | z;exact .inr (.inl z);exact .inr (.inr z));refine⟨u,r,.inr ⟨?_,?_⟩⟩
    ·rcases e3 with z | z | z
     ·rcases bV (env:=X.env) z with q | ⟨q,_⟩
      ·exact absurd q (ok.out y hy)
      ·cases q
     ·exact .inl z
     ·exact .inr z
    ·rcases q with⟨z,_⟩ | ⟨_,c,hc',hcell⟩
     ·rcases hk with q | q <;> (rw[z]at q;cases q)
     ·obtain⟨c',hc2⟩:=hall y hfree
      have:c'=c:=by have:=hsub y c' hc2;rw[hc']at this;exact(Option.some.inj this).symm
      subst this;obtain⟨o,ho,hd⟩:=hcell;exact⟨c',hc2,o,old _ _ ho,hd⟩
  ·intro a c h1
   obtain⟨v,o,ho,hd⟩:=I3.cell a c (hsub a c h1);exact⟨v,o,old _ _ ho,hd⟩
  ·show H3 C=none
   exact I3.hok.fresh (Nat.le_of_eq hC)
  ·exact λa c h1=>I3.iR a c (hsub a c h1)
  ·show (none::σ).length=(x::X.N).length
   rw[List.length_cons,List.length_cons,I.len]
 have back:∀(s':Shared) (v:Option V) (H':Hp) (h':Heap),Inv (blk X scope cl C x { s2 with heap:=hp3 } H3 fp) [] (v::σ) H' s'->Heap.SameBut C s'.heap h'->(∀b∈fp,H' b=none)->Inv X pins σ H' { s' with heap:=h' }:=by
  intro s' v H' h' I' sb fr;have qO:∀b o,hp3.get? b=some o->b≠C:=λb o e=>by rw[<- hC];exact Nat.ne_of_lt (Heap.lt_size e)
  have U:Un (frs X.stack) fp H3 H' hp3 s'.heap:=I'.base;refine I3.call' (ch:=fp) (H':=H') (s':={ s' with heap:=h' }) I'.os ⟨λb o e n h1 h2=>(sb.2 b (qO b o e)).trans (U.keep b o e n h1 h2),λb o e n h1 h2=>?_,U.free,λb o e h2=>?_,U.tups,U.jU,U.j5⟩ (λb ob e=>?_) I'.bare λb hb=>?_
  ·obtain⟨sl,q⟩:=U.slot b o e n h1 h2
   exact⟨sl,(sb.2 b (qO b o e)).trans q⟩
  ·obtain⟨o',q⟩:=U.there b o e h2
   exact⟨o',(sb.2 b (qO b o e)).trans q⟩
  ·have fC:H' C=none:=I'.free
   refine(I'.hok b ob e).stay (λc w' hc q=>(sb.2 c ?_).trans q) (λ_ q=>q) λ_ _ q=>q;rintro rfl;rcases hc with rfl | hc
   ·rw[fC]at e;cases e
   ·rw[fC]at hc;cases hc
  ·obtain⟨_,g1,_,g3,g4,g5⟩:=f3 b hb
   exact⟨g3,g1,g4,g5⟩
 have stat:∀{H':Hp},(∀b∈fp,H' b=none)->∀b∈fp,mD (blk X scope cl C x { s2 with heap:=hp3 } H3 fp) [] H' b:=λhn b hb=>
  ⟨hn b hb,Nat.ne_of_lt (IK b hb),yZ b hb,.inl hb,λa c h1=>(f3 b hb).2.2.2.2.1 a c (hsub a c h1),λp hp=>by simp[blk]at hp⟩
 have st₁:tn 0 h₁:=T.keep _ _ _ st2 λb _ o e=>old b o (by rw[<- hs3];exact Heap.get?_push_of_some _ e);have loop:codeAny (model X.prog X.w) X.A (.compLoop (.ListComp elt [⟨.Name x px,iter,ifs,0⟩] scope pos) 0 (.ref it) (.ref D) (compEnvC scope cl C X.env)) (compPost (model X.prog X.w) X.A X.xe none (EP X pins σ Q) (.ref D) C)
   { s2 with heap:=h₁,toks:=s2.toks+([]:List (Str × Value)).length }:=by
  refine wK (λn s'=>∃i v ys H',Inv (blk X scope cl C x { s2 with heap:=hp3 } H3 fp) [] (v::σ) H' s'/\tn i s'.heap/\(∀b∈fp,H' b=none)/\W i n ys H') ?_ m0 ⟨0,none,[],H3,Y0,st₁,λb hb=>(f3 b hb).1,w0⟩;rintro n s4 ⟨i,v,ys,H4,I4,IV,za,w4⟩;rcases turn i n ys H4 w4 with⟨stop,qn⟩ | ⟨go,step⟩
  ·refine bG (T.done (blk X scope cl C x { s2 with heap:=hp3 } H3 fp) rfl rfl rfl hc i [] s4 (v::σ) H4 _ I4 (stat za) IV stop) λr s5 ⟨hr,I5⟩=>?_
   subst hr;obtain⟨m,hn,_⟩:=id I5.loc;exact⟨m,hn,λh' sb=>⟨.ref D,H4,back s5 v H4 h' I5 sb za,rfl,qn⟩⟩
  ·refine bG (T.item (blk X scope cl C x { s2 with heap:=hp3 } H3 fp) rfl rfl rfl hc i [] s4 (v::σ) H4 _ I4 (stat za) IV go) λr s5 ⟨u,hr,h5⟩=>?_
   subst hr;refine bG h5 λ_ s6 ⟨y,H6,I6,r6,y6,zc,Uw⟩=>?_;have Ux:=I6.pinned (stat Uw) (T.obj _ _ zc);refine wpAny_assign_Name (wC (X:=blk X scope cl C x { s2 with heap:=hp3 } H3 fp) (i:=0) Ux ?_ rfl (.inl (lookup_relabel_local ok.hx)) r6 (λs7 I7=>?_) (.inr (lookup_relabel_local ok.hx)))
   ·show (x::X.N).Nodup
    exact List.nodup_cons.mpr ⟨λz=>ok.out x z ok.hx,ok.nd⟩
   have Uy:Inv (blk X scope cl C x { s2 with heap:=hp3 } H3 fp) _ (some y::σ) H6 s7:=I7;refine bG (ht cl C { s2 with heap:=hp3 } H3 fp _ s7 _ H6 _ Uy (step y H6 y6)) λb s8 ⟨H8,I8,q8⟩=>?_;have pY:∀{σ':St} {H':Hp} {s':Shared},Inv (blk X scope cl C x { s2 with heap:=hp3 } H3 fp) ([]++rY fp s6.heap) σ' H' s'->tn (i+1) s'.heap/\∀b∈fp,H' b=none:=λ{σ' H' s'} I9=>by
    refine⟨T.keep _ _ _ zc λb hb o e=>(I9.pin (b,o) (List.mem_append_right _ (List.mem_append_right _ (iW hb e)))).1,λb hb=>?_⟩;obtain⟨o,e,d⟩:=T.obj _ _ zc b hb;exact(I9.pin (b,o) (List.mem_append_right _ (List.mem_append_right _ (iW hb e)))).2.1
   cases b with
   | false=>
    obtain⟨m',hm,w'⟩:=q8;obtain⟨k1,k2⟩:=pY I8;exact⟨m',hm,i+1,some y,ys,H8,I8.jF,k1,k2,w'⟩
   | true=>
    have Uz:te (some y::σ) H8 _:=q8;show wpAny _ _ (eval elt _) _ _ _;refine bG (he cl C { s2 with heap:=hp3 } H3 fp _ s8 _ H8 _ I8 Uz) λz s9 ⟨zv,H9,I9,r9,UG,UJ,m',hm,w'⟩=>?_;refine bG (gn (X:=blk X scope cl C x { s2 with heap:=hp3 } H3 fp) _ s9 _ H9 (.ref D) [zv] (.ref D) [z] (λ_ H'=>H'=upd H9 D (.lst (ys++[zv]))) I9 rfl (.cons r9 .nil) ⟨D,ys,zv,rfl,rfl,UG,UJ,rfl⟩) λ_ UL ⟨_,Z1,IW,_,e10⟩=>?_;subst e10;obtain⟨k1,k2⟩:=pY IW;exact⟨m',hm,i+1,some y,ys++[zv],_,IW.jF,k1,k2,w'⟩
 exact codeAny_compStart_list loop (T.self X.A 0 _ _ _ st₁ loop)
def dh (n i:Nat)(P:Prop):Prop:=∃m',m' < n-i/\m'=n-(i+1)/\i+1<=n/\P
theorem dh.mk {n i:Nat}{P:Prop}(h:i < n)(p:P):dh n i P:=⟨_,by omega,rfl,h,p⟩
theorem I_ {K:PySem.W.Frag}{a D:Addr}{xs:List V}{te:TE}{σ:St}{H:Hp}{R:Hp->Prop}(Pv:Nat->List V->Hp->Prop)(h0:Pv 0 [] (upd H D (.lst [])))(hl:∀i ys H,i<=xs.length->Pv i ys H->aN K H a xs)
  (hs:∀i x ys H,xs[i]?=some x->Pv i ys H->te (some x::σ) H λy H3=>H3 D=some (.lst ys)/\ys.length < sizeLine/\dh xs.length i (Pv (i+1) (ys++[y]) (upd H3 D (.lst (ys++[y])))))
  (hd:∀ys H,Pv xs.length ys H->R H) :
  ∃W:Nat->Nat->List V->Hp->Prop,(∃m,W 0 m [] (upd H D (.lst [])))/\
   ∀i m ys H,W i m ys H->((tX K a).stop i H/\R H)\/((tX K a).go i H/\∀x H',(tX K a).nZ i H x H'->gq (some x::σ) H' λb H2=>
    if b=true then te (some x::σ) H2 λy H3=>H3 D=some (.lst ys)/\ys.length < sizeLine/\∃m',m' < m/\W (i+1) m' (ys++[y]) (upd H3 D (.lst (ys++[y])))
    else ∃m',m' < m/\W (i+1) m' ys H2):=by
 refine⟨λi m ys H=>m=xs.length-i/\i<=xs.length/\Pv i ys H,⟨xs.length,by simp,Nat.zero_le _,h0⟩,?_⟩;rintro i m ys H ⟨rfl,hi,p⟩;have q:=hl i ys H hi p;by_cases hlt:i < xs.length
 ·refine .inr ⟨⟨xs,xs[i],q,by simp[hlt]⟩,λx H' y=>?_⟩
  obtain⟨e,y⟩:=y;subst e;exact hs i x ys H' (y xs q) p
 ·have e:i=xs.length:=by omega
  subst e;exact .inl ⟨⟨xs,q,Nat.le_refl _⟩,hd ys H p⟩
theorem Rw {lo:Int}{n:Nat}{D:Addr}{te:TE}{σ:St}{H:Hp}{R:Hp->Prop}(Pv:Nat->List V->Hp->Prop)(h0:Pv 0 [] (upd H D (.lst [])))
  (hs:∀i ys H,i < n->Pv i ys H->te (some (.int (lo+i))::σ) H λy H3=>H3 D=some (.lst ys)/\ys.length < sizeLine/\dh n i (Pv (i+1) (ys++[y]) (upd H3 D (.lst (ys++[y])))))
  (hd:∀ys H,Pv n ys H->R H) :
  ∃W:Nat->Nat->List V->Hp->Prop,(∃m,W 0 m [] (upd H D (.lst [])))/\
   ∀i m ys H,W i m ys H->((BR lo n).stop i H/\R H)\/((BR lo n).go i H/\∀x H',(BR lo n).nZ i H x H'->gq (some x::σ) H' λb H2=>
    if b=true then te (some x::σ) H2 λy H3=>H3 D=some (.lst ys)/\ys.length < sizeLine/\∃m',m' < m/\W (i+1) m' (ys++[y]) (upd H3 D (.lst (ys++[y])))
    else ∃m',m' < m/\W (i+1) m' ys H2):=by
 refine⟨λi m ys H=>m=n-i/\i<=n/\Pv i ys H,⟨n,by simp,Nat.zero_le _,h0⟩,?_⟩;rintro i m ys H ⟨rfl,hi,p⟩;by_cases hlt:i < n
 ·refine .inr ⟨hlt,λx H' y=>?_⟩
  obtain⟨e,y⟩:=y;subst e y;exact hs i ys H' hlt p
 ·have e:i=n:=by omega
  subst e;exact .inl ⟨Nat.le_refl _,hd ys H p⟩
end L2
end
section
namespace L2
open PySem PySem.Spec PyProof.Rows
def S (l:List Nat):Str:=⟨l.toArray⟩
theorem aef (l:List Nat):(S l).cps.toList=l:=rfl
theorem pG (l:List Nat):(S l).length=l.length:=rfl
theorem Kd {a b:List Nat}(h:S a=S b):a=b:=congrArg (λs:Str=>s.cps.toList) h
theorem acV (z:Str):S z.cps.toList=z:=by cases z;rfl
theorem aeg (a b:List Nat):S a++S b=S (a++b):=by
 show (⟨a.toArray++b.toArray⟩:Str)=⟨(a++b).toArray⟩
 simp
theorem Z4 (a b:List Nat):decide (V.str (S a)=V.str (S b))=decide (a=b):=by
 by_cases e:a=b
 ·subst e;simp
 ·rw[decide_eq_false e,decide_eq_false]
  intro z;injection z with z;exact e (Kd z)
section
variable {X:Cx}{a b c e o:Expr}{pos:Pos}
theorem aaO (l:List Nat){x:Str}{j pos}(h:x=S l):PE X (.Constant (.str x) j pos) (tC (.str (S l))):=by rw[h];exact ab1
def aeh:R2:=λx y H Q=>∃i j,x=.str (S i)/\y=.str (S j)/\i.length+j.length<=sizeLine/\Q (.str (S (i++j))) H
theorem lu:dX X (binaryOp .Add) aeh:=by
 intro pins s σ H x y v u Q I rx ry h;obtain⟨i,j,rfl,rfl,hz,q⟩:=h;exact Rj pins s σ H _ _ v u Q I rx ry ⟨S i,S j,rfl,rfl,hz,by rw[aeg];exact q⟩
def aei:R2:=λx y H Q=>∃l i c,x=.str (S l)/\y=.int i/\l.length<=sizeLine/\mV l i=some c/\Q (.str (S [c])) H
theorem ni:Kw X aei:=by
 intro value slice pins s σ H x y v u Q I rx ry h hs;obtain⟨l,i,c,rfl,rfl,hz,hc,q⟩:=h;exact acN value slice pins s σ H _ _ v u Q I rx ry ⟨S l,i,c,rfl,rfl,hz,hc,q⟩ hs
def Rx:List V->Hp->VK->Prop:=λxs H Q=>∃l,xs=[.str (S l)]/\l.length<=sizeLine/\Q (.int l.length) H
theorem cT:gC X (.builtin "len") Rx:=by
 intro pins s σ H xs us Q I r h;obtain⟨l,rfl,hz,q⟩:=h;exact KC pins s σ H _ us Q I r ⟨S l,rfl,hz,q⟩
def aeL:R2:=λx y H Q=>∃i j,x=.str (S i)/\y=.str (S j)/\Q (.bl (decide (i=j))) H
theorem pZ:dX X (compareOp .Eq) aeL:=by
 intro pins s σ H x y v u Q I rx ry h;obtain⟨i,j,rfl,rfl,q⟩:=h;exact jr pins s σ H _ _ v u Q I rx ry ⟨rfl,by rw[Z4];exact q⟩
def XQ:R2:=λx y H Q=>∃i j,x=.str (S i)/\y=.str (S j)/\Q (.bl (!decide (i=j))) H
theorem j8:dX X (compareOp .NotEq) XQ:=by
 intro pins s σ H x y v u Q I rx ry h;obtain⟨i,j,rfl,rfl,q⟩:=h;exact pD pins s σ H _ _ v u Q I rx ry ⟨rfl,by rw[Z4];exact q⟩
def aeM:R2:=λx y H Q=>∃c l,x=.str (S [c])/\y=.str (S l)/\Q (.bl (decide (c∈l))) H
theorem acW:dX X (compareOp .In) aeM:=by
 intro pins s σ H x y v u Q I rx ry h;obtain⟨c,l,rfl,rfl,q⟩:=h;exact Uc pins s σ H _ _ v u Q I rx ry ⟨S [c],S l,rfl,rfl,by
  have e:=StrLaws.found_one (S l) c;rw[aef]at e;rw[show (S [c])=(⟨#[c]⟩:Str) from rfl,e];exact q⟩
def qI (l:List Nat)(lo hi:Option Int):List Nat:=(l.drop (HT.fX l.length 0 lo)).take (HT.fX l.length l.length hi-HT.fX l.length 0 lo)
theorem PX (lo hi:Option Int)(n:Nat):Builtin.Str.strSliceIndices lo hi 1 n=(List.range (HT.fX n n hi-HT.fX n 0 lo)).map (λk=>HT.fX n 0 lo+k):=by
 have clip:∀(v:Int) (d:Nat),max (0:Int) (min (if v < 0 then v+(n:Int) else v) (n:Int))=((HT.fX n d (some v):Nat):Int):=λv d=>by
  rw[<- HT.aaE];split <;> omega
 have key:∀a b:Nat,sliceRange (a:Int) (b:Int) 1=(List.range (b-a)).map (λk=>a+k):=λa b=>by
  simp only[sliceRange,show ((1:Int) > 0)=True from by simp,if_true];by_cases hlt:(a:Int) < b
  ·have e3:(((b:Int)-a+1-1)/1).toNat=b-a:=by first | omega | (simp;done) | (simp;omega)
   simp only[hlt,if_true,e3];refine List.map_congr_left λk _=>?_;omega
  ·have:b-a=0:=by omega
   simp[hlt,this]
 unfold Builtin.Str.strSliceIndices;simp only[show ((1:Int) > 0)=True from by simp,if_true];cases lo with
 | none=>
  cases hi with
  | none=>exact key 0 n
  | some j=>dsimp only;rw[clip j n];exact key 0 _
 | some i=>
  cases hi with
  | none=>dsimp only;rw[clip i 0];exact key _ n
  | some j=>dsimp only;rw[clip i 0,clip j n];exact key _ _
theorem UW (l:List Nat)(lo hi:Option Int):Txt.slice (S l) lo hi=S (qI l lo hi):=by
 have hle:HT.fX l.length l.length hi<=l.length:=HT.acL _ _ (Nat.le_refl _) _;have key:((Builtin.Str.strSliceIndices lo hi 1 (S l).length).filterMap ((S l).cps[·]?))=qI l lo hi:=by
  rw[PX];have h:=StrLaws.picks l (HT.fX l.length l.length hi-HT.fX l.length 0 lo) (HT.fX l.length 0 lo);unfold qI;by_cases hc:HT.fX l.length 0 lo<=HT.fX l.length l.length hi
  ·have h2:=h (by omega)
   rw[pG];simpa [S] using h2
  ·have e:HT.fX l.length l.length hi-HT.fX l.length 0 lo=0:=by omega
   rw[pG,e];simp
 unfold Txt.slice
 split
 ·rename_i hc
  have hlen:(Builtin.Str.strSliceIndices lo hi 1 (S l).length).length=l.length:=by
   simp at hc;simpa [pG] using hc
  have hl2:HT.fX l.length l.length hi-HT.fX l.length 0 lo=l.length:=by rw[PX,pG]at hlen;simpa using hlen
  have h0:HT.fX l.length 0 lo=0\/l.length=0:=by omega
  have e:qI l lo hi=l:=by
   unfold qI;rw[hl2];rcases h0 with z | z
   ·rw[z];simp
   ·have:l=[]:=List.length_eq_zero_iff.mp z
    subst this;simp
  rw[e]
 ·rw[key];rfl
def aeN:V->Option Int->Option Int->Hp->VK->Prop:=λx lo hi H Q=>∃l,x=.str (S l)/\l.length<=sizeLine/\Q (.str (S (qI l lo hi))) H
theorem part_of {v:Value}{o:Option Int}(p:IsPart v o):∃l:Option (Int × Tok),v=partValue l/\l.map (·.1)=o:=by
 cases p with
 | none=>exact⟨none,rfl,rfl⟩
 | int i t=>exact⟨some (i,t),rfl,rfl⟩
theorem Ry:ZP X aeN:=by
 intro pins s σ H x v vl vu lo hi sl Q I rx hs pl pu h;obtain⟨l,rfl,hz,q⟩:=h;obtain⟨t,rfl⟩:=rx;obtain⟨p1,rfl,rfl⟩:=part_of pl;obtain⟨p2,rfl,rfl⟩:=part_of pu;refine⟨"str",_,F.slot_str_getitem.lookup,typeIs_str _ _ _,?_⟩;refine wpAny_getItem_str_slice (l:=p1) (u:=p2) (st:=none) hs rfl ?_;have e:=UW l (p1.map (·.1)) (p2.map (·.1));have hle:(Txt.slice (S l) (p1.map (·.1)) (p2.map (·.1))).length<=sizeLine:=Nat.le_trans (Txt.slice_le _ _ _) hz;refine post_val_or_str ⟨hle,λt' k=>?_⟩;have e':(if ((Option.map (λx:Int × Tok=>x.1) none).getD 1==1&&(slicePicked (S l) p1 p2 none).length==(S l).length)=true then S l else ⟨((slicePicked (S l) p1 p2 none).filterMap ((S l).cps[·]?)).toArray⟩)=S (qI l (p1.map (·.1)) (p2.map (·.1))):=e;exact⟨.str (S (qI l (p1.map (·.1)) (p2.map (·.1)))),H,I.tok _,⟨t',congrArg (λz=>Value.str z t') e'⟩,q⟩
abbrev Ts (ls:List (List Nat)):List V:=ls.map λl=>V.str (S l)
def Z5 (K:PySem.W.Frag):List V->Hp->VK->Prop:=λxs H Q=>∃x n t b,xs=[x,.ty n]/\jy K H x t/\PySem.W.kitOne K t (.type n)=some b/\Q (.bl b) H
theorem fj:gC X (.builtin "isinstance") (Z5 X.K):=by
 intro pins s σ H xs us Q I r h;obtain⟨x,n,t,b,rfl,ty,k,q⟩:=h;obtain⟨u,w',rfl,r1,r2⟩:=vals2 r;cases r2;exact Ud I r1 ty k λtk=>⟨.bl b,H,I.tok tk,rfl,q⟩
def Z6:R2:=λx y H Q=>∃l n,x=.str (S l)/\y=.int (n:Nat)/\1<=n/\n < 1000/\l.length < 1000/\Q (.str (S (List.replicate n l).flatten)) H
theorem KH (l:List Nat):∀(n:Nat) (acc:Array Nat),((List.replicate n l.toArray).foldl (· ++ ·) acc).toList=acc.toList++(List.replicate n l).flatten
 | 0,acc=>by simp
 | n+1,acc=>by
  rw[List.replicate_succ,List.foldl_cons,KH l n,List.replicate_succ];simp
theorem GD:dX X (binaryOp .Mult) Z6:=by
 intro pins s σ H x y v u Q I rx ry h;obtain⟨l,n,rfl,rfl,h1,h2,h3,q⟩:=h;obtain⟨t,rfl⟩:=rx;obtain⟨t',rfl⟩:=ry;have hsmall:l.length*n<=1000*1000:=Nat.mul_le_mul (Nat.le_of_lt h3) (Nat.le_of_lt h2);have hbig:(1000*1000:Nat)<=sizeLine:=by decide
 refine PySem.P.mul_str ?_ ?_ ?_ ?_
 ·rw[decide_eq_false (by omega),decide_eq_false (by omega)];rfl
 ·intro _ _
  have e:(2^63-1:Int)/(n:Int)>=1000:=by
   refine Int.le_ediv_of_mul_le (by omega) ?_;have:(1000:Int)*(n:Int)<=1000*1000:=by omega
   omega
  rw[pG];omega
 ·intro _ _
  show decide (_ > _)=false;rw[decide_eq_false];rw[pG,Int.toNat_natCast];omega
 ·rw[if_neg (by omega)]
  have hres:(⟨(List.replicate (n:Int).toNat (S l).cps).foldl (· ++ ·) #[]⟩:Str)=S (List.replicate n l).flatten:=by
   have e:=KH l n #[];rw[Int.toNat_natCast];unfold S;congr 1;apply Array.toList_inj.mp;simpa using e
  rw[hres]
  split
  ·rename_i hc
   have e:(List.replicate n l).flatten=l:=by
    simp at hc;rcases hc with z | z
    ·have:n=1:=by omega
     subst this;simp
    ·have:l=[]:=by simpa [S,Str.length] using z
     subst this;simp
   rw[e]at q;exact⟨.str (S l),H,I,⟨t,rfl⟩,q⟩
  ·refine⟨?_,.str (S (List.replicate n l).flatten),H,I.tok _,⟨_,rfl⟩,q⟩
   rw[pG,len_rep,Nat.mul_comm];omega
theorem P0 (ls:List (List Nat)):Txt.join (S []) (ls.map S)=S ls.flatten:=by
 unfold Txt.join Builtin.Str.glued;have key:∀(ls:List (List Nat)) (acc:Array Nat),((ls.map S).foldl (λacc p=>acc++(S []).cps++p.cps) acc).toList=acc.toList++ls.flatten:=by
  intro ls
  induction ls with
  | nil=>intro acc;simp
  | cons l r ih=>intro acc;rw[List.map_cons,List.foldl_cons,ih];simp[S]
 unfold S;congr 1;apply Array.toList_inj.mp;cases ls with
 | nil=>rfl
 | cons l r=>
  have:=key r (S l).cps;have e:(List.map S (l::r)).drop 1=List.map S r:=rfl;show (((List.map S (l::r)).drop 1).foldl _ (S l).cps).toList=_;rw[e];exact this.trans (by simp[S])
def rJoin (K:PySem.W.Frag):V->List V->Hp->VK->Prop:=λx vs H Q=>∃p ls,x=.str (S [])/\vs=[.ref p]/\aN K H p (Ts ls)/\ls.flatten.length<=1000/\Q (.str (S ls.flatten)) H
theorem Bf:∀{ls:List (List Nat)} {us:List Value},Vals (Ts ls) us->StrsAre us (ls.map S)
 | [],_,.nil=>.nil
 | l::r,_,.cons q t=>by
  obtain⟨t',rfl⟩:=q;exact .cons (S l) t' (Bf t)
theorem P_ (ls:List (List Nat)):((ls.map S).map (·.length)).sum=ls.flatten.length:=by
 induction ls with
 | nil=>rfl
 | cons l r ih=>rw[List.map_cons,List.map_cons,List.sum_cons,ih,List.flatten_cons,List.length_append,pG]
theorem rO:vM X "str.join" (rJoin X.K):=by
 intro pins s σ H x vs v us Q I rx rv h;obtain⟨p,ls,rfl,rfl,hq,hz,q⟩:=h;obtain⟨t,rfl⟩:=rx;obtain⟨u,rfl,ru⟩:=vals1 rv;cases ru;obtain⟨its,r,pl,_⟩:=I.list hq;refine join_list pl.isList (ys:=ls.map S) (by simpa using Bf r) ?_ λt' k=>?_
 ·rw[P_];show _+_*0<=_;omega
 ·exact⟨.str (S ls.flatten),H,I.tok k,⟨t',congrArg (λz=>Value.str z t') (P0 ls)⟩,q⟩
end
end L2
end
section
namespace L2
open PySem PySem.Spec PyProof.Rows
structure aG (K:PySem.W.Frag)(mg:Str->Option Value)(name:Str)(st:Stmt)(ps:List Str):Prop where
 ex:∃f fd,fG K name name st f fd/\Binds K fd ps []/\mg name=some (.ref f)
structure Def (P:Program)(w:World)(K:PySem.W.Frag)(mg:Str->Option Value)(base:Heap)(name:Str)(k:Nat)(ps:List Str)(sp:Sp):Prop where
 ex:∃f fd,cu P w K mg base eV k f fd ps sp/\Binds K fd ps []/\mg name=some (.ref f)/\PySem.W.keepIn K (.ref f)=true
theorem aG.ok {P:Program}{w:World}{K:PySem.W.Frag}{mg:Str->Option Value}{base:Heap}{name:Str}{st:Stmt}{N ps:List Str}{k:Nat}{sp:Sp}(D:aG K mg name st ps)(S:aO N ps (aB st))(len:∀vs H Q E,sp vs H Q E->vs.length=ps.length)
  (hbody:∀(f:Addr) (cdv:Value) (A:Around) (outer:List Env) (s:Shared) (H:Hp) (vs:List V) (Q:VK) (E:XK),dw k (A.deeper (envOfC name (aB st) s.heap.objs.size f cdv))->sp vs H Q E->
   ∃t,qP (oK eV P w K mg base N name (aB st) f cdv A outer s H E).Kp (cJ st) t/\t { nx:=λ_ H'=>Q .non H',rt:=Q } (start N vs) H):Def P w K mg base name (k+1) ps sp:=by
 obtain⟨f,fd,F,b,g⟩:=D.ex;exact⟨f,fd,F.ok S len (hbody f),b,g,F.kp⟩
section
variable {X:Cx}{x:Str}{p pos:Pos}{e:Expr}{es:List Expr}{t:TA}
theorem acX {k:Nat}{ps:List Str}{sp:Sp}(D:Def X.prog X.w X.K X.mg X.base x k ps sp)(hr:dw k X.A)(hg:Gl X x)(ha:PA X (e::es) t)(hdb:(x==("__debug__":Str))=false:=by decide)
  (hs:starEach (e::es) X.env=(false,eval e X.env)::starEach es X.env:=by rfl) (hpl:(backTo pos (starEach es X.env)).any (·.1)=false:=by rfl) :
  PE X (.Call (.Name x p) (e::es) [] pos) (Ka sp [] E0 t):=by
 obtain⟨f,fd,G,b,g,kp⟩:=D.ex;exact aaB G hr hg g kp b .nil jw ha hdb hs hpl
end
theorem Same.upd {H:Hp}{p:Addr}{o:HO}(h:H p=none):Same H (upd H p o):=λb o' e=>by rw[aP (bR e h)];exact e
theorem Same.bK {H H':Hp}{p:Addr}{o:HO}(s:Same H H')(h:H p=none):Same H (L2.upd H' p o):=λb o' e=>by rw[aP (bR e h)];exact s b o' e
theorem bB {K:PySem.W.Frag}{h:Heap}{mg:Str->Option Value}{name:Str}{st:Stmt}{ps:List Str}{f:Addr}{oc:Value}{od an:Option Addr}{osl:Array (Option Value)}{kV doc pm cdv ct:Value}(X:K.In h)(G:h.Ns mainGlobals mg)
  (a:PySem.W.nsIn K mainGlobals name=some (some (.ref f))) (l:K.lookup f=some ⟨oc,od,.func (PySem.W.fnOf name name (dM st) (cJ st) (aB st) .none kV doc pm an cdv ct),osl⟩)
  (c:PySem.W.codeIn K cdv name=true) (k:PySem.W.keepIn K (.ref f)=true)
  (hb:∀(kV doc pm:Value) (an:Option Addr) (cdv ct:Value) (us:List Value),us.length=ps.length->bindArgs (PySem.W.fnOf name name (dM st) (cJ st) (aB st) .none kV doc pm an cdv ct) ⟨us,[]⟩=pure (ps.zip us)):aG K mg name st ps:=
 ⟨f,_,gU l c k,(gU l c k).binds hb,PySem.W.mg_of X G a⟩
theorem acY {K:PySem.W.Frag}{h:Heap}{mg:Str->Option Value}{st:Stmt}{x:Str}{f fa:Addr}{oc:Value}{od an:Option Addr}{osl:Array (Option Value)}{kV doc pm cdv ct:Value}(X:K.In h)(G:h.Ns mainGlobals mg)(hfa:mg "law"=some (.ref fa))
  (a:PySem.W.nsIn K mainGlobals "law"=some (some (.ref f))) (l:K.lookup f=some ⟨oc,od,.func (PySem.W.fnOf "law" "law" (dM st) (cJ st) (aB st) .none kV doc pm an cdv ct),osl⟩)
  (c:PySem.W.codeIn K cdv "law"=true) (k:PySem.W.keepIn K (.ref f)=true)
  (hb:∀(kV doc pm:Value) (an:Option Addr) (cdv ct v:Value),bindArgs (PySem.W.fnOf "law" "law" (dM st) (cJ st) (aB st) .none kV doc pm an cdv ct) ⟨[v],[]⟩=pure [(x,v)]) :
  ∃fd:FuncData,fG K "law" "law" st fa fd/\∀(s:Shared) (v:Value),BindsTo s fd ⟨[v],[]⟩ [(x,v)]:=by
 have e:=hfa.symm.trans (PySem.W.mg_of X G a);cases e;exact⟨_,gU l c k,λs v=>.of_eq (hb kV doc pm an cdv ct v)⟩
def Ke (K:PySem.W.Frag):Sp:=λvs H Q _=>∃(a:Addr) (ns:List Int),vs=[.ref a]/\aN K H a (ns.map V.int)/\ns.length<=63/\∀H',Q (.bl true) H'
theorem aaP {x:Str}{l:PySem.W.OpenLaw}{q:Program}{loose:List Str}{XP:(Str->Option Value)->Heap->Prop}{YP:World->Heap->Prop}{d:DefRec}{K:Params->PySem.W.Frag}(hn:l.most=some 63)(hdf:d.params.defaults=[])
  (hY:∀(w:World) (h:Heap),YP w h->(K w.params).In h)
  (F:∀(w:World) (mg:Str->Option Value) (fa:Addr) (h:Heap),(K w.params).In h->h.Ns mainGlobals mg->mg d.name=some (.ref fa)->
   ∃fd:FuncData,(∀(s:Shared) (u:Value),BindsTo s fd ⟨[u],[]⟩ [(x,u)])/\∀base:Heap,(K w.params).In base->base.Ns mainGlobals mg->cu l.prog w (K w.params) mg base eV 20 fa fd [x] (Ke (K w.params))) :
  PySem.W.WalkO q loose XP YP l.row.toRowW d [] (λf vs=>PySem.call f vs):=
 L2.aaK (n:=63) (k:=20) (x:=x) (CX:=λ_=>eV) (sp:=λw=>Ke (K w.params)) hn (by decide) hdf ⟨rfl,by decide,by decide⟩ hY F (λ_ _ a ns hl _ hS=>⟨a,ns,rfl,hS,hl,λ_=>rfl⟩) λ_ _ _ _ _ z=>z
end L2
end
section
namespace L2
open PySem PySem.Spec PyProof.Rows
namespace RV
end RV
end L2
end
section
namespace L2
open PySem PySem.Spec PyProof.Rows
end L2
end
section
namespace L2
open PySem PySem.Spec PyProof.Rows
structure QE (X:Cx)(e:Expr)(t:TE):Prop where
 out:PE X e t
structure QT (X:Cx)(e:Expr)(t:TT):Prop where
 out:PT X e t
structure QW (X:Cx)(e:Expr)(t:TT):Prop where
 out:PW X e t
structure QA (X:Cx)(es:List Expr)(t:TA):Prop where
 out:PA X es t
structure QS (X:Cx)(st:Stmt)(t:TS):Prop where
 out:PS X st t
structure qb (X:Cx)(st:List Stmt)(t:TS):Prop where
 out:qP X st t
structure QG (X:Cx)(e:Expr)(t:TG):Prop where
 out:PG X e t
structure Z7 (X:Cx)(es:List Expr)(t:BP):Prop where
 out:T5 X es t
structure QI (X:Cx)(tg iter:Expr)(wi:TI):Prop where
 out:PI X tg iter wi
structure QO (X:Cx)(e:Option Expr)(t:TO):Prop where
 out:PO X e t
structure QC (X:Cx)(op:CmpOp)(a b:Expr)(t:TE):Prop where
 out:PC X op a b t
structure U0 (X:Cx)(ifs:List Expr)(t:TT):Prop where
 out:PN X ifs t
theorem QW.qt {X:Cx}{e:Expr}{t:TT}(h:QW X e t):QT X e t:=⟨h.out.pt⟩
section
variable {X:Cx}
theorem bD  : qb X [] Zz:=
 ⟨aas⟩
end
section
variable {X:Cx}{st:Stmt}{rest:List Stmt}{t u:TS}
theorem au (h1:QS X st t)(h2:qb X rest u):qb X (st::rest) (acg t u):=
 ⟨Xh h1.out h2.out⟩
end
section
variable {X:Cx}{st:Stmt}{t:TS}
theorem aA (h1:QS X st t):qb X [st] t:=
 ⟨aat h1.out⟩
end
section
variable {X:Cx}{t u:TS}{pos:Pos}
theorem bO {c:Expr}{a b:List Stmt}{tc:TT}(hc:QT X c tc)(ha:qb X a t)(hb:qb X b u):QS X (.If c a b pos) (aci tc t u):=
 ⟨ad8 hc.out ha.out hb.out⟩
end
section
variable {X:Cx}{e:Expr}{te:TE}{pos:Pos}
theorem aQ (he:QE X e te):QS X (.Return (some e) pos) (Xi te):=
 ⟨ach he.out⟩
end
section
variable {X:Cx}{e:Expr}{te:TE}{pos:Pos}
theorem cX (he:QE X e te)(hs:swapsWith e none pos.line X.env=pure false:=by rfl):QS X (.Expr e pos) (ZC te):=
 ⟨aau he.out hs⟩
end
section
variable {X:Cx}{tg:Expr}
theorem dF {iter:Expr}{body:List Stmt}{wi:TI}{g:TG}{tb:TS}{pos:Pos}(hp:PassesOwn (model X.prog X.w) X.A X.env X.xe)(hc:X.calm=true)(hi:QI X tg iter wi)(hg:QG X tg g)(hb:qb X body tb)(hs:∀x,foldedSetIterable iter X.env x=pure x:=by intro _;rfl):QS X (.For tg iter body [] pos) (acs wi g tb):=
 ⟨acu hp hc hi.out hg.out hb.out hs⟩
end
section
variable {X:Cx}{pos:Pos}
theorem Cz {c:Expr}{body:List Stmt}{tc:TT}{tb:TS}(hp:PassesOwn (model X.prog X.w) X.A X.env X.xe)(hc:QT X c tc)(hb:qb X body tb):QS X (.While c body [] pos) (T6 tc tb):=
 ⟨Xk hp hc.out hb.out⟩
end
section
variable {X:Cx}{pos:Pos}
theorem aM {i:Nat}{x:Str}{e:Expr}{te:TE}{pos':Pos}(hN:X.N.Nodup)(hi:X.N[i]?=some x)(hx:Loc X.env.scope x)(he:QE X e te)(hs:swapsWith e (some (.Name x pos')) pos.line X.env=pure false:=by rfl)(hf:X.fn x=true\/X.env.scope.names.lookup x=some .local:=by first | exact .inl rfl | exact .inr rfl | assumption):QS X (.Assign [.Name x pos'] e pos) (Gu te (m6 i)):=
 ⟨acp hN hi hx he.out hs hf⟩
end
section
variable {X:Cx}
theorem zf {sts:List Stmt}:qb X sts T3:=
 ⟨T4⟩
end
section
variable {X:Cx}{o value:Expr}{f:Str}{pos pos':Pos}{ta tv:TE}
theorem Et (ha:QE X o ta)(hv:QE X value tv)(hs:swapsWith value (some (.Attribute o f pos')) pos.line X.env=pure false):QS X (.Assign [.Attribute o f pos'] value pos) (acB X.K ta tv f):=
 ⟨acD ha.out hv.out hs⟩
end
section
variable {X:Cx}{pos:Pos}
theorem Eu {tg e:Expr}{te:TE}{g:TG}(he:QE X e te)(hg:QG X tg g)(hs:swapsWithSole [tg] e pos.line X.env=pure false:=by rfl)(hw:swappedStores [tg] e X.env=pure none:=by rfl)(h1:(assignEach [tg] X.env).map (·.2)=[assign tg X.env]:=by rfl):QS X (.Assign [tg] e pos) (Gu te g):=
 ⟨aco he.out hg.out hs hw h1⟩
end
section
variable {X:Cx}{pos:Pos}
theorem bI {i:Nat}{x:Str}(hN:X.N.Nodup)(hi:X.N[i]?=some x)(hx:Loc X.env.scope x)(hf:X.fn x=true\/X.env.scope.names.lookup x=some .local:=by first | exact .inl rfl | exact .inr rfl | assumption):QG X (.Name x pos) (m6 i):=
 ⟨oG hN hi hx hf⟩
end
section
variable {X:Cx}{pos:Pos}
theorem lQ {es:List Expr}{k:Nat}{t:BP}{n:Nat}(hc:X.calm=true)(h:Z7 X es t)(hn:(assignEach es X.env).length=n:=by rfl)(hst:(assignEach es X.env).findIdx? (·.1)=none:=by rfl):QG X (.Tuple es k pos) (Rb X.K n t):=
 ⟨Kq hc h.out hn hst⟩
end
section
variable {X:Cx}
theorem jQ  : Z7 X [] Ra:=
 ⟨Gs⟩
end
section
variable {X:Cx}
theorem bT {e:Expr}{es:List Expr}{t:TG}{u:BP}(h1:QG X e t)(h2:Z7 X es u)(hs:(assignEach (e::es) X.env).map (·.2)=assign e X.env::(assignEach es X.env).map (·.2):=by rfl):Z7 X (e::es) (wD t u):=
 ⟨oH h1.out h2.out hs⟩
end
section
variable {X:Cx}
theorem aq {i j pos}:QE X (.Constant (.int i) j pos) (tC (.int i)):=
 ⟨abZ⟩
end
section
variable {X:Cx}
theorem gD {b j pos}:QE X (.Constant (.bool b) j pos) (tC (.bl b)):=
 ⟨ad5⟩
end
section
variable {X:Cx}
theorem sE {j pos}:QE X (.Constant .none j pos) (tC .non):=
 ⟨ab0⟩
end
section
variable {X:Cx}{a b:Expr}{ta tb:TE}{pos:Pos}
theorem aH {op:Operator}{r:R2}(ho:dX X (binaryOp op) r)(ha:QE X a ta)(hb:QE X b tb):QE X (.BinOp a op b pos) (n6 r ta tb):=
 ⟨ad9 ho ha.out hb.out⟩
end
section
variable {X:Cx}{a:Expr}{ta:TE}{pos:Pos}
theorem wL {op:UnaryOp}{r:V->Hp->VK->Prop}(ho:ZJ X (unaryOp op) r)(ha:QE X a ta):QE X (.UnaryOp op a pos) (tUn r ta):=
 ⟨ad_ ho ha.out⟩
end
section
variable {X:Cx}{a b:Expr}{ta tb:TE}{pos:Pos}
theorem dB {op:CmpOp}{r:R2}(ho:dX X (compareOp op) r)(ha:QE X a ta)(hb:QE X b tb)(hm:behindInMarks op b=false):QE X (.Compare a [op] [b] pos) (n6 r ta tb):=
 ⟨aax ho ha.out hb.out hm⟩
end
section
variable {X:Cx}{a b:Expr}{ta tb:TE}{pos:Pos}
theorem bh {op:CmpOp}{r:R2}(ho:dX X (compareOp op) r)(ha:QE X a ta)(hb:QE X b tb)(hm:behindInMarks op b=false):QT X (.Compare a [op] [b] pos) (wF (n6 r ta tb)):=
 ⟨aay ho ha.out hb.out hm⟩
end
section
variable {X:Cx}{a b c:Expr}{ta tb tc:TE}{pos:Pos}
theorem jG {op op':CmpOp}{r r':R2}(ho:dX X (compareOp op) r)(ho':dX X (compareOp op') r')(ha:QE X a ta)(hb:QE X b tb)(hc:QE X c tc)(hm:lastMarks [op,op'] [b,c]=false:=by with_unfolding_all rfl):QE X (.Compare a [op,op'] [b,c] pos) (yV r r' ta tb tc):=
 ⟨Xn ho ho' ha.out hb.out hc.out hm⟩
end
section
variable {X:Cx}{a b c:Expr}{ta tb tc:TE}{pos:Pos}
theorem mF {op op':CmpOp}{r r':R2}(ho:dX X (compareOp op) r)(ho':dX X (compareOp op') r')(ha:QE X a ta)(hb:QE X b tb)(hc:QE X c tc)(hm:lastMarks [op,op'] [b,c]=false:=by with_unfolding_all rfl):QT X (.Compare a [op,op'] [b,c] pos) (wF (yV r r' ta tb tc)):=
 ⟨Xo ho ho' ha.out hb.out hc.out hm⟩
end
section
variable {X:Cx}{pos:Pos}
theorem cP {e:Expr}{t:TE}(h:QE X e t)(he:∀whole,isTrue e X.env whole=(do let v <- whole;standAt e.pos;holding [v] (truthy v)):=by intro _;rfl):QT X e (tB t):=
 ⟨ab4 h.out he⟩
end
section
variable {X:Cx}{a:Expr}{pos:Pos}{tA:TT}
theorem dG (ha:QT X a tA):QT X (.UnaryOp .Not a pos) (ab6 tA):=
 ⟨ab9 ha.out⟩
end
section
variable {X:Cx}{a b:Expr}{pos:Pos}{tA lN:TT}{rest:List Expr}
theorem iY (ha:QT X a tA)(hb:QW X (.BoolOp .And (b::rest) pos) lN):QW X (.BoolOp .And (a::b::rest) pos) (ab5 tA lN):=
 ⟨ab8 ha.out hb.out⟩
end
section
variable {X:Cx}{a:Expr}{pos:Pos}{tA:TT}
theorem lB (ha:QT X a tA):QW X (.BoolOp .And [a] pos) tA:=
 ⟨aar ha.out⟩
end
section
variable {X:Cx}{a b:Expr}{pos:Pos}{tA lN:TT}{rest:List Expr}
theorem nj (ha:QT X a tA)(hb:QW X (.BoolOp .Or (b::rest) pos) lN):QW X (.BoolOp .Or (a::b::rest) pos) (tOr tA lN):=
 ⟨ad6 ha.out hb.out⟩
end
section
variable {X:Cx}{a:Expr}{pos:Pos}{tA:TT}
theorem lR (ha:QT X a tA):QW X (.BoolOp .Or [a] pos) tA:=
 ⟨ab7 ha.out⟩
end
section
variable {X:Cx}{a b:Expr}{ta tb:TE}{pos:Pos}{rest:List Expr}
theorem iZ (ha:QE X a ta)(hb:QE X (.BoolOp .And (b::rest) pos) tb):QE X (.BoolOp .And (a::b::rest) pos) (Zx ta tb):=
 ⟨ace ha.out hb.out⟩
end
section
variable {X:Cx}{a b:Expr}{ta tb:TE}{pos:Pos}{rest:List Expr}
theorem Rz (ha:QE X a ta)(hb:QE X (.BoolOp .Or (b::rest) pos) tb):QE X (.BoolOp .Or (a::b::rest) pos) (ab_ ta tb):=
 ⟨ad7 ha.out hb.out⟩
end
section
variable {X:Cx}{a:Expr}{pos:Pos}
theorem gY {op}{t:TE}(h:QE X a t):QE X (.BoolOp op [a] pos) t:=
 ⟨acd h.out⟩
end
section
variable {X:Cx}{a:Expr}{ta:TE}{pos:Pos}
theorem U3 (ha:QE X a ta):QE X (.UnaryOp .Not a pos) (Zy ta):=
 ⟨acf ha.out⟩
end
section
variable {X:Cx}{a b:Expr}{ta tb:TE}{pos:Pos}{tA:TT}
theorem mG {c:Expr}(hc:QT X c tA)(ha:QE X a ta)(hb:QE X b tb):QE X (.IfExp c a b pos) (tIf tA ta tb):=
 ⟨Xg hc.out ha.out hb.out⟩
end
section
variable {X:Cx}{a b:Expr}{ta tb:TE}{pos:Pos}
theorem aL {r:R2}(hr:Kw X r)(ha:QE X a ta)(hb:QE X b tb)(hs:Pz b):QE X (.Subscript a b pos) (n6 r ta tb):=
 ⟨aea hr ha.out hb.out hs⟩
end
section
variable {X:Cx}{e:Expr}{te:TE}{lo hi:Option Expr}{tl th:TO}{pos p2:Pos}
theorem oM {r:V->Option Int->Option Int->Hp->VK->Prop}(hr:ZP X r)(he:QE X e te)(hl:QO X lo tl)(hu:QO X hi th):QE X (.Subscript e (.Slice lo hi none p2) pos) (tSl r te tl th):=
 ⟨Xx hr he.out hl.out hu.out⟩
end
section
variable {X:Cx}
theorem vN  : QO X none Px:=
 ⟨aaF⟩
end
section
variable {X:Cx}{e:Expr}{te:TE}
theorem oN (h:QE X e te):QO X (some e) (ZM te):=
 ⟨aaG h.out⟩
end
section
variable {X:Cx}{es:List Expr}{t:TA}{pos:Pos}
theorem eG (h:QA X es t):QE X (.List es pos) (acH t):=
 ⟨acJ h.out⟩
end
section
variable {X:Cx}{es:List Expr}{t:TA}{pos:Pos}
theorem bZ {x1}(h:QA X es t):QE X (.Tuple es x1 pos) (acG t):=
 ⟨acI h.out⟩
end
section
variable {X:Cx}
theorem ak  : QA X [] su:=
 ⟨acF⟩
end
section
variable {X:Cx}{e:Expr}{es:List Expr}{te:TE}{t:TA}
theorem aj (ha:QE X e te)(hr:QA X es t)(hs:starEach (e::es) X.env=(false,eval e X.env)::starEach es X.env:=by rfl):QA X (e::es) (m8 te t):=
 ⟨aaA ha.out hr.out hs⟩
end
section
variable {X:Cx}{x:Str}{p pos:Pos}{e:Expr}{es:List Expr}{t:TA}{id:String}{r:List V->Hp->VK->Prop}
theorem aJ (hc:gC X (.builtin id) r)(hg:Gl X x)(hm:X.mg x=none)(hv:bootBuiltins x=some (.builtin id))(ha:QA X (e::es) t)(hn:x≠"__name__":=by decide)(hdb:(x==("__debug__":Str))=false:=by decide)(he:starEach (e::es) X.env=(false,eval e X.env)::starEach es X.env:=by rfl)(hpl:(backTo pos (starEach es X.env)).any (·.1)=false:=by rfl):QE X (.Call (.Name x p) (e::es) [] pos) (Kv r t):=
 ⟨Xv hc hg hm hv ha.out hn hdb he hpl⟩
end
section
variable {X:Cx}{x:Str}{p pos:Pos}{e:Expr}{es:List Expr}{t:TA}{T:String}{r:List V->Hp->VK->Prop}
theorem fU (hc:gC X (.type T) r)(hg:Gl X x)(hm:X.mg x=none)(hv:bootBuiltins x=some (.type T))(ha:QA X (e::es) t)(hn:x≠"__name__":=by decide)(hdb:(x==("__debug__":Str))=false:=by decide)(he:starEach (e::es) X.env=(false,eval e X.env)::starEach es X.env:=by rfl)(hpl:(backTo pos (starEach es X.env)).any (·.1)=false:=by rfl):QE X (.Call (.Name x p) (e::es) [] pos) (Kv r t):=
 ⟨Uh hc hg hm hv ha.out hn hdb he hpl⟩
end
section
variable {X:Cx}{o e:Expr}{es:List Expr}{to:TE}{t:TA}{name:Str}{apos cpos:Pos}{T id:String}{r:V->List V->Hp->VK->Prop}
theorem fK (pa:PlainAttrs T)(slot:Slot T name id)(hty:typeOf (.builtin id)=pure (.type "method_descriptor"))(hm:vM X id r)(ho:QE X o to)(ha:QA X (e::es) t)(hbase:attributeBase o name X.env (eval o X.env)=eval o X.env:=by rfl)(hfew:((backTo cpos (starEach (e::es) X.env)).all (λx=>!x.1)&&(backToKw cpos (keywordEach [] X.env)).all (λx=>x.1.isSome)
   && decide ((e::es).length+([]:List Keyword).length+(if ([]:List Keyword).isEmpty then 0 else 1) < 30))=true:=by rfl) (hline:(apos.endLine==cpos.line)=true:=by rfl) (hs:starEach (e::es) X.env=(false,eval e X.env)::starEach es X.env:=by rfl) (hplain:(backTo cpos (starEach es X.env)).any (·.1)=false:=by rfl):QE X (.Call (.Attribute o name apos) (e::es) [] cpos) (tBM X.K T r to t):=
 ⟨aec pa slot hty hm ho.out ha.out hbase hfew hline hs hplain⟩
end
section
variable {X:Cx}{o:Expr}{to:TE}{name:Str}{apos cpos:Pos}{T id:String}{r:V->List V->Hp->VK->Prop}
theorem j9 (pa:PlainAttrs T)(slot:Slot T name id)(hty:typeOf (.builtin id)=pure (.type "method_descriptor"))(hm:vM X id r)(ho:QE X o to)(hbase:attributeBase o name X.env (eval o X.env)=eval o X.env:=by rfl)(hline:(apos.endLine==cpos.line)=true:=by rfl):QE X (.Call (.Attribute o name apos) [] [] cpos) (Rq X.K T r to):=
 ⟨acQ pa slot hty hm ho.out hbase hline⟩
end
section
variable {X:Cx}
theorem iT {x:Str}{v:V}{u:Value}{pos:Pos}(hg:Gl X x)(hm:X.mg x=none)(hv:bootBuiltins x=some u)(r:RelV v u)(hn:x≠"__name__":=by decide)(hd:(x==("__debug__":Str))=false:=by decide):QE X (.Name x pos) (tC v):=
 ⟨aaq hg hm hv r hn hd⟩
end
section
variable {X:Cx}
theorem fB {x:Str}{v:V}{u:Value}{pos:Pos}(hg:Gl X x)(hm:X.mg x=some u)(r:RelV v u)(hd:(x==("__debug__":Str))=false:=by decide):QE X (.Name x pos) (tC v):=
 ⟨aap hg hm r hd⟩
end
section
variable {X:Cx}{tg:Expr}
theorem fY {l:Expr}{tl:TE}(hl:QE X l tl):QI X tg l (ZD X.K tl):=
 ⟨aav hl.out⟩
end
section
variable {X:Cx}{tg:Expr}
theorem dz {l:Expr}{tl:TE}(hl:QE X l tl):QI X tg l (acq X.K tl):=
 ⟨acr hl.out⟩
end
section
variable {X:Cx}{tg:Expr}
theorem jD {a:Expr}{ta:TA}{p pos:Pos}(hg:Gl X "range")(hm:X.mg "range"=none)(ha:QA X [a] ta)(hs:starEach [a] X.env=[(false,eval a X.env)]:=by rfl):QI X tg (.Call (.Name "range" p) [a] [] pos) (ZF ta):=
 ⟨T8 hg hm ha.out hs⟩
end
section
variable {X:Cx}{tg:Expr}
theorem tZ {a b:Expr}{ta:TA}{p pos:Pos}(hg:Gl X "range")(hm:X.mg "range"=none)(ha:QA X [a,b] ta)(hs:starEach [a,b] X.env=[(false,eval a X.env),(false,eval b X.env)]:=by rfl)(hs2:starEach [b] X.env=[(false,eval b X.env)]:=by rfl):QI X tg (.Call (.Name "range" p) [a,b] [] pos) (ZG ta):=
 ⟨T9 hg hm ha.out hs hs2⟩
end
section
variable {X:Cx}{e:Expr}{f:Str}{pos:Pos}{ta:TE}
theorem iC (he:QE X e ta)(hb:attributeBase e f X.env (eval e X.env)=eval e X.env):QE X (.Attribute e f pos) (acA X.K ta f):=
 ⟨acC he.out hb⟩
end
section
variable {X:Cx}{CX:m9}{k:Nat}{f C:Addr}{fd:FuncData}{ps:List Str}{sp:Sp}{iB:List V}{ds:List Value}{E:XK}{m:Str}{pos apos:Pos}{e o:Expr}{es:List Expr}{ta:TE}{t:TA}
theorem mW {pl:Sem Bool}(he:QE X o ta)(c:Cls X.K C)(hm:Meth X.K C m f)(F:cu X.prog X.w X.K X.mg X.base CX k f fd ps sp)(hr:dw k X.A)(hb:Binds X.K fd ps ds)(hd:Vals iB ds)(hx:Passes CX X E)(ha:QA X (e::es) t)(hst:starEach (e::es) X.env=(false,eval e X.env)::starEach es X.env:=by rfl)(hpl:(backTo pos (starEach es X.env)).any (·.1)=false:=by rfl)(ht:eval (.Call (.Attribute o m apos) (e::es) [] pos) X.env=(do
   let ov <- eval o X.env
   standAt apos.atName
   let (f,first) <- holding [ov] (getMethod ov m pl)
   callWith pos f first (backTo pos (starEach (e::es) X.env)) (backToKw pos (keywordEach [] X.env))):=by rfl):QE X (.Call (.Attribute o m apos) (e::es) [] pos) (Kc C m sp iB E ta t):=
 ⟨aaC he.out c hm F hr hb hd hx ha.out hst hpl ht⟩
end
section
variable {X:Cx}{CX:m9}{k:Nat}{f C:Addr}{fd:FuncData}{ps:List Str}{sp:Sp}{iB:List V}{ds:List Value}{E:XK}{m:Str}{pos apos:Pos}{o:Expr}{ta:TE}
theorem wM {pl:Sem Bool}(he:QE X o ta)(c:Cls X.K C)(hm:Meth X.K C m f)(F:cu X.prog X.w X.K X.mg X.base CX k f fd ps sp)(hr:dw k X.A)(hb:Binds X.K fd ps ds)(hd:Vals iB ds)(hx:Passes CX X E)(ht:eval (.Call (.Attribute o m apos) [] [] pos) X.env=(do
   let ov <- eval o X.env
   standAt apos.atName
   let (f,first) <- holding [ov] (getMethod ov m pl)
   callWith pos f first (backTo pos (starEach [] X.env)) (backToKw pos (keywordEach [] X.env))):=by rfl):QE X (.Call (.Attribute o m apos) [] [] pos) (Kc C m sp iB E ta su):=
 ⟨Xr he.out c hm F hr hb hd hx ht⟩
end
section
variable {X:Cx}{CX:m9}{k:Nat}{f C:Addr}{fd:FuncData}{ps:List Str}{sp:Sp}{iB:List V}{ds:List Value}{E:XK}{x:Str}{p pos:Pos}{e:Expr}{es:List Expr}{t:TA}
theorem GF (M:Mk X.K C f)(F:cu X.prog X.w X.K X.mg X.base CX k f fd ps sp)(hr:dw (k+1) X.A)(hg:Gl X x)(hm:X.mg x=some (.ref C))(hb:Binds X.K fd ps ds)(hd:Vals iB ds)(hx:Passes CX X E)(ha:QA X (e::es) t)(hdb:(x==("__debug__":Str))=false:=by decide)(he:starEach (e::es) X.env=(false,eval e X.env)::starEach es X.env:=by rfl)(hpl:(backTo pos (starEach es X.env)).any (·.1)=false:=by rfl):QE X (.Call (.Name x p) (e::es) [] pos) (ZK C sp iB E t):=
 ⟨aaD M F hr hg hm hb hd hx ha.out hdb he hpl⟩
end
section
variable {X:Cx}{pos:Pos}
theorem XR  : QE X (.Dict [] [] pos) Ur:=
 ⟨XJ⟩
end
section
variable {X:Cx}{o i:Expr}{td ty:TE}
theorem U4 (hu:X.A.units+1 < cLine)(hi:QE X i ty)(ho:QE X o td):QC X .In i o (acT ty td):=
 ⟨acU hu hi.out ho.out⟩
end
section
variable {X:Cx}{o i value:Expr}{td ty tv:TE}{pos pos':Pos}
theorem Qa (hu:X.A.units+1 < cLine)(ho:QE X o td)(hi:QE X i ty)(hv:QE X value tv)(hs:swapsWith value (some (.Subscript o i pos')) pos.line X.env=pure false):QS X (.Assign [.Subscript o i pos'] value pos) (ZW td ty tv):=
 ⟨aaJ hu ho.out hi.out hv.out hs⟩
end
section
variable {X:Cx}{a b:Expr}{pos:Pos}
theorem acZ {op:CmpOp}{t:TE}(h:QC X op a b t)(h1:behindInMarks op b=false:=by first | exact Cq _ (by decide) (by decide) | rfl):QE X (.Compare a [op] [b] pos) t:=
 ⟨ab2 h.out h1⟩
end
section
variable {X:Cx}{a b:Expr}{pos:Pos}
theorem ac0 {op:CmpOp}{t:TE}(h:QC X op a b t)(h1:behindInMarks op b=false:=by first | exact Cq _ (by decide) (by decide) | rfl):QT X (.Compare a [op] [b] pos) (tB t):=
 ⟨ab3 h.out h1⟩
end
section
variable {X:Cx}
theorem qv (i:Nat){x:Str}{pos:Pos}(hN:X.N[i]?=some x:=by rfl)(hv:Zw X.env.scope x:=by first | exact Or.inl rfl | exact Or.inr (Or.inl rfl) | exact Or.inr (Or.inr rfl))(hd:(x==("__debug__":Str))=false:=by decide)(hcd:(x==("__classdict__":Str))=false:=by decide):QE X (.Name x pos) (gK i):=
 ⟨pv i hN hv hd hcd⟩
end
section
variable {X:Cx}
theorem cH {X:Cx}:U0 X [] gq:=
 ⟨aaL⟩
end
section
variable {X:Cx}
theorem vO {X:Cx}{c:Expr}{t:TT}(h:QT X c t):U0 X [c] t:=
 ⟨aaM h.out⟩
end
section
variable {X:Cx}
theorem bN (l:List Nat){x:Str}{j pos}(h:x=S l):QE X (.Constant (.str x) j pos) (tC (.str (S l))):=
 ⟨aaO l h⟩
end
section
variable {X:Cx}{x:Str}{p pos:Pos}{e:Expr}{es:List Expr}{t:TA}
theorem bA {k:Nat}{ps:List Str}{sp:Sp}(D:Def X.prog X.w X.K X.mg X.base x k ps sp)(hr:dw k X.A)(hg:Gl X x)(ha:QA X (e::es) t)(hdb:(x==("__debug__":Str))=false:=by decide)(hs:starEach (e::es) X.env=(false,eval e X.env)::starEach es X.env:=by rfl)(hpl:(backTo pos (starEach es X.env)).any (·.1)=false:=by rfl):QE X (.Call (.Name x p) (e::es) [] pos) (Ka sp [] E0 t):=
 ⟨acX D hr hg ha.out hdb hs hpl⟩
end
theorem iU {X:Cx}{elt iter:Expr}{x:Str}{px:Pos}{ifs:List Expr}{scope:Scope}{pos:Pos}{wi:TI}{tt:TT}{te:TE}(hc:X.calm=true)(ok:gW X scope x)(hi:QI X (.Name x px) iter wi)
  (ht:∀cl C s₀ H₀ fp,U0 (blk X scope cl C x s₀ H₀ fp) ifs tt) (he:∀cl C s₀ H₀ fp,QE (blk X scope cl C x s₀ H₀ fp) elt te)
  (hs:∀x,foldedSetIterable iter X.env x=pure x:=by intro _;rfl):QE X (.ListComp elt [⟨.Name x px,iter,ifs,0⟩] scope pos) (Z0 wi tt te):=
 ⟨aaN hc ok hi.out (λcl C s₀ H₀ fp=>(ht cl C s₀ H₀ fp).out) (λcl C s₀ H₀ fp=>(he cl C s₀ H₀ fp).out) hs⟩
theorem aG.cU {P:Program}{w:World}{K:PySem.W.Frag}{mg:Str->Option Value}{base:Heap}{name:Str}{st:Stmt}{N ps:List Str}{k:Nat}{sp:Sp}(D:aG K mg name st ps)(S:aO N ps (aB st))(len:∀vs H Q E,sp vs H Q E->vs.length=ps.length)
  (hbody:∀(f:Addr) (cdv:Value) (A:Around) (outer:List Env) (s:Shared) (H:Hp) (vs:List V) (Q:VK) (E:XK),dw k (A.deeper (envOfC name (aB st) s.heap.objs.size f cdv))->sp vs H Q E->
   ∃t,qb (oK eV P w K mg base N name (aB st) f cdv A outer s H E).Kp (cJ st) t/\t { nx:=λ_ H'=>Q .non H',rt:=Q } (start N vs) H):Def P w K mg base name (k+1) ps sp:=
 D.ok S len λf cdv A outer s H vs Q E hr h=>let ⟨t,a,b⟩:=hbody f cdv A outer s H vs Q E hr h;⟨t,a.out,b⟩
theorem fG.cU {P:Program}{w:World}{K:PySem.W.Frag}{mg:Str->Option Value}{base:Heap}{x qual:Str}{st:Stmt}{f:Addr}{fd:FuncData}{N ps:List Str}{k:Nat}{sp:Sp}(F:fG K x qual st f fd)(S:aO N ps (aB st))(len:∀vs H Q E,sp vs H Q E->vs.length=ps.length)
  (hbody:∀(cdv:Value) (A:Around) (outer:List Env) (s:Shared) (H:Hp) (vs:List V) (Q:VK) (E:XK),dw k (A.deeper (envOfC qual (aB st) s.heap.objs.size f cdv))->sp vs H Q E->
   ∃t,qb (oK eV P w K mg base N qual (aB st) f cdv A outer s H E).Kp (cJ st) t/\t { nx:=λ_ H'=>Q .non H',rt:=Q } (start N vs) H):cu P w K mg base eV (k+1) f fd ps sp:=
 F.ok S len λcdv A outer s H vs Q E hr h=>let ⟨t,a,b⟩:=hbody cdv A outer s H vs Q E hr h;⟨t,a.out,b⟩
end L2
end
section
namespace L2
open PySem PySem.Spec PyProof.Rows
section
variable {prog:Program}{w:World}{A:Around}{E:Value->Shared->Prop}{s:Shared}
theorem RB {v:Value}{Q:Value->Shared->Prop}(aeO:wpAny (model prog w) A.in1 (collect v) (λvs s1=>∃ss,StrsAre vs ss/\vs.length < 64/\
   ∀(h':Heap) (vs':List Value) (ss':List Str) (e:Nat),(∀b o,s1.heap.get? b=some o->h'.get? b=some o)->h'.get? s1.heap.objs.size=some (seqObj "list" vs'.toArray e)->StrsAre vs' ss'->ss'.Perm ss->sortedS ss'=true->
    Q (.ref s1.heap.objs.size) { s1 with heap:=h' }) E s):wpAny (model prog w) A (call (.builtin "sorted") [v]) Q E s:=by
 refine Calls.call_function_entry kind_sorted plain_sorted entry_sorted (args_sorted1 _) ?_;unfold Builtin.«sorted»;refine wpAny_bind (m:=checkCount "sorted" 1 1 _) (wpAny_pure ?_);refine wpAny_bind (bG aeO λvs s1 ⟨ss,hS,h64,h⟩=>?_);refine wpAny_bind (wpAny_newList ?_);have hoL:(s1.heap.push (seqObj "list" vs.toArray 0)).get? s1.heap.objs.size=some (seqObj "list" vs.toArray 0):=Heap.get?_push_size _ rfl;refine wpAny_bind (wpAny_holding (wpAny_call_entry slot_list_sort (s:={ s1 with heap:=s1.heap.push (seqObj "list" vs.toArray 0) }) ⟨_,hoL,rfl⟩ entry_list_sort
  (list_sort_treeK (s:={ s1 with heap:=s1.heap.push (seqObj "list" vs.toArray 0) }) strKind_oneLt hoL hS.keysOf (λv₁ v₂ rest e=>keyKind_strs (by rw[<- e];exact hS)) h64 λst' hp hs=>⟨_,rfl,?_⟩) (args_list_sort _)))
 obtain⟨ss',h1,h2,h3⟩:=sorted_out_str hS hp hs;obtain⟨e,he⟩:=sortedHeap_at (vs:=vs) (out:=(arrOf st').map (·.2)) hoL;refine wpAny_pure ⟨_,rfl,h _ ((arrOf st').map (·.2)).toList ss' e (λb o z=>?_) (by rw[Array.toArray_toList];exact he) h1 h2 h3⟩;have hb:b < s1.heap.objs.size:=Heap.lt_size z;rw[sortedHeap_old (Nat.ne_of_lt hb) (by rw[Heap.size_push];exact Nat.lt_succ_of_lt hb)];exact Heap.get?_push_of_some _ z
end
section
theorem sI:∀{ss:List Str} {us:List Value},StrsAre us ss->Vals (ss.map V.str) us
 | _,_,.nil=>.nil
 | _,_,.cons x t r=>.cons ⟨t,rfl⟩ (sI r)
end
end L2
end
section
namespace L2
open PySem PySem.Spec PyProof.Rows
def Its (l:List Nat):It:=⟨λi _=>i < l.length,λi H x H'=>H'=H/\∃c,l[i]?=some c/\x=.str (S [c]),λi _=>l.length<=i⟩
theorem XS {P:Program}{w:World}{K:PySem.W.Frag}{tg:Expr}{ty:String}(hty:ty="str_ascii_iterator"\/ty="str_iterator")(l:List Nat)(t:Tok)(it:Addr) :
  Turn P w K tg (Its l) [it] it (λi h=>i<=l.length/\h.IsStrIter it ty (S l) t i) where
 mem:=by simp
 obj:=λi h st b hb=>by
  have e:b=it:=by simpa using hb
  subst e;obtain⟨_,o,e,c,d⟩:=st;exact⟨o,e,λv z=>by rw[d]at z;cases z⟩
 keep:=λi h h' st k=>⟨st.1,let ⟨o,ho,r⟩:=st.2;⟨o,k it (by simp) o ho,r⟩⟩
 item:=by
  intro X hP hw hK hc i pins s σ H E I hf st hg;subst hP hw hK;obtain⟨f0,f1,f2,f3,f4,f5⟩:=hf it (by simp);have hg':i < (S l).cps.size:=hg;have fin:∀(v:Value) (h':Heap) (tk:Nat),SignAt (S l) i v->h'.IsStrIter it ty (S l) t (i+1)->(∀b o,b∉[it]->s.heap.get? b=some o->h'.get? b=some o)->
    ∃u,some v=some u/\wpAny (model X.prog X.w) X.A (letOwnedTupleGo tg (.ref it) u) (λ_ s2=>∃x H',Inv X pins σ H' s2/\RelV x u/\(Its l).nZ i H x H'/\(i+1<=l.length/\s2.heap.IsStrIter it ty (S l) t (i+1))/\∀b∈[it],H' b=none) E { s with heap:=h',toks:=tk }:=by
   intro v h' tk hv st' kk;obtain⟨c,u,hc',rfl⟩:=hv;have I1:Inv X pins σ H { s with heap:=h',toks:=tk }:=I.turned (λb o hb e=>kk b o (by simpa using hb) e) f0 f1 f3 f4 f5;obtain⟨o,e,c2,d2⟩:=id st';refine⟨_,rfl,J_ (s:={ s with heap:=h',toks:=tk }) e c2 d2 (by rcases hty with rfl | rfl <;> decide) ⟨.str (S [c]),H,I1,⟨u,rfl⟩,⟨rfl,c,by simpa [S] using hc',rfl⟩,⟨hg,st'⟩,λb hb=>(hf b hb).1⟩⟩
  rcases hty with rfl | rfl
  ·exact(Walks.strAscii (prog:=X.prog) (w:=X.w) (I.ok.hd hc) it (S l) t).item i s _ _ hg' st.2 λv h' tk hv st' kk=>fin v h' tk hv st' kk
  ·exact(Walks.strWide (prog:=X.prog) (w:=X.w) (I.ok.hd hc) it (S l) t).item i s _ _ hg' st.2 λv h' tk hv st' kk=>fin v h' tk hv st' kk
 done:=by
  intro X hP hw hK hc i pins s σ H E I hf st hg;subst hP hw hK;obtain⟨f0,f1,f2,f3,f4,f5⟩:=hf it (by simp);have hi:i=(S l).cps.size:=Nat.le_antisymm st.1 hg;have st':=st.2;rw[hi]at st';rcases hty with rfl | rfl
  ·exact(Walks.strAscii (prog:=X.prog) (w:=X.w) (I.ok.hd hc) it (S l) t).done s _ _ st' λh' tk kk=>⟨rfl,I.turned (λb o hb e=>kk b o (by simpa using hb) e) f0 f1 f3 f4 f5⟩
  ·exact(Walks.strWide (prog:=X.prog) (w:=X.w) (I.ok.hd hc) it (S l) t).done s _ _ st' λh' tk kk=>⟨rfl,I.turned (λb o hb e=>kk b o (by simpa using hb) e) f0 f1 f3 f4 f5⟩
 self:=λA i s Q E st h=>by
  rcases hty with rfl | rfl
  ·exact wpAny_pyIter_striter_ascii st.2 h
  ·exact wpAny_pyIter_striter_wide st.2 h
theorem U5 {a b c:List Nat}(h1:¬b < a)(h2:¬c < b):¬c < a:=by
 have h1':a<=b:=h1;have h2':b<=c:=h2;exact List.le_trans h1' h2'
theorem Ja:∀(r:List Str) (p:Str),risingS p r=true->(∀x∈r,¬x.cps.toList < p.cps.toList)/\(r.map λy=>y.cps.toList).Pairwise (λa b=>decide (b < a)=false)
 | [],_,_=>⟨λ_ h=>by simp at h,List.Pairwise.nil⟩
 | y::r,p,h=>by
  rw[risingS,Bool.and_eq_true]at h;have h0:¬y.cps.toList < p.cps.toList:=by
   have:=h.1;simpa [ltCps_eq] using this
  obtain⟨h1,h2⟩:=Ja r y h.2;refine⟨λx hx=>?_,?_⟩
  ·rcases List.mem_cons.mp hx with e | e
   ·rw[e];exact h0
   ·exact U5 h0 (h1 x e)
  ·rw[List.map_cons]
   refine List.Pairwise.cons (λb hb=>?_) h2;obtain⟨x,hx,rfl⟩:=List.mem_map.mp hb;exact decide_eq_false (h1 x hx)
theorem Jb (ss:List Str)(h:sortedS ss=true):(ss.map λy=>y.cps.toList).Pairwise (λa b=>decide (b < a)=false):=by
 cases ss with
 | nil=>exact List.Pairwise.nil
 | cons x r=>
  obtain⟨h1,h2⟩:=Ja r x h;rw[List.map_cons];refine List.Pairwise.cons (λb hb=>?_) h2;obtain⟨y,hy,rfl⟩:=List.mem_map.mp hb;exact decide_eq_false (h1 y hy)
section
variable {X:Cx}{tg:Expr}
def aeP (tl:TE):TI:=λσ H R=>tl σ H λx H1=>∃l,x=.str (S l)/\R (Its l) H1
theorem zj {l:Expr}{tl:TE}(hl:QE X l tl):QI X tg l (aeP tl):=⟨by
 intro pins s σ H R I h;refine bG (hl.out pins s σ H _ I h) λv s1 ⟨x,H1,I1,r1,q1⟩=>?_;obtain⟨l,e,q⟩:=q1;subst e;obtain⟨t,rfl⟩:=r1;refine wpAny_pyIter_strU ?_;have hty:strIterType (S l)="str_ascii_iterator"\/strIterType (S l)="str_iterator":=by unfold strIterType;split <;> simp
 refine⟨s1.heap.objs.size,[s1.heap.objs.size],_,_,H1,rfl,I1.kept (t':=s1.toks) λb o e=>Heap.get?_push_of_some _ e,XS hty l t _,⟨Nat.zero_le _,_,Heap.get?_push_size _ rfl,rfl,rfl⟩,λb hb=>?_,q⟩;have e:b=s1.heap.objs.size:=by simpa using hb
 subst e;exact I1.Gv (Nat.le_refl _) (I1.hok.fresh (Nat.le_refl _))⟩
theorem wN {l:List Nat}{D:Addr}{te:TE}{σ:St}{H:Hp}{R:Hp->Prop}(Pv:Nat->List V->Hp->Prop)(h0:Pv 0 [] (upd H D (.lst [])))
  (hs:∀i c ys H,l[i]?=some c->Pv i ys H->te (some (.str (S [c]))::σ) H λy H3=>H3 D=some (.lst ys)/\ys.length < sizeLine/\dh l.length i (Pv (i+1) (ys++[y]) (upd H3 D (.lst (ys++[y])))))
  (hd:∀ys H,Pv l.length ys H->R H) :
  ∃W:Nat->Nat->List V->Hp->Prop,(∃m,W 0 m [] (upd H D (.lst [])))/\
   ∀i m ys H,W i m ys H->((Its l).stop i H/\R H)\/((Its l).go i H/\∀x H',(Its l).nZ i H x H'->gq (some x::σ) H' λb H2=>
    if b=true then te (some x::σ) H2 λy H3=>H3 D=some (.lst ys)/\ys.length < sizeLine/\∃m',m' < m/\W (i+1) m' (ys++[y]) (upd H3 D (.lst (ys++[y])))
    else ∃m',m' < m/\W (i+1) m' ys H2):=by
 refine⟨λi m ys H=>m=l.length-i/\i<=l.length/\Pv i ys H,⟨l.length,by simp,Nat.zero_le _,h0⟩,?_⟩;rintro i m ys H ⟨rfl,hi,p⟩;by_cases hlt:i < l.length
 ·refine .inr ⟨hlt,λx H' y=>?_⟩
  obtain⟨e,c,hc,e2⟩:=y;subst e e2;exact hs i c ys H' hc p
 ·have e:i=l.length:=by omega
  subst e;exact .inl ⟨Nat.le_refl _,hd ys H p⟩
theorem iD (hc:X.calm=true):gC X (.builtin "all") (λxs H Q=>∃(p:Addr) (bs:List Bool),xs=[.ref p]/\aN X.K H p (bs.map V.bl)/\Q (.bl (bs.all id)) H):=by
 intro pins s σ H xs us Q I r h;obtain⟨p,bs,rfl,hq,q⟩:=h;obtain⟨u,rfl,ru⟩:=vals1 r;cases ru;obtain⟨its,rv,pl,hz⟩:=I.list hq;have hne:p≠s.heap.objs.size:=by
  obtain⟨o,ho,_⟩:=pl.isList;exact Nat.ne_of_lt (Heap.lt_size ho)
 have hb:∀(i:Nat) (v:Value),its[i]?=some v->v=.bool (bs.getD i true):=λi v hv=>by
  have hlen:=rv.length;have hi:i < bs.length:=by have:=(List.getElem?_eq_some_iff.mp hv).1;simp at hlen;omega
  obtain⟨u,hu,ru⟩:=rv.get (i:=i) (x:=.bl bs[i]) (by simp[hi]);rw[hv]at hu;cases hu;cases ru;simp[List.getD,hi]
 refine call_all_walk (wpAny_pyIter_list pl.isList ?_);refine⟨s.heap.objs.size,_,_,_,_,_,λi=>bs.getD i true,rfl,Walks.list (A:=X.A.in1) (I.ok.hd hc) s.heap.objs.size p hne its.toArray,⟨⟨_,Heap.get?_push_size _ rfl,rfl,rfl⟩,pl.isList.at λo e=>Heap.get?_push_of_some _ e⟩,?_,λh' tk kk=>?_⟩
 ·intro i v s' Q' E' hv hq'
  have e:=hb i v (by simpa using hv);subst e;exact wpAny_truthy_bool hq'
 ·have I1:Inv X pins σ H { s with heap:=h',toks:=tk }:=I.kept λb o e=>kk b o (by
   intro hm;have:b=s.heap.objs.size:=by simpa using hm
   subst this;exact absurd (Heap.lt_size e) (Nat.lt_irrefl _)) (Heap.get?_push_of_some _ e)
  refine⟨.bl (bs.all id),H,I1,?_,q⟩;show Value.bool _=Value.bool _;have hlen:its.toArray.size=bs.length:=by have:=rv.length;simp at this;simp[this]
  rw[hlen];congr 1;have key:∀bs:List Bool,(List.range bs.length).all (λi=>bs.getD i true)=bs.all id:=λbs=>by
   rw[Bool.eq_iff_iff,List.all_eq_true,List.all_eq_true];constructor
   ·intro h x hx
    obtain⟨i,hi,rfl⟩:=List.mem_iff_getElem.mp hx;have:=h i (List.mem_range.mpr hi);simpa [List.getD,hi] using this
   ·intro h i hi
    have hi':=List.mem_range.mp hi;have:=h bs[i] (List.getElem_mem _);simpa [List.getD,hi'] using this
  exact key bs
def X3:R2:=λx y H Q=>∃i j,x=.str (S i)/\y=.str (S j)/\Q (.bl (!decide (j < i))) H
theorem qe:dX X (compareOp .LtE) X3:=by
 intro pins s σ H x y v u Q I rx ry h;obtain⟨i,j,rfl,rfl,q⟩:=h;obtain⟨t,rfl⟩:=rx;obtain⟨t',rfl⟩:=ry;exact PySem.P.le_str ⟨.bl _,H,I,rfl,q⟩
abbrev g_ (l:List Nat):Key:=Sum.inr (S l)
theorem KJ (hc:X.calm=true):gC X (.builtin "sorted") (λxs H Q=>∃(d:Addr) (kvs:List (Key × V)) (ws:List (List Nat)),xs=[.ref d]/\H d=some (.dK kvs)/\kvs.map (·.1)=ws.map g_/\ws.length < 64/\
  ∀(p:Addr) (ws':List (List Nat)),H p=none->ws'.Perm ws->ws'.Pairwise (λa b=>decide (b < a)=false)->Q (.ref p) (upd H p (.lst (Ts ws')))):=by
 intro pins s σ H xs us Q I r h;obtain⟨d,kvs,ws,rfl,hd,hk,h64,q⟩:=h;obtain⟨u,rfl,ru⟩:=vals1 r;cases ru;obtain⟨hz,lo,vs,rel,dd⟩:=ZS I.hok hd;obtain⟨ep,hat⟩:=dd.dictAt;have hkv:=KV.keys rel;have hlv:vs.length=ws.length:=by
  have h1:=KV.length rel;have h2:=congrArg List.length hk;simp at h2;omega
 refine RB (PySem.W.kdu_collect (A:=X.A.in1) (PySem.W.kdl_dict (knd:=gA X.prog X.w) (kvs:=vs) (ep:=ep) lo) (I.ok.hd hc) hat (by rw[hlv];exact Nat.le_of_lt (aD (by omega))) λh' tk acc kk hacc=>?_);have hS:StrsAre acc.toList (ws.map S):=by
  have key:∀(l:List Value) (m:List (List Nat)),l.length=m.length->(∀(j:Nat) v,l[j]?=some v->∃c,m[j]?=some c/\∃u,v=.str (S c) u)->StrsAre l (m.map S):=by
   intro l
   induction l with
   | nil=>intro m hl _;cases m with | nil=>exact .nil | cons c r=>simp at hl
   | cons a r ih=>
    intro m hl hv;cases m with
    | nil=>simp at hl
    | cons c m=>
     obtain⟨c',e,u,rfl⟩:=hv 0 a rfl;have e':c=c':=by simpa using e
     subst e';exact .cons _ u (ih m (by simpa using hl) λj v hj=>hv (j+1) v hj)
  refine key _ _ (by rw[Array.length_toList,hacc.1,hlv]) λj v hj=>?_;obtain⟨k,x,hx,hi⟩:=hacc.2 j v (by simpa using hj);have hkj:(ws.map g_)[j]?=some k:=by
   rw[<- hk,hkv,List.getElem?_map,hx];rfl
  rw[List.getElem?_map]at hkj;cases hw:ws[j]? with
  | none=>rw[hw]at hkj;cases hkj
  | some c=>
   rw[hw]at hkj;have e:g_ c=k:=by simpa using hkj
   subst e;refine⟨c,rfl,?_⟩;rcases fH (show wz (Sum.inr (S c)) v=true from hi) with⟨i,t,e1,_⟩ | ⟨y,t,e1,e2⟩
   ·cases e1
   ·cases e1;exact⟨t,e2⟩
 have I1:Inv X pins σ H { s with heap:=h',toks:=tk }:=I.kept kk;refine⟨_,hS,by rw[Array.length_toList,hacc.1,hlv];exact h64,λh2 vs' ss' e k2 he hS' pm so=>?_⟩;have es:ss'=(ss'.map λy=>y.cps.toList).map S:=by
  rw[List.map_map];refine(List.map_id _).symm.trans (List.map_congr_left λy _=>?_);exact(acV y).symm
 have U6:(ss'.map λy=>y.cps.toList).Perm ws:=by
  have:=pm.map λy:Str=>y.cps.toList;rw[List.map_map]at this;have e:((λy:Str=>y.cps.toList) ∘ S)=id:=rfl;rw[e,List.map_id]at this;exact this
 have hv:Vals (Ts (ss'.map λy=>y.cps.toList)) vs':=by
  have:=sI hS';rw[es]at this;simpa [Ts,Function.comp_def] using this
 have hl:(Ts (ss'.map λy=>y.cps.toList)).length<=sizeLine:=by
  rw[List.length_map,U6.length_eq];exact Nat.le_of_lt (aD (by omega))
 refine⟨.ref h'.objs.size,_,I1.laid (o:=.lst _) (t':=tk) k2 (Nat.le_refl _) ⟨hl,vs',e,hv,he⟩,rfl,q _ _ I1.fresh U6 (Jb ss' so)⟩
theorem QI.or {iter:Expr}{w1 w2:TI}(h1:QI X tg iter w1)(h2:QI X tg iter w2):QI X tg iter (λσ H R=>w1 σ H R\/w2 σ H R):=⟨λpins s σ H R I h=>by
 rcases h with h | h
 ·exact h1.out pins s σ H R I h
 ·exact h2.out pins s σ H R I h⟩
end
theorem aN.keep {K:PySem.W.Frag}{H H':Hp}{a p:Addr}{xs:List V}(k:∀b o,H b=some o->b≠p->H' b=some o)(hp:∀o,H p=some o->(∀ys,o≠.lst ys)/\∀u ys,o≠.lM u (.lst ys))(h:aN K H a xs):aN K H' a xs:=by
 rcases h with(h | ⟨o,h⟩) | h
 ·exact .inl (.inl (k _ _ h λe=>(hp _ (e ▸ h)).1 _ rfl))
 ·exact .inl (.inr ⟨o,k _ _ h λe=>(hp _ (e ▸ h)).2 _ _ rfl⟩)
 ·exact .inr h
theorem aK.keep {K:PySem.W.Frag}{H H':Hp}{a p:Addr}{xs:List V}(k:∀b o,H b=some o->b≠p->H' b=some o)(hp:∀o,H p=some o->(∀ys,o≠.tup ys)/\∀u ys,o≠.lM u (.tup ys))(h:aK K H a xs):aK K H' a xs:=by
 rcases h with(h | ⟨o,h⟩) | h
 ·exact .inl (.inl (k _ _ h λe=>(hp _ (e ▸ h)).1 _ rfl))
 ·exact .inl (.inr ⟨o,k _ _ h λe=>(hp _ (e ▸ h)).2 _ _ rfl⟩)
 ·exact .inr h
end L2
end
section
namespace L2
open PySem PySem.Spec PyProof.Rows PySem.SeqAt PySem.MeetsSeq PySem.MeetsSeq3
open AutoSeq1 (wpAny_loadPart')
end L2
end
section
namespace L2
open PySem PySem.Spec PyProof.Rows
section
variable {X:Cx}
def aej (i j:Int):Prop:=0 < j/\j.natAbs.log2 < 9000
theorem X4:dX X (binaryOp .FloorDiv) (rI aej λi j=>.int (i/j)):=Ua λi j _ _ _ _ _ hc q=>by
 have e:i.fdiv j=i/j:=Int.fdiv_eq_ediv_of_nonneg _ (Int.le_of_lt hc.1);rw[<- e]at q;exact floordiv_int (Int.ne_of_gt hc.1) q (.inl (PyProof.noPylong_of_log2 hc.2))
def aeQ:V->List V->Hp->VK->Prop:=λx vs H Q=>∃l,x=.str (S l)/\vs=[]/\l.length<=1000/\(∀c∈l,c < 128)/\Q (.str (S (l.map up1))) H
theorem ac1:vM X "str.upper" aeQ:=by
 intro pins s σ H x vs v us Q I rx rv h;obtain⟨l,rfl,rfl,hz,ha,q⟩:=h;obtain⟨t,rfl⟩:=rx;have hus:=rv.zero;subst hus;have hfit:Builtin.Str.tooLong (Txt.upper (S l)).length=false:=fit_upper (by rw[pG];omega);refine call_gives F.slot_str_upper (typeIs_str s _ t) F.entry_str_upper (F.args_str_upper_1 _) (gives_str_upper (S l) t hfit) ⟨fit_le hfit,?_⟩;have e:Txt.upper (S l)=S (l.map up1):=by rw[upper_ascii (x:=S l) ha];simp[S]
 exact⟨.str (S (l.map up1)),H,I.tok _,⟨s.toks,congrArg (λz=>Value.str z s.toks) e⟩,q⟩
def ac2:V->List V->Hp->VK->Prop:=λx vs H Q=>∃l,x=.str (S l)/\vs=[]/\l.length<=1000/\(∀c∈l,c < 128)/\Q (.str (S (l.map lo1))) H
theorem j_:vM X "str.lower" ac2:=by
 intro pins s σ H x vs v us Q I rx rv h;obtain⟨l,rfl,rfl,hz,ha,q⟩:=h;obtain⟨t,rfl⟩:=rx;have hus:=rv.zero;subst hus;have hfit:Builtin.Str.tooLong (Txt.lower (S l)).length=false:=fit_lower (by rw[pG];omega);refine call_gives F.slot_str_lower (typeIs_str s _ t) F.entry_str_lower (F.args_str_lower_1 _) (gives_str_lower (S l) t hfit) ⟨fit_le hfit,?_⟩;have e:Txt.lower (S l)=S (l.map lo1):=by rw[lower_ascii (x:=S l) ha];simp[S]
 exact⟨.str (S (l.map lo1)),H,I.tok _,⟨s.toks,congrArg (λz=>Value.str z s.toks) e⟩,q⟩
end
theorem aaQ {l:List Nat}{g:TG}{tb:TS}{D:Ends}{σ:St}{H:Hp}(Pv:Nat->St->Hp->Prop)(h0:Pv 0 σ H)
  (hs:∀i c σ H,l[i]?=some c->Pv i σ H->g (.str (S [c])) σ H λσ2 H2=>tb { D with nx:=Pv (i+1),ct:=Pv (i+1),bk:=D.nx } σ2 H2) (hd:∀σ H,Pv l.length σ H->D.nx σ H) :
  ∃W:Nat->Nat->St->Hp->Prop,(∃m,W 0 m σ H)/\∀i m σ H,W i m σ H->
   ((Its l).stop i H/\D.nx σ H)\/((Its l).go i H/\∃N:St->Hp->Prop,(∀σ' H',N σ' H'->∃m',m' < m/\W (i+1) m' σ' H')/\∀x H',(Its l).nZ i H x H'->g x σ H' λσ2 H2=>tb { D with nx:=N,ct:=N,bk:=D.nx } σ2 H2):=by
 refine⟨λi m σ H=>m=l.length-i/\i<=l.length/\Pv i σ H,⟨l.length,by simp,Nat.zero_le _,h0⟩,?_⟩;rintro i m σ H ⟨rfl,hi,p⟩;by_cases hlt:i < l.length
 ·refine .inr ⟨hlt,Pv (i+1),λσ' H' p'=>⟨l.length-(i+1),by omega,rfl,hlt,p'⟩,λx H' y=>?_⟩
  obtain⟨e,c,hc,e2⟩:=y;subst e e2;exact hs i c σ _ hc p
 ·have e:i=l.length:=by omega
  subst e;exact .inl ⟨Nat.le_refl _,hd σ H p⟩
def AL:List Nat:=(List.range 26).map (97 + ·)
theorem rP {α:Type}{xs:List α}{n:Nat}(hn:xs.length=n)(h:0 < n)(c:Int):∃v,mV xs (c%(n:Int))=some v/\v∈xs:=by
 have h0:0<=c%(n:Int):=Int.emod_nonneg _ (by omega);have h1:c%(n:Int) < n:=Int.emod_lt_of_pos _ (by omega);obtain⟨k,hk⟩:∃k:Nat,c%(n:Int)=(k:Int):=⟨(c%(n:Int)).toNat,by omega⟩
 rw[hk];have hl:k < xs.length:=by omega
 exact⟨xs[k],aF (by simp[hl]),List.getElem_mem _⟩
end L2
end
section
namespace L2
open PySem PySem.Spec PyProof.Rows
inductive Dt where
 | non | int (i:Int) | str (l:List Nat) | tup (ds:List Dt) | lst (ds:List Dt)
mutual
def toP:Dt->PyData
 | .non=>.none
 | .int i=>.int i
 | .str l=>.str (S l)
 | .tup ds=>.tuple (ji ds)
 | .lst ds=>.list (ji ds)
def ji:List Dt->List PyData
 | []=>[]
 | d::ds=>toP d::ji ds
end
mutual
theorem RD:∀d e:Dt,PyData.eqv (toP d) (toP e)=true↔d=e
 | .non,.non=>by simp[toP,PyData.eqv]
 | .non,.int _=>by simp[toP,PyData.eqv]
 | .non,.str _=>by simp[toP,PyData.eqv]
 | .non,.tup _=>by simp[toP,PyData.eqv]
 | .non,.lst _=>by simp[toP,PyData.eqv]
 | .int _,.non=>by simp[toP,PyData.eqv]
 | .int _,.int _=>by simp[toP,PyData.eqv]
 | .int _,.str _=>by simp[toP,PyData.eqv]
 | .int _,.tup _=>by simp[toP,PyData.eqv]
 | .int _,.lst _=>by simp[toP,PyData.eqv]
 | .str _,.non=>by simp[toP,PyData.eqv]
 | .str _,.int _=>by simp[toP,PyData.eqv]
 | .str a,.str b=>by
  simp only[toP,PyData.eqv,beq_iff_eq,Dt.str.injEq];exact⟨Kd,λz=>by rw[z]⟩
 | .str _,.tup _=>by simp[toP,PyData.eqv]
 | .str _,.lst _=>by simp[toP,PyData.eqv]
 | .tup _,.non=>by simp[toP,PyData.eqv]
 | .tup _,.int _=>by simp[toP,PyData.eqv]
 | .tup _,.str _=>by simp[toP,PyData.eqv]
 | .tup ds,.tup es=>by simp only[toP,PyData.eqv,Dt.tup.injEq];exact KN ds es
 | .tup _,.lst _=>by simp[toP,PyData.eqv]
 | .lst _,.non=>by simp[toP,PyData.eqv]
 | .lst _,.int _=>by simp[toP,PyData.eqv]
 | .lst _,.str _=>by simp[toP,PyData.eqv]
 | .lst _,.tup _=>by simp[toP,PyData.eqv]
 | .lst ds,.lst es=>by simp only[toP,PyData.eqv,Dt.lst.injEq];exact KN ds es
theorem KN:∀ds es:List Dt,PyData.eqvAll (ji ds) (ji es)=true↔ds=es
 | [],[]=>by simp[ji,PyData.eqvAll]
 | [],_::_=>by simp[ji,PyData.eqvAll]
 | _::_,[]=>by simp[ji,PyData.eqvAll]
 | d::ds,e::es=>by
  simp only[ji,PyData.eqvAll,Bool.and_eq_true,List.cons.injEq];rw[RD d e,KN ds es]
end
open Classical in
theorem GJ (d e:Dt):PyData.eqv (toP d) (toP e)=decide (d=e):=by
 by_cases h:d=e
 ·rw[decide_eq_true h];exact(RD d e).mpr h
 ·rw[decide_eq_false h]
  cases z:PyData.eqv (toP d) (toP e) with
  | false=>rfl
  | true=>exact absurd ((RD d e).mp z) h
mutual
inductive jz (K:PySem.W.Frag) (H:Hp):Nat->Dt->V->Prop
 | non {n}:jz K H n .non .non
 | int {n} (i:Int):jz K H n (.int i) (.int i)
 | str {n} (l:List Nat) (h:∀c∈l,c < 128):jz K H n (.str l) (.str (S l))
 | tup {n a ds xs} (h:aK K H a xs) (hs:cY K H n ds xs):jz K H (n+1) (.tup ds) (.ref a)
 | lst {n a ds xs} (h:aN K H a xs) (hs:cY K H n ds xs):jz K H (n+1) (.lst ds) (.ref a)
inductive cY (K:PySem.W.Frag) (H:Hp):Nat->List Dt->List V->Prop
 | nil {n}:cY K H n [] []
 | cons {n d ds x xs} (h:jz K H n d x) (hs:cY K H n ds xs):cY K H n (d::ds) (x::xs)
end
theorem aaR {l:List Nat}(h:∀c∈l,c < 128):PyData.strOk (S l)=true:=by
 unfold PyData.strOk;show l.toArray.all _=true;rw[Array.all_eq_true_iff_forall_mem];intro x hx;have:=h x (by simpa using hx);exact decide_eq_true (by omega)
mutual
theorem jz.lay {K:PySem.W.Frag}{H:Hp}:∀{n:Nat} {d:Dt} {x:V},jz K H n d x->(toP d).canLay0=true/\(toP d).depth<=n
 | _,_,_,.non=>by simp[toP,PyData.canLay0,PyData.depth]
 | _,_,_,.int _=>by simp[toP,PyData.canLay0,PyData.depth]
 | _,_,_,.str l h=>by simp only[toP,PyData.canLay0,PyData.depth];exact⟨aaR h,Nat.zero_le _⟩
 | _,_,_,.tup _ hs=>by
  simp only[toP,PyData.canLay0,PyData.depth];have:=hs.lay;exact⟨this.1,Nat.succ_le_succ this.2⟩
 | _,_,_,.lst _ hs=>by
  simp only[toP,PyData.canLay0,PyData.depth];have:=hs.lay;exact⟨this.1,Nat.succ_le_succ this.2⟩
theorem cY.lay {K:PySem.W.Frag}{H:Hp}:∀{n:Nat} {ds:List Dt} {xs:List V},cY K H n ds xs->PyData.canLayAll0 (ji ds)=true/\PyData.depthAll (ji ds)<=n
 | _,_,_,.nil=>by simp[ji,PyData.canLayAll0,PyData.depthAll]
 | _,_,_,.cons h hs=>by
  have a:=h.lay;have b:=hs.lay;simp only[ji,PyData.canLayAll0,PyData.depthAll,Bool.and_eq_true];exact⟨⟨a.1,b.1⟩,Nat.max_le.mpr ⟨a.2,b.2⟩⟩
end
mutual
theorem jz.same {K:PySem.W.Frag}{H H':Hp}(sm:Same H H')(st:∀a xs,aK K H a xs->aK K H' a xs):∀{n:Nat} {d:Dt} {x:V},jz K H n d x->jz K H' n d x
 | _,_,_,.non=>.non
 | _,_,_,.int i=>.int i
 | _,_,_,.str l h=>.str l h
 | _,_,_,.tup h hs=>.tup (st _ _ h) (hs.same sm st)
 | _,_,_,.lst h hs=>.lst (sm.seq h) (hs.same sm st)
theorem cY.same {K:PySem.W.Frag}{H H':Hp}(sm:Same H H')(st:∀a xs,aK K H a xs->aK K H' a xs):∀{n:Nat} {ds:List Dt} {xs:List V},cY K H n ds xs->cY K H' n ds xs
 | _,_,_,.nil=>.nil
 | _,_,_,.cons h hs=>.cons (h.same sm st) (hs.same sm st)
end
section
variable {X:Cx}
mutual
theorem jz.reads {pins:List (Addr × Obj)}{σ:St}{H:Hp}{s:Shared}(I:Inv X pins σ H s):∀{n:Nat} {d:Dt} {x:V} {u:Value},jz X.K H n d x->RelV x u->∃as,Reads s.heap u (toP d) as
 | _,_,_,u,.non,r=>by cases r;exact⟨[],by rw[toP];exact .none⟩
 | _,_,_,u,.int i,r=>by obtain⟨t,rfl⟩:=r;exact⟨[],by rw[toP];exact .int i t⟩
 | _,_,_,u,.str l h,r=>by obtain⟨t,rfl⟩:=r;exact⟨[],by rw[toP];exact .str _ t⟩
 | _,_,_,u,.tup h hs,r=>by
  cases r;obtain⟨its,rv,pl,_⟩:=I.tuple h;obtain⟨as,ra⟩:=hs.reads I rv;obtain⟨o,ho,hc,n,hd⟩:=pl;exact⟨as,by rw[toP];exact .tuple ho hc hd (by simpa using ra)⟩
 | _,_,_,u,.lst h hs,r=>by
  cases r;obtain⟨its,rv,pl,_⟩:=I.list h;obtain⟨as,ra⟩:=hs.reads I rv;obtain⟨o,ho,hc,n,hd⟩:=pl.isList;exact⟨_::as,by rw[toP];exact .list ho hc hd (by simpa using ra)⟩
theorem cY.reads {pins:List (Addr × Obj)}{σ:St}{H:Hp}{s:Shared}(I:Inv X pins σ H s):∀{n:Nat} {ds:List Dt} {xs:List V} {us:List Value},cY X.K H n ds xs->Vals xs us->∃as,ReadsAll s.heap us (ji ds) as
 | _,_,_,us,.nil,r=>by cases r;exact⟨[],by rw[ji];exact .nil⟩
 | _,_,_,us,.cons h hs,r=>by
  cases r with
  | cons q t=>
   obtain⟨as,a⟩:=h.reads I q;obtain⟨bs,b⟩:=hs.reads I t;exact⟨as++bs,by rw[ji];exact .cons a b⟩
end
theorem jz.shaped {K:PySem.W.Frag}{H:Hp}{n:Nat}{d:Dt}{x:V}(h:jz K H n d x)(hn:n<=64):SeqAt.shaped (toP d)=true:=by
 unfold SeqAt.shaped;rw[h.lay.1,decide_eq_true (Nat.le_trans h.lay.2 hn)];rfl
open Classical in
def ac3 (K:PySem.W.Frag)(neg:Bool):R2:=λx y H Q=>∃n d e,n<=64/\jz K H n d x/\jz K H n e y/\Q (.bl (if neg then !decide (d=e) else decide (d=e))) H
theorem zm (hu:X.A.units+64 < cLine):dX X (compareOp .Eq) (ac3 X.K false):=by
 intro pins s σ H x y v u Q I rx ry h;obtain⟨n,d,e,hn,hd,he,q⟩:=h;obtain⟨as,ra⟩:=hd.reads I rx;obtain⟨bs,rb⟩:=he.reads I ry;refine SeqAt.compareEq_shaped ra rb (hd.shaped hn) (he.shaped hn) hu ⟨.bl _,H,I,rfl,?_⟩;rw[GJ];exact q
theorem KQ (hu:X.A.units+64 < cLine):dX X (compareOp .NotEq) (ac3 X.K true):=by
 intro pins s σ H x y v u Q I rx ry h;obtain⟨n,d,e,hn,hd,he,q⟩:=h;obtain⟨as,ra⟩:=hd.reads I rx;obtain⟨bs,rb⟩:=he.reads I ry;refine SeqAt.compareNe_shaped ra rb (hd.shaped hn) (he.shaped hn) hu ⟨.bl _,H,I,rfl,?_⟩;rw[GJ];exact q
def ac4 (K:PySem.W.Frag):V->List V->Hp->VK->Prop:=λx vs H Q=>∃p ls,x=.str (S [])/\vs=[.ref p]/\aK K H p (Ts ls)/\ls.flatten.length<=1000/\Q (.str (S ls.flatten)) H
theorem CJ:vM X "str.join" (ac4 X.K):=by
 intro pins s σ H x vs v us Q I rx rv h;obtain⟨p,ls,rfl,rfl,hq,hz,q⟩:=h;obtain⟨t,rfl⟩:=rx;obtain⟨u,rfl,ru⟩:=vals1 rv;cases ru;obtain⟨its,r,pl,_⟩:=I.tuple hq;refine join_tuple pl (ys:=ls.map S) (by simpa using Bf r) ?_ λt' k=>?_
 ·rw[P_];show _+_*0<=_;omega
 ·exact⟨.str (S ls.flatten),H,I.tok k,⟨t',congrArg (λz=>Value.str z t') (P0 ls)⟩,q⟩
end
theorem sJ {K:PySem.W.Frag}{a D:Addr}{xs:List V}{te:TE}{σ:St}{H:Hp}{R:Hp->Prop}(Pv:Nat->List V->Hp->Prop)(h0:Pv 0 [] (upd H D (.lst [])))(hl:∀i ys H,i<=xs.length->Pv i ys H->aK K H a xs)
  (hs:∀i x ys H,xs[i]?=some x->Pv i ys H->te (some x::σ) H λy H3=>H3 D=some (.lst ys)/\ys.length < sizeLine/\dh xs.length i (Pv (i+1) (ys++[y]) (upd H3 D (.lst (ys++[y])))))
  (hd:∀ys H,Pv xs.length ys H->R H) :
  ∃W:Nat->Nat->List V->Hp->Prop,(∃m,W 0 m [] (upd H D (.lst [])))/\
   ∀i m ys H,W i m ys H->((tY K a).stop i H/\R H)\/((tY K a).go i H/\∀x H',(tY K a).nZ i H x H'->gq (some x::σ) H' λb H2=>
    if b=true then te (some x::σ) H2 λy H3=>H3 D=some (.lst ys)/\ys.length < sizeLine/\∃m',m' < m/\W (i+1) m' (ys++[y]) (upd H3 D (.lst (ys++[y])))
    else ∃m',m' < m/\W (i+1) m' ys H2):=by
 refine⟨λi m ys H=>m=xs.length-i/\i<=xs.length/\Pv i ys H,⟨xs.length,by simp,Nat.zero_le _,h0⟩,?_⟩;rintro i m ys H ⟨rfl,hi,p⟩;have q:=hl i ys H hi p;by_cases hlt:i < xs.length
 ·refine .inr ⟨⟨xs,xs[i],q,by simp[hlt]⟩,λx H' y=>?_⟩
  obtain⟨e,y⟩:=y;subst e;exact hs i x ys H' (y xs q) p
 ·have e:i=xs.length:=by omega
  subst e;exact .inl ⟨⟨xs,q,Nat.le_refl _⟩,hd ys H p⟩
end L2
namespace L2
open PySem PySem.Spec PyProof.Rows
section
variable {X:Cx}{x:Str}{pos:Pos}
theorem qR {l:List Nat}(hg:Gl X x)(hm:∃t,X.mg x=some (.str (S l) t))(hd:(x==("__debug__":Str))=false:=by decide):QE X (.Name x pos) (tC (.str (S l))):=
 let ⟨t,e⟩:=hm;fB hg e ⟨t,rfl⟩ hd
theorem RG {i:Int}(hg:Gl X x)(hm:∃t,X.mg x=some (.int i t))(hd:(x==("__debug__":Str))=false:=by decide):QE X (.Name x pos) (tC (.int i)):=
 let ⟨t,e⟩:=hm;fB hg e ⟨t,rfl⟩ hd
theorem KR {o i:Expr}{to ti:TE}{t:Q_}(ho:QE X o to)(hi:QE X i ti)(hs:Xj X t)
  (ha:∀v,assign (.Subscript o i pos) X.env v=(do
   let ov <- holding [v] (eval o X.env)
   let iv <- holding [v,ov] (eval i X.env)
   standAt pos
   holding [v,ov,iv] (setItem ov iv v)
   release [v,ov,iv] []):=by intro _;rfl):QG X (.Subscript o i pos) (acj to ti t):=⟨acn ho.out hi.out hs ha⟩
end
theorem iu:bootBuiltins "all"=some (.builtin "all"):=by decide +kernel
theorem Jc:bootBuiltins "any"=some (.builtin "any"):=by decide +kernel
theorem KY {K:PySem.W.Frag}{h:Heap}{mg:Str->Option Value}{x:Str}{l:List Nat}{t:Tok}(X:K.In h)(G:h.Ns mainGlobals mg)(a:PySem.W.nsIn K mainGlobals x=some (some (.str (S l) t))):∃t,mg x=some (.str (S l) t):=⟨t,PySem.W.mg_of X G a⟩
theorem KZ {K:PySem.W.Frag}{h:Heap}{mg:Str->Option Value}{x:Str}{i:Int}{t:Tok}(X:K.In h)(G:h.Ns mainGlobals mg)(a:PySem.W.nsIn K mainGlobals x=some (some (.int i t))):∃t,mg x=some (.int i t):=⟨t,PySem.W.mg_of X G a⟩
section
variable {X:Cx}
theorem jA (K:PySem.W.Frag)  (h:X.K=K:=by rfl):Kw X (Ky K):=by subst h;exact aW
theorem K4 (K:PySem.W.Frag)  (h:X.K=K:=by rfl):gC X (.builtin "isinstance") (Z5 K):=by subst h;exact fj
theorem X5 (K:PySem.W.Frag)  (h:X.K=K:=by rfl):vM X "str.join" (rJoin K):=by subst h;exact rO
theorem ac5  {o e:Expr}{es:List Expr}{to:TE}{t:TA}{name:Str}{apos cpos:Pos}{T id:String}{r:V->List V->Hp->VK->Prop}(K:PySem.W.Frag)(pa:PlainAttrs T)(slot:Slot T name id)(hty:typeOf (.builtin id)=pure (.type "method_descriptor"))(hm:vM X id r)(ho:QE X o to)(ha:QA X (e::es) t)(hbase:attributeBase o name X.env (eval o X.env)=eval o X.env:=by rfl)(hfew:((backTo cpos (starEach (e::es) X.env)).all (λx=>!x.1)&&(backToKw cpos (keywordEach [] X.env)).all (λx=>x.1.isSome)
   && decide ((e::es).length+([]:List Keyword).length+(if ([]:List Keyword).isEmpty then 0 else 1) < 30))=true:=by rfl) (hline:(apos.endLine==cpos.line)=true:=by rfl) (hs:starEach (e::es) X.env=(false,eval e X.env)::starEach es X.env:=by rfl) (hplain:(backTo cpos (starEach es X.env)).any (·.1)=false:=by rfl) (h:X.K=K:=by rfl):QE X (.Call (.Attribute o name apos) (e::es) [] cpos) (tBM K T r to t):=by subst h;exact fK pa slot hty hm ho ha hbase hfew hline hs hplain
end
end L2
end
section
namespace L2
open PySem PySem.Spec PyProof.Rows
def d8 (l:List Nat):List Nat:=l.takeWhile λc=>c != 46
def cZ (l:List Nat):List Nat:=(l.reverse.takeWhile λc=>c != 46).reverse
theorem wO:∀{l:List Nat} {i:Nat},l[i]?=some 46->(∀k,k < i->l[k]?≠some 46)->d8 l=l.take i
 | [],i,h,_=>by simp at h
 | c::l,0,h,_=>by
  have:c=46:=by simpa using h
  subst this;simp[d8]
 | c::l,i+1,h,hk=>by
  have hc:c≠46:=λe=>hk 0 (by omega) (by simp[e]);have ih:=wO (l:=l) (i:=i) (by simpa using h) (λk hk'=>by have:=hk (k+1) (by omega);simpa using this);unfold d8 at ih ⊢;rw[List.takeWhile_cons_of_pos (by simpa using hc),ih,List.take_succ_cons]
theorem zp {l:List Nat}(h:46∉l):d8 l=l:=by
 unfold d8
 induction l with
 | nil=>rfl
 | cons c r ih=>
  have hc:c≠46:=λe=>h (by rw[e];exact List.mem_cons_self);rw[List.takeWhile_cons_of_pos (by simpa using hc),ih λz=>h (List.mem_cons_of_mem _ z)]
theorem zq {l:List Nat}(h:46∉l):cZ l=l:=by
 have:=zp (l:=l.reverse) (by simpa using h);unfold d8 at this;unfold cZ;rw[this,List.reverse_reverse]
theorem K5 {l:List Nat}{i:Nat}(h:l[i]?=some 46)(hk:∀k,i < k->l[k]?≠some 46):cZ l=l.drop (i+1):=by
 have hi:i < l.length:=(List.getElem?_eq_some_iff.mp h).1;have e:d8 l.reverse=l.reverse.take (l.length-(i+1)):=by
  refine wO ?_ λk hk'=>?_
  ·rw[List.getElem?_reverse (by omega),show l.length-1-(l.length-(i+1))=i by omega];exact h
  ·rw[List.getElem?_reverse (by omega)]
   exact hk _ (by omega)
 unfold d8 at e;unfold cZ;rw[e,List.take_reverse,List.reverse_reverse,show l.length-(l.length-(i+1))=i+1 by omega]
theorem K6 (l:List Nat)(n:Nat):qI l none (some (n:Int))=l.take n:=by
 unfold qI;rw[HT.Gw];show (l.drop 0).take (min n l.length-0)=_;rw[List.drop_zero,Nat.sub_zero];by_cases h:n<=l.length
 ·rw[Nat.min_eq_left h]
 ·rw[Nat.min_eq_right (by omega),List.take_of_length_le (Nat.le_refl _),List.take_of_length_le (by omega)]
theorem CK (l:List Nat)(n:Nat):qI l (some (n:Int)) none=l.drop n:=by
 unfold qI;rw[HT.Gw];show (l.drop (min n l.length)).take (l.length-min n l.length)=_;rw[List.take_of_length_le (by rw[List.length_drop];omega)];by_cases h:n<=l.length
 ·rw[Nat.min_eq_left h]
 ·rw[Nat.min_eq_right (by omega),List.drop_of_length_le (Nat.le_refl _),List.drop_of_length_le (by omega)]
theorem Z8 (l:List Nat)(i j:Nat):Builtin.Str.strSub (S l) i j=S ((l.take j).drop i):=by
 unfold Builtin.Str.strSub S;congr 1;apply Array.toList_inj.mp;simp[List.drop_take]
section
variable {X:Cx}
theorem U7 (l:List Nat):(Txt.partition (S l) (S [46])).1=S (d8 l):=by
 rcases partition_head (S l) (S [46]) with⟨e,h⟩ | ⟨i,e,h,hk⟩
 ·rw[e,zp λhm=>?_]
  obtain⟨i,hi⟩:=List.mem_iff_getElem?.mp hm;exact h i ((StrLaws.subAt_one (S l) 46 i).mpr hi)
 ·rw[e,Z8,List.drop_zero,wO (l:=l) ((StrLaws.subAt_one (S l) 46 i).mp h) λk hk' z=>hk k hk' ((StrLaws.subAt_one (S l) 46 k).mpr z)]
theorem RJ (l:List Nat):(Txt.rpartition (S l) (S [46])).2.2=S (cZ l):=by
 unfold Txt.rpartition;rcases StrLaws.last_spec (S l) (S [46]) with⟨e,h⟩ | ⟨i,e,h,hk⟩
 ·rw[e]
  show S l=_;rw[zq λhm=>?_];obtain⟨i,hi⟩:=List.mem_iff_getElem?.mp hm;exact h i ((StrLaws.subAt_one (S l) 46 i).mpr hi)
 ·rw[e]
  show Builtin.Str.strSub (S l) (i+1) l.length=_;rw[Z8,List.take_of_length_le (Nat.le_refl _),K5 (l:=l) ((StrLaws.subAt_one (S l) 46 i).mp h) λk hk' z=>hk k hk' ((StrLaws.subAt_one (S l) 46 k).mpr z)]
def aek:V->List V->Hp->VK->Prop:=λx vs H Q=>∃l,x=.str (S l)/\vs=[.str (S [46])]/\l.length<=1000/\∀(p:Addr) (b c:Str),H p=none->Q (.ref p) (upd H p (.tup [.str (S (d8 l)),.str b,.str c]))
theorem aaS:vM X "str.partition" aek:=by
 intro pins s σ H x vs v us Q I rx rv h;obtain⟨l,rfl,rfl,hz,q⟩:=h;obtain⟨t,rfl⟩:=rx;obtain⟨u,rfl,ru⟩:=vals1 rv;obtain⟨t2,rfl⟩:=ru;have hsz:(S l).length<=sizeLine:=Nat.le_of_lt (aD hz);refine call_meets F.slot_str_partition (typeIs_str _ _ _) F.entry_str_partition (F.args_str_partition_2 _ _) (meets_str_partition (S l) (S [46]) t t2 rfl hsz) ?_;have e:=U7 l;have q':=λb c=>q s.heap.objs.size b c (I.hok.fresh (Nat.le_refl _));rw[<- e]at q';unfold Txt.partition at q'
 revert q'
 cases Builtin.Str.occurrences (S l) (S [46]) 0 (S l).length 1 with
 | nil=>
  intro q';refine⟨.ref s.heap.objs.size,_,I.laid (o:=.tup _) (t':=s.toks+1) (λb ob z=>Heap.get?_push_of_some _ z) (Nat.le_refl _) ?_,rfl,q' Str.empty Str.empty⟩;exact⟨by show 3<=sizeLine;decide,_,.cons ⟨_,rfl⟩ (.cons ⟨_,rfl⟩ (.cons ⟨_,rfl⟩ .nil)),⟨_,Heap.get?_push_size _ rfl,rfl,0,rfl⟩⟩
 | cons i r=>
  intro q';refine⟨.ref s.heap.objs.size,_,I.laid (o:=.tup _) (t':=s.toks+1+1) (λb ob z=>Heap.get?_push_of_some _ z) (Nat.le_refl _) ?_,rfl,q' (S [46]) (Builtin.Str.strSub (S l) (i+(S [46]).length) (S l).length)⟩;exact⟨by show 3<=sizeLine;decide,_,.cons ⟨_,rfl⟩ (.cons ⟨_,rfl⟩ (.cons ⟨_,rfl⟩ .nil)),⟨_,Heap.get?_push_size _ rfl,rfl,0,rfl⟩⟩
def ac6:V->List V->Hp->VK->Prop:=λx vs H Q=>∃l,x=.str (S l)/\vs=[.str (S [46])]/\l.length<=1000/\∀(p:Addr) (a b:Str),H p=none->Q (.ref p) (upd H p (.tup [.str a,.str b,.str (S (cZ l))]))
theorem X6:vM X "str.rpartition" ac6:=by
 intro pins s σ H x vs v us Q I rx rv h;obtain⟨l,rfl,rfl,hz,q⟩:=h;obtain⟨t,rfl⟩:=rx;obtain⟨u,rfl,ru⟩:=vals1 rv;obtain⟨t2,rfl⟩:=ru;have hsz:(S l).length<=sizeLine:=Nat.le_of_lt (aD hz);refine call_meets F.slot_str_rpartition (typeIs_str _ _ _) F.entry_str_rpartition (F.args_str_rpartition_2 _ _) (meets_str_rpartition (S l) (S [46]) t t2 rfl hsz) ?_;have e:=RJ l;have q':=λb c=>q s.heap.objs.size b c (I.hok.fresh (Nat.le_refl _));rw[<- e]at q';unfold Txt.rpartition at q'
 revert q'
 cases Builtin.Str.lastOccurrence (S l) (S [46]) 0 (S l).length with
 | none=>
  intro q';refine⟨.ref s.heap.objs.size,_,I.laid (o:=.tup _) (t':=s.toks+1) (λb ob z=>Heap.get?_push_of_some _ z) (Nat.le_refl _) ?_,rfl,q' Str.empty Str.empty⟩;exact⟨by show 3<=sizeLine;decide,_,.cons ⟨_,rfl⟩ (.cons ⟨_,rfl⟩ (.cons ⟨_,rfl⟩ .nil)),⟨_,Heap.get?_push_size _ rfl,rfl,0,rfl⟩⟩
 | some i=>
  intro q';refine⟨.ref s.heap.objs.size,_,I.laid (o:=.tup _) (t':=s.toks+1+1) (λb ob z=>Heap.get?_push_of_some _ z) (Nat.le_refl _) ?_,rfl,q' (Builtin.Str.strSub (S l) 0 i) (S [46])⟩;exact⟨by show 3<=sizeLine;decide,_,.cons ⟨_,rfl⟩ (.cons ⟨_,rfl⟩ (.cons ⟨_,rfl⟩ .nil)),⟨_,Heap.get?_push_size _ rfl,rfl,0,rfl⟩⟩
end
end L2
end
section
namespace L2
open PySem PySem.Spec PyProof.Rows
def dg (X:Cx)(scope:Scope)(cl:List (Str × Addr))(C:Addr)(N:List Str)(s₀:Shared)(H₀:Hp)(fp:List Addr):Cx:=
 { X with N:=N,s₀:=s₀,H₀:=H₀,env:=compEnvC scope cl C X.env,outer:=X.stack,ex:=fp,fn:=λ_=>false,pn:=[],xe:=λ_ _=>False }
structure d_ (X:Cx)(scope:Scope)(ns N2:List Str)(f:St->St):Prop where
 kind:scope.kind=.function
 pF:∀y∈scope.names,y.2≠.cell
 names:∀y∈scope.names,y.2=.local->scope.names.lookup y.1=some .local
 free:∀y∈scope.names,y.2=.free->X.env.kindOf y.1=some .cell\/X.env.kindOf y.1=some .free
 X7:∀σ:St,(f σ).length=σ.length
 X8:N2.length=X.N.length
 out:∀(σ:St) (i:Nat) (y:Str) (v:V),N2[i]?=some y->(f σ)[i]?=some (some v)->X.N[i]?=some y/\σ[i]?=some (some v)/\scope.names.lookup y≠some .local
def K7 (X:Cx)(tg:Expr)(k:Nat)(TP:V->Hp->(St->Prop)->Prop):Prop:=
 ∀(pins:List (Addr × Obj)) (s:Shared) (pre rest:St) (H:Hp) (v:V) (u:Value) (Q:St->Prop),pre.length=k->Inv X pins (pre++rest) H s->RelV v u->TP v H Q->
  wpAny (model X.prog X.w) X.A (assign tg X.env u) (λ_ s'=>∃pre',pre'.length=k/\Inv X pins (pre'++rest) H s'/\Q pre') (λ_ _=>False) s
def Ew (f:St->St)(k:Nat)(wi:TI)(TP:V->Hp->(St->Prop)->Prop)(tt:TT)(te:TE):TE:=λσ H Q=>wi σ H λJ H1=>∀D,H1 D=none->∃W:Nat->Nat->List V->Hp->Prop,(∃m,W 0 m [] (upd H1 D (.lst [])))/\
 ∀i m ys H,W i m ys H->(J.stop i H/\Q (.ref D) H)\/(J.go i H/\∀x H',J.nZ i H x H'->TP x H' λpre=>tt (pre++f σ) H' λb H2=>
  if b=true then te (pre++f σ) H2 λy H3=>H3 D=some (.lst ys)/\ys.length < sizeLine/\∃m',m' < m/\W (i+1) m' (ys++[y]) (upd H3 D (.lst (ys++[y])))
  else ∃m',m' < m/\W (i+1) m' ys H2)
theorem X_ {X:Cx}{elt iter tg:Expr}{ns N2:List Str}{f:St->St}{TP:V->Hp->(St->Prop)->Prop}{ifs:List Expr}{scope:Scope}{pos:Pos}{wi:TI}{tt:TT}{te:TE}(hc:X.calm=true)(ok:d_ X scope ns N2 f)(hi:PI X tg iter wi)
  (hg:∀cl C s₀ H₀ fp,K7 (dg X scope cl C (ns++N2) s₀ H₀ fp) tg ns.length TP)
  (ht:∀cl C s₀ H₀ fp,PN (dg X scope cl C (ns++N2) s₀ H₀ fp) ifs tt) (he:∀cl C s₀ H₀ fp,PE (dg X scope cl C (ns++N2) s₀ H₀ fp) elt te)
  (hs:∀x,foldedSetIterable iter X.env x=pure x:=by intro _;rfl):PE X (.ListComp elt [⟨tg,iter,ifs,0⟩] scope pos) (Ew f ns.length wi TP tt te):=by
 intro pins s σ H Q I h;obtain⟨cl,hcl,hsub,_,hall⟩:=m_ (env:=X.env) scope.names (λy hy e=>I.ok.has y.1 (ok.free y hy e)) [] (λ_ _ z=>by simp at z);have hclos:closureFor scope X.env=pure cl:=by
  unfold closureFor;simp only[bind_pure];exact hcl
 rw[eval_ListComp];refine wpAny_comprehension_free (use:=none) (E:=X.xe) (cl:=cl) rfl hs hclos ok.kind ok.names (bG (hi pins s σ H _ I h) λv s1 h1=>bG h1 λitv s2 h2=>?_);obtain⟨it,fp,tn,J,H2,e,I2,T,st2,f2,R⟩:=h2;subst e;obtain⟨W,⟨m0,w0⟩,turn⟩:=R s2.heap.objs.size I2.fresh;refine wpAny_newObj_type (wpAny_newFunctionEnv ok.pF (by intro y hy;simp at hy) (λh₁ hns₁ hsb₁=>?_) ok.kind);dsimp only at hns₁ hsb₁ ⊢;have I3:Inv X pins σ (upd H2 s2.heap.objs.size (.lst [])) { s2 with heap:=s2.heap.push { cls:=.type "list",data:=.seq ([]:List Value).toArray } }:=I2.Rt (t':=s2.toks) (ys:=[]) (its:=[]) .nil (Nat.zero_le _);generalize Uu:upd H2 s2.heap.objs.size (HO.lst [])=H3 at *
 generalize hs3:s2.heap.push { cls:=.type "list",data:=.seq ([]:List Value).toArray }=hp3 at *
 generalize hD:s2.heap.objs.size=D at *
 generalize hC:hp3.objs.size=C at *
 have hDC:D < C:=by rw[<- hC,<- hs3,Heap.size_push,hD];exact Nat.lt_succ_self _
 have old:∀b o,hp3.get? b=some o->h₁.get? b=some o:=λb o e=>(hsb₁.2 b (by rw[<- hC];exact Nat.ne_of_lt (Heap.lt_size e))).trans (Heap.get?_push_of_some _ e);have IK:∀b∈fp,b < C:=λb hb=>by
  obtain⟨o,e,_⟩:=T.obj _ _ st2 b hb;rw[<- hC,<- hs3,Heap.size_push];exact Nat.lt_succ_of_lt (Heap.lt_size e)
 have f3:∀b∈fp,mD X pins H3 b:=λb hb=>by
  obtain⟨o,e,_⟩:=T.obj _ _ st2 b hb;refine⟨?_,(f2 b hb).2⟩;rw[<- Uu,aP (by rw[<- hD];exact Nat.ne_of_lt (Heap.lt_size e))];exact(f2 b hb).1
 have yZ:∀b∈fp,b∉frs X.stack:=λb hb z=>by
  obtain⟨_,g1,g2,_⟩:=f3 b hb;rcases List.mem_cons.mp (I3.vJ b z) with q | q
  ·exact g1 q
  ·exact g2 q
 have Uv:(dg X scope cl C (ns++N2) { s2 with heap:=hp3 } H3 fp).Ok:=by
  refine⟨I.ok.mod,?_,I.ok.glob,I.ok.blt,Nat.le_of_eq hC,?_,?_,?_,I.ok.hd,I.ok.frames,.inl rfl,?_,?_,?_,?_,?_,?_,?_⟩
  ·exact ok.kind
  ·exact λa b c h1 h2=>I.ok.inj a b c (hsub a c h1) (hsub b c h2)
  ·intro a ha
   refine hall a ?_;rcases ha with z | z
   ·rcases bV (env:=X.env) z with q | ⟨_,q⟩
    ·exact absurd rfl (ok.pF _ (cg q))
    ·exact cg q
   ·rcases bV (env:=X.env) z with q | ⟨q,_⟩
    ·exact cg q
    ·cases q
  ·intro a c hf;cases hf
  ·intro b hb
   refine⟨Nat.ne_of_lt (IK b hb),λa c h1=>(f3 b hb).2.2.2.2.1 a c (hsub a c h1)⟩
  ·exact I3.bs
  ·exact Nat.le_trans I.ok.qN I3.sz
  ·intro b o e hb
   rcases(f3 b hb).2.2.2.1 with z | z
   ·exact I.ok.uW b o e z
   ·exact absurd (Nat.lt_of_lt_of_le (Heap.lt_size e) (Nat.le_trans I.ok.qN z)) (Nat.lt_irrefl _)
  ·exact yZ
  ·exact I3.stack
  ·exact I3.oF
 have Y0:Inv (dg X scope cl C (ns++N2) { s2 with heap:=hp3 } H3 fp) [] (List.replicate ns.length none++f σ) H3 { s2 with heap:=h₁,toks:=s2.toks+([]:List (Str × Value)).length }:=by
  refine⟨Uv,rfl,I3.bare,Un.kept old,⟨_,hns₁,?_⟩,?_,?_,?_,λp hp=>by simp[dg]at hp,I3.hok.kept old,?_⟩
  ·intro i y v e1 e2 e3
   by_cases hin:i < ns.length
   ·rw[List.getElem?_append_left (by rw[List.length_replicate];exact hin),List.getElem?_replicate,if_pos hin]at e2
    simp at e2
   ·obtain⟨i,rfl⟩:∃k,i=ns.length+k:=⟨i-ns.length,by omega⟩
    have U8:(ns++N2)[ns.length+i]?=some y:=e1;rw[List.getElem?_append_right (by omega),Nat.add_sub_cancel_left]at U8;rw[List.getElem?_append_right (by rw[List.length_replicate];omega),List.length_replicate,Nat.add_sub_cancel_left]at e2;obtain⟨e1',e2',hout⟩:=ok.out σ i y v U8 e2;have hfree:(y,NameKind.free)∈scope.names:=by
     have key:∀k,(relabel scope X.env).names.lookup y=some k->k≠.local->k=.cell\/k=.free->(y,NameKind.free)∈scope.names:=λk q n hk=>by
      rcases bV (env:=X.env) q with z | ⟨_,z⟩
      ·rcases hk with rfl | rfl
       ·exact absurd rfl (ok.pF _ (cg z))
       ·exact cg z
      ·exact cg z
     rcases e3 with z | z | z
     ·rcases bV (env:=X.env) z with q | ⟨q,_⟩
      ·exact absurd q hout
      ·cases q
     ·exact key _ z (by decide) (.inl rfl)
     ·exact key _ z (by decide) (.inr rfl)
    have hk:=ok.free _ hfree rfl;obtain⟨m,hn,hl⟩:=I3.loc;obtain⟨u,r,q⟩:=hl i y v e1' e2' (by rcases hk with z | z;exact .inr (.inl z);exact .inr (.inr z));refine⟨u,r,.inr ⟨?_,?_⟩⟩
    ·rcases e3 with z | z | z
     ·rcases bV (env:=X.env) z with q | ⟨q,_⟩
      ·exact absurd q hout
      ·cases q
     ·exact .inl z
     ·exact .inr z
    ·rcases q with⟨z,_⟩ | ⟨_,c,hc',hcell⟩
     ·rcases hk with q | q <;> (rw[z]at q;cases q)
     ·obtain⟨c',hc2⟩:=hall y hfree
      have:c'=c:=by have:=hsub y c' hc2;rw[hc']at this;exact(Option.some.inj this).symm
      subst this;obtain⟨o,ho,hd⟩:=hcell;exact⟨c',hc2,o,old _ _ ho,hd⟩
  ·intro a c h1
   obtain⟨v,o,ho,hd⟩:=I3.cell a c (hsub a c h1);exact⟨v,o,old _ _ ho,hd⟩
  ·show H3 C=none
   exact I3.hok.fresh (Nat.le_of_eq hC)
  ·exact λa c h1=>I3.iR a c (hsub a c h1)
  ·show (List.replicate ns.length none++f σ).length=(ns++N2).length
   rw[List.length_append,List.length_append,List.length_replicate,ok.X7,I.len,ok.X8]
 have back:∀(s':Shared) (v:St) (H':Hp) (h':Heap),Inv (dg X scope cl C (ns++N2) { s2 with heap:=hp3 } H3 fp) [] v H' s'->Heap.SameBut C s'.heap h'->(∀b∈fp,H' b=none)->Inv X pins σ H' { s' with heap:=h' }:=by
  intro s' v H' h' I' sb fr;have qO:∀b o,hp3.get? b=some o->b≠C:=λb o e=>by rw[<- hC];exact Nat.ne_of_lt (Heap.lt_size e)
  have U:Un (frs X.stack) fp H3 H' hp3 s'.heap:=I'.base;refine I3.call' (ch:=fp) (H':=H') (s':={ s' with heap:=h' }) I'.os ⟨λb o e n h1 h2=>(sb.2 b (qO b o e)).trans (U.keep b o e n h1 h2),λb o e n h1 h2=>?_,U.free,λb o e h2=>?_,U.tups,U.jU,U.j5⟩ (λb ob e=>?_) I'.bare λb hb=>?_
  ·obtain⟨sl,q⟩:=U.slot b o e n h1 h2
   exact⟨sl,(sb.2 b (qO b o e)).trans q⟩
  ·obtain⟨o',q⟩:=U.there b o e h2
   exact⟨o',(sb.2 b (qO b o e)).trans q⟩
  ·have fC:H' C=none:=I'.free
   refine(I'.hok b ob e).stay (λc w' hc q=>(sb.2 c ?_).trans q) (λ_ q=>q) λ_ _ q=>q;rintro rfl;rcases hc with rfl | hc
   ·rw[fC]at e;cases e
   ·rw[fC]at hc;cases hc
  ·obtain⟨_,g1,_,g3,g4,g5⟩:=f3 b hb
   exact⟨g3,g1,g4,g5⟩
 have stat:∀{H':Hp},(∀b∈fp,H' b=none)->∀b∈fp,mD (dg X scope cl C (ns++N2) { s2 with heap:=hp3 } H3 fp) [] H' b:=λhn b hb=>
  ⟨hn b hb,Nat.ne_of_lt (IK b hb),yZ b hb,.inl hb,λa c h1=>(f3 b hb).2.2.2.2.1 a c (hsub a c h1),λp hp=>by simp[dg]at hp⟩
 have st₁:tn 0 h₁:=T.keep _ _ _ st2 λb _ o e=>old b o (by rw[<- hs3];exact Heap.get?_push_of_some _ e);have loop:codeAny (model X.prog X.w) X.A (.compLoop (.ListComp elt [⟨tg,iter,ifs,0⟩] scope pos) 0 (.ref it) (.ref D) (compEnvC scope cl C X.env)) (compPost (model X.prog X.w) X.A X.xe none (EP X pins σ Q) (.ref D) C)
   { s2 with heap:=h₁,toks:=s2.toks+([]:List (Str × Value)).length }:=by
  refine wK (λn s'=>∃i v ys H',v.length=ns.length/\Inv (dg X scope cl C (ns++N2) { s2 with heap:=hp3 } H3 fp) [] (v++f σ) H' s'/\tn i s'.heap/\(∀b∈fp,H' b=none)/\W i n ys H') ?_ m0 ⟨0,List.replicate ns.length none,[],H3,List.length_replicate,Y0,st₁,λb hb=>(f3 b hb).1,w0⟩;rintro n s4 ⟨i,v,ys,H4,hv4,I4,IV,za,w4⟩;rcases turn i n ys H4 w4 with⟨stop,qn⟩ | ⟨go,step⟩
  ·refine bG (T.done (dg X scope cl C (ns++N2) { s2 with heap:=hp3 } H3 fp) rfl rfl rfl hc i [] s4 (v++f σ) H4 _ I4 (stat za) IV stop) λr s5 ⟨hr,I5⟩=>?_
   subst hr;obtain⟨m,hn,_⟩:=id I5.loc;exact⟨m,hn,λh' sb=>⟨.ref D,H4,back s5 (v++f σ) H4 h' I5 sb za,rfl,qn⟩⟩
  ·refine bG (T.item (dg X scope cl C (ns++N2) { s2 with heap:=hp3 } H3 fp) rfl rfl rfl hc i [] s4 (v++f σ) H4 _ I4 (stat za) IV go) λr s5 ⟨u,hr,h5⟩=>?_
   subst hr;refine bG h5 λ_ s6 ⟨y,H6,I6,r6,y6,zc,Uw⟩=>?_;have Ux:=I6.pinned (stat Uw) (T.obj _ _ zc);refine bG (hg cl C { s2 with heap:=hp3 } H3 fp _ s6 v (f σ) H6 y u _ hv4 Ux r6 (step y H6 y6)) λ_ s7 ⟨pre,hpre,Uy,q7⟩=>?_;refine bG (ht cl C { s2 with heap:=hp3 } H3 fp _ s7 _ H6 _ Uy q7) λb s8 ⟨H8,I8,q8⟩=>?_;have pY:∀{σ':St} {H':Hp} {s':Shared},Inv (dg X scope cl C (ns++N2) { s2 with heap:=hp3 } H3 fp) ([]++rY fp s6.heap) σ' H' s'->tn (i+1) s'.heap/\∀b∈fp,H' b=none:=λ{σ' H' s'} I9=>by
    refine⟨T.keep _ _ _ zc λb hb o e=>(I9.pin (b,o) (List.mem_append_right _ (List.mem_append_right _ (iW hb e)))).1,λb hb=>?_⟩;obtain⟨o,e,d⟩:=T.obj _ _ zc b hb;exact(I9.pin (b,o) (List.mem_append_right _ (List.mem_append_right _ (iW hb e)))).2.1
   cases b with
   | false=>
    obtain⟨m',hm,w'⟩:=q8;obtain⟨k1,k2⟩:=pY I8;exact⟨m',hm,i+1,pre,ys,H8,hpre,I8.jF,k1,k2,w'⟩
   | true=>
    have Uz:te (pre++f σ) H8 _:=q8;show wpAny _ _ (eval elt _) _ _ _;refine bG (he cl C { s2 with heap:=hp3 } H3 fp _ s8 _ H8 _ I8 Uz) λz s9 ⟨zv,H9,I9,r9,UG,UJ,m',hm,w'⟩=>?_;refine bG (gn (X:=dg X scope cl C (ns++N2) { s2 with heap:=hp3 } H3 fp) _ s9 _ H9 (.ref D) [zv] (.ref D) [z] (λ_ H'=>H'=upd H9 D (.lst (ys++[zv]))) I9 rfl (.cons r9 .nil) ⟨D,ys,zv,rfl,rfl,UG,UJ,rfl⟩) λ_ UL ⟨_,Z1,IW,_,e10⟩=>?_;subst e10;obtain⟨k1,k2⟩:=pY IW;exact⟨m',hm,i+1,pre,ys++[zv],_,hpre,IW.jF,k1,k2,w'⟩
 exact codeAny_compStart_list loop (T.self X.A 0 _ _ _ st₁ loop)
def dR (ks:List Nat):Nat->St->St
 | _,[]=>[]
 | i,v::r=>(if ks.contains i=true then none else v)::dR ks (i+1) r
theorem Jd (ks:List Nat):∀(i:Nat) (σ:St),(dR ks i σ).length=σ.length
 | _,[]=>rfl
 | i,_::r=>by rw[dR,List.length_cons,List.length_cons,Jd ks (i+1) r]
theorem Je (ks:List Nat):∀(i:Nat) (σ:St) (j:Nat) (v:V),(dR ks i σ)[j]?=some (some v)->ks.contains (i+j)=false/\σ[j]?=some (some v)
 | _,[],j,v,h=>by simp[dR]at h
 | i,x::r,0,v,h=>by
  rw[dR]at h;cases e:ks.contains i with
  | true=>rw[e]at h;simp at h
  | false=>rw[e]at h;exact⟨by first | rfl | exact e,by simpa using h⟩
 | i,x::r,j+1,v,h=>by
  rw[dR,List.getElem?_cons_succ]at h;obtain⟨a,b⟩:=Je ks (i+1) r j v h;exact⟨by rw[show i+(j+1)=i+1+j by omega];exact a,by rw[List.getElem?_cons_succ];exact b⟩
def ac7 (sc:Scope)(N:List Str)(scope:Scope)(N2:List Str)(ks:List Nat):Bool:=
 scope.kind == .function&&scope.names.all (λy=>y.2 != .cell)&&scope.names.all (λy=>y.2 != .local||scope.names.lookup y.1==some .local) &&
 scope.names.all (λy=>y.2 != .free||sc.names.lookup y.1==some .cell||sc.names.lookup y.1==some .free)&&N2.length==N.length &&
 (List.range N.length).all (λi=>ks.contains i||(N2[i]? == N[i]? && (N[i]?.map λy=>scope.names.lookup y != some .local)==some true))
theorem d_.of {X:Cx}{scope:Scope}{ns:List Str}(N2:List Str)(ks:List Nat)(h:ac7 X.env.scope X.N scope N2 ks=true):d_ X scope ns N2 (dR ks 0):=by
 unfold ac7 at h;simp only[Bool.and_eq_true,List.all_eq_true,Bool.or_eq_true,bne_iff_ne,beq_iff_eq,ne_eq]at h;obtain⟨⟨⟨⟨⟨h1,h2⟩,h3⟩,h5⟩,h6⟩,h7⟩:=h;refine⟨h1,λy hy=>h2 y hy,λy hy e=>(h3 y hy).resolve_left λz=>z e,λy hy e=>?_,Jd ks 0,h6,λσ i y v e1 e2=>?_⟩
 ·rcases h5 y hy with(z | z) | z
  ·exact absurd e z
  ·exact .inl z
  ·exact .inr z
 ·obtain⟨a,b⟩:=Je ks 0 σ i v e2
  rw[Nat.zero_add]at a;have hi:i < X.N.length:=by rw[<- h6];exact(List.getElem?_eq_some_iff.mp e1).1
  rcases h7 i (List.mem_range.mpr hi) with z | ⟨z1,z2⟩
  ·rw[a]at z;cases z
  ·rw[<- z1,e1]at z2
   rw[z1]at e1;exact⟨e1,b,by simpa using z2⟩
theorem rQ {X:Cx}{scope:Scope}{cl:List (Str × Addr)}{C:Addr}{N:List Str}{s₀:Shared}{H₀:Hp}{fp:List Addr}{x:Str}{pos:Pos}(hN:N.Nodup)(h0:N[0]?=some x)(hx:scope.names.lookup x=some .local) :
  K7 (dg X scope cl C N s₀ H₀ fp) (.Name x pos) 1 (λv _ Q=>Q [some v]):=by
 intro pins s pre rest H v u Q hp I r q;obtain⟨p0,rfl⟩:=List.length_eq_one_iff.mp hp;refine bG (oG (X:=dg X scope cl C N s₀ H₀ fp) (i:=0) hN h0 (.inl (lookup_relabel_local hx)) (.inr (lookup_relabel_local hx)) pins s _ H v u (λσ' H'=>H'=H/\σ'=some v::rest) I r ⟨rfl,rfl⟩) λ_ s' ⟨σ',H',I',e1,e2⟩=>?_;subst e1 e2;exact⟨[some v],rfl,I',q⟩
theorem vP {X:Cx}{scope:Scope}{cl:List (Str × Addr)}{C:Addr}{N:List Str}{s₀:Shared}{H₀:Hp}{fp:List Addr}{x y:Str}{px py pos:Pos}{k:Nat}(K:PySem.W.Frag)(hc:X.calm=true)(hN:N.Nodup)(h0:N[0]?=some x)(h1:N[1]?=some y)(hx:scope.names.lookup x=some .local)(hy:scope.names.lookup y=some .local)(hK:X.K=K:=by rfl) :
  K7 (dg X scope cl C N s₀ H₀ fp) (.Tuple [.Name x px,.Name y py] k pos) 2 (λv H Q=>∃a p q,v=.ref a/\aK K H a [p,q]/\Q [some p,some q]):=by
 subst hK;intro pins s pre rest H v u Q hp I r q;obtain⟨a,p,q',rfl,hq,q⟩:=q;obtain⟨p0,p1,rfl⟩:∃p0 p1,pre=[p0,p1]:=by
  match pre,hp with
  | [p0,p1],_=>exact⟨p0,p1,rfl⟩
 have P:PG (dg X scope cl C N s₀ H₀ fp) (.Tuple [.Name x px,.Name y py] k pos) (Rb X.K 2 (wD (m6 0) (wD (m6 1) Ra))):=Kq (X:=dg X scope cl C N s₀ H₀ fp) hc (oH (oG (i:=0) hN h0 (.inl (lookup_relabel_local hx)) (.inr (lookup_relabel_local hx))) (oH (oG (i:=1) hN h1 (.inl (lookup_relabel_local hy)) (.inr (lookup_relabel_local hy))) Gs));refine bG (P pins s _ H (.ref a) u (λσ' H'=>H'=H/\σ'=some p::some q'::rest) I r
  ⟨a,[p,q'],rfl,hq,rfl,p,[q'],rfl,q',[],rfl,rfl,rfl,rfl⟩) λ_ s' ⟨σ',H',I',e1,e2⟩=>?_
 subst e1 e2;exact⟨[some p,some q'],rfl,I',q⟩
theorem jR {X:Cx}{scope:Scope}{cl:List (Str × Addr)}{C:Addr}{N:List Str}{s₀:Shared}{H₀:Hp}{fp:List Addr}{x y z:Str}{px py pz pos:Pos}{k:Nat}(K:PySem.W.Frag)(hc:X.calm=true)(hN:N.Nodup)(h0:N[0]?=some x)(h1:N[1]?=some y)(h2:N[2]?=some z)(hx:scope.names.lookup x=some .local)(hy:scope.names.lookup y=some .local)(hz:scope.names.lookup z=some .local)(hK:X.K=K:=by rfl) :
  K7 (dg X scope cl C N s₀ H₀ fp) (.Tuple [.Name x px,.Name y py,.Name z pz] k pos) 3 (λv H Q=>∃a p q r,v=.ref a/\aK K H a [p,q,r]/\Q [some p,some q,some r]):=by
 subst hK;intro pins s pre rest H v u Q hp I r q;obtain⟨a,p,q',r',rfl,hq,q⟩:=q;obtain⟨p0,p1,p2,rfl⟩:∃p0 p1 p2,pre=[p0,p1,p2]:=by
  match pre,hp with
  | [p0,p1,p2],_=>exact⟨p0,p1,p2,rfl⟩
 have P:PG (dg X scope cl C N s₀ H₀ fp) (.Tuple [.Name x px,.Name y py,.Name z pz] k pos) (Rb X.K 3 (wD (m6 0) (wD (m6 1) (wD (m6 2) Ra)))):=Kq (X:=dg X scope cl C N s₀ H₀ fp) hc (oH (oG (i:=0) hN h0 (.inl (lookup_relabel_local hx)) (.inr (lookup_relabel_local hx))) (oH (oG (i:=1) hN h1 (.inl (lookup_relabel_local hy)) (.inr (lookup_relabel_local hy))) (oH (oG (i:=2) hN h2 (.inl (lookup_relabel_local hz)) (.inr (lookup_relabel_local hz))) Gs)));refine bG (P pins s _ H (.ref a) u (λσ' H'=>H'=H/\σ'=some p::some q'::some r'::rest) I r
  ⟨a,[p,q',r'],rfl,hq,rfl,p,[q',r'],rfl,q',[r'],rfl,r',[],rfl,rfl,rfl,rfl⟩) λ_ s' ⟨σ',H',I',e1,e2⟩=>?_
 subst e1 e2;exact⟨[some p,some q',some r'],rfl,I',q⟩
theorem dZ {X:Cx}{elt iter tg:Expr}{ns N2:List Str}{f:St->St}{TP:V->Hp->(St->Prop)->Prop}{ifs:List Expr}{scope:Scope}{pos:Pos}{wi:TI}{tt:TT}{te:TE}(hc:X.calm=true)(ok:d_ X scope ns N2 f)(hi:QI X tg iter wi)
  (hg:∀cl C s₀ H₀ fp,K7 (dg X scope cl C (ns++N2) s₀ H₀ fp) tg ns.length TP)
  (ht:∀cl C s₀ H₀ fp,U0 (dg X scope cl C (ns++N2) s₀ H₀ fp) ifs tt) (he:∀cl C s₀ H₀ fp,QE (dg X scope cl C (ns++N2) s₀ H₀ fp) elt te)
  (hs:∀x,foldedSetIterable iter X.env x=pure x:=by intro _;rfl):QE X (.ListComp elt [⟨tg,iter,ifs,0⟩] scope pos) (Ew f ns.length wi TP tt te):=
 ⟨X_ hc ok hi.out hg (λcl C s₀ H₀ fp=>(ht cl C s₀ H₀ fp).out) (λcl C s₀ H₀ fp=>(he cl C s₀ H₀ fp).out) hs⟩
def qT (n i:Nat)(D:Addr)(TP:V->Hp->(St->Prop)->Prop)(f:St->St)(σ:St)(tt:TT)(te:TE)(x:V)(H:Hp)(ys:List V)(P:List V->Hp->Prop):Prop:=
 TP x H λpre=>tt (pre++f σ) H λb H2=>if b=true then te (pre++f σ) H2 λy H3=>H3 D=some (.lst ys)/\ys.length < sizeLine/\dh n i (P (ys++[y]) (upd H3 D (.lst (ys++[y])))) else dh n i (P ys H2)
theorem uZ {K:PySem.W.Frag}{a:Addr}{xs:List V}{D:Addr}{f:St->St}{tt:TT}{te:TE}{σ:St}{H:Hp}{R:Hp->Prop}(Pv:Nat->List V->Hp->Prop)(h0:Pv 0 [] (upd H D (.lst [])))(hl:∀i ys H,i<=xs.length->Pv i ys H->aN K H a xs)
  (hs:∀i x ys H,xs[i]?=some x->Pv i ys H->qT xs.length i D (λv _ Q=>Q [some v]) f σ tt te x H ys (Pv (i+1)))
  (hd:∀ys H,Pv xs.length ys H->R H) :
  ∃W:Nat->Nat->List V->Hp->Prop,(∃m,W 0 m [] (upd H D (.lst [])))/\
   ∀i m ys H,W i m ys H->((tX K a).stop i H/\R H)\/((tX K a).go i H/\∀x H',(tX K a).nZ i H x H'->tt ([some x]++f σ) H' λb H2=>
    if b=true then te ([some x]++f σ) H2 λy H3=>H3 D=some (.lst ys)/\ys.length < sizeLine/\∃m',m' < m/\W (i+1) m' (ys++[y]) (upd H3 D (.lst (ys++[y])))
    else ∃m',m' < m/\W (i+1) m' ys H2):=by
 refine⟨λi m ys H=>m=xs.length-i/\i<=xs.length/\Pv i ys H,⟨xs.length,by simp,Nat.zero_le _,h0⟩,?_⟩;rintro i m ys H ⟨rfl,hi,p⟩;have q:=hl i ys H hi p;by_cases hlt:i < xs.length
 ·refine .inr ⟨⟨xs,xs[i],q,by simp[hlt]⟩,λx H' y=>?_⟩
  obtain⟨e,y⟩:=y;subst e;exact hs i x ys H' (y xs q) p
 ·have e:i=xs.length:=by omega
  subst e;exact .inl ⟨⟨xs,q,Nat.le_refl _⟩,hd ys H p⟩
theorem wQ {K:PySem.W.Frag}{a:Addr}{xs:List V}{D:Addr}{f:St->St}{tt:TT}{te:TE}{σ:St}{H:Hp}{R:Hp->Prop}(Pv:Nat->List V->Hp->Prop)(h0:Pv 0 [] (upd H D (.lst [])))(hl:∀i ys H,i<=xs.length->Pv i ys H->aK K H a xs)
  (hs:∀i x ys H,xs[i]?=some x->Pv i ys H->qT xs.length i D (λv _ Q=>Q [some v]) f σ tt te x H ys (Pv (i+1)))
  (hd:∀ys H,Pv xs.length ys H->R H) :
  ∃W:Nat->Nat->List V->Hp->Prop,(∃m,W 0 m [] (upd H D (.lst [])))/\
   ∀i m ys H,W i m ys H->((tY K a).stop i H/\R H)\/((tY K a).go i H/\∀x H',(tY K a).nZ i H x H'->tt ([some x]++f σ) H' λb H2=>
    if b=true then te ([some x]++f σ) H2 λy H3=>H3 D=some (.lst ys)/\ys.length < sizeLine/\∃m',m' < m/\W (i+1) m' (ys++[y]) (upd H3 D (.lst (ys++[y])))
    else ∃m',m' < m/\W (i+1) m' ys H2):=by
 refine⟨λi m ys H=>m=xs.length-i/\i<=xs.length/\Pv i ys H,⟨xs.length,by simp,Nat.zero_le _,h0⟩,?_⟩;rintro i m ys H ⟨rfl,hi,p⟩;have q:=hl i ys H hi p;by_cases hlt:i < xs.length
 ·refine .inr ⟨⟨xs,xs[i],q,by simp[hlt]⟩,λx H' y=>?_⟩
  obtain⟨e,y⟩:=y;subst e;exact hs i x ys H' (y xs q) p
 ·have e:i=xs.length:=by omega
  subst e;exact .inl ⟨⟨xs,q,Nat.le_refl _⟩,hd ys H p⟩
theorem pH {K:PySem.W.Frag}{a:Addr}{xs:List V}{D:Addr}{f:St->St}{KT:PySem.W.Frag}{tt:TT}{te:TE}{σ:St}{H:Hp}{R:Hp->Prop}(Pv:Nat->List V->Hp->Prop)(h0:Pv 0 [] (upd H D (.lst [])))(hl:∀i ys H,i<=xs.length->Pv i ys H->aN K H a xs)
  (hs:∀i x ys H,xs[i]?=some x->Pv i ys H->qT xs.length i D (λv H Q=>∃a p q,v=.ref a/\aK KT H a [p,q]/\Q [some p,some q]) f σ tt te x H ys (Pv (i+1)))
  (hd:∀ys H,Pv xs.length ys H->R H) :
  ∃W:Nat->Nat->List V->Hp->Prop,(∃m,W 0 m [] (upd H D (.lst [])))/\
   ∀i m ys H,W i m ys H->((tX K a).stop i H/\R H)\/((tX K a).go i H/\∀x H',(tX K a).nZ i H x H'->∃a p q,x=.ref a/\aK KT H' a [p,q]/\(tt ([some p,some q]++f σ) H' λb H2=>
    if b=true then te ([some p,some q]++f σ) H2 λy H3=>H3 D=some (.lst ys)/\ys.length < sizeLine/\∃m',m' < m/\W (i+1) m' (ys++[y]) (upd H3 D (.lst (ys++[y])))
    else ∃m',m' < m/\W (i+1) m' ys H2)):=by
 refine⟨λi m ys H=>m=xs.length-i/\i<=xs.length/\Pv i ys H,⟨xs.length,by simp,Nat.zero_le _,h0⟩,?_⟩;rintro i m ys H ⟨rfl,hi,p⟩;have q:=hl i ys H hi p;by_cases hlt:i < xs.length
 ·refine .inr ⟨⟨xs,xs[i],q,by simp[hlt]⟩,λx H' y=>?_⟩
  obtain⟨e,y⟩:=y;subst e;exact hs i x ys H' (y xs q) p
 ·have e:i=xs.length:=by omega
  subst e;exact .inl ⟨⟨xs,q,Nat.le_refl _⟩,hd ys H p⟩
theorem gj {K:PySem.W.Frag}{a:Addr}{xs:List V}{D:Addr}{f:St->St}{KT:PySem.W.Frag}{tt:TT}{te:TE}{σ:St}{H:Hp}{R:Hp->Prop}(Pv:Nat->List V->Hp->Prop)(h0:Pv 0 [] (upd H D (.lst [])))(hl:∀i ys H,i<=xs.length->Pv i ys H->aK K H a xs)
  (hs:∀i x ys H,xs[i]?=some x->Pv i ys H->qT xs.length i D (λv H Q=>∃a p q r,v=.ref a/\aK KT H a [p,q,r]/\Q [some p,some q,some r]) f σ tt te x H ys (Pv (i+1)))
  (hd:∀ys H,Pv xs.length ys H->R H) :
  ∃W:Nat->Nat->List V->Hp->Prop,(∃m,W 0 m [] (upd H D (.lst [])))/\
   ∀i m ys H,W i m ys H->((tY K a).stop i H/\R H)\/((tY K a).go i H/\∀x H',(tY K a).nZ i H x H'->∃a p q r,x=.ref a/\aK KT H' a [p,q,r]/\(tt ([some p,some q,some r]++f σ) H' λb H2=>
    if b=true then te ([some p,some q,some r]++f σ) H2 λy H3=>H3 D=some (.lst ys)/\ys.length < sizeLine/\∃m',m' < m/\W (i+1) m' (ys++[y]) (upd H3 D (.lst (ys++[y])))
    else ∃m',m' < m/\W (i+1) m' ys H2)):=by
 refine⟨λi m ys H=>m=xs.length-i/\i<=xs.length/\Pv i ys H,⟨xs.length,by simp,Nat.zero_le _,h0⟩,?_⟩;rintro i m ys H ⟨rfl,hi,p⟩;have q:=hl i ys H hi p;by_cases hlt:i < xs.length
 ·refine .inr ⟨⟨xs,xs[i],q,by simp[hlt]⟩,λx H' y=>?_⟩
  obtain⟨e,y⟩:=y;subst e;exact hs i x ys H' (y xs q) p
 ·have e:i=xs.length:=by omega
  subst e;exact .inl ⟨⟨xs,q,Nat.le_refl _⟩,hd ys H p⟩
theorem Z9 {n i:Nat}{D:Addr}{f:St->St}{σ:St}{te:TE}{x:V}{H:Hp}{ys:List V}{P:List V->Hp->Prop}(h:te ([some x]++f σ) H λy H3=>H3 D=some (.lst ys)/\ys.length < sizeLine/\dh n i (P (ys++[y]) (upd H3 D (.lst (ys++[y]))))) :
  qT n i D (λv _ Q=>Q [some v]) f σ gq te x H ys P:=by
 show (if true=true then (te ([some x]++f σ) H λy H3=>H3 D=some (.lst ys)/\ys.length < sizeLine/\dh n i (P (ys++[y]) (upd H3 D (.lst (ys++[y]))))) else dh n i (P ys H));rw[if_pos rfl];exact h
theorem Z_ {KT:PySem.W.Frag}{n i:Nat}{D a:Addr}{p q:V}{f:St->St}{σ:St}{te:TE}{x:V}{H:Hp}{ys:List V}{P:List V->Hp->Prop}(hx:x=.ref a)(hS:aK KT H a [p,q])(h:te ([some p,some q]++f σ) H λy H3=>H3 D=some (.lst ys)/\ys.length < sizeLine/\dh n i (P (ys++[y]) (upd H3 D (.lst (ys++[y]))))) :
  qT n i D (λv H Q=>∃a p q,v=.ref a/\aK KT H a [p,q]/\Q [some p,some q]) f σ gq te x H ys P:=by
 refine⟨a,p,q,hx,hS,?_⟩;show (if true=true then (te ([some p,some q]++f σ) H λy H3=>H3 D=some (.lst ys)/\ys.length < sizeLine/\dh n i (P (ys++[y]) (upd H3 D (.lst (ys++[y]))))) else dh n i (P ys H));rw[if_pos rfl];exact h
theorem qU {KT:PySem.W.Frag}{n i:Nat}{D a:Addr}{p q r:V}{f:St->St}{σ:St}{te:TE}{x:V}{H:Hp}{ys:List V}{P:List V->Hp->Prop}(hx:x=.ref a)(hS:aK KT H a [p,q,r])(h:te ([some p,some q,some r]++f σ) H λy H3=>H3 D=some (.lst ys)/\ys.length < sizeLine/\dh n i (P (ys++[y]) (upd H3 D (.lst (ys++[y]))))) :
  qT n i D (λv H Q=>∃a p q r,v=.ref a/\aK KT H a [p,q,r]/\Q [some p,some q,some r]) f σ gq te x H ys P:=by
 refine⟨a,p,q,r,hx,hS,?_⟩;show (if true=true then (te ([some p,some q,some r]++f σ) H λy H3=>H3 D=some (.lst ys)/\ys.length < sizeLine/\dh n i (P (ys++[y]) (upd H3 D (.lst (ys++[y]))))) else dh n i (P ys H));rw[if_pos rfl];exact h
end L2
end
section
namespace L2
open PySem PySem.Spec PyProof.Rows
section
variable {X:Cx}
def aaT:V->List V->Hp->VK->Prop:=λx vs H Q=>∃(l:Addr) (us:List (List Nat)) (w:List Nat),x=.ref l/\vs=[.str (S w)]/\H l=some (.lst (Ts us))/\w∈us/\us.length<=1000/\Q .non (upd H l (.lst (Ts (us.erase w))))
def strEq (w:List Nat)(u:Value):Bool:=match u with
 | .str z _=>z.cps.toList==w
 | _=>false
theorem U9 {us:List (List Nat)}{w:List Nat}:us.erase w=us.eraseIdx (us.idxOf w):=by
 induction us with
 | nil=>rfl
 | cons a r ih=>
  by_cases h:a=w
  ·subst h;simp
  ·rw[List.erase_cons_tail (by simpa using h),List.idxOf_cons,cond_eq_ite,if_neg (by simpa using h),List.eraseIdx_cons_succ,ih]
theorem U_:Ul X "list.remove" aaT:=by
 intro pins s σ H x vs v us Q I rx rv h;obtain⟨l,ls,w,rfl,rfl,hH,hw,hz,q⟩:=h;cases rx;obtain⟨u,rfl,ru⟩:=rv.one;obtain⟨t,rfl⟩:=ru;obtain⟨z,its,n,r,hl,e⟩:=I.yW hH;have hlen:its.length=ls.length:=by rw[<- hl,List.length_map]
 have hj:ls.idxOf w < ls.length:=List.idxOf_lt_length_of_mem hw;have get:∀(m:Nat) (hm:m < its.toArray.size),∃(tk:Tok) (hm':m < ls.length),its.toArray[m]=.str (S ls[m]) tk:=λm hm=>by
  have hm':m < ls.length:=by simp at hm;omega
  obtain⟨u1,e1,s1⟩:=r.get (i:=m) (x:=.str (S ls[m])) (by simp[hm']);obtain⟨tk,rfl⟩:=s1;refine⟨tk,hm',?_⟩;rw[List.getElem?_eq_getElem (by omega)]at e1;simpa using e1
 refine call_meets F.slot_list_remove ⟨_,e,rfl⟩ F.entry_list_remove (F.args_list_remove_2 _ _) (PySem.MeetsSeq.list_remove l its.toArray n (.str (S w) t) (strEq w) (λy hy=>?_) (ls.idxOf w) (by rw[List.size_toArray];omega) ?_ (λm hm hm2=>?_) (by rw[List.size_toArray,hlen];exact Nat.le_of_lt (aD hz))) ⟨e,?_⟩
 ·obtain⟨m,hm,rfl⟩:=Array.mem_iff_getElem.mp hy
  obtain⟨tk,_,e1⟩:=get m hm;rw[e1];exact PySem.SeqRoads2.EqGives.str _ _ _ _
 ·obtain⟨tk,hm',e1⟩:=get (ls.idxOf w) (by rw[List.size_toArray];omega)
  rw[e1];show (ls[ls.idxOf w]==w)=true;rw[List.getElem_idxOf];simp
 ·obtain⟨tk,hm',e1⟩:=get m hm
  rw[e1];show (ls[m]==w)=false;have:=List.not_of_lt_findIdx (p:=λa=>a==w) (xs:=ls) (show m < ls.findIdx (λa=>a==w) from hm2);simpa using this
 ·refine⟨.non,_,I.Rr (its':=its.eraseIdx (ls.idxOf w)) hH e ?_ ?_ ?_,rfl,q⟩
  ·rw[Array.eraseIdxIfInBounds,dif_pos (by rw[List.size_toArray];omega)]
   simp
  ·rw[U9]
   have hv:=Vals.eraseIdx (ls.idxOf w) r;have em:∀(xs:List (List Nat)) (i:Nat),Ts (xs.eraseIdx i)=(Ts xs).eraseIdx i:=by
    intro xs
    induction xs with
    | nil=>intro i;rfl
    | cons a r ih=>
     intro i;cases i with
     | zero=>rfl
     | succ i=>rw[List.eraseIdx_cons_succ,Ts,List.map_cons,Ts,List.map_cons,List.eraseIdx_cons_succ];congr 1;exact ih i
   rw[em];exact hv
  ·rw[List.length_map]
   exact Nat.le_trans (List.length_erase_le ..) (Nat.le_of_lt (aD hz))
def ac8 (K:PySem.W.Frag):List V->Hp->VK->Prop:=λxs H Q=>∃(a:Addr) (ws:List (List Nat)),xs=[.ref a]/\aN K H a (Ts ws)/\ws.length < 64/\∀(p:Addr) (ws':List (List Nat)),H p=none->ws'.Perm ws->ws'.Pairwise (λa b=>decide (b < a)=false)->Q (.ref p) (upd H p (.lst (Ts ws')))
theorem K8:gC X (.builtin "sorted") (ac8 X.K):=by
 intro pins s σ H xs us Q I r h;obtain⟨a,ws,rfl,hS,h64,q⟩:=h;obtain⟨u,rfl,ru⟩:=vals1 r;cases ru;obtain⟨its,rv,pl,_⟩:=I.list hS;have hlen:its.length=ws.length:=by have:=rv.length;simpa using this.symm
 refine sorted_strs pl.isList (Bf rv) (by omega) λout ss' a1 a2 a3=>?_;obtain⟨e,he⟩:=sortedAll_at s.heap its out;have U6:(ss'.map λy=>y.cps.toList).Perm ws:=by
  have:=a2.map λy:Str=>y.cps.toList;rw[List.map_map]at this;have e:((λy:Str=>y.cps.toList) ∘ S)=id:=rfl;rw[e,List.map_id]at this;exact this
 have hv:Vals (Ts (ss'.map λy=>y.cps.toList)) out.toList:=by
  have:=sI a1;have es:(ss'.map V.str)=Ts (ss'.map λy=>y.cps.toList):=by
   rw[Ts,List.map_map];exact List.map_congr_left λy _=>by simp[Function.comp_def,acV]
  rw[es]at this;exact this
 have hl:(Ts (ss'.map λy=>y.cps.toList)).length<=sizeLine:=by
  rw[List.length_map,U6.length_eq];exact Nat.le_of_lt (aD (by omega))
 refine⟨.ref (s.heap.objs.size+1),_,I.laid (o:=.lst _) (t':=s.toks) (λb o z=>sortedAll_old z) (Nat.le_succ _) ⟨hl,out.toList,e,hv,by rw[Array.toArray_toList];exact he⟩,rfl,q _ _ (I.hok.fresh (Nat.le_succ _)) U6 (Jb ss' a3)⟩
def aeR (t:TS):TS:=λD σ H=>∃Iv:St->Hp->Prop,t { D with nx:=Iv } σ H/\∀σ' H',Iv σ' H'->D.nx σ' H'
theorem iG {st:Stmt}{t:TS}(h:QS X st t):QS X st (aeR t):=⟨λpins s σ H D I ⟨Iv,a,b⟩=>by
 refine bG (h.out pins s σ H _ I a) λf s' q=>?_;cases f with
 | next=>obtain⟨σ7,H7,I7,n7⟩:=q;exact⟨σ7,H7,I7,b _ _ n7⟩
 | cont=>exact q
 | brk=>exact q
 | ret v=>exact q⟩
end
end L2
end
section
namespace L2
open PySem PySem.Spec PyProof.Rows PySem.W
section
variable {n:Nat}
structure afe (n:Nat)(p:Array Nat):Prop where
 sz:p.size=n
 pm:p.toList.Perm (List.range n)
end
end L2
end
section
namespace L2
open PySem PySem.Spec PyProof.Rows PySem.W
end L2
end
section
namespace L2
open PySem PySem.Spec PyProof.Rows PySem.W
section
open Classical in
theorem GK (d:Dt):∀es:List Dt,((ji es).any λy=>PyData.eqv y (toP d))=decide (d∈es)
 | []=>by simp[ji]
 | e::es=>by
  rw[ji,List.any_cons,GK d es,GJ];by_cases z:e=d
  ·subst z;simp
  ·have z':¬d=e:=λy=>z y.symm
   simp[z,z']
end
end L2
end
section
namespace L2
open PySem PySem.Spec PyProof.Rows PySem.W
section
variable {prog:Program}{w:World}{A:Around}{E:Value->Shared->Prop}{s:Shared}
theorem ac9 {a b:Addr}{oa ob:Obj}{na nb:Nat}{x1 y1 x2 y2:Nat}{t1 t2 t3 t4:Tok}{r1 r2:List Value}{Q:Value->Shared->Prop}
  (ha:s.heap.get? a=some oa) (ca:oa.cls=.type "tuple") (da:oa.data=.seq (Value.int x1 t1::Value.int y1 t2::r1).toArray na)
  (hb:s.heap.get? b=some ob) (cb:ob.cls=.type "tuple") (db:ob.data=.seq (Value.int x2 t3::Value.int y2 t4::r2).toArray nb) (l1:y1 < 1000) (l2:y2 < 1000) (hu:A.units < cLine) (hne:x1*1000+y1≠x2*1000+y2)
  (q:Q (.bool (decide (x1*1000+y1 < x2*1000+y2))) s):wpAny (model prog w) A (compareOp .Lt (.ref a) (.ref b)) Q E s:=by
 have Ta:s.TypeIs (.ref a) "tuple":=⟨oa,ha,ca⟩
 have Tb:s.TypeIs (.ref b) "tuple":=⟨ob,hb,cb⟩
 show wpAny _ _ (richCompare .Lt (.ref a) (.ref b)) Q E s;refine wpAny_richCompare_same_room (op:=.Lt) (T:="tuple") Ta Tb F.slot_tuple_lt (wpAny_call_entry F.slot_tuple_lt Ta F.entry_tuple_lt ?_ (F.args_tuple_lt_2 _ _)) hu;show wpAny _ _ (isInstance (.ref b) (.type "tuple") >>= _) _ _ s;refine wpAny_bind (wpAny_isInstance Tb isSubtype_tuple_tuple ?_);simp only[Bool.not_true,Bool.false_eq_true,if_false];refine wpAny_bind (wpAny_tupleItemsOf ha da (wpAny_bind (wpAny_tupleItemsOf hb db (wpAny_bind ?_))));rw[show (Value.int (x1:Int) t1::Value.int (y1:Int) t2::r1).toArray.toList.zip (Value.int (x2:Int) t3::Value.int (y2:Int) t4::r2).toArray.toList=(Value.int (x1:Int) t1,Value.int (x2:Int) t3)::(Value.int (y1:Int) t2,Value.int (y2:Int) t4)::r1.zip r2 from rfl];rw[List.forIn_cons];refine wpAny_bind ?_;dsimp only;refine wpAny_bind (SeqAt.EqAt.int_int _ _ _ _ prog w _ _ ?_);by_cases ex:x1=x2
 ·subst ex
  simp only[beq_self_eq_true,Bool.not_true,Bool.false_eq_true,if_false];refine wpAny_pure ?_;dsimp only;rw[List.forIn_cons];refine wpAny_bind ?_;dsimp only;refine wpAny_bind (SeqAt.EqAt.int_int _ _ _ _ prog w _ _ ?_);have ey:((y1:Int)==(y2:Int))=false:=by
   apply beq_eq_false_iff_ne.mpr;intro z;exact hne (by omega)
  simp only[ey,Bool.not_false,if_true];refine wpAny_bind (wpAny_rule (wpAny_bind (lt_int ?_)));refine wpAny_bind (wpAny_pure (wpAny_pure (wpAny_pure (wpAny_pure ⟨_,rfl,by simp,?_⟩))));rw[show decide ((y1:Int) < (y2:Int))=decide (x1*1000+y1 < x1*1000+y2) by simp];exact q
 ·have ey:((x1:Int)==(x2:Int))=false:=by
   apply beq_eq_false_iff_ne.mpr;intro z;exact ex (by omega)
  simp only[ey,Bool.not_false,if_true];refine wpAny_bind (wpAny_rule (wpAny_bind (lt_int ?_)));refine wpAny_bind (wpAny_pure (wpAny_pure (wpAny_pure (wpAny_pure ⟨_,rfl,by simp,?_⟩))));rw[show decide ((x1:Int) < (x2:Int))=decide (x1*1000+y1 < x2*1000+y2) by
    by_cases z:x1 < x2
    ·rw[decide_eq_true (by omega),decide_eq_true (by omega)]
    ·rw[decide_eq_false (by omega),decide_eq_false (by omega)]]
  exact q
end
section
variable {X:Cx}
def aeS:R2:=λx y H Q=>∃(a b:Addr) (x1 y1 x2 y2:Nat) (r1 r2:List V),x=.ref a/\y=.ref b/\H a=some (.tup (.int x1 :: .int y1::r1))/\H b=some (.tup (.int x2 :: .int y2::r2))/\y1 < 1000/\y2 < 1000/\x1*1000+y1≠x2*1000+y2/\
 Q (.bl (decide (x1*1000+y1 < x2*1000+y2))) H
theorem ac_ (hu:X.A.units < cLine):dX X (compareOp .Lt) aeS:=by
 intro pins s σ H x y v u Q I rx ry h;obtain⟨a,b,x1,y1,x2,y2,r1,r2,rfl,rfl,ea,eb,l1,l2,hne,q⟩:=h;cases rx;cases ry;obtain⟨_,tv,Va,o,ho,hc,n,hd⟩:=I.hok _ _ ea;obtain⟨_,tv',Yb,o',ho',hc',n',hd'⟩:=I.hok _ _ eb;cases Va with
 | cons q1 rr=>
  cases rr with
  | cons q2 rr=>
   cases Yb with
   | cons q3 rr'=>
    cases rr' with
    | cons q4 rr'=>
     obtain⟨t1,rfl⟩:=q1;obtain⟨t2,rfl⟩:=q2;obtain⟨t3,rfl⟩:=q3;obtain⟨t4,rfl⟩:=q4;exact ac9 ho hc hd ho' hc' hd' l1 l2 hu hne ⟨.bl _,H,I,rfl,q⟩
end
end L2
end
section
namespace L2
open PySem PySem.Spec PyProof.Rows PySem.W
section
variable {X:Cx}
structure afd (K:PySem.W.Frag)(C:Addr):Prop where
 ha:PySem.W.findIn K (.ref C) "__class__"=some (some (.builtin "object.__class__"))
 hn:PySem.W.specialIn K (.builtin "object.__class__") "__get__"=some (some (.builtin "getset_descriptor.__get__"))
 ht:PySem.W.takesIn K (.builtin "object.__class__")=some true
 hm:PySem.W.mroIn K C (.type "object")=some true
 ki:PySem.W.kitOne K (.ref C) (.ref C)=some true
def ada:List V->Hp->VK->Prop:=λxs H Q=>∃l:List Nat,xs=[.str (S l)]/\l.length<=1000/\∀p,H p=none->Q (.ref p) (upd H p (.lst (Ts (l.map λc=>[c]))))
theorem Jf:∀(l:List Nat) (us:List Value),us.length=l.length->(∀(i c:Nat),l[i]?=some c->∃t,us[i]?=some (.str (S [c]) t))->Vals (Ts (l.map λc=>[c])) us
 | [],[],_,_=>.nil
 | [],_::_,h,_=>by simp at h
 | _::_,[],h,_=>by simp at h
 | c::l,u::us,h,k=>by
  obtain⟨t,e⟩:=k 0 c rfl;have e:u=.str (S [c]) t:=Option.some.inj e;exact .cons ⟨t,e⟩ (Jf l us (by simpa using h) λi d hd=>k (i+1) d hd)
theorem wR (hc:X.calm=true):gC X (.type "list") ada:=by
 intro pins s σ H xs us Q I r h;obtain⟨l,rfl,hl,q⟩:=h;obtain⟨u,rfl,ru⟩:=vals1 r;obtain⟨t,rfl⟩:=ru;have hz:l.length<=sizeLine:=Nat.le_of_lt (aD (by omega));refine call_list_str (I.ok.hd hc) (S l) t (λh' tk acc c' hk hD hacc=>?_) (by show l.toArray.size<=_;simpa using hz);have hsz:acc.size=l.length:=by rw[hacc.1];show l.toArray.size=_;simp
 refine⟨.ref s.heap.objs.size,_,I.laid (o:=.lst (Ts (l.map λc=>[c]))) (t':=tk) hk (Nat.le_refl _) ⟨by rw[List.length_map,List.length_map];exact hz,acc.toList,c',?_,by simpa using hD⟩,rfl,q _ (I.hok.fresh (Nat.le_refl _))⟩;refine Jf l acc.toList (by rw[Array.length_toList];exact hsz) λi c hc=>?_;have hi:i < acc.size:=by rw[hsz];exact(List.getElem?_eq_some_iff.mp hc).1
 obtain⟨c2,t2,e1,e2⟩:=hacc.2 i acc[i] (by simp[hi]);have e1:l.toArray[i]?=some c2:=e1;rw[List.getElem?_toArray,hc]at e1;have e1:=Option.some.inj e1;exact⟨t2,by rw[Array.getElem?_toList,Array.getElem?_eq_getElem hi,e2,e1];rfl⟩
end
end L2
end
section
namespace L2
open PySem PySem.Spec PyProof.Rows
theorem aaU {X:Cx}{ix:Nat}{xn:Str}{CN spos:Pos}{elt iter tg:Expr}{ns N2:List Str}{f:St->St}{TP:V->Hp->(St->Prop)->Prop}{ifs:List Expr}{scope:Scope}{pos:Pos}{wi:TI}{tt:TT}{te:TE}(hN:X.N.Nodup)(hxi:X.N[ix]?=some xn)(hxl:Loc X.env.scope xn)(hc:X.calm=true)(ok:d_ X scope ns N2 f)(hi:PI X tg iter wi)
  (hg:∀cl C s₀ H₀ fp,K7 (dg X scope cl C (ns++N2) s₀ H₀ fp) tg ns.length TP)
  (ht:∀cl C s₀ H₀ fp,PN (dg X scope cl C (ns++N2) s₀ H₀ fp) ifs tt) (he:∀cl C s₀ H₀ fp,PE (dg X scope cl C (ns++N2) s₀ H₀ fp) elt te)
  (hs:∀x,foldedSetIterable iter X.env x=pure x:=by intro _;rfl) (hsw:swapsWith (.ListComp elt [⟨tg,iter,ifs,0⟩] scope pos) (some (.Name xn CN)) spos.line X.env=pure true:=by rfl)
  (hf:X.fn xn=true\/X.env.scope.names.lookup xn=some .local:=by first | exact .inl rfl | exact .inr rfl | assumption) :
  PS X (.Assign [.Name xn CN] (.ListComp elt [⟨tg,iter,ifs,0⟩] scope pos) spos) (Gu (Ew f ns.length wi TP tt te) (m6 ix)):=by
 intro pins s σ H De I h;obtain⟨cl,hcl,hsub,_,hall⟩:=m_ (env:=X.env) scope.names (λy hy e=>I.ok.has y.1 (ok.free y hy e)) [] (λ_ _ z=>by simp at z);have hclos:closureFor scope X.env=pure cl:=by
  unfold closureFor;simp only[bind_pure];exact hcl
 rw[exec_Assign_Name_used _ _ _ _ hsw];refine wpAny_bind (wpAny_standAt (wpAny_bind (wpAny_bind ?_)));refine bG (Q:=λ_ s'=>∃σ' H',Inv X pins σ' H' s'/\De.nx σ' H') ?_ λ_ s' hq=>wpAny_pure (wpAny_pure hq);refine wpAny_comprehension_free (use:=some (assign (.Name xn CN) X.env)) (E:=X.xe) (cl:=cl) rfl hs hclos ok.kind ok.names (bG (hi pins s σ H _ I h) λv s1 h1=>bG h1 λitv s2 h2=>?_);obtain⟨it,fp,tn,J,H2,e,I2,T,st2,f2,R⟩:=h2;subst e;obtain⟨W,⟨m0,w0⟩,turn⟩:=R s2.heap.objs.size I2.fresh;refine wpAny_newObj_type (wpAny_newFunctionEnv ok.pF (by intro y hy;simp at hy) (λh₁ hns₁ hsb₁=>?_) ok.kind);dsimp only at hns₁ hsb₁ ⊢;have I3:Inv X pins σ (upd H2 s2.heap.objs.size (.lst [])) { s2 with heap:=s2.heap.push { cls:=.type "list",data:=.seq ([]:List Value).toArray } }:=I2.Rt (t':=s2.toks) (ys:=[]) (its:=[]) .nil (Nat.zero_le _);generalize Uu:upd H2 s2.heap.objs.size (HO.lst [])=H3 at *
 generalize hs3:s2.heap.push { cls:=.type "list",data:=.seq ([]:List Value).toArray }=hp3 at *
 generalize hD:s2.heap.objs.size=D at *
 generalize hC:hp3.objs.size=C at *
 have hDC:D < C:=by rw[<- hC,<- hs3,Heap.size_push,hD];exact Nat.lt_succ_self _
 have old:∀b o,hp3.get? b=some o->h₁.get? b=some o:=λb o e=>(hsb₁.2 b (by rw[<- hC];exact Nat.ne_of_lt (Heap.lt_size e))).trans (Heap.get?_push_of_some _ e);have IK:∀b∈fp,b < C:=λb hb=>by
  obtain⟨o,e,_⟩:=T.obj _ _ st2 b hb;rw[<- hC,<- hs3,Heap.size_push];exact Nat.lt_succ_of_lt (Heap.lt_size e)
 have f3:∀b∈fp,mD X pins H3 b:=λb hb=>by
  obtain⟨o,e,_⟩:=T.obj _ _ st2 b hb;refine⟨?_,(f2 b hb).2⟩;rw[<- Uu,aP (by rw[<- hD];exact Nat.ne_of_lt (Heap.lt_size e))];exact(f2 b hb).1
 have yZ:∀b∈fp,b∉frs X.stack:=λb hb z=>by
  obtain⟨_,g1,g2,_⟩:=f3 b hb;rcases List.mem_cons.mp (I3.vJ b z) with q | q
  ·exact g1 q
  ·exact g2 q
 have Uv:(dg X scope cl C (ns++N2) { s2 with heap:=hp3 } H3 fp).Ok:=by
  refine⟨I.ok.mod,?_,I.ok.glob,I.ok.blt,Nat.le_of_eq hC,?_,?_,?_,I.ok.hd,I.ok.frames,.inl rfl,?_,?_,?_,?_,?_,?_,?_⟩
  ·exact ok.kind
  ·exact λa b c h1 h2=>I.ok.inj a b c (hsub a c h1) (hsub b c h2)
  ·intro a ha
   refine hall a ?_;rcases ha with z | z
   ·rcases bV (env:=X.env) z with q | ⟨_,q⟩
    ·exact absurd rfl (ok.pF _ (cg q))
    ·exact cg q
   ·rcases bV (env:=X.env) z with q | ⟨q,_⟩
    ·exact cg q
    ·cases q
  ·intro a c hf;cases hf
  ·intro b hb
   refine⟨Nat.ne_of_lt (IK b hb),λa c h1=>(f3 b hb).2.2.2.2.1 a c (hsub a c h1)⟩
  ·exact I3.bs
  ·exact Nat.le_trans I.ok.qN I3.sz
  ·intro b o e hb
   rcases(f3 b hb).2.2.2.1 with z | z
   ·exact I.ok.uW b o e z
   ·exact absurd (Nat.lt_of_lt_of_le (Heap.lt_size e) (Nat.le_trans I.ok.qN z)) (Nat.lt_irrefl _)
  ·exact yZ
  ·exact I3.stack
  ·exact I3.oF
 have Y0:Inv (dg X scope cl C (ns++N2) { s2 with heap:=hp3 } H3 fp) [] (List.replicate ns.length none++f σ) H3 { s2 with heap:=h₁,toks:=s2.toks+([]:List (Str × Value)).length }:=by
  refine⟨Uv,rfl,I3.bare,Un.kept old,⟨_,hns₁,?_⟩,?_,?_,?_,λp hp=>by simp[dg]at hp,I3.hok.kept old,?_⟩
  ·intro i y v e1 e2 e3
   by_cases hin:i < ns.length
   ·rw[List.getElem?_append_left (by rw[List.length_replicate];exact hin),List.getElem?_replicate,if_pos hin]at e2
    simp at e2
   ·obtain⟨i,rfl⟩:∃k,i=ns.length+k:=⟨i-ns.length,by omega⟩
    have U8:(ns++N2)[ns.length+i]?=some y:=e1;rw[List.getElem?_append_right (by omega),Nat.add_sub_cancel_left]at U8;rw[List.getElem?_append_right (by rw[List.length_replicate];omega),List.length_replicate,Nat.add_sub_cancel_left]at e2;obtain⟨e1',e2',hout⟩:=ok.out σ i y v U8 e2;have hfree:(y,NameKind.free)∈scope.names:=by
     have key:∀k,(relabel scope X.env).names.lookup y=some k->k≠.local->k=.cell\/k=.free->(y,NameKind.free)∈scope.names:=λk q n hk=>by
      rcases bV (env:=X.env) q with z | ⟨_,z⟩
      ·rcases hk with rfl | rfl
       ·exact absurd rfl (ok.pF _ (cg z))
       ·exact cg z
      ·exact cg z
     rcases e3 with z | z | z
     ·rcases bV (env:=X.env) z with q | ⟨q,_⟩
      ·exact absurd q hout
      ·cases q
     ·exact key _ z (by decide) (.inl rfl)
     ·exact key _ z (by decide) (.inr rfl)
    have hk:=ok.free _ hfree rfl;obtain⟨m,hn,hl⟩:=I3.loc;obtain⟨u,r,q⟩:=hl i y v e1' e2' (by rcases hk with z | z;exact .inr (.inl z);exact .inr (.inr z));refine⟨u,r,.inr ⟨?_,?_⟩⟩
    ·rcases e3 with z | z | z
     ·rcases bV (env:=X.env) z with q | ⟨q,_⟩
      ·exact absurd q hout
      ·cases q
     ·exact .inl z
     ·exact .inr z
    ·rcases q with⟨z,_⟩ | ⟨_,c,hc',hcell⟩
     ·rcases hk with q | q <;> (rw[z]at q;cases q)
     ·obtain⟨c',hc2⟩:=hall y hfree
      have:c'=c:=by have:=hsub y c' hc2;rw[hc']at this;exact(Option.some.inj this).symm
      subst this;obtain⟨o,ho,hd⟩:=hcell;exact⟨c',hc2,o,old _ _ ho,hd⟩
  ·intro a c h1
   obtain⟨v,o,ho,hd⟩:=I3.cell a c (hsub a c h1);exact⟨v,o,old _ _ ho,hd⟩
  ·show H3 C=none
   exact I3.hok.fresh (Nat.le_of_eq hC)
  ·exact λa c h1=>I3.iR a c (hsub a c h1)
  ·show (List.replicate ns.length none++f σ).length=(ns++N2).length
   rw[List.length_append,List.length_append,List.length_replicate,ok.X7,I.len,ok.X8]
 have back:∀(s':Shared) (v:St) (H':Hp) (h':Heap),Inv (dg X scope cl C (ns++N2) { s2 with heap:=hp3 } H3 fp) [] v H' s'->Heap.SameBut C s'.heap h'->(∀b∈fp,H' b=none)->Inv X pins σ H' { s' with heap:=h' }:=by
  intro s' v H' h' I' sb fr;have qO:∀b o,hp3.get? b=some o->b≠C:=λb o e=>by rw[<- hC];exact Nat.ne_of_lt (Heap.lt_size e)
  have U:Un (frs X.stack) fp H3 H' hp3 s'.heap:=I'.base;refine I3.call' (ch:=fp) (H':=H') (s':={ s' with heap:=h' }) I'.os ⟨λb o e n h1 h2=>(sb.2 b (qO b o e)).trans (U.keep b o e n h1 h2),λb o e n h1 h2=>?_,U.free,λb o e h2=>?_,U.tups,U.jU,U.j5⟩ (λb ob e=>?_) I'.bare λb hb=>?_
  ·obtain⟨sl,q⟩:=U.slot b o e n h1 h2
   exact⟨sl,(sb.2 b (qO b o e)).trans q⟩
  ·obtain⟨o',q⟩:=U.there b o e h2
   exact⟨o',(sb.2 b (qO b o e)).trans q⟩
  ·have fC:H' C=none:=I'.free
   refine(I'.hok b ob e).stay (λc w' hc q=>(sb.2 c ?_).trans q) (λ_ q=>q) λ_ _ q=>q;rintro rfl;rcases hc with rfl | hc
   ·rw[fC]at e;cases e
   ·rw[fC]at hc;cases hc
  ·obtain⟨_,g1,_,g3,g4,g5⟩:=f3 b hb
   exact⟨g3,g1,g4,g5⟩
 have stat:∀{H':Hp},(∀b∈fp,H' b=none)->∀b∈fp,mD (dg X scope cl C (ns++N2) { s2 with heap:=hp3 } H3 fp) [] H' b:=λhn b hb=>
  ⟨hn b hb,Nat.ne_of_lt (IK b hb),yZ b hb,.inl hb,λa c h1=>(f3 b hb).2.2.2.2.1 a c (hsub a c h1),λp hp=>by simp[dg]at hp⟩
 have st₁:tn 0 h₁:=T.keep _ _ _ st2 λb _ o e=>old b o (by rw[<- hs3];exact Heap.get?_push_of_some _ e);have loop:codeAny (model X.prog X.w) X.A (.compLoop (.ListComp elt [⟨tg,iter,ifs,0⟩] scope pos) 0 (.ref it) (.ref D) (compEnvC scope cl C X.env)) (compPost (model X.prog X.w) X.A X.xe (some (assign (.Name xn CN) X.env)) (λ_ s'=>∃σ' H',Inv X pins σ' H' s'/\De.nx σ' H') (.ref D) C)
   { s2 with heap:=h₁,toks:=s2.toks+([]:List (Str × Value)).length }:=by
  refine wK (λn s'=>∃i v ys H',v.length=ns.length/\Inv (dg X scope cl C (ns++N2) { s2 with heap:=hp3 } H3 fp) [] (v++f σ) H' s'/\tn i s'.heap/\(∀b∈fp,H' b=none)/\W i n ys H') ?_ m0 ⟨0,List.replicate ns.length none,[],H3,List.length_replicate,Y0,st₁,λb hb=>(f3 b hb).1,w0⟩;rintro n s4 ⟨i,v,ys,H4,hv4,I4,IV,za,w4⟩;rcases turn i n ys H4 w4 with⟨stop,qn⟩ | ⟨go,step⟩
  ·refine bG (T.done (dg X scope cl C (ns++N2) { s2 with heap:=hp3 } H3 fp) rfl rfl rfl hc i [] s4 (v++f σ) H4 _ I4 (stat za) IV stop) λr s5 ⟨hr,I5⟩=>?_
   subst hr;obtain⟨m,hn,_⟩:=id I5.loc;have Pk:Inv X pins σ H4 s5:=back s5 (v++f σ) H4 s5.heap I5 (Heap.SameBut.refl _ _) za;have fC:mD X pins H4 C:=⟨I5.free,(I3.Gv (H':=H3) (Nat.le_of_eq hC) (I3.hok.fresh (Nat.le_of_eq hC))).2⟩
   refine wpAny_assign_Name (Ii Pk hN hxi hxl (show RelV (.ref D) (.ref D) from rfl) (λs6 I6 ⟨a,sb6,ha⟩=>?_) hf);have nCa:C≠a:=by
    rcases ha with z | z
    ·rw[z];exact fC.2.1
    ·exact λy=>fC.2.2.2.2.1 _ _ z y.symm
   obtain⟨o,es,ep,e1,e2⟩:=hn;refine⟨m,⟨o,es,ep,(sb6.2 C nCa).trans e1,e2⟩,λh' sb=>⟨_,H4,I6.turned (t':=s6.toks) (λb o hb e=>(sb.2 b hb).trans e) fC.1 fC.2.1 fC.2.2.2.1 fC.2.2.2.2.1 fC.2.2.2.2.2,qn⟩⟩
  ·refine bG (T.item (dg X scope cl C (ns++N2) { s2 with heap:=hp3 } H3 fp) rfl rfl rfl hc i [] s4 (v++f σ) H4 _ I4 (stat za) IV go) λr s5 ⟨u,hr,h5⟩=>?_
   subst hr;refine bG h5 λ_ s6 ⟨y,H6,I6,r6,y6,zc,Uw⟩=>?_;have Ux:=I6.pinned (stat Uw) (T.obj _ _ zc);refine bG (hg cl C { s2 with heap:=hp3 } H3 fp _ s6 v (f σ) H6 y u _ hv4 Ux r6 (step y H6 y6)) λ_ s7 ⟨pre,hpre,Uy,q7⟩=>?_;refine bG (ht cl C { s2 with heap:=hp3 } H3 fp _ s7 _ H6 _ Uy q7) λb s8 ⟨H8,I8,q8⟩=>?_;have pY:∀{σ':St} {H':Hp} {s':Shared},Inv (dg X scope cl C (ns++N2) { s2 with heap:=hp3 } H3 fp) ([]++rY fp s6.heap) σ' H' s'->tn (i+1) s'.heap/\∀b∈fp,H' b=none:=λ{σ' H' s'} I9=>by
    refine⟨T.keep _ _ _ zc λb hb o e=>(I9.pin (b,o) (List.mem_append_right _ (List.mem_append_right _ (iW hb e)))).1,λb hb=>?_⟩;obtain⟨o,e,d⟩:=T.obj _ _ zc b hb;exact(I9.pin (b,o) (List.mem_append_right _ (List.mem_append_right _ (iW hb e)))).2.1
   cases b with
   | false=>
    obtain⟨m',hm,w'⟩:=q8;obtain⟨k1,k2⟩:=pY I8;exact⟨m',hm,i+1,pre,ys,H8,hpre,I8.jF,k1,k2,w'⟩
   | true=>
    have Uz:te (pre++f σ) H8 _:=q8;show wpAny _ _ (eval elt _) _ _ _;refine bG (he cl C { s2 with heap:=hp3 } H3 fp _ s8 _ H8 _ I8 Uz) λz s9 ⟨zv,H9,I9,r9,UG,UJ,m',hm,w'⟩=>?_;refine bG (gn (X:=dg X scope cl C (ns++N2) { s2 with heap:=hp3 } H3 fp) _ s9 _ H9 (.ref D) [zv] (.ref D) [z] (λ_ H'=>H'=upd H9 D (.lst (ys++[zv]))) I9 rfl (.cons r9 .nil) ⟨D,ys,zv,rfl,rfl,UG,UJ,rfl⟩) λ_ UL ⟨_,Z1,IW,_,e10⟩=>?_;subst e10;obtain⟨k1,k2⟩:=pY IW;exact⟨m',hm,i+1,pre,ys++[zv],_,hpre,IW.jF,k1,k2,w'⟩
 exact codeAny_compStart_list loop (T.self X.A 0 _ _ _ st₁ loop)
theorem Bg {X:Cx}{ix:Nat}{xn:Str}{CN spos:Pos}{elt iter tg:Expr}{ns N2:List Str}{f:St->St}{TP:V->Hp->(St->Prop)->Prop}{ifs:List Expr}{scope:Scope}{pos:Pos}{wi:TI}{tt:TT}{te:TE}(hN:X.N.Nodup)(hxi:X.N[ix]?=some xn)(hxl:Loc X.env.scope xn)(hc:X.calm=true)(ok:d_ X scope ns N2 f)(hi:QI X tg iter wi)
  (hg:∀cl C s₀ H₀ fp,K7 (dg X scope cl C (ns++N2) s₀ H₀ fp) tg ns.length TP)
  (ht:∀cl C s₀ H₀ fp,U0 (dg X scope cl C (ns++N2) s₀ H₀ fp) ifs tt) (he:∀cl C s₀ H₀ fp,QE (dg X scope cl C (ns++N2) s₀ H₀ fp) elt te)
  (hs:∀x,foldedSetIterable iter X.env x=pure x:=by intro _;rfl) (hsw:swapsWith (.ListComp elt [⟨tg,iter,ifs,0⟩] scope pos) (some (.Name xn CN)) spos.line X.env=pure true:=by rfl)
  (hf:X.fn xn=true\/X.env.scope.names.lookup xn=some .local:=by first | exact .inl rfl | exact .inr rfl | assumption) :
  QS X (.Assign [.Name xn CN] (.ListComp elt [⟨tg,iter,ifs,0⟩] scope pos) spos) (Gu (Ew f ns.length wi TP tt te) (m6 ix)):=
 ⟨aaU hN hxi hxl hc ok hi.out hg (λa b c d e=>(ht a b c d e).out) (λa b c d e=>(he a b c d e).out) hs hsw hf⟩
end L2
end
section
namespace L2
open PySem PySem.Spec PyProof.Rows
structure afg (X:Cx)(scope:Scope)(xn:Str)(N2:List Str)(f:St->St):Prop where
 kind:scope.kind=.function
 one:∀y∈scope.names,y.2=.cell->y.1=xn
 cf:∀k acc,cellsFrom k scope.names acc=(xn,k)::acc
 pc:∀h:Heap,pushCells h scope.names=h.push { cls:=.type "cell",data:=.cell none }
 names:∀y∈scope.names,y.2=.local->scope.names.lookup y.1=some .local
 free:∀y∈scope.names,y.2=.free->X.env.kindOf y.1=some .cell\/X.env.kindOf y.1=some .free
 X7:∀σ:St,(f σ).length=σ.length
 X8:N2.length=X.N.length
 out:∀(σ:St) (i:Nat) (y:Str) (v:V),N2[i]?=some y->(f σ)[i]?=some (some v)->X.N[i]?=some y/\σ[i]?=some (some v)/\scope.names.lookup y≠some .local/\y≠xn
end L2
end
section
namespace L2
open PySem PySem.Spec PyProof.Rows
end L2
end
section
namespace L2
open PySem PySem.Spec PyProof.Rows PySem.W
end L2
end
section
namespace L2
open PySem PySem.Spec PyProof.Rows PySem.W
open AutoSeq1 (wpAny_loadPart')
section
variable {X:Cx}{pins:List (Addr × Obj)}{σ:St}{H:Hp}{s:Shared}{h':Heap}
theorem Inv.Qc {t':Nat}{fp:List Addr}(I:Inv X pins σ H s)(k:∀b o,b∉fp->s.heap.get? b=some o->h'.get? b=some o)(hf:∀b∈fp,mD X pins H b):Inv X pins σ H { s with heap:=h',toks:=t' }:=by
 have TX:∀b u,H b=some u->b∉fp:=λb u e z=>by rw[(hf b z).1]at e;cases e
 refine I.step (g':=s.gens) (d':=s.drawn) (ch:=fp) (λb hb=>?_) (λb o _ _ hc e _=>k b o hc e) (λb o _ _ hc e _=>⟨o.slots,k b o hc e⟩) (λ_ _ _ _ n=>n)
  (λb o hc e=>⟨o,k b o hc e⟩) (λ_ _ e=>e) (λ_ _ _ e=>e) (λb ps e=>⟨#[],by rw[e];simp⟩) (λm hm=>?_) (λb u e=>?_) I.bare
 ·obtain⟨f0,f1,f2,f3,f4,f5⟩:=hf b hb
  exact⟨f3,f1,f4,f5⟩
 ·obtain⟨o,es,ep,ho,r⟩:=hm
  exact⟨o,es,ep,k _ o (λz=>(hf _ z).2.1 rfl) ho,r⟩
 ·refine(I.hok b u e).stay (λc v hc q=>k c v ?_ q) (λ_ q=>q) λ_ _ q=>q
  rcases hc with z | z
  ·rw[z];exact TX b u e
  ·exact TX c _ z
end
section
variable {X:Cx}
theorem K9 (hc:X.calm=true):gC X (.builtin "any") (λxs H Q=>∃(p:Addr) (bs:List Bool),xs=[.ref p]/\aN X.K H p (bs.map V.bl)/\Q (.bl (bs.any id)) H):=by
 intro pins s σ H xs us Q I r h;obtain⟨p,bs,rfl,hq,q⟩:=h;obtain⟨u,rfl,ru⟩:=vals1 r;cases ru;obtain⟨its,rv,pl,hz⟩:=I.list hq;have hne:p≠s.heap.objs.size:=by
  obtain⟨o,ho,_⟩:=pl.isList;exact Nat.ne_of_lt (Heap.lt_size ho)
 have hb:∀(i:Nat) (v:Value),its[i]?=some v->v=.bool (bs.getD i false):=λi v hv=>by
  have hlen:=rv.length;have hi:i < bs.length:=by have:=(List.getElem?_eq_some_iff.mp hv).1;simp at hlen;omega
  obtain⟨u,hu,ru⟩:=rv.get (i:=i) (x:=.bl bs[i]) (by simp[hi]);rw[hv]at hu;cases hu;cases ru;simp[List.getD,hi]
 refine call_any_walk (wpAny_pyIter_list pl.isList ?_);refine⟨s.heap.objs.size,_,_,_,_,_,λi=>bs.getD i false,rfl,Walks.list (A:=X.A.in1) (I.ok.hd hc) s.heap.objs.size p hne its.toArray,⟨⟨_,Heap.get?_push_size _ rfl,rfl,rfl⟩,pl.isList.at λo e=>Heap.get?_push_of_some _ e⟩,?_,λh' tk kk=>?_⟩
 ·intro i v s' Q' E' hv hq'
  have e:=hb i v (by simpa using hv);subst e;exact wpAny_truthy_bool hq'
 ·have I1:Inv X pins σ H { s with heap:=h',toks:=tk }:=I.kept λb o e=>kk b o (by
   intro hm;have:b=s.heap.objs.size:=by simpa using hm
   subst this;exact absurd (Heap.lt_size e) (Nat.lt_irrefl _)) (Heap.get?_push_of_some _ e)
  refine⟨.bl (bs.any id),H,I1,?_,q⟩;show Value.bool _=Value.bool _;have hlen:its.toArray.size=bs.length:=by have:=rv.length;simp at this;simp[this]
  rw[hlen];congr 1;have key:∀bs:List Bool,(List.range bs.length).any (λi=>bs.getD i false)=bs.any id:=λbs=>by
   rw[Bool.eq_iff_iff,List.any_eq_true,List.any_eq_true];constructor
   ·rintro⟨i,hi,h⟩
    have hi':=List.mem_range.mp hi;exact⟨bs[i],List.getElem_mem _,by simpa [List.getD,hi'] using h⟩
   ·rintro⟨x,hx,h⟩
    obtain⟨i,hi,rfl⟩:=List.mem_iff_getElem.mp hx;exact⟨i,List.mem_range.mpr hi,by simpa [List.getD,hi] using h⟩
  exact key bs
end
end L2
end
section
namespace L2
open PySem PySem.Spec PyProof.Rows PySem.W
structure ZA (z ti to u v a b:Addr):Prop where
 q1:ti≠z
 q2:to≠z
 q3:u≠z
 q4:v≠z
 q5:ti≠to
 q6:ti≠u
 q7:ti≠v
 q8:to≠u
 q9:to≠v
 p1:u≠v
 p2:a≠z
 p3:a≠to
 p4:a≠u
 p5:a≠v
 p6:b≠z
 p7:b≠to
 p8:b≠u
 p9:b≠v
section
variable {X:Cx}{pins:List (Addr × Obj)}{σ:St}{H:Hp}{s:Shared}
theorem Inv.ael {fp:List Addr}{tk:Nat}{x y:V}{p q:Value}{h2:Heap}(I:Inv X pins σ H s)(hf:∀b∈fp,mD X pins H b)(lt:∀b∈fp,b < s.heap.objs.size)(rx:RelV x p)(ry:RelV y q)
  (hT:h2.get? s.heap.objs.size=some { cls:=.type "tuple",data:=.seq #[p,q] }) (hk:∀b o,b∉fp->s.heap.get? b=some o->h2.get? b=some o) :
  Inv X pins σ (upd H s.heap.objs.size (.tup [x,y])) { s with heap:=h2,toks:=tk }/\∀b∈fp,upd H s.heap.objs.size (.tup [x,y]) b=none:=by
 have I2:Inv X pins σ (upd H s.heap.objs.size (.tup [x,y])) { s with heap:=s.heap.push { cls:=.type "tuple",data:=.seq #[p,q] },toks:=tk }:=
  I.laid (λb v e=>Heap.get?_push_of_some _ e) (Nat.le_refl _) ⟨by show 2<=sizeLine;decide,[p,q],.cons rx (.cons ry .nil),⟨_,Heap.get?_push_size _ rfl,rfl,_,rfl⟩⟩
 have fr:∀b∈fp,upd H s.heap.objs.size (.tup [x,y]) b=none:=λb hb=>by rw[aP (Nat.ne_of_lt (lt b hb))];exact(hf b hb).1
 have I3:=Inv.Qc (s:={ s with heap:=s.heap.push { cls:=.type "tuple",data:=.seq #[p,q] },toks:=tk }) (h':=h2) (fp:=fp) (t':=tk) I2 (λb o hb g=>?_) λb hb=>?_
 ·exact⟨I3,fr⟩
 ·rcases Heap.get?_push_cases g with⟨z1,z2⟩ | z
  ·rw[z1,z2];exact hT
  ·exact hk b o hb z
 ·obtain⟨f0,f1,f2,f3,f4,f5⟩:=hf b hb
  exact⟨fr b hb,f1,f2,f3,f4,f5⟩
end
section
theorem Vb:bootBuiltins "zip"=some (.type "zip"):=by decide +kernel
end
end L2
end
section
namespace L2
open PySem PySem.Spec PyProof.Rows PySem.W
structure sO (B:Heap)(l:List Env)(e:Addr)(cls:Value)(dd:Option Addr)(fl:Value)(h:Heap):Prop where
 stays:B.StaysIn h
 new:B.get? e=none
 frames:h.FunFrames B l
 tr:∃oe vs T oT ts,h.get? e=some oe/\oe.cls=cls/\oe.dict=dd/\oe.data=.fields vs/\vs[1]?=some (.ref T)/\vs[2]?=some .none/\B.get? T=none/\T≠e/\h.get? T=some oT/\oT.data=.fields ts/\ts[3]?=some fl
theorem sO.outer {B h:Heap}{env:Env}{l:List Env}{e:Addr}{cls fl:Value}{dd:Option Addr}(x:sO B (env::l) e cls dd fl h):sO B l e cls dd fl h:=⟨x.stays,x.new,x.frames.2.2,x.tr⟩
theorem Jg (o:Obj)(f):(o.mapFields f).dict=o.dict:=by obtain⟨c,d,dt,sl⟩:=o;cases dt <;> rfl
section
variable {M:Model}{A:Around}{E:Value->Shared->Prop}{s:Shared}{B:Heap}{env:Env}{outer l:List Env}{L e:Addr}{oe:Obj}{vs:Array Value}{head cls fl:Value}{dd:Option Addr}{hadNext:Bool}{Q:Unit->Shared->Prop}
theorem Ey (hfr:A.frames=some (env::outer))(hl:s.heap.FunFrames B (env::outer))(hf:env.frame=some L)(he:s.heap.get? e=some oe)(kb:B.StaysIn s.heap)(en:B.get? e=none)(hd:oe.data=.fields vs)(hz:1 < vs.size)(h2:vs[2]?=some .none)
  (h:∀h',sO B (env::outer) e oe.cls oe.dict (rawInt L) h'->s.heap.UpToSlots h'->Q () { s with heap:=h' }) :
  wpAny M A (do let a <- frameOf env;let pl <- entryPlaceOf L hadNext;let b <- EntryCells.newEntry head a .none (rawInt L) .none pl;setField (.ref e) 1 b) Q E s:=by
 have out:e∉(env::outer).filterMap (·.frame):=λz=>by
  obtain⟨_,u,hu,nf⟩:=hl.mem z;rw[he]at hu;cases hu;exact nf vs hd
 refine wpAny_bind (wpAny_frameOf_fun hfr hl hf λg hg=>wpAny_bind (wpAny_entryPlaceOf λpl hpl=>?_));unfold EntryCells.newEntry newFields;refine wpAny_bind (wpAny_newObj_type ?_ (hpl.sizeOk5 _ _ _ _ _));generalize hO:({ cls:=.type "traceback",dict:=none,data:=.fields ([head,.ref L,.none,rawInt L,.none]++(if pl.isEmpty then List.replicate 6 Value.none else pl)).toArray }:Obj)=O;have hOd:∃ts,O.data=.fields ts/\ts[3]?=some (rawInt L):=⟨_,by rw[<- hO],by first | (simp;done) | (rcases hpl with rfl | ⟨_,_,_,_,_,_,_,rfl⟩ <;> simp)⟩
 have ge:g.get? e=some oe:=(hg.2.1 e out).trans he;have gB:B.StaysIn g:=λb o q=>(hg.2.1 b λz=>by rw[(hl.mem z).1]at q;cases q).trans (kb b o q);have Te:g.objs.size≠e:=Nat.ne_of_gt (Heap.lt_size ge);have pe:(g.push O).get? e=some oe:=Heap.get?_push_of_some O ge;obtain⟨ts,hts,h3⟩:=hOd;have pT:(g.push O).get? g.objs.size=some O:=Heap.get?_push_size g (Obj.isFreed_of_fields hts);have mv:∀b o,b≠e->g.get? b=some o->((g.push O).update e (Obj.mapFields (·.setIfInBounds 1 (Value.ref g.objs.size)))).get? b=some o:=λb o nb q=>
  (Heap.get?_update_other _ _ (Ne.symm nb)).trans (Heap.get?_push_of_some O q)
 have nr:∀b o,s.heap.get? b=some o->(∀vs,o.data≠.fields vs)->b≠e:=λb o q nf z=>by
  rw[z,he]at q;cases q;exact nf vs hd
 refine wpAny_setField pe hd hz (h _ ⟨λb o q=>mv b o (λz=>by rw[z,en]at q;cases q) (gB b o q),en,hl.of_keeps λb o q nf=>?_,?_⟩ λb o q nf=>?_)
 ·obtain⟨sl,z⟩:=hg.2.2 b o q
  exact⟨_,mv b _ (nr b o q nf) z,rfl⟩
 ·have dd:=Obj.data_mapFields hd (·.setIfInBounds 1 (Value.ref g.objs.size))
  refine⟨_,_,g.objs.size,O,ts,Heap.get?_update_self _ pe (Obj.isFreed_of_fields dd),Obj.cls_mapFields _ _,Jg _ _,dd,by simp[hz],by rw[Array.getElem?_setIfInBounds_ne (by decide)];exact h2,gB.fresh,Te,(Heap.get?_update_other _ _ (Ne.symm Te)).trans pT,hts,h3⟩
 ·obtain⟨sl,z⟩:=hg.2.2 b o q
  exact⟨sl,mv b _ (nr b o q nf) z⟩
theorem qW (x:sO B l e cls dd fl s.heap)(h:∀h',sO B l e cls dd .none h'->s.heap.UpToSlots h'->Q () { s with heap:=h' }):wpAny M A (setFlight (.ref e) none) Q E s:=by
 obtain⟨st,en,fr,oe,vs,T,oT,ts,he,hc,hdd,hd,h1,h2,nT,Te,hT,hdT,h3⟩:=x;have z3:3 < ts.size:=(Array.getElem?_eq_some_iff.mp h3).1;have mv:∀b,b≠T->(s.heap.update T (Obj.mapFields (·.setIfInBounds 3 ((none:Option Addr).elim Value.none λf=>rawInt f)))).get? b=s.heap.get? b:=λb nb=>Heap.get?_update_other _ _ (Ne.symm nb);have nr:∀b o,s.heap.get? b=some o->(∀vs,o.data≠.fields vs)->b≠T:=λb o q nf z=>by
  rw[z,hT]at q;cases q;exact nf ts hdT
 unfold setFlight;refine wpAny_bind (wpAny_field he hd h1 ?_);rw[if_pos (show (Value.ref T != Value.none)=true by simp)];refine wpAny_setField hT hdT z3 (h _ ⟨λb o q=>(mv b λz=>by rw[z,nT]at q;cases q).trans (st b o q),en,fr.of_keeps λb o q nf=>⟨o,(mv b (nr b o q nf)).trans q,rfl⟩,?_⟩ λb o q nf=>⟨o.slots,(mv b (nr b o q nf)).trans q⟩);have d3:=Obj.data_mapFields hdT (·.setIfInBounds 3 ((none:Option Addr).elim Value.none λf=>rawInt f));exact⟨oe,vs,T,_,_,(mv e (Ne.symm Te)).trans he,hc,hdd,hd,h1,h2,nT,Te,Heap.get?_update_self _ hT (Obj.isFreed_of_fields d3),d3,by simp[z3]⟩
theorem Yc (hfr:A.frames=some (env::outer))(hl:s.heap.FunFrames B (env::outer))(hf:env.frame=some L)(he:s.heap.get? e=some oe)(kb:B.StaysIn s.heap)(en:B.get? e=none)(hd:oe.data=.fields vs)(h1:vs[1]?=some .none)(h2:vs[2]?=some .none)
  (h:∀h',sO B (env::outer) e oe.cls oe.dict (rawInt L) h'->s.heap.UpToSlots h'->Q () { s with heap:=h' }):wpAny M A (noteFrame (.ref e) env) Q E s:=by
 unfold noteFrame;simp only[hf];refine wpAny_bind (wpAny_field he hd h1 ?_);rw[if_neg (by decide)];exact Ey hfr hl hf he kb en hd (Array.getElem?_eq_some_iff.mp h1).1 h2 h
theorem Qd (hfr:A.frames=some (env::outer))(hf:env.frame=some L)(x:sO B (env::outer) e cls dd .none s.heap)(h:∀h',sO B (env::outer) e cls dd (rawInt L) h'->s.heap.UpToSlots h'->Q () { s with heap:=h' }):wpAny M A (noteFrame (.ref e) env) Q E s:=by
 obtain⟨st,en,fr,oe,vs,T,oT,ts,he,hc,hdd,hd,h1,h2,nT,Te,hT,hdT,h3⟩:=x;subst hc hdd;have mv:∀b,b≠T->(s.heap.update T (Obj.mapFields (·.setIfInBounds 3 Value.none))).get? b=s.heap.get? b:=λb nb=>Heap.get?_update_other _ _ (Ne.symm nb);have nr:∀b o,s.heap.get? b=some o->(∀vs,o.data≠.fields vs)->b≠T:=λb o q nf z=>by
  rw[z,hT]at q;cases q;exact nf ts hdT
 unfold noteFrame;simp only[hf];refine wpAny_bind (wpAny_field he hd h1 ?_);rw[if_pos (show (Value.ref T != Value.none)=true by simp)];refine wpAny_bind (wpAny_field hT hdT h3 ?_);rw[if_neg (show ¬((Value.none==rawInt L)=true) by simp[rawInt])];refine wpAny_bind (wpAny_setField hT hdT (Array.getElem?_eq_some_iff.mp h3).1 ?_);refine Ey hfr (fr.of_keeps λb o q nf=>⟨o,(mv b (nr b o q nf)).trans q,rfl⟩) hf ((mv e (Ne.symm Te)).trans he) (λb o q=>(mv b λz=>by rw[z,nT]at q;cases q).trans (st b o q)) en hd (Array.getElem?_eq_some_iff.mp h1).1 h2
  λh' y k=>h h' y λb o q nf=>k b o ((mv b (nr b o q nf)).trans q) nf
theorem leave_new (hfr:A.frames=some (env::outer))(hl:s.heap.FunFrames B (env::outer))(hf:env.frame=some L)(he:s.heap.get? e=some oe)(kb:B.StaysIn s.heap)(en:B.get? e=none)(hd:oe.data=.fields vs)(h1:vs[1]?=some .none)(h2:vs[2]?=some .none)
  (h:∀h',sO B outer e oe.cls oe.dict .none h'->s.heap.UpToSlots h'->Q () { s with heap:=h' }):wpAny M A (leaving env (.ref e)) Q E s:=by
 unfold leaving;exact wpAny_bind (Yc hfr hl hf he kb en hd h1 h2 λh1 x k=>qW x λh2 y k2=>h h2 y.outer (k.trans k2))
theorem Yd (hfr:A.frames=some (env::outer))(hf:env.frame=some L)(x:sO B (env::outer) e cls dd .none s.heap)(h:∀h',sO B outer e cls dd .none h'->s.heap.UpToSlots h'->Q () { s with heap:=h' }):wpAny M A (leaving env (.ref e)) Q E s:=by
 unfold leaving;exact wpAny_bind (Qd hfr hf x λh1 x k=>qW x λh2 y k2=>h h2 y.outer (k.trans k2))
end
end L2
end
section
namespace L2
open PySem PySem.Spec PyProof.Rows PySem.W
theorem dj.there {P:Program}{w:World}{H:Hp}{h:Heap}{a:Addr}{o:HO}(x:dj P w H h a o):∃u,h.get? a=some u:=by
 cases o with
 | lst xs=>obtain⟨_,_,_,_,e⟩:=x;exact⟨_,e⟩
 | tup xs=>obtain⟨_,_,_,_,e,_⟩:=x;exact⟨_,e⟩
 | dK kvs=>obtain⟨_,_,_,_,o,_,_,e,_⟩:=x;exact⟨_,e⟩
 | dT kvs=>obtain⟨_,_,_,_,o,_,_,e,_⟩:=x;exact⟨_,e⟩
 | set S n=>obtain⟨o,_,_,_,e,_⟩:=x;exact⟨_,e⟩
 | ins C dx fs=>obtain⟨_,_,_,e,_⟩:=x;exact⟨_,e⟩
 | own y=>exact x
 | xd fs=>obtain⟨_,⟨_,_,_,e,_⟩,_⟩:=x;exact⟨_,e⟩
 | rng lo hi=>obtain⟨_,_,_,e⟩:=x;exact⟨_,e⟩
 | lM ob u=>obtain⟨e,_⟩:=x;exact⟨_,e⟩
 | Ig ps=>exact⟨_,(show h.get? a=some _ from x)⟩
 | met f y=>exact⟨_,(show h.get? a=some _ from x)⟩
 | ext φ=>obtain⟨_,e,_⟩:=x;exact e
structure Vc (P:Program)(w:World)(outer:List Env)(H:Hp)(s:Shared)(a:Addr)(cls:Value)(dd:Option Addr)(H':Hp)(s':Shared)(B:Heap):Prop where
 os:s'.os=s.os
 bare:AllBare s'.gens
 un:Un (frs outer) [] H H' s.heap s'.heap
 hok:iz P w H' s'.heap
 fly:sO B outer a cls dd .none s'.heap
 na:H' a=none
 Ih:∀b u,H' b=some u->∃o,B.get? b=some o
 kp:∀b o,s.heap.get? b=some o->b∉frs outer->H b=none->B.get? b=some o
 th:∀b o,s.heap.get? b=some o->b∉frs outer->∃o',B.get? b=some o'
def zu (P:Program)(w:World):m9:=λouter H s E e s'=>∃(a:Addr) (cls:Value) (dd:Option Addr) (H':Hp) (B:Heap),e=.ref a/\Vc P w outer H s a cls dd H' s' B/\E cls dd H'
section
variable {X:Cx}{pins:List (Addr × Obj)}{σ:St}{H1 H':Hp}{s1 s2:Shared}{e:Addr}{oe:Obj}{vs:Array Value}{Q:Unit->Shared->Prop}{E:Value->Shared->Prop}{cls:Value}{dd:Option Addr}{B:Heap}
theorem Inv.Ez (I:Inv X pins σ H1 s1){b:Addr}{o:Obj}(q:X.s₀.heap.get? b=some o)(nb:b∉frs X.outer):b∉frs X.stack:=λz=>by
 rcases List.mem_cons.mp (I.vJ b z) with z | z
 ·exact absurd (Nat.lt_of_lt_of_le (Heap.lt_size q) I.ok.above) (by rw[z];exact Nat.lt_irrefl _)
 ·exact nb z
theorem Inv.Ye (I:Inv X pins σ H1 s1){b:Addr}(z:b∈frs X.outer):b∈frs X.stack:=by
 rcases I.ok.stk with e | ⟨e,hf⟩
 ·rw[e];exact z
 ·rw[e];unfold frs;rw[List.filterMap_cons,hf];exact List.mem_cons_of_mem _ z
theorem Inv.raised (I:Inv X pins σ H1 s1)(hst:X.stack=X.env::X.outer)(hf:X.env.frame=some X.env.locals)(hex:X.ex=[])(he:s1.heap.get? e=some oe)(hd:oe.data=.fields vs)(h1:vs[1]?=some .none)(h2:vs[2]?=some .none)(ne:H1 e=none)
  (en:∀b o,X.s₀.heap.get? b=some o->b≠e) (q:∀s2 B,Vc X.prog X.w X.outer X.H₀ X.s₀ e oe.cls oe.dict H1 s2 B->Q () s2):wpAny (model X.prog X.w) X.A (leaving X.env (.ref e)) Q E s1:=by
 have hfr:X.A.frames=some (X.env::X.outer):=by rw[<- hst];exact I.ok.frames
 have hl:s1.heap.FunFrames (hideAll s1.heap (e::frs X.stack)) (X.env::X.outer):=by
  rw[<- hst];exact funFrames_hide I.stack λenv he b hb=>List.mem_cons_of_mem _ (List.mem_filterMap.mpr ⟨env,he,hb⟩)
 have sS:∀b:Addr,b∉X.ex:=λb=>by rw[hex];simp
 refine leave_new hfr hl hf he (λb o z=>of_hideAll _ z) (hideAll_none _ (.head _)) hd h1 h2 λh' x k=>q _ (hideAll s1.heap (e::frs X.stack)) ?_;have kB:∀b o,s1.heap.get? b=some o->b≠e->b∉frs X.stack->(hideAll s1.heap (e::frs X.stack)).get? b=some o:=λb o z n1 n2=>hideAll_get _ z λm=>by
  rcases List.mem_cons.mp m with m | m
  ·exact n1 m
  ·exact n2 m
 have kF:∀b o,s1.heap.get? b=some o->b∈frs X.stack->∃sl,h'.get? b=some { o with slots:=sl }:=λb o z m=>by
  obtain⟨_,u,hu,nf⟩:=I.stack.mem m;rw[z]at hu;cases hu;exact k b _ z nf
 have kT:∀b u,H1 b=some u->∀o,s1.heap.get? b=some o->(hideAll s1.heap (e::frs X.stack)).get? b=some o:=λb u t o z=>kB b o z (λm=>by rw[m,ne]at t;cases t) λm=>by rw[I.oF b m]at t;cases t
 refine⟨I.os,I.bare,⟨λb o z n hb _=>?_,λb o z n hb _=>?_,λb o z n _=>I.base.free b o z n (sS b),λb o z _=>?_,I.base.tups,I.base.jU,I.base.j5⟩,λb o t=>?_,x,ne,λb u t=>?_,λb o z hb n=>?_,λb o z hb=>?_⟩
 ·exact x.stays b o (kB b o (I.base.keep b o z n hb (sS b)) (en b o z) (I.Ez z hb))
 ·obtain⟨sl,e1⟩:=I.base.slot b o z n hb (sS b)
  obtain⟨sl2,e2⟩:=kF b _ e1 (I.Ye hb);exact⟨sl2,e2⟩
 ·obtain⟨o1,e1⟩:=I.base.there b o z (sS b)
  by_cases m:b∈frs X.stack
  ·obtain⟨sl2,e2⟩:=kF b _ e1 m
   exact⟨_,e2⟩
  ·exact⟨o1,x.stays b o1 (kB b o1 e1 (en b o z) m)⟩
 ·refine(I.hok b o t).stay (λc u hc z=>x.stays c u ?_) (λ_ r=>r) λ_ _ r=>r
  rcases hc with rfl | hc
  ·exact kT c _ t u z
  ·exact kT c _ hc u z
 ·obtain⟨o,z⟩:=(I.hok b u t).there
  exact⟨o,kT b u t o z⟩
 ·exact kB b o (I.base.keep b o z n hb (sS b)) (en b o z) (I.Ez z hb)
 ·obtain⟨o1,e1⟩:=I.base.there b o z (sS b)
  exact⟨o1,kB b o1 e1 (en b o z) (I.Ez z hb)⟩
theorem Inv.passed (I:Inv X pins σ H1 s1)(hst:X.stack=X.env::X.outer)(hf:X.env.frame=some X.env.locals)(hex:X.ex=[])(x:Vc X.prog X.w X.stack H1 s1 e cls dd H' s2 B)
  (q:∀s3,Vc X.prog X.w X.outer X.H₀ X.s₀ e cls dd H' s3 B->Q () s3):wpAny (model X.prog X.w) X.A (leaving X.env (.ref e)) Q E s2:=by
 have hfr:X.A.frames=some (X.env::X.outer):=by rw[<- hst];exact I.ok.frames
 have sS:∀b:Addr,b∉X.ex:=λb=>by rw[hex];simp
 have n0:∀b:Addr,b∉([]:List Addr):=λb=>by simp
 refine Yd hfr hf (by rw[<- hst];exact x.fly) λh' y k=>q _ ?_;have kp:∀b o,X.s₀.heap.get? b=some o->b∉frs X.outer->X.H₀ b=none->B.get? b=some o:=λb o z hb n=>x.kp b o (I.base.keep b o z n hb (sS b)) (I.Ez z hb) (I.base.free b o z n (sS b));have th:∀b o,X.s₀.heap.get? b=some o->b∉frs X.outer->∃o',B.get? b=some o':=λb o z hb=>by
  obtain⟨o1,e1⟩:=I.base.there b o z (sS b);exact x.th b o1 e1 (I.Ez z hb)
 have kF:∀b o,X.s₀.heap.get? b=some o->b∈frs X.outer->∃sl,h'.get? b=some { o with slots:=sl }:=λb o z m=>by
  obtain⟨sl,e1⟩:=I.base.slot b o z (I.ok.yU b m) m (sS b);obtain⟨sl2,e2⟩:=x.un.slot b _ e1 (I.oF b (I.Ye m)) (I.Ye m) (n0 b);obtain⟨_,u,hu,nf⟩:=I.ok.lG.mem m;rw[z]at hu;cases hu;obtain⟨K_,e3⟩:=k b _ e2 nf;exact⟨K_,e3⟩
 refine⟨x.os.trans I.os,x.bare,⟨λb o z n hb _=>y.stays b o (kp b o z hb n),λb o z n hb _=>kF b o z hb,λb o z n _=>?_,λb o z _=>?_,λb xs t=>x.un.tups b xs (I.base.tups b xs t),λb o u t=>x.un.jU b o u (I.base.jU b o u t),λb ps t=>?_⟩,λb o t=>?_,y,x.na,x.Ih,kp,th⟩
 ·obtain⟨o1,e1⟩:=I.base.there b o z (sS b)
  exact x.un.free b o1 e1 (I.base.free b o z n (sS b)) (n0 b)
 ·by_cases m:b∈frs X.outer
  ·obtain⟨sl,e3⟩:=kF b o z m
   exact⟨_,e3⟩
  ·obtain⟨o',e1⟩:=th b o z m
   exact⟨o',y.stays b o' e1⟩
 ·obtain⟨m1,e1⟩:=I.base.j5 b ps t
  obtain⟨m2,e2⟩:=x.un.j5 b _ e1;exact⟨m1++m2,by rw[e2,Array.append_assoc]⟩
 ·refine(x.hok b o t).stay (λc u hc z=>?_) (λ_ r=>r) λ_ _ r=>r
  have:∃v,H' c=some v:=by
   rcases hc with rfl | hc
   ·exact⟨_,t⟩
   ·exact⟨_,hc⟩
  obtain⟨v,hv⟩:=this;obtain⟨o',hB⟩:=x.Ih c v hv;have:=x.fly.stays c o' hB;rw[z]at this;cases this;exact y.stays c u hB
end
end L2
end
section
namespace L2
open PySem PySem.Spec PyProof.Rows PySem.W
def Lets (X:Cx)(E:XK):Prop:=∀(pins:List (Addr × Obj)) (σ:St) (H:Hp) (s:Shared) (e:Addr) (oe:Obj) (vs:Array Value),Inv X pins σ H s->s.heap.get? e=some oe->oe.data=.fields vs->vs[1]?=some .none->vs[2]?=some .none->H e=none->
 (∀b o,X.s₀.heap.get? b=some o->b≠e)->E oe.cls oe.dict H->X.xe (.ref e) s
section
variable {P:Program}{w:World}{K:PySem.W.Frag}{mg:Str->Option Value}{base:Heap}{N:List Str}{qual:Str}{scope:Scope}{f:Addr}{cd:Value}{A:Around}{outer:List Env}{s:Shared}{H:Hp}{E:XK}
theorem mX:Lets (oK (zu P w) P w K mg base N qual scope f cd A outer s H E) E:=λpins σ H1 s1 e oe vs I he hd h1 h2 ne en q=>
 I.raised rfl rfl rfl he hd h1 h2 ne en λs2 B x=>⟨e,_,_,_,B,rfl,x,q⟩
theorem rR:Passes (zu P w) (oK (zu P w) P w K mg base N qual scope f cd A outer s H E) E:=λpins σ H1 s1 e s2 I ⟨a,cls,dd,H',B,z,x,q⟩=>by
 subst z;exact I.passed rfl rfl rfl x λs3 y=>⟨a,cls,dd,H',B,rfl,y,q⟩
end
structure DefX (P:Program)(w:World)(K:PySem.W.Frag)(mg:Str->Option Value)(base:Heap)(name:Str)(k:Nat)(ps:List Str)(sp:Sp):Prop where
 ex:∃f fd,cu P w K mg base (zu P w) k f fd ps sp/\Binds K fd ps []/\mg name=some (.ref f)/\PySem.W.keepIn K (.ref f)=true
theorem fG.wU {P:Program}{w:World}{K:PySem.W.Frag}{mg:Str->Option Value}{base:Heap}{x qual:Str}{st:Stmt}{f:Addr}{fd:FuncData}{N ps:List Str}{k:Nat}{sp:Sp}(F:fG K x qual st f fd)(S:aO N ps (aB st))(len:∀vs H Q E,sp vs H Q E->vs.length=ps.length)
  (hbody:∀(cdv:Value) (A:Around) (outer:List Env) (s:Shared) (H:Hp) (vs:List V) (Q:VK) (E:XK),dw k (A.deeper (envOfC qual (aB st) s.heap.objs.size f cdv))->sp vs H Q E->
   ∃t,qb (oK (zu P w) P w K mg base N qual (aB st) f cdv A outer s H E) (cJ st) t/\t { nx:=λ_ H'=>Q .non H',rt:=Q } (start N vs) H):cu P w K mg base (zu P w) (k+1) f fd ps sp:=by
 obtain⟨oc,od,kV,doc,pm,an,cdv,ct,osl,rfl,lk,hcd⟩:=F.ex;refine ZL lk hcd S len λA outer s H vs Q E hr hsp=>?_;obtain⟨t,h,q⟩:=hbody cdv A outer s H vs Q E hr hsp;exact⟨t,h.out,q⟩
theorem aG.wU {P:Program}{w:World}{K:PySem.W.Frag}{mg:Str->Option Value}{base:Heap}{name:Str}{st:Stmt}{N ps:List Str}{k:Nat}{sp:Sp}(D:aG K mg name st ps)(S:aO N ps (aB st))(len:∀vs H Q E,sp vs H Q E->vs.length=ps.length)
  (hbody:∀(f:Addr) (cdv:Value) (A:Around) (outer:List Env) (s:Shared) (H:Hp) (vs:List V) (Q:VK) (E:XK),dw k (A.deeper (envOfC name (aB st) s.heap.objs.size f cdv))->sp vs H Q E->
   ∃t,qb (oK (zu P w) P w K mg base N name (aB st) f cdv A outer s H E) (cJ st) t/\t { nx:=λ_ H'=>Q .non H',rt:=Q } (start N vs) H):DefX P w K mg base name (k+1) ps sp:=by
 obtain⟨f,fd,F,b,g⟩:=D.ex;exact⟨f,fd,F.wU S len (hbody f),b,g,F.kp⟩
def vQ (CX:m9)(X:Cx)(E:XK)(S:St->Prop):Prop:=∀(pins:List (Addr × Obj)) (σ:St) (H:Hp) (s:Shared) (e:Value) (s':Shared),Inv X pins σ H s->S σ->CX X.stack H s E e s'->X.xe e s'
theorem Passes.all {CX:m9}{X:Cx}{E:XK}(h:Passes CX X E):vQ CX X E λ_=>True:=λpins σ H s e s' I _ q=>h pins σ H s e s' I q
def adb (sp:Sp)(E:XK)(S:St->Prop)(t:TA):TE:=λσ H Q=>S σ/\t σ H λvs H1=>sp vs H1 Q E
section
variable {X:Cx}{k:Nat}{f:Addr}{fd:FuncData}{ps:List Str}{sp:Sp}{E:XK}{S:St->Prop}{x:Str}{p pos:Pos}{e:Expr}{es:List Expr}{t:TA}
theorem oO (D:DefX X.prog X.w X.K X.mg X.base x k ps sp)(hr:dw k X.A)(hg:Gl X x)(hx:vQ (zu X.prog X.w) X E S)(ha:QA X (e::es) t)(hdb:(x==("__debug__":Str))=false:=by decide)
  (hs:starEach (e::es) X.env=(false,eval e X.env)::starEach es X.env:=by rfl) (hpl:(backTo pos (starEach es X.env)).any (·.1)=false:=by rfl) :
  QE X (.Call (.Name x p) (e::es) [] pos) (adb sp E S t):=⟨by
 obtain⟨f,fd,F,hb,hm,hk⟩:=D.ex;intro pins s σ H Q I h;obtain⟨hS,h⟩:=h;refine wpAny_Call_Name_kw (mQ I hg hm ?_ hdb);refine PySem.W.callWith_K (h₀:=X.base) I.ok.mod.Ek hk (bG (ha.out pos pins s σ H _ I h) λus s1 ⟨vs,H1,I1,r,q⟩=>⟨I1.fJ,?_⟩) hs hpl;have hl:us.length=ps.length:=by rw[<- r.length];exact F.len _ _ _ _ q
 have hB:=hb s1 us I1.fJ (by rw[List.append_nil];exact hl);rw[List.append_nil]at hB;refine wpAny_call (codeAny_mono (F.run X.A X.stack s1 H1 ⟨us,[]⟩ us vs Q E hr I1.env0 hB r q) λr s' hq=>?_);cases r with
 | error e=>exact hx pins σ H1 s1 e s' I1 hS hq
 | ok fl=>
  cases fl with
  | ret u=>exact I1.after hq
  | next=>exact False.elim hq
  | brk=>exact False.elim hq
  | cont=>exact False.elim hq⟩
end
theorem aaV {K:PySem.W.Frag}{h:Heap}{C:Addr}{bmB:List Value}{newId:String}(X:K.In h)(q:excIn K C bmB newId=true) :
  ∃bm N nm q bs hdct sn sub ab col dd k0 k1 k2 k3 k5 mN,h.get? C=some (excClassObj nm q C N bs bm hdct sn sub ab col dd k0 k1 k2 k3 k5 newId)/\h.Ns N mN/\mN "__init__"=none/\OwnTail h bmB bm:=by
 unfold excIn at q
 split at q
 ·next dd cd sl ho=>
  split at q
  ·next C' bm k0 k1 k2 k3 n k5 hm hs=>
   simp only[Bool.and_eq_true,beq_iff_eq,Bool.not_eq_true']at q;obtain⟨⟨⟨⟨⟨e1,e2⟩,hdel⟩,ht⟩,hok⟩,hni⟩:=q;subst e1 e2;obtain⟨nm,bs,mro,ns,qn,hd,sn,sub,ab,col,del⟩:=cd;dsimp only at hm hdel hok hni;subst hm hdel;have hsl:sl=#[k0,k1,k2,k3,some (.builtin n),k5]:=by cases sl;simp only at hs;rw[hs]
   subst hsl;exact⟨bm,ns,nm,qn,bs,hd,sn,sub,ab,col,dd,k0,k1,k2,k3,k5,_,X _ _ ho,.of_isNs (isNs_of_in X hok),nsMap_none_of_in X hok hni,tail_of_in X ht⟩
  ·cases q
 ·cases q
abbrev h_:List Value:=[.type "ValueError",.type "Exception",.type "BaseException",.type "object"]
def ade (C:Addr)(E:XK)(t:TA):TS:=λ_ σ H=>t σ H λvs H1=>vs.length<=sizeLine/\E (.ref C) none H1
section
variable {X:Cx}{C:Addr}{E:XK}{x:Str}{np cpos pos:Pos}{e:Expr}{es:List Expr}{t:TA}
theorem CP (hl:Lets X E)(hc:X.calm=true)(hex:X.ex=[])(hg:Gl X x)(hm:X.mg x=some (.ref C))(hC:excIn X.K C h_ "ValueError.__new__"=true)(ha:QA X (e::es) t)(hdb:(x==("__debug__":Str))=false:=by decide)
  (hs:starEach (e::es) X.env=(false,eval e X.env)::starEach es X.env:=by rfl) (hpl:(backTo cpos (starEach es X.env)).any (·.1)=false:=by rfl) :
  QS X (.Raise (some (.Call (.Name x np) (e::es) [] cpos)) none pos) (ade C E t):=⟨by
 intro pins s σ H D I h;obtain⟨tl,N,nm,q,bs,hdct,sn,sub,ab,col,dd,k0,k1,k2,k3,k5,mN,cC,cN,cni,T⟩:=aaV I.ok.mod.Ek hC;have ar:=ha.out cpos pins s σ H _ I h;rw[hs]at ar;refine wpAny_Raise_call_subT (C:=C) (nm:=nm) (q:=q) (N:=N) (bs:=bs) (bm:=tl) (hdct:=hdct) (sn:=sn) (sub:=sub) (ab:=ab) (col:=col) (dd:=dd) (k0:=k0) (k1:=k1) (k2:=k2) (k3:=k3) (k5:=k5) PySem.F.excBase_ValueError (mN:=mN)
  (T.hasType PySem.F.excBase_ValueError.hasBase) (I.ok.hd hc) (by rw[hs];show (false||(backTo cpos (starEach es X.env)).any (·.1))=false;rw[hpl];rfl) cni (mQ I hg hm ⟨rfl,?_⟩ hdb)
 rw[hs];refine Calls.evalArgs_plain (wpAny_mono ar (λus s2 z=>?_) λ_ _ y=>y);obtain⟨vs,H1,I1,r,hv,hE⟩:=z;refine⟨rfl,by rw[<- r.length];exact hv,I1.bk _ _ cC,cN.keeps I1.bk,T.keeps I1.bk,λh' a hx=>?_⟩;obtain⟨tt,ha1,_,_⟩:=hx.there;refine hl pins σ H1 _ a _ _ (I1.kept (t':=s2.toks) hx.keeps) ha1 rfl rfl rfl ?_ (λb o z y=>?_) hE
 ·cases z:H1 a with
  | none=>rfl
  | some u=>
   obtain⟨o,ho⟩:=(I1.hok a u z).there;rw[hx.new]at ho;cases ho
 ·obtain⟨o',ho⟩:=I1.base.there b o z (by rw[hex];simp)
  rw[y,hx.new]at ho;cases ho⟩
end
end L2
end
section
namespace L2
open PySem PySem.Spec PyProof.Rows PySem.W
def sU (a:Addr)(cls:Value)(dd:Option Addr):Heap->Prop:=λh=>∃oe vs,h.get? a=some oe/\oe.cls=cls/\oe.dict=dd/\oe.data=.fields vs/\vs[2]?=some .none
section
variable {X:Cx}{pins:List (Addr × Obj)}{σ:St}{H H':Hp}{s s':Shared}{a:Addr}{cls fl:Value}{dd:Option Addr}{B h3:Heap}
theorem Inv.caught (I:Inv X pins σ H s)(x:Vc X.prog X.w X.stack H s a cls dd H' s' B)(y:sO B X.stack a cls dd fl h3)(k:s'.heap.UpToSlots h3):Inv X pins σ (upd H' a (.ext (sU a cls dd))) { s' with heap:=h3 }:=by
 have n0:∀b:Addr,b∉([]:List Addr):=λb=>by simp
 obtain⟨oe,vs,T,oT,ts,he,hc,hdd,hd,_,h2,_⟩:=y.tr;have kF:∀b o,s.heap.get? b=some o->b∈frs X.stack->(∃sl,h3.get? b=some { o with slots:=sl })/\∀vs,o.data≠.fields vs:=λb o z m=>by
  obtain⟨_,u,hu,nf⟩:=I.stack.mem m;rw[z]at hu;cases hu;obtain⟨sl2,e2⟩:=x.un.slot b _ z (I.oF b m) m (n0 b);obtain⟨K_,e3⟩:=k b _ e2 nf;exact⟨⟨K_,e3⟩,nf⟩
 have na:∀b o,s.heap.get? b=some o->b≠a:=λb o z m=>by
  by_cases hb:b∈frs X.stack
  ·obtain⟨⟨sl,e3⟩,nf⟩:=kF b o z hb
   rw[m,he]at e3;cases e3;exact nf vs hd
  ·obtain⟨o',e'⟩:=x.th b o z hb
   rw[m,y.new]at e';cases e'
 have nt:∀b u,H' b=some u->b≠a:=λb u z m=>by rw[m,x.na]at z;cases z
 have kT:∀c u v,H' c=some v->s'.heap.get? c=some u->h3.get? c=some u:=λc u v t z=>by
  obtain⟨o',hB⟩:=x.Ih c v t;have:=x.fly.stays c o' hB;rw[z]at this;cases this;exact y.stays c u hB
 refine I.call' (s':={ s' with heap:=h3 }) (ch:=[]) x.os ⟨λb o z n hb _=>y.stays b o (x.kp b o z hb n),λb o z n hb _=>(kF b o z hb).1,λb o z n _=>?_,λb o z _=>?_,λb xs t=>?_,λb o u t=>?_,λb ps t=>?_⟩ (λb o t=>?_) x.bare λb z=>absurd z (by simp)
 ·rw[aP (na b o z)]
  exact x.un.free b o z n (n0 b)
 ·by_cases m:b∈frs X.stack
  ·obtain⟨⟨sl,e3⟩,_⟩:=kF b o z m
   exact⟨_,e3⟩
  ·obtain⟨o',e1⟩:=x.th b o z m
   exact⟨o',y.stays b o' e1⟩
 ·have t':=x.un.tups b xs t
  rw[aP (nt b _ t')];exact t'
 ·have t':=x.un.jU b o u t
  rw[aP (nt b _ t')];exact t'
 ·obtain⟨more,t'⟩:=x.un.j5 b ps t
  exact⟨more,by rw[aP (nt b _ t')];exact t'⟩
 ·by_cases hb:b=a
  ·subst hb
   rw[ao]at t;cases t;exact⟨⟨oe,vs,he,hc,hdd,hd,h2⟩,⟨oe,he⟩,λh h' ⟨oe,vs,e1,e2,e3,e4⟩ q=>⟨oe,vs,q oe e1,e2,e3,e4⟩⟩
  ·rw[aP hb]at t
   refine(x.hok b o t).stay (λc u hc z=>?_) (λc r=>by rw[aP (nt c _ r)];exact r) λc xs r=>by rw[aP (nt c _ r)];exact r
   rcases hc with rfl | hc
   ·exact kT c u _ t z
   ·exact kT c u _ hc z
theorem Inv.unbound {i:Nat}{n:Str}{m:Str->Option Value}{v:Option Value}{h':Heap}(I:Inv X pins σ H s)(hN:X.N.Nodup)(hi:X.N[i]?=some n)(hk:X.env.kindOf n=some .local)
  (hm:s.heap.Ns X.env.locals m) (hn:h'.Ns X.env.locals (λy=>if y=n then v else m y)) (hs:Heap.SameBut X.env.locals s.heap h'):Inv X pins (σ.set i none) H { s with heap:=h',toks:=s.toks+1 }:=by
 have ab:∀b o,X.s₀.heap.get? b=some o->b≠X.env.locals:=λb o e=>Nat.ne_of_lt (Nat.lt_of_lt_of_le (Heap.lt_size e) I.ok.above);obtain⟨m1,hm1,hl⟩:=I.loc;have em:m1=m:=by
  obtain⟨o1,es1,ep1,g1,d1,_,f1⟩:=hm1;obtain⟨o2,es2,ep2,g2,d2,_,f2⟩:=hm;rw[g1]at g2;cases g2;rw[d1]at d2;cases d2;funext y;rw[<- f1 y,<- f2 y]
 subst em;refine⟨I.ok,I.os,I.bare,⟨λb o e n hb hx=>(hs.2 b (ab b o e)).trans (I.base.keep b o e n hb hx),λb o e n hb hx=>?_,I.base.free,λb o e hx=>?_,I.base.tups,I.base.jU,I.base.j5⟩,⟨_,hn,λj y v' e1 e2 e3=>?_⟩,λy c e=>?_,I.free,I.iR,λp hp=>?_,λb ob e=>?_,by simpa using I.len⟩
 ·obtain⟨sl,e1⟩:=I.base.slot b o e n hb hx
  exact⟨sl,(hs.2 b (ab b o e)).trans e1⟩
 ·obtain⟨o',e1⟩:=I.base.there b o e hx
  exact⟨o',(hs.2 b (ab b o e)).trans e1⟩
 ·have hj:j≠i:=λz=>by
   subst z;rw[List.getElem?_set]at e2;simp only[if_true]at e2
   split at e2 <;> simp at e2
  rw[List.getElem?_set_ne (Ne.symm hj)]at e2;obtain⟨u,r,l⟩:=hl j y v' e1 e2 e3;refine⟨u,r,?_⟩;have yn:y≠n:=λz=>hj (Cp hN e1 (z ▸ hi));rcases l with⟨a1,a2⟩ | ⟨a1,c,a2,a3⟩
  ·exact .inl ⟨a1,by simp[yn,a2]⟩
  ·exact .inr ⟨a1,c,a2,a3.sameBut hs (I.El y c a2)⟩
 ·obtain⟨w',z⟩:=I.cell y c e
  exact⟨w',z.sameBut hs (I.El y c e)⟩
 ·obtain⟨e,n,ne,nf,d⟩:=I.pin p hp
  exact⟨(hs.2 p.1 ne).trans e,n,ne,nf,d⟩
 ·refine(I.hok b ob e).stay (λc w' hc q=>(hs.2 c ?_).trans q) (λ_ q=>q) λ_ _ q=>q
  rintro rfl;rcases hc with rfl | hc
  ·rw[I.free]at e;cases e
  ·rw[I.free]at hc;cases hc
end
abbrev Cx.tried (X:Cx)(pn:List (Addr × Obj))(xe:Value->Shared->Prop):Cx:={ X with pn:=pn,xe:=xe }
abbrev Cx.held (X:Cx)(a:Addr):Cx:={ X with A:=X.A.mark (some (.ref a)),calm:=false,xe:=λ_ _=>False }
section
variable {X:Cx}{pins Bb pn:List (Addr × Obj)}{σ:St}{H:Hp}{s:Shared}{xe:Value->Shared->Prop}{a:Addr}
theorem Inv.tried (I:Inv X pins σ H s)(xe:Value->Shared->Prop):Inv (X.tried (X.pn++pins) xe) [] σ H s:=
 ⟨⟨I.ok.mod,I.ok.kind,I.ok.glob,I.ok.blt,I.ok.above,I.ok.inj,I.ok.has,I.ok.cab,I.ok.hd,I.ok.frames,I.ok.stk,I.ok.TQ,I.ok.bs,I.ok.qN,I.ok.uW,I.ok.Cm,I.ok.lG,I.ok.yU⟩,I.os,I.bare,I.base,I.loc,I.cell,I.free,I.iR,λp hp=>I.pin p (by simpa using hp),I.hok,I.len⟩
theorem Inv.oR (I:Inv (X.tried (X.pn++pins) xe) Bb σ H s):Inv X pins σ H s:=
 ⟨⟨I.ok.mod,I.ok.kind,I.ok.glob,I.ok.blt,I.ok.above,I.ok.inj,I.ok.has,I.ok.cab,I.ok.hd,I.ok.frames,I.ok.stk,I.ok.TQ,I.ok.bs,I.ok.qN,I.ok.uW,I.ok.Cm,I.ok.lG,I.ok.yU⟩,I.os,I.bare,I.base,I.loc,I.cell,I.free,I.iR,λp hp=>I.pin p (List.mem_append_left _ hp),I.hok,I.len⟩
theorem SP.oR {D:Ends}{f:Flow}(h:SP (X.tried (X.pn++pins) xe) Bb D f s):SP X pins D f s:=by
 cases f with
 | next=>obtain⟨σ',H',I,q⟩:=h;exact⟨σ',H',I.oR,q⟩
 | brk=>obtain⟨σ',H',I,q⟩:=h;exact⟨σ',H',I.oR,q⟩
 | cont=>obtain⟨σ',H',I,q⟩:=h;exact⟨σ',H',I.oR,q⟩
 | ret u=>obtain⟨v,σ',H',I,r,q⟩:=h;exact⟨v,σ',H',I.oR,r,q⟩
theorem Inv.held (I:Inv X pins σ H s)(a:Addr):Inv (X.held a) pins σ H s:=
 ⟨⟨I.ok.mod,I.ok.kind,I.ok.glob,I.ok.blt,I.ok.above,I.ok.inj,I.ok.has,I.ok.cab,(λz=>nomatch z),I.ok.frames,I.ok.stk,I.ok.TQ,I.ok.bs,I.ok.qN,I.ok.uW,I.ok.Cm,I.ok.lG,I.ok.yU⟩,I.os,I.bare,I.base,I.loc,I.cell,I.free,I.iR,I.pin,I.hok,I.len⟩
theorem Inv.adf (I:Inv (X.held a) pins σ H s)(ok:X.Ok):Inv X pins σ H s:=⟨ok,I.os,I.bare,I.base,I.loc,I.cell,I.free,I.iR,I.pin,I.hok,I.len⟩
end
def unb (i:Nat)(D:Ends):Ends:={ nx:=λσ H=>D.nx (σ.set i none) H,rt:=D.rt,bk:=λσ H=>D.bk (σ.set i none) H,ct:=λσ H=>D.ct (σ.set i none) H }
def aeT (K:PySem.W.Frag)(C:Addr)(i:Nat)(tb:XK->St->TS)(th:TS):TS:=λD σ H=>∃E:XK,tb E σ D σ H/\∀(a:Addr) (cls:Value) (dd:Option Addr) (H':Hp),E cls dd H'->H' a=none->
 exmOne K cls (.ref C)=some true/\th (unb i D) (σ.set i (some (.ref a))) (upd H' a (.ext (sU a cls dd)))
def aem (K:PySem.W.Frag)(C:Addr)(i:Nat)(tb:XK->St->TS)(th:Addr->TS):TS:=λD σ H=>∃E:XK,tb E σ D σ H/\∀(a:Addr) (cls:Value) (dd:Option Addr) (H':Hp),E cls dd H'->H' a=none->
 exmOne K cls (.ref C)=some true/\th a (unb i D) (σ.set i (some (.ref a))) (upd H' a (.ext (sU a cls dd)))
section
variable {X:Cx}{C:Addr}{x n:Str}{np hpos pos:Pos}{body suite:List Stmt}{b0:Stmt}{i:Nat}{tb:XK->St->TS}{th:TS}{thA:Addr->TS}
theorem aaW (hst:X.stack=X.env::X.outer)(hf:X.env.frame=some X.env.locals)(hg:Gl X x)(hm:X.mg x=some (.ref C))(hN:X.N.Nodup)(hi:X.N[i]?=some n)(hk:X.env.scope.names.lookup n=some .local)
  (hb:∀(pn:List (Addr × Obj)) (xe:Value->Shared->Prop) (E:XK) (σ0:St),PassesOwn (model X.prog X.w) X.A X.env xe->vQ (zu X.prog X.w) (X.tried pn xe) E (·=σ0)->qb (X.tried pn xe) body (tb E σ0))
  (hh:∀a,qb (X.held a) (b0::suite) (thA a)) (hdb:(x==("__debug__":Str))=false:=by decide) :
  QS X (.Try body [.ExceptHandler (some (.Name x np)) (some n) (b0::suite) hpos] [] [] pos) (aem X.K C i tb thA):=⟨by
 intro pins s σ H D I h;obtain⟨E,hbody,adg⟩:=h;have hp:PassesOwn (model X.prog X.w) X.A X.env (λe s₁=>wpAny (model X.prog X.w) X.A (noteFrame e X.env) (λ_ s₂=>wpAny (model X.prog X.w) X.A (setFlight e none) (λ_ s₃=>wpAny (model X.prog X.w) X.A (handleBy e X.env [.ExceptHandler (some (.Name x np)) (some n) (b0::suite) hpos]) (SP X pins D) X.xe s₃) X.xe s₂) X.xe s₁):=PassesOwn.looking;have hP:vQ (zu X.prog X.w) (X.tried (X.pn++pins) (λe s₁=>wpAny (model X.prog X.w) X.A (noteFrame e X.env) (λ_ s₂=>wpAny (model X.prog X.w) X.A (setFlight e none) (λ_ s₃=>wpAny (model X.prog X.w) X.A (handleBy e X.env [.ExceptHandler (some (.Name x np)) (some n) (b0::suite) hpos]) (SP X pins D) X.xe s₃) X.xe s₂) X.xe s₁)) E (·=σ):=by
  intro Bb σ' H1 s1 e s2 I1 hσ hq;obtain⟨a,cls,dd,H',B,ea,ex,q⟩:=hq;subst ea;have J:=I1.oR;have hσ:σ'=σ:=hσ;subst hσ;have fl:sO B (X.env::X.outer) a cls dd .none s2.heap:=by rw[<- hst];exact ex.fly
  have hfr:X.A.frames=some (X.env::X.outer):=by rw[<- hst];exact J.ok.frames
  obtain⟨hmt,hsu⟩:=adg a cls dd H' q ex.na;refine Qd hfr hf fl λh1 y1 k1=>qW y1 λh2 y2 k2=>?_;have I2:=J.caught ex (by rw[hst];exact y2) (k1.trans k2);refine wpAny_handleBy_cons (codeAny_handlers_test (mQ (X:=X.held a) (I2.held a) hg hm ?_ hdb)) (by intro q;cases q);have LT:Looks (model X.prog X.w) h2 (typeOf (.ref a)) cls:=by
   obtain⟨oe,_,_,_,_,he,hc,_⟩:=y2.tr;exact hc ▸ (Looks.ld he).andThen .now
  refine(exm_one (K:=X.K) I2.fJ LT hmt).here ?_;refine codeAny_handlers_suite_as (qW y2 λh3 y3 k3=>?_);have I3:=J.caught ex (by rw[hst];exact y3) ((k1.trans k2).trans k3);refine wC (X:=X.held a) (I3.held a) hN hi (.inl hk) (v:=.ref a) rfl (λs4 I4=>?_) (.inr hk);refine wpAny_mono ((hh a).out pins s4 _ _ (unb i D) I4 hsu) (λf s5 hs=>?_) λ_ _ z=>z.elim;have hcls:(X.env.scope.kind == .class||(X.env.scope.kind == .module&&X.env.locals != X.env.globals))=false:=by rw[J.ok.kind];rfl
  have fin:∀{σ5:St} {H5:Hp} {Q:Unit->Shared->Prop},Inv (X.held a) pins σ5 H5 s5->(∀s6,Inv X pins (σ5.set i none) H5 s6->Q () s6)->wpAny (model X.prog X.w) X.A (do bindName X.env n .none;unbindBehindTheSuite X.env n hpos) Q X.xe s5:=λI5 hQ=>by
   have Pk:=I5.adf J.ok;obtain⟨m,hm5,_⟩:=id Pk.loc;exact wpAny_nameGoes_keeps hk hm5 hcls λh' v hn hs=>hQ _ (Pk.unbound hN hi hk hm5 hn hs)
  cases f with
  | next=>obtain⟨σ5,H5,I5,q5⟩:=hs;exact fin I5 λs6 I6=>⟨_,_,I6,q5⟩
  | brk=>obtain⟨σ5,H5,I5,q5⟩:=hs;exact fin I5 λs6 I6=>⟨_,_,I6,q5⟩
  | cont=>obtain⟨σ5,H5,I5,q5⟩:=hs;exact fin I5 λs6 I6=>⟨_,_,I6,q5⟩
  | ret u=>obtain⟨v,σ5,H5,I5,r5,q5⟩:=hs;exact fin I5 λs6 I6=>⟨v,_,_,I6,r5,q5⟩
 refine wpAny_Try_except (wpAny_mono ((hb _ _ E σ hp hP).out [] s σ H D (I.tried _) hbody) (λf s1 hs=>?_) λe s1 z=>z);have hs:=hs.oR;cases f with
 | next=>
  obtain⟨σ',H',I',q⟩:=hs;exact(bD (X:=X)).out pins s1 σ' H' D I' q
 | brk=>exact hs
 | cont=>exact hs
 | ret u=>exact hs⟩
theorem adh (hst:X.stack=X.env::X.outer)(hf:X.env.frame=some X.env.locals)(hg:Gl X x)(hm:X.mg x=some (.ref C))(hN:X.N.Nodup)(hi:X.N[i]?=some n)(hk:X.env.scope.names.lookup n=some .local)
  (hb:∀(pn:List (Addr × Obj)) (xe:Value->Shared->Prop) (E:XK) (σ0:St),PassesOwn (model X.prog X.w) X.A X.env xe->vQ (zu X.prog X.w) (X.tried pn xe) E (·=σ0)->qb (X.tried pn xe) body (tb E σ0))
  (hh:∀a,qb (X.held a) (b0::suite) th) (hdb:(x==("__debug__":Str))=false:=by decide) :
  QS X (.Try body [.ExceptHandler (some (.Name x np)) (some n) (b0::suite) hpos] [] [] pos) (aeT X.K C i tb th):=aaW (thA:=λ_=>th) hst hf hg hm hN hi hk hb hh hdb
end
end L2
end
section
namespace L2
open PySem PySem.Spec PyProof.Rows PySem.W
structure pI (K:PySem.W.Frag)(C:Addr):Prop where
 cl:(clsIn K C).isSome=true
 ga:findIn K (.ref C) "__getattribute__"=some (some (.builtin "BaseException.__getattribute__"))
 gx:findIn K (.ref C) "__getattr__"=some none
 ha:findIn K (.ref C) "__class__"=some (some (.builtin "object.__class__"))
 hn:specialIn K (.builtin "object.__class__") "__get__"=some (some (.builtin "getset_descriptor.__get__"))
 ht:takesIn K (.builtin "object.__class__")=some true
 hm:mroIn K C (.type "object")=some true
 hb:mroIn K C (.type "BaseException")=some true
section
variable {prog:Program}{w:World}{A:Around}{E:Value->Shared->Prop}{s:Shared}{K:PySem.W.Frag}{x C:Addr}{ox:Obj}{odo:Option Obj}
theorem Yg (T:pI K C):findObj K C odo "__class__"=some (.bind (.builtin "getset_descriptor.__get__") (.builtin "object.__class__")):=by
 obtain⟨cd,hc⟩:=Option.isSome_iff_exists.mp T.cl;unfold findObj;rw[hc,Option.bind_some,T.ha,Option.bind_some];simp[T.hn,T.ht]
theorem Ve {tk:Tok}{Q:Fin->Shared->Prop}(T:pI K C)(X:K.In s.heap)(I:InstAt s.heap x ox C odo)(h:Q (.done (.ret (.ref C))) s) :
  wpAny (model prog w) A (Builtin.«object.__getattribute__» ⟨[.ref x,.str "__class__" tk],[]⟩) Q E s:=by
 obtain⟨hh,g,d,t,os⟩:=s;have L0:=I.type (M:=model prog w);have L1:=looks_find (M:=model prog w) X I (Yg T);unfold Builtin.«object.__getattribute__»
 repeat (first | with_reducible refine wpAny_call (class_get X I T.hm ?_) | lk)
 exact h
theorem Vf {Q:Option Value->Shared->Prop}(T:pI K C)(X:K.In s.heap)(I:InstAt s.heap x ox C odo)(h:Q (some (.ref C)) { s with toks:=s.toks+1 }):wpAny (model prog w) A (getAttr? (.ref x) "__class__") Q E s:=by
 obtain⟨hh,g,d,t,os⟩:=s;have L0:=I.type (M:=model prog w);have L1:=looks_findIn (M:=model prog w) X T.ga;have L2:=looks_findIn (M:=model prog w) X T.gx;unfold getAttr? getAttrBy? getAttrBy;refine wpAny_bind (wpAny_mkText (wpAny_bind (wpAny_attempt (wpAny_holding (wpAny_bind (L0.at (wpAny_bind (L1.at ?_))))))));show wpAny _ _ (getAttrByItsOwn _ _ _ _ _ _) _ _ _;unfold getAttrByItsOwn hookBefore;rw[if_pos (show onTheHeap (Value.ref C)=true from rfl)];refine wpAny_bind (L2.at (wpAny_bind (wpAny_attempt (wpAny_holding ?_))));unfold callGetattribute boundAndCalled;rw[if_neg (by decide)];have f3:=PySem.F.excAttr_ValueError.ga.bind (.ref x);rw[f3];refine wpAny_bind (wpAny_pure ?_);refine wpAny_call (codeAny_call_builtin PySem.F.excAttr_ValueError.ga.plain F.entry_bexc_ga ?_);have hk:builtinKind "BaseException.__getattribute__"=some .slot:=by decide +kernel
 have hsp:splitId "BaseException.__getattribute__"=some ("BaseException","__getattribute__"):=by decide +kernel
 have Lb:=looks_mroIn (M:=model prog w) X T.hb;have hargs:=F.args_bexc_ga (.ref x) (.str "__class__" t);simp only[checkBuiltinCall,hk,hsp];refine wpAny_bind ?_;unfold isInstance;refine wpAny_bind (L0.at (Lb.at ?_))
 repeat (first | refine Ve (x:=x) T X I ?_ | assumption | wp_step)
theorem La {y:Addr}(T:pI K C):KitX K (.ref y) (.ref C) (λh=>∃ox odo,InstAt h y ox C odo) where
 ty:=λ_ _ _ ⟨_,_,I⟩=>I.type
 it:=λ_ _ X _=>by
  obtain⟨cd,hc⟩:=Option.isSome_iff_exists.mp T.cl;unfold clsIn at hc
  split at hc
  ·next ho=>
   intro A' Q' E' s' k q;unfold isType loadHead;exact wpAny_bind (wpAny_loadPart (k _ _ (X _ _ ho)) (wpAny_pure q))
  ·cases hc
 ne:=λh tp dd its n sl X htp=>by
  refine Bool.eq_false_iff.mpr λq=>?_;have e:C=tp:=Value.ref.inj (beq_iff_eq.mp q);subst e;obtain⟨cd,hc⟩:=Option.isSome_iff_exists.mp T.cl;unfold clsIn at hc
  split at hc
  ·next ho=>
   have z:=(X _ _ ho).symm.trans htp;cases z
  ·cases hc
 ca:=λX ⟨_,_,I⟩ k=>Vf T X I k
end
def jP (H:Hp):Option Addr->Prop
 | none=>True
 | some d=>∃o,H d=some o
def adi (K:PySem.W.Frag):List V->Hp->VK->Prop:=λxs H Q=>∃(a C:Addr) (c:V) (u:Value) (dd:Option Addr) (b:Bool),xs=[.ref a,c]/\((∃D,c=.ref D/\u=.ref D)\/∃n,c=.ty n/\u=.type n)/\H a=some (.ext (sU a (.ref C) dd))/\jP H dd/\pI K C/\kitOne K (.ref C) u=some b/\Q (.bl b) H
section
variable {X:Cx}
theorem gw (hc:True:=True.intro):gC X (.builtin "isinstance") (adi X.K):=by
 intro pins s σ H xs us Q I r h;obtain⟨a,C,c,u,dd,b,rfl,ru,ha,hd,T,k,q⟩:=h;obtain⟨u1,w',rfl,r1,r2⟩:=vals2 r;obtain rfl:u1=Value.ref a:=r1;have eu:w'=u:=by
  rcases ru with⟨D,rfl,rfl⟩ | ⟨n,rfl,rfl⟩
  ·exact r2
  ·exact r2
 subst eu;obtain⟨⟨oe,vs,e1,e2,e3,e4,_⟩,_,_⟩:=(show dj X.prog X.w H s.heap a (.ext (sU a (.ref C) dd)) from I.hok a _ ha)
 have hI:∃ox odo,InstAt s.heap a ox C odo:=by
  cases dd with
  | none=>exact⟨oe,none,e1,e2,by unfold notCls;rw[e4],by rw[e3];trivial⟩
  | some d=>
   obtain⟨o1,hfs⟩:=hd;obtain⟨o,ho⟩:=(I.hok d _ hfs).there;exact⟨oe,some o,e1,e2,by unfold notCls;rw[e4],by rw[e3];exact ho⟩
 exact kia_one (La T) I.fJ hI k (λz=>nomatch z) λtk=>⟨.bl b,H,I.tok tk,rfl,q⟩
end
end L2
end
section
namespace L2
open PySem PySem.Spec PyProof.Rows PySem.W
theorem EY:bootBuiltins "ValueError"=some (.type "ValueError"):=by decide +kernel
end L2
end
section
namespace HT
open PySem PySem.Spec PyProof.Rows
end HT
namespace L2
open PySem PySem.Spec PyProof.Rows PySem.W
end L2
end
section
namespace L2
open PySem PySem.Spec PyProof.Rows PySem.W
def t_ (K:Frag)(C fI:Addr):Bool:=match K.lookup C with
 | some ⟨.type "type",_,.cls cd,sl⟩=>(match cd.mro,sl.toList with
  | .ref D::tl,[_,_,_,_,some (.builtin n),_]=>(D==C)&&(n=="ValueError.__new__")&&(!cd.hasDel)&&(cd.hasDict&&(tailIn K h_ tl&&(nsOkIn K cd.ns&&(nsIn K cd.ns "__init__" == some (some (.ref fI))))))
  | _,_=>false)
 | _=>false
theorem aeU {K:Frag}{h:Heap}{N:Addr}{m:Str->Option Value}{n:Str}{v:Value}(X:K.In h)(G:h.Ns N m)(e:nsIn K N n=some (some v)):m n=some v:=by
 obtain⟨o,es,ep,ho,hd,_,hf⟩:=G;unfold nsIn at e
 split at e
 ·next c0 d0 es0 n0 sl0 q=>
  have z:=X _ _ q;rw[ho]at z;cases z;cases hd
  split at e
  ·next en he=>
   cases e;rw[<- hf];unfold nsFind findBy;rw[<- Array.find?_toList,he];rfl
  ·split at e <;> cases e
 ·cases e
theorem GP {K:Frag}{h:Heap}{C fI:Addr}(X:K.In h)(q:t_ K C fI=true) :
  ∃bm N nm q bs sn sub ab col dd k0 k1 k2 k3 k5 mN,h.get? C=some (excClassObj nm q C N bs bm true sn sub ab col dd k0 k1 k2 k3 k5 "ValueError.__new__")/\h.Ns N mN/\mN "__init__"=some (.ref fI)/\OwnTail h h_ bm:=by
 unfold t_ at q
 split at q
 ·next dd cd sl ho=>
  split at q
  ·next D tl k0 k1 k2 k3 n k5 hm hs=>
   rw[Bool.and_eq_true,Bool.and_eq_true,Bool.and_eq_true,Bool.and_eq_true,Bool.and_eq_true,Bool.and_eq_true,beq_iff_eq,beq_iff_eq,beq_iff_eq,Bool.not_eq_true']at q;obtain⟨⟨⟨e1,e2⟩,e3⟩,e4,ht,hok,hi⟩:=q;subst e1 e2;obtain⟨nm,bs,mro,ns,qn,hd,sn,sub,ab,col,del⟩:=cd;dsimp only at hm e3 e4 hok hi;subst hm e3 e4;obtain⟨sll⟩:=sl;dsimp only at hs;subst hs;exact⟨tl,ns,nm,qn,bs,sn,sub,ab,col,dd,k0,k1,k2,k3,k5,_,X _ _ ho,.of_isNs (isNs_of_in X hok),aeU X (.of_isNs (isNs_of_in X hok)) hi,tail_of_in X ht⟩
  ·cases q
 ·cases q
section
variable {prog:Program}{w:World}{A:Around}{E:Value->Shared->Prop}{h:Heap}{g:Array GenState}{d:Drawn}{t:Nat}{os:OsState}
variable {nm q:Str}{C N fI:Addr}{bs bm:List Value}{sn:List Str}{sub:List Value}{ab:Bool}{col:Option Bool}{dd:Option Addr}{k0 k1 k2 k3 k5:Option Value}{oI:Obj}{mN:Str->Option Value}{rest:List Value}
abbrev newArgs (rest:List Value):Obj:={ cls:=.type "tuple",data:=.seq rest.toArray }
abbrev newExc (C a:Addr):Obj:={ cls:=.ref C,data:=.fields #[.ref a,.none,.none,.none,.bool false,.none] }
theorem Ld {Q:Fin->Shared->Prop}(T:OwnTail h h_ bm)(hC:h.get? C=some (excClassObj nm q C N bs bm true sn sub ab col dd k0 k1 k2 k3 k5 "ValueError.__new__"))(hn:h.Ns N mN)(hi:mN "__init__"=some (.ref fI))
  (hf:h.get? fI=some oI) (hfc:oI.cls=.type "function") (hz:rest.length<=sizeLine)
  (hq:wpAny (model prog w) A (call (.ref fI) (.ref (h.objs.size+1)::rest)) (λr s'=>r=.none/\Q (.done (.ret (.ref (h.objs.size+1)))) s') E ⟨(h.push (newArgs rest)).push (newExc C h.objs.size),g,d,t,os⟩) :
  wpAny (model prog w) A (Builtin.«type.__call__» ⟨.ref C::rest,[]⟩) Q E ⟨h,g,d,t,os⟩:=by
 have FB:=PySem.F.excBase_ValueError
 repeat (first | with_reducible refine wpAny_loadPart_at hC ?_ | with_reducible refine wpAny_madeBy_exc hC ?_ | wp_step)
 refine codeAny_call_builtin_code (Code.quiet_builtin _ FB.quiet) (wpAny_check_new_subT FB T hC (codeAny_exc_new_subT FB T hC ?_ hz));show wpAny _ _ _ _ _ _;have up:∀b o,h.get? b=some o->((h.push (newArgs rest)).push (newExc C h.objs.size)).get? b=some o:=λb o z=>Heap.get?_push_of_some _ (Heap.get?_push_of_some _ z);have eC:=up _ _ hC;have eF:=up _ _ hf;have eN:=hn.keeps up;have eT:=T.keeps up;have eX:((h.push (newArgs rest)).push (newExc C h.objs.size)).get? (h.objs.size+1)=some (newExc C h.objs.size):=by heap_get
 have inC:(Value.ref C::bm).contains (.ref C)=true:=by simp
 unfold isInstance
 repeat (first | with_reducible refine wpAny_loadPart_at eX ?_ | (with_reducible refine wpAny_isSubtype_exc eC ?_;rw[inC]) | wp_step)
 show wpAny _ _ (typeLookup (.ref C) "__init__") _ _ _;refine wpAny_typeLookup_tail eC eN eT FB.mroIs FB.init.lookup ?_;rw[hi];refine wpAny_holding (wpAny_bind ?_);unfold bindSpecial;refine wpAny_bind (wpAny_typeOf (T:="function") ⟨_,eF,hfc⟩ ?_);rw[if_pos (by decide)];refine wpAny_pure (wpAny_bind (wpAny_mono hq (λr s' z=>?_) λ_ _ y=>y));obtain⟨rfl,z⟩:=z
 wp_walk
 exact z
theorem Yh {Q:Value->Shared->Prop}(T:OwnTail h h_ bm)(hC:h.get? C=some (excClassObj nm q C N bs bm true sn sub ab col dd k0 k1 k2 k3 k5 "ValueError.__new__"))(hn:h.Ns N mN)(hi:mN "__init__"=some (.ref fI))
  (hf:h.get? fI=some oI) (hfc:oI.cls=.type "function") (hz:rest.length<=sizeLine)
  (hq:wpAny (model prog w) (A.under (.builtin "type.__call__" ⟨.ref C::rest,[]⟩)) (call (.ref fI) (.ref (h.objs.size+1)::rest)) (λr s'=>r=.none/\Q (.ref (h.objs.size+1)) s') E ⟨(h.push (newArgs rest)).push (newExc C h.objs.size),g,d,t,os⟩) :
  wpAny (model prog w) A (call (.ref C) rest) Q E ⟨h,g,d,t,os⟩:=by
 have f1:=tc_lookup;have f2:=tc_bind (.ref C);have tyC:(⟨h,g,d,t,os⟩:Shared).TypeIs (.ref C) "type":=⟨_,hC,rfl⟩
 refine wpAny_call (codeAny_of_tree ?_);show wpAny _ _ (callAny (.ref C) _) _ _ _
 repeat (any_goals (first | assumption | with_reducible refine wpAny_loadPart_at hC ?_ | wp_step))
 exact⟨rfl,codeAny_call_builtin_at (Code.quiet_builtin _ (by decide +kernel)) entry_typeCall (wpAny_check_type_call_sub hC (Ld T hC hn hi hf hfc hz hq))⟩
end
section
variable {M:Model}{A:Around}{E:Value->Shared->Prop}{s:Shared}{env:Env}{x:Sem Value}{Q:Flow->Shared->Prop}
variable {nm q:Str}{C N:Addr}{bs bm:List Value}{hdct:Bool}{sn:List Str}{sub:List Value}{ab:Bool}{col:Option Bool}{dd:Option Addr}{k0 k1 k2 k3 k5:Option Value}{newId:String}
theorem Vg (hb:bm.contains (.type "BaseException")=true)(hh:A.handled=none)
  (hx:wpAny M A x (λv s1=>∃e oe vs,v=.ref e/\s1.heap.get? C=some (excClassObj nm q C N bs bm hdct sn sub ab col dd k0 k1 k2 k3 k5 newId)/\s1.heap.get? e=some oe/\oe.cls=.ref C/\oe.data=.fields vs/\vs[1]?=some .none/\E (.ref e) s1) E s) :
  wpAny M A (raiseStmt env (some x) none) Q E s:=by
 have inB:(Value.ref C::bm).contains (.type "BaseException")=true:=by rw[List.contains_cons,hb,Bool.or_true]
 unfold raiseStmt;refine wpAny_bind (wpAny_mono hx (λv s1 z=>?_) λ_ _ y=>y);obtain⟨e,oe,vs,rfl,hC,he,hc,hd,h1,hE⟩:=z;obtain⟨oc,od,oda,osl⟩:=oe;dsimp only at hc hd;subst hc hd;obtain⟨hp,g,d,tk,os⟩:=s1
 repeat (first | with_reducible refine wpAny_loadPart_at he ?_ | with_reducible refine wpAny_loadPart_at hC ?_ | (with_reducible refine wpAny_isSubtype_exc hC ?_;rw[inB]) | wp_step)
 rw[h1];refine wpAny_pure ?_;rw[if_neg (by decide)];exact wpAny_pure (wpAny_raiseNew_none hh hE)
end
def fL (a:Addr)(cls:Value)(dd:Option Addr):Heap->Prop:=λh=>∃oe vs,h.get? a=some oe/\oe.cls=cls/\oe.dict=dd/\oe.data=.fields vs/\vs[1]?=some .none/\vs[2]?=some .none/\dd≠some a
theorem fL.at {a:Addr}{cls:Value}{dd:Option Addr}{h h':Heap}(x:fL a cls dd h)(k:∀o,h.get? a=some o->h'.get? a=some o):fL a cls dd h':=let ⟨oe,vs,e,r⟩:=x;⟨oe,vs,k oe e,r⟩
theorem fL.ok {P:Program}{w:World}{H:Hp}{h:Heap}{a:Addr}{cls:Value}{dd:Option Addr}(x:fL a cls dd h):dj P w H h a (.ext (fL a cls dd)):=⟨x,let ⟨oe,_,e,_⟩:=x;⟨oe,e⟩,λ_ _ y k=>y.at k⟩
def drop (H:Hp)(a:Addr):Hp:=λb=>if b=a then none else H b
theorem mY {H:Hp}{a:Addr}:drop H a a=none:=by unfold drop;rw[if_pos rfl]
theorem gF {H:Hp}{a b:Addr}(h:b≠a):drop H a b=H b:=by unfold drop;rw[if_neg h]
section
variable {X:Cx}{pins:List (Addr × Obj)}{σ:St}{H:Hp}{s:Shared}{a:Addr}{φ:Heap->Prop}
theorem Inv.drop (I:Inv X pins σ H s)(ha:H a=some (.ext φ))(Ez:∀b o,X.s₀.heap.get? b=some o->b≠a):Inv X pins σ (L2.drop H a) s:=by
 have ne:∀b u,H b=some u->(∀φ,u≠.ext φ)->b≠a:=λb u e n z=>by rw[z,ha]at e;cases e;exact n φ rfl
 refine⟨I.ok,I.os,I.bare,⟨I.base.keep,I.base.slot,λb o e n hx=>?_,I.base.there,λb xs e=>?_,λb o u e=>?_,λb ps e=>?_⟩,I.loc,I.cell,?_,λx c e=>?_,λp hp=>?_,λb o e=>?_,I.len⟩
 ·by_cases hb:b=a
  ·rw[hb];exact mY
  ·rw[gF hb];exact I.base.free b o e n hx
 ·have z:=I.base.tups b xs e
  rw[gF (ne b _ z λφ=>by simp)];exact z
 ·have z:=I.base.jU b o u e
  rw[gF (ne b _ z λφ=>by simp)];exact z
 ·obtain⟨more,z⟩:=I.base.j5 b ps e
  exact⟨more,by rw[gF (ne b _ z λφ=>by simp)];exact z⟩
 ·by_cases hb:X.env.locals=a
  ·rw[hb];exact mY
  ·rw[gF hb];exact I.free
 ·by_cases hb:c=a
  ·rw[hb];exact mY
  ·rw[gF hb];exact I.iR x c e
 ·obtain⟨e1,e2,e3⟩:=I.pin p hp
  refine⟨e1,?_,e3⟩;by_cases hb:p.1=a
  ·rw[hb];exact mY
  ·rw[gF hb];exact e2
 ·by_cases hb:b=a
  ·rw[hb,mY]at e;cases e
  ·rw[gF hb]at e
   refine(I.hok b o e).stay (λc u _ z=>z) (λc r=>?_) λc xs r=>?_
   ·rw[gF (ne c _ r λφ=>by simp)];exact r
   ·rw[gF (ne c _ r λφ=>by simp)];exact r
end
structure MkX (K:Frag)(C f:Addr):Prop where
 ini:t_ K C f=true
 fn:PySem.W.isFn K (.ref f)=true
 kp:PySem.W.keepIn K (.ref C)=true
def aaX (C:Addr)(sp:Sp)(E:XK)(t:TA):TS:=λ_ σ H=>t σ H λvs H1=>vs.length<=sizeLine/\∀a,H1 a=none->sp (.ref a::vs) (upd H1 a (.ext (fL a (.ref C) none))) (λv H2=>v=.non/\∃dd,H2 a=some (.ext (fL a (.ref C) dd))/\E (.ref C) dd (drop H2 a)) E0
section
variable {X:Cx}{k:Nat}{f C:Addr}{fd:FuncData}{ps:List Str}{sp:Sp}{x:Str}{p pos cpos:Pos}{e:Expr}{es:List Expr}{t:TA}{E:XK}
theorem aaY {pins:List (Addr × Obj)}{s:Shared}{σ:St}{H:Hp}{G:Addr->Hp->Prop}(M:MkX X.K C f)(F:cu X.prog X.w X.K X.mg X.base eV k f fd ps sp)(hr:dw (k+1) X.A)(hg:Gl X x)(hm:X.mg x=some (.ref C))(hb:Binds X.K fd ps [])(ha:QA X (e::es) t)
  (I:Inv X pins σ H s) (h:t σ H λvs H1=>vs.length<=sizeLine/\∀a,H1 a=none->sp (.ref a::vs) (upd H1 a (.ext (fL a (.ref C) none))) (λv H2=>v=.non/\G a H2) E0)
  (hdb:(x==("__debug__":Str))=false) (hs:starEach (e::es) X.env=(false,eval e X.env)::starEach es X.env) (hpl:(backTo cpos (starEach es X.env)).any (·.1)=false) :
  wpAny (model X.prog X.w) X.A (eval (.Call (.Name x p) (e::es) [] cpos) X.env) (λv s'=>∃a H2,v=.ref a/\Inv X pins σ H2 s'/\X.s₀.heap.objs.size<=a/\G a H2) X.xe s:=by
 refine wpAny_Call_Name_kw (mQ I hg hm ?_ hdb);refine PySem.W.callWith_K (h₀:=X.base) I.ok.mod.Ek M.kp (bG (ha.out cpos pins s σ H _ I h) λus s1 ⟨vs,H1,I1,r,hz,q⟩=>⟨I1.fJ,?_⟩) hs hpl;obtain⟨bm,N,nm,qn,bs,sn,sub,ab,col,dd,k0,k1,k2,k3,k5,mN,cC,cN,ci,T⟩:=GP I1.fJ M.ini;obtain⟨oI,hoI,hcI⟩:∃oI,s1.heap.get? f=some oI/\oI.cls=.type "function":=by
  have z:(X.K.lookup f).map (·.cls)=some (.type "function"):=beq_iff_eq.mp M.fn;cases y:X.K.lookup f with
  | none=>rw[y]at z;cases z
  | some of=>rw[y]at z;exact⟨of,I1.fJ _ _ y,Option.some.inj z⟩
 have hsz0:X.s₀.heap.objs.size<=s1.heap.objs.size+1:=Nat.le_succ_of_le I1.sz;obtain⟨hh,g,d,tk,os⟩:=s1;have I2:Inv X pins σ H1 ⟨hh.push (newArgs us),g,d,tk,os⟩:=I1.kept (t':=tk) λb u z=>Heap.get?_push_of_some _ z;have hsz:(hh.push (newArgs us)).objs.size=hh.objs.size+1:=Heap.size_push _ _;have eX:((hh.push (newArgs us)).push (newExc C hh.objs.size)).get? (hh.objs.size+1)=some (newExc C hh.objs.size):=by heap_get
 have I3:Inv X pins σ (upd H1 (hh.objs.size+1) (.ext (fL (hh.objs.size+1) (.ref C) none))) ⟨(hh.push (newArgs us)).push (newExc C hh.objs.size),g,d,tk,os⟩:=
  I2.laid (t':=tk) (λb u z=>Heap.get?_push_of_some _ z) (Nat.le_of_eq hsz) (fL.ok ⟨_,_,eX,rfl,rfl,rfl,rfl,rfl,by simp⟩)
 have hq:=q (hh.objs.size+1) (I2.hok.fresh (Nat.le_of_eq hsz));have r2:Vals (V.ref (hh.objs.size+1)::vs) (Value.ref (hh.objs.size+1)::us):=.cons rfl r;have hl:(Value.ref (hh.objs.size+1)::us).length=ps.length:=by rw[<- r2.length];exact F.len _ _ _ _ hq
 have hB:=hb ⟨(hh.push (newArgs us)).push (newExc C hh.objs.size),g,d,tk,os⟩ (Value.ref (hh.objs.size+1)::us) I3.fJ (by rw[List.append_nil];exact hl);rw[List.append_nil]at hB;refine Yh T cC cN ci hoI hcI (by show us.length<=sizeLine;rw[<- r.length];exact hz) (wpAny_call (codeAny_mono (F.run _ X.stack _ _ ⟨Value.ref (hh.objs.size+1)::us,[]⟩ (Value.ref (hh.objs.size+1)::us) _ _ E0 (hr.make C us []) (I3.env0.make C us []) hB r2 hq) λr s' hq'=>?_));cases r with
 | error e=>exact False.elim hq'
 | ok fl=>
  cases fl with
  | ret u=>
   obtain⟨v,H',I4,rv,ev,q3⟩:=I3.after hq';subst ev;exact⟨rv,_,H',rfl,I4,hsz0,q3⟩
  | next=>exact False.elim hq'
  | brk=>exact False.elim hq'
  | cont=>exact False.elim hq'
theorem qg (hl:Lets X E)(hc:X.calm=true)(M:MkX X.K C f)(F:cu X.prog X.w X.K X.mg X.base eV k f fd ps sp)(hr:dw (k+1) X.A)(hg:Gl X x)(hm:X.mg x=some (.ref C))(hb:Binds X.K fd ps [])(ha:QA X (e::es) t)
  (hdb:(x==("__debug__":Str))=false:=by decide) (hs:starEach (e::es) X.env=(false,eval e X.env)::starEach es X.env:=by rfl) (hpl:(backTo cpos (starEach es X.env)).any (·.1)=false:=by rfl) :
  QS X (.Raise (some (.Call (.Name x p) (e::es) [] cpos)) none pos) (aaX C sp E t):=⟨by
 intro pins s σ H D I h;have run:=aaY (p:=p) M F hr hg hm hb ha I h hdb hs hpl;obtain⟨bm,N,nm,qn,bs,sn,sub,ab,col,dd,k0,k1,k2,k3,k5,mN,cC,cN,ci,T⟩:=GP I.ok.mod.Ek M.ini;rw[arm_exec_Raise];refine wpAny_bind (wpAny_standAt (Vg (C:=C) (nm:=nm) (q:=qn) (N:=N) (bs:=bs) (bm:=bm) (hdct:=true) (sn:=sn) (sub:=sub) (ab:=ab) (col:=col) (dd:=dd) (k0:=k0) (k1:=k1) (k2:=k2) (k3:=k3) (k5:=k5) (newId:="ValueError.__new__")
  (T.hasType PySem.F.excBase_ValueError.hasBase) (I.ok.hd hc) (wpAny_bind (wpAny_mono run (λv s1 z=>wpAny_bind (wpAny_standAt (wpAny_pure ?_))) λ_ _ y=>y))))
 obtain⟨a,H2,rfl,I2,ha2,dd2,hd2,hE⟩:=z;obtain⟨⟨oe,vs,he,h1,h2,h3,h4,Vh,_⟩,_⟩:=I2.hok a _ hd2;have Ez:∀b o,X.s₀.heap.get? b=some o->b≠a:=λb o z y=>absurd (Heap.lt_size z) (by rw[y];exact Nat.not_lt.mpr ha2);have I3:=I2.drop hd2 Ez;refine⟨a,oe,vs,rfl,I2.bk _ _ cC,he,h1,h3,h4,hl pins σ _ _ a oe vs I3 he h3 h4 Vh mY Ez ?_⟩;rw[h1,h2];exact hE⟩
end
section
variable {prog:Program}{w:World}{A:Around}{E:Value->Shared->Prop}{h:Heap}{g:Array GenState}{d:Drawn}{t:Nat}{os:OsState}
variable {nm q:Str}{C N a:Addr}{bs bm:List Value}{sn:List Str}{sub:List Value}{ab:Bool}{col:Option Bool}{dd:Option Addr}{k0 k1 k2 k3 k5:Option Value}{rest:List Value}{Q:Value->Shared->Prop}{oe:Obj}{vs:Array Value}
theorem Vi (T:OwnTail h h_ bm)(hC:h.get? C=some (excClassObj nm q C N bs bm true sn sub ab col dd k0 k1 k2 k3 k5 "ValueError.__new__"))(he:h.get? a=some oe)(hc:oe.cls=.ref C)(hd:oe.data=.fields vs)(hz:0 < vs.size)(hr:rest.length<=sizeLine)
  (hq:Q .none ⟨(h.push (newArgs rest)).update a (Obj.mapFields (·.setIfInBounds 0 (.ref h.objs.size))),g,d,t,os⟩) :
  wpAny (model prog w) A (call (.builtin "ValueError.__init__") (.ref a::rest)) Q E ⟨h,g,d,t,os⟩:=by
 have FB:=PySem.F.excBase_ValueError;obtain⟨oc,od,oda,osl⟩:=oe;dsimp only at hc hd;subst hc hd;refine wpAny_call (codeAny_call_builtin FB.init.plain FB.initEntry (wpAny_check_init_subT FB T hC he rfl ?_));have he1:(h.push (newArgs rest)).get? a=some ⟨.ref C,od,.fields vs,osl⟩:=Heap.get?_push_of_some _ he;unfold Builtin.«BaseException.__init__»
 repeat (first | with_reducible refine wpAny_loadPart_at he1 ?_ | wp_step)
 obtain⟨v0,e0⟩:∃v0,vs[0]?=some v0:=⟨_,Array.getElem?_eq_getElem hz⟩
 rw[e0];refine wpAny_pure (wpAny_bind (wpAny_setField he1 rfl hz ?_));cases v0 <;> first | exact wpAny_letGo (wpAny_pure hq) | exact wpAny_pure (wpAny_pure hq)
end
def oU:List Value->Bool
 | .ref _::r=>oU r
 | l=>l==h_
theorem zx (self:Value):∀{l:List Value},oU l=true->refuseLoop self "__setattr__" l=pure ()
 | .ref _::r,e=>(refuseLoop_ref self "__setattr__" _ r).trans (zx self (l:=r) e)
 | [],e=>by cases e
 | .type n::r,e=>by rw[beq_iff_eq.mp (show (Value.type n::r==h_)=true from e)];exact PySem.F.store_ValueError.passes self
 | .none::r,e=>by cases(beq_iff_eq.mp (show (Value.none::r==h_)=true from e))
 | .bool b::r,e=>by cases(beq_iff_eq.mp (show (Value.bool b::r==h_)=true from e))
 | .int i t::r,e=>by cases(beq_iff_eq.mp (show (Value.int i t::r==h_)=true from e))
 | .float i t::r,e=>by cases(beq_iff_eq.mp (show (Value.float i t::r==h_)=true from e))
 | .str i t::r,e=>by cases(beq_iff_eq.mp (show (Value.str i t::r==h_)=true from e))
 | .bytes i t::r,e=>by cases(beq_iff_eq.mp (show (Value.bytes i t::r==h_)=true from e))
 | .builtin n::r,e=>by cases(beq_iff_eq.mp (show (Value.builtin n::r==h_)=true from e))
structure zy (K:Frag)(C:Addr):Prop where
 ln:((clsIn K C).any λcd=>cd.hasDict&&oU cd.mro)=true
 ob:mroIn K C (.type "object")=some true
 sa:findIn K (.ref C) "__setattr__"=some (some (.builtin "object.__setattr__"))
section
open Builtin Builtin.ObjectAttr
variable {prog:Program}{w:World}{A:Around}{E:Value->Shared->Prop}{s:Shared}{K:Frag}{x C:Addr}{ox:Obj}{od:Option Obj}{name:Str}{v:Value}
theorem Jh {Q:Unit->Shared->Prop}(X:K.In s.heap)(T:zy K C)(hn:findIn K (.ref C) name=some none)(I:InstAt s.heap x ox C od)
  (h:wpAny (model prog w) A.in1 (storeInOwnDict (.ref x) (.ref C) (.str name s.toks) name v false) (λfin s'=>match fin with | .done (.ret _)=>Q () s' | _=>False) (λ_ _=>False) { s with toks:=s.toks+1 }) :
  wpAny (model prog w) A (setAttr (.ref x) name v) Q E s:=by
 have SF:=PySem.F.store_ValueError;obtain⟨cd,hc,ho⟩:=any_some T.ln;rw[Bool.and_eq_true]at ho;have L0:=I.type (M:=model prog w);have Lm:Looks (model prog w) s.heap (mroOf (.ref C)) cd.mro:=(looks_clsIn X hc).andThen .now;have Li:Looks (model prog w) s.heap (isInstance (.ref x) (.type "object")) true:=L0.andThen (looks_mroIn X T.ob);have Ln:=looks_findIn (M:=model prog w) X hn;obtain⟨hh,g,d,t,os⟩:=s;unfold setAttr;refine wpAny_bind (wpAny_mkText (wpAny_bind (wpAny_bind (wpAny_bind (L0.at ((looks_findIn X T.sa).at (wpAny_holding (wpAny_bind ?_))))))));rw[SF.slot.bind (.ref x)];refine wpAny_pure (wpAny_bind (wpAny_call (codeAny_call_builtin SF.slot.plain SF.entry (@check_slot (model prog w) _ _ _ "object.__setattr__" "object" "__setattr__" (.ref x) [.str name t,v] [] _ SF.kind SF.split Li (SF.args (.ref x) (.str name t) v) ?_))));show wpAny (model prog w) A.in1 (Builtin.«object.__setattr__» ⟨[.ref x,.str name t,v],[]⟩) _ _ _;rw[osa_eq,refuse_eq];refine wpAny_bind (wpAny_bind (L0.at (wpAny_bind (Lm.at ?_))));rw[zx _ ho.2];refine wpAny_pure (wpAny_bind (L0.at (wpAny_bind (Ln.at (wpAny_bind (wpAny_pure ?_))))));refine wpAny_mono h (λfin s' z=>?_) λ_ _ z=>z.elim;cases fin with
 | done f=>cases f with
  | ret u=>exact wpAny_pure (wpAny_pure z)
  | next=>exact z.elim
  | brk=>exact z.elim
  | cont=>exact z.elim
 | again c=>exact z.elim
end
section
open Builtin Builtin.ObjectAttr
variable {prog:Program}{w:World}{A:Around}{E:Value->Shared->Prop}{h:Heap}{g:Array GenState}{d:Drawn}{t:Nat}{os:OsState}{K:Frag}{x C dx:Addr}{vs:Array Value}{sl:Array (Option Value)}{name:Str}{v:Value}{Q:Fin->Shared->Prop}{b:Bool}{tk:Tok}
theorem RK (X:K.In h)(T:zy K C)(hx:h.get? x=some ⟨.ref C,none,.fields vs,sl⟩)
  (hq:∀h' t',h'.Ns1 h.objs.size (λy=>if y=name then some v else none)->h'.get? x=some ⟨.ref C,some h.objs.size,.fields vs,sl⟩->(∀c o,c≠x->h.get? c=some o->h'.get? c=some o)->Q (.done (.ret .none)) ⟨h',g,d,t',os⟩) :
  wpAny (model prog w) A (storeInOwnDict (.ref x) (.ref C) (.str name tk) name v b) Q E ⟨h,g,d,t,os⟩:=by
 obtain⟨cd,hc,ho⟩:=any_some T.ln;rw[Bool.and_eq_true]at ho;have xs:x≠h.objs.size:=Nat.ne_of_lt (Heap.lt_size hx);refine wpAny_bind (wpAny_pure (wpAny_bind (wpAny_bind (wpAny_loadPart hx (wpAny_bind ((looks_clsIn X hc).here ?_))))));rw[ho.1];have hx1:(h.push { cls:=.type "dict",data:=.dict #[] }).get? x=some ⟨.ref C,none,.fields vs,sl⟩:=Heap.get?_push_of_some _ hx;refine wpAny_bind (wpAny_alloc' ?_);refine wpAny_bind (wpAny_update' hx1 ?_);refine wpAny_pure ?_;generalize e1:((h.push { cls:=.type "dict",data:=.dict #[] }).update x λo=>{ cls:=o.cls,dict:=some h.objs.size,data:=o.data,slots:=o.slots })=h1;have g1:h1.get? h.objs.size=some { cls:=.type "dict",data:=.dict #[] }:=by rw[<- e1];exact(Heap.get?_update_ne _ _ _ _ xs.symm).trans (Heap.get?_push_at rfl rfl)
 have g2:h1.get? x=some ⟨.ref C,some h.objs.size,.fields vs,sl⟩:=by rw[<- e1];exact Heap.get?_update_self _ hx1 rfl
 have g3:∀c o,c≠x->h.get? c=some o->h1.get? c=some o:=λc o n z=>by rw[<- e1];exact(Heap.get?_update_ne _ _ _ _ n).trans (Heap.get?_push_of_some _ z)
 have n1:h1.Ns h.objs.size (λ_=>none):=⟨_,#[],_,g1,rfl,(λe he=>absurd he (by simp)),λ_=>rfl⟩
 show wpAny _ _ (storeInDict h.objs.size (.str name tk) name v) _ _ _;unfold storeInDict newKeyGuard;refine wpAny_bind (wpAny_pure (wpAny_bind (wpAny_nsSet1 (Heap.Ns1.of_empty n1) λh2 n2 k2=>?_)));obtain⟨oD,esD,epD,hoD,hdD,hcD⟩:=n2.count (PySem.Within.cons name v PySem.Within.nil);refine wpAny_bind (wpAny_lookBehind hoD (by rw[hdD];exact pastItsLine_dict (Nat.le_trans hcD (by rw[List.length_cons,List.length_nil,sizeLine_eq];omega))) (wpAny_pure ?_));exact hq h2 _ n2 ((k2.2 x xs).trans g2) λc o n z=>(k2.2 c (Nat.ne_of_lt (Heap.lt_size z))).trans (g3 c o n z)
theorem Oo {mA:Str->Option Value}{ns:List Str}(X:K.In h)(T:zy K C)(hx:h.get? x=some ⟨.ref C,some dx,.fields vs,sl⟩)(hn:h.Ns1 dx mA)(hw:PySem.Within mA ns)(hl:ns.length<=100)
  (hq:∀h' t',h'.Ns1 dx (λy=>if y=name then some v else mA y)->(∀c o,c≠dx->h.get? c=some o->h'.get? c=some o)->Q (.done (.ret .none)) ⟨h',g,d,t',os⟩) :
  wpAny (model prog w) A (storeInOwnDict (.ref x) (.ref C) (.str name tk) name v b) Q E ⟨h,g,d,t,os⟩:=by
 obtain⟨cd,hc,ho⟩:=any_some T.ln;rw[Bool.and_eq_true]at ho;refine wpAny_bind (wpAny_pure (wpAny_bind (wpAny_bind (wpAny_loadPart hx (wpAny_bind ((looks_clsIn X hc).here ?_))))));rw[ho.1];refine wpAny_pure ?_;show wpAny _ _ (storeInDict dx (.str name tk) name v) _ _ _;unfold storeInDict newKeyGuard;refine wpAny_bind (wpAny_pure (wpAny_bind (wpAny_nsSet1 hn λh2 n2 k2=>?_)));obtain⟨oD,esD,epD,hoD,hdD,hcD⟩:=n2.count (PySem.Within.cons name v hw);refine wpAny_bind (wpAny_lookBehind hoD (by rw[hdD];exact pastItsLine_dict (Nat.le_trans hcD (by rw[List.length_cons,sizeLine_eq];omega))) (wpAny_pure ?_));exact hq h2 _ n2 λc o n z=>(k2.2 c n).trans z
end
def XD (a:Addr)(fs:List (Str × V)):Heap->Prop:=λh=>∃mA,h.Ns1 a mA/\(∀f,jT (fs.lookup f) (mA f))/\PySem.Within mA (fs.map (·.1))/\fs.length<=50
theorem XD.at {a:Addr}{fs:List (Str × V)}{h h':Heap}(x:XD a fs h)(k:∀o,h.get? a=some o->h'.get? a=some o):XD a fs h':=let ⟨mA,n,r⟩:=x;⟨mA,n.at k,r⟩
theorem XD.ok {P:Program}{w:World}{H:Hp}{h:Heap}{a:Addr}{fs:List (Str × V)}(x:XD a fs h):dj P w H h a (.ext (XD a fs)):=⟨x,let ⟨_,⟨o,_,_,e,_⟩,_⟩:=x;⟨o,e⟩,λ_ _ y k=>y.at k⟩
def aen (K : Frag)(ta tv : TE)(f : Str) : TS := λD σ H => tv σ H λy H1 => ta σ H1 λx H2 => ∃a C dd, x = .ref a /\ H2 a = some (.ext (fL a (.ref C) dd)) /\ zy K C /\ findIn K (.ref C) f = some none /\
  ((dd = none /\ ∀dx, dx ≠ a -> H2 dx = none -> D.nx σ (upd (upd H2 dx (.ext (XD dx [(f, y)]))) a (.ext (fL a (.ref C) (some dx))))) \/
   ∃dx fs, dd = some dx /\ H2 dx = some (.ext (XD dx fs)) /\ fs.length < 50 /\ D.nx σ (upd H2 dx (.ext (XD dx (gM f y fs)))))
section
variable {X:Cx}{o value:Expr}{f:Str}{pos pos':Pos}{ta tv:TE}
theorem rT (ha:QE X o ta)(hv:QE X value tv)(hs:swapsWith value (some (.Attribute o f pos')) pos.line X.env=pure false):QS X (.Assign [.Attribute o f pos'] value pos) (aen X.K ta tv f):=⟨by
 intro pins s σ H D I h;refine plainObj_wpAny_Assign_Attribute (bG (hv.out pins s σ H _ I h) λu s1 ⟨y,H1,I1,ry,q⟩=>bG (ha.out pins s1 σ H1 _ I1 q) λov s2 ⟨x,H2,I2,rx,a,C,dd,ex,ea,T,hn,q2⟩=>?_) hs;subst ex;obtain rfl:ov=Value.ref a:=rx;obtain⟨⟨oe,vs,he,h1,h2,h3,h4,Vh,h5⟩,_⟩:=I2.hok a _ ea;obtain⟨oc,od,oda,osl⟩:=oe;dsimp only at h1 h2 h3;subst h1 h2 h3;have hk:X.K.In s2.heap:=I2.fJ;obtain⟨hh,g,d,t,os⟩:=s2;rcases q2 with⟨rfl,q2⟩ | ⟨dx,fs,rfl,hdx,hl,q2⟩
 ·refine Jh hk T hn (od:=none) ⟨he,rfl,rfl,True.intro⟩ (RK hk T he λh' t' n' e' k'=>?_)
  have xs:a≠hh.objs.size:=Nat.ne_of_lt (Heap.lt_size he);have nN:H2 hh.objs.size=none:=I2.hok.fresh (Nat.le_refl _);have na:∀b,H2 b=none->b≠a:=λb n z=>by rw[z,ea]at n;cases n
  have ne:∀b w,H2 b=some w->(∀φ,w≠.ext φ)->b≠a/\b≠hh.objs.size:=λb w e n=>⟨λz=>by rw[z,ea]at e;cases e;exact n _ rfl,λz=>by rw[z,nN]at e;cases e⟩
  have up:∀b,b≠a->b≠hh.objs.size->upd (upd H2 hh.objs.size (.ext (XD hh.objs.size [(f,y)]))) a (.ext (fL a (.ref C) (some hh.objs.size))) b=H2 b:=λb n1 n2=>by rw[aP n1,aP n2]
  have lt:∀b o,hh.get? b=some o->b≠hh.objs.size:=λb o z=>Nat.ne_of_lt (Heap.lt_size z);have hD:XD hh.objs.size [(f,y)] h':=⟨_,n',λg'=>by
    show jT (List.lookup g' [(f,y)]) (if g'=f then some u else none);by_cases q:g'=f
    ·rw[if_pos q,q];simp only[List.lookup,beq_self_eq_true];exact ry
    ·rw[if_neg q]
     have:(g'==f)=false:=beq_false_of_ne q;simp only[List.lookup,this];trivial,λg' hg=>by
    by_cases q:g'=f
    ·rw[q];simp
    ·exact absurd (show (if g'=f then some u else none)=none by rw[if_neg q]) hg,by show 1<=50;decide⟩
  have I3:Inv X pins σ (upd (upd H2 hh.objs.size (.ext (XD hh.objs.size [(f,y)]))) a (.ext (fL a (.ref C) (some hh.objs.size)))) ⟨h',g,d,t',os⟩:=I2.un (t':=t')
   ⟨λb o z n _ _=>k' b o (na b n) z,λb o z n _ _=>⟨o.slots,k' b o (na b n) z⟩,λb o z n _=>(up b (na b n) (lt b o z)).trans n,λb o z _=>by
    by_cases hb:b=a
    ·exact⟨_,by rw[hb];exact e'⟩
    ·exact⟨o,k' b o hb z⟩,λb xs e=>by
    obtain⟨n1,n2⟩:=ne b _ e λφ=>by simp
    exact(up b n1 n2).trans e,λb o xs e=>by
    obtain⟨n1,n2⟩:=ne b _ e λφ=>by simp
    exact(up b n1 n2).trans e,λb ps e=>by
    obtain⟨n1,n2⟩:=ne b _ e λφ=>by simp
    exact⟨#[],by rw[up b n1 n2,e];simp⟩⟩ λb o e=>by
   by_cases hb:b=a
   ·subst hb
    rw[ao]at e;cases e;exact fL.ok ⟨_,_,e',rfl,rfl,rfl,h4,Vh,λz=>xs (Option.some.inj z).symm⟩
   ·rw[aP hb]at e
    by_cases hn:b=hh.objs.size
    ·subst hn
     rw[ao]at e;cases e;exact hD.ok
    ·rw[aP hn]at e
     refine(I2.hok b o e).stay (λc w hc z=>k' c w (λy=>?_) z) (λc r=>?_) λc xs r=>?_
     ·rcases hc with hc | hc
      ·exact hb (hc.symm.trans y)
      ·rw[y,ea]at hc;cases hc
     ·obtain⟨n1,n2⟩:=ne c _ r λφ=>by simp
      exact(up c n1 n2).trans r
     ·obtain⟨n1,n2⟩:=ne c _ r λφ=>by simp
      exact(up c n1 n2).trans r
  exact⟨σ,_,I3,q2 _ xs.symm nN⟩
 ·obtain⟨⟨mA,nA,rA,wA,lA⟩,⟨od,hod⟩,_⟩:=I2.hok dx _ hdx
  refine Jh hk T hn (od:=some od) ⟨he,rfl,rfl,hod⟩ (Oo (ns:=fs.map (·.1)) hk T he nA wA (by rw[List.length_map];omega) λh' t' n' k'=>?_);have I3:Inv X pins σ (upd H2 dx (.ext (XD dx (gM f y fs)))) ⟨h',g,d,t',os⟩:=I2.write (t':=t') (e:=dx) (by rw[hdx];trivial) (.inl rfl) (λb o n z=>k' b o n z) (let ⟨o,_,_,e,_⟩:=n';⟨o,e⟩)
   (XD.ok ⟨_,n',λg'=>?_,λg' hg=>?_,?_⟩)
  ·exact⟨σ,_,I3,q2⟩
  ·show jT ((gM f y fs).lookup g') (if g'=f then some u else mA g')
   rw[uX];by_cases q:g'=f
   ·rw[if_pos q,if_pos q];exact ry
   ·rw[if_neg q,if_neg q];exact rA g'
  ·by_cases q:g'=f
   ·rw[q];exact(pX f y fs).1
   ·refine(pX f y fs).2 g' (wA g' λz=>hg ?_)
    show (if g'=f then some u else mA g')=none;rw[if_neg q];exact z
  ·have:=uY f y fs;omega⟩
end
structure InitOf (K:Frag)(R:Addr):Prop where
 ga:specialIn K (.ref R) "__getattribute__"=some (some (.builtin "type.__getattribute__"))
 rd:readsIn K R (.type "type")=true
 fc:findCls K (.ref R) (.type "type") "__init__"=some (.val (.builtin "ValueError.__init__"))
def Yi (K:Frag)(t:TA):TE:=λσ H Q=>t σ H λvs H1=>∃a C f dd rest,vs=.ref a::rest/\H1 a=some (.ext (fL a (.ref C) dd))/\t_ K C f=true/\rest.length<=sizeLine/\Q .non H1
section
variable {X:Cx}{R:Addr}{x:Str}{np apos pos:Pos}{e:Expr}{es:List Expr}{t:TA}
theorem qX {pl:Sem Bool}(hg:Gl X x)(hm:X.mg x=some (.ref R))(F:InitOf X.K R)(ha:QA X (e::es) t)(hdb:(x==("__debug__":Str))=false:=by decide)
  (hs:starEach (e::es) X.env=(false,eval e X.env)::starEach es X.env:=by rfl) (hpl:(backTo pos (starEach es X.env)).any (·.1)=false:=by rfl)
  (ht:eval (.Call (.Attribute (.Name x np) "__init__" apos) (e::es) [] pos) X.env=(do
   let ov <- eval (.Name x np) X.env
   standAt apos.atName
   let (f,first) <- holding [ov] (getMethod ov "__init__" pl)
   callWith pos f first (backTo pos (starEach (e::es) X.env)) (backToKw pos (keywordEach [] X.env))):=by rfl) :
  QE X (.Call (.Attribute (.Name x np) "__init__" apos) (e::es) [] pos) (Yi X.K t):=⟨by
 intro pins s σ H Q I h;refine methodCall_KW (pl:=pl) (mQ I hg hm ?_ hdb) ht;refine method_cls I.fJ F.ga (cls_value I.fJ F.rd F.fc rfl ?_);have I0:=I.tok (s.toks+1);refine PyProof.Rows.callWith_builtin1 (bG (ha.out pos pins _ σ H _ I0 h) λus s1 ⟨vs,H1,I1,r1,a,C,f,dd,rest,ev,hE,hC,hz,q⟩=>?_) hs hpl;subst ev;obtain⟨bm,N,nm,qn,bs,sn,sub,ab,col,Uq,k0,k1,k2,k3,k5,mN,cC,cN,ci,T⟩:=GP I1.fJ hC;obtain⟨⟨oe,ws,he,h1,h2,h3,h4,Vh,h5⟩,_⟩:=I1.hok a _ hE;obtain⟨u,us',rfl,ra,rr⟩:∃u us',us=u::us'/\RelV (.ref a) u/\Vals rest us':=by
  cases r1 with
  | cons ra rr=>exact⟨_,_,rfl,ra,rr⟩
 obtain rfl:u=Value.ref a:=ra;obtain⟨hh,g,d,tk,os⟩:=s1;have hsz:0 < ws.size:=Nat.lt_of_le_of_lt (Nat.zero_le 1) (Array.getElem?_eq_some_iff.mp h4).1;refine Vi T cC he h1 h3 hsz (by rw[<- rr.length];exact hz) ?_;have e1:(hh.push (newArgs us')).get? a=some oe:=Heap.get?_push_of_some _ he;have I2:Inv X pins σ H1 ⟨hh.push (newArgs us'),g,d,tk,os⟩:=I1.kept (t':=tk) λb u z=>Heap.get?_push_of_some _ z;have dd2:=Obj.data_mapFields h3 (·.setIfInBounds 0 (Value.ref hh.objs.size));have e2:((hh.push (newArgs us')).update a (Obj.mapFields (·.setIfInBounds 0 (.ref hh.objs.size)))).get? a=some (oe.mapFields (·.setIfInBounds 0 (.ref hh.objs.size))):=Heap.get?_update_self _ e1 (Obj.isFreed_of_fields dd2);have I3:Inv X pins σ (upd H1 a (.ext (fL a (.ref C) dd))) ⟨(hh.push (newArgs us')).update a (Obj.mapFields (·.setIfInBounds 0 (.ref hh.objs.size))),g,d,tk,os⟩:=I2.write (t':=tk) (e:=a) (by rw[hE];trivial) (.inl rfl)
  (λb u n z=>(Heap.get?_update_other _ _ (Ne.symm n)).trans z) ⟨_,e2⟩ (fL.ok ⟨_,_,e2,(Obj.cls_mapFields _ _).trans h1,(Jg _ _).trans h2,dd2,by rw[Array.getElem?_setIfInBounds_ne (by decide)];exact h4,by rw[Array.getElem?_setIfInBounds_ne (by decide)];exact Vh,h5⟩)
 rw[show upd H1 a (.ext (fL a (.ref C) dd))=H1 from funext λb=>by
  by_cases hb:b=a
  ·rw[hb,ao,hE]
  ·rw[aP hb]]at I3
 exact⟨.non,H1,I3,rfl,q⟩⟩
end
def aeo (K:Frag)(ta:TE)(f:Str):TE:=λσ H Q=>ta σ H λx H1=>∃a C dx fs v,x=.ref a/\H1 a=some (.ext (sU a (.ref C) (some dx)))/\H1 dx=some (.ext (XD dx fs))/\pI K C/\hasDictIn K C=true/\findIn K (.ref C) f=some none/\fs.lookup f=some v/\Q v H1
section
variable {prog:Program}{w:World}{A:Around}{E:Value->Shared->Prop}{s:Shared}{K:Frag}{x C:Addr}{ox:Obj}{od:Obj}{name:Str}{v:Value}
theorem RL {tk:Tok}{Q:Fin->Shared->Prop}(X:K.In s.heap)(I:InstAt s.heap x ox C (some od))(hf:findObj K C (some od) name=some (.value v))(h:Q (.done (.ret v)) s) :
  wpAny (model prog w) A (Builtin.«object.__getattribute__» ⟨[.ref x,.str name tk],[]⟩) Q E s:=by
 obtain⟨hh,g,d,t,os⟩:=s;have L0:=I.type (M:=model prog w);have L1:=looks_find (M:=model prog w) X I hf;unfold Builtin.«object.__getattribute__»
 repeat (first | lk)
 exact h
theorem aeV {expr:Bool}{Q:Value->Shared->Prop}(T:pI K C)(X:K.In s.heap)(I:InstAt s.heap x ox C (some od))(hf:findObj K C (some od) name=some (.value v))(hv:handedIn v=true)(h:Q v { s with toks:=s.toks+1 }) :
  wpAny (model prog w) A (getAttr (.ref x) name expr) Q E s:=by
 obtain⟨hh,g,d,t,os⟩:=s;have L0:=I.type (M:=model prog w);have L1:=looks_findIn (M:=model prog w) X T.ga;have L2:=looks_findIn (M:=model prog w) X T.gx;unfold getAttr getAttrBy;refine wpAny_bind (wpAny_mkText (wpAny_holding (wpAny_bind (L0.at (wpAny_bind (L1.at ?_))))));show wpAny _ _ (getAttrByItsOwn _ _ _ _ _ _) _ _ _;unfold getAttrByItsOwn hookBefore;rw[if_pos (show onTheHeap (Value.ref C)=true from rfl)];refine wpAny_bind (L2.at (wpAny_bind (wpAny_attempt (wpAny_holding ?_))));unfold callGetattribute boundAndCalled;rw[if_neg (by simp[onTheHeap])];have f3:=PySem.F.excAttr_ValueError.ga.bind (.ref x);rw[f3];refine wpAny_bind (wpAny_pure ?_);refine wpAny_call (codeAny_call_builtin PySem.F.excAttr_ValueError.ga.plain F.entry_bexc_ga ?_);have hk:builtinKind "BaseException.__getattribute__"=some .slot:=by decide +kernel
 have hsp:splitId "BaseException.__getattribute__"=some ("BaseException","__getattribute__"):=by decide +kernel
 have Lb:=looks_mroIn (M:=model prog w) X T.hb;have hargs:=F.args_bexc_ga (.ref x) (.str name t);simp only[checkBuiltinCall,hk,hsp];refine wpAny_bind ?_;unfold isInstance;refine wpAny_bind (L0.at (Lb.at ?_))
 repeat (first | refine RL (x:=x) X I hf ?_ | assumption | wp_step)
 exact handed_on hv h
end
section
variable {X:Cx}{e:Expr}{f:Str}{pos:Pos}{ta:TE}
theorem GQ (he:QE X e ta)(hb:attributeBase e f X.env (eval e X.env)=eval e X.env):QE X (.Attribute e f pos) (aeo X.K ta f):=⟨by
 intro pins s σ H Q I h;refine Pu hb (bG (he.out pins s σ H _ I h) λu s1 ⟨x,H1,I1,rx,a,C,dx,fs,v,ex,ea,ed,T,hd,hn,hl,q⟩=>?_);subst ex;obtain rfl:u=Value.ref a:=rx;obtain⟨⟨oe,vs,e1,e2,e3,e4,_⟩,_⟩:=I1.hok a _ ea;obtain⟨⟨mA,nA,rA,wA,lA⟩,_⟩:=I1.hok dx _ ed;obtain⟨od,ho,hlk⟩:=Ik nA;obtain⟨u,hu,ru⟩:=jT.some_of (v:=v) (o:=mA f) (by rw[<- hl];exact rA f);have J:InstAt s1.heap a oe C (some od):=⟨e1,e2,by unfold notCls;rw[e4],by rw[e3];exact ho⟩
 exact aeV T I1.fJ J (findObj_own hd hn rfl (by rw[hlk,hu])) (Il ru) ⟨v,H1,I1.tok _,ru,q⟩⟩
end
theorem drop_new {H:Hp}{a dx:Addr}{o p q:HO}(na:H a=none)(ne:dx≠a)(nd:upd H a o dx=none):Same H (drop (upd (upd (upd H a o) dx p) a q) a)/\drop (upd (upd (upd H a o) dx p) a q) a dx=some p:=by
 rw[aP ne]at nd;refine⟨λb u e=>?_,?_⟩
 ·have h1:b≠a:=bR e na
  have h2:b≠dx:=bR e nd;rw[gF h1,aP h1,aP h2,aP h1];exact e
 ·rw[gF ne,aP ne,ao]
structure lH (K:Frag)(mg:Str->Option Value)(name:Str)(C f:Addr)(fs:List Str):Prop where
 E_:mg name=some (.ref C)
 M:MkX K C f
 T:zy K C
 is:pI K C
 hd:hasDictIn K C=true
 no:∀g∈fs,findIn K (.ref C) g=some none
def Fb (C:Addr)(nm:Str):Sp:=λvs H Q _=>∃(a:Addr) (v:V),vs=[.ref a,v]/\H a=some (.ext (fL a (.ref C) none))/\∀dx,dx≠a->H dx=none->Q .non (upd (upd H dx (.ext (XD dx [(nm,v)]))) a (.ext (fL a (.ref C) (some dx))))
def Fd (C:Addr)(n1 n2:Str):Sp:=λvs H Q _=>∃(a:Addr) (v w:V),vs=[.ref a,v,w]/\H a=some (.ext (fL a (.ref C) none))/\∀dx,dx≠a->H dx=none->Q .non (upd (upd (upd H dx (.ext (XD dx [(n1,v)]))) a (.ext (fL a (.ref C) (some dx)))) dx (.ext (XD dx (gM n2 w [(n1,v)]))))
end L2
end
section
namespace L2
open PySem PySem.Spec PyProof.Rows PySem.W
end L2
end
section
namespace L2
open PySem PySem.Spec PyProof.Rows PySem.W
def isT:Value->Bool
 | .bool b=>b
 | _=>false
section
variable {X:Cx}
theorem Le:∀{bs:List Bool} {its:List Value},Vals (bs.map V.bl) its->its.map isT=bs
 | [],_,.nil=>rfl
 | b::bs,_,.cons r t=>by
  cases r;rw[List.map_cons,Le t];rfl
theorem aaZ {bs:List Bool}{its:List Value}(r:Vals (bs.map V.bl) its){A:Around}{s:Shared}:∀y∈its.toArray,SeqAt.EqAt A s y (.bool true) (isT y):=λy hy=>by
 obtain⟨m,hm,rfl⟩:=Array.mem_iff_getElem.mp hy;have hl:=r.length;have hm':m < bs.length:=by simp at hm hl;omega
 obtain⟨u1,e1,s1⟩:=r.get (i:=m) (x:=.bl bs[m]) (by simp[hm']);cases s1;have e2:its.toArray[m]=.bool bs[m]:=by
  rw[List.getElem?_eq_getElem (by simpa using hm)]at e1;simpa using e1
 rw[e2];have:=SeqAt.EqAt.bool_bool (A:=A) (s:=s) bs[m] true;cases z:bs[m] <;> (rw[z]at this;exact this)
def aa0:V->List V->Hp->VK->Prop:=λx vs H Q=>∃(l:Addr) (bs:List Bool) (j:Nat),x=.ref l/\vs=[.bl true]/\H l=some (.lst (bs.map V.bl))/\bs[j]?=some true/\(∀m,m < j->bs[m]?=some false)/\bs.length<=1000/\Q (.int j) H
theorem Vj:Ul X "list.index" aa0:=by
 intro pins s σ H x vs v us Q I rx rv h;obtain⟨l,bs,j,rfl,rfl,hH,hj,hno,hz,q⟩:=h;cases rx;obtain⟨u,rfl,ru⟩:=rv.one;cases ru;obtain⟨z,its,n,r,hl,e⟩:=I.yW hH;have em:=Le r;have hlen:its.length=bs.length:=by rw[<- em,List.length_map]
 have hjb:j < bs.length:=(List.getElem?_eq_some_iff.mp hj).1;have at_:∀m (hm:m < its.toArray.size),bs[m]?=some (isT its.toArray[m]):=λm hm=>by
  have hm':m < its.length:=by simpa using hm
  rw[<- em,List.getElem?_map,List.getElem?_eq_getElem hm'];simp
 refine call_meets F.slot_list_index ⟨_,e,rfl⟩ F.entry_list_index (F.args_list_index_2 _ _) (SeqAt.list_indexAt l its.toArray n _ _ (.bool true) isT j (by simp;omega) (by omega) ?_ ?_) ⟨e,aaZ r,?_⟩
 ·have:=at_ j (by simp;omega)
  rw[hj]at this;exact(Option.some.inj this).symm
 ·intro m hm hlt
  have:=at_ m hm;rw[hno m hlt]at this;exact(Option.some.inj this).symm
 ·exact⟨.int j,H,I.tok _,⟨s.toks,rfl⟩,q⟩
end
end L2
end
section
namespace L2
open PySem PySem.Spec PyProof.Rows PySem.W
section
variable {prog:Program}{w:World}{A:Around}{E:Value->Shared->Prop}{s:Shared}{z ti to u v a b:Addr}{i:Nat}{f g:Array Value}{x y m n:Value}
theorem Vk {Q:Value->Shared->Prop}(D:ZA z ti to u v a b)(hz:IsZip s.heap z ti to .none)(hi:IsPair s.heap ti (.ref u) (.ref v))(ho:IsPair s.heap to m n)
  (hu:s.heap.IsListIter u a i) (hv:s.heap.IsListIter v b i) (ha:s.heap.IsList a f) (hb:s.heap.IsList b g) (hx:f[i]?=some x) (hy:g[i]?=some y)
  (q:∀h',IsZip h' z ti to (rawInt s.heap.objs.size)->IsPair h' to x y->h'.IsListIter u a (i+1)->h'.IsListIter v b (i+1)->IsPair h' s.heap.objs.size x y->
   (∀c o,c≠z->c≠to->c≠u->c≠v->s.heap.get? c=some o->h'.get? c=some o)->Q (.ref s.heap.objs.size) { s with heap:=h' }) :
  wpAny (model prog w) A (Builtin.«zip.__next__» ⟨[.ref z],[]⟩) (λfin s'=>∃r,fin=.done (.ret r)/\Q r s') E s:=by
 show wpAny _ _ (field (.ref z) 2 >>= _) _ _ _;refine wpAny_bind (wpAny_field hz rfl (x:=.bool false) rfl ?_);show wpAny _ _ (field (.ref z) 3 >>= _) _ _ _;refine wpAny_bind (wpAny_field hz rfl (x:=.ref ti) rfl (wpAny_bind (wpAny_seqItems hi rfl ?_)));show wpAny _ _ (Builtin.SmallTypes.ownedTupleIsFree (.ref z) >>= _) _ _ _;refine wpAny_bind ?_;unfold Builtin.SmallTypes.ownedTupleIsFree;refine wpAny_bind (wpAny_field hz rfl (x:=.none) rfl (wpAny_pure ?_));simp only[if_true];refine wpAny_bind (wpAny_rule (wpAny_bind (wpAny_field hz rfl (x:=.ref to) rfl (wpAny_bind (wpAny_setField_rec hz (by simp) λg1 z1 k1=>?_)))))
 replace z1:IsZip g1 z ti to .ellipsis:=z1
 refine wpAny_bind ?_;simp only[List.zipIdx_cons,List.zipIdx_nil,List.forIn_cons,List.forIn_nil];refine wpAny_bind (wpAny_bind (wpAny_onRaise ?_));show wpAny _ _ (Builtin.SmallTypes.nextOf (.ref u) >>= _) _ _ _;refine wpAny_bind (wpAny_nextOf_list_item (hu.at λo e=>k1.extBut _ o D.q3 e) (Heap.IsList.at ha λo e=>k1.extBut _ o D.p2 e) hx λg2 u2 k2=>wpAny_pure ?_);have o2:IsPair g2 to m n:=k2.extBut _ _ D.q8 (k1.extBut _ _ D.q2 ho);refine wpAny_bind (wpAny_seqItems o2 rfl (wpAny_bind (wpAny_updateSeq_pair o2 λg3 o3 k3=>?_)))
 replace o3:IsPair g3 to x n:=o3
 refine wpAny_bind (wpAny_letGo (wpAny_pure ?_));refine wpAny_bind (wpAny_bind (wpAny_onRaise ?_));show wpAny _ _ (Builtin.SmallTypes.nextOf (.ref v) >>= _) _ _ _;refine wpAny_bind (wpAny_nextOf_list_item (hv.at λo e=>k3.extBut _ o D.q9.symm (k2.extBut _ o D.p1.symm (k1.extBut _ o D.q4 e))) (Heap.IsList.at hb λo e=>k3.extBut _ o D.p7 (k2.extBut _ o D.p8 (k1.extBut _ o D.p6 e))) hy λg4 v4 k4=>wpAny_pure ?_);have o4:IsPair g4 to x n:=k4.extBut _ _ D.q9 o3;refine wpAny_bind (wpAny_seqItems o4 rfl (wpAny_bind (wpAny_updateSeq_pair o4 λg5 o5 k5=>?_)))
 replace o5:IsPair g5 to x y:=o5
 refine wpAny_bind (wpAny_letGo (wpAny_pure (wpAny_pure ?_)));refine wpAny_bind (wpAny_seqItems o5 rfl (wpAny_bind (wpAny_newTuple ?_)));have sz:g5.objs.size=s.heap.objs.size:=by rw[k5.1,k4.1,k3.1,k2.1,k1.1]
 have z5:IsZip g5 z ti to .ellipsis:=k5.extBut _ _ D.q2.symm (k4.extBut _ _ D.q4.symm (k3.extBut _ _ D.q2.symm (k2.extBut _ _ D.q3.symm z1)));have kk:∀c o,c≠z->c≠to->c≠u->c≠v->s.heap.get? c=some o->g5.get? c=some o:=λc o c1 c2 c3 c4 e=>k5.extBut _ _ c2 (k4.extBut _ _ c4 (k3.extBut _ _ c2 (k2.extBut _ _ c3 (k1.extBut _ _ c1 e))));have u5:g5.IsListIter u a (i+1):=u2.at λo e=>k5.extBut _ o D.q8.symm (k4.extBut _ o D.p1 (k3.extBut _ o D.q8.symm e));have v5:g5.IsListIter v b (i+1):=v4.at λo e=>k5.extBut _ o D.q9.symm e;have lz:z < g5.objs.size:=Heap.lt_size z5;show wpAny _ _ (Builtin.SmallTypes.ownedTupleHandOut (.ref z) (.ref g5.objs.size) >>= _) _ _ _;refine wpAny_bind ?_;unfold Builtin.SmallTypes.ownedTupleHandOut;have z6:IsZip (g5.push { cls:=.type "tuple",data:=.seq #[x,y] }) z ti to .ellipsis:=Heap.get?_push_of_some _ z5;refine wpAny_bind (wpAny_setField_rec z6 (by simp) λg7 z7 k7=>?_)
 replace z7:IsZip g7 z ti to (rawInt g5.objs.size):=z7
 refine wpAny_setField_rec z7 (by simp) λg8 z8 k8=>?_
 replace z8:IsZip g8 z ti to (rawInt g5.objs.size):=z8
 have up:∀c o,c≠z->g5.get? c=some o->g8.get? c=some o:=λc o c1 e=>k8.extBut _ _ c1 (k7.extBut _ _ c1 (Heap.get?_push_of_some _ e));have t8:IsPair g8 g5.objs.size x y:=k8.extBut _ _ (Nat.ne_of_gt lz) (k7.extBut _ _ (Nat.ne_of_gt lz) (Heap.get?_push_size _ rfl));rw[sz]at z8 t8;refine wpAny_pure ⟨_,rfl,?_⟩;show Q (.ref g5.objs.size) _;rw[sz];exact q g8 z8 (up _ _ D.q2 o5) (u5.at λo e=>up _ o D.q3 e) (v5.at λo e=>up _ o D.q4 e) t8 λc o c1 c2 c3 c4 e=>up c o c1 (kk c o c1 c2 c3 c4 e)
theorem Yj {Q:Fin->Shared->Prop}(hh:A.handled=none)(D:ZA z ti to u v a b)(hz:IsZip s.heap z ti to .none)(hi:IsPair s.heap ti (.ref u) (.ref v))(ho:IsPair s.heap to m n)
  (hu:s.heap.IsListIter u a i) (hv:s.heap.IsListIter v b i) (ha:s.heap.IsList a f) (hb:s.heap.IsList b g) (hx:f[i]?=some x) (hy:g[i]?=none)
  (q:∀h' e,(∀c o,c≠z->c≠to->c≠u->c≠v->s.heap.get? c=some o->h'.get? c=some o)->(∃o,h'.get? e=some o/\o.cls=.type "StopIteration")->E (.ref e) { s with heap:=h' }) :
  wpAny (model prog w) A (Builtin.«zip.__next__» ⟨[.ref z],[]⟩) Q E s:=by
 show wpAny _ _ (field (.ref z) 2 >>= _) _ _ _;refine wpAny_bind (wpAny_field hz rfl (x:=.bool false) rfl ?_);show wpAny _ _ (field (.ref z) 3 >>= _) _ _ _;refine wpAny_bind (wpAny_field hz rfl (x:=.ref ti) rfl (wpAny_bind (wpAny_seqItems hi rfl ?_)));show wpAny _ _ (Builtin.SmallTypes.ownedTupleIsFree (.ref z) >>= _) _ _ _;refine wpAny_bind ?_;unfold Builtin.SmallTypes.ownedTupleIsFree;refine wpAny_bind (wpAny_field hz rfl (x:=.none) rfl (wpAny_pure ?_));simp only[if_true];refine wpAny_bind (wpAny_rule (wpAny_bind (wpAny_field hz rfl (x:=.ref to) rfl (wpAny_bind (wpAny_setField_rec hz (by simp) λg1 z1 k1=>?_)))))
 replace z1:IsZip g1 z ti to .ellipsis:=z1
 refine wpAny_bind ?_;simp only[List.zipIdx_cons,List.zipIdx_nil,List.forIn_cons,List.forIn_nil];refine wpAny_bind (wpAny_bind (wpAny_onRaise ?_));show wpAny _ _ (Builtin.SmallTypes.nextOf (.ref u) >>= _) _ _ _;refine wpAny_bind (wpAny_nextOf_list_item (hu.at λo e=>k1.extBut _ o D.q3 e) (Heap.IsList.at ha λo e=>k1.extBut _ o D.p2 e) hx λg2 u2 k2=>wpAny_pure ?_);have o2:IsPair g2 to m n:=k2.extBut _ _ D.q8 (k1.extBut _ _ D.q2 ho);refine wpAny_bind (wpAny_seqItems o2 rfl (wpAny_bind (wpAny_updateSeq_pair o2 λg3 o3 k3=>?_)))
 replace o3:IsPair g3 to x n:=o3
 refine wpAny_bind (wpAny_letGo (wpAny_pure ?_));refine wpAny_bind (wpAny_bind (wpAny_onRaise ?_));show wpAny _ _ (Builtin.SmallTypes.nextOf (.ref v) >>= _) _ _ _;refine wpAny_bind (wpAny_nextOf_list_end hh (hv.at λo e=>k3.extBut _ o D.q9.symm (k2.extBut _ o D.p1.symm (k1.extBut _ o D.q4 e))) (Heap.IsList.at hb λo e=>k3.extBut _ o D.p7 (k2.extBut _ o D.p8 (k1.extBut _ o D.p6 e))) hy λg4 e k4 he=>?_);obtain⟨oe,e1,e2⟩:=he;have z2:IsZip g4 z ti to .ellipsis:=k4 _ _ D.q4.symm (k3.extBut _ _ D.q2.symm (k2.extBut _ _ D.q3.symm z1));have ez:e≠z:=λt=>by subst t;rw[z2]at e1;cases e1;simp at e2
 exact wpAny_setField_rec z2 (by simp) λg5 _ k5=>q g5 e (λc o c1 c2 c3 c4 t=>k5.extBut _ _ c1 (k4 _ _ c4 (k3.extBut _ _ c2 (k2.extBut _ _ c3 (k1.extBut _ _ c1 t))))) ⟨oe,k5.extBut _ _ ez e1,e2⟩
abbrev zl1 (h:Heap)(a:Addr):Heap:=h.push { cls:=.type "list_iterator",data:=.fields #[.ref a,.int 0 0] }
abbrev zl2 (h:Heap)(a b:Addr):Heap:=(zl1 h a).push { cls:=.type "list_iterator",data:=.fields #[.ref b,.int 0 0] }
abbrev zl3 (h:Heap)(a b:Addr):Heap:=(zl2 h a b).push { cls:=.type "tuple",data:=.seq #[.ref h.objs.size,.ref (zl1 h a).objs.size] }
abbrev zl4 (h:Heap)(a b:Addr):Heap:=(zl3 h a b).push { cls:=.type "tuple",data:=.seq #[.none,.none] }
abbrev Qe (h:Heap)(a b:Addr):Heap:=(zl4 h a b).push { cls:=.type "zip",data:=.fields #[.none,.bool false,.bool false,.ref (zl2 h a b).objs.size,.ref (zl3 h a b).objs.size] }
theorem aa1 (a b:Addr)(f g:Array Value):Meets (Builtin.«zip.__new__» ⟨[.type "zip",.ref a,.ref b],[]⟩) (λ_ R s=>s.heap.IsList a f/\s.heap.IsList b g/\R (.ok (.ret (.ref (zl4 s.heap a b).objs.size))) { s with heap:=Qe s.heap a b }):=
 .of_wp λprog w A R s h=>by
  obtain⟨hp,gs,d,tk,os⟩:=s;obtain⟨h1,h2,h⟩:=h;have hsub:=sub_zip;have j1:Heap.IsList (Shared.heap ⟨hp,gs,d,tk,os⟩) a f:=h1;have j2:Heap.IsList (Shared.heap ⟨hp.push { cls:=.type "list_iterator",data:=.fields #[.ref a,.int 0 0] },gs,d,tk,os⟩) b g:=Heap.IsList.at h2 λo e=>Heap.get?_push_of_some _ e
  wp_walk using wpAny_pyIter_list j1,wpAny_pyIter_list j2
  exact⟨_,rfl,h⟩
theorem aeW {Q:Value->Shared->Prop}(ha:s.heap.IsList a f)(hb:s.heap.IsList b g)
  (q:∀h',IsZip h' (s.heap.objs.size+4) (s.heap.objs.size+2) (s.heap.objs.size+3) .none->IsPair h' (s.heap.objs.size+2) (.ref s.heap.objs.size) (.ref (s.heap.objs.size+1))->IsPair h' (s.heap.objs.size+3) .none .none->
   h'.IsListIter s.heap.objs.size a 0->h'.IsListIter (s.heap.objs.size+1) b 0->(∀c o,s.heap.get? c=some o->h'.get? c=some o)->Q (.ref (s.heap.objs.size+4)) { s with heap:=h' }) :
  wpAny (model prog w) A (call (.type "zip") [.ref a,.ref b]) Q E s:=by
 refine callType_new F.called_zip (by decide) (F.typeCall_zip_2 _ _) (F.newCall_zip_2 _ _) (λobj=>F.args_object_init_3 obj _ _) F.entry_zip_new (aa1 a b f g) ⟨ha,hb,?_⟩;have n1:(zl1 s.heap a).objs.size=s.heap.objs.size+1:=Heap.size_push ..;have n2:(zl2 s.heap a b).objs.size=s.heap.objs.size+2:=by rw[Heap.size_push,n1]
 have n3:(zl3 s.heap a b).objs.size=s.heap.objs.size+3:=by rw[Heap.size_push,n2]
 have n4:(zl4 s.heap a b).objs.size=s.heap.objs.size+4:=by rw[Heap.size_push,n3]
 have e5:(Qe s.heap a b).get? (zl4 s.heap a b).objs.size=some _:=Heap.get?_push_size _ rfl;have e4:(Qe s.heap a b).get? (zl3 s.heap a b).objs.size=some _:=Heap.get?_push_of_some _ (Heap.get?_push_size _ rfl);have e3:(Qe s.heap a b).get? (zl2 s.heap a b).objs.size=some _:=Heap.get?_push_of_some _ (Heap.get?_push_of_some _ (Heap.get?_push_size _ rfl));have e2:(Qe s.heap a b).get? (zl1 s.heap a).objs.size=some _:=Heap.get?_push_of_some _ (Heap.get?_push_of_some _ (Heap.get?_push_of_some _ (Heap.get?_push_size _ rfl)));have e1:(Qe s.heap a b).get? s.heap.objs.size=some _:=Heap.get?_push_of_some _ (Heap.get?_push_of_some _ (Heap.get?_push_of_some _ (Heap.get?_push_of_some _ (Heap.get?_push_size _ rfl))));show _/\_;rw[n2,n3,n4]at e5;rw[n1,n2]at e3;rw[n3]at e4;rw[n1]at e2;rw[n4];exact⟨⟨_,e5,rfl⟩,q _ e5 e3 e4 ⟨_,e1,rfl,rfl⟩ ⟨_,e2,rfl,rfl⟩ λc o t=>Heap.get?_push_of_some _ (Heap.get?_push_of_some _ (Heap.get?_push_of_some _ (Heap.get?_push_of_some _ (Heap.get?_push_of_some _ t))))⟩
end
def Lf (K:PySem.W.Frag)(a b:Addr):It:=
 ⟨λi H=>∃xs ys x y,aN K H a xs/\aN K H b ys/\xs[i]?=some x/\ys[i]?=some y,λi H t H'=>∃T x y,H T=none/\t=.ref T/\(∀xs,aN K H a xs->xs[i]?=some x)/\(∀ys,aN K H b ys->ys[i]?=some y)/\H'=upd H T (.tup [x,y]),λi H=>∃xs ys,aN K H a xs/\aN K H b ys/\i < xs.length/\ys.length<=i⟩
theorem Vl {P:Program}{w:World}{K:PySem.W.Frag}{elts:List Expr}{x1:Nat}{pos:Pos}{z ti to u v a b:Addr}(D:ZA z ti to u v a b) :
  Turn P w K (.Tuple elts x1 pos) (Lf K a b) [z,ti,to,u,v] z (λi h=>IsZip h z ti to .none/\IsPair h ti (.ref u) (.ref v)/\(∃m n,IsPair h to m n)/\h.IsListIter u a i/\h.IsListIter v b i) where
 mem:=by simp
 obj:=λi h st c hc=>by
  obtain⟨h1,h2,⟨m,n,h3⟩,⟨o4,h4,_,d4⟩,⟨o5,h5,_,d5⟩⟩:=st;simp only[List.mem_cons,List.not_mem_nil,or_false]at hc;rcases hc with e | e | e | e | e <;> subst e
  ·exact⟨_,h1,λv y=>by cases y⟩
  ·exact⟨_,h2,λv y=>by cases y⟩
  ·exact⟨_,h3,λv y=>by cases y⟩
  ·exact⟨o4,h4,λv y=>by rw[d4]at y;cases y⟩
  ·exact⟨o5,h5,λv y=>by rw[d5]at y;cases y⟩
 keep:=λi h h' st k=>by
  obtain⟨h1,h2,⟨m,n,h3⟩,h4,h5⟩:=st;exact⟨k z (by simp) _ h1,k ti (by simp) _ h2,⟨m,n,k to (by simp) _ h3⟩,h4.at λo e=>k u (by simp) o e,h5.at λo e=>k v (by simp) o e⟩
 item:=by
  intro X hP hw hK hc i pins s σ H E I hf st hg;subst hP hw hK;obtain⟨h1,h2,⟨m,n,h3⟩,h4,h5⟩:=st;obtain⟨xs,ys,x,y,hxs,hys,hx,hy⟩:=hg;obtain⟨fs,rf,pf,_⟩:=I.list hxs;obtain⟨gs,rg,pg,_⟩:=I.list hys;obtain⟨p,ep,rp⟩:=rf.get hx;obtain⟨q,eq,rq⟩:=rg.get hy;have lt:∀c∈[z,ti,to,u,v],c < s.heap.objs.size:=λc hc=>by
   simp only[List.mem_cons,List.not_mem_nil,or_false]at hc;rcases hc with e | e | e | e | e <;> subst e
   ·exact Heap.lt_size h1
   ·exact Heap.lt_size h2
   ·exact Heap.lt_size h3
   ·obtain⟨o,e,_⟩:=h4;exact Heap.lt_size e
   ·obtain⟨o,e,_⟩:=h5;exact Heap.lt_size e
  have hT:s.TypeIs (.ref z) "zip":=⟨_,h1,rfl⟩
  unfold pyNext;refine wpAny_bind (wpAny_attempt (wpAny_callSpecial?_slot (name:=Str.ofString "__next__") hT F.slot_zip_next (wpAny_call_entry F.slot_zip_next hT F.entry_zip_next ?_ (F.args_zip_next_1 _))));refine Vk D h1 h2 h3 h4 h5 (show s.heap.IsList a fs.toArray from pf.isList) (show s.heap.IsList b gs.toArray from pg.isList) (x:=p) (y:=q) (by simpa using ep) (by simpa using eq) λh' k1 k2 k3 k4 k5 k6=>wpAny_pure ?_;refine⟨_,rfl,wpAny_letOwnedTupleGo_zip k1 λh2' e2 sb=>?_⟩;have up:∀c o,c∉[z,ti,to,u,v]->s.heap.get? c=some o->h2'.get? c=some o:=λc o hc e=>by
   simp only[List.mem_cons,List.not_mem_nil,or_false,not_or]at hc;exact sb.extBut _ _ hc.1 (k6 c o hc.1 hc.2.2.1 hc.2.2.2.1 hc.2.2.2.2 e)
  have nz:s.heap.objs.size≠z:=Nat.ne_of_gt (lt z (by simp));obtain⟨I3,fr⟩:=Inv.ael (tk:=s.toks) I hf lt rp rq (sb.extBut _ _ nz k5) up;exact⟨.ref s.heap.objs.size,_,I3,rfl,⟨s.heap.objs.size,x,y,I.hok.fresh (Nat.le_refl _),rfl,λzs hz=>by rw[I.Cr hz hxs];exact hx,λzs hz=>by rw[I.Cr hz hys];exact hy,rfl⟩,
   ⟨e2,sb.extBut _ _ D.q1 (k6 _ _ D.q1 D.q5 D.q6 D.q7 h2),⟨_,_,sb.extBut _ _ D.q2 k2⟩,k3.at λo e=>sb.extBut _ o D.q3 e,k4.at λo e=>sb.extBut _ o D.q4 e⟩,fr⟩
 done:=by
  intro X hP hw hK hc i pins s σ H E I hf st hg;subst hP hw hK;obtain⟨h1,h2,⟨m,n,h3⟩,h4,h5⟩:=st;obtain⟨xs,ys,hxs,hys,hx,hl⟩:=hg;obtain⟨fs,rf,pf,_⟩:=I.list hxs;obtain⟨gs,rg,pg,_⟩:=I.list hys;have hlen:=rg.length;obtain⟨p,ep,rp⟩:=rf.get (List.getElem?_eq_getElem hx);have hh:X.A.in1.handled=none:=by simp[I.ok.hd hc]
  have hT:s.TypeIs (.ref z) "zip":=⟨_,h1,rfl⟩
  unfold pyNext;refine wpAny_bind (wpAny_attempt (wpAny_callSpecial?_slot (name:=Str.ofString "__next__") hT F.slot_zip_next (wpAny_call_entry F.slot_zip_next hT F.entry_zip_next ?_ (F.args_zip_next_1 _))));refine Yj hh D h1 h2 h3 h4 h5 (show s.heap.IsList a fs.toArray from pf.isList) (show s.heap.IsList b gs.toArray from pg.isList) (x:=p) (by simpa using ep) (by simp;omega) λh' e k ⟨o,e1,e2⟩=>?_;refine wpAny_bind (wpAny_isInstance (T:="StopIteration") (b:=true) ⟨o,e1,e2⟩ isSubtype_stop ?_);refine wpAny_pure ⟨rfl,Inv.Qc (fp:=[z,ti,to,u,v]) (t':=s.toks) I (λc o hc e=>?_) hf⟩;simp only[List.mem_cons,List.not_mem_nil,or_false,not_or]at hc;exact k c o hc.1 hc.2.2.1 hc.2.2.2.1 hc.2.2.2.2 e
 self:=λA i s Q E st h=>wpAny_pyIter_zip st.1 h
section
variable {X:Cx}{elts:List Expr}{x1:Nat}{tp:Pos}
def aep (K:PySem.W.Frag)(ta:TA):TI:=λσ H R=>ta σ H λvs H1=>∃a b,vs=[.ref a,.ref b]/\(∃xs,aN K H1 a xs)/\(∃ys,aN K H1 b ys)/\R (Lf K a b) H1
theorem aa2 {a b:Expr}{ta:TA}{p pos:Pos}(hg:Gl X "zip")(hm:X.mg "zip"=none)(ha:QA X [a,b] ta)(hs:starEach [a,b] X.env=[(false,eval a X.env),(false,eval b X.env)]:=by rfl)(hs2:starEach [b] X.env=[(false,eval b X.env)]:=by rfl) :
  QI X (.Tuple elts x1 tp) (.Call (.Name "zip" p) [a,b] [] pos) (aep X.K ta):=⟨by
 intro pins s σ H R I h;refine Call_ (vK I hg hm Vb (PyProof.Rows.callWith_type1 (bG (ha.out pos pins s σ H _ I h) λus s1 ⟨vs,H1,I1,r1,q1⟩=>?_) (by rw[hs,hs2]) (by rw[hs2];rfl)));obtain⟨a,b,e,⟨xs,hxs⟩,⟨ys,hys⟩,q⟩:=q1;subst e;cases r1 with
 | cons r rr=>
  cases rr with
  | cons r' rr=>
   cases rr;cases r;cases r';obtain⟨fs,rf,pf,_⟩:=I1.list hxs;obtain⟨gs,rg,pg,_⟩:=I1.list hys;have la:a < s1.heap.objs.size:=by
    obtain⟨o,ho,_⟩:=(show s1.heap.IsList a fs.toArray from pf.isList)
    exact Heap.lt_size ho
   have lb:b < s1.heap.objs.size:=by
    obtain⟨o,ho,_⟩:=(show s1.heap.IsList b gs.toArray from pg.isList)
    exact Heap.lt_size ho
   refine aeW (show s1.heap.IsList a fs.toArray from pf.isList) (show s1.heap.IsList b gs.toArray from pg.isList) λh' k1 k2 k3 k4 k5 kk=>wpAny_pyIter_zip k1 ?_;have D:ZA (s1.heap.objs.size+4) (s1.heap.objs.size+2) (s1.heap.objs.size+3) s1.heap.objs.size (s1.heap.objs.size+1) a b:=by
    have key:∀N a b:Nat,a < N->b < N->ZA (N+4) (N+2) (N+3) N (N+1) a b:=λN a b la lb=>by constructor <;> (show (_:Nat)≠_) <;> omega
    exact key _ _ _ la lb
   refine⟨s1.heap.objs.size+4,[s1.heap.objs.size+4,s1.heap.objs.size+2,s1.heap.objs.size+3,s1.heap.objs.size,s1.heap.objs.size+1],_,_,H1,rfl,I1.kept (t':=s1.toks) kk,Vl D,⟨k1,k2,⟨_,_,k3⟩,k4,k5⟩,λc hc=>?_,q⟩;have hc':s1.heap.objs.size<=c:=by
    simp only[List.mem_cons,List.not_mem_nil,or_false]at hc;have key:∀N c:Nat,(c=N+4\/c=N+2\/c=N+3\/c=N\/c=N+1)->N<=c:=λN c h=>by omega
    exact key _ _ hc
   exact I1.Gv hc' (I1.hok.fresh hc')⟩
end
theorem adk {K:PySem.W.Frag}{a b:Addr}{xs ys:List V}{D:Addr}{f:St->St}{KT:PySem.W.Frag}{tt:TT}{te:TE}{σ:St}{H:Hp}{R:Hp->Prop}(hlen:xs.length=ys.length+1)(Pv:Nat->List V->Hp->Prop)(h0:Pv 0 [] (upd H D (.lst [])))
  (hl:∀i zs H,i<=ys.length->Pv i zs H->aN K H a xs/\aN K H b ys)
  (hs:∀i x y zs H T,xs[i]?=some x->ys[i]?=some y->Pv i zs H->H T=none->qT ys.length i D (λv H Q=>∃a p q,v=.ref a/\aK KT H a [p,q]/\Q [some p,some q]) f σ tt te (.ref T) (upd H T (.tup [x,y])) zs (Pv (i+1)))
  (hd:∀zs H,Pv ys.length zs H->R H) :
  ∃W:Nat->Nat->List V->Hp->Prop,(∃m,W 0 m [] (upd H D (.lst [])))/\
   ∀i m zs H,W i m zs H->((Lf K a b).stop i H/\R H)\/((Lf K a b).go i H/\∀x H',(Lf K a b).nZ i H x H'->∃a p q,x=.ref a/\aK KT H' a [p,q]/\(tt ([some p,some q]++f σ) H' λb H2=>
    if b=true then te ([some p,some q]++f σ) H2 λy H3=>H3 D=some (.lst zs)/\zs.length < sizeLine/\∃m',m' < m/\W (i+1) m' (zs++[y]) (upd H3 D (.lst (zs++[y])))
    else ∃m',m' < m/\W (i+1) m' zs H2)):=by
 refine⟨λi m zs H=>m=ys.length-i/\i<=ys.length/\Pv i zs H,⟨ys.length,by simp,Nat.zero_le _,h0⟩,?_⟩;rintro i m zs H ⟨rfl,hi,p⟩;obtain⟨q1,q2⟩:=hl i zs H hi p;by_cases hlt:i < ys.length
 ·refine .inr ⟨⟨xs,ys,xs[i],ys[i],q1,q2,by simp[show i < xs.length by omega],by simp[hlt]⟩,λt H' y=>?_⟩
  obtain⟨T,x,y,hT,rfl,hx,hy,rfl⟩:=y;exact hs i x y zs H T (hx xs q1) (hy ys q2) p hT
 ·have e:i=ys.length:=by omega
  subst e;exact .inl ⟨⟨xs,ys,q1,q2,by omega,Nat.le_refl _⟩,hd zs H p⟩
section
variable {prog:Program}{w:World}{A:Around}{E:Value->Shared->Prop}{s:Shared}
theorem aa3 {a b:Addr}{oa ob:Obj}{na nb:Nat}{x1 y1:Nat}{t1 t2 t3 t4:Tok}{Q:Value->Shared->Prop}
  (ha:s.heap.get? a=some oa) (ca:oa.cls=.type "tuple") (da:oa.data=.seq [Value.int x1 t1,Value.int y1 t2].toArray na)
  (hb:s.heap.get? b=some ob) (cb:ob.cls=.type "tuple") (db:ob.data=.seq [Value.int x1 t3,Value.int y1 t4].toArray nb) (hu:A.units < cLine)
  (q:Q (.bool false) s):wpAny (model prog w) A (compareOp .Lt (.ref a) (.ref b)) Q E s:=by
 have Ta:s.TypeIs (.ref a) "tuple":=⟨oa,ha,ca⟩
 have Tb:s.TypeIs (.ref b) "tuple":=⟨ob,hb,cb⟩
 show wpAny _ _ (richCompare .Lt (.ref a) (.ref b)) Q E s;refine wpAny_richCompare_same_room (op:=.Lt) (T:="tuple") Ta Tb F.slot_tuple_lt (wpAny_call_entry F.slot_tuple_lt Ta F.entry_tuple_lt ?_ (F.args_tuple_lt_2 _ _)) hu;show wpAny _ _ (isInstance (.ref b) (.type "tuple") >>= _) _ _ s;refine wpAny_bind (wpAny_isInstance Tb isSubtype_tuple_tuple ?_);simp only[Bool.not_true,Bool.false_eq_true,if_false];refine wpAny_bind (wpAny_tupleItemsOf ha da (wpAny_bind (wpAny_tupleItemsOf hb db (wpAny_bind ?_))));rw[show [Value.int (x1:Int) t1,Value.int (y1:Int) t2].toArray.toList.zip [Value.int (x1:Int) t3,Value.int (y1:Int) t4].toArray.toList=[(Value.int (x1:Int) t1,Value.int (x1:Int) t3),(Value.int (y1:Int) t2,Value.int (y1:Int) t4)] from rfl];rw[List.forIn_cons];refine wpAny_bind ?_;dsimp only;refine wpAny_bind (SeqAt.EqAt.int_int _ _ _ _ prog w _ _ ?_);simp only[beq_self_eq_true,Bool.not_true,Bool.false_eq_true,if_false];refine wpAny_pure ?_;dsimp only;rw[List.forIn_cons];refine wpAny_bind ?_;dsimp only;refine wpAny_bind (SeqAt.EqAt.int_int _ _ _ _ prog w _ _ ?_);simp only[beq_self_eq_true,Bool.not_true,Bool.false_eq_true,if_false];refine wpAny_pure ?_;dsimp only;rw[List.forIn_nil];refine wpAny_pure ?_;dsimp only;exact wpAny_pure ⟨_,rfl,by show Builtin.Tuple.tupleCompareSizes CmpOp.Lt 2 2≠_;decide,q⟩
end
section
variable {X:Cx}
def aeX:R2:=λx y H Q=>∃(a b:Addr) (x1 y1 x2 y2:Nat),x=.ref a/\y=.ref b/\H a=some (.tup [.int x1,.int y1])/\H b=some (.tup [.int x2,.int y2])/\y1 < 1000/\y2 < 1000/\
 Q (.bl (decide (x1*1000+y1 < x2*1000+y2))) H
theorem adl (hu:X.A.units < cLine):dX X (compareOp .Lt) aeX:=by
 intro pins s σ H x y v u Q I rx ry h;obtain⟨a,b,x1,y1,x2,y2,rfl,rfl,ea,eb,l1,l2,q⟩:=h;by_cases hne:x1*1000+y1=x2*1000+y2
 ·have e1:x1=x2:=by omega
  have e2:y1=y2:=by omega
  subst e1 e2;rw[decide_eq_false (Nat.lt_irrefl _)]at q;cases rx;cases ry;obtain⟨_,tv,Va,o,ho,hc,n,hd⟩:=I.hok _ _ ea;obtain⟨_,tv',Yb,o',ho',hc',n',hd'⟩:=I.hok _ _ eb;cases Va with
  | cons q1 rr=>
   cases rr with
   | cons q2 rr=>
    cases rr;cases Yb with
    | cons q3 rr'=>
     cases rr' with
     | cons q4 rr'=>
      cases rr';obtain⟨t1,rfl⟩:=q1;obtain⟨t2,rfl⟩:=q2;obtain⟨t3,rfl⟩:=q3;obtain⟨t4,rfl⟩:=q4;exact aa3 ho hc hd ho' hc' hd' hu ⟨.bl _,H,I,rfl,q⟩
 ·exact ac_ hu pins s σ H _ _ _ _ Q I rx ry ⟨a,b,x1,y1,x2,y2,[],[],rfl,rfl,ea,eb,l1,l2,hne,q⟩
end
def aa4 (K:PySem.W.Frag):List V->Hp->VK->Prop:=λxs H Q=>∃(a C tp:Addr) (Ds:List Addr) (dd:Option Addr) (b:Bool),xs=[.ref a,.ref tp]/\H a=some (.ext (sU a (.ref C) dd))/\jP H dd/\pI K C/\H tp=some (.tup (Ds.map V.ref))/\kitAny K (.ref C) (Ds.map Value.ref)=some b/\Q (.bl b) H
theorem Fe:∀{Ds:List Addr} {us:List Value},Vals (Ds.map V.ref) us->us=Ds.map Value.ref
 | [],_,.nil=>rfl
 | _::_,_,.cons r rr=>by cases r;rw[Fe rr];rfl
section
variable {X:Cx}
theorem JN (hc:True:=True.intro):gC X (.builtin "isinstance") (aa4 X.K):=by
 intro pins s σ H xs us Q I r h;obtain⟨a,C,tp,Ds,dd,b,rfl,ha,hd,T,ht,k,q⟩:=h;obtain⟨u1,w',rfl,r1,r2⟩:=vals2 r;obtain rfl:u1=Value.ref a:=r1;obtain rfl:w'=Value.ref tp:=r2;obtain⟨⟨oe,vs,e1,e2,e3,e4,_⟩,_,_⟩:=(show dj X.prog X.w H s.heap a (.ext (sU a (.ref C) dd)) from I.hok a _ ha)
 have hI:∃ox odo,InstAt s.heap a ox C odo:=by
  cases dd with
  | none=>exact⟨oe,none,e1,e2,by unfold notCls;rw[e4],by rw[e3];trivial⟩
  | some d=>
   obtain⟨o1,hfs⟩:=hd;obtain⟨o,ho⟩:=(I.hok d _ hfs).there;exact⟨oe,some o,e1,e2,by unfold notCls;rw[e4],by rw[e3];exact ho⟩
 obtain⟨_,tv,Va,⟨oc,od,odt,osl⟩,ho,hc,n,hdt⟩:=I.hok _ _ ht;obtain rfl:=Fe Va;cases hc;cases hdt;exact kia_tup (La T) I.fJ hI ho k (λz=>nomatch z) λtk=>⟨.bl b,H,I.tok tk,rfl,q⟩
open Classical in
def aac (K:PySem.W.Frag)(neg:Bool):R2:=λx y H Q=>∃n d es,n<=60/\jz K H n d x/\jz K H n (.lst es) y/\Q (.bl (if neg then !decide (d∈es) else decide (d∈es))) H
theorem Qf (hu:X.A.units+64 < cLine):dX X (compareOp .In) (aac X.K false):=by
 intro pins s σ H x y v u Q I rx ry h;obtain⟨n,d,es,hn,hd,he,q⟩:=h;obtain⟨as,ra⟩:=hd.reads I rx;obtain⟨bs,rb⟩:=he.reads I ry;have l1:=hd.lay;have l2:=he.lay;rw[toP]at rb;simp only[toP,PyData.canLay0,PyData.depth]at l2;refine SeqAt.in_list_reads rb ra l2.1 l1.1 (by have:=Nat.min_le_right (PyData.depthAll (ji es)) (toP d).depth;omega) ⟨.bl _,H,I,rfl,?_⟩;rw[GK];exact q
theorem RM (hu:X.A.units+64 < cLine):dX X (compareOp .NotIn) (aac X.K true):=by
 intro pins s σ H x y v u Q I rx ry h;obtain⟨n,d,es,hn,hd,he,q⟩:=h;obtain⟨as,ra⟩:=hd.reads I rx;obtain⟨bs,rb⟩:=he.reads I ry;have l1:=hd.lay;have l2:=he.lay;rw[toP]at rb;simp only[toP,PyData.canLay0,PyData.depth]at l2;refine SeqAt.notIn_list_reads rb ra l2.1 l1.1 (by have:=Nat.min_le_right (PyData.depthAll (ji es)) (toP d).depth;omega) ⟨.bl _,H,I,rfl,?_⟩;rw[GK];exact q
end
end L2
end
section
namespace L2
open PySem PySem.Spec PyProof.Rows PySem.W
section
variable {X:Cx}
theorem Ji (hc:X.calm=true):gC X (.builtin "min") (λxs H Q=>∃(p:Addr) (ns:List Int),xs=[.ref p]/\aN X.K H p (ns.map V.int)/\0 < ns.length/\∀m∈ns,(∀x∈ns,m<=x)->Q (.int m) H):=by
 intro pins s σ H xs us Q I r h;obtain⟨p,ns,rfl,hq,h0,q⟩:=h;obtain⟨u,rfl,ru⟩:=vals1 r;cases ru;obtain⟨its,rv,pl,hz⟩:=I.list hq;have hlen:=rv.length;rw[List.length_map]at hlen;have hne:p≠s.heap.objs.size:=by
  obtain⟨o,ho,_⟩:=pl.isList;exact Nat.ne_of_lt (Heap.lt_size ho)
 have hb:∀(i:Nat) (v:Value),its.toArray[i]?=some v->∃t,v=.int (ns.getD i 0) t:=λi v hv=>by
  have hv:its[i]?=some v:=by simpa using hv
  have hi:i < ns.length:=by have:=(List.getElem?_eq_some_iff.mp hv).1;omega
  obtain⟨u,hu,ru⟩:=rv.get (i:=i) (x:=.int ns[i]) (by simp[hi]);rw[hv]at hu;cases hu;obtain⟨t,e⟩:=ru;exact⟨t,by rw[e];simp[List.getD,hi]⟩
 refine call_min_walk (wpAny_pyIter_list pl.isList ?_);refine⟨s.heap.objs.size,_,_,_,_,_,_,rfl,Walks.list (A:=X.A.in1) (I.ok.hd hc) s.heap.objs.size p hne its.toArray,⟨⟨_,Heap.get?_push_size _ rfl,rfl,rfl⟩,pl.isList.at λo e=>Heap.get?_push_of_some _ e⟩,?_,by simp;omega,CmpOf.ints_lt (λi=>ns.getD i 0) hb,λv h' tk hP kk=>?_⟩
 ·intro b hb
  have:b=s.heap.objs.size\/b=p:=by simpa using hb
  rw[Heap.size_push];rcases this with e | e
  ·rw[e];exact Nat.lt_succ_self _
  ·rw[e]
   obtain⟨o,ho,_⟩:=pl.isList;exact Nat.lt_succ_of_lt (Heap.lt_size ho)
 ·have I1:Inv X pins σ H { s with heap:=h',toks:=tk }:=I.kept λb o e=>kk b o (by
   intro hm;have:b=s.heap.objs.size:=by simpa using hm
   subst this;exact absurd (Heap.lt_size e) (Nat.lt_irrefl _)) (Heap.get?_push_of_some _ e)
  obtain⟨k1,k2⟩:=argBest_lt (λi=>ns.getD i 0) (its.toArray.size-1);have hsz:its.toArray.size=ns.length:=by simp[hlen]
  obtain⟨t,e⟩:=hb _ v hP;generalize argBest _ _=j at k1 k2 e;have hj:j < ns.length:=by omega
  refine⟨.int (ns.getD j 0),H,I1,⟨t,e⟩,q _ (by simp[List.getD,hj]) λx hx=>?_⟩;obtain⟨i,hi,rfl⟩:=List.mem_iff_getElem.mp hx;have:=k2 i (by omega);simpa [List.getD,hi] using this
theorem Jj (hc:X.calm=true):gC X (.builtin "max") (λxs H Q=>∃(p:Addr) (ns:List Int),xs=[.ref p]/\aN X.K H p (ns.map V.int)/\0 < ns.length/\∀m∈ns,(∀x∈ns,m>=x)->Q (.int m) H):=by
 intro pins s σ H xs us Q I r h;obtain⟨p,ns,rfl,hq,h0,q⟩:=h;obtain⟨u,rfl,ru⟩:=vals1 r;cases ru;obtain⟨its,rv,pl,hz⟩:=I.list hq;have hlen:=rv.length;rw[List.length_map]at hlen;have hne:p≠s.heap.objs.size:=by
  obtain⟨o,ho,_⟩:=pl.isList;exact Nat.ne_of_lt (Heap.lt_size ho)
 have hb:∀(i:Nat) (v:Value),its.toArray[i]?=some v->∃t,v=.int (ns.getD i 0) t:=λi v hv=>by
  have hv:its[i]?=some v:=by simpa using hv
  have hi:i < ns.length:=by have:=(List.getElem?_eq_some_iff.mp hv).1;omega
  obtain⟨u,hu,ru⟩:=rv.get (i:=i) (x:=.int ns[i]) (by simp[hi]);rw[hv]at hu;cases hu;obtain⟨t,e⟩:=ru;exact⟨t,by rw[e];simp[List.getD,hi]⟩
 refine call_max_walk (wpAny_pyIter_list pl.isList ?_);refine⟨s.heap.objs.size,_,_,_,_,_,_,rfl,Walks.list (A:=X.A.in1) (I.ok.hd hc) s.heap.objs.size p hne its.toArray,⟨⟨_,Heap.get?_push_size _ rfl,rfl,rfl⟩,pl.isList.at λo e=>Heap.get?_push_of_some _ e⟩,?_,by simp;omega,CmpOf.ints_gt (λi=>ns.getD i 0) hb,λv h' tk hP kk=>?_⟩
 ·intro b hb
  have:b=s.heap.objs.size\/b=p:=by simpa using hb
  rw[Heap.size_push];rcases this with e | e
  ·rw[e];exact Nat.lt_succ_self _
  ·rw[e]
   obtain⟨o,ho,_⟩:=pl.isList;exact Nat.lt_succ_of_lt (Heap.lt_size ho)
 ·have I1:Inv X pins σ H { s with heap:=h',toks:=tk }:=I.kept λb o e=>kk b o (by
   intro hm;have:b=s.heap.objs.size:=by simpa using hm
   subst this;exact absurd (Heap.lt_size e) (Nat.lt_irrefl _)) (Heap.get?_push_of_some _ e)
  obtain⟨k1,k2⟩:=argBest_gt (λi=>ns.getD i 0) (its.toArray.size-1);have hsz:its.toArray.size=ns.length:=by simp[hlen]
  obtain⟨t,e⟩:=hb _ v hP;generalize argBest _ _=j at k1 k2 e;have hj:j < ns.length:=by omega
  refine⟨.int (ns.getD j 0),H,I1,⟨t,e⟩,q _ (by simp[List.getD,hj]) λx hx=>?_⟩;obtain⟨i,hi,rfl⟩:=List.mem_iff_getElem.mp hx;have:=k2 i (by omega);simpa [List.getD,hi] using this
end
theorem Qg {X:Cx}{o:Expr}{to:TE}{name:Str}{apos cpos:Pos}{T id:String}{r:V->List V->Hp->VK->Prop}(K:PySem.W.Frag)(pa:PlainAttrs T)(slot:Slot T name id)(hty:typeOf (.builtin id)=pure (.type "method_descriptor"))(hm:vM X id r)(ho:QE X o to)(hbase:attributeBase o name X.env (eval o X.env)=eval o X.env:=by rfl)(hline:(apos.endLine==cpos.line)=true:=by rfl)(h:X.K=K:=by rfl):QE X (.Call (.Attribute o name apos) [] [] cpos) (Rq K T r to):=by subst h;exact j9 pa slot hty hm ho hbase hline
end L2
end
section
namespace L2
open PySem PySem.Spec PyProof.Rows PySem.W
end L2
end
section
namespace My
open PySem L2
def top (i:Nat):Stmt:=PySem.Challenge.pw_letterrack_k24_words_not_in_the_book.main.body.getD i (.Pass ⟨0,0,0,0⟩)
abbrev gP:Stmt:=inClass (top 5) 0
theorem GR:aO ["self","word"] ["self","word"] (aB gP):=⟨rfl,rfl,rfl,by decide +kernel,rfl,by decide +kernel,by decide +kernel⟩
abbrev iH:Stmt:=inClass (top 8) 0
theorem JQ:aO ["self","row","column"] ["self","row","column"] (aB iH):=⟨rfl,rfl,rfl,by decide +kernel,rfl,by decide +kernel,by decide +kernel⟩
abbrev jH:Stmt:=inClass (top 10) 0
theorem Oq:aO ["self","row","column"] ["self","row","column"] (aB jH):=⟨rfl,rfl,rfl,by decide +kernel,rfl,by decide +kernel,by decide +kernel⟩
abbrev fZ:Stmt:=inClass (top 12) 0
theorem Fg:aO ["self","tile"] ["self","tile"] (aB fZ):=⟨rfl,rfl,rfl,by decide +kernel,rfl,by decide +kernel,by decide +kernel⟩
abbrev nq:Stmt:=top 19
theorem BZ:aO ["thing"] ["thing"] (aB nq):=⟨rfl,rfl,rfl,by decide +kernel,rfl,by decide +kernel,by decide +kernel⟩
abbrev uc:Stmt:=top 20
theorem RN:aO ["thing"] ["thing"] (aB uc):=⟨rfl,rfl,rfl,by decide +kernel,rfl,by decide +kernel,by decide +kernel⟩
abbrev pJ:Stmt:=top 21
theorem Lg:aO ["sign"] ["sign"] (aB pJ):=⟨rfl,rfl,rfl,by decide +kernel,rfl,by decide +kernel,by decide +kernel⟩
abbrev ud:Stmt:=top 22
theorem RP:aO ["sign"] ["sign"] (aB ud):=⟨rfl,rfl,rfl,by decide +kernel,rfl,by decide +kernel,by decide +kernel⟩
abbrev uf:Stmt:=top 23
theorem qY:aO ["rack","signs","tiles","sign","tile"] ["rack","signs"] (aB uf):=⟨rfl,rfl,rfl,by decide +kernel,rfl,by decide +kernel,by decide +kernel⟩
abbrev qZ:Stmt:=top 28
theorem pK:aO ["thing","width"] ["thing"] (aB qZ):=⟨rfl,rfl,rfl,by decide +kernel,rfl,by decide +kernel,by decide +kernel⟩
abbrev q_:Stmt:=top 29
theorem B_:aO ["thing"] ["thing"] (aB q_):=⟨rfl,rfl,rfl,by decide +kernel,rfl,by decide +kernel,by decide +kernel⟩
abbrev pL:Stmt:=top 30
theorem zA:aO ["thing"] ["thing"] (aB pL):=⟨rfl,rfl,rfl,by decide +kernel,rfl,by decide +kernel,by decide +kernel⟩
abbrev kh:Stmt:=top 31
theorem yP:aO ["rows","row","column"] ["rows","row","column"] (aB kh):=⟨rfl,rfl,rfl,by decide +kernel,rfl,by decide +kernel,by decide +kernel⟩
abbrev lY:Stmt:=top 32
theorem GX:aO ["rows","thing"] ["rows","thing"] (aB lY):=⟨rfl,rfl,rfl,by decide +kernel,rfl,by decide +kernel,by decide +kernel⟩
abbrev rm:Stmt:=top 33
theorem Ot:aO ["rows","marks","begin"] ["rows","marks","begin"] (aB rm):=⟨rfl,rfl,rfl,by decide +kernel,rfl,by decide +kernel,by decide +kernel⟩
abbrev lZ:Stmt:=top 34
theorem vR:aO ["rows","column"] ["rows","column"] (aB lZ):=⟨rfl,rfl,rfl,by decide +kernel,rfl,by decide +kernel,by decide +kernel⟩
abbrev iI:Stmt:=inClass (top 35) 0
theorem JR:aO ["self","rows","marks","begin"] ["self","rows","marks","begin"] (aB iI):=⟨rfl,rfl,rfl,by decide +kernel,rfl,by decide +kernel,by decide +kernel⟩
abbrev jJ:Stmt:=inClass (top 35) 1
theorem Ou:aO ["self","row","column"] ["self","row","column"] (aB jJ):=⟨rfl,rfl,rfl,by decide +kernel,rfl,by decide +kernel,by decide +kernel⟩
abbrev fM:Stmt:=inClass (top 35) 2
theorem sV:aO ["self"] ["self"] (aB fM):=⟨rfl,rfl,rfl,by decide +kernel,rfl,by decide +kernel,by decide +kernel⟩
abbrev jk:Stmt:=inClass (top 35) 3
theorem jB:aO ["self","row","column","way","line","place","ahead","signs","first"] ["self","row","column","way"] (aB jk):=⟨rfl,rfl,rfl,by decide +kernel,rfl,by decide +kernel,by decide +kernel⟩
abbrev iJ:Stmt:=inClass (top 35) 5
theorem iV:aO ["self","laying","lines","row","column","sign"] ["self","laying"] (aB iJ):=⟨rfl,rfl,rfl,by decide +kernel,rfl,by decide +kernel,by decide +kernel⟩
abbrev pN:Stmt:=top 38
theorem Lh:aO ["board","thing"] ["board","thing"] (aB pN):=⟨rfl,rfl,rfl,by decide +kernel,rfl,by decide +kernel,by decide +kernel⟩
abbrev pO:Stmt:=top 39
theorem sW:aO ["board","thing","cells"] ["board","thing"] (aB pO):=⟨rfl,rfl,rfl,by decide +kernel,rfl,by decide +kernel,by decide +kernel⟩
abbrev rz:Stmt:=top 40
theorem Ov:aO ["laying"] ["laying"] (aB rz):=⟨rfl,rfl,rfl,by decide +kernel,rfl,by decide +kernel,by decide +kernel⟩
abbrev lU:Stmt:=top 41
theorem zB:aO ["laying"] ["laying"] (aB lU):=⟨rfl,rfl,rfl,by decide +kernel,rfl,by decide +kernel,by decide +kernel⟩
abbrev ug:Stmt:=top 42
theorem RQ:aO ["laying"] ["laying"] (aB ug):=⟨rfl,rfl,rfl,by decide +kernel,rfl,by decide +kernel,by decide +kernel⟩
abbrev i_:Stmt:=top 43
theorem jW:aO ["board","row","column","around"] ["board","row","column"] (aB i_):=⟨rfl,rfl,rfl,by decide +kernel,rfl,by decide +kernel,by decide +kernel⟩
abbrev wV:Stmt:=top 44
theorem jc:aO ["board","laying","after","way","asked","row","column","words","along","run"] ["board","laying"] (aB wV):=⟨rfl,rfl,rfl,by decide +kernel,rfl,by decide +kernel,by decide +kernel⟩
abbrev nC:Stmt:=top 45
theorem mj:aO ["board","laying","row","column","sign"] ["board","laying"] (aB nC):=⟨rfl,rfl,rfl,by decide +kernel,rfl,by decide +kernel,by decide +kernel⟩
abbrev jK:Stmt:=top 46
theorem BJ:aO ["laying"] ["laying"] (aB jK):=⟨rfl,rfl,rfl,by decide +kernel,rfl,by decide +kernel,by decide +kernel⟩
abbrev nD:Stmt:=top 47
theorem mq:aO ["board","laying","after","row","column"] ["board","laying"] (aB nD):=⟨rfl,rfl,rfl,by decide +kernel,rfl,by decide +kernel,by decide +kernel⟩
abbrev lC:Stmt:=top 48
theorem nF:aO ["board","laying","joined"] ["board","laying"] (aB lC):=⟨rfl,rfl,rfl,by decide +kernel,rfl,by decide +kernel,by decide +kernel⟩
abbrev mz:Stmt:=top 49
theorem f9:aO ["board","book","laying","words","row","column","way","signs","word"] ["board","book","laying"] (aB mz):=⟨rfl,rfl,rfl,by decide +kernel,rfl,by decide +kernel,by decide +kernel⟩
abbrev lD:Stmt:=top 50
theorem Fi:aO ["board","book","rack","laying"] ["board","book","rack","laying"] (aB lD):=⟨rfl,rfl,rfl,by decide +kernel,rfl,by decide +kernel,by decide +kernel⟩
abbrev uh:Stmt:=top 52
theorem Fj:aO ["text"] ["text"] (aB uh):=⟨rfl,rfl,rfl,by decide +kernel,rfl,by decide +kernel,by decide +kernel⟩
abbrev nG:Stmt:=top 53
theorem JT:aO ["text"] ["text"] (aB nG):=⟨rfl,rfl,rfl,by decide +kernel,rfl,by decide +kernel,by decide +kernel⟩
abbrev jl:Stmt:=inClass (top 54) 0
theorem zE:aO ["self","words","word"] ["self","words"] (aB jl):=⟨rfl,rfl,rfl,by decide +kernel,rfl,by decide +kernel,by decide +kernel⟩
abbrev iK:Stmt:=inClass (top 54) 1
theorem JV:aO ["self"] ["self"] (aB iK):=⟨rfl,rfl,rfl,by decide +kernel,rfl,by decide +kernel,by decide +kernel⟩
abbrev jL:Stmt:=inClass (top 54) 2
theorem Ow:aO ["self","text"] ["self","text"] (aB jL):=⟨rfl,rfl,rfl,by decide +kernel,rfl,by decide +kernel,by decide +kernel⟩
abbrev gQ:Stmt:=inClass (top 54) 3
theorem GZ:aO ["self","word"] ["self","word"] (aB gQ):=⟨rfl,rfl,rfl,by decide +kernel,rfl,by decide +kernel,by decide +kernel⟩
abbrev um:Stmt:=top 56
theorem RT:aO ["_law_script","_law_k"] ["_law_script","_law_k"] (aB um):=⟨rfl,rfl,rfl,by decide +kernel,rfl,by decide +kernel,by decide +kernel⟩
abbrev Fl:Stmt:=top 57
theorem G3:aO ["_law_cell","_law_j","_law_number"] ["_law_cell","_law_j"] (aB Fl):=⟨rfl,rfl,rfl,by decide +kernel,rfl,by decide +kernel,by decide +kernel⟩
abbrev uo:Stmt:=top 58
theorem rB:aO ["_law_cell","_law_every","_law_step"] ["_law_cell"] (aB uo):=⟨rfl,rfl,rfl,by decide +kernel,rfl,by decide +kernel,by decide +kernel⟩
abbrev Fo:Stmt:=top 59
theorem Qh:aO ["_law_cell","_law_letters_here","_law_letter"] ["_law_cell","_law_letters_here"] (aB Fo):=⟨rfl,rfl,rfl,by decide +kernel,rfl,by decide +kernel,by decide +kernel⟩
abbrev Fp:Stmt:=top 60
theorem dD:aO ["_law_script","_law_letters_here","_law_cell","_law_tall","_law_wide","_law_lies","_law_full","_law_rest","_law_rows_here","_law_row","_law_text","_law_column","_law_number","_law_free","_law_line","_law_spot"] ["_law_script","_law_letters_here"] (aB Fp):=⟨rfl,rfl,rfl,by decide +kernel,rfl,by decide +kernel,by decide +kernel⟩
abbrev Bh:Stmt:=top 61
theorem mH:aO ["_law_rows_here","_law_cell","_law_found","_law_row","_law_text","_law_column","_law_number"] ["_law_rows_here","_law_cell"] (aB Bh):=⟨rfl,rfl,rfl,by decide +kernel,rfl,by decide +kernel,by decide +kernel⟩
abbrev Fq:Stmt:=top 62
theorem vU:aO ["_law_rows_here","_law_laying","_law_grid_here","_law_row","_law_column","_law_sign_here"] ["_law_rows_here","_law_laying"] (aB Fq):=⟨rfl,rfl,rfl,by decide +kernel,rfl,by decide +kernel,by decide +kernel⟩
abbrev Kf:Stmt:=top 63
theorem sX:aO ["_law_grid_here","_law_row","_law_column","_law_way","_law_signs","_law_here"] ["_law_grid_here","_law_row","_law_column","_law_way"] (aB Kf):=⟨rfl,rfl,rfl,by decide +kernel,rfl,by decide +kernel,by decide +kernel⟩
abbrev Bj:Stmt:=top 64
theorem mJ:aO ["_law_rows_here","_law_laying","_law_grid_here","_law_line","_law_runs","_law_row","_law_column","_law_sign_here"] ["_law_rows_here","_law_laying"] (aB Bj):=⟨rfl,rfl,rfl,by decide +kernel,rfl,by decide +kernel,by decide +kernel⟩
abbrev qj:Stmt:=top 65
theorem rC:aO ["_law_rows_here","_law_row","_law_column","_law_there"] ["_law_rows_here","_law_row","_law_column"] (aB qj):=⟨rfl,rfl,rfl,by decide +kernel,rfl,by decide +kernel,by decide +kernel⟩
abbrev wW:Stmt:=top 66
theorem ql:aO ["_law_rows_here","_law_cell","_law_free","_law_near","_law_row","_law_column"] ["_law_rows_here","_law_cell"] (aB wW):=⟨rfl,rfl,rfl,by decide +kernel,rfl,by decide +kernel,by decide +kernel⟩
abbrev rD:Stmt:=top 67
theorem cV:aO ["_law_rows_here","_law_cell","_law_letters_here","_law_many","_law_way","_law_row","_law_column","_law_found","_law_blanks","_law_rest","_law_number","_law_sign_here"] ["_law_rows_here","_law_cell","_law_letters_here","_law_many"] (aB rD):=⟨rfl,rfl,rfl,by decide +kernel,rfl,by decide +kernel,by decide +kernel⟩
abbrev wX:Stmt:=top 68
theorem Vm:aO ["_law_rows_here","_law_begin","_law_cells"] ["_law_rows_here","_law_begin","_law_cells"] (aB wX):=⟨rfl,rfl,rfl,by decide +kernel,rfl,by decide +kernel,by decide +kernel⟩
abbrev pP:Stmt:=top 69
theorem jC:aO ["_law_rows_here","_law_begin","_law_laying","_law_cells","_law_row","_law_column"] ["_law_rows_here","_law_begin","_law_laying"] (aB pP):=⟨rfl,rfl,rfl,by decide +kernel,rfl,by decide +kernel,by decide +kernel⟩
abbrev uq:Stmt:=top 71
theorem lE:aO ["_law_rows_here","_law_laying","_law_words_here","_law_formed_words","_law_row","_law_column","_law_way","_law_signs"] ["_law_rows_here","_law_laying","_law_words_here"] (aB uq):=⟨rfl,rfl,rfl,by decide +kernel,rfl,by decide +kernel,by decide +kernel⟩
abbrev Bk:Stmt:=top 72
theorem wY:aO ["_law_error","_law_some"] ["_law_error"] (aB Bk):=⟨rfl,rfl,rfl,by decide +kernel,rfl,by decide +kernel,by decide +kernel⟩
abbrev wZ:Stmt:=top 73
theorem qm:aO ["_law_board","_law_book","_law_rack","_law_laying","_law_caught_here","e"] ["_law_board","_law_book","_law_rack","_law_laying"] (aB wZ):=⟨rfl,rfl,rfl,by decide +kernel,rfl,by decide +kernel,by decide +kernel⟩
abbrev Bl:Stmt:=top 74
theorem CQ:aO ["_law_laying","_law_signs"] ["_law_laying"] (aB Bl):=⟨rfl,rfl,rfl,by decide +kernel,rfl,by decide +kernel,by decide +kernel⟩
abbrev Bm:Stmt:=top 75
theorem mK:aO ["_law_rows_here","_law_laying","_law_cell","_law_letters_here","_law_words_here","_law_row","_law_column","_law_way","_law_signs","_law_k"] ["_law_rows_here","_law_laying","_law_cell","_law_letters_here"] (aB Bm):=⟨rfl,rfl,rfl,by decide +kernel,rfl,by decide +kernel,by decide +kernel⟩
abbrev Ft:Stmt:=top 76
theorem oV:aO ["_law_board","_law_words_here","_law_laying","_law_rows_here","_law_book","_law_kept","_law_due","_law_caught_here","_law_more"] ["_law_board","_law_words_here","_law_laying","_law_rows_here"] (aB Ft):=⟨rfl,rfl,rfl,by decide +kernel,rfl,by decide +kernel,by decide +kernel⟩
abbrev Kg:Stmt:=top 77
theorem qp:aO ["_law_script","_law_letters_here","_law_rows_here","_law_board","_law_cell","_law_laying","_law_blanks","_law_words_here"] ["_law_script"] (aB Kg):=⟨rfl,rfl,rfl,by decide +kernel,rfl,by decide +kernel,by decide +kernel⟩
section
variable {P:Program}{w:World}{K:PySem.W.Frag}{mg:Str->Option Value}{base:Heap}
def Ca (c:Nat):Bool:=decide (97<=c)&&decide (c<=122)
def Fv (c:Nat):Bool:=decide (65<=c)&&decide (c<=90)
def Cd (l:List Nat):Bool:=match l with | [c]=>Ca c||Fv c | _=>false
theorem lt1 (a b:Nat):([a] < [b])↔a < b:=by simp[List.cons_lt_cons_iff]
theorem RW (a b:Nat):(!decide ([a] < [b]))=decide (b<=a):=by
 by_cases h:a < b
 ·rw[decide_eq_true ((lt1 a b).mpr h),decide_eq_false (by omega)];rfl
 ·rw[decide_eq_false (λz=>h ((lt1 a b).mp z)),decide_eq_true (by omega)];rfl
def aad (K:PySem.W.Frag)(H:Hp)(x:V):Prop:=∃t,jy K H x t/\PySem.W.kitOne K t (.type "str")=some false
def Lj (K:PySem.W.Frag):Sp:=λvs H Q _=>(∃x,vs=[x]/\aad K H x/\Q (.bl false) H)\/(∃l,vs=[.str (S l)]/\l.length<=1000/\Q (.bl (Cd l)) H)
theorem RX (D:aG K mg "is_sign" uc ["thing"])(hlen:mg "len"=none)(hstr:mg "str"=none)(aeY:mg "isinstance"=none):Def P w K mg base "is_sign" 1 ["thing"] (Lj K):=by
 refine D.cU RN (λvs H Q E h=>?_) (λf cdv A outer s H vs Q E hr h=>?_)
 ·rcases h with⟨x,rfl,_⟩ | ⟨x,rfl,_⟩ <;> rfl
 ·refine⟨_,au (bO (QW.qt (nj (dG (cP (aJ fj (by rfl) aeY PyProof.Rows.boot_isinstance (aj (qv 0) (aj (iT (v:=.ty "str") (by rfl) hstr PyProof.Rows.boot_str rfl) ak)))))
     (lR (bh pD (aJ cT (by rfl) hlen PySem.boot_len (aj (qv 0) ak)) aq (aY _))))) (aA (aQ gD)) bD)
   (aA (aQ (Rz (jG qe qe (bN [97] (by decide +kernel)) (qv 0) (bN [122] (by decide +kernel)))
    (gY (jG qe qe (bN [65] (by decide +kernel)) (qv 0) (bN [90] (by decide +kernel))))))),?_⟩
  rcases h with⟨x,rfl,⟨t,ty,hk⟩,q⟩ | ⟨l,rfl,hl,q⟩
  ·exact⟨_,rfl,_,_,_,false,rfl,ty,hk,_,rfl,bw (bw q)⟩
  ·have hz:l.length<=sizeLine:=Nat.le_of_lt (aD (by omega))
   refine⟨_,rfl,_,_,_,true,rfl,.str _,(by kernel_rfl),_,rfl,aU ⟨_,rfl,l,rfl,hz,rfl,_,rfl,?_⟩⟩;by_cases h1:l.length=1
   ·obtain⟨c,rfl⟩:=List.length_eq_one_iff.mp h1
    refine Bd rfl ?_;refine⟨_,rfl,[97],[c],rfl,rfl,decide (97<=c),by rw[RW],?_⟩;have q':Q (.bl (Ca c||Fv c)) H:=q;have tail:(Fv c=(Ca c||Fv c))->yV X3 X3 (tC (.str (S [65]))) (gK 0) (tC (.str (S [90]))) [some (.str (S [c]))] H Q:=λe=>by
     refine⟨_,rfl,[65],[c],rfl,rfl,decide (65<=c),by rw[RW],?_⟩;rw[<- e]at q';by_cases h2:65<=c
     ·rw[decide_eq_true h2]
      refine bw ⟨[c],[90],rfl,rfl,?_⟩;rw[RW];simpa [Fv,h2] using q'
     ·rw[decide_eq_false h2]
      refine aU ?_;simpa [Fv,h2] using q'
    by_cases h2:97<=c
    ·rw[decide_eq_true h2]
     refine bw ⟨[c],[122],rfl,rfl,_,rfl,?_⟩;rw[RW];by_cases h3:c<=122
     ·rw[decide_eq_true h3]
      refine bw ?_;simpa [Ca,h2,h3] using q'
     ·rw[decide_eq_false h3]
      exact aU (tail (by simp[Ca,h2,h3]))
    ·rw[decide_eq_false h2]
     exact aU ⟨_,rfl,aU (tail (by simp[Ca,h2]))⟩
   ·have e:(!decide (V.int (l.length:Int)=V.int 1))=true:=by
     rw[decide_eq_false];rfl;intro z;injection z with z;omega
    rw[e];have e2:Cd l=false:=by
     match l,h1 with
     | [],_=>rfl
     | [c],h=>exact absurd rfl h
     | _::_::_,_=>rfl
    rw[e2]at q;exact bw q
def Lk (K:PySem.W.Frag):Sp:=λvs H Q _=>∃(a:Addr) (ns:List Int) (k:Nat),vs=[.ref a,.int k]/\aN K H a (ns.map V.int)/\∀v:Int,Q (.int v) H
def isLet (c:Nat):Prop:=97<=c/\c<=122
structure Lp (ls:List Nat):Prop where
 lo:2<=ls.length
 hi:ls.length<=26
 az:∀c∈ls,isLet c
theorem RZ (D:aG K mg "_law_cell_at" um ["_law_script","_law_k"])(hlen:mg "len"=none):Def P w K mg base "_law_cell_at" 1 ["_law_script","_law_k"] (Lk K):=by
 refine D.cU RT (λvs H Q E h=>?_) (λf cdv A outer s H vs Q E hr h=>?_)
 ·obtain⟨a,ns,k,rfl,_⟩:=h
  rfl
 ·obtain⟨a,ns,k,rfl,hS,q⟩:=h
  refine⟨_,au (bO (bh jt (qv 1) (aJ bL (by rfl) hlen PySem.boot_len (aj (qv 0) ak)) (aY _)) (aA (aQ (aL d7 (qv 0) (qv 1) (λ_ _=>rfl)))) bD) (aA (aQ aq)),?_⟩;refine⟨_,rfl,_,rfl,a,_,rfl,.inl hS,_,_,rfl,rfl,_,rfl,?_⟩;refine jV (λhc=>?_) (λ_=>?_)
  ·have hk:k < ns.length:=by
    have:=of_decide_eq_true hc;rw[List.length_map]at this;omega
   exact⟨_,rfl,_,rfl,a,_,_,.int ns[k],rfl,rfl,hS,aF (by simp[hk]),q _⟩
  ·exact q _
theorem pQ (l:List Nat):(l.map λc=>[c]).flatten=l:=by
 induction l with
 | nil=>rfl
 | cons c r ih=>rw[List.map_cons,List.flatten_cons,ih];rfl
theorem aae:∀c∈AL,isLet c:=λc hc=>by
 obtain⟨k,hk,rfl⟩:=List.mem_map.mp hc;have:=List.mem_range.mp hk;exact⟨by omega,by omega⟩
def lV (c:Nat):Prop:=Cd [c]=true
theorem lV.lt {c:Nat}(h:lV c):c < 128:=by
 unfold lV Cd Ca Fv at h;simp at h;omega
theorem Vn {c:Nat}(h:isLet c):lV c:=by simp[lV,Cd,Ca,h.1,h.2]
theorem adn {c:Nat}(h:isLet c):lV (c-32):=by
 have h1:=h.1;have h2:=h.2;simp[lV,Cd,Ca,Fv];omega
abbrev ones (cs:List Nat):List (List Nat):=cs.map λc=>[c]
structure Blk (r w:Nat)(ls:List (List Nat)):Prop where
 len:ls.length=r
 iw:∀l∈ls,l.length=w
def MK:List Nat:=[46,50,51,52,98,99,100]
def n8 (c:Nat):Prop:=c=46\/lV c
def Qi (c:Nat):Prop:=c∈MK
structure Qj (r w:Nat)(rows marks:List (List Nat))(i j:Nat):Prop where
 r1:1<=r
 r9:r<=9
 w1:1<=w
 w9:w<=9
 br:Blk r w rows
 bm:Blk r w marks
 cr:∀l∈rows,∀c∈l,n8 c
 cm:∀l∈marks,∀c∈l,Qi c
 bi:i < r
 bj:j < w
theorem oW (ls:List (List Nat))(l:List Nat):Ts ls++[V.str (S l)]=Ts (ls++[l]):=by simp[Ts]
theorem Jk (cs:List Nat)(c:Nat):ones cs++[[c]]=ones (cs++[c]):=by simp[ones]
def cell (R:List (List Nat))(i j:Nat):Nat:=(R.getD i []).getD j 0
theorem cell_eq {R:List (List Nat)}{i j:Nat}(hi:i < R.length)(hj:j < R[i].length):cell R i j=R[i][j]:=by
 unfold cell;rw[List.getD_eq_getElem?_getD (l:=R),List.getElem?_eq_getElem hi];show (R[i]).getD j 0=_;rw[List.getD_eq_getElem?_getD,List.getElem?_eq_getElem hj];rfl
end
end My
end
section
namespace My
open PySem L2
section
variable {P:Program}{w:World}{K:PySem.W.Frag}{mg:Str->Option Value}{base:Heap}
def Qk:Sp:=λvs H Q _=>∃i:Int,vs=[.int i]/\Q (.bl true) H
theorem Ox (D:aG K mg "is_whole" nq ["thing"])(jZ:mg "int"=none)(qu:mg "bool"=none)(aV:mg "isinstance"=none):Def P w K mg base "is_whole" 1 ["thing"] Qk:=by
 refine D.cU BZ (λvs H Q E h=>?_) (λf cdv A outer s H vs Q E hr h=>?_)
 ·obtain⟨i,rfl,_⟩:=h
  rfl
 ·obtain⟨i,rfl,q⟩:=h
  refine⟨_,(aA (aQ (iZ (aJ fj (by rfl) aV PyProof.Rows.boot_isinstance (aj (qv 0) (aj (iT (v:=.ty "int") (by rfl) jZ PyProof.Rows.boot_int rfl) ak))) (gY (U3 (aJ fj (by rfl) aV PyProof.Rows.boot_isinstance (aj (qv 0) (aj (iT (v:=.ty "bool") (by rfl) qu PyProof.Rows.boot_bool rfl) ak)))))))),?_⟩;exact⟨_,rfl,_,_,_,true,rfl,.int _,(by kernel_rfl),true,rfl,bw ⟨_,rfl,_,_,_,false,rfl,.int _,(by kernel_rfl),false,rfl,q⟩⟩
theorem gG {ls:List (List Nat)}{i:Nat}{l:List Nat}(h:ls[i]?=some l):(Ts ls)[i]?=some (.str (S l)):=by simp[Ts,h]
theorem sY {ls:List (List Nat)}{i:Nat}{x:V}(h:(Ts ls)[i]?=some x):∃l,ls[i]?=some l/\x=.str (S l):=by
 rw[List.getElem?_map]at h;obtain⟨l,h1,h2⟩:=Option.map_eq_some_iff.mp h;exact⟨l,h1,h2.symm⟩
theorem Bo (n:Nat):((List.replicate n true).all id)=true:=by simp
theorem w5 (n:Nat):(List.replicate n true).map V.bl++[V.bl true]=(List.replicate (n+1) true).map V.bl:=by rw[List.replicate_succ',List.map_append];rfl
def G4:Sp:=λvs H Q _=>∃(p:Addr) (ls:List (List Nat)) (r w:Nat),vs=[.ref p]/\H p=some (.tup (Ts ls))/\Blk r w ls/\1<=r/\r<=9/\1<=w/\w<=9/\∀H',Same H H'->Q (.bl true) H'
theorem Oz (D:aG K mg "is_block" qZ ["thing"])(aX:mg "len"=none)(bW:mg "tuple"=none)(rE:mg "str"=none)(dU:mg "all"=none)(aV:mg "isinstance"=none)(vV:∃t,mg "MOST"=some (.int 9 t)):Def P w K mg base "is_block" 1 ["thing"] G4:=by
 refine D.cU pK (λvs H Q E h=>?_) (λf cdv A outer s H vs Q E hr h=>?_)
 ·obtain⟨p,ls,r,w,rfl,_⟩:=h
  rfl
 ·obtain⟨p,ls,r,w,rfl,hp,hb,r1,r9,w1,w9,q⟩:=h
  have jd:(Ts ls).length=r:=by rw[List.length_map,hb.len]
  have h0:0 < ls.length:=by rw[hb.len];omega
  refine⟨_,(au (bO (QW.qt (nj (dG (cP (aJ fj (by rfl) aV PyProof.Rows.boot_isinstance (aj (qv 0) (aj (iT (v:=.ty "tuple") (by rfl) bW PyProof.Rows.boot_tuple rfl) ak))))) (lR (dG (mF ju ju aq (aJ bL (by rfl) aX PySem.boot_len (aj (qv 0) ak)) (RG (by rfl) vV)))))) (aA (aQ gD)) bD) (au (bO (dG (cP (aJ (iD rfl) (by rfl) dU iu (aj (iU rfl (gW.of pK.nd (by kernel_rfl)) (dz (qv 0)) (λ_ _ _ _ _=>cH) (λ_ _ _ _ _=>(aJ (K4 K) (by rfl) aV PyProof.Rows.boot_isinstance (aj (qv 0) (aj (iT (v:=.ty "str") (by rfl) rE PyProof.Rows.boot_str rfl) ak))))) ak)))) (aA (aQ gD)) bD) (au (aM (i:=1) pK.nd rfl (Or.inr rfl) (aJ cT (by rfl) aX PySem.boot_len (aj (aL aW (qv 0) aq (λ_ _=>rfl)) ak))) (aA (aQ (iZ (jG ju ju aq (qv 1) (RG (by rfl) vV)) (gY (aJ (iD rfl) (by rfl) dU iu (aj (iU rfl (gW.of pK.nd (by kernel_rfl)) (dz (qv 0)) (λ_ _ _ _ _=>cH) (λ_ _ _ _ _=>(dB jr (aJ cT (by rfl) aX PySem.boot_len (aj (qv 0) ak)) (qv 2) (aY _)))) ak))))))))),?_⟩;refine⟨_,rfl,_,_,_,true,rfl,.tup hp,(by kernel_rfl),_,rfl,aU ?_⟩;refine⟨_,rfl,p,_,rfl,.inr (aK.of hp),_,_,rfl,rfl,true,by rw[jd];simp;omega,bw ⟨_,_,rfl,rfl,true,by rw[jd];simp;omega,aU ?_⟩⟩;refine⟨_,rfl,p,rfl,⟨_,aK.of hp⟩,λL hL=>sJ (xs:=Ts ls) (λi ys H2=>ys=(List.replicate i true).map V.bl/\H2 L=some (.lst ys)/\Same H H2) ⟨rfl,ao,Same.upd hL⟩ (λi ys H2 _ h=>aK.of (h.2.2 _ _ hp)) ?_ ?_⟩
  ·rintro i x ys H2 hi ⟨rfl,hL2,sm⟩
   obtain⟨l,hl,rfl⟩:=sY hi;have hil:i < (Ts ls).length:=(List.getElem?_eq_some_iff.mp hi).1;refine⟨_,rfl,_,_,_,true,rfl,.str _,(by kernel_rfl),hL2,by rw[List.length_map,List.length_replicate];exact aD (by omega),dh.mk hil ⟨w5 i,ao,sm.bK hL⟩⟩
  ·rintro ys H2 ⟨rfl,hL2,sm⟩
   refine⟨L,_,rfl,aN.of hL2,?_⟩;rw[Bo];refine⟨_,rfl,aU ?_⟩;have hw0:ls[0].length=w:=hb.iw _ (List.getElem_mem _);have hz:ls[0].length<=sizeLine:=Nat.le_of_lt (aD (by omega));refine⟨_,rfl,p,_,_,.str (S ls[0]),rfl,rfl,aK.of (sm _ _ hp),aF (j:=0) (gG (by simp[h0])),_,rfl,hz,?_⟩;refine⟨_,rfl,_,_,rfl,rfl,true,by rw[hw0];simp;omega,bw ⟨_,_,rfl,rfl,true,by rw[hw0];simp;omega,bw ?_⟩⟩;refine⟨_,rfl,p,rfl,⟨_,aK.of (sm _ _ hp)⟩,λL2 hL3=>sJ (xs:=Ts ls) (λi ys H3=>ys=(List.replicate i true).map V.bl/\H3 L2=some (.lst ys)/\Same H H3) ⟨rfl,ao,sm.bK (sm.free hL3)⟩ (λi ys H2 _ h=>aK.of (h.2.2 _ _ hp)) ?_ ?_⟩
   ·rintro i x ys H3 hi ⟨rfl,Fw,sm3⟩
    obtain⟨l,hl,rfl⟩:=sY hi;have hil:i < (Ts ls).length:=(List.getElem?_eq_some_iff.mp hi).1;have tu:l.length=w:=hb.iw _ (List.mem_of_getElem? hl);refine⟨_,rfl,_,rfl,Nat.le_of_lt (aD (by omega)),_,rfl,rfl,Fw,by rw[List.length_map,List.length_replicate];exact aD (by omega),dh.mk hil ⟨?_,ao,sm3.bK (sm.free hL3)⟩⟩;rw[tu,hw0,decide_eq_true rfl];exact w5 i
   ·rintro ys H3 ⟨rfl,Fw,sm3⟩
    refine⟨L2,_,rfl,aN.of Fw,?_⟩;rw[Bo];exact q H3 sm3
theorem CV {r w:Nat}{ls:List (List Nat)}(h:Blk r w ls):ls.flatten.length=r*w:=by
 rw[List.length_flatten];have:ls.map List.length=List.replicate r w:=by
  rw[<- h.len,List.eq_replicate_iff];exact⟨by simp,λb hb=>by obtain⟨l,hl,rfl⟩:=List.mem_map.mp hb;exact h.iw l hl⟩
 rw[this,List.sum_replicate_nat]
def Vo:Sp:=λvs H Q _=>∃(p:Addr) (ls:List (List Nat)) (r w:Nat),vs=[.ref p]/\H p=some (.tup (Ts ls))/\Blk r w ls/\1<=r/\r<=9/\1<=w/\w<=9/\(∀l∈ls,∀c∈l,n8 c)/\∀H',Same H H'->Q (.bl true) H'
theorem OD (D:aG K mg "are_rows" q_ ["thing"])(dU:mg "all"=none)(dW:∃t,mg "FREE"=some (.str (S [46]) t))(w6:Def P w K mg base "is_block" 1 ["thing"] G4)(zF:Def P w K mg base "is_sign" 1 ["thing"] (Lj K)):Def P w K mg base "are_rows" 2 ["thing"] Vo:=by
 refine D.cU B_ (λvs H Q E h=>?_) (λf cdv A outer s H vs Q E hr h=>?_)
 ·obtain⟨p,ls,r,w,rfl,_⟩:=h
  rfl
 ·obtain⟨p,ls,r,w,rfl,hp,hb,r1,r9,w1,w9,hc,q⟩:=h
  have hrw:r*w<=81:=Nat.mul_le_mul r9 w9;have hfl:=CV hb;refine⟨_,(aA (aQ (iZ (bA w6 (hr.mono (by decide)) rfl (aj (qv 0) ak)) (gY (aJ (iD rfl) (by rfl) dU iu (aj (iU rfl (gW.of B_.nd (by kernel_rfl)) (zj (fK PySem.F.plainAttrs_str PySem.F.slot_str_join PySem.F.type_str_join CJ (bN [] (by decide +kernel)) (aj (qv 0) ak))) (λ_ _ _ _ _=>cH) (λ_ _ _ _ _=>(Rz (dB pZ (qv 0) (qR (by rfl) dW) (aY _)) (gY (bA zF (hr.mono (by decide)) rfl (aj (qv 0) ak)))))) ak)))))),?_⟩;refine⟨_,rfl,p,ls,r,w,rfl,hp,hb,r1,r9,w1,w9,λH1 s1=>⟨true,rfl,bw ?_⟩⟩;refine⟨rfl,_,rfl,p,ls,rfl,rfl,aK.of (s1 _ _ hp),by omega,_,rfl,λL hL=>?_⟩;refine wN (λi ys H2=>ys=(List.replicate i true).map V.bl/\H2 L=some (.lst ys)/\Same H H2) ⟨rfl,ao,s1.bK (s1.free hL)⟩ ?_ ?_
  ·rintro i c ys H2 hi ⟨rfl,hL2,sm⟩
   have hil:i < ls.flatten.length:=(List.getElem?_eq_some_iff.mp hi).1;obtain⟨l,hl,hcl⟩:=List.mem_flatten.mp (List.mem_of_getElem? hi);have fin:H2 L=some (.lst ((List.replicate i true).map V.bl))/\((List.replicate i true).map V.bl).length < sizeLine/\dh ls.flatten.length i ((List.replicate i true).map V.bl++[V.bl true]=(List.replicate (i+1) true).map V.bl/\upd H2 L (.lst ((List.replicate i true).map V.bl++[V.bl true])) L=some (.lst ((List.replicate i true).map V.bl++[V.bl true]))/\Same H (upd H2 L (.lst ((List.replicate i true).map V.bl++[V.bl true])))):=
    ⟨hL2,by rw[List.length_map,List.length_replicate];exact aD (by omega),dh.mk hil ⟨w5 i,ao,sm.bK (s1.free hL)⟩⟩
   refine⟨_,rfl,[c],[46],rfl,rfl,_,rfl,?_⟩;rcases hc l hl c hcl with e | e
   ·subst e
    rw[decide_eq_true rfl];exact bw fin
   ·by_cases h46:[c]=[46]
    ·rw[decide_eq_true h46];exact bw fin
    ·rw[decide_eq_false h46]
     refine aU ⟨_,rfl,.inr ⟨[c],rfl,by show 1<=1000;decide,?_⟩⟩;rw[show Cd [c]=true from e];exact fin
  ·rintro ys H2 ⟨rfl,hL2,sm⟩
   refine⟨L,_,rfl,aN.of hL2,?_⟩;rw[Bo];exact q H2 sm
def Ql:Sp:=λvs H Q _=>∃(p:Addr) (ls:List (List Nat)) (r w:Nat),vs=[.ref p]/\H p=some (.tup (Ts ls))/\Blk r w ls/\1<=r/\r<=9/\1<=w/\w<=9/\(∀l∈ls,∀c∈l,Qi c)/\∀H',Same H H'->Q (.bl true) H'
theorem Lq (D:aG K mg "are_marks" pL ["thing"])(dU:mg "all"=none)(vW:∃t,mg "MARKS"=some (.str (S MK) t))(w6:Def P w K mg base "is_block" 1 ["thing"] G4):Def P w K mg base "are_marks" 2 ["thing"] Ql:=by
 refine D.cU zA (λvs H Q E h=>?_) (λf cdv A outer s H vs Q E hr h=>?_)
 ·obtain⟨p,ls,r,w,rfl,_⟩:=h
  rfl
 ·obtain⟨p,ls,r,w,rfl,hp,hb,r1,r9,w1,w9,hc,q⟩:=h
  have hrw:r*w<=81:=Nat.mul_le_mul r9 w9;have hfl:=CV hb;refine⟨_,(aA (aQ (iZ (bA w6 (hr.mono (by decide)) rfl (aj (qv 0) ak)) (gY (aJ (iD rfl) (by rfl) dU iu (aj (iU rfl (gW.of zA.nd (by kernel_rfl)) (zj (fK PySem.F.plainAttrs_str PySem.F.slot_str_join PySem.F.type_str_join CJ (bN [] (by decide +kernel)) (aj (qv 0) ak))) (λ_ _ _ _ _=>cH) (λ_ _ _ _ _=>(dB acW (qv 0) (qR (by rfl) vW) rfl))) ak)))))),?_⟩;refine⟨_,rfl,p,ls,r,w,rfl,hp,hb,r1,r9,w1,w9,λH1 s1=>⟨true,rfl,bw ?_⟩⟩;refine⟨rfl,_,rfl,p,ls,rfl,rfl,aK.of (s1 _ _ hp),by omega,_,rfl,λL hL=>?_⟩;refine wN (λi ys H2=>ys=(List.replicate i true).map V.bl/\H2 L=some (.lst ys)/\Same H H2) ⟨rfl,ao,s1.bK (s1.free hL)⟩ ?_ ?_
  ·rintro i c ys H2 hi ⟨rfl,hL2,sm⟩
   have hil:i < ls.flatten.length:=(List.getElem?_eq_some_iff.mp hi).1;obtain⟨l,hl,hcl⟩:=List.mem_flatten.mp (List.mem_of_getElem? hi);refine⟨_,rfl,c,MK,rfl,rfl,hL2,by rw[List.length_map,List.length_replicate];exact aD (by omega),dh.mk hil ⟨?_,ao,sm.bK (s1.free hL)⟩⟩;rw[decide_eq_true (show c∈MK from hc l hl c hcl)];exact w5 i
  ·rintro ys H2 ⟨rfl,hL2,sm⟩
   refine⟨L,_,rfl,aN.of hL2,?_⟩;rw[Bo];exact q H2 sm
def CZ (K:PySem.W.Frag):Sp:=λvs H Q _=>∃(p:Addr) (ls:List (List Nat)) (r w:Nat) (i j:Int),vs=[.ref p,.int i,.int j]/\aK K H p (Ts ls)/\Blk r w ls/\1<=r/\r<=9/\w<=9/\Q (.bl (decide (0<=i/\i < r/\0<=j/\j < w))) H
theorem JW (D:aG K mg "is_cell_of" kh ["rows","row","column"])(aX:mg "len"=none)(nH:Def P w K mg base "is_whole" 1 ["thing"] Qk):Def P w K mg base "is_cell_of" 2 ["rows","row","column"] (CZ K):=by
 refine D.cU yP (λvs H Q E h=>?_) (λf cdv A outer s H vs Q E hr h=>?_)
 ·obtain⟨p,ls,r,w,i,j,rfl,_⟩:=h
  rfl
 ·obtain⟨p,ls,r,w,i,j,rfl,hp,hb,r1,r9,w9,q⟩:=h
  have jd:(Ts ls).length=r:=by rw[List.length_map,hb.len]
  have h0:0 < ls.length:=by rw[hb.len];omega
  have hw0:ls[0].length=w:=hb.iw _ (List.getElem_mem _);refine⟨_,(au (bO (QW.qt (nj (dG (cP (bA nH (hr.mono (by decide)) rfl (aj (qv 1) ak)))) (lR (dG (cP (bA nH (hr.mono (by decide)) rfl (aj (qv 2) ak))))))) (aA (aQ gD)) bD) (aA (aQ (iZ (jG ju jt aq (qv 1) (aJ bL (by rfl) aX PySem.boot_len (aj (qv 0) ak))) (gY (jG ju jt aq (qv 2) (aJ cT (by rfl) aX PySem.boot_len (aj (aL aW (qv 0) aq (λ_ _=>rfl)) ak)))))))),?_⟩;refine⟨_,rfl,i,rfl,_,rfl,aU ⟨_,rfl,j,rfl,_,rfl,aU ?_⟩⟩;refine⟨_,rfl,_,_,rfl,rfl,_,rfl,?_⟩;by_cases h1:0<=i
  ·rw[decide_eq_true h1]
   refine bw ⟨_,rfl,p,_,rfl,.inr hp,_,_,rfl,rfl,_,rfl,?_⟩;rw[jd];by_cases h2:i < (r:Int)
   ·rw[decide_eq_true h2]
    refine bw ⟨_,rfl,_,_,rfl,rfl,_,rfl,?_⟩;by_cases h3:0<=j
    ·rw[decide_eq_true h3]
     refine bw ⟨_,rfl,p,_,_,.str (S ls[0]),rfl,rfl,hp,aF (j:=0) (gG (by simp[h0])),_,rfl,Nat.le_of_lt (aD (by omega)),_,_,rfl,rfl,?_⟩;rw[hw0];simpa [h1,h2,h3] using q
    ·rw[decide_eq_false h3]
     refine aU ?_;simpa [h1,h2,h3] using q
   ·rw[decide_eq_false h2]
    refine aU ?_;simpa [h1,h2] using q
  ·rw[decide_eq_false h1]
   refine aU ⟨_,rfl,aU ?_⟩;simpa [h1] using q
def Qm (K:PySem.W.Frag):Sp:=λvs H Q _=>∃(p b:Addr) (ls:List (List Nat)) (r w:Nat) (i j:Nat),vs=[.ref p,.ref b]/\H p=some (.tup (Ts ls))/\H b=some (.tup [.int i,.int j])/\Blk r w ls/\1<=r/\r<=9/\w<=9/\i < r/\j < w/\Q (.bl true) H
theorem G5 (D:aG K mg "is_begin_of" lY ["rows","thing"])(aX:mg "len"=none)(bW:mg "tuple"=none)(aV:mg "isinstance"=none)(kj:Def P w K mg base "is_cell_of" 2 ["rows","row","column"] (CZ K)):Def P w K mg base "is_begin_of" 3 ["rows","thing"] (Qm K):=by
 refine D.cU GX (λvs H Q E h=>?_) (λf cdv A outer s H vs Q E hr h=>?_)
 ·obtain⟨p,b,ls,r,w,i,j,rfl,_⟩:=h
  rfl
 ·obtain⟨p,b,ls,r,w,i,j,rfl,hp,hb,hB,r1,r9,w9,hi,hj,q⟩:=h
  refine⟨_,(aA (aQ (iZ (aJ fj (by rfl) aV PyProof.Rows.boot_isinstance (aj (qv 1) (aj (iT (v:=.ty "tuple") (by rfl) bW PyProof.Rows.boot_tuple rfl) ak))) (iZ (dB jr (aJ bL (by rfl) aX PySem.boot_len (aj (qv 1) ak)) aq (aY _)) (gY (bA kj (hr.mono (by decide)) rfl (aj (qv 0) (aj (aL aW (qv 1) aq (λ_ _=>rfl)) (aj (aL aW (qv 1) aq (λ_ _=>rfl)) ak))))))))),?_⟩;refine⟨_,rfl,_,_,_,true,rfl,.tup hb,(by kernel_rfl),true,rfl,bw ?_⟩;refine⟨_,rfl,b,_,rfl,.inr (aK.of hb),rfl,true,rfl,bw ?_⟩;refine⟨_,rfl,_,rfl,b,_,_,.int i,rfl,rfl,aK.of hb,aF (j:=0) rfl,_,rfl,b,_,_,.int j,rfl,rfl,aK.of hb,aF (j:=1) rfl,?_⟩;refine⟨p,ls,r,w,i,j,rfl,aK.of hp,hB,r1,r9,w9,?_⟩;rw[decide_eq_true ⟨by omega,by omega,by omega,by omega⟩];exact q
def Qn:Sp:=λvs H Q _=>∃(pr pm pb:Addr) (r w:Nat) (rows marks:List (List Nat)) (i j:Nat),vs=[.ref pr,.ref pm,.ref pb]/\H pr=some (.tup (Ts rows))/\H pm=some (.tup (Ts marks))/\H pb=some (.tup [.int i,.int j])/\Qj r w rows marks i j/\∀H',Same H H'->Q (.bl true) H'
theorem OJ (D:aG K mg "is_board" rm ["rows","marks","begin"])(aX:mg "len"=none)(R0:Def P w K mg base "are_rows" 2 ["thing"] Vo)(O1:Def P w K mg base "are_marks" 2 ["thing"] Ql)(JX:Def P w K mg base "is_begin_of" 3 ["rows","thing"] (Qm K)) :
  Def P w K mg base "is_board" 4 ["rows","marks","begin"] Qn:=by
 refine D.cU Ot (λvs H Q E h=>?_) (λf cdv A outer s H vs Q E hr h=>?_)
 ·obtain⟨pr,pm,pb,r,w,rows,marks,i,j,rfl,_⟩:=h
  rfl
 ·obtain⟨pr,pm,pb,r,w,rows,marks,i,j,rfl,hr',hm,hb,B,q⟩:=h
  have l1:(Ts rows).length=r:=by rw[List.length_map,B.br.len]
  have l2:(Ts marks).length=r:=by rw[List.length_map,B.bm.len]
  have h0:0 < rows.length:=by rw[B.br.len];exact B.r1
  have h0':0 < marks.length:=by rw[B.bm.len];exact B.r1
  have w0:rows[0].length=w:=B.br.iw _ (List.getElem_mem _);have w0':marks[0].length=w:=B.bm.iw _ (List.getElem_mem _);have w9:=B.w9;refine⟨_,(au (bO (QW.qt (nj (dG (cP (bA R0 (hr.mono (by decide)) rfl (aj (qv 0) ak)))) (lR (dG (cP (bA O1 (hr.mono (by decide)) rfl (aj (qv 1) ak))))))) (aA (aQ gD)) bD) (au (bO (QW.qt (nj (bh pD (aJ bL (by rfl) aX PySem.boot_len (aj (qv 1) ak)) (aJ bL (by rfl) aX PySem.boot_len (aj (qv 0) ak)) (aY _)) (lR (bh pD (aJ cT (by rfl) aX PySem.boot_len (aj (aL aW (qv 1) aq (λ_ _=>rfl)) ak)) (aJ cT (by rfl) aX PySem.boot_len (aj (aL aW (qv 0) aq (λ_ _=>rfl)) ak)) (aY _))))) (aA (aQ gD)) bD) (aA (aQ (bA JX (hr.mono (by decide)) rfl (aj (qv 0) (aj (qv 2) ak))))))),?_⟩;refine⟨_,rfl,pr,rows,r,w,rfl,hr',B.br,B.r1,B.r9,B.w1,B.w9,B.cr,λH1 s1=>⟨_,rfl,aU ?_⟩⟩;refine⟨_,rfl,pm,marks,r,w,rfl,s1 _ _ hm,B.bm,B.r1,B.r9,B.w1,B.w9,B.cm,λH2 s2=>⟨_,rfl,aU ?_⟩⟩;have s12:=s1.trans s2;refine⟨_,rfl,pm,_,rfl,.inr (aK.of (s12 _ _ hm)),_,rfl,pr,_,rfl,.inr (aK.of (s12 _ _ hr')),rfl,_,rfl,?_⟩;refine Bd (by rw[l1,l2]) ?_;refine⟨_,rfl,pm,_,_,.str (S marks[0]),rfl,rfl,aK.of (s12 _ _ hm),aF (j:=0) (gG (by simp[h0'])),_,rfl,Nat.le_of_lt (aD (by omega)),_,rfl,pr,_,_,.str (S rows[0]),rfl,rfl,aK.of (s12 _ _ hr'),aF (j:=0) (gG (by simp[h0])),_,rfl,Nat.le_of_lt (aD (by omega)),rfl,_,rfl,?_⟩;refine Bd (by rw[w0,w0']) ?_;refine⟨_,rfl,_,rfl,pr,pb,rows,r,w,i,j,rfl,s12 _ _ hr',s12 _ _ hb,B.br,B.r1,B.r9,B.w9,B.bi,B.bj,?_⟩;exact q H2 s12
structure gb (K:PySem.W.Frag)(C:Addr):Prop where
 cl:Cls K C
 nr:lO K C "rows"
 nm:lO K C "marks"
 nb:lO K C "begin"
structure dY (C:Addr)(H:Hp)(p:Addr)(r w:Nat)(rows marks:List (List Nat))(i j:Nat):Prop where
 ex:∃dx pr pm pb,H p=some (.ins C dx [("rows",.ref pr),("marks",.ref pm),("begin",.ref pb)])/\H pr=some (.tup (Ts rows))/\H pm=some (.tup (Ts marks))/\H pb=some (.tup [.int i,.int j])
 ok:Qj r w rows marks i j
theorem dY.mv {C:Addr}{H H':Hp}{p:Addr}{r w:Nat}{rows marks:List (List Nat)}{i j:Nat}(B:dY C H p r w rows marks i j)(s:Same H H'):dY C H' p r w rows marks i j:=by
 obtain⟨⟨dx,pr,pm,pb,a,b,c,d⟩,o⟩:=B;exact⟨⟨dx,pr,pm,pb,s _ _ a,s _ _ b,s _ _ c,s _ _ d⟩,o⟩
def G6 (C:Addr):Sp:=λvs H Q _=>∃(p dx pr pm pb:Addr) (r w:Nat) (rows marks:List (List Nat)) (i j:Nat),vs=[.ref p,.ref pr,.ref pm,.ref pb]/\H p=some (.ins C dx [])/\H pr=some (.tup (Ts rows))/\H pm=some (.tup (Ts marks))/\H pb=some (.tup [.int i,.int j])/\Qj r w rows marks i j/\
 ∀H',(∀b o,H b=some o->b≠p->H' b=some o)->H' p=some (.ins C dx [("rows",.ref pr),("marks",.ref pm),("begin",.ref pb)])->Q .non H'
theorem JZ {f C:Addr}{fd:FuncData}(F:fG K "__init__" "Board.__init__" iI f fd)(T:gb K C)(R3:Def P w K mg base "is_board" 4 ["rows","marks","begin"] Qn):cu P w K mg base eV 5 f fd ["self","rows","marks","begin"] (G6 C):=by
 refine F.cU JR (λvs H Q E h=>?_) (λcdv A outer s H vs Q E hr h=>?_)
 ·obtain⟨p,dx,pr,pm,pb,r,w,rows,marks,i,j,rfl,_⟩:=h
  rfl
 ·obtain⟨p,dx,pr,pm,pb,r,w,rows,marks,i,j,rfl,hp,hr',hm,hb,B,q⟩:=h
  refine⟨_,(au (bO (dG (cP (bA R3 (hr.mono (by decide)) rfl (aj (qv 1) (aj (qv 2) (aj (qv 3) ak)))))) zf bD) (au (Et (qv 0) (qv 1) rfl) (au (Et (qv 0) (qv 2) rfl) (aA (Et (qv 0) (qv 3) rfl))))),?_⟩;refine⟨_,rfl,_,rfl,_,rfl,pr,pm,pb,r,w,rows,marks,i,j,rfl,hr',hm,hb,B,λH1 s1=>⟨_,rfl,aU ?_⟩⟩;refine⟨_,rfl,_,rfl,p,C,dx,_,rfl,s1 _ _ hp,T.cl,T.nr,by show 0 < 1000;decide,?_⟩;refine⟨_,rfl,_,rfl,p,C,dx,_,rfl,ao,T.cl,T.nm,by show 1 < 1000;decide,?_⟩;refine⟨_,rfl,_,rfl,p,C,dx,_,rfl,ao,T.cl,T.nb,by show 2 < 1000;decide,?_⟩;refine q _ (λb o e hne=>?_) ?_
  ·rw[aP hne,aP hne,aP hne];exact s1 _ _ e
  ·exact ao
end
end My
end
section
namespace My
open PySem L2
section
variable {P:Program}{w:World}{K:PySem.W.Frag}{mg:Str->Option Value}{base:Heap}
def zG:Sp:=λvs H Q _=>∃(c:Int) (j:Nat),vs=[.int c,.int j]/\j<=1000/\∀v:Int,Q (.int v) H
theorem aa5 (D:aG K mg "_law_draw" Fl ["_law_cell","_law_j"]):Def P w K mg base "_law_draw" 1 ["_law_cell","_law_j"] zG:=by
 refine D.cU G3 (λvs H Q E h=>?_) (λf cdv A outer s H vs Q E hr h=>?_)
 ·obtain⟨c,j,rfl,_⟩:=h
  rfl
 ·obtain⟨c,j,rfl,hj,q⟩:=h
  refine⟨_,(au (aM (i:=2) G3.nd rfl (Or.inl rfl) (aH cL (aH b_ (aH b_ (aH b_ (aH j6 (aH cL (qv 0) aq) aq) (aH j6 (aH j6 aq (qv 1)) (qv 1))) (aH j6 aq (qv 1))) aq) aq)) (au (aM (i:=2) G3.nd rfl (Or.inl rfl) (aH cL (aH b_ (aH j6 (qv 2) aq) (aH j6 aq (qv 1))) aq)) (aA (aQ (aH b_ (qv 2) (aH j6 aq (aH cL (aH X4 (qv 0) (aH b_ (qv 1) aq)) (aH acy aq aq)))))))),?_⟩;refine⟨_,rfl,_,_,rfl,rfl,(by show (0:Int) < 2147483647;decide),_,_,rfl,rfl,.inr ⟨by decide,by decide⟩,_,rfl,_,_,rfl,rfl,.inl ⟨by decide,by decide⟩,_,rfl,_,_,rfl,rfl,.inr ⟨by omega,by omega⟩,_,_,rfl,rfl,_,rfl,_,_,rfl,rfl,.inl ⟨by decide,by decide⟩,_,_,rfl,rfl,_,_,rfl,rfl,_,_,rfl,rfl,(by show (0:Int) < 2147483629;decide),?_⟩;refine⟨_,rfl,_,_,rfl,rfl,.inr ⟨by decide,by decide⟩,_,rfl,_,_,rfl,rfl,.inl ⟨by decide,by decide⟩,_,_,rfl,rfl,_,_,rfl,rfl,(by show (0:Int) < 2147483587;decide),?_⟩;exact⟨_,rfl,_,rfl,_,rfl,_,_,rfl,rfl,_,_,rfl,rfl,⟨by show (0:Int) < (j:Int)+2;omega,Nat.lt_of_le_of_lt (Nat.log2_le_self _) (by show ((j:Int)+2).natAbs < 9000;omega)⟩,_,_,rfl,rfl,⟨by decide,by decide,by decide⟩,_,_,rfl,rfl,(by show (0:Int) < 10^(61:Int).toNat;decide +kernel),_,_,rfl,rfl,.inl ⟨by decide,by decide⟩,_,_,rfl,rfl,q _⟩
def Vp:Sp:=λvs H Q _=>∃c:Int,vs=[.int c]/\∀(ls:List Nat) (H':Hp),Same H H'->Lp ls->Q (.str (S ls)) H'
theorem ado (x:Int):∃n:Nat,mV [V.int 1,V.int 3,V.int 5,V.int 7,V.int 9,V.int 11] (x%6)=some (.int (n:Int))/\n<=11:=by
 obtain⟨v,hv,hm⟩:=rP (xs:=[V.int 1,V.int 3,V.int 5,V.int 7,V.int 9,V.int 11]) (n:=6) rfl (by decide) x;simp only[List.mem_cons,List.not_mem_nil,or_false]at hm;rcases hm with e | e | e | e | e | e
 ·exact⟨1,e ▸ hv,by decide⟩
 ·exact⟨3,e ▸ hv,by decide⟩
 ·exact⟨5,e ▸ hv,by decide⟩
 ·exact⟨7,e ▸ hv,by decide⟩
 ·exact⟨9,e ▸ hv,by decide⟩
 ·exact⟨11,e ▸ hv,by decide⟩
theorem R4 (D:aG K mg "_law_letters" uo ["_law_cell"])(cI:mg "range"=none):Def P w K mg base "_law_letters" 1 ["_law_cell"] Vp:=by
 refine D.cU rB (λvs H Q E h=>?_) (λf cdv A outer s H vs Q E hr h=>?_)
 ·obtain⟨c,rfl,_⟩:=h
  rfl
 ·obtain⟨c,rfl,q⟩:=h
  refine⟨_,(au (aM (i:=1) rB.nd rfl (Or.inr rfl) (bN AL (by decide +kernel))) (au (bO (bh jr (aH cL (qv 0) aq) aq (aY _)) (aA (aQ (qv 1))) bD) (au (aM (i:=2) rB.nd rfl (Or.inr rfl) (aL d7 (eG (aj aq (aj aq (aj aq (aj aq (aj aq (aj aq ak))))))) (aH cL (aH dJ (qv 0) aq) aq) (λ_ _=>rfl))) (aA (aQ (fK PySem.F.plainAttrs_str PySem.F.slot_str_join PySem.F.type_str_join rO (bN [] (by decide +kernel)) (aj (iU rfl (gW.of rB.nd (by kernel_rfl)) (jD (by rfl) cI (aj (aH b_ aq (aH cL (aH dJ (qv 0) aq) aq)) ak)) (λ_ _ _ _ _=>cH) (λ_ _ _ _ _=>(aL ni (qv 2) (aH cL (aH b_ (aH dJ (qv 1) aq) (aH j6 (qv 0) (qv 3))) aq) (λ_ _=>rfl)))) ak))))))),?_⟩;refine⟨_,rfl,_,_,rfl,rfl,(by show (0:Int) < 8;decide),rfl,_,rfl,jV (λ_=>⟨_,rfl,q AL H (Same.refl _) ⟨by decide,by decide,aae⟩⟩) (λ_=>?_)⟩;refine⟨by show 6<=sizeLine;decide,λt ht=>?_⟩;obtain⟨n,hn,afh⟩:=ado (c/8);refine⟨_,rfl,_,_,rfl,rfl,⟨by decide,by decide⟩,_,_,rfl,rfl,(by show (0:Int) < 6;decide),t,_,_,_,rfl,rfl,aN.of ao,hn,?_⟩;have s1:Same H (upd H t (HO.lst [V.int 1,V.int 3,V.int 5,V.int 7,V.int 9,V.int 11])):=Same.upd ht;generalize upd H t (HO.lst [V.int 1,V.int 3,V.int 5,V.int 7,V.int 9,V.int 11])=H1 at s1 ⊢;obtain⟨m,em,hm⟩:∃m:Nat,2+c/7%3=(m:Int)/\2<=m/\m<=4:=⟨(2+c/7%3).toNat,by omega,by omega,by omega⟩
  refine⟨rfl,_,rfl,_,_,rfl,rfl,⟨by decide,by decide⟩,_,_,rfl,rfl,(by show (0:Int) < 3;decide),_,_,rfl,rfl,_,rfl,by omega,by omega,?_⟩;intro M hM;rw[em,Int.toNat_natCast];refine Rw (lo:=0) (n:=m) (λi ys H2=>∃cs:List Nat,ys=Ts (ones cs)/\cs.length=i/\(∀c∈cs,isLet c)/\H2 M=some (.lst ys)/\Same H1 H2) ⟨[],rfl,rfl,λc h=>by simp at h,ao,Same.upd hM⟩ ?_ ?_
  ·rintro i ys H2 hi ⟨cs,rfl,lc,yQ,je,sm⟩
   obtain⟨x,hx,hxm⟩:=rP (xs:=AL) (n:=26) (by decide) (by decide) (c/48+(0+(i:Int))*(n:Int));refine⟨_,rfl,_,rfl,_,_,rfl,rfl,⟨by decide,by decide⟩,_,rfl,_,rfl,_,_,rfl,rfl,.inr ⟨by omega,by omega⟩,_,_,rfl,rfl,_,_,rfl,rfl,(by show (0:Int) < 26;decide),AL,_,x,rfl,rfl,by decide,hx,je,?_,dh.mk hi ⟨cs++[x],by rw[oW,Jk],by simp[lc],λy hy=>?_,ao,sm.bK hM⟩⟩
   ·rw[List.length_map,List.length_map,lc];exact aD (by omega)
   ·rcases List.mem_append.mp hy with k | k
    ·exact yQ y k
    ·rw[List.mem_singleton.mp k];exact aae x hxm
  ·rintro ys H2 ⟨cs,rfl,lc,yQ,je,sm⟩
   refine⟨M,ones cs,rfl,rfl,aN.of je,by rw[pQ];omega,?_⟩;rw[pQ];exact q cs H2 (s1.trans sm) ⟨by omega,by omega,yQ⟩
def R5:Sp:=λvs H Q _=>∃(n:Int) (ls:List Nat),vs=[.int n,.str (S ls)]/\Lp ls/\∀c:Nat,lV c->Q (.str (S [c])) H
theorem aa6 (D:aG K mg "_law_sign" Fo ["_law_cell","_law_letters_here"])(aX:mg "len"=none):Def P w K mg base "_law_sign" 1 ["_law_cell","_law_letters_here"] R5:=by
 refine D.cU Qh (λvs H Q E h=>?_) (λf cdv A outer s H vs Q E hr h=>?_)
 ·obtain⟨c,ls,rfl,_⟩:=h
  rfl
 ·obtain⟨n,ls,rfl,hA,q⟩:=h
  have hl1:=hA.lo;have hl2:=hA.hi;have hz:ls.length<=sizeLine:=Nat.le_of_lt (aD (by omega));refine⟨_,(au (aM (i:=2) Qh.nd rfl (Or.inl rfl) (aL ni (qv 1) (aH cL (qv 0) (aJ cT (by rfl) aX PySem.boot_len (aj (qv 1) ak))) (λ_ _=>rfl))) (au (bO (bh jr (aH cL (aH dJ (qv 0) aq) aq) aq (aY _)) (aA (aQ (j9 PySem.F.plainAttrs_str PySem.F.slot_str_upper PySem.F.type_str_upper ac1 (qv 2)))) bD) (aA (aQ (qv 2))))),?_⟩;obtain⟨x,hx,hm⟩:=rP (xs:=ls) (n:=ls.length) rfl (by omega) n;have hx':=hA.az x hm;refine⟨_,rfl,_,rfl,_,rfl,ls,rfl,hz,_,_,rfl,rfl,(by show (0:Int) < (ls.length:Int);omega),ls,_,x,rfl,rfl,hz,hx,?_⟩;refine⟨_,rfl,_,_,rfl,rfl,⟨by decide,by decide⟩,_,_,rfl,rfl,(by show (0:Int) < 5;decide),rfl,_,rfl,?_⟩;refine jV (λ_=>?_) (λ_=>?_)
  ·refine⟨_,rfl,rfl,[x],rfl,rfl,by show 1<=1000;decide,λd hd=>by rw[List.mem_singleton.mp hd];have:=hx'.2;omega,?_⟩
   have eu:[x].map PyProof.Rows.up1=[x-32]:=by
    rw[List.map_singleton];unfold PyProof.Rows.up1;rw[if_pos (show 97<=x/\x<=122 from hx')]
   rw[eu];exact q _ (adn hx')
  ·exact⟨_,rfl,q x (Vn hx')⟩
theorem Yk (x:Int):∃n:Int,mV [V.int 0,V.int 1,V.int 1,V.int 2,V.int 2,V.int 3,V.int 4,V.int 1] (x%8)=some (.int n):=by
 obtain⟨v,hv,hm⟩:=rP (xs:=[V.int 0,V.int 1,V.int 1,V.int 2,V.int 2,V.int 3,V.int 4,V.int 1]) (n:=8) rfl (by decide) x;simp only[List.mem_cons,List.not_mem_nil,or_false]at hm;rcases hm with e | e | e | e | e | e | e | e <;> exact⟨_,e ▸ hv⟩
theorem aa7 {l:List Nat}{k:Nat}(h:k < l.length):l.take k++[46]++l.drop (k+1)=l.set k 46:=by
 rw[List.set_eq_take_append_cons_drop,if_pos h,List.append_assoc];rfl
theorem zH {R:List (List Nat)}{i:Nat}{x l:List Nat}(h:l∈R.set i x):l∈R\/l=x:=List.mem_or_eq_of_mem_set h
def Qo (K:PySem.W.Frag):Sp:=λvs H Q _=>∃(a:Addr) (ns:List Int) (ls:List Nat),vs=[.ref a,.str (S ls)]/\aN K H a (ns.map V.int)/\Lp ls/\
 ∀(p:Addr) (rows:List (List Nat)) (r w:Nat) (H':Hp),Same H H'->H' p=some (.tup (Ts rows))->Blk r w rows->1<=r->r<=9->1<=w->w<=9->(∀l∈rows,∀c∈l,n8 c)->(∃i j,i < r/\j < w/\cell rows i j=46)->Q (.ref p) H'
theorem O2 (D:aG K mg "_law_rows" Fp ["_law_script","_law_letters_here"])(cI:mg "range"=none)(bW:mg "tuple"=none)(qw:Def P w K mg base "_law_cell_at" 1 ["_law_script","_law_k"] (Lk K))(qx:Def P w K mg base "_law_draw" 1 ["_law_cell","_law_j"] zG)(Lr:Def P w K mg base "_law_sign" 1 ["_law_cell","_law_letters_here"] R5):Def P w K mg base "_law_rows" 2 ["_law_script","_law_letters_here"] (Qo K):=by
 refine D.cU dD (λvs H Q E h=>?_) (λf cdv A outer s H vs Q E hr h=>?_)
 ·obtain⟨a,ns,ls,rfl,_⟩:=h
  rfl
 ·obtain⟨a,ns,ls,rfl,hS,hA,q⟩:=h
  refine⟨_,(au (aM (i:=2) dD.nd rfl (Or.inl rfl) (bA qw (hr.mono (by decide)) rfl (aj (qv 0) (aj aq ak)))) (au (aM (i:=3) dD.nd rfl (Or.inl rfl) (aH b_ aq (aH cL (qv 2) aq))) (au (aM (i:=4) dD.nd rfl (Or.inl rfl) (aH b_ aq (aH cL (aH dJ (qv 2) aq) aq))) (au (iG (bO (bh jr (aH cL (aH dJ (qv 2) aq) aq) aq (aY _)) (au (aM (i:=3) dD.nd rfl (Or.inl rfl) (aH b_ aq (aH cL (aH dJ (qv 2) aq) aq))) (aA (aM (i:=4) dD.nd rfl (Or.inl rfl) (aH b_ aq (aH cL (aH dJ (qv 2) aq) aq))))) bD)) (au (aM (i:=5) dD.nd rfl (Or.inl rfl) (bA qw (hr.mono (by decide)) rfl (aj (qv 0) (aj aq ak)))) (au (aM (i:=6) dD.nd rfl (Or.inl rfl) (aL d7 (eG (aj aq (aj aq (aj aq (aj aq (aj aq (aj aq (aj aq (aj aq ak))))))))) (aH cL (qv 5) aq) (λ_ _=>rfl))) (au (aM (i:=7) dD.nd rfl (Or.inl rfl) (aH dJ (qv 5) aq)) (au (aM (i:=8) dD.nd rfl (Or.inl rfl) (eG ak)) (au (dF PassesOwn.never rfl (jD (by rfl) cI (aj (qv 3) ak)) (bI (i:=9) dD.nd rfl (Or.inl rfl)) (au (aM (i:=10) dD.nd rfl (Or.inl rfl) (bN [] (by decide +kernel))) (au (dF PassesOwn.never rfl (jD (by rfl) cI (aj (qv 4) ak)) (bI (i:=11) dD.nd rfl (Or.inl rfl)) (au (aM (i:=12) dD.nd rfl (Or.inl rfl) (bA qx (hr.mono (by decide)) rfl (aj (qv 5) (aj (aH b_ (aH b_ aq (aH j6 aq (qv 9))) (qv 11)) ak)))) (au (iG (bO (bh jr (aH cL (aH dJ (qv 5) aq) aq) aq (aY _)) (au (aM (i:=12) dD.nd rfl (Or.inl rfl) (aH cL (qv 7) aq)) (aA (aM (i:=7) dD.nd rfl (Or.inl rfl) (aH dJ (qv 7) aq)))) bD)) (aA (iG (bO (bh jt (aH cL (qv 12) aq) (qv 6) (aY _)) (aA (aM (i:=10) dD.nd rfl (Or.inl rfl) (aH lu (qv 10) (bA Lr (hr.mono (by decide)) rfl (aj (aH dJ (qv 12) aq) (aj (qv 1) ak)))))) (aA (aM (i:=10) dD.nd rfl (Or.inl rfl) (aH lu (qv 10) (bN [46] (by decide +kernel))))))))))) (aA (cX (fK PySem.F.plainAttrs_list PySem.F.slot_list_append PySem.F.type_list_append gn (qv 8) (aj (qv 10) ak))))))) (au (aM (i:=13) dD.nd rfl (Or.inl rfl) (aH cL (aH dJ (qv 2) aq) (aH j6 (qv 3) (qv 4)))) (au (aM (i:=9) dD.nd rfl (Or.inl rfl) (aH dJ (qv 13) (qv 4))) (au (aM (i:=14) dD.nd rfl (Or.inl rfl) (aL d7 (qv 8) (qv 9) (λ_ _=>rfl))) (au (aM (i:=15) dD.nd rfl (Or.inl rfl) (aH cL (qv 13) (qv 4))) (au (Eu (aH lu (aH lu (oM Ry (qv 14) vN (oN (qv 15))) (bN [46] (by decide +kernel))) (oM Ry (qv 14) (oN (aH b_ (qv 15) aq)) vN)) (KR (qv 8) (qv 9) set_list)) (aA (aQ (fU gO (by rfl) bW PyProof.Rows.boot_tuple (aj (qv 8) ak)))))))))))))))))),?_⟩;refine⟨_,rfl,a,ns,1,rfl,hS,λc=>?_⟩;refine⟨_,rfl,_,_,rfl,rfl,(by show (0:Int) < 6;decide),_,_,rfl,rfl,?_⟩;refine⟨_,rfl,_,_,rfl,rfl,⟨by decide,by decide⟩,_,_,rfl,rfl,(by show (0:Int) < 6;decide),_,_,rfl,rfl,?_⟩;have key:∀x y:Int,0<=x->x < 9->0<=y->y < 9->H=H/\∃r w:Nat,1<=r/\r<=9/\1<=w/\w<=9/\([some (.ref a),some (.str (S ls)),some (.int c),some (.int (1+x)),some (.int (1+y)),none,none,none,none,none,none,none,none,none,none,none]:St)=[some (.ref a),some (.str (S ls)),some (.int c),some (.int r),some (.int w),none,none,none,none,none,none,none,none,none,none,none]:=λx y x0 x1 y0 y1=>
   ⟨rfl,(1+x).toNat,(1+y).toNat,by omega,by omega,by omega,by omega,by rw[show ((1+x).toNat:Int)=1+x by omega,show ((1+y).toNat:Int)=1+y by omega]⟩
  refine⟨λσ' H'=>H'=H/\∃r w:Nat,1<=r/\r<=9/\1<=w/\w<=9/\σ'=[some (.ref a),some (.str (S ls)),some (.int c),some (.int r),some (.int w),none,none,none,none,none,none,none,none,none,none,none],?_,?_⟩
  ·refine⟨_,rfl,_,_,rfl,rfl,⟨by decide,by decide⟩,_,_,rfl,rfl,(by show (0:Int) < 8;decide),rfl,_,rfl,jV (λ_=>?_) (λ_=>?_)⟩
   ·refine⟨_,rfl,_,_,rfl,rfl,⟨by decide,by decide⟩,_,_,rfl,rfl,(by show (0:Int) < 9;decide),_,_,rfl,rfl,?_⟩
    refine⟨_,rfl,_,_,rfl,rfl,⟨by decide,by decide⟩,_,_,rfl,rfl,(by show (0:Int) < 9;decide),_,_,rfl,rfl,?_⟩;exact key _ _ (Int.emod_nonneg _ (by decide)) (Int.emod_lt_of_pos _ (by decide)) (Int.emod_nonneg _ (by decide)) (Int.emod_lt_of_pos _ (by decide))
   ·exact key _ _ (Int.emod_nonneg _ (by decide)) (Int.lt_trans (Int.emod_lt_of_pos _ (by decide)) (by decide)) (Int.emod_nonneg _ (by decide)) (Int.lt_trans (Int.emod_lt_of_pos _ (by decide)) (by decide))
  rintro σ' H' ⟨rfl,r,w,r1,r9,w1,w9,rfl⟩;refine⟨_,rfl,a,ns,2,rfl,hS,λli=>?_⟩;refine⟨by show 8<=sizeLine;decide,λt ht=>?_⟩;obtain⟨fu,hfu⟩:=Yk li;refine⟨_,rfl,_,_,rfl,rfl,(by show (0:Int) < 8;decide),t,_,_,_,rfl,rfl,aN.of ao,hfu,?_⟩;have s1:Same H' (upd H' t (HO.lst [V.int 0,V.int 1,V.int 1,V.int 2,V.int 2,V.int 3,V.int 4,V.int 1])):=Same.upd ht;generalize upd H' t (HO.lst [V.int 0,V.int 1,V.int 1,V.int 2,V.int 2,V.int 3,V.int 4,V.int 1])=H1 at s1 ⊢;refine⟨_,rfl,_,_,rfl,rfl,⟨by decide,by decide⟩,?_⟩;refine⟨by show 0<=sizeLine;decide,λR hR=>?_⟩;have hR0:=s1.free hR;refine⟨_,rfl,_,rfl,by omega,by omega,?_⟩;rw[Int.toNat_natCast];refine gk (lo:=0) (n:=r) (λi σ H2=>∃(re:Int) (v9 v10 v11 Jl:Option V) (rows:List (List Nat)),σ=[some (.ref a),some (.str (S ls)),some (.int c),some (.int r),some (.int w),some (.int li),some (.int fu),some (.int re),some (.ref R),v9,v10,v11,Jl,none,none,none]/\Same H' H2/\H2 R=some (.lst (Ts rows))/\rows.length=i/\∀l∈rows,l.length=w/\∀c∈l,n8 c)
   ⟨_,none,none,none,none,[],rfl,s1.bK hR0,ao,rfl,λl h=>by simp at h⟩ ?_ ?_
  ·rintro i σ H2 hi ⟨re,v9,v10,v11,Jl,rows,rfl,sm,Ce,lr,zJ⟩
   refine⟨_,rfl,_,rfl,by omega,by omega,?_⟩;rw[Int.toNat_natCast];refine gk (lo:=0) (n:=w) (λj σ H3=>H3=H2/\∃(re:Int) (v11 Jl:Option V) (cs:List Nat),σ=[some (.ref a),some (.str (S ls)),some (.int c),some (.int r),some (.int w),some (.int li),some (.int fu),some (.int re),some (.ref R),some (.int (0+(i:Int))),some (.str (S cs)),v11,Jl,none,none,none]/\cs.length=j/\∀c∈cs,n8 c)
    ⟨rfl,re,v11,Jl,[],rfl,rfl,λc h=>by simp at h⟩ ?_ ?_
   ·rintro j σ H3 hj ⟨rfl,re,v11,Jl,cs,rfl,lc,yQ⟩
    have e0:(10:Int)+9*(0+(i:Int))+(0+(j:Int))=((10+9*i+j:Nat):Int):=by omega
    refine⟨_,rfl,_,rfl,_,_,rfl,rfl,.inl ⟨by decide,by decide⟩,_,_,rfl,rfl,_,rfl,_,_,rfl,rfl,li,10+9*i+j,by show [V.int li,V.int (10+9*(0+(i:Int))+(0+(j:Int)))]=_;rw[e0],by omega,λnu=>?_⟩;refine⟨λσ' H'=>H'=H3/\∃nu re:Int,σ'=[some (.ref a),some (.str (S ls)),some (.int c),some (.int r),some (.int w),some (.int li),some (.int fu),some (.int re),some (.ref R),some (.int (0+(i:Int))),some (.str (S cs)),some (.int (0+(j:Int))),some (.int nu),none,none,none],?_,?_⟩
    ·exact⟨_,rfl,_,_,rfl,rfl,⟨by decide,by decide⟩,_,_,rfl,rfl,(by show (0:Int) < 2;decide),rfl,_,rfl,jV (λ_=>⟨_,rfl,_,_,rfl,rfl,(by show (0:Int) < 2000;decide),_,rfl,_,_,rfl,rfl,⟨by decide,by decide⟩,rfl,_,_,rfl⟩) (λ_=>⟨rfl,_,_,rfl⟩)⟩
    ·rintro σ' H' ⟨rfl,nu,re,rfl⟩
     refine⟨_,?_,λσ' H' h=>h⟩;refine⟨_,rfl,_,_,rfl,rfl,(by show (0:Int) < 6;decide),_,rfl,_,_,rfl,rfl,_,rfl,jV (λ_=>?_) (λ_=>?_)⟩
     ·refine⟨_,rfl,_,rfl,_,_,rfl,rfl,⟨by decide,by decide⟩,_,rfl,_,ls,rfl,hA,λz hz=>?_⟩
      refine⟨cs,_,rfl,rfl,by rw[lc];exact Nat.le_of_lt (aD (by simp;omega)),?_⟩;refine⟨rfl,re,_,_,cs++[z],rfl,by simp[lc],λe he=>?_⟩;rcases List.mem_append.mp he with k | k
      ·exact yQ e k
      ·rw[List.mem_singleton.mp k];exact .inr hz
     ·refine⟨_,rfl,cs,_,rfl,rfl,by rw[lc];exact Nat.le_of_lt (aD (by simp;omega)),?_⟩
      refine⟨rfl,re,_,_,cs++[46],rfl,by simp[lc],λe he=>?_⟩;rcases List.mem_append.mp he with k | k
      ·exact yQ e k
      ·rw[List.mem_singleton.mp k];exact .inl rfl
   ·rintro σ H3 ⟨rfl,re,v11,Jl,cs,rfl,lc,yQ⟩
    refine⟨_,rfl,.inl ⟨rfl,_,aN.of Ce⟩,_,rfl,R,_,_,rfl,rfl,Ce,by rw[List.length_map];exact aD (by omega),?_⟩;refine⟨re,_,_,_,_,rows++[cs],rfl,sm.bK hR0,by rw[ao,oW],by simp[lr],λl hl=>?_⟩;rcases List.mem_append.mp hl with k | k
    ·exact zJ l k
    ·rw[List.mem_singleton.mp k];exact⟨lc,yQ⟩
  ·rintro σ H2 ⟨re,v9,v10,v11,Jl,rows,rfl,sm,Ce,lr,zJ⟩
   have hrw:1<=r*w:=Nat.mul_pos r1 w1;have adp:(r:Int)*(w:Int)=((r*w:Nat):Int):=by push_cast;rfl
   refine⟨_,rfl,_,_,rfl,rfl,⟨by decide,by decide⟩,_,rfl,_,rfl,_,_,rfl,rfl,.inl ⟨by omega,by omega⟩,_,_,rfl,rfl,(by show (0:Int) < (r:Int)*(w:Int);rw[adp];omega),?_⟩;obtain⟨fr,efr,hfr⟩:∃fr:Nat,c/7%((r:Int)*(w:Int))=(fr:Int)/\fr < r*w:=by
    rw[adp];have h0:=Int.emod_nonneg (c/7) (show ((r*w:Nat):Int)≠0 by omega);have h1:=Int.emod_lt_of_pos (c/7) (show (0:Int) < ((r*w:Nat):Int) by omega);exact⟨(c/7%((r*w:Nat):Int)).toNat,by omega,by omega⟩
   obtain⟨ri,eri⟩:∃ri,ri=fr/w:=⟨_,rfl⟩
   obtain⟨sp,esp⟩:∃sp,sp=fr%w:=⟨_,rfl⟩
   have hir:ri < r:=by rw[eri];exact Nat.div_lt_of_lt_mul (by rw[Nat.mul_comm];exact hfr)
   have hjw:sp < w:=by rw[esp];exact Nat.mod_lt _ w1
   have adq:ri < rows.length:=by rw[lr];exact hir
   have tu:rows[ri].length=w:=(zJ _ (List.getElem_mem _)).1;have ediv:(fr:Int)/(w:Int)=(ri:Int):=by rw[eri];push_cast;rfl
   have emod:(fr:Int)%(w:Int)=(sp:Int):=by rw[esp];push_cast;rfl
   have hz:∀n,n<=100->n<=sizeLine:=λn h=>Nat.le_of_lt (aD (by omega));dsimp only;rw[efr];refine⟨_,rfl,_,rfl,_,_,rfl,rfl,⟨by omega,by omega⟩,?_⟩;dsimp only;rw[ediv];refine⟨_,rfl,_,rfl,R,_,_,.str (S rows[ri]),rfl,rfl,aN.of Ce,aF (gG (by simp[adq])),?_⟩;refine⟨_,rfl,_,rfl,_,_,rfl,rfl,(by show (0:Int) < (w:Int);omega),?_⟩;dsimp only;rw[emod];generalize hl:rows[ri]=l at tu;have e1:(sp:Int)+1=((sp+1:Nat):Int):=by omega
   refine⟨_,rfl,_,rfl,_,rfl,l,rfl,hz _ (by omega),?_⟩;rw[K6];refine⟨l.take (sp),[46],rfl,rfl,hz _ (by rw[List.length_take];simp;omega),?_⟩;refine⟨_,rfl,_,rfl,_,_,rfl,rfl,_,rfl,l,rfl,hz _ (by omega),?_⟩;rw[e1,CK];refine⟨_,_,rfl,rfl,hz _ (by rw[List.length_append,List.length_take,List.length_drop];simp;omega),?_⟩;rw[aa7 (by omega)];refine⟨_,rfl,_,rfl,R,_,_,ri,rfl,rfl,Ce,?_,?_⟩
   ·unfold yO
    rw[List.length_map,lr,if_pos (by omega),if_pos (by omega)];congr 1
   ·have aeZ:(Ts rows).set (ri) (.str (S (l.set (sp) 46)))=Ts (rows.set (ri) (l.set (sp) 46)):=by unfold Ts;rw[List.map_set]
    rw[aeZ];have qy:Blk r w (rows.set (ri) (l.set (sp) 46)):=⟨by rw[List.length_set,lr],λx hx=>by
     rcases zH hx with k | k
     ·exact(zJ x k).1
     ·rw[k,List.length_set];exact tu⟩
    refine⟨_,rfl,R,_,rfl,.inl ⟨aN.of ao,λT hT=>?_⟩⟩;have s3:=sm.bK (o:=HO.lst (Ts (rows.set (ri) (l.set (sp) 46)))) hR0;refine q T _ r w _ (s3.bK (s3.free hT)) ao qy r1 r9 w1 w9 (λx hx y hy=>?_) ⟨ri,sp,hir,hjw,?_⟩
    ·rcases zH hx with k | k
     ·exact(zJ x k).2 y hy
     ·rw[k]at hy
      rcases List.mem_or_eq_of_mem_set hy with z | z
      ·exact(zJ l (hl ▸ List.getElem_mem _)).2 y z
      ·rw[z];exact .inl rfl
    ·have h1:ri < (rows.set (ri) (l.set (sp) 46)).length:=by rw[List.length_set];exact adq
     have h2:(rows.set (ri) (l.set (sp) 46))[ri]=l.set (sp) 46:=List.getElem_set_self h1;rw[cell_eq h1 (by rw[h2,List.length_set];omega)];simp[h2]
def Yl:List Nat:=[50,51,52,98,99,100]++(List.replicate 12 [46]).flatten
def Ls:Sp:=λvs H Q _=>∃(p:Addr) (rows:List (List Nat)) (r w:Nat) (c:Int),vs=[.ref p,.int c]/\H p=some (.tup (Ts rows))/\Blk r w rows/\1<=r/\r<=9/\w<=9/\
 ∀(t:Addr) (marks:List (List Nat)) (H':Hp),Same H H'->H' t=some (.tup (Ts marks))->Blk r w marks->(∀l∈marks,∀c∈l,Qi c)->Q (.ref t) H'
theorem Lx (D:aG K mg "_law_marks" Bh ["_law_rows_here","_law_cell"])(aX:mg "len"=none)(cI:mg "range"=none)(bW:mg "tuple"=none)(qx:Def P w K mg base "_law_draw" 1 ["_law_cell","_law_j"] zG):Def P w K mg base "_law_marks" 2 ["_law_rows_here","_law_cell"] Ls:=by
 refine D.cU mH (λvs H Q E h=>?_) (λf cdv A outer s H vs Q E hr h=>?_)
 ·obtain⟨p,rows,r,w,c,rfl,_⟩:=h
  rfl
 ·obtain⟨p,rows,r,w,c,rfl,hp,hb,r1,r9,w9,q⟩:=h
  have jd:(Ts rows).length=r:=by rw[List.length_map,hb.len]
  have h0:0 < rows.length:=by rw[hb.len];omega
  have hw0:rows[0].length=w:=hb.iw _ (List.getElem_mem _);refine⟨_,(au (aM (i:=2) mH.nd rfl (Or.inl rfl) (eG ak)) (au (dF PassesOwn.never rfl (jD (by rfl) cI (aj (aJ bL (by rfl) aX PySem.boot_len (aj (qv 0) ak)) ak)) (bI (i:=3) mH.nd rfl (Or.inl rfl)) (au (aM (i:=4) mH.nd rfl (Or.inl rfl) (bN [] (by decide +kernel))) (au (dF PassesOwn.never rfl (jD (by rfl) cI (aj (aJ cT (by rfl) aX PySem.boot_len (aj (aL aW (qv 0) aq (λ_ _=>rfl)) ak)) ak)) (bI (i:=5) mH.nd rfl (Or.inl rfl)) (au (aM (i:=6) mH.nd rfl (Or.inl rfl) (bA qx (hr.mono (by decide)) rfl (aj (qv 1) (aj (aH b_ (aH b_ aq (aH j6 aq (qv 3))) (qv 5)) ak)))) (aA (aM (i:=4) mH.nd rfl (Or.inl rfl) (aH lu (qv 4) (aL ni (aH lu (bN [50,51,52,98,99,100] (by decide +kernel)) (aH GD (bN [46] (by decide +kernel)) aq)) (aH cL (qv 6) aq) (λ_ _=>rfl))))))) (aA (cX (fK PySem.F.plainAttrs_list PySem.F.slot_list_append PySem.F.type_list_append gn (qv 2) (aj (qv 4) ak))))))) (aA (aQ (fU gO (by rfl) bW PyProof.Rows.boot_tuple (aj (qv 2) ak)))))),?_⟩;refine⟨by show 0<=sizeLine;decide,λR hR=>?_⟩;have s0:Same H (upd H R (HO.lst [])):=Same.upd hR;refine⟨_,rfl,p,_,rfl,.inr (aK.of (s0 _ _ hp)),_,rfl,by rw[jd];omega,by rw[jd];omega,?_⟩;rw[jd,Int.toNat_natCast];refine gk (lo:=0) (n:=r) (λi σ H2=>∃(v3 v4 v5 v6:Option V) (rows:List (List Nat)),σ=[some (.ref p),some (.int c),some (.ref R),v3,v4,v5,v6]/\Same H H2/\H2 R=some (.lst (Ts rows))/\rows.length=i/\∀l∈rows,l.length=w/\∀c∈l,Qi c)
   ⟨none,none,none,none,[],rfl,s0,ao,rfl,λl h=>by simp at h⟩ ?_ ?_
  ·rintro i σ H2 hi ⟨v3,v4,v5,v6,ms,rfl,sm,Ce,lr,zJ⟩
   refine⟨_,rfl,p,_,_,.str (S rows[0]),rfl,rfl,aK.of (sm _ _ hp),aF (j:=0) (gG (by simp[h0])),_,rfl,Nat.le_of_lt (aD (by omega)),_,rfl,by rw[hw0];omega,by rw[hw0];omega,?_⟩;rw[hw0,Int.toNat_natCast];refine gk (lo:=0) (n:=w) (λj σ H3=>H3=H2/\∃(v5 v6:Option V) (cs:List Nat),σ=[some (.ref p),some (.int c),some (.ref R),some (.int (0+(i:Int))),some (.str (S cs)),v5,v6]/\cs.length=j/\∀c∈cs,Qi c)
    ⟨rfl,v5,v6,[],rfl,rfl,λc h=>by simp at h⟩ ?_ ?_
   ·rintro j σ H3 hj ⟨rfl,v5,v6,cs,rfl,lc,yQ⟩
    have e0:(100:Int)+9*(0+(i:Int))+(0+(j:Int))=((100+9*i+j:Nat):Int):=by omega
    refine⟨_,rfl,_,rfl,_,_,rfl,rfl,.inl ⟨by decide,by decide⟩,_,_,rfl,rfl,_,rfl,_,_,rfl,rfl,c,100+9*i+j,by show [V.int c,V.int (100+9*(0+(i:Int))+(0+(j:Int)))]=_;rw[e0],by omega,λnu=>?_⟩;obtain⟨x,hx,hxm⟩:=rP (xs:=Yl) (n:=18) (by decide) (by decide) nu;have hmk:Qi x:=by
     have:∀x∈Yl,x∈MK:=by decide
     exact this x hxm
    refine⟨_,rfl,[46],12,rfl,rfl,by decide,by decide,by decide,[50,51,52,98,99,100],_,rfl,rfl,by decide,_,rfl,_,_,rfl,rfl,(by show (0:Int) < 18;decide),Yl,_,x,rfl,rfl,by decide,hx,cs,_,rfl,rfl,by rw[lc];exact Nat.le_of_lt (aD (by simp;omega)),?_⟩;refine⟨rfl,_,_,cs++[x],rfl,by simp[lc],λe he=>?_⟩;rcases List.mem_append.mp he with k | k
    ·exact yQ e k
    ·rw[List.mem_singleton.mp k];exact hmk
   ·rintro σ H3 ⟨rfl,v5,v6,cs,rfl,lc,yQ⟩
    refine⟨_,rfl,.inl ⟨rfl,_,aN.of Ce⟩,_,rfl,R,_,_,rfl,rfl,Ce,by rw[List.length_map];exact aD (by omega),?_⟩;refine⟨_,_,_,_,ms++[cs],rfl,sm.bK hR,by rw[ao,oW],by simp[lr],λl hl=>?_⟩;rcases List.mem_append.mp hl with k | k
    ·exact zJ l k
    ·rw[List.mem_singleton.mp k];exact⟨lc,yQ⟩
  ·rintro σ H2 ⟨v3,v4,v5,v6,ms,rfl,sm,Ce,lr,zJ⟩
   refine⟨_,rfl,R,_,rfl,.inl ⟨aN.of Ce,λT hT=>?_⟩⟩;exact q T ms _ (sm.bK (sm.free hT)) ao ⟨lr,λl h=>(zJ l h).1⟩ λl h=>(zJ l h).2
end
end My
end
section
namespace My
open PySem L2
section
variable {P:Program}{w:World}{K:PySem.W.Frag}{mg:Str->Option Value}{base:Heap}
def atC (rows:List (List Nat))(r w:Nat)(i j:Int):Nat:=if 0<=i/\i < r/\0<=j/\j < w then (rows.getD i.toNat []).getD j.toNat 0 else 46
def R6 (C:Addr):Sp:=λvs H Q _=>∃(p:Addr) (r w:Nat) (rows marks:List (List Nat)) (bi bj:Nat) (i j:Int),vs=[.ref p,.int i,.int j]/\dY C H p r w rows marks bi bj/\Q (.str (S [atC rows r w i j])) H
theorem aer {f C:Addr}{fd:FuncData}(F:fG K "at" "Board.at" jJ f fd)(T:gb K C)(dW:∃t,mg "FREE"=some (.str (S [46]) t))(kj:Def P w K mg base "is_cell_of" 2 ["rows","row","column"] (CZ K)):cu P w K mg base eV 3 f fd ["self","row","column"] (R6 C):=by
 refine F.cU Ou (λvs H Q E h=>?_) (λcdv A outer s H vs Q E hr h=>?_)
 ·obtain⟨p,r,w,rows,marks,bi,bj,i,j,rfl,_⟩:=h
  rfl
 ·obtain⟨p,r,w,rows,marks,bi,bj,i,j,rfl,B,q⟩:=h
  obtain⟨⟨dx,pr,pm,pb,hp,hr',hm,hb⟩,O⟩:=B;have w9:=O.w9;refine⟨_,(aA (aQ (mG (cP (bA kj (hr.mono (by decide)) rfl (aj (iC (qv 0) rfl) (aj (qv 1) (aj (qv 2) ak))))) (aL ni (aL aW (iC (qv 0) rfl) (qv 1) (λ_ _=>rfl)) (qv 2) (λ_ _=>rfl)) (qR (by rfl) dW)))),?_⟩;refine⟨_,rfl,p,C,dx,_,_,rfl,hp,T.cl,T.nr,rfl,_,rfl,_,rfl,pr,rows,r,w,i,j,rfl,aK.of hr',O.br,O.r1,O.r9,O.w9,_,rfl,?_⟩;by_cases h:0<=i/\i < r/\0<=j/\j < w
  ·rw[decide_eq_true h]
   have e:atC rows r w i j=(rows.getD i.toNat []).getD j.toNat 0:=if_pos h;rw[e]at q;obtain⟨i,rfl⟩:∃k:Nat,i=k:=⟨i.toNat,by omega⟩
   obtain⟨j,rfl⟩:∃k:Nat,j=k:=⟨j.toNat,by omega⟩
   rw[Int.toNat_natCast,Int.toNat_natCast]at q;have hi:i < rows.length:=by rw[O.br.len];omega
   have hgi:rows[i]?=some (rows.getD i []):=by rw[List.getD_eq_getElem?_getD,List.getElem?_eq_getElem hi];rfl
   have hw:(rows.getD i []).length=w:=O.br.iw _ (List.mem_of_getElem? hgi);have Vq:(rows.getD i [])[j]?=some ((rows.getD i []).getD j 0):=by rw[List.getD_eq_getElem?_getD (l:=rows.getD i []),List.getElem?_eq_getElem (by omega)];rfl
   refine bw ⟨_,rfl,p,C,dx,_,_,rfl,hp,T.cl,T.nr,rfl,_,rfl,pr,_,_,_,rfl,rfl,aK.of hr',aF (gG hgi),_,rfl,_,_,_,rfl,rfl,Nat.le_of_lt (aD (by omega)),aF Vq,q⟩
  ·rw[decide_eq_false h]
   have e:atC rows r w i j=46:=if_neg h;rw[e]at q;exact aU q
def isFree (rows:List (List Nat)):Bool:=rows.flatten.all λc=>decide ([c]=[46])
def Vr (C:Addr):Sp:=λvs H Q _=>∃(p:Addr) (r w:Nat) (rows marks:List (List Nat)) (bi bj:Nat),vs=[.ref p]/\dY C H p r w rows marks bi bj/\∀H',Same H H'->Q (.bl (isFree rows)) H'
theorem R7 {f C:Addr}{fd:FuncData}(F:fG K "is_free" "Board.is_free" fM f fd)(T:gb K C)(dU:mg "all"=none)(dW:∃t,mg "FREE"=some (.str (S [46]) t)):cu P w K mg base eV 1 f fd ["self"] (Vr C):=by
 refine F.cU sV (λvs H Q E h=>?_) (λcdv A outer s H vs Q E hr h=>?_)
 ·obtain⟨p,r,w,rows,marks,bi,bj,rfl,_⟩:=h
  rfl
 ·obtain⟨p,r,w,rows,marks,bi,bj,rfl,B,q⟩:=h
  obtain⟨⟨dx,pr,pm,pb,hp,hr',hm,hb⟩,O⟩:=B;have hrw:r*w<=81:=Nat.mul_le_mul O.r9 O.w9;have hfl:=CV O.br;refine⟨_,(aA (aQ (aJ (iD rfl) (by rfl) dU iu (aj (iU rfl (gW.of sV.nd (by kernel_rfl)) (zj (fK PySem.F.plainAttrs_str PySem.F.slot_str_join PySem.F.type_str_join CJ (bN [] (by decide +kernel)) (aj (iC (qv 0) rfl) ak))) (λ_ _ _ _ _=>cH) (λ_ _ _ _ _=>(dB pZ (qv 0) (qR (by rfl) dW) (aY _)))) ak)))),?_⟩;refine⟨rfl,_,rfl,p,C,dx,_,_,rfl,hp,T.cl,T.nr,rfl,pr,rows,rfl,rfl,aK.of hr',by omega,_,rfl,λL hL=>?_⟩;refine wN (λi ys H2=>ys=((rows.flatten.take i).map λc=>decide ([c]=[46])).map V.bl/\H2 L=some (.lst ys)/\Same H H2) ⟨rfl,ao,Same.upd hL⟩ ?_ ?_
  ·rintro i c ys H2 hi ⟨rfl,hL2,sm⟩
   have hil:i < rows.flatten.length:=(List.getElem?_eq_some_iff.mp hi).1;refine⟨_,rfl,[c],[46],rfl,rfl,hL2,?_,dh.mk hil ⟨?_,ao,sm.bK hL⟩⟩
   ·rw[List.length_map,List.length_map,List.length_take];exact aD (by omega)
   ·rw[List.take_add_one,hi];simp
  ·rintro ys H2 ⟨rfl,hL2,sm⟩
   rw[List.take_length]at hL2;refine⟨L,_,rfl,aN.of hL2,?_⟩;have e:((rows.flatten.map λc=>decide ([c]=[46])).all id)=isFree rows:=by
    unfold isFree;rw[List.all_map];rfl
   rw[e];exact q H2 sm
def ur (rows:List (List Nat))(j:Nat):List Nat:=rows.map λl=>l.getD j 0
def lineOf (rows:List (List Nat))(i j:Nat)(way:Int):List Nat:=if way=0 then rows.getD i [] else ur rows j
def placeOf (i j:Nat)(way:Int):Nat:=if way=0 then j else i
def aaf:Sp:=λvs H Q _=>∃(p:Addr) (rows:List (List Nat)) (r w j:Nat),vs=[.ref p,.int j]/\H p=some (.tup (Ts rows))/\Blk r w rows/\r<=9/\w<=9/\j < w/\∀H',Same H H'->Q (.str (S (ur rows j))) H'
theorem G7 (D:aG K mg "column_text" lZ ["rows","column"]):Def P w K mg base "column_text" 1 ["rows","column"] aaf:=by
 refine D.cU vR (λvs H Q E h=>?_) (λf cdv A outer s H vs Q E hr h=>?_)
 ·obtain⟨p,rows,r,w,j,rfl,_⟩:=h
  rfl
 ·obtain⟨p,rows,r,w,j,rfl,hp,hb,r9,w9,hj,q⟩:=h
  refine⟨_,(aA (aQ (fK PySem.F.plainAttrs_str PySem.F.slot_str_join PySem.F.type_str_join rO (bN [] (by decide +kernel)) (aj (iU rfl (gW.of vR.nd (by kernel_rfl)) (dz (qv 0)) (λ_ _ _ _ _=>cH) (λ_ _ _ _ _=>(aL ni (qv 0) (qv 2) (λ_ _=>rfl)))) ak)))),?_⟩;have jd:(Ts rows).length=r:=by rw[List.length_map,hb.len]
  refine⟨rfl,_,rfl,p,rfl,⟨_,aK.of hp⟩,λL hL=>sJ (xs:=Ts rows) (λi ys H2=>ys=Ts (ones ((rows.take i).map λl=>l.getD j 0))/\H2 L=some (.lst ys)/\Same H H2) ⟨rfl,ao,Same.upd hL⟩ (λi ys H2 _ h=>aK.of (h.2.2 _ _ hp)) ?_ ?_⟩
  ·rintro i x ys H2 hi ⟨rfl,hL2,sm⟩
   obtain⟨l,hl,rfl⟩:=sY hi;have hil:i < (Ts rows).length:=(List.getElem?_eq_some_iff.mp hi).1;have tu:l.length=w:=hb.iw _ (List.mem_of_getElem? hl);refine⟨_,rfl,_,rfl,l,_,l.getD j 0,rfl,rfl,Nat.le_of_lt (aD (by omega)),?_,hL2,?_,dh.mk hil ⟨?_,ao,sm.bK hL⟩⟩
   ·exact aF (by rw[List.getD_eq_getElem?_getD,List.getElem?_eq_getElem (by omega)];rfl)
   ·rw[List.length_map,List.length_map,List.length_map,List.length_take];exact aD (by omega)
   ·rw[oW,Jk,List.take_add_one,hl]
    simp
  ·rintro ys H2 ⟨rfl,hL2,sm⟩
   rw[jd,<- hb.len,List.take_length]at hL2;refine⟨L,_,rfl,rfl,aN.of hL2,?_,?_⟩
   ·rw[pQ,List.length_map,hb.len];omega
   ·rw[pQ];exact q H2 sm
theorem nJ {r w:Nat}{rows:List (List Nat)}(hb:Blk r w rows){i j:Nat}(hi:i < r){way:Int}:(lineOf rows i j way).length=if way=0 then w else r:=by
 unfold lineOf;by_cases h:way=0
 ·rw[if_pos h,if_pos h,List.getD_eq_getElem?_getD,List.getElem?_eq_getElem (by rw[hb.len];exact hi)]
  exact hb.iw _ (List.getElem_mem _)
 ·rw[if_neg h,if_neg h];unfold ur;rw[List.length_map,hb.len]
structure Run (l:List Nat)(k:Nat) where
 ahead:List Nat
 signs:List Nat
theorem mZ (l:List Nat):(cZ l).length<=l.length:=by
 unfold cZ;rw[List.length_reverse];exact Nat.le_trans (List.takeWhile_prefix _).length_le (by rw[List.length_reverse];exact Nat.le_refl _)
theorem ux (l:List Nat):(d8 l).length<=l.length:=(List.takeWhile_prefix _).length_le
def Ym (i j:Nat)(way:Int)(l:List Nat):List V:=
 if way=0 then [.int i,.int ((j:Int)-(cZ (l.take j)).length),.str (S (cZ (l.take j)++d8 (l.drop j)))] else [.int ((i:Int)-(cZ (l.take i)).length),.int j,.str (S (cZ (l.take i)++d8 (l.drop i)))]
def aag (C:Addr):Sp:=λvs H Q _=>∃(p:Addr) (r w:Nat) (rows marks:List (List Nat)) (bi bj i j:Nat) (way:Int),vs=[.ref p,.int i,.int j,.int way]/\dY C H p r w rows marks bi bj/\i < r/\j < w/\(way=0\/way=1)/\
 ∀(t:Addr) (H':Hp),Same H H'->H t=none->H' t=some (.tup (Ym i j way (lineOf rows i j way)))->Q (.ref t) H'
theorem adt {f C:Addr}{fd:FuncData}(F:fG K "run" "Board.run" jk f fd)(T:gb K C)(aX:mg "len"=none)(dW:∃t,mg "FREE"=some (.str (S [46]) t))(J0:Def P w K mg base "column_text" 1 ["rows","column"] aaf):cu P w K mg base eV 2 f fd ["self","row","column","way"] (aag C):=by
 refine F.cU jB (λvs H Q E h=>?_) (λcdv A outer s H vs Q E hr h=>?_)
 ·obtain⟨p,r,w,rows,marks,bi,bj,i,j,way,rfl,_⟩:=h
  rfl
 ·obtain⟨p,r,w,rows,marks,bi,bj,i,j,way,rfl,B,hi,hj,ae0,q⟩:=h
  obtain⟨⟨dx,pr,pm,pb,hp,hr',hm,hb⟩,O⟩:=B;have r9:=O.r9;have w9:=O.w9;refine⟨_,(au (aM (i:=4) jB.nd rfl (Or.inl rfl) (mG (bh jr (qv 3) aq (aY _)) (aL aW (iC (qv 0) rfl) (qv 1) (λ_ _=>rfl)) (bA J0 (hr.mono (by decide)) rfl (aj (iC (qv 0) rfl) (aj (qv 2) ak))))) (au (aM (i:=5) jB.nd rfl (Or.inl rfl) (mG (bh jr (qv 3) aq (aY _)) (qv 2) (qv 1))) (au (aM (i:=6) jB.nd rfl (Or.inl rfl) (aL aW (fK PySem.F.plainAttrs_str PySem.F.slot_str_rpartition PySem.F.type_str_rpartition X6 (oM Ry (qv 4) vN (oN (qv 5))) (aj (qR (by rfl) dW) ak)) aq (λ_ _=>rfl))) (au (aM (i:=7) jB.nd rfl (Or.inl rfl) (aH lu (qv 6) (aL aW (fK PySem.F.plainAttrs_str PySem.F.slot_str_partition PySem.F.type_str_partition aaS (oM Ry (qv 4) (oN (qv 5)) vN) (aj (qR (by rfl) dW) ak)) aq (λ_ _=>rfl)))) (au (aM (i:=8) jB.nd rfl (Or.inl rfl) (aH gR (qv 5) (aJ cT (by rfl) aX PySem.boot_len (aj (qv 6) ak)))) (aA (aQ (mG (bh jr (qv 3) aq (aY _)) (bZ (aj (qv 1) (aj (qv 8) (aj (qv 7) ak)))) (bZ (aj (qv 8) (aj (qv 2) (aj (qv 7) ak)))))))))))),?_⟩;have hgi:rows[i]?=some (rows.getD i []):=by rw[List.getD_eq_getElem?_getD,List.getElem?_eq_getElem (by rw[O.br.len];exact hi)];rfl
  rcases ae0 with rfl | rfl
  ·have hll:(lineOf rows i j 0).length=w:=nJ O.br hi
   have el:rows.getD i []=lineOf rows i j 0:=rfl;rw[el]at hgi;have hz:∀l:List Nat,l.length<=100->l.length<=sizeLine:=λl h=>Nat.le_of_lt (aD (by omega));refine⟨_,rfl,rfl,_,rfl,bw ?_⟩;refine⟨_,rfl,p,C,dx,_,_,rfl,hp,T.cl,T.nr,rfl,_,rfl,pr,_,_,_,rfl,rfl,aK.of hr',aF (gG hgi),?_⟩;generalize hL:lineOf rows i j 0=l at hll hgi ⊢;refine⟨_,rfl,rfl,_,rfl,bw ⟨_,rfl,?_⟩⟩;refine⟨_,rfl,_,rfl,_,rfl,l,rfl,hz _ (by omega),rfl,?_⟩;rw[K6];refine⟨_,rfl,rfl,by rw[List.length_take];omega,λp1 a1 b1 hp1=>?_⟩;refine⟨p1,_,_,_,rfl,rfl,aK.of ao,aF (j:=2) rfl,?_⟩;have s1:Same H (upd H p1 (.tup [.str a1,.str b1,.str (S (cZ (l.take j)))])):=Same.upd hp1;generalize upd H p1 (.tup [.str a1,.str b1,.str (S (cZ (l.take j)))])=H1 at s1 ⊢;have t1:=mZ (l.take j);have t2:=ux (l.drop j);rw[List.length_take]at t1;rw[List.length_drop]at t2;refine⟨_,rfl,_,rfl,_,rfl,_,rfl,l,rfl,hz _ (by omega),rfl,?_⟩;rw[CK];refine⟨_,rfl,rfl,by rw[List.length_drop];omega,λp2 b2 c2 hp2=>?_⟩;refine⟨p2,_,_,_,rfl,rfl,aK.of ao,aF (j:=0) rfl,_,_,rfl,rfl,Nat.le_of_lt (aD (by omega)),?_⟩;have s2:=s1.bK (o:=HO.tup [.str (S (d8 (l.drop j))),.str b2,.str c2]) (s1.free hp2);generalize upd H1 p2 (HO.tup [.str (S (d8 (l.drop j))),.str b2,.str c2])=H2 at s2 ⊢;refine⟨_,rfl,_,rfl,_,rfl,hz _ (by omega),_,_,rfl,rfl,?_⟩;refine⟨_,rfl,rfl,_,rfl,bw ?_⟩;refine⟨_,rfl,_,rfl,_,rfl,by show 3<=sizeLine;decide,λt ht=>?_⟩;exact q t _ (s2.bK (s2.free ht)) (s2.free ht) (by rw[ao,hL];rfl)
  ·have hll:(lineOf rows i j 1).length=r:=nJ O.br hi
   have el:ur rows j=lineOf rows i j 1:=rfl;have hz:∀l:List Nat,l.length<=100->l.length<=sizeLine:=λl h=>Nat.le_of_lt (aD (by omega));refine⟨_,rfl,rfl,_,rfl,aU ?_⟩;refine⟨_,rfl,p,C,dx,_,_,rfl,hp,T.cl,T.nr,rfl,_,rfl,pr,rows,r,w,j,rfl,hr',O.br,r9,w9,hj,λH0 s0=>?_⟩;rw[el];generalize hL:lineOf rows i j 1=l at hll ⊢;refine⟨_,rfl,rfl,_,rfl,aU ⟨_,rfl,?_⟩⟩;refine⟨_,rfl,_,rfl,_,rfl,l,rfl,hz _ (by omega),rfl,?_⟩;rw[K6];refine⟨_,rfl,rfl,by rw[List.length_take];omega,λp1 a1 b1 hp1=>?_⟩;refine⟨p1,_,_,_,rfl,rfl,aK.of ao,aF (j:=2) rfl,?_⟩;have s1:Same H (upd H0 p1 (.tup [.str a1,.str b1,.str (S (cZ (l.take i)))])):=s0.bK (s0.free hp1);generalize upd H0 p1 (.tup [.str a1,.str b1,.str (S (cZ (l.take i)))])=H1 at s1 ⊢;have t1:=mZ (l.take i);have t2:=ux (l.drop i);rw[List.length_take]at t1;rw[List.length_drop]at t2;refine⟨_,rfl,_,rfl,_,rfl,_,rfl,l,rfl,hz _ (by omega),rfl,?_⟩;rw[CK];refine⟨_,rfl,rfl,by rw[List.length_drop];omega,λp2 b2 c2 hp2=>?_⟩;refine⟨p2,_,_,_,rfl,rfl,aK.of ao,aF (j:=0) rfl,_,_,rfl,rfl,Nat.le_of_lt (aD (by omega)),?_⟩;have s2:=s1.bK (o:=HO.tup [.str (S (d8 (l.drop i))),.str b2,.str c2]) (s1.free hp2);generalize upd H1 p2 (HO.tup [.str (S (d8 (l.drop i))),.str b2,.str c2])=H2 at s2 ⊢;refine⟨_,rfl,_,rfl,_,rfl,hz _ (by omega),_,_,rfl,rfl,?_⟩;refine⟨_,rfl,rfl,_,rfl,aU ?_⟩;refine⟨_,rfl,_,rfl,_,rfl,by show 3<=sizeLine;decide,λt ht=>?_⟩;exact q t _ (s2.bK (s2.free ht)) (s2.free ht) (by rw[ao,hL];rfl)
abbrev bx:=Nat × Nat × Nat
def vX (H:Hp)(a:Addr)(t:bx):Prop:=H a=some (.tup [.int t.1,.int t.2.1,.str (S [t.2.2])])
def tO (H:Hp)(a:Addr):bx:=match H a with
 | some (.tup [.int x,.int y,.str z])=>(x.toNat,y.toNat,z.cps.toList.headD 0)
 | _=>(0,0,0)
theorem Fx {H:Hp}{a:Addr}{t:bx}(h:vX H a t):tO H a=t:=by
 unfold tO;rw[show H a=_ from h];rfl
structure cO (H:Hp)(as:List Addr)(ts:List bx):Prop where
 at_:∀a∈as,vX H a (tO H a)
 eq:as.map (tO H)=ts
theorem cO.jo {H H':Hp}{as:List Addr}{ts:List bx}(k:∀a xs,H a=some (.tup xs)->H' a=some (.tup xs))(h:cO H as ts):cO H' as ts:=by
 have e:∀a∈as,tO H' a=tO H a:=λa ha=>Fx (k a _ (h.at_ a ha));exact⟨λa ha=>by rw[e a ha];exact k a _ (h.at_ a ha),by rw[<- h.eq];exact List.map_congr_left e⟩
theorem cO.mv {H H':Hp}{as:List Addr}{ts:List bx}(k:Same H H')(h:cO H as ts):cO H' as ts:=h.jo λa xs e=>k a _ e
theorem cO.snoc {H:Hp}{as:List Addr}{ts:List bx}{a:Addr}{t:bx}(h:cO H as ts)(ha:vX H a t):cO H (as++[a]) (ts++[t]):=by
 refine⟨λb hb=>?_,by rw[List.map_append,h.eq,List.map_singleton,Fx ha]⟩;rcases List.mem_append.mp hb with z | z
 ·exact h.at_ b z
 ·rw[List.mem_singleton.mp z,Fx ha];exact ha
theorem cO.nil {H:Hp}:cO H [] []:=⟨λa h=>by simp at h,rfl⟩
theorem cO.len {H:Hp}{as:List Addr}{ts:List bx}(h:cO H as ts):as.length=ts.length:=by rw[<- h.eq,List.length_map]
theorem cO.get {H:Hp}{as:List Addr}{ts:List bx}(h:cO H as ts){i:Nat}(hi:i < as.length):∃t,ts[i]?=some t/\vX H as[i] t:=
 ⟨tO H as[i],by rw[<- h.eq];simp[hi],h.at_ _ (List.getElem_mem _)⟩
def setAt (R:List (List Nat))(i j z:Nat):List (List Nat):=R.set i ((R.getD i []).set j z)
def bJ (R:List (List Nat))(ts:List bx):List (List Nat):=ts.foldl (λR t=>setAt R t.1 t.2.1 t.2.2) R
theorem G8 {r w:Nat}{R:List (List Nat)}(h:Blk r w R){i j z:Nat}(hi:i < r):Blk r w (setAt R i j z):=by
 refine⟨by unfold setAt;rw[List.length_set,h.len],λl hl=>?_⟩;rcases List.mem_or_eq_of_mem_set hl with y | y
 ·exact h.iw l y
 ·rw[y,List.length_set,List.getD_eq_getElem?_getD,List.getElem?_eq_getElem (by rw[h.len];exact hi)]
  exact h.iw _ (List.getElem_mem _)
theorem aa8 {r w:Nat}{R:List (List Nat)}(h:Blk r w R){i j z:Nat}(hi:i < r){Pc:Nat->Prop}(hp:∀l∈R,∀c∈l,Pc c)(hz:Pc z):∀l∈setAt R i j z,∀c∈l,Pc c:=λl hl c hc=>by
 rcases List.mem_or_eq_of_mem_set hl with y | y
 ·exact hp l y c hc
 ·rw[y]at hc
  rcases List.mem_or_eq_of_mem_set hc with u | u
  ·rw[List.getD_eq_getElem?_getD,List.getElem?_eq_getElem (by rw[h.len];exact hi)]at u
   exact hp _ (List.getElem_mem _) c u
  ·rw[u];exact hz
def inB (r w:Nat)(t:bx):Prop:=t.1 < r/\t.2.1 < w/\lV t.2.2
theorem iM {r w:Nat}:∀{ts:List bx} {R:List (List Nat)},Blk r w R->(∀t∈ts,inB r w t)->Blk r w (bJ R ts)
 | [],_,h,_=>h
 | t::ts,_,h,k=>iM (ts:=ts) (G8 h (k t List.mem_cons_self).1) λx hx=>k x (List.mem_cons_of_mem _ hx)
theorem oX {r w:Nat}:∀{ts:List bx} {R:List (List Nat)},Blk r w R->(∀t∈ts,inB r w t)->(∀l∈R,∀c∈l,n8 c)->∀l∈bJ R ts,∀c∈l,n8 c
 | [],_,_,_,g=>g
 | t::ts,_,h,k,g=>oX (ts:=ts) (G8 h (k t List.mem_cons_self).1) (λx hx=>k x (List.mem_cons_of_mem _ hx)) (aa8 h (k t List.mem_cons_self).1 g (.inr (k t List.mem_cons_self).2.2))
theorem Yn {r w:Nat}{rows marks:List (List Nat)}{bi bj:Nat}(B:Qj r w rows marks bi bj){ts:List bx}(k:∀t∈ts,inB r w t):Qj r w (bJ rows ts) marks bi bj:=
 ⟨B.r1,B.r9,B.w1,B.w9,iM B.br k,B.bm,oX B.br k B.cr,B.cm,B.bi,B.bj⟩
theorem Jm (R:List (List Nat))(ts:List bx)(t:bx):bJ R (ts++[t])=setAt (bJ R ts) t.1 t.2.1 t.2.2:=by unfold bJ;rw[List.foldl_append];rfl
structure dN (H0 H:Hp)(ps:List Addr)(R:List (List Nat)):Prop where
 len:ps.length=R.length
 nd:ps.Nodup
 fr:∀p∈ps,H0 p=none
 at_:∀(i:Nat) (h:i < ps.length),H ps[i]=some (.lst (Ts (ones (R.getD i []))))
theorem dN.mv {H0 H H':Hp}{ps:List Addr}{R:List (List Nat)}(h:dN H0 H ps R)(k:∀p∈ps,H' p=H p):dN H0 H' ps R:=
 ⟨h.len,h.nd,h.fr,λi hi=>by rw[k _ (List.getElem_mem _)];exact h.at_ i hi⟩
theorem dN.Qp {H0 H H':Hp}{ps:List Addr}{R:List (List Nat)}(h:dN H0 H ps R)(k:Same H H'):dN H0 H' ps R:=
 ⟨h.len,h.nd,h.fr,λi hi=>k _ _ (h.at_ i hi)⟩
theorem dN.snoc {H0 H:Hp}{ps:List Addr}{R:List (List Nat)}(h:dN H0 H ps R){p:Addr}{l:List Nat}(hn:p∉ps)(h0:H0 p=none)(hp:H p=some (.lst (Ts (ones l)))):dN H0 H (ps++[p]) (R++[l]):=by
 refine⟨by simp[h.len],?_,λx hx=>?_,λi hi=>?_⟩
 ·rw[List.nodup_append]
  refine⟨h.nd,by simp,λa ha b hb=>?_⟩;rw[List.mem_singleton.mp hb];exact λz=>hn (z ▸ ha)
 ·rcases List.mem_append.mp hx with z | z
  ·exact h.fr x z
  ·rw[List.mem_singleton.mp z];exact h0
 ·by_cases c:i < ps.length
  ·rw[List.getElem_append_left c,h.at_ i c,List.getD_eq_getElem?_getD,List.getD_eq_getElem?_getD,List.getElem?_append_left (by rw[<- h.len];exact c)]
  ·have e:i=ps.length:=by simp at hi;omega
   subst e;rw[List.getElem_append_right (Nat.le_refl _)];simp only[Nat.sub_self,List.getElem_singleton];rw[hp,List.getD_eq_getElem?_getD,List.getElem?_append_right (by rw[h.len];exact Nat.le_refl _),h.len];simp
theorem dN.set {H0 H:Hp}{ps:List Addr}{R:List (List Nat)}(h:dN H0 H ps R){i j z:Nat}(hi:i < ps.length):dN H0 (upd H ps[i] (.lst ((Ts (ones (R.getD i []))).set j (.str (S [z]))))) ps (setAt R i j z):=by
 have e:(Ts (ones (R.getD i []))).set j (.str (S [z]))=Ts (ones ((R.getD i []).set j z)):=by
  show List.set (((R.getD i []).map λc=>[c]).map λl=>V.str (S l)) j (V.str (S [z]))=((List.set (R.getD i []) j z).map λc=>[c]).map λl=>V.str (S l);rw[List.map_set,List.map_set]
 rw[e];refine⟨by unfold setAt;rw[List.length_set];exact h.len,h.nd,h.fr,λk hk=>?_⟩;by_cases c:k=i
 ·subst c
  rw[ao];unfold setAt;rw[List.getD_eq_getElem?_getD (l:=R.set _ _),List.getElem?_set_self (by rw[<- h.len];exact hi)];rfl
 ·rw[aP (λz=>c ((List.getElem_inj h.nd).mp z)),h.at_ k hk]
  unfold setAt;rw[List.getD_eq_getElem?_getD (l:=R.set _ _),List.getElem?_set_ne (λz=>c z.symm),<- List.getD_eq_getElem?_getD]
def Ly (C:Addr):Sp:=λvs H Q _=>∃(p t:Addr) (as:List Addr) (ts:List bx) (r w:Nat) (rows marks:List (List Nat)) (bi bj:Nat),vs=[.ref p,.ref t]/\dY C H p r w rows marks bi bj/\H t=some (.tup (as.map V.ref))/\cO H as ts/\(∀t∈ts,inB r w t)/\
 ∀(p':Addr) (H':Hp),Same H H'->dY C H' p' r w (bJ rows ts) marks bi bj->Q (.ref p') H'
theorem aa9 {f C f0:Addr}{fd jq:FuncData}(F:fG K "laid" "Board.laid" iJ f fd)(T:gb K C)(kE:mg "list"=none)(bW:mg "tuple"=none)(C_:mg "Board"=some (.ref C))(G9:Mk K C f0)(G_:cu P w K mg base eV 5 f0 jq ["self","rows","marks","begin"] (G6 C))(Hf:Binds K jq ["self","rows","marks","begin"] []) :
  cu P w K mg base eV 8 f fd ["self","laying"] (Ly C):=by
 refine F.cU iV (λvs H Q E h=>?_) (λcdv A outer s H vs Q E hr h=>?_)
 ·obtain⟨p,t,as,ts,r,w,rows,marks,bi,bj,rfl,_⟩:=h
  rfl
 ·obtain⟨p,t,as,ts,r,w,rows,marks,bi,bj,rfl,BA,ht,hL,hin,q⟩:=h
  obtain⟨⟨dx,pr,pm,pb,hx,hpr,hpm,hpb⟩,B⟩:=BA;have r9:=B.r9;have w9:=B.w9;have hbr:=B.br;refine⟨_,(au (Bg (ix:=2) (ns:=["row"]) iV.nd rfl (Or.inl rfl) rfl (d_.of ["self","laying","lines",".3","column","sign"] [3] (by kernel_rfl)) (dz (iC (qv 0) rfl)) (λ_ _ _ _ _=>(rQ (show (["row","self","laying","lines",".3","column","sign"]:List Str).Nodup by decide +kernel) rfl (by rfl))) (λ_ _ _ _ _=>cH) (λ_ _ _ _ _=>(fU (wR rfl) (by rfl) kE PyProof.Rows.boot_list (aj (qv 0) ak)))) (au (dF PassesOwn.never rfl (dz (qv 1)) (lQ rfl (bT (bI (i:=3) iV.nd rfl (Or.inl rfl)) (bT (bI (i:=4) iV.nd rfl (Or.inl rfl)) (bT (bI (i:=5) iV.nd rfl (Or.inl rfl)) jQ)))) (aA (Eu (qv 5) (KR (aL d7 (qv 2) (qv 3) (λ_ _=>rfl)) (qv 4) set_list)))) (aA (aQ (GF G9 G_ (hr.mono (by decide)) rfl C_ Hf .nil jw (aj (fU gO (by rfl) bW PyProof.Rows.boot_tuple (aj (iU rfl (gW.of iV.nd (by kernel_rfl)) (fY (qv 2)) (λ_ _ _ _ _=>cH) (λ_ _ _ _ _=>(ac5 K PySem.F.plainAttrs_str PySem.F.slot_str_join PySem.F.type_str_join (X5 K) (bN [] (by decide +kernel)) (aj (qv 0) ak)))) ak)) (aj (iC (qv 0) rfl) (aj (iC (qv 0) rfl) ak)))))))),?_⟩;refine⟨_,rfl,p,C,dx,_,_,rfl,hx,T.cl,T.nr,rfl,pr,rfl,⟨_,aK.of hpr⟩,λM hM=>wQ (f:=dR [3] 0) (tt:=gq) (xs:=Ts rows) (λi ys H2=>∃ps:List Addr,ys=ps.map V.ref/\H2 M=some (.lst ys)/\Same H H2/\dN H H2 ps (rows.take i)/\M∉ps)
   ⟨[],rfl,ao,Same.upd hM,⟨by simp,List.nodup_nil,λp h=>by simp at h,λi h=>by simp at h⟩,by simp⟩ (λi ys H2 _ h=>by obtain⟨_,_,_,sm,_⟩:=h;exact aK.of (sm _ _ hpr)) ?_ ?_⟩
  ·rintro i x ys H2 hi ⟨ps,rfl,je,sm,lW,nM⟩
   obtain⟨l,hl,rfl⟩:=sY hi;have hil:i < (Ts rows).length:=(List.getElem?_eq_some_iff.mp hi).1;have tu:l.length=w:=hbr.iw _ (List.mem_of_getElem? hl);have jd:(Ts rows).length=r:=by rw[List.length_map,hbr.len]
   have hpl:ps.length<=9:=by rw[lW.len,List.length_take,hbr.len];omega
   refine Z9 ⟨_,rfl,l,rfl,by omega,λc hc=>?_⟩;have Lz:M≠c:=λz=>by rw[<- z,je]at hc;cases hc
   have ncp:c∉ps:=λz=>by
    obtain⟨k,hk,e⟩:=List.mem_iff_getElem.mp z;have:=lW.at_ k hk;rw[e,hc]at this;cases this
   refine⟨by rw[aP Lz];exact je,by rw[List.length_map];exact aD (by omega),dh.mk hil ⟨ps++[c],by simp,ao,(sm.bK (sm.free hc)).bK hM,?_,?_⟩⟩
   ·rw[show rows.take (i+1)=rows.take i++[l] by rw[List.take_add_one,hl];rfl]
    refine dN.mv ((lW.Qp (Same.upd hc)).snoc ncp (sm.free hc) ao) λy hy=>aP λz=>?_;rcases List.mem_append.mp hy with u | u
    ·exact nM (z ▸ u)
    ·exact Lz (z.symm.trans (List.mem_singleton.mp u))
   ·intro z
    rcases List.mem_append.mp z with u | u
    ·exact nM u
    ·exact Lz (List.mem_singleton.mp u)
  ·rintro ys H2 ⟨ps,rfl,je,sm,lW,nM⟩
   rw[List.take_of_length_le (by rw[List.length_map];exact Nat.le_refl _)]at lW;refine⟨_,rfl,t,rfl,⟨_,aK.of (sm _ _ ht)⟩,mU (K:=K) (a:=t) (xs:=as.map V.ref) (λi σ H3=>∃v3 v4 v5:Option V,σ=[some (.ref p),some (.ref t),some (.ref M),v3,v4,v5]/\Same H H3/\H3 M=some (.lst (ps.map V.ref))/\dN H H3 ps (bJ rows (ts.take i)))
    ⟨none,none,none,rfl,sm,je,lW⟩ (λi σ H3 _ h=>by obtain⟨_,_,_,_,sm,_⟩:=h;exact aK.of (sm _ _ ht)) ?_ ?_⟩
   ·rintro i x σ H3 hx' ⟨v3,v4,v5,rfl,sm3,Cg,jM⟩
    rw[List.getElem?_map]at hx';have hi:i < as.length:=by
     rcases Nat.lt_or_ge i as.length with z | z
     ·exact z
     ·rw[List.getElem?_eq_none z]at hx';cases hx'
    rw[List.getElem?_eq_getElem hi]at hx';have hx':V.ref as[i]=x:=Option.some.inj hx';subst hx';obtain⟨u,eu,hU⟩:=hL.get hi;have hum:=List.mem_of_getElem? eu;obtain⟨u1,u2,u3⟩:=hin u hum;have hb3:Blk r w (bJ rows (ts.take i)):=iM hbr λy hy=>hin y (List.mem_of_mem_take hy);have hpl:ps.length=r:=by rw[jM.len,hb3.len]
    have hps:u.1 < ps.length:=by omega
    refine⟨as[i],_,rfl,aK.of (sm3 _ _ hU),rfl,_,_,rfl,_,_,rfl,_,_,rfl,rfl,?_⟩;refine⟨_,rfl,_,rfl,_,rfl,M,_,_,.ref ps[u.1],rfl,rfl,aN.of Cg,aF (by simp[hps]),_,rfl,ps[u.1],_,_,u.2.1,rfl,rfl,jM.at_ u.1 hps,?_,?_⟩
    ·have:((bJ rows (ts.take i)).getD u.1 []).length=w:=by
      rw[List.getD_eq_getElem?_getD,List.getElem?_eq_getElem (by rw[hb3.len];exact u1)];exact hb3.iw _ (List.getElem_mem _)
     unfold yO;rw[List.length_map,List.length_map,this,if_pos (by omega),if_pos (by omega)];congr 1
    ·refine⟨_,_,_,rfl,sm3.bK (jM.fr _ (List.getElem_mem _)),?_,?_⟩
     ·have ne:M≠ps[u.1]:=λz=>nM (by rw[z];exact List.getElem_mem _)
      rw[aP ne];exact Cg
     ·rw[show bJ rows (ts.take (i+1))=setAt (bJ rows (ts.take i)) u.1 u.2.1 u.2.2 by rw[List.take_add_one,eu];exact Jm _ _ _]
      exact jM.set hps
   ·rintro σ H3 ⟨v3,v4,v5,rfl,sm3,Cg,jM⟩
    rw[List.take_of_length_le (by rw[List.length_map,hL.len];exact Nat.le_refl _)]at jM;have B':=Yn B hin;have hpl:ps.length=r:=by rw[jM.len,B'.br.len]
    refine⟨_,rfl,M,rfl,⟨_,aN.of Cg⟩,λN hN=>I_ (xs:=ps.map V.ref) (λi ys H4=>ys=Ts ((bJ rows ts).take i)/\H4 N=some (.lst ys)/\Same H3 H4) ⟨rfl,ao,Same.upd hN⟩ (λi ys H4 _ h=>aN.of (h.2.2 _ _ Cg)) ?_ ?_⟩
    ·rintro i x ys H4 hi ⟨rfl,hN4,lX⟩
     rw[List.getElem?_map]at hi;have hi':i < ps.length:=by
      rcases Nat.lt_or_ge i ps.length with z | z
      ·exact z
      ·rw[List.getElem?_eq_none z]at hi;cases hi
     rw[List.getElem?_eq_getElem hi']at hi;have hi:V.ref ps[i]=x:=Option.some.inj hi;subst hi;have uy:i < (bJ rows ts).length:=by rw[<- jM.len];exact hi'
     have hg:(bJ rows ts).getD i []=(bJ rows ts)[i]:=by rw[List.getD_eq_getElem?_getD,List.getElem?_eq_getElem uy];rfl
     have hw:(bJ rows ts)[i].length=w:=B'.br.iw _ (List.getElem_mem _);have hat:=jM.at_ i hi';rw[hg]at hat;refine⟨rfl,_,rfl,ps[i],ones (bJ rows ts)[i],rfl,rfl,aN.of (lX _ _ hat),by rw[pQ,hw];omega,hN4,?_,dh.mk (by rw[List.length_map];exact hi') ⟨?_,ao,lX.bK hN⟩⟩
     ·rw[List.length_map,List.length_take];exact aD (by omega)
     ·rw[pQ,oW,List.take_add_one,List.getElem?_eq_getElem uy];rfl
    ·rintro ys H4 ⟨rfl,hN4,lX⟩
     rw[List.take_of_length_le (by rw[List.length_map,jM.len];exact Nat.le_refl _)]at hN4;refine⟨N,_,rfl,.inl ⟨aN.of hN4,λl hl=>?_⟩⟩;have s5:=(sm3.trans lX).bK (o:=.tup (Ts (bJ rows ts))) ((sm3.trans lX).free hl);refine⟨_,rfl,p,C,dx,_,_,rfl,s5 _ _ hx,T.cl,T.nm,rfl,_,rfl,p,C,dx,_,_,rfl,s5 _ _ hx,T.cl,T.nb,rfl,λx dy nx ndx sS=>?_⟩;have s6:Same (upd H4 l (.tup (Ts (bJ rows ts)))) (upd (upd (upd H4 l (.tup (Ts (bJ rows ts)))) dy (HO.own x)) x (HO.ins C dy [])):=λb o e=>by rw[aP (bR e nx),aP (bR e ndx)];exact e
     refine⟨x,dy,l,pm,pb,r,w,bJ rows ts,marks,bi,bj,rfl,ao,s6 _ _ ao,s6 _ _ (s5 _ _ hpm),s6 _ _ (s5 _ _ hpb),B',λH5 kp hx5=>⟨rfl,?_⟩⟩;have s7:Same (upd H4 l (.tup (Ts (bJ rows ts)))) H5:=λb o e=>kp b o (s6 b o e) (bR e nx);exact q x H5 (s5.trans s7) ⟨⟨dy,l,pm,pb,hx5,s7 _ _ ao,s7 _ _ (s5 _ _ hpm),s7 _ _ (s5 _ _ hpb)⟩,B'⟩
end
end My
end
section
namespace My
open PySem L2
section
variable {P:Program}{w:World}{K:PySem.W.Frag}{mg:Str->Option Value}{base:Heap}
def Qq:Sp:=λvs H Q _=>∃(p:Addr) (rows:List (List Nat)) (r w:Nat) (i j:Int),vs=[.ref p,.int i,.int j]/\H p=some (.tup (Ts rows))/\Blk r w rows/\1<=r/\r<=9/\w<=9/\∀(b:Bool) (H':Hp),Same H H'->Q (.bl b) H'
theorem Yo {t1 t2 t3 t4:Addr}{a1 b1 a2 b2 a3 b3 a4 b4:Int}{H:Hp}(h1:H t1=some (.tup [.int a1,.int b1]))(h2:H t2=some (.tup [.int a2,.int b2]))(h3:H t3=some (.tup [.int a3,.int b3]))(h4:H t4=some (.tup [.int a4,.int b4]))
  {n:Nat} {x:V} (h:([V.ref t1,V.ref t2,V.ref t3,V.ref t4]:List V)[n]?=some x):∃(t:Addr) (u v:Int),x=.ref t/\H t=some (.tup [.int u,.int v]):=by
 match n,h with
 | 0,h=>exact⟨t1,_,_,(Option.some.inj h).symm,h1⟩
 | 1,h=>exact⟨t2,_,_,(Option.some.inj h).symm,h2⟩
 | 2,h=>exact⟨t3,_,_,(Option.some.inj h).symm,h3⟩
 | 3,h=>exact⟨t4,_,_,(Option.some.inj h).symm,h4⟩
 | n+4,h=>exact absurd h (by simp)
theorem R8 (D:aG K mg "_law_is_near" qj ["_law_rows_here","_law_row","_law_column"])(aX:mg "len"=none):Def P w K mg base "_law_is_near" 1 ["_law_rows_here","_law_row","_law_column"] Qq:=by
 refine D.cU rC (λvs H Q E h=>?_) (λf cdv A outer s H vs Q E hr h=>?_)
 ·obtain⟨p,rows,r,w,i,j,rfl,_⟩:=h
  rfl
 ·obtain⟨pr,rows,r,w,i,j,rfl,hp0,hb,r1,r9,w9,q⟩:=h
  refine⟨_,(au (dF PassesOwn.never rfl (fY (eG (aj (bZ (aj (aH gR (qv 1) aq) (aj (qv 2) ak))) (aj (bZ (aj (qv 1) (aj (aH gR (qv 2) aq) ak))) (aj (bZ (aj (qv 1) (aj (aH b_ (qv 2) aq) ak))) (aj (bZ (aj (aH b_ (qv 1) aq) (aj (qv 2) ak))) ak)))))) (bI (i:=3) rC.nd rfl (Or.inl rfl)) (aA (bO (QW.qt (iY (mF ju jt aq (aL aW (qv 3) aq (λ_ _=>rfl)) (aJ bL (by rfl) aX PySem.boot_len (aj (qv 0) ak))) (iY (mF ju jt aq (aL aW (qv 3) aq (λ_ _=>rfl)) (aJ cT (by rfl) aX PySem.boot_len (aj (aL aW (qv 0) aq (λ_ _=>rfl)) ak))) (lB (bh j8 (aL ni (aL aW (qv 0) (aL aW (qv 3) aq (λ_ _=>rfl)) (λ_ _=>rfl)) (aL aW (qv 3) aq (λ_ _=>rfl)) (λ_ _=>rfl)) (bN [46] (by decide +kernel)) (aY _)))))) (aA (aQ gD)) bD))) (aA (aQ gD))),?_⟩;refine⟨_,rfl,_,_,rfl,rfl,_,rfl,by show 2<=sizeLine;decide,λt1 h1=>⟨_,rfl,_,rfl,_,_,rfl,rfl,by show 2<=sizeLine;decide,λt2 h2=>⟨_,rfl,_,rfl,_,_,rfl,rfl,by show 2<=sizeLine;decide,λt3 h3=>⟨_,rfl,_,_,rfl,rfl,_,rfl,by show 2<=sizeLine;decide,λt4 h4=>⟨by show 4<=sizeLine;decide,λT hT=>?_⟩⟩⟩⟩⟩;have s1:Same H (upd H t1 (HO.tup [.int (i-1),.int j])):=Same.upd h1;have s2:=s1.bK (o:=HO.tup [.int i,.int (j-1)]) (s1.free h2);have s3:=s2.bK (o:=HO.tup [.int i,.int (j+1)]) (s2.free h3);have s4:=s3.bK (o:=HO.tup [.int (i+1),.int j]) (s3.free h4);have s5:=s4.bK (o:=HO.lst [.ref t1,.ref t2,.ref t3,.ref t4]) (s4.free hT);have k5:Same _ _:=Same.upd (o:=HO.lst [.ref t1,.ref t2,.ref t3,.ref t4]) hT;have k4:Same _ _:=Same.upd (o:=HO.tup [.int (i+1),.int j]) h4;have k3:Same _ _:=Same.upd (o:=HO.tup [.int i,.int (j+1)]) h3;have k2:Same _ _:=Same.upd (o:=HO.tup [.int i,.int (j-1)]) h2;have e1:=k5 _ _ (k4 _ _ (k3 _ _ (k2 _ _ (ao (H:=H) (a:=t1) (o:=HO.tup [.int (i-1),.int j])))));have e2:=k5 _ _ (k4 _ _ (k3 _ _ (ao (a:=t2) (o:=HO.tup [.int i,.int (j-1)]))));have e3:=k5 _ _ (k4 _ _ (ao (a:=t3) (o:=HO.tup [.int i,.int (j+1)])));have e4:=k5 _ _ (ao (a:=t4) (o:=HO.tup [.int (i+1),.int j]));have e5:upd (upd (upd (upd (upd H t1 (HO.tup [.int (i-1),.int j])) t2 (HO.tup [.int i,.int (j-1)])) t3 (HO.tup [.int i,.int (j+1)])) t4 (HO.tup [.int (i+1),.int j])) T (HO.lst [.ref t1,.ref t2,.ref t3,.ref t4]) T=some (.lst [.ref t1,.ref t2,.ref t3,.ref t4]):=ao;generalize upd (upd (upd (upd (upd H t1 (HO.tup [.int (i-1),.int j])) t2 (HO.tup [.int i,.int (j-1)])) t3 (HO.tup [.int i,.int (j+1)])) t4 (HO.tup [.int (i+1),.int j])) T (HO.lst [.ref t1,.ref t2,.ref t3,.ref t4])=H5 at s5 e1 e2 e3 e4 e5 ⊢;have hp:=aK.of (K:=K) (s5 _ _ hp0);have jd:(Ts rows).length=r:=by rw[List.length_map,hb.len]
  have h0:0 < rows.length:=by rw[hb.len];omega
  have hw0:rows[0].length=w:=hb.iw _ (List.getElem_mem _);refine⟨T,rfl,⟨_,aN.of e5⟩,oJ (K:=K) (a:=T) (xs:=[V.ref t1,V.ref t2,V.ref t3,V.ref t4]) (λn σ H6=>H6=H5/\∃v3:Option V,σ=[some (.ref pr),some (.int i),some (.int j),v3])
   ⟨rfl,none,rfl⟩ (λn σ H6 _ h=>by rw[h.1];exact aN.of e5) ?_ ?_⟩
  ·rintro n x σ H6 hx ⟨rfl,v3,rfl⟩
   obtain⟨t,u,v,rfl,ht⟩:=Yo e1 e2 e3 e4 hx;have hS:=aK.of (K:=K) ht;have nx:H6=H6/\∃v3:Option V,([some (.ref pr),some (.int i),some (.int j),some (.ref t)]:St)=[some (.ref pr),some (.int i),some (.int j),v3]:=⟨rfl,_,rfl⟩
   refine⟨_,rfl,t,_,_,_,rfl,rfl,hS,aF (j:=0) rfl,_,_,rfl,rfl,_,rfl,?_⟩;by_cases c1:0<=u
   ·rw[decide_eq_true c1]
    refine bw ⟨_,rfl,pr,_,rfl,.inr hp,_,_,rfl,rfl,_,rfl,?_⟩;rw[jd];by_cases c2:u < (r:Int)
    ·rw[decide_eq_true c2]
     refine bw ⟨_,rfl,t,_,_,_,rfl,rfl,hS,aF (j:=1) rfl,_,_,rfl,rfl,_,rfl,?_⟩;by_cases c3:0<=v
     ·rw[decide_eq_true c3]
      refine bw ⟨_,rfl,pr,_,_,.str (S rows[0]),rfl,rfl,hp,aF (j:=0) (gG (by simp[h0])),_,rfl,Nat.le_of_lt (aD (by omega)),_,_,rfl,rfl,_,rfl,?_⟩;rw[hw0];by_cases c4:v < (w:Int)
      ·rw[decide_eq_true c4]
       obtain⟨u,rfl⟩:∃k:Nat,u=k:=⟨u.toNat,by omega⟩
       obtain⟨v,rfl⟩:∃k:Nat,v=k:=⟨v.toNat,by omega⟩
       have hi:u < rows.length:=by rw[hb.len];omega
       have hgi:rows[u]?=some (rows.getD u []):=by rw[List.getD_eq_getElem?_getD,List.getElem?_eq_getElem hi];rfl
       have hw:(rows.getD u []).length=w:=hb.iw _ (List.mem_of_getElem? hgi);have Vq:(rows.getD u [])[v]?=some ((rows.getD u []).getD v 0):=by rw[List.getD_eq_getElem?_getD (l:=rows.getD u []),List.getElem?_eq_getElem (by omega)];rfl
       refine bw ⟨_,rfl,_,rfl,t,_,_,_,rfl,rfl,hS,aF (j:=0) rfl,pr,_,_,_,rfl,rfl,hp,aF (gG hgi),_,rfl,t,_,_,_,rfl,rfl,hS,aF (j:=1) rfl,_,_,_,rfl,rfl,Nat.le_of_lt (aD (by omega)),aF Vq,_,_,rfl,rfl,_,rfl,?_⟩;exact jV (λ_=>q true H6 s5) (λ_=>nx)
      ·rw[decide_eq_false c4]
       exact aU (aU nx)
     ·rw[decide_eq_false c3]
      exact aU ⟨_,rfl,aU (aU nx)⟩
    ·rw[decide_eq_false c2]
     exact aU (aU nx)
   ·rw[decide_eq_false c1]
    exact aU ⟨_,rfl,aU (aU nx)⟩
  ·rintro σ H6 ⟨rfl,v3,rfl⟩
   exact q false H6 s5
def j4 (rows:List (List Nat))(r w:Nat)(H:Hp)(a:Addr):Prop:=∃i j:Nat,H a=some (.tup [.int i,.int j])/\i < r/\j < w/\cell rows i j=46
theorem j4.jo {rows:List (List Nat)}{r w:Nat}{H H':Hp}{a:Addr}(h:j4 rows r w H a)(k:∀a xs,H a=some (.tup xs)->H' a=some (.tup xs)):j4 rows r w H' a:=by
 obtain⟨i,j,e,b⟩:=h;exact⟨i,j,k _ _ e,b⟩
theorem Jo {rows:List (List Nat)}{H:Hp}{r w:Nat}:∀{fs:List Addr},(∀a∈fs,j4 rows r w H a)->∃ds,cY K H 1 ds (fs.map V.ref)/\ds.length=fs.length
 | [],_=>⟨[],.nil,rfl⟩
 | a::fs,h=>by
  obtain⟨ds,h1,h2⟩:=Jo (fs:=fs) λx hx=>h x (List.mem_cons_of_mem _ hx);obtain⟨i,j,e,_,_⟩:=h a List.mem_cons_self;exact⟨.tup [.int i,.int j]::ds,.cons (.tup (aK.of e) (.cons (.int _) (.cons (.int _) .nil))) h1,by simp[h2]⟩
def LC:Sp:=λvs H Q _=>∃(p:Addr) (rows:List (List Nat)) (r w:Nat) (c:Int),vs=[.ref p,.int c]/\H p=some (.tup (Ts rows))/\Blk r w rows/\1<=r/\r<=9/\1<=w/\w<=9/\(∃i j,i < r/\j < w/\cell rows i j=46)/\
 ∀(t:Addr) (i j:Nat) (H':Hp),Same H H'->H' t=some (.tup [.int i,.int j])->i < r->j < w->cell rows i j=46->Q (.ref t) H'
theorem kI {H:Hp}{M:Addr}{ys zs:List V}(hM:H M=some (.lst ys)):∀a xs,H a=some (.tup xs)->upd H M (.lst zs) a=some (.tup xs):=λa xs e=>by
 have ne:a≠M:=λz=>by rw[z,hM]at e;cases e
 rw[aP ne];exact e
theorem Vs (D:aG K mg "_law_starts" wW ["_law_rows_here","_law_cell"])(aX:mg "len"=none)(cI:mg "range"=none)(zK:Def P w K mg base "_law_is_near" 1 ["_law_rows_here","_law_row","_law_column"] Qq):Def P w K mg base "_law_starts" 2 ["_law_rows_here","_law_cell"] LC:=by
 refine D.cU ql (λvs H Q E h=>?_) (λf cdv A outer s H vs Q E hr h=>?_)
 ·obtain⟨p,rows,r,w,c,rfl,_⟩:=h
  rfl
 ·obtain⟨p,rows,r,w,c,rfl,hp,hb,r1,r9,w1,w9,hfree,q⟩:=h
  have jd:(Ts rows).length=r:=by rw[List.length_map,hb.len]
  have h0:0 < rows.length:=by rw[hb.len];omega
  have hw0:rows[0].length=w:=hb.iw _ (List.getElem_mem _);refine⟨_,(au (aM (i:=2) ql.nd rfl (Or.inl rfl) (eG ak)) (au (aM (i:=3) ql.nd rfl (Or.inl rfl) (eG ak)) (au (dF PassesOwn.never rfl (jD (by rfl) cI (aj (aJ bL (by rfl) aX PySem.boot_len (aj (qv 0) ak)) ak)) (bI (i:=4) ql.nd rfl (Or.inl rfl)) (aA (dF PassesOwn.never rfl (jD (by rfl) cI (aj (aJ cT (by rfl) aX PySem.boot_len (aj (aL aW (qv 0) aq (λ_ _=>rfl)) ak)) ak)) (bI (i:=5) ql.nd rfl (Or.inl rfl)) (aA (bO (bh pZ (aL ni (aL aW (qv 0) (qv 4) (λ_ _=>rfl)) (qv 5) (λ_ _=>rfl)) (bN [46] (by decide +kernel)) (aY _)) (au (cX (fK PySem.F.plainAttrs_list PySem.F.slot_list_append PySem.F.type_list_append gn (qv 2) (aj (bZ (aj (qv 4) (aj (qv 5) ak))) ak))) (aA (bO (cP (bA zK (hr.mono (by decide)) rfl (aj (qv 0) (aj (qv 4) (aj (qv 5) ak))))) (aA (cX (fK PySem.F.plainAttrs_list PySem.F.slot_list_append PySem.F.type_list_append gn (qv 3) (aj (bZ (aj (qv 4) (aj (qv 5) ak))) ak)))) bD))) bD))))) (au (bO (QW.qt (iY (bh (KQ hr.units) (qv 3) (eG ak) (aY _)) (lB (bh Rh (aH cL (qv 1) aq) aq (aY _))))) (aA (aQ (aL d7 (qv 3) (aH cL (aH dJ (qv 1) aq) (aJ bL (by rfl) aX PySem.boot_len (aj (qv 3) ak))) (λ_ _=>rfl)))) bD) (aA (aQ (aL d7 (qv 2) (aH cL (aH dJ (qv 1) aq) (aJ bL (by rfl) aX PySem.boot_len (aj (qv 2) ak))) (λ_ _=>rfl)))))))),?_⟩;refine⟨by show 0<=sizeLine;decide,λF hF=>⟨by show 0<=sizeLine;decide,λG hG=>?_⟩⟩;have sF:Same H (upd H F (HO.lst [])):=Same.upd hF;have hG0:=sF.free hG;have nFG:F≠G:=λz=>by rw[<- z,ao]at hG;cases hG
  have sG:=sF.bK (o:=HO.lst []) hG0;refine⟨_,rfl,p,_,rfl,.inr (aK.of (sG _ _ hp)),_,rfl,by rw[jd];omega,by rw[jd];omega,?_⟩;rw[jd,Int.toNat_natCast];refine gk (lo:=0) (n:=r) (λi σ H2=>∃(v4 v5:Option V) (fs gs:List Addr),σ=[some (.ref p),some (.int c),some (.ref F),some (.ref G),v4,v5]/\Same H H2/\H2 F=some (.lst (fs.map V.ref))/\H2 G=some (.lst (gs.map V.ref))/\(∀a∈fs,j4 rows r w H2 a)/\(∀a∈gs,j4 rows r w H2 a)/\fs.length<=i*9/\gs.length<=i*9/\∀i' j',i' < i->j' < w->cell rows i' j'=46->fs≠[])
   ⟨none,none,[],[],rfl,sG,by rw[aP nFG,ao];rfl,ao,λa h=>by simp at h,λa h=>by simp at h,Nat.zero_le _,Nat.zero_le _,λi' j' h=>by omega⟩ ?_ ?_
  ·rintro i σ H2 hi ⟨v4,v5,fs,gs,rfl,sm,yR,hG2,okf,okg,lf,lg,hsome⟩
   refine⟨_,rfl,p,_,_,.str (S rows[0]),rfl,rfl,aK.of (sm _ _ hp),aF (j:=0) (gG (by simp[h0])),_,rfl,Nat.le_of_lt (aD (by omega)),_,rfl,by rw[hw0];omega,by rw[hw0];omega,?_⟩;rw[hw0,Int.toNat_natCast];refine gk (lo:=0) (n:=w) (λj σ H3=>∃(v5:Option V) (fs gs:List Addr),σ=[some (.ref p),some (.int c),some (.ref F),some (.ref G),some (.int (0+(i:Int))),v5]/\Same H H3/\H3 F=some (.lst (fs.map V.ref))/\H3 G=some (.lst (gs.map V.ref))/\(∀a∈fs,j4 rows r w H3 a)/\(∀a∈gs,j4 rows r w H3 a)/\fs.length<=i*9+j/\gs.length<=i*9+j/\∀i' j',(i' < i\/(i'=i/\j' < j))->j' < w->cell rows i' j'=46->fs≠[])
    ⟨v5,fs,gs,rfl,sm,yR,hG2,okf,okg,lf,lg,λi' j' h h1 h2=>hsome i' j' (by omega) h1 h2⟩ ?_ ?_
   ·rintro j σ H3 hj ⟨v5,fs,gs,rfl,s3,Ci,zL,Dc,zM,lf3,lg3,LK⟩
    have g1:i < rows.length:=by rw[hb.len];exact hi
    have hwi:rows[i].length=w:=hb.iw _ (List.getElem_mem _);have g2:j < rows[i].length:=by omega
    have hce:=cell_eq g1 g2;refine⟨_,rfl,_,rfl,p,_,_,.str (S rows[i]),rfl,rfl,aK.of (s3 _ _ hp),by rw[Int.zero_add];exact aF (gG (by simp[g1])),_,rfl,rows[i],_,rows[i][j],rfl,rfl,Nat.le_of_lt (aD (by omega)),by rw[Int.zero_add];exact aF (by simp[g2]),[rows[i][j]],[46],rfl,rfl,_,rfl,?_⟩;rw[<- hce];by_cases hc:cell rows i j=46
    ·rw[decide_eq_true (show [cell rows i j]=[46] by rw[hc])]
     refine bw ⟨_,rfl,.inl ⟨rfl,_,aN.of Ci⟩,_,rfl,_,rfl,by show 2<=sizeLine;decide,λb hbn=>?_⟩;have k4:Same H3 (upd H3 b (HO.tup [.int (0+(i:Int)),.int (0+(j:Int))])):=Same.upd hbn;have hF4:=k4 _ _ Ci;refine⟨F,_,_,rfl,rfl,hF4,by rw[List.length_map];exact aD (by omega),?_⟩;have hPb:j4 rows r w (upd (upd H3 b (HO.tup [.int (0+(i:Int)),.int (0+(j:Int))])) F (HO.lst (fs.map V.ref++[V.ref b]))) b:=⟨i,j,kI hF4 _ _ (by rw[ao,Int.zero_add,Int.zero_add]),hi,hj,hc⟩
     have Yp:∀a∈fs++[b],j4 rows r w (upd (upd H3 b (HO.tup [.int (0+(i:Int)),.int (0+(j:Int))])) F (HO.lst (fs.map V.ref++[V.ref b]))) a:=λa ha=>by
      rcases List.mem_append.mp ha with z | z
      ·exact((Dc a z).jo λa xs e=>k4 a _ e).jo (kI hF4)
      ·rw[List.mem_singleton.mp z];exact hPb
     have Yq:∀a∈gs,j4 rows r w (upd (upd H3 b (HO.tup [.int (0+(i:Int)),.int (0+(j:Int))])) F (HO.lst (fs.map V.ref++[V.ref b]))) a:=λa ha=>((zM a ha).jo λa xs e=>k4 a _ e).jo (kI hF4);have Qs:upd (upd H3 b (HO.tup [.int (0+(i:Int)),.int (0+(j:Int))])) F (HO.lst (fs.map V.ref++[V.ref b])) F=some (.lst ((fs++[b]).map V.ref)):=by rw[ao];simp
     have hG5:upd (upd H3 b (HO.tup [.int (0+(i:Int)),.int (0+(j:Int))])) F (HO.lst (fs.map V.ref++[V.ref b])) G=some (.lst (gs.map V.ref)):=by rw[aP nFG.symm];exact k4 _ _ zL
     have s5:Same H (upd (upd H3 b (HO.tup [.int (0+(i:Int)),.int (0+(j:Int))])) F (HO.lst (fs.map V.ref++[V.ref b]))):=(s3.trans k4).bK hF;generalize upd (upd H3 b (HO.tup [.int (0+(i:Int)),.int (0+(j:Int))])) F (HO.lst (fs.map V.ref++[V.ref b]))=H5 at Yp Yq Qs hG5 s5 ⊢;refine⟨_,rfl,_,rfl,_,rfl,p,rows,r,w,(i:Int),(j:Int),by show [V.ref p,V.int (0+(i:Int)),V.int (0+(j:Int))]=_;rw[Int.zero_add,Int.zero_add],s5 _ _ hp,hb,r1,r9,w9,λbb H6 s6=>⟨_,rfl,?_⟩⟩;refine jV (λ_=>?_) (λ_=>?_)
     ·have hG6:=s6 _ _ hG5
      refine⟨_,rfl,.inl ⟨rfl,_,aN.of hG6⟩,_,rfl,_,rfl,by show 2<=sizeLine;decide,λb2 hb2=>?_⟩;have k7:Same H6 (upd H6 b2 (HO.tup [.int (0+(i:Int)),.int (0+(j:Int))])):=Same.upd hb2;have hG7:=k7 _ _ hG6;refine⟨G,_,_,rfl,rfl,hG7,by rw[List.length_map];exact aD (by omega),?_⟩;refine⟨_,fs++[b],gs++[b2],rfl,((s5.trans s6).trans k7).bK hG0,by rw[aP nFG];exact k7 _ _ (s6 _ _ Qs),by rw[ao];simp,λa ha=>?_,λa ha=>?_,by simp;omega,by simp;omega,λ_ _ _ _ _=>by simp⟩
      ·exact(((Yp a ha).jo λa xs e=>s6 a _ e).jo λa xs e=>k7 a _ e).jo (kI hG7)
      ·rcases List.mem_append.mp ha with z | z
       ·exact(((Yq a z).jo λa xs e=>s6 a _ e).jo λa xs e=>k7 a _ e).jo (kI hG7)
       ·rw[List.mem_singleton.mp z]
        exact⟨i,j,kI hG7 _ _ (by rw[ao,Int.zero_add,Int.zero_add]),hi,hj,hc⟩
     ·exact⟨_,fs++[b],gs,rfl,s5.trans s6,s6 _ _ Qs,s6 _ _ hG5,λa ha=>(Yp a ha).jo λa xs e=>s6 a _ e,λa ha=>(Yq a ha).jo λa xs e=>s6 a _ e,by simp;omega,by omega,λ_ _ _ _ _=>by simp⟩
    ·rw[decide_eq_false (show ¬[cell rows i j]=[46] from λz=>hc (by injection z))]
     refine aU ⟨_,fs,gs,rfl,s3,Ci,zL,Dc,zM,by omega,by omega,λi' j' h h1 h2=>?_⟩;by_cases he:i'=i/\j'=j
     ·rw[he.1,he.2]at h2;exact absurd h2 hc
     ·exact LK i' j' (by omega) h1 h2
   ·rintro σ H3 ⟨v5,fs,gs,rfl,s3,Ci,zL,Dc,zM,lf3,lg3,LK⟩
    exact⟨_,_,fs,gs,rfl,s3,Ci,zL,Dc,zM,by omega,by omega,λi' j' h h1 h2=>LK i' j' (by omega) h1 h2⟩
  ·rintro σ H2 ⟨v4,v5,fs,gs,rfl,sm,yR,hG2,okf,okg,lf,lg,hsome⟩
   have ae1:fs≠[]:=by
    obtain⟨i,j,hi,hj,hc⟩:=hfree;exact hsome i j hi hj hc
   have pick:∀(H3:Hp) (hs:List Addr) (G':Addr),hs≠[]->Same H H3->H3 G'=some (.lst (hs.map V.ref))->(∀a∈hs,j4 rows r w H3 a)->∃a,mV (hs.map V.ref) (c/4%((hs.map V.ref).length:Int))=some (.ref a)/\(0:Int) < ((hs.map V.ref).length:Int)/\Q (.ref a) H3:=λH3 hs G' hne sm3 zL ok=>by
    have hl0:0 < hs.length:=List.length_pos_iff.mpr hne;obtain⟨x,hx,hm⟩:=rP (xs:=hs.map V.ref) (n:=(hs.map V.ref).length) rfl (by rw[List.length_map];exact hl0) (c/4);obtain⟨a,ha,rfl⟩:=List.mem_map.mp hm;obtain⟨i,j,e,hi,hj,hc⟩:=ok a ha;exact⟨a,hx,by rw[List.length_map];omega,q a i j H3 sm3 e hi hj hc⟩
   refine⟨_,rfl,by show 0<=sizeLine;decide,λe he=>?_⟩;have k3:Same H2 (upd H2 e (HO.lst [])):=Same.upd he;have Dc:∀a∈fs,j4 rows r w (upd H2 e (HO.lst [])) a:=λa ha=>(okf a ha).jo λa xs z=>k3 a _ z;have zM:∀a∈gs,j4 rows r w (upd H2 e (HO.lst [])) a:=λa ha=>(okg a ha).jo λa xs z=>k3 a _ z;obtain⟨es,hes,hel⟩:=Jo (K:=K) zM;have he3:upd H2 e (HO.lst []) e=some (.lst []):=ao;have Ci:=k3 _ _ yR;have zL:=k3 _ _ hG2;have s3:=sm.trans k3;generalize upd H2 e (HO.lst [])=H3 at k3 Dc zM hes he3 Ci zL s3 ⊢;refine⟨2,.lst es,.lst [],by decide,.lst (aN.of zL) hes,.lst (aN.of he3) .nil,_,rfl,?_⟩;obtain⟨af,hf1,hf2,hf3⟩:=pick H3 fs F ae1 s3 Ci Dc;have last:Xi (n6 (acM K) (gK 2) (n6 (rI (λ_ j=>0 < j) λi j=>.int (i%j)) (n6 (rI acw λi j=>.int (i/j)) (gK 1) (tC (.int 4))) (Kv (λxs H Q=>∃p ys,xs=[.ref p]/\(aN K H p ys\/aK K H p ys)/\Q (.int ys.length) H) (m8 (gK 2) su)))) { nx:=λx H'=>Q V.non H',rt:=Q } [some (.ref p),some (.int c),some (.ref F),some (.ref G),v4,v5] H3:=
    ⟨_,rfl,_,rfl,_,_,rfl,rfl,⟨by decide,by decide⟩,_,rfl,F,_,rfl,.inl (aN.of Ci),_,_,rfl,rfl,hf2,F,_,_,_,rfl,rfl,aN.of Ci,hf1,hf3⟩
   by_cases hz:gs=[]
   ·have ez:es=[]:=List.eq_nil_of_length_eq_zero (by rw[hel,hz];rfl)
    subst ez;simp only[if_true,decide_true,Bool.not_true];exact aU (aU last)
   ·have ez:¬Dt.lst es=Dt.lst []:=λy=>hz (by
     injection y with y;rw[y]at hel;exact List.eq_nil_of_length_eq_zero hel.symm)
    simp only[if_true,ez,decide_false,Bool.not_false];obtain⟨ag,hg1,hg2,hg3⟩:=pick H3 gs G hz s3 zL zM;refine⟨_,rfl,_,_,rfl,rfl,(by show (0:Int) < 4;decide),_,_,rfl,rfl,_,rfl,jV (λ_=>?_) (λ_=>last)⟩;exact⟨_,rfl,_,rfl,_,_,rfl,rfl,⟨by decide,by decide⟩,_,rfl,G,_,rfl,.inl (aN.of zL),_,_,rfl,rfl,hg2,G,_,_,_,rfl,rfl,aN.of zL,hg1,hg3⟩
end
end My
end
section
namespace My
open PySem L2
section
variable {P:Program}{w:World}{K:PySem.W.Frag}{mg:Str->Option Value}{base:Heap}
theorem adu {c:Nat}(h:lV c):lV (PyProof.Rows.lo1 c):=by
 unfold PyProof.Rows.lo1
 split
 ·rename_i h2
  exact Vn ⟨by omega,by omega⟩
 ·exact h
theorem aah {i:Nat}:∀{ts:List bx},(∀t∈ts,t.1=i)->ts.Pairwise (λa b=>a.1=b.1)
 | [],_=>.nil
 | t::ts,h=>.cons (λb hb=>by rw[h t List.mem_cons_self,h b (List.mem_cons_of_mem _ hb)]) (aah λb hb=>h b (List.mem_cons_of_mem _ hb))
def Fy (ts:List bx):Prop:=ts.Pairwise (λa b=>a.1=b.1)\/ts.Pairwise (λa b=>a.1 < b.1)
def Kh (ts:List bx):Prop:=ts.Pairwise (λa b=>a.1=b.1/\a.2.1 < b.2.1)\/ts.Pairwise (λa b=>a.1 < b.1)
def Fz:Sp:=λvs H Q _=>∃(p:Addr) (rows:List (List Nat)) (r w:Nat) (c:Int) (ls:List Nat) (m:Nat),vs=[.ref p,.int c,.str (S ls),.int m]/\H p=some (.tup (Ts rows))/\Blk r w rows/\1<=r/\r<=9/\1<=w/\w<=9/\(∃i j,i < r/\j < w/\cell rows i j=46)/\Lp ls/\1<=m/\m<=7/\
 ∀(t:Addr) (as:List Addr) (ts:List bx) (H':Hp),Same H H'->H' t=some (.tup (as.map V.ref))->cO H' as ts->(∀t∈ts,inB r w t)->ts≠[]->ts.length<=7->Kh ts->Q (.ref t) H'
theorem O4 (D:aG K mg "_law_straight" rD ["_law_rows_here","_law_cell","_law_letters_here","_law_many"])(aX:mg "len"=none)(jZ:mg "int"=none)(bW:mg "tuple"=none)(Yr:Def P w K mg base "_law_starts" 2 ["_law_rows_here","_law_cell"] LC)(qx:Def P w K mg base "_law_draw" 1 ["_law_cell","_law_j"] zG)(Lr:Def P w K mg base "_law_sign" 1 ["_law_cell","_law_letters_here"] R5):Def P w K mg base "_law_straight" 3 ["_law_rows_here","_law_cell","_law_letters_here","_law_many"] Fz:=by
 refine D.cU cV (λvs H Q E h=>?_) (λf cdv A outer s H vs Q E hr h=>?_)
 ·obtain⟨p,rows,r,w,c,ls,m,rfl,_⟩:=h
  rfl
 ·obtain⟨p,rows,r,w,c,ls,m,rfl,hp,hb,r1,r9,w1,w9,hfree,hA,m1,m7,q⟩:=h
  have jd:(Ts rows).length=r:=by rw[List.length_map,hb.len]
  have h0:0 < rows.length:=by rw[hb.len];omega
  have hw0:rows[0].length=w:=hb.iw _ (List.getElem_mem _);refine⟨_,(au (aM (i:=4) cV.nd rfl (Or.inl rfl) (aH cL (qv 1) aq)) (au (Eu (bA Yr (hr.mono (by decide)) rfl (aj (qv 0) (aj (aH dJ (qv 1) aq) ak))) (lQ rfl (bT (bI (i:=5) cV.nd rfl (Or.inl rfl)) (bT (bI (i:=6) cV.nd rfl (Or.inl rfl)) jQ)))) (au (aM (i:=7) cV.nd rfl (Or.inl rfl) (eG ak)) (au (aM (i:=8) cV.nd rfl (Or.inl rfl) aq) (au (aM (i:=9) cV.nd rfl (Or.inl rfl) (aH dJ (qv 1) aq)) (au (iG (Cz PassesOwn.never (QW.qt (iY (bh jt (qv 5) (aJ bL (by rfl) aX PySem.boot_len (aj (qv 0) ak)) (aY _)) (iY (bh jt (qv 6) (aJ cT (by rfl) aX PySem.boot_len (aj (aL aW (qv 0) aq (λ_ _=>rfl)) ak)) (aY _)) (lB (bh jt (aJ bL (by rfl) aX PySem.boot_len (aj (qv 7) ak)) (qv 3) (aY _)))))) (au (iG (bO (bh pZ (aL ni (aL aW (qv 0) (qv 5) (λ_ _=>rfl)) (qv 6) (λ_ _=>rfl)) (bN [46] (by decide +kernel)) (aY _)) (au (aM (i:=10) cV.nd rfl (Or.inl rfl) (bA qx (hr.mono (by decide)) rfl (aj (qv 1) (aj (aH b_ (aJ bL (by rfl) aX PySem.boot_len (aj (qv 7) ak)) aq) ak)))) (au (iG (bO (bh jr (aH cL (aH dJ (qv 1) aq) aq) aq (aY _)) (au (aM (i:=10) cV.nd rfl (Or.inl rfl) (aH cL (qv 9) aq)) (aA (aM (i:=9) cV.nd rfl (Or.inl rfl) (aH dJ (qv 9) aq)))) bD)) (au (aM (i:=11) cV.nd rfl (Or.inl rfl) (bA Lr (hr.mono (by decide)) rfl (aj (qv 10) (aj (qv 2) ak)))) (au (iG (bO (bh jr (qv 8) aq (aY _)) (aA (aM (i:=11) cV.nd rfl (Or.inl rfl) (j9 PySem.F.plainAttrs_str PySem.F.slot_str_lower PySem.F.type_str_lower j_ (qv 11)))) bD)) (au (aM (i:=8) cV.nd rfl (Or.inl rfl) (aH b_ (qv 8) (fU Ij (by rfl) jZ PyProof.Rows.boot_int (aj (dB j8 (qv 11) (j9 PySem.F.plainAttrs_str PySem.F.slot_str_lower PySem.F.type_str_lower j_ (qv 11)) (aY _)) ak)))) (aA (cX (fK PySem.F.plainAttrs_list PySem.F.slot_list_append PySem.F.type_list_append gn (qv 7) (aj (bZ (aj (qv 5) (aj (qv 6) (aj (qv 11) ak)))) ak))))))))) bD)) (au (aM (i:=5) cV.nd rfl (Or.inl rfl) (aH b_ (qv 5) (qv 4))) (aA (aM (i:=6) cV.nd rfl (Or.inl rfl) (aH gR (aH b_ (qv 6) aq) (qv 4)))))))) (aA (aQ (fU gO (by rfl) bW PyProof.Rows.boot_tuple (aj (qv 7) ak)))))))))),?_⟩;refine⟨_,rfl,_,_,rfl,rfl,(by show (0:Int) < 2;decide),?_⟩;obtain⟨wy,ewy,hwy⟩:∃wy:Nat,c%2=(wy:Int)/\wy<=1:=⟨(c%2).toNat,by omega,by omega⟩
  dsimp only;rw[ewy];refine⟨_,rfl,_,rfl,_,_,rfl,rfl,⟨by decide,by decide⟩,p,rows,r,w,_,rfl,hp,hb,r1,r9,w1,w9,hfree,λt0 i0 j0 H1 s1 ht0 hi0 hj0 hc0=>?_⟩;refine⟨t0,_,rfl,aK.of ht0,rfl,_,_,rfl,_,_,rfl,rfl,?_⟩;refine⟨by show 0<=sizeLine;decide,λF hF=>?_⟩;have hF0:=s1.free hF;refine⟨_,rfl,_,_,rfl,rfl,⟨by decide,by decide⟩,?_⟩;refine⟨λσ' H'=>∃(v5 v6 v8 v9 v10 v11:Option V) (as:List Addr) (ts:List bx),σ'=[some (.ref p),some (.int c),some (.str (S ls)),some (.int m),some (.int wy),v5,v6,some (.ref F),v8,v9,v10,v11]/\Same H H'/\H' F=some (.lst (as.map V.ref))/\cO H' as ts/\(∀t∈ts,inB r w t)/\ts≠[]/\ts.length<=7/\Kh ts,?_,?_⟩
  ·refine⟨λmm σ H'=>∃(i j:Nat) (bl re:Int) (v10 v11:Option V) (as:List Addr) (ts:List bx),σ=[some (.ref p),some (.int c),some (.str (S ls)),some (.int m),some (.int wy),some (.int i),some (.int j),some (.ref F),some (.int bl),some (.int re),v10,v11]/\Same H H'/\H' F=some (.lst (as.map V.ref))/\cO H' as ts/\(∀t∈ts,inB r w t)/\ts.length<=m/\(wy=0->ts.Pairwise (λa b=>a.2.1 < b.2.1)/\∀t∈ts,t.1=i/\t.2.1 < j)/\(wy=1->ts.Pairwise (λa b=>a.1 < b.1)/\∀t∈ts,t.1 < i)/\((i=i0/\j=j0/\ts=[])\/ts≠[])/\i<=r/\j<=w/\mm=(r+w)-(i+j),
    ⟨_,i0,j0,_,_,none,none,[],[],rfl,s1.bK hF0,ao,cO.nil,λt h=>by simp at h,Nat.zero_le _,λ_=>⟨.nil,λt h=>by simp at h⟩,λ_=>⟨.nil,λt h=>by simp at h⟩,.inl ⟨rfl,rfl,rfl⟩,by omega,by omega,rfl⟩,?_⟩
   rintro mm σ H2 ⟨i,j,bl,re,v10,v11,as,ts,rfl,sm,yR,hL,hin,hlen,hl0,hl1,hst,hir,hjw,rfl⟩;have hpS:=aK.of (K:=K) (sm _ _ hp);have hal:=hL.len;have ex:ts≠[]->∃(v5 v6 v8 v9 w10 w11:Option V) (as:List Addr) (ts:List bx),([some (.ref p),some (.int c),some (.str (S ls)),some (.int m),some (.int wy),some (.int i),some (.int j),some (.ref F),some (.int bl),some (.int re),v10,v11]:St)=[some (.ref p),some (.int c),some (.str (S ls)),some (.int m),some (.int wy),v5,v6,some (.ref F),v8,v9,w10,w11]/\Same H H2/\H2 F=some (.lst (as.map V.ref))/\cO H2 as ts/\(∀t∈ts,inB r w t)/\ts≠[]/\ts.length<=7/\Kh ts:=λhne=>by
    refine⟨_,_,_,_,_,_,as,ts,rfl,sm,yR,hL,hin,hne,by omega,?_⟩;by_cases z:wy=0
    ·exact .inl ((aah λt ht=>((hl0 z).2 t ht).1).and (hl0 z).1)
    ·exact .inr (hl1 (by omega)).1
   refine⟨_,rfl,_,rfl,p,_,rfl,.inr hpS,_,_,rfl,rfl,_,rfl,?_⟩;rw[jd];by_cases c1:(i:Int) < (r:Int)
   ·rw[decide_eq_true c1]
    refine bw ⟨_,rfl,_,rfl,p,_,_,.str (S rows[0]),rfl,rfl,hpS,aF (j:=0) (gG (by simp[h0])),_,rfl,Nat.le_of_lt (aD (by omega)),_,_,rfl,rfl,_,rfl,?_⟩;rw[hw0];by_cases c2:(j:Int) < (w:Int)
    ·rw[decide_eq_true c2]
     refine bw ⟨_,rfl,F,_,rfl,.inl (aN.of yR),_,rfl,_,_,rfl,rfl,_,rfl,?_⟩;rw[List.length_map];by_cases c3:(as.length:Int) < (m:Int)
     ·rw[decide_eq_true c3]
      have g1:i < rows.length:=by rw[hb.len];omega
      have hwi:rows[i].length=w:=hb.iw _ (List.getElem_mem _);have g2:j < rows[i].length:=by omega
      have hce:=cell_eq g1 g2;refine bw ⟨λσ' H'=>∃(bl re:Int) (v10 v11:Option V) (as:List Addr) (ts:List bx),σ'=[some (.ref p),some (.int c),some (.str (S ls)),some (.int m),some (.int wy),some (.int ((i+wy:Nat):Int)),some (.int ((j+1-wy:Nat):Int)),some (.ref F),some (.int bl),some (.int re),v10,v11]/\Same H H'/\H' F=some (.lst (as.map V.ref))/\cO H' as ts/\(∀t∈ts,inB r w t)/\ts.length<=m/\(wy=0->ts.Pairwise (λa b=>a.2.1 < b.2.1)/\∀t∈ts,t.1=i/\t.2.1<=j)/\(wy=1->ts.Pairwise (λa b=>a.1 < b.1)/\∀t∈ts,t.1<=i)/\ts≠[],?_,?_⟩
      ·rintro σ' H' ⟨bl,re,v10,v11,as,ts,rfl,sm',hF',hL',Ys,hlen',R9,hl1',hne⟩
       refine⟨(r+w)-(i+wy+(j+1-wy)),by omega,i+wy,j+1-wy,bl,re,v10,v11,as,ts,rfl,sm',hF',hL',Ys,hlen',λz=>⟨(R9 z).1,λt ht=>?_⟩,λz=>⟨(hl1' z).1,λt ht=>?_⟩,.inr hne,by omega,by omega,rfl⟩
       ·have:=(R9 z).2 t ht;omega
       ·have:=(hl1' z).2 t ht;omega
      refine⟨λσ' H'=>∃(bl re:Int) (v10 v11:Option V) (as:List Addr) (ts:List bx),σ'=[some (.ref p),some (.int c),some (.str (S ls)),some (.int m),some (.int wy),some (.int i),some (.int j),some (.ref F),some (.int bl),some (.int re),v10,v11]/\Same H H'/\H' F=some (.lst (as.map V.ref))/\cO H' as ts/\(∀t∈ts,inB r w t)/\ts.length<=m/\(wy=0->ts.Pairwise (λa b=>a.2.1 < b.2.1)/\∀t∈ts,t.1=i/\t.2.1<=j)/\(wy=1->ts.Pairwise (λa b=>a.1 < b.1)/\∀t∈ts,t.1<=i)/\ts≠[],?_,?_⟩
      ·refine⟨_,rfl,_,rfl,p,_,_,.str (S rows[i]),rfl,rfl,hpS,aF (gG (by simp[g1])),_,rfl,rows[i],_,rows[i][j],rfl,rfl,Nat.le_of_lt (aD (by omega)),aF (by simp[g2]),[rows[i][j]],[46],rfl,rfl,_,rfl,?_⟩
       rw[<- hce];by_cases hc:cell rows i j=46
       ·rw[decide_eq_true (show [cell rows i j]=[46] by rw[hc])]
        have e3:(((as.map V.ref).length:Nat):Int)+3=((as.length+3:Nat):Int):=by rw[List.length_map];omega
        refine bw ⟨_,rfl,_,rfl,F,_,rfl,.inl (aN.of yR),_,_,rfl,rfl,c,as.length+3,by show [V.int c,V.int ((((as.map V.ref).length:Nat):Int)+3)]=_;rw[e3],by omega,λnu=>?_⟩;refine⟨λσ' H'=>H'=H2/\∃nu re:Int,σ'=[some (.ref p),some (.int c),some (.str (S ls)),some (.int m),some (.int wy),some (.int i),some (.int j),some (.ref F),some (.int bl),some (.int re),some (.int nu),v11],?_,?_⟩
        ·exact⟨_,rfl,_,_,rfl,rfl,⟨by decide,by decide⟩,_,_,rfl,rfl,(by show (0:Int) < 2;decide),rfl,_,rfl,jV (λ_=>⟨_,rfl,_,_,rfl,rfl,(by show (0:Int) < 2000;decide),_,rfl,_,_,rfl,rfl,⟨by decide,by decide⟩,rfl,_,_,rfl⟩) (λ_=>⟨rfl,_,_,rfl⟩)⟩
        rintro σ' H' ⟨rfl,nu,re,rfl⟩;refine⟨_,rfl,_,rfl,_,ls,rfl,hA,λz hz=>?_⟩;refine⟨λσ' n_=>n_=H'/\∃z:Nat,lV z/\σ'=[some (.ref p),some (.int c),some (.str (S ls)),some (.int m),some (.int wy),some (.int i),some (.int j),some (.ref F),some (.int bl),some (.int re),some (.int nu),some (.str (S [z]))],?_,?_⟩
        ·exact⟨_,rfl,rfl,_,rfl,jV (λ_=>⟨_,rfl,rfl,[z],rfl,rfl,by show 1<=1000;decide,λd hd=>by rw[List.mem_singleton.mp hd];exact hz.lt,rfl,_,adu hz,rfl⟩) (λ_=>⟨rfl,z,hz,rfl⟩)⟩
        rintro σ' n_ ⟨rfl,z,hz,rfl⟩;refine⟨_,rfl,_,rfl,_,rfl,rfl,[z],rfl,rfl,by show 1<=1000;decide,λd hd=>by rw[List.mem_singleton.mp hd];exact hz.lt,_,_,rfl,rfl,.inr ⟨_,rfl,_,_,rfl,rfl,?_⟩⟩;refine⟨_,rfl,.inl ⟨rfl,_,aN.of yR⟩,_,rfl,_,rfl,_,rfl,by show 3<=sizeLine;decide,λb hbn=>?_⟩;have k5:Same n_ (upd n_ b (HO.tup [.int i,.int j,.str (S [z])])):=Same.upd hbn;have Qs:=k5 _ _ yR;refine⟨F,_,_,rfl,rfl,Qs,by rw[List.length_map];exact aD (by omega),?_⟩;refine⟨_,re,_,_,as++[b],ts++[(i,j,z)],rfl,(sm.trans k5).bK hF0,by rw[ao];simp,?_,λt ht=>?_,by rw[List.length_append];simp;omega,λy=>⟨?_,λt ht=>?_⟩,λy=>⟨?_,λt ht=>?_⟩,by simp⟩
        ·exact((hL.mv k5).snoc (t:=(i,j,z)) ao).jo (kI Qs)
        ·rcases List.mem_append.mp ht with y | y
         ·exact hin t y
         ·rw[List.mem_singleton.mp y];exact⟨by show i < r;omega,by show j < w;omega,hz⟩
        ·rw[List.pairwise_append]
         refine⟨(hl0 y).1,List.pairwise_singleton _ _,λa ha b' hb'=>?_⟩;rw[List.mem_singleton.mp hb'];exact((hl0 y).2 a ha).2
        ·rcases List.mem_append.mp ht with x | x
         ·have:=(hl0 y).2 t x;exact⟨this.1,Nat.le_of_lt this.2⟩
         ·rw[List.mem_singleton.mp x];exact⟨rfl,Nat.le_refl _⟩
        ·rw[List.pairwise_append]
         refine⟨(hl1 y).1,List.pairwise_singleton _ _,λa ha b' hb'=>?_⟩;rw[List.mem_singleton.mp hb'];exact(hl1 y).2 a ha
        ·rcases List.mem_append.mp ht with x | x
         ·have:=(hl1 y).2 t x;omega
         ·rw[List.mem_singleton.mp x];exact Nat.le_refl _
       ·rw[decide_eq_false (show ¬[cell rows i j]=[46] from λz=>hc (by injection z))]
        refine aU ⟨bl,re,v10,v11,as,ts,rfl,sm,yR,hL,hin,hlen,λy=>⟨(hl0 y).1,λt ht=>⟨((hl0 y).2 t ht).1,Nat.le_of_lt ((hl0 y).2 t ht).2⟩⟩,λy=>⟨(hl1 y).1,λt ht=>Nat.le_of_lt ((hl1 y).2 t ht)⟩,?_⟩;rcases hst with⟨z1,z2,_⟩ | z
        ·rw[z1,z2]at hc;exact absurd hc0 hc
        ·exact z
      ·rintro σ' H' ⟨bl,re,v10,v11,as,ts,rfl,sm',hF',hL',Ys,hlen',R9,hl1',hne⟩
       refine⟨_,rfl,_,rfl,_,_,rfl,rfl,?_⟩;refine⟨_,rfl,_,_,rfl,rfl,_,rfl,_,_,rfl,rfl,?_⟩;refine⟨bl,re,v10,v11,as,ts,?_,sm',hF',hL',Ys,hlen',R9,hl1',hne⟩;rw[show ((i+wy:Nat):Int)=(i:Int)+(wy:Int) by omega,show ((j+1-wy:Nat):Int)=(j:Int)+1-(wy:Int) by omega];rfl
     ·rw[decide_eq_false c3]
      refine aU (ex ?_);rcases hst with⟨_,_,z⟩ | z
      ·rw[z]at hal
       have:as.length=0:=hal;omega
      ·exact z
    ·rw[decide_eq_false c2]
     refine aU (aU (ex ?_));rcases hst with⟨_,z,_⟩ | z
     ·omega
     ·exact z
   ·rw[decide_eq_false c1]
    refine aU (aU (ex ?_));rcases hst with⟨z,_,_⟩ | z
    ·omega
    ·exact z
  ·rintro σ' H' ⟨v5,v6,v8,v9,v10,v11,as,ts,rfl,sm,yR,hL,hin,hne,h7,hline⟩
   refine⟨_,rfl,F,_,rfl,.inl ⟨aN.of yR,λT hT=>?_⟩⟩;have k:Same H' (upd H' T (HO.tup (as.map V.ref))):=Same.upd hT;exact q T as ts _ (sm.trans k) ao (hL.mv k) hin hne h7 hline
end
end My
end
section
namespace My
open PySem L2
section
variable {P:Program}{w:World}{K:PySem.W.Frag}{mg:Str->Option Value}{base:Heap}
def Vt:Sp:=λvs H Q _=>∃(pr t:Addr) (as:List Addr) (ts:List bx) (r w:Nat) (rows:List (List Nat)),vs=[.ref pr,.ref t]/\H pr=some (.tup (Ts rows))/\Blk r w rows/\r<=9/\w<=9/\H t=some (.tup (as.map V.ref))/\cO H as ts/\(∀t∈ts,inB r w t)/\
 ∀(M:Addr) (ps:List Addr) (H':Hp),Same H H'->H' M=some (.lst (ps.map V.ref))->dN H H' ps (bJ rows ts)->Q (.ref M) H'
theorem aa_ (D:aG K mg "_law_grid" Fq ["_law_rows_here","_law_laying"])(kE:mg "list"=none):Def P w K mg base "_law_grid" 1 ["_law_rows_here","_law_laying"] Vt:=by
 refine D.cU vU (λvs H Q E h=>?_) (λf cdv A outer s H vs Q E hr h=>?_)
 ·obtain⟨pr,t,as,ts,r,w,rows,rfl,_⟩:=h
  rfl
 ·obtain⟨pr,t,as,ts,r,w,rows,rfl,hpr,hbr,r9,w9,ht,hL,hin,q⟩:=h
  refine⟨_,(au (Bg (ix:=2) (ns:=["_law_row"]) vU.nd rfl (Or.inl rfl) rfl (d_.of ["_law_rows_here","_law_laying","_law_grid_here",".3","_law_column","_law_sign_here"] [3] (by kernel_rfl)) (dz (qv 0)) (λ_ _ _ _ _=>(rQ (show (["_law_row","_law_rows_here","_law_laying","_law_grid_here",".3","_law_column","_law_sign_here"]:List Str).Nodup by decide +kernel) rfl (by rfl))) (λ_ _ _ _ _=>cH) (λ_ _ _ _ _=>(fU (wR rfl) (by rfl) kE PyProof.Rows.boot_list (aj (qv 0) ak)))) (au (dF PassesOwn.never rfl (dz (qv 1)) (lQ rfl (bT (bI (i:=3) vU.nd rfl (Or.inl rfl)) (bT (bI (i:=4) vU.nd rfl (Or.inl rfl)) (bT (bI (i:=5) vU.nd rfl (Or.inl rfl)) jQ)))) (aA (Eu (qv 5) (KR (aL d7 (qv 2) (qv 3) (λ_ _=>rfl)) (qv 4) set_list)))) (aA (aQ (qv 2))))),?_⟩;refine⟨_,rfl,pr,rfl,⟨_,aK.of hpr⟩,λM hM=>wQ (f:=dR [3] 0) (tt:=gq) (xs:=Ts rows) (λi ys H2=>∃ps:List Addr,ys=ps.map V.ref/\H2 M=some (.lst ys)/\Same H H2/\dN H H2 ps (rows.take i)/\M∉ps)
   ⟨[],rfl,ao,Same.upd hM,⟨by simp,List.nodup_nil,λp h=>by simp at h,λi h=>by simp at h⟩,by simp⟩ (λi ys H2 _ h=>by obtain⟨_,_,_,sm,_⟩:=h;exact aK.of (sm _ _ hpr)) ?_ ?_⟩
  ·rintro i x ys H2 hi ⟨ps,rfl,je,sm,lW,nM⟩
   obtain⟨l,hl,rfl⟩:=sY hi;have hil:i < (Ts rows).length:=(List.getElem?_eq_some_iff.mp hi).1;have tu:l.length=w:=hbr.iw _ (List.mem_of_getElem? hl);have jd:(Ts rows).length=r:=by rw[List.length_map,hbr.len]
   have hpl:ps.length<=9:=by rw[lW.len,List.length_take,hbr.len];omega
   refine Z9 ⟨_,rfl,l,rfl,by omega,λc hc=>?_⟩;have Lz:M≠c:=λz=>by rw[<- z,je]at hc;cases hc
   have ncp:c∉ps:=λz=>by
    obtain⟨k,hk,e⟩:=List.mem_iff_getElem.mp z;have:=lW.at_ k hk;rw[e,hc]at this;cases this
   refine⟨by rw[aP Lz];exact je,by rw[List.length_map];exact aD (by omega),dh.mk hil ⟨ps++[c],by simp,ao,(sm.bK (sm.free hc)).bK hM,?_,?_⟩⟩
   ·rw[show rows.take (i+1)=rows.take i++[l] by rw[List.take_add_one,hl];rfl]
    refine dN.mv ((lW.Qp (Same.upd hc)).snoc ncp (sm.free hc) ao) λy hy=>aP λz=>?_;rcases List.mem_append.mp hy with u | u
    ·exact nM (z ▸ u)
    ·exact Lz (z.symm.trans (List.mem_singleton.mp u))
   ·intro z
    rcases List.mem_append.mp z with u | u
    ·exact nM u
    ·exact Lz (List.mem_singleton.mp u)
  ·rintro ys H2 ⟨ps,rfl,je,sm,lW,nM⟩
   rw[List.take_of_length_le (by rw[List.length_map];exact Nat.le_refl _)]at lW;refine⟨_,rfl,t,rfl,⟨_,aK.of (sm _ _ ht)⟩,mU (K:=K) (a:=t) (xs:=as.map V.ref) (λi σ H3=>∃v3 v4 v5:Option V,σ=[some (.ref pr),some (.ref t),some (.ref M),v3,v4,v5]/\Same H H3/\H3 M=some (.lst (ps.map V.ref))/\dN H H3 ps (bJ rows (ts.take i)))
    ⟨none,none,none,rfl,sm,je,lW⟩ (λi σ H3 _ h=>by obtain⟨_,_,_,_,sm,_⟩:=h;exact aK.of (sm _ _ ht)) ?_ ?_⟩
   ·rintro i x σ H3 hx' ⟨v3,v4,v5,rfl,sm3,Cg,jM⟩
    rw[List.getElem?_map]at hx';have hi:i < as.length:=by
     rcases Nat.lt_or_ge i as.length with z | z
     ·exact z
     ·rw[List.getElem?_eq_none z]at hx';cases hx'
    rw[List.getElem?_eq_getElem hi]at hx';have hx':V.ref as[i]=x:=Option.some.inj hx';subst hx';obtain⟨u,eu,hU⟩:=hL.get hi;have hum:=List.mem_of_getElem? eu;obtain⟨u1,u2,u3⟩:=hin u hum;have hb3:Blk r w (bJ rows (ts.take i)):=iM hbr λy hy=>hin y (List.mem_of_mem_take hy);have hpl:ps.length=r:=by rw[jM.len,hb3.len]
    have hps:u.1 < ps.length:=by omega
    refine⟨as[i],_,rfl,aK.of (sm3 _ _ hU),rfl,_,_,rfl,_,_,rfl,_,_,rfl,rfl,?_⟩;refine⟨_,rfl,_,rfl,_,rfl,M,_,_,.ref ps[u.1],rfl,rfl,aN.of Cg,aF (by simp[hps]),_,rfl,ps[u.1],_,_,u.2.1,rfl,rfl,jM.at_ u.1 hps,?_,?_⟩
    ·have:((bJ rows (ts.take i)).getD u.1 []).length=w:=by
      rw[List.getD_eq_getElem?_getD,List.getElem?_eq_getElem (by rw[hb3.len];exact u1)];exact hb3.iw _ (List.getElem_mem _)
     unfold yO;rw[List.length_map,List.length_map,this,if_pos (by omega),if_pos (by omega)];congr 1
    ·refine⟨_,_,_,rfl,sm3.bK (jM.fr _ (List.getElem_mem _)),?_,?_⟩
     ·have ne:M≠ps[u.1]:=λz=>nM (by rw[z];exact List.getElem_mem _)
      rw[aP ne];exact Cg
     ·rw[show bJ rows (ts.take (i+1))=setAt (bJ rows (ts.take i)) u.1 u.2.1 u.2.2 by rw[List.take_add_one,eu];exact Jm _ _ _]
      exact jM.set hps
   ·rintro σ H3 ⟨v3,v4,v5,rfl,sm3,Cg,jM⟩
    rw[List.take_of_length_le (by rw[List.length_map,hL.len];exact Nat.le_refl _)]at jM;have B':=iM hbr hin;have hpl:ps.length=r:=by rw[jM.len,B'.len]
    exact⟨_,rfl,q M ps H3 sm3 Cg jM⟩
theorem Yt {l:List Nat}{k low:Nat}(h1:low<=k)(hk:k<=l.length)(h2:∀m,low<=m->m < k->l[m]?≠some 46)(h3:low=0\/l[low-1]?=some 46):cZ (l.take k)=(l.take k).drop low:=by
 rcases h3 with e | e
 ·subst e
  rw[List.drop_zero];refine zq λhm=>?_;obtain⟨m,hm⟩:=List.mem_iff_getElem?.mp hm;have hmk:m < (l.take k).length:=(List.getElem?_eq_some_iff.mp hm).1;rw[List.length_take]at hmk;exact h2 m (by omega) (by omega) (by rw[List.getElem?_take,if_pos (by omega)]at hm;exact hm)
 ·by_cases h0:low=0
  ·subst h0
   rw[List.drop_zero];refine zq λhm=>?_;obtain⟨m,hm⟩:=List.mem_iff_getElem?.mp hm;have hmk:m < (l.take k).length:=(List.getElem?_eq_some_iff.mp hm).1;rw[List.length_take]at hmk;exact h2 m (by omega) (by omega) (by rw[List.getElem?_take,if_pos (by omega)]at hm;exact hm)
  ·have:=K5 (l:=l.take k) (i:=low-1) (by rw[List.getElem?_take,if_pos (by omega)];exact e) (λm hm z=>by
    have hmk:m < (l.take k).length:=(List.getElem?_eq_some_iff.mp z).1;rw[List.length_take]at hmk;rw[List.getElem?_take,if_pos (by omega)]at z;exact h2 m (by omega) (by omega) z)
   rw[this,show low-1+1=low by omega]
theorem Vu {l:List Nat}{k high:Nat}(h1:k<=high)(hk:high<=l.length)(h2:∀m,k<=m->m < high->l[m]?≠some 46)(h3:high=l.length\/l[high]?=some 46):d8 (l.drop k)=(l.drop k).take (high-k):=by
 rcases h3 with e | e
 ·rw[List.take_of_length_le (by rw[List.length_drop];omega)]
  refine zp λhm=>?_;obtain⟨m,hm⟩:=List.mem_iff_getElem?.mp hm;have hmk:m < (l.drop k).length:=(List.getElem?_eq_some_iff.mp hm).1;rw[List.length_drop]at hmk;rw[List.getElem?_drop]at hm;exact h2 (k+m) (by omega) (by omega) hm
 ·refine wO (by rw[List.getElem?_drop,show k+(high-k)=high by omega];exact e) λm hm z=>?_
  rw[List.getElem?_drop]at z;exact h2 (k+m) (by omega) (by omega) z
theorem abb {l:List Nat}{k low high:Nat}(a1:low<=k)(a2:k<=high)(a3:high<=l.length)(b1:cZ (l.take k)=(l.take k).drop low)(b2:d8 (l.drop k)=(l.drop k).take (high-k)) :
  cZ (l.take k)++d8 (l.drop k)=(l.drop low).take (high-low)/\(cZ (l.take k)).length=k-low:=by
 constructor
 ·rw[b1,b2,List.drop_take,show high-low=(k-low)+(high-k) by omega,List.take_add,List.drop_drop,show low+(k-low)=k by omega]
 ·rw[b1,List.length_drop,List.length_take];omega
abbrev tD:=Nat × Nat × Nat × List Nat
def LQ (H:Hp)(a:Addr)(q:tD):Prop:=H a=some (.tup [.int q.1,.int q.2.1,.int q.2.2.1,.str (S q.2.2.2)])
def lJ (R:List (List Nat))(i j wy:Nat):tD:=
 (if wy=0 then i else i-(cZ ((lineOf R i j (wy:Int)).take i)).length,if wy=0 then j-(cZ ((lineOf R i j (wy:Int)).take j)).length else j,wy,cZ ((lineOf R i j (wy:Int)).take (placeOf i j (wy:Int)))++d8 ((lineOf R i j (wy:Int)).drop (placeOf i j (wy:Int))))
def eY (wy i x:Nat):Nat:=if wy=0 then i else x
def clo (wy j x:Nat):Nat:=if wy=0 then x else j
theorem Vv {r w:Nat}{R:List (List Nat)}(hb:Blk r w R){i j wy x:Nat}(hi:i < r)(hx:x < (lineOf R i j (wy:Int)).length):cell R (eY wy i x) (clo wy j x)=(lineOf R i j (wy:Int))[x]:=by
 unfold eY clo;by_cases h:wy=0
 ·subst h
  rw[if_pos rfl,if_pos rfl];have hx':x < (R.getD i []).length:=hx;have h1:(R.getD i []).getD x 0=(R.getD i [])[x]:=by rw[List.getD_eq_getElem?_getD (l:=R.getD i []),List.getElem?_eq_getElem hx'];rfl
  exact h1
 ·rw[if_neg h,if_neg h]
  have e:lineOf R i j (wy:Int)=ur R j:=if_neg (by omega);have hx':x < (ur R j).length:=by rw[<- e];exact hx
  have:(lineOf R i j (wy:Int))[x]=(ur R j)[x]:=by simp only[e]
  rw[this];unfold ur at hx' ⊢;rw[List.length_map]at hx';rw[List.getElem_map];unfold cell;rw[List.getD_eq_getElem?_getD (l:=R),List.getElem?_eq_getElem hx'];rfl
theorem xg {H0 H:Hp}{ps:List Addr}{R:List (List Nat)}{r w a b:Nat}(h:dN H0 H ps R)(hb:Blk r w R)(ha:a < r)(hbw:b < w):∃(hp:a < ps.length),H ps[a]=some (.lst (Ts (ones (R.getD a []))))/\(Ts (ones (R.getD a [])))[b]?=some (.str (S [cell R a b]))/\(Ts (ones (R.getD a []))).length=w:=by
 have hp:a < ps.length:=by rw[h.len,hb.len];exact ha
 have hra:a < R.length:=by rw[hb.len];exact ha
 have hg:R.getD a []=R[a]:=by rw[List.getD_eq_getElem?_getD,List.getElem?_eq_getElem hra];rfl
 have hl:R[a].length=w:=hb.iw _ (List.getElem_mem _);refine⟨hp,h.at_ a hp,?_,by rw[List.length_map,List.length_map,hg,hl]⟩;have qy:b < R[a].length:=by omega
 rw[hg,cell_eq hra qy];simp[Ts,ones,qy]
def Vw (K:PySem.W.Frag):Sp:=λvs H Q _=>∃(M:Addr) (H0:Hp) (ps:List Addr) (R:List (List Nat)) (r w i j wy:Nat),vs=[.ref M,.int i,.int j,.int wy]/\H M=some (.lst (ps.map V.ref))/\dN H0 H ps R/\Blk r w R/\r<=9/\w<=9/\i < r/\j < w/\wy<=1/\
 ∀(t:Addr) (H':Hp),Same H H'->LQ H' t (lJ R i j wy)->Q (.ref t) H'
theorem R_ (D:aG K mg "_law_run" Kf ["_law_grid_here","_law_row","_law_column","_law_way"])(aX:mg "len"=none):Def P w K mg base "_law_run" 1 ["_law_grid_here","_law_row","_law_column","_law_way"] (Vw K):=by
 refine D.cU sX (λvs H Q E h=>?_) (λf cdv A outer s H vs Q E hr h=>?_)
 ·obtain⟨M,H0,ps,R,r,w,i,j,wy,rfl,_⟩:=h
  rfl
 ·obtain⟨M,H0,ps,R,r,w,i,j,wy,rfl,hM,lW,hb,r9,w9,hi,hj,hwy,q⟩:=h
  have hll:=nJ hb hi (j:=j) (way:=(wy:Int));have hk:placeOf i j (wy:Int) < (lineOf R i j (wy:Int)).length:=by
   rw[hll];unfold placeOf
   split <;> assumption
  have hl9:(lineOf R i j (wy:Int)).length<=9:=by rw[hll];split <;> assumption
  have hcell:=λx (hx:x < (lineOf R i j (wy:Int)).length)=>Vv hb hi (j:=j) (wy:=wy) hx;have hq:LQ=LQ:=rfl;have hkw:placeOf i j (wy:Int)=if wy=0 then j else i:=by
   unfold placeOf;by_cases z:wy=0
   ·rw[if_pos z,if_pos (by omega)]
   ·rw[if_neg z,if_neg (by omega)]
  have tu:(lineOf R i j (wy:Int)).length=if wy=0 then w else r:=by
   rw[hll];by_cases z:wy=0
   ·rw[if_pos z,if_pos (by omega)]
   ·rw[if_neg z,if_neg (by omega)]
  have FJ:∀k low:Nat,k=placeOf i j (wy:Int)->low+(cZ ((lineOf R i j (wy:Int)).take k)).length=k->lJ R i j wy=(eY wy i low,clo wy j low,wy,cZ ((lineOf R i j (wy:Int)).take k)++d8 ((lineOf R i j (wy:Int)).drop k)):=by
   intro k low ek hlow;unfold lJ eY clo;rw[<- ek];rw[hkw]at ek;by_cases z:wy=0
   ·rw[if_pos z]at ek
    subst ek;rw[if_pos z,if_pos z,if_pos z,if_pos z,show k-(cZ ((lineOf R i k (wy:Int)).take k)).length=low by omega]
   ·rw[if_neg z]at ek
    subst ek;rw[if_neg z,if_neg z,if_neg z,if_neg z,show k-(cZ ((lineOf R k j (wy:Int)).take k)).length=low by omega]
  generalize hLL:lineOf R i j (wy:Int)=l at hk hl9 hcell tu FJ;generalize hKK:placeOf i j (wy:Int)=k at hk hkw FJ;have FJ:=FJ k;have hz:∀n,n<=100->n<=sizeLine:=λn h=>Nat.le_of_lt (aD (by omega));have hpl:ps.length=r:=by rw[lW.len,hb.len]
  have rr:∀x,x < l.length->eY wy i x < r:=λx hx=>by
   unfold eY;split
   ·exact hi
   ·rw[tu,if_neg (by assumption)]at hx;exact hx
  have cc:∀x,x < l.length->clo wy j x < w:=λx hx=>by
   unfold clo;split
   ·rw[tu,if_pos (by assumption)]at hx;exact hx
   ·exact hj
  refine⟨_,(au (iG (Cz PassesOwn.never (QW.qt (iY (bh Ri (qv 1) (qv 3) (aY _)) (iY (bh Ri (qv 2) (aH gR aq (qv 3)) (aY _)) (lB (bh j8 (aL d7 (aL d7 (qv 0) (aH gR (qv 1) (qv 3)) (λ_ _=>rfl)) (aH b_ (aH gR (qv 2) aq) (qv 3)) (λ_ _=>rfl)) (bN [46] (by decide +kernel)) (aY _)))))) (au (aM (i:=1) sX.nd rfl (Or.inl rfl) (aH gR (qv 1) (qv 3))) (aA (aM (i:=2) sX.nd rfl (Or.inl rfl) (aH b_ (aH gR (qv 2) aq) (qv 3))))))) (au (aM (i:=4) sX.nd rfl (Or.inl rfl) (bN [] (by decide +kernel))) (au (aM (i:=5) sX.nd rfl (Or.inl rfl) (bZ (aj (qv 1) (aj (qv 2) ak)))) (au (iG (Cz PassesOwn.never (QW.qt (iY (bh jt (aL aW (qv 5) aq (λ_ _=>rfl)) (aJ bL (by rfl) aX PySem.boot_len (aj (qv 0) ak)) (aY _)) (iY (bh jt (aL aW (qv 5) aq (λ_ _=>rfl)) (aJ bL (by rfl) aX PySem.boot_len (aj (aL d7 (qv 0) aq (λ_ _=>rfl)) ak)) (aY _)) (lB (bh j8 (aL d7 (aL d7 (qv 0) (aL aW (qv 5) aq (λ_ _=>rfl)) (λ_ _=>rfl)) (aL aW (qv 5) aq (λ_ _=>rfl)) (λ_ _=>rfl)) (bN [46] (by decide +kernel)) (aY _)))))) (au (aM (i:=4) sX.nd rfl (Or.inl rfl) (aH lu (qv 4) (aL d7 (aL d7 (qv 0) (aL aW (qv 5) aq (λ_ _=>rfl)) (λ_ _=>rfl)) (aL aW (qv 5) aq (λ_ _=>rfl)) (λ_ _=>rfl)))) (aA (aM (i:=5) sX.nd rfl (Or.inl rfl) (bZ (aj (aH b_ (aL aW (qv 5) aq (λ_ _=>rfl)) (qv 3)) (aj (aH gR (aH b_ (aL aW (qv 5) aq (λ_ _=>rfl)) aq) (qv 3)) ak)))))))) (aA (aQ (bZ (aj (qv 1) (aj (qv 2) (aj (qv 3) (aj (qv 4) ak))))))))))),?_⟩;have hM':aN K H M (ps.map V.ref):=aN.of hM;refine⟨λσ H'=>H'=H/\∃low:Nat,low<=k/\σ=[some (.ref M),some (.int (eY wy i low)),some (.int (clo wy j low)),some (.int wy),none,none]/\(∀x,low<=x->x < k->l[x]?≠some 46)/\(low=0\/l[low-1]?=some 46),?_,?_⟩
  ·refine⟨λm σ H'=>H'=H/\m<=k/\σ=[some (.ref M),some (.int (eY wy i m)),some (.int (clo wy j m)),some (.int wy),none,none]/\∀x,m<=x->x < k->l[x]?≠some 46,⟨k,rfl,Nat.le_refl _,?_,λx h1 h2=>by omega⟩,?_⟩
   ·unfold eY clo
    by_cases z:wy=0
    ·rw[if_pos z,if_pos z,hkw,if_pos z];rfl
    ·rw[if_neg z,if_neg z,hkw,if_neg z];rfl
   rintro m σ H' ⟨rfl,hm,rfl,hx⟩;have adv:m=0->H'=H'/\∃low:Nat,low<=k/\([some (.ref M),some (.int (eY wy i m)),some (.int (clo wy j m)),some (.int wy),none,none]:St)=[some (.ref M),some (.int (eY wy i low)),some (.int (clo wy j low)),some (.int wy),none,none]/\(∀x,low<=x->x < k->l[x]?≠some 46)/\(low=0\/l[low-1]?=some 46):=λz=>⟨rfl,m,hm,rfl,hx,.inl z⟩
   refine⟨_,rfl,_,rfl,_,_,rfl,rfl,_,rfl,jV (λhc1=>?_) (λhc1=>?_)⟩
   ·refine⟨_,rfl,_,rfl,_,_,rfl,rfl,_,_,rfl,rfl,_,rfl,jV (λhc2=>?_) (λhc2=>?_)⟩
    ·have d1:(wy:Int)<=(eY wy i m:Int):=of_decide_eq_true hc1
     have d2:1-(wy:Int)<=(clo wy j m:Int):=of_decide_eq_true hc2;have hm0:0 < m:=by
      unfold eY at d1;unfold clo at d2;by_cases z:wy=0
      ·rw[if_pos z]at d2;omega
      ·rw[if_neg z]at d1;omega
     have hm1:m-1 < l.length:=by omega
     obtain⟨g1,g2,g3,_⟩:=xg lW hb (rr (m-1) hm1) (cc (m-1) hm1);have er:(eY wy i m:Int)-(wy:Int)=(eY wy i (m-1):Int):=by
      unfold eY;by_cases z:wy=0
      ·rw[if_pos z,if_pos z];omega
      ·rw[if_neg z,if_neg z];omega
     have ec:(clo wy j m:Int)-1+(wy:Int)=(clo wy j (m-1):Int):=by
      unfold clo;by_cases z:wy=0
      ·rw[if_pos z,if_pos z];omega
      ·rw[if_neg z,if_neg z];omega
     refine⟨_,rfl,_,rfl,_,rfl,_,_,rfl,rfl,M,_,_,.ref ps[eY wy i (m-1)],rfl,rfl,hM',by show mV _ ((eY wy i m:Int)-(wy:Int))=_;rw[er];exact aF (by simp[g1]),_,rfl,_,_,rfl,rfl,_,rfl,_,_,rfl,rfl,ps[eY wy i (m-1)],_,_,.str (S [cell R (eY wy i (m-1)) (clo wy j (m-1))]),rfl,rfl,aN.of g2,by show mV _ ((clo wy j m:Int)-1+(wy:Int))=_;rw[ec];exact aF g3,_,_,rfl,rfl,_,rfl,?_⟩;rw[hcell _ hm1];by_cases hne:l[m-1]=46
     ·rw[decide_eq_true (show [l[m-1]]=[46] by rw[hne])]
      exact aU ⟨rfl,m,hm,rfl,hx,.inr (by rw[List.getElem?_eq_getElem hm1,hne])⟩
     ·rw[decide_eq_false (show ¬[l[m-1]]=[46] by simpa using hne)]
      refine bw ⟨λσ H4=>H4=H'/\σ=[some (.ref M),some (.int (eY wy i (m-1))),some (.int (clo wy j (m-1))),some (.int wy),none,none],λσ' n_ ⟨e1,e2⟩=>⟨m-1,by omega,e1,by omega,e2,λx h1 h2=>?_⟩,?_⟩
      ·by_cases hx2:x=m-1
       ·subst hx2;rw[List.getElem?_eq_getElem hm1];simpa using hne
       ·exact hx x (by omega) h2
      ·refine⟨_,rfl,_,rfl,_,_,rfl,rfl,_,rfl,_,_,rfl,rfl,_,rfl,_,_,rfl,rfl,rfl,?_⟩
       rw[<- er,<- ec];rfl
    ·refine aU (adv ?_)
     have d2:¬1-(wy:Int)<=(clo wy j m:Int):=λz=>hc2 (decide_eq_true z);unfold clo at d2;by_cases z:wy=0
     ·rw[if_pos z]at d2;omega
     ·rw[if_neg z]at d2;omega
   ·refine aU (adv ?_)
    have d1:¬(wy:Int)<=(eY wy i m:Int):=λz=>hc1 (decide_eq_true z);unfold eY at d1;by_cases z:wy=0
    ·rw[if_pos z]at d1;omega
    ·rw[if_neg z]at d1;omega
  rintro σ H' ⟨rfl,low,hlk,rfl,hx,hlow⟩;have aai:=Yt hlk (by omega) hx hlow;refine⟨_,rfl,_,rfl,by show 2<=sizeLine;decide,λt0 ht0=>?_⟩;have k0:Same H' (upd H' t0 (HO.tup [.int (eY wy i low),.int (clo wy j low)])):=Same.upd ht0;refine⟨λσ n_=>Same H' n_/\∃v5:Option V,σ=[some (.ref M),some (.int (eY wy i low)),some (.int (clo wy j low)),some (.int wy),some (.str (S (cZ (l.take k)++d8 (l.drop k)))),v5],?_,?_⟩
  ·refine⟨λm σ n_=>∃(hg:Nat) (t:Addr),low<=hg/\hg<=l.length/\m=l.length-hg/\Same H' n_/\n_ t=some (.tup [.int (eY wy i hg),.int (clo wy j hg)])/\σ=[some (.ref M),some (.int (eY wy i low)),some (.int (clo wy j low)),some (.int wy),some (.str (S ((l.drop low).take (hg-low)))),some (.ref t)]/\∀x,low<=x->x < hg->l[x]?≠some 46,
    ⟨_,low,t0,Nat.le_refl _,by omega,rfl,k0,ao,by rw[Nat.sub_self];rfl,λx h1 h2=>by omega⟩,?_⟩
   rintro m σ H2 ⟨hg,t,h1,h2,rfl,sm,ht,rfl,hy⟩;have hS:=aK.of (K:=K) ht;have je:=aN.of (K:=K) (sm _ _ hM);have adw:=lW.Qp sm;have ex:(hg=l.length\/l[hg]?=some 46)->Same H' H2/\∃v5:Option V,([some (.ref M),some (.int (eY wy i low)),some (.int (clo wy j low)),some (.int wy),some (.str (S ((l.drop low).take (hg-low)))),some (.ref t)]:St)=[some (.ref M),some (.int (eY wy i low)),some (.int (clo wy j low)),some (.int wy),some (.str (S (cZ (l.take k)++d8 (l.drop k)))),v5]:=λhend=>by
    have hkg:k<=hg:=by
     rcases Nat.lt_or_ge hg k with z | z
     ·rcases hend with e | e
      ·omega
      ·exact absurd e (hx hg h1 z)
     ·exact z
    obtain⟨c1,_⟩:=abb hlk hkg h2 aai (Vu hkg h2 (λx a b=>hy x (by omega) b) hend);exact⟨sm,_,by rw[c1]⟩
   have hlz:l.length-0=l.length:=rfl;obtain⟨gz,gz1,_,gz2⟩:=xg adw hb (show 0 < r by omega) (show 0 < w by omega);refine⟨_,rfl,t,_,_,_,rfl,rfl,hS,aF (j:=0) rfl,_,rfl,M,_,rfl,.inl je,_,_,rfl,rfl,_,rfl,jV (λhc1=>?_) (λhc1=>?_)⟩
   ·refine⟨_,rfl,t,_,_,_,rfl,rfl,hS,aF (j:=1) rfl,_,rfl,M,_,_,.ref ps[0],rfl,rfl,je,aF (j:=0) (by simp[gz]),ps[0],_,rfl,.inl (aN.of gz1),_,_,rfl,rfl,_,rfl,jV (λhc2=>?_) (λhc2=>?_)⟩
    ·have d1:(eY wy i hg:Int) < ((ps.map V.ref).length:Int):=of_decide_eq_true hc1
     have d2:(clo wy j hg:Int) < ((Ts (ones (R.getD 0 []))).length:Int):=of_decide_eq_true hc2;rw[List.length_map,hpl]at d1;rw[gz2]at d2;have Qt:hg < l.length:=by
      rw[tu];unfold eY at d1;unfold clo at d2;by_cases z:wy=0
      ·rw[if_pos z]at d2 ⊢;omega
      ·rw[if_neg z]at d1 ⊢;omega
     obtain⟨g1,g2,g3,_⟩:=xg adw hb (rr hg Qt) (cc hg Qt);refine⟨_,rfl,_,rfl,t,_,_,_,rfl,rfl,hS,aF (j:=0) rfl,M,_,_,.ref ps[eY wy i hg],rfl,rfl,je,aF (by simp[g1]),_,rfl,t,_,_,_,rfl,rfl,hS,aF (j:=1) rfl,ps[eY wy i hg],_,_,.str (S [cell R (eY wy i hg) (clo wy j hg)]),rfl,rfl,aN.of g2,aF g3,_,_,rfl,rfl,_,rfl,?_⟩;rw[hcell _ Qt];by_cases hne:l[hg]=46
     ·rw[decide_eq_true (show [l[hg]]=[46] by rw[hne])]
      exact aU (ex (.inr (by rw[List.getElem?_eq_getElem Qt,hne])))
     ·rw[decide_eq_false (show ¬[l[hg]]=[46] by simpa using hne)]
      have er:(eY wy i hg:Int)+(wy:Int)=(eY wy i (hg+1):Int):=by
       unfold eY;by_cases z:wy=0
       ·rw[if_pos z,if_pos z];omega
       ·rw[if_neg z,if_neg z];omega
      have ec:(clo wy j hg:Int)+1-(wy:Int)=(clo wy j (hg+1):Int):=by
       unfold clo;by_cases z:wy=0
       ·rw[if_pos z,if_pos z];omega
       ·rw[if_neg z,if_neg z];omega
      have ae2:(l.drop low).take (hg-low)++[l[hg]]=(l.drop low).take (hg+1-low):=by
       have hlen:hg-low < (l.drop low).length:=by rw[List.length_drop];omega
       rw[show hg+1-low=hg-low+1 by omega,List.take_succ,List.getElem?_eq_getElem hlen,List.getElem_drop];simp only[show low+(hg-low)=hg by omega];rfl
      refine bw ⟨λσ H4=>∃t2:Addr,Same H' H4/\H4 t2=some (.tup [.int (eY wy i (hg+1)),.int (clo wy j (hg+1))])/\σ=[some (.ref M),some (.int (eY wy i low)),some (.int (clo wy j low)),some (.int wy),some (.str (S ((l.drop low).take (hg+1-low)))),some (.ref t2)],λσ' n_ ⟨t2,e1,e2,e3⟩=>⟨l.length-(hg+1),by omega,hg+1,t2,by omega,by omega,rfl,e1,e2,e3,λx a1 a2=>?_⟩,?_⟩
      ·by_cases hx2:x=hg
       ·subst hx2;rw[List.getElem?_eq_getElem Qt];simpa using hne
       ·exact hy x a1 (by omega)
      ·refine⟨_,rfl,_,rfl,_,rfl,t,_,_,_,rfl,rfl,hS,aF (j:=0) rfl,M,_,_,.ref ps[eY wy i hg],rfl,rfl,je,aF (by simp[g1]),_,rfl,t,_,_,_,rfl,rfl,hS,aF (j:=1) rfl,ps[eY wy i hg],_,_,.str (S [cell R (eY wy i hg) (clo wy j hg)]),rfl,rfl,aN.of g2,aF g3,(l.drop low).take (hg-low),_,rfl,rfl,hz _ (by rw[List.length_take,List.length_drop];simp;omega),?_⟩
       rw[hcell _ Qt,ae2];refine⟨_,rfl,t,_,_,_,rfl,rfl,hS,aF (j:=0) rfl,_,rfl,_,_,rfl,rfl,_,rfl,t,_,_,_,rfl,rfl,hS,aF (j:=1) rfl,_,_,rfl,rfl,_,rfl,_,_,rfl,rfl,by show 2<=sizeLine;decide,λt2 Jp=>?_⟩;refine⟨t2,sm.bK (sm.free Jp),?_,rfl⟩;rw[ao,<- er,<- ec]
    ·refine aU (ex (.inl ?_))
     have d2:¬(clo wy j hg:Int) < ((Ts (ones (R.getD 0 []))).length:Int):=λz=>hc2 (decide_eq_true z);rw[gz2]at d2;rw[tu]at h2 ⊢;unfold clo at d2;by_cases z:wy=0
     ·rw[if_pos z]at d2 h2 ⊢;omega
     ·rw[if_neg z]at d2;omega
   ·refine aU (ex (.inl ?_))
    have d1:¬(eY wy i hg:Int) < ((ps.map V.ref).length:Int):=λz=>hc1 (decide_eq_true z);rw[List.length_map,hpl]at d1;rw[tu]at h2 ⊢;unfold eY at d1;by_cases z:wy=0
    ·rw[if_pos z]at d1;omega
    ·rw[if_neg z]at d1 h2 ⊢;omega
  ·rintro σ n_ ⟨sm,v5,rfl⟩
   refine⟨_,rfl,_,rfl,_,rfl,_,rfl,by show 4<=sizeLine;decide,λT hT=>?_⟩;refine q T _ (sm.bK (sm.free hT)) ?_;have hlen:low+(cZ (l.take k)).length=k:=by rw[aai,List.length_drop,List.length_take];omega
   rw[FJ low rfl hlen];exact ao
end
end My
end
section
namespace My
open PySem L2
section
variable {P:Program}{w:World}{K:PySem.W.Frag}{mg:Str->Option Value}{base:Heap}
structure cW {α:Type}(enc:α->List V)(H:Hp)(as:List Addr)(xs:List α):Prop where
 len:as.length=xs.length
 at_:∀(i:Nat) (a:Addr) (x:α),as[i]?=some a->xs[i]?=some x->H a=some (.tup (enc x))
theorem cW.jo {α:Type}{enc:α->List V}{H H':Hp}{as:List Addr}{xs:List α}(k:∀a ys,H a=some (.tup ys)->H' a=some (.tup ys))(h:cW enc H as xs):cW enc H' as xs:=⟨h.len,λi a x h1 h2=>k _ _ (h.at_ i a x h1 h2)⟩
theorem cW.mv {α:Type}{enc:α->List V}{H H':Hp}{as:List Addr}{xs:List α}(k:Same H H')(h:cW enc H as xs):cW enc H' as xs:=h.jo λa ys e=>k a _ e
theorem cW.nil {α:Type}{enc:α->List V}{H:Hp}:cW enc H [] []:=⟨rfl,λi a x h=>by simp at h⟩
theorem cW.one {α:Type}{enc:α->List V}{H:Hp}{a:Addr}{x:α}(h:H a=some (.tup (enc x))):cW enc H [a] [x]:=⟨rfl,λi b y h1 h2=>by
 match i,h1,h2 with
 | 0,h1,h2=>
  have e1:a=b:=Option.some.inj h1;have e2:x=y:=Option.some.inj h2;rw[<- e1,<- e2];exact h
 | n+1,h1,h2=>exact absurd h1 (by simp)⟩
theorem cW.app {α:Type}{enc:α->List V}{H:Hp}{as bs:List Addr}{xs ys:List α}(h:cW enc H as xs)(g:cW enc H bs ys):cW enc H (as++bs) (xs++ys):=by
 refine⟨by rw[List.length_append,List.length_append,h.len,g.len],λi a x h1 h2=>?_⟩;by_cases c:i < as.length
 ·rw[List.getElem?_append_left c]at h1
  rw[List.getElem?_append_left (by rw[<- h.len];exact c)]at h2;exact h.at_ i a x h1 h2
 ·rw[List.getElem?_append_right (by omega)]at h1
  rw[List.getElem?_append_right (by rw[<- h.len];omega),<- h.len]at h2;exact g.at_ _ a x h1 h2
theorem cW.get {α:Type}{enc:α->List V}{H:Hp}{as:List Addr}{xs:List α}(h:cW enc H as xs){i:Nat}(hi:i < as.length):∃x,xs[i]?=some x/\H as[i]=some (.tup (enc x)):=by
 have hx:i < xs.length:=by rw[<- h.len];exact hi
 exact⟨xs[i],List.getElem?_eq_getElem hx,h.at_ i _ _ (List.getElem?_eq_getElem hi) (List.getElem?_eq_getElem hx)⟩
abbrev QL:=cW (λq:tD=>[V.int q.1,V.int q.2.1,V.int q.2.2.1,V.str (S q.2.2.2)])
abbrev AL3:=cW (λq:Nat × Nat × Nat=>[V.int q.1,V.int q.2.1,V.int q.2.2])
def fV (ts:List bx):Nat:=if ts.head?.map (·.1)=ts.getLast?.map (·.1) then 0 else 1
def oY (ts:List bx):List (Nat × Nat × Nat):=(ts.take 1).map (λt=>(t.1,t.2.1,fV ts))++ts.map λt=>(t.1,t.2.1,1-fV ts)
def qd (R:List (List Nat))(a:Nat × Nat × Nat):tD:=lJ R a.1 a.2.1 a.2.2
def rF (q:tD):Bool:=decide (1 < q.2.2.2.length)
def gZ (rows:List (List Nat))(ts:List bx):List tD:=((oY ts).map (qd (bJ rows ts))).filter rF
theorem Vx (ts:List bx):fV ts<=1:=by unfold fV;split <;> decide
theorem Dd {r w:Nat}{R:List (List Nat)}(hb:Blk r w R)(r9:r<=9)(w9:w<=9){i j wy:Nat}(hi:i < r):(lJ R i j wy).2.2.2.length<=20:=by
 have hll:=nJ hb hi (j:=j) (way:=(wy:Int));have h9:(lineOf R i j (wy:Int)).length<=9:=by rw[hll];split <;> assumption
 show (cZ _++d8 _).length<=20;have a1:=mZ ((lineOf R i j (wy:Int)).take (placeOf i j (wy:Int)));have a2:=ux ((lineOf R i j (wy:Int)).drop (placeOf i j (wy:Int)));rw[List.length_take]at a1;rw[List.length_drop]at a2;rw[List.length_append];omega
theorem Jq {ts:List bx}(h:0 < ts.length):fV ts=if ts[0].1=ts[ts.length-1].1 then 0 else 1:=by
 unfold fV;rw[List.head?_eq_getElem?,List.getLast?_eq_getElem?,List.getElem?_eq_getElem h,List.getElem?_eq_getElem (by omega)];simp only[Option.map_some,Option.some.injEq]
theorem eO {H:Hp}{as:List Addr}{ts:List bx}(hL:cO H as ts){i:Nat}(hi:i < ts.length):∃(h:i < as.length),H as[i]=some (.tup [.int ts[i].1,.int ts[i].2.1,.str (S [ts[i].2.2])]):=by
 have h:i < as.length:=by rw[hL.len];exact hi
 obtain⟨t,e,ht⟩:=hL.get h;rw[List.getElem?_eq_getElem hi]at e;have e:=Option.some.inj e;rw[<- e]at ht;exact⟨h,ht⟩
theorem Hg {as:List Addr}(h:0 < as.length):mV (as.map V.ref) (-1)=some (.ref as[as.length-1]):=by
 have e:as.map V.ref=(as.take (as.length-1)).map V.ref++[V.ref as[as.length-1]]:=by
  rw[<- List.map_singleton,<- List.map_append];congr 1;have:=List.take_append_drop (as.length-1) as;rw[List.drop_eq_getElem_cons (by omega),show as.length-1+1=as.length by omega,List.drop_length]at this;exact this.symm
 rw[e];exact Xy _ _
theorem adx (a b:Nat):(if (!decide (V.int (a:Int)=V.int (b:Int)))=true then (1:Int) else 0)=((if a=b then 0 else 1:Nat):Int):=by
 by_cases h:a=b
 ·subst h;simp
 ·have:¬V.int (a:Int)=V.int (b:Int):=λz=>h (by injection z with z;exact Int.ofNat.inj z)
  simp[h,this]
def Df:Sp:=λvs H Q _=>∃(pr t:Addr) (as:List Addr) (ts:List bx) (r w:Nat) (rows:List (List Nat)),vs=[.ref pr,.ref t]/\H pr=some (.tup (Ts rows))/\Blk r w rows/\r<=9/\w<=9/\H t=some (.tup (as.map V.ref))/\cO H as ts/\(∀t∈ts,inB r w t)/\0 < ts.length/\ts.length<=7/\
 ∀(T:Addr) (bs:List Addr) (H':Hp),Same H H'->H' T=some (.tup (bs.map V.ref))->QL H' bs (gZ rows ts)->Q (.ref T) H'
theorem LR (D:aG K mg "_law_words" Bj ["_law_rows_here","_law_laying"])(aX:mg "len"=none)(jZ:mg "int"=none)(bW:mg "tuple"=none)(ady:Def P w K mg base "_law_grid" 1 ["_law_rows_here","_law_laying"] Vt)(aaj:Def P w K mg base "_law_run" 1 ["_law_grid_here","_law_row","_law_column","_law_way"] (Vw K)):Def P w K mg base "_law_words" 2 ["_law_rows_here","_law_laying"] Df:=by
 refine D.cU mJ (λvs H Q E h=>?_) (λf cdv A outer s H vs Q E hr h=>?_)
 ·obtain⟨pr,t,as,ts,r,w,rows,rfl,_⟩:=h
  rfl
 ·obtain⟨pr,t,as,ts,r,w,rows,rfl,hpr,hb,r9,w9,ht,hL,hin,h0,h7,q⟩:=h
  refine⟨_,(au (aM (i:=2) mJ.nd rfl (Or.inl rfl) (bA ady (hr.mono (by decide)) rfl (aj (qv 0) (aj (qv 1) ak)))) (au (aM (i:=3) mJ.nd rfl (Or.inl rfl) (fU Ij (by rfl) jZ PyProof.Rows.boot_int (aj (dB pD (aL aW (aL aW (qv 1) aq (λ_ _=>rfl)) aq (λ_ _=>rfl)) (aL aW (aL aW (qv 1) (wL rZ aq) (λ_ _=>rfl)) aq (λ_ _=>rfl)) (aY _)) ak))) (au (aM (i:=4) mJ.nd rfl (Or.inl rfl) (eG (aj (bA aaj (hr.mono (by decide)) rfl (aj (qv 2) (aj (aL aW (aL aW (qv 1) aq (λ_ _=>rfl)) aq (λ_ _=>rfl)) (aj (aL aW (aL aW (qv 1) aq (λ_ _=>rfl)) aq (λ_ _=>rfl)) (aj (qv 3) ak))))) ak))) (au (dF PassesOwn.never rfl (dz (qv 1)) (lQ rfl (bT (bI (i:=5) mJ.nd rfl (Or.inl rfl)) (bT (bI (i:=6) mJ.nd rfl (Or.inl rfl)) (bT (bI (i:=7) mJ.nd rfl (Or.inl rfl)) jQ)))) (aA (cX (fK PySem.F.plainAttrs_list PySem.F.slot_list_append PySem.F.type_list_append gn (qv 4) (aj (bA aaj (hr.mono (by decide)) rfl (aj (qv 2) (aj (qv 5) (aj (qv 6) (aj (aH gR aq (qv 3)) ak))))) ak))))) (aA (aQ (fU gO (by rfl) bW PyProof.Rows.boot_tuple (aj (dZ (ns:=["_law_run_here"]) rfl (d_.of ["_law_rows_here","_law_laying","_law_grid_here","_law_line","_law_runs","_law_row","_law_column","_law_sign_here"] [] (by kernel_rfl)) (fY (qv 4)) (λ_ _ _ _ _=>(rQ (show (["_law_run_here","_law_rows_here","_law_laying","_law_grid_here","_law_line","_law_runs","_law_row","_law_column","_law_sign_here"]:List Str).Nodup by decide +kernel) rfl (by rfl))) (λ_ _ _ _ _=>(vO (bh Rh (aJ cT (by rfl) aX PySem.boot_len (aj (aL (jA K) (qv 0) aq (λ_ _=>rfl)) ak)) aq (aY _)))) (λ_ _ _ _ _=>(qv 0))) ak)))))))),?_⟩;refine⟨_,rfl,_,rfl,pr,t,as,ts,r,w,rows,rfl,hpr,hb,r9,w9,ht,hL,hin,λM ps H1 s1 hM lW=>?_⟩;have hb':=iM hb hin;generalize hR:bJ rows ts=R at lW hb';have hal:=hL.len;have hL1:=hL.mv s1;obtain⟨g0,e0⟩:=eO hL1 h0;obtain⟨gl,el⟩:=eO hL1 (show ts.length-1 < ts.length by omega);have ht1:=aK.of (K:=K) (s1 _ _ ht);have eal:as.length-1=ts.length-1:=by omega
  have xq:mV (as.map V.ref) (-1)=some (.ref as[ts.length-1]):=by
   rw[Hg (show 0 < as.length by omega)];simp only[eal]
  refine⟨_,rfl,t,_,_,.ref as[0],rfl,rfl,ht1,aF (j:=0) (by simp[g0]),as[0],_,_,_,rfl,rfl,aK.of e0,aF (j:=0) rfl,_,rfl,_,rfl,t,_,_,.ref as[ts.length-1],rfl,rfl,ht1,xq,as[ts.length-1],_,_,_,rfl,rfl,aK.of el,aF (j:=0) rfl,rfl,.inr ⟨_,rfl,?_⟩⟩;dsimp only;rw[adx,<- Jq h0];have jd:=Vx ts;obtain⟨b1,b2,_⟩:=hin _ (List.getElem_mem h0);refine⟨_,rfl,_,rfl,t,_,_,.ref as[0],rfl,rfl,ht1,aF (j:=0) (by simp[g0]),as[0],_,_,_,rfl,rfl,aK.of e0,aF (j:=0) rfl,_,rfl,t,_,_,.ref as[0],rfl,rfl,ht1,aF (j:=0) (by simp[g0]),as[0],_,_,_,rfl,rfl,aK.of e0,aF (j:=1) rfl,_,rfl,M,H,ps,R,r,w,ts[0].1,ts[0].2.1,fV ts,rfl,hM,lW,hb',r9,w9,b1,b2,jd,λt1 H2 s2 hq1=>?_⟩;refine⟨by show 1<=sizeLine;decide,λL hLl=>?_⟩;have k3:Same H2 (upd H2 L (HO.lst [.ref t1])):=Same.upd hLl;have s3:=s2.trans k3;have hL0:=s2.free hLl;refine⟨_,rfl,t,rfl,⟨_,aK.of (s3 _ _ (s1 _ _ ht))⟩,mU (K:=K) (a:=t) (xs:=as.map V.ref) (λn σ H'=>∃(v5 v6 v7:Option V) (bs:List Addr),σ=[some (.ref pr),some (.ref t),some (.ref M),some (.int (fV ts)),some (.ref L),v5,v6,v7]/\Same H1 H'/\H' L=some (.lst (bs.map V.ref))/\bs.length=n+1/\QL H' bs (((ts.take 1).map (λt=>(t.1,t.2.1,fV ts))++(ts.take n).map λt=>(t.1,t.2.1,1-fV ts)).map (qd R)))
   ⟨none,none,none,[t1],rfl,s3,ao,rfl,?_⟩ (λn σ H' _ h=>by obtain⟨_,_,_,_,_,sm,_⟩:=h;exact aK.of (sm _ _ (s1 _ _ ht))) ?_ ?_⟩
  ·have e1:ts.take 1=[ts[0]]:=by rw[List.take_one,List.head?_eq_getElem?,List.getElem?_eq_getElem h0];rfl
   rw[e1,List.take_zero,List.map_nil,List.append_nil];exact cW.one (k3 _ _ hq1)
  ·rintro n x σ H' hx ⟨v5,v6,v7,bs,rfl,sm,Vy,qy,hQ⟩
   have hn:n < as.length:=by have:=(List.getElem?_eq_some_iff.mp hx).1;simpa using this
   have hnt:n < ts.length:=by omega
   rw[List.getElem?_map,List.getElem?_eq_getElem hn]at hx;have hx:V.ref as[n]=x:=Option.some.inj hx;subst hx;obtain⟨_,en⟩:=eO (hL1.mv sm) hnt;obtain⟨c1,c2,_⟩:=hin _ (List.getElem_mem hnt);refine⟨as[n],_,rfl,aK.of en,rfl,_,_,rfl,_,_,rfl,_,_,rfl,rfl,?_⟩;have e1l:(1:Int)-(fV ts:Int)=((1-fV ts:Nat):Int):=by omega
   refine⟨_,rfl,.inl ⟨rfl,_,aN.of Vy⟩,_,rfl,_,rfl,_,rfl,_,rfl,_,_,rfl,rfl,M,H,ps,R,r,w,ts[n].1,ts[n].2.1,1-fV ts,by show [V.ref M,V.int (ts[n].1:Int),V.int (ts[n].2.1:Int),V.int (1-(fV ts:Int))]=_;rw[e1l],sm _ _ hM,lW.Qp sm,hb',r9,w9,c1,c2,by omega,λt2 H4 s4 hq2=>?_⟩;have adz:=s4 _ _ Vy;refine⟨L,_,_,rfl,rfl,adz,by rw[List.length_map];exact aD (by omega),?_⟩;refine⟨_,_,_,bs++[t2],rfl,(sm.trans s4).bK hL0,by rw[ao];simp,by simp[qy],?_⟩;rw[show ts.take (n+1)=ts.take n++(some ts[n]).toList by rw[List.take_add_one,List.getElem?_eq_getElem hnt]];have e2:(((ts.take 1).map (λt=>(t.1,t.2.1,fV ts))++(ts.take n++(some ts[n]).toList).map λt=>(t.1,t.2.1,1-fV ts)).map (qd R))=(((ts.take 1).map (λt=>(t.1,t.2.1,fV ts))++(ts.take n).map λt=>(t.1,t.2.1,1-fV ts)).map (qd R))++[qd R (ts[n].1,ts[n].2.1,1-fV ts)]:=by
    rw[List.map_append (l₁:=ts.take n),<- List.append_assoc,List.map_append];rfl
   rw[e2];exact((hQ.mv s4).app (cW.one hq2)).jo (kI adz)
  ·rintro σ H' ⟨v5,v6,v7,bs,rfl,sm,Vy,qy,hQ⟩
   rw[List.length_map]at qy;rw[List.length_map,hal,List.take_length]at hQ;have hQ':QL H' bs ((oY ts).map (qd R)):=hQ;have hqb:∀n (x:tD),((oY ts).map (qd R))[n]?=some x->x.2.2.2.length<=20:=λn x hx=>by
    obtain⟨a,ha,rfl⟩:=List.mem_map.mp (List.mem_of_getElem? hx);have hi:a.1 < r:=by
     rcases List.mem_append.mp ha with z | z
     ·obtain⟨u,hu,rfl⟩:=List.mem_map.mp z
      exact(hin u (List.mem_of_mem_take hu)).1
     ·obtain⟨u,hu,rfl⟩:=List.mem_map.mp z
      exact(hin u hu).1
    exact Dd hb' r9 w9 hi
   refine⟨_,rfl,L,rfl,⟨_,aN.of Vy⟩,λN hN=>uZ (K:=K) (a:=L) (f:=dR [] 0) (tt:=wF (n6 (Em λi j=>V.bl (decide (j < i))) (Kv Rx (m8 (n6 (Ky K) (gK 0) (tC (V.int 3))) su)) (tC (V.int 1)))) (te:=gK 0) (xs:=bs.map V.ref) (λn ys H3=>∃cs:List Addr,ys=cs.map V.ref/\cs.length<=n/\H3 N=some (.lst ys)/\Same H' H3/\QL H3 cs ((((oY ts).map (qd R)).take n).filter rF))
    ⟨[],rfl,Nat.le_refl _,ao,Same.upd hN,cW.nil⟩ (λn ys H3 _ h=>by obtain⟨_,_,_,_,sm,_⟩:=h;exact aN.of (sm _ _ Vy)) ?_ ?_⟩
   ·rintro n x ys H3 hx ⟨cs,rfl,hcl,jf,sm3,Vz⟩
    have hn:n < bs.length:=by have:=(List.getElem?_eq_some_iff.mp hx).1;simpa using this
    rw[List.getElem?_map,List.getElem?_eq_getElem hn]at hx;have hx:V.ref bs[n]=x:=Option.some.inj hx;subst hx;obtain⟨qq,eq,hat⟩:=(hQ'.mv sm3).get hn;have afi:=hqb n qq eq;refine⟨_,rfl,bs[n],_,_,_,rfl,rfl,aK.of hat,aF (j:=3) rfl,_,rfl,Nat.le_of_lt (aD (by omega)),_,_,rfl,rfl,_,rfl,?_⟩;by_cases hc:rF qq=true
    ·have:decide ((1:Int) < (qq.2.2.2.length:Int))=true:=decide_eq_true (by have:=of_decide_eq_true hc;omega)
     rw[this];refine bw ⟨_,rfl,jf,by rw[List.length_map];exact aD (by omega),dh.mk (by rw[List.length_map];exact hn) ⟨cs++[bs[n]],by simp,by simp;omega,by rw[ao],sm3.bK hN,?_⟩⟩;rw[List.take_add_one,eq,List.filter_append];have e2:((some qq).toList).filter rF=[qq]:=by simp[hc]
     rw[e2];exact(Vz.app (cW.one hat)).jo (kI jf)
    ·have:decide ((1:Int) < (qq.2.2.2.length:Int))=false:=decide_eq_false (λz=>hc (decide_eq_true (by omega)))
     rw[this];refine aU (dh.mk (by rw[List.length_map];exact hn) ⟨cs,rfl,by omega,jf,sm3,?_⟩);rw[List.take_add_one,eq,List.filter_append];have e2:((some qq).toList).filter rF=[]:=by simp[hc]
     rw[e2,List.append_nil];exact Vz
   ·rintro ys H3 ⟨cs,rfl,hcl,jf,sm3,Vz⟩
    rw[List.length_map,hQ'.len,List.take_length]at Vz;refine⟨N,_,rfl,.inl ⟨aN.of jf,λT hT=>?_⟩⟩;have k:Same H3 (upd H3 T (HO.tup (cs.map V.ref))):=Same.upd hT;refine q T cs _ (((s1.trans sm).trans sm3).trans k) ao ?_;unfold gZ;rw[hR];exact Vz.mv k
theorem VB {ts:List bx}(hl:Fy ts)(h0:0 < ts.length):((ts.map λt=>decide (V.int (t.1:Int)=V.int (ts[0].1:Int))).all id)=decide (fV ts=0):=by
 have hd:∀a b:Nat,decide (V.int (a:Int)=V.int (b:Int))=decide (a=b):=λa b=>by
  by_cases h:a=b
  ·subst h;simp
  ·have:¬V.int (a:Int)=V.int (b:Int):=λz=>h (by injection z with z;exact Int.ofNat.inj z)
   simp[h,this]
 have key:(∀t∈ts,t.1=ts[0].1)↔ts[0].1=ts[ts.length-1].1:=by
  constructor
  ·intro h
   exact(h _ (List.getElem_mem _)).symm
  ·intro h t ht
   obtain⟨i,hi,rfl⟩:=List.mem_iff_getElem.mp ht;rcases hl with hl | hl
   ·rw[List.pairwise_iff_getElem]at hl
    rcases Nat.eq_zero_or_pos i with z | z
    ·subst z;rfl
    ·exact(hl 0 i h0 hi z).symm
   ·rw[List.pairwise_iff_getElem]at hl
    rcases Nat.eq_zero_or_pos (ts.length-1) with z | z
    ·have:i=0:=by omega
     subst this;rfl
    ·have:=hl 0 (ts.length-1) h0 (by omega) z
     omega
 rw[Jq h0,Bool.eq_iff_iff,List.all_eq_true,decide_eq_true_iff];constructor
 ·intro h
  rw[if_pos];refine key.mp λt ht=>?_;have:=h _ (List.mem_map.mpr ⟨t,ht,rfl⟩);rw[hd]at this;exact of_decide_eq_true this
 ·intro h x hx
  obtain⟨t,ht,rfl⟩:=List.mem_map.mp hx;have he:ts[0].1=ts[ts.length-1].1:=by
   by_cases z:ts[0].1=ts[ts.length-1].1
   ·exact z
   ·rw[if_neg z]at h;cases h
  rw[hd];exact decide_eq_true (key.mpr he t ht)
def L_:Sp:=λvs H Q _=>∃(t:Addr) (as:List Addr) (ts:List bx),vs=[.ref t]/\H t=some (.tup (as.map V.ref))/\cO H as ts/\0 < ts.length/\ts.length<=7/\Fy ts/\∀H',Same H H'->Q (.bl (decide (fV ts=0))) H'
theorem Ma (D:aG K mg "is_across" lU ["laying"])(dU:mg "all"=none):Def P w K mg base "is_across" 1 ["laying"] L_:=by
 refine D.cU zB (λvs H Q E h=>?_) (λf cdv A outer s H vs Q E hr h=>?_)
 ·obtain⟨t,as,ts,rfl,_⟩:=h
  rfl
 ·obtain⟨t,as,ts,rfl,ht,hL,h0,h7,hl,q⟩:=h
  have hal:=hL.len;refine⟨_,(aA (aQ (aJ (iD rfl) (by rfl) dU iu (aj (dZ (ns:=["row","column","sign"]) rfl (d_.of ["laying"] [] (by kernel_rfl)) (dz (qv 0)) (λ_ _ _ _ _=>(jR K rfl (show (["row","column","sign","laying"]:List Str).Nodup by decide +kernel) rfl rfl rfl (by rfl) (by rfl) (by rfl))) (λ_ _ _ _ _=>cH) (λ_ _ _ _ _=>(dB jr (qv 0) (aL (jA K) (aL (jA K) (qv 3) aq (λ_ _=>rfl)) aq (λ_ _=>rfl)) (aY _)))) ak)))),?_⟩;refine⟨_,rfl,t,rfl,⟨_,aK.of ht⟩,λN hN=>gj (K:=K) (KT:=K) (a:=t) (f:=dR [] 0) (tt:=gq) (xs:=as.map V.ref) (λn ys H3=>ys=((ts.take n).map λt=>decide (V.int (t.1:Int)=V.int (ts[0].1:Int))).map V.bl/\H3 N=some (.lst ys)/\Same H H3)
   ⟨rfl,ao,Same.upd hN⟩ (λn ys H3 _ h=>aK.of (h.2.2 _ _ ht)) ?_ ?_⟩
  ·rintro n x ys H3 hx ⟨rfl,jf,sm3⟩
   have hn:n < as.length:=by have:=(List.getElem?_eq_some_iff.mp hx).1;simpa using this
   have hnt:n < ts.length:=by omega
   rw[List.getElem?_map,List.getElem?_eq_getElem hn]at hx;have hx:V.ref as[n]=x:=Option.some.inj hx;obtain⟨_,en⟩:=eO (hL.mv sm3) hnt;obtain⟨g0,e0⟩:=eO (hL.mv sm3) h0;refine qU hx.symm (aK.of en) ?_;refine⟨_,rfl,_,rfl,t,_,_,.ref as[0],rfl,rfl,aK.of (sm3 _ _ ht),aF (j:=0) (by simp[g0]),as[0],_,_,_,rfl,rfl,aK.of e0,aF (j:=0) rfl,rfl,jf,?_,dh.mk (by rw[List.length_map];exact hn) ⟨?_,ao,sm3.bK hN⟩⟩
   ·rw[List.length_map,List.length_map,List.length_take];exact aD (by omega)
   ·rw[show ts.take (n+1)=ts.take n++(some ts[n]).toList by rw[List.take_add_one,List.getElem?_eq_getElem hnt],List.map_append,List.map_append]
    rfl
  ·rintro ys H3 ⟨rfl,jf,sm3⟩
   refine⟨N,_,rfl,aN.of jf,?_⟩;rw[List.length_map,hal,List.take_length,VB hl h0];exact q H3 sm3
theorem VD {r w:Nat}{R:List (List Nat)}{i j wy:Nat}(hwy:wy<=1):Ym i j (wy:Int) (lineOf R i j (wy:Int))=[.int (lJ R i j wy).1,.int (lJ R i j wy).2.1,.str (S (lJ R i j wy).2.2.2)]:=by
 unfold Ym lJ placeOf;by_cases z:wy=0
 ·subst z
  have a1:=mZ ((lineOf R i j ((0:Nat):Int)).take j);rw[List.length_take]at a1;rw[if_pos rfl];show [V.int (i:Int),V.int ((j:Int)-_),_]=[V.int (i:Int),V.int ((j-_:Nat):Int),_]
  rw[Int.ofNat_sub (by omega)];rfl
 ·have:wy=1:=by omega
  subst this;have a1:=mZ ((lineOf R i j ((1:Nat):Int)).take i);rw[List.length_take]at a1;rw[if_neg (by decide)];show [V.int ((i:Int)-_),V.int (j:Int),_]=[V.int ((i-_:Nat):Int),V.int (j:Int),_]
  rw[Int.ofNat_sub (by omega)];rfl
def Mf (C:Addr):Sp:=λvs H Q _=>∃(b t:Addr) (as:List Addr) (ts:List bx) (r w:Nat) (rows marks:List (List Nat)) (bi bj:Nat),vs=[.ref b,.ref t]/\dY C H b r w rows marks bi bj/\H t=some (.tup (as.map V.ref))/\cO H as ts/\(∀t∈ts,inB r w t)/\0 < ts.length/\ts.length<=7/\Fy ts/\
 ∀(T:Addr) (bs:List Addr) (H':Hp),Same H H'->H' T=some (.tup (bs.map V.ref))->QL H' bs (gZ rows ts)->Q (.ref T) H'
theorem VG {C f1 f2:Addr}{gH fd2:FuncData}(D:aG K mg "formed" wV ["board","laying"])(aX:mg "len"=none)(bW:mg "tuple"=none)(gJ:gb K C)(tE:Meth K C "laid" f1)(tG:cu P w K mg base eV 8 f1 gH ["self","laying"] (Ly C))(tH:Binds K gH ["self","laying"] [])
  (O5:Meth K C "run" f2) (O6:cu P w K mg base eV 2 f2 fd2 ["self","row","column","way"] (aag C)) (O7:Binds K fd2 ["self","row","column","way"] []) (u0:Def P w K mg base "is_across" 1 ["laying"] L_):Def P w K mg base "formed" 10 ["board","laying"] (Mf C):=by
 refine D.cU jc (λvs H Q E h=>?_) (λf cdv A outer s H vs Q E hr h=>?_)
 ·obtain⟨b,t,as,ts,r,w,rows,marks,bi,bj,rfl,_⟩:=h
  rfl
 ·obtain⟨b,t,as,ts,r,w,rows,marks,bi,bj,rfl,BA,ht,hL,hin,h0,h7,hl,q⟩:=h
  obtain⟨dx,_,_,_,ex,_⟩:=id BA.ex;have r9:=BA.ok.r9;have w9:=BA.ok.w9;have hal:=hL.len;have jd:=Vx ts;refine⟨_,(au (aM (i:=2) jc.nd rfl (Or.inl rfl) (mW (qv 0) gJ.cl tE tG (hr.mono (by decide)) tH .nil jw (aj (qv 1) ak))) (au (iG (aM (i:=3) jc.nd rfl (Or.inr rfl) (mG (cP (bA u0 (hr.mono (by decide)) rfl (aj (qv 1) ak))) aq aq))) (au (aM (i:=4) jc.nd rfl (Or.inl rfl) (eG (aj (bZ (aj (aL aW (aL aW (qv 1) aq (λ_ _=>rfl)) aq (λ_ _=>rfl)) (aj (aL aW (aL aW (qv 1) aq (λ_ _=>rfl)) aq (λ_ _=>rfl)) (aj (qv 3) ak)))) ak))) (au (cX (fK PySem.F.plainAttrs_list PySem.F.slot_list_extend PySem.F.type_list_extend Um (qv 4) (aj (dZ (ns:=["row","column","sign"]) rfl (d_.of ["board","laying","after","way","asked",".5",".6","words","along","run"] [5,6] (by kernel_rfl)) (dz (qv 1)) (λ_ _ _ _ _=>(jR K rfl (show (["row","column","sign","board","laying","after","way","asked",".5",".6","words","along","run"]:List Str).Nodup by decide +kernel) rfl rfl rfl (by rfl) (by rfl) (by rfl))) (λ_ _ _ _ _=>cH) (λ_ _ _ _ _=>(bZ (aj (qv 0) (aj (qv 1) (aj (aH gR aq (qv 6)) ak)))))) ak))) (au (aM (i:=7) jc.nd rfl (Or.inl rfl) (eG ak)) (au (dF PassesOwn.never rfl (fY (qv 4)) (lQ rfl (bT (bI (i:=5) jc.nd rfl (Or.inl rfl)) (bT (bI (i:=6) jc.nd rfl (Or.inl rfl)) (bT (bI (i:=8) jc.nd rfl (Or.inl rfl)) jQ)))) (au (aM (i:=9) jc.nd rfl (Or.inl rfl) (mW (qv 2) gJ.cl O5 O6 (hr.mono (by decide)) O7 .nil jw (aj (qv 5) (aj (qv 6) (aj (qv 8) ak))))) (aA (bO (bh Ri (aJ cT (by rfl) aX PySem.boot_len (aj (aL aW (qv 9) aq (λ_ _=>rfl)) ak)) aq (aY _)) (aA (cX (fK PySem.F.plainAttrs_list PySem.F.slot_list_append PySem.F.type_list_append gn (qv 7) (aj (bZ (aj (aL aW (qv 9) aq (λ_ _=>rfl)) (aj (aL aW (qv 9) aq (λ_ _=>rfl)) (aj (qv 8) (aj (aL aW (qv 9) aq (λ_ _=>rfl)) ak))))) ak)))) bD)))) (aA (aQ (fU gO (by rfl) bW PyProof.Rows.boot_tuple (aj (qv 7) ak)))))))))),?_⟩;refine⟨_,rfl,b,dx,_,rfl,ex,rfl,_,rfl,b,t,as,ts,r,w,rows,marks,bi,bj,rfl,BA,ht,hL,hin,λx1 H1 s1 B1=>?_⟩;have hb':=iM BA.ok.br hin;generalize hR:bJ rows ts=R at B1 hb';refine⟨λσ H'=>Same H1 H'/\σ=[some (.ref b),some (.ref t),some (.ref x1),some (.int (fV ts)),none,none,none,none,none,none],?_,?_⟩
  ·refine⟨_,rfl,t,as,ts,rfl,s1 _ _ ht,hL.mv s1,h0,h7,hl,λH2 s2=>⟨_,rfl,?_⟩⟩
   by_cases z:fV ts=0
   ·rw[decide_eq_true z]
    refine bw ⟨s2,?_⟩;rw[z];rfl
   ·rw[decide_eq_false z]
    refine aU ⟨s2,?_⟩;rw[show fV ts=1 by omega];rfl
  rintro σ H2 ⟨s2,rfl⟩;have s12:=s1.trans s2;have hL2:=hL.mv s12;have Jp:=s12 _ _ ht;obtain⟨g0,e0⟩:=eO hL2 h0;refine⟨_,rfl,t,_,_,.ref as[0],rfl,rfl,aK.of Jp,aF (j:=0) (by simp[g0]),as[0],_,_,_,rfl,rfl,aK.of e0,aF (j:=0) rfl,_,rfl,t,_,_,.ref as[0],rfl,rfl,aK.of Jp,aF (j:=0) (by simp[g0]),as[0],_,_,_,rfl,rfl,aK.of e0,aF (j:=1) rfl,_,rfl,by show 3<=sizeLine;decide,λt1 ht1=>⟨by show 1<=sizeLine;decide,λA0 hA0=>?_⟩⟩;have k3:Same H2 (upd H2 t1 (HO.tup [.int ts[0].1,.int ts[0].2.1,.int (fV ts)])):=Same.upd ht1;have k4:=k3.bK (o:=HO.lst [.ref t1]) (k3.free hA0);have hA0':=k3.free hA0;have n1A:t1≠A0:=λz=>by rw[<- z,ao]at hA0;cases hA0
  have e1:upd (upd H2 t1 (HO.tup [.int ts[0].1,.int ts[0].2.1,.int (fV ts)])) A0 (HO.lst [.ref t1]) t1=some (.tup [.int ts[0].1,.int ts[0].2.1,.int (fV ts)]):=by rw[aP n1A,ao]
  have eA:upd (upd H2 t1 (HO.tup [.int ts[0].1,.int ts[0].2.1,.int (fV ts)])) A0 (HO.lst [.ref t1]) A0=some (.lst [.ref t1]):=ao;generalize upd (upd H2 t1 (HO.tup [.int ts[0].1,.int ts[0].2.1,.int (fV ts)])) A0 (HO.lst [.ref t1])=H4 at k4 e1 eA ⊢;have ht4:=k4 _ _ Jp;have Fw:=hL2.mv k4;have e1l:(1:Int)-(fV ts:Int)=((1-fV ts:Nat):Int):=by omega
  refine⟨_,rfl,.inl ⟨rfl,_,aN.of eA⟩,_,rfl,t,rfl,⟨_,aK.of ht4⟩,λN hN=>gj (K:=K) (KT:=K) (a:=t) (f:=dR [5,6] 0) (tt:=gq) (xs:=as.map V.ref) (λn ys H5=>∃cs:List Addr,ys=cs.map V.ref/\cs.length=n/\H5 N=some (.lst ys)/\Same H4 H5/\AL3 H5 cs ((ts.take n).map λt=>(t.1,t.2.1,1-fV ts)))
   ⟨[],rfl,rfl,ao,Same.upd hN,cW.nil⟩ (λn ys H5 _ h=>by obtain⟨_,_,_,_,sm,_⟩:=h;exact aK.of (sm _ _ ht4)) ?_ ?_⟩
  ·rintro n x ys H5 hx ⟨cs,rfl,hcl,nO,iy,uz⟩
   have hn:n < as.length:=by have:=(List.getElem?_eq_some_iff.mp hx).1;simpa using this
   have hnt:n < ts.length:=by omega
   rw[List.getElem?_map,List.getElem?_eq_getElem hn]at hx;have hx:V.ref as[n]=x:=Option.some.inj hx;obtain⟨_,en⟩:=eO (Fw.mv iy) hnt;refine qU hx.symm (aK.of en) ?_;refine⟨_,rfl,_,rfl,_,rfl,_,_,rfl,rfl,by show 3<=sizeLine;decide,λg hg=>?_⟩;have kg:Same H5 (upd H5 g (HO.tup [.int ts[n].1,.int ts[n].2.1,.int (1-(fV ts:Int))])):=Same.upd hg;have Jr:=kg _ _ nO;refine⟨Jr,by rw[List.length_map];exact aD (by omega),dh.mk (by rw[List.length_map];exact hn) ⟨cs++[g],by simp,by simp[hcl],by rw[ao],(iy.trans kg).bK hN,?_⟩⟩;rw[show ts.take (n+1)=ts.take n++[ts[n]] by rw[List.take_add_one,List.getElem?_eq_getElem hnt];rfl,List.map_append];refine((uz.mv kg).app (cW.one (x:=(ts[n].1,ts[n].2.1,1-fV ts)) ?_)).jo (kI Jr);rw[ao,e1l]
  rintro ys H5 ⟨cs,rfl,hcl,nO,iy,uz⟩;rw[List.length_map]at hcl;rw[List.length_map,hal,List.take_length]at uz;have eA5:=iy _ _ eA;refine⟨A0,N,_,_,rfl,rfl,eA5,nO,by rw[List.length_map,hcl];exact Nat.le_of_lt (aD (by simp;omega)),?_⟩;have Yu:AL3 (upd H5 A0 (HO.lst ([V.ref t1]++cs.map V.ref))) ([t1]++cs) (oY ts):=by
   have hone:AL3 H5 [t1] ((ts.take 1).map λt=>(t.1,t.2.1,fV ts)):=by
    rw[List.take_one,List.head?_eq_getElem?,List.getElem?_eq_getElem h0];exact cW.one (x:=(ts[0].1,ts[0].2.1,fV ts)) (iy _ _ e1)
   exact(hone.app uz).jo (kI eA5)
  have sH6:Same H1 (upd H5 A0 (HO.lst ([V.ref t1]++cs.map V.ref))):=λa o e=>by
   have:=(k4.trans iy) _ _ (s2 _ _ e);rw[aP (λz=>by rw[z]at e;have:=s2 _ _ e;rw[hA0']at this;cases this)];exact this
  have eA6:upd H5 A0 (HO.lst ([V.ref t1]++cs.map V.ref)) A0=some (.lst (([t1]++cs).map V.ref)):=by rw[ao];simp
  generalize upd H5 A0 (HO.lst ([V.ref t1]++cs.map V.ref))=H6 at Yu sH6 eA6 ⊢;have adA:=Yu.len;have hak:(oY ts).length=1+ts.length:=by
   unfold oY;rw[List.length_append,List.length_map,List.length_map,List.length_take];omega
  have ae3:∀n (a:Nat × Nat × Nat),(oY ts)[n]?=some a->a.1 < r/\a.2.1 < w/\a.2.2<=1:=λn a ha=>by
   rcases List.mem_append.mp (List.mem_of_getElem? ha) with z | z
   ·obtain⟨u,hu,rfl⟩:=List.mem_map.mp z
    have:=hin u (List.mem_of_mem_take hu);exact⟨this.1,this.2.1,jd⟩
   ·obtain⟨u,hu,rfl⟩:=List.mem_map.mp z
    have:=hin u hu;exact⟨this.1,this.2.1,by show 1-fV ts<=1;omega⟩
  refine⟨by show 0<=sizeLine;decide,λW hW=>?_⟩;have hW0:=sH6.free hW;have nWA:A0≠W:=λz=>by rw[<- z,eA6]at hW;cases hW
  have kW:Same H6 (upd H6 W (HO.lst [])):=Same.upd hW;refine⟨_,rfl,A0,rfl,⟨_,aN.of (kW _ _ eA6)⟩,oJ (K:=K) (a:=A0) (xs:=([t1]++cs).map V.ref) (λn σ H'=>∃(v6 v7 v8 v9:Option V) (bs:List Addr),σ=[some (.ref b),some (.ref t),some (.ref x1),some (.int (fV ts)),some (.ref A0),v6,v7,some (.ref W),v8,v9]/\Same H6 H'/\H' W=some (.lst (bs.map V.ref))/\bs.length<=n/\QL H' bs ((((oY ts).take n).map (qd R)).filter rF))
   ⟨none,none,none,none,[],rfl,kW,ao,Nat.le_refl _,cW.nil⟩ (λn σ H' _ h=>by obtain⟨_,_,_,_,_,_,sm,_⟩:=h;exact aN.of (sm _ _ eA6)) ?_ ?_⟩
  ·rintro n x σ H' hx ⟨v6,v7,v8,v9,bs,rfl,sm,hWb,qy,hQ⟩
   have hn:n < ([t1]++cs).length:=by have:=(List.getElem?_eq_some_iff.mp hx).1;simpa using this
   rw[List.getElem?_map,List.getElem?_eq_getElem hn]at hx;have hx:V.ref ([t1]++cs)[n]=x:=Option.some.inj hx;subst hx;obtain⟨a,ea,hat⟩:=(Yu.mv sm).get hn;obtain⟨c1,c2,c3⟩:=ae3 n a ea;have hn9:n < 9:=by rw[adA,hak]at hn;omega
   refine⟨([t1]++cs)[n],_,rfl,aK.of hat,rfl,_,_,rfl,_,_,rfl,_,_,rfl,rfl,?_⟩;have B2:=B1.mv (sH6.trans sm);obtain⟨dx1,_,_,_,ex1,_⟩:=id B2.ex;refine⟨_,rfl,x1,dx1,_,rfl,ex1,rfl,_,rfl,_,rfl,_,rfl,x1,r,w,R,marks,bi,bj,a.1,a.2.1,(a.2.2:Int),rfl,B2,c1,c2,by omega,λt2 H7 s7 _ ht7=>?_⟩;rw[VD (r:=r) (w:=w) c3]at ht7;have hlen:=Dd hb' r9 w9 c1 (j:=a.2.1) (wy:=a.2.2);have hS7:=aK.of (K:=K) ht7;have Yv:=s7 _ _ hWb;refine⟨_,rfl,t2,_,_,_,rfl,rfl,hS7,aF (j:=2) rfl,_,rfl,Nat.le_of_lt (aD (by omega)),_,_,rfl,rfl,_,rfl,?_⟩;have aak:(oY ts).take (n+1)=(oY ts).take n++[a]:=by rw[List.take_add_one,ea];rfl
   by_cases hc:rF (qd R a)=true
   ·have:decide ((2:Int)<=((lJ R a.1 a.2.1 a.2.2).2.2.2.length:Int))=true:=decide_eq_true (by have:=of_decide_eq_true hc;show (2:Int)<=((qd R a).2.2.2.length:Int);omega)
    rw[this];refine bw ⟨_,rfl,.inl ⟨rfl,_,aN.of Yv⟩,_,rfl,t2,_,_,_,rfl,rfl,hS7,aF (j:=0) rfl,_,rfl,t2,_,_,_,rfl,rfl,hS7,aF (j:=1) rfl,_,rfl,_,rfl,t2,_,_,_,rfl,rfl,hS7,aF (j:=2) rfl,by show 4<=sizeLine;decide,λg hg=>?_⟩;have kg:Same H7 (upd H7 g (HO.tup [.int (lJ R a.1 a.2.1 a.2.2).1,.int (lJ R a.1 a.2.1 a.2.2).2.1,.int a.2.2,.str (S (lJ R a.1 a.2.1 a.2.2).2.2.2)])):=Same.upd hg;have hWg:=kg _ _ Yv;refine⟨W,_,_,rfl,rfl,hWg,by rw[List.length_map];exact aD (by omega),?_⟩;refine⟨_,_,_,_,bs++[g],rfl,((sm.trans s7).trans kg).bK hW,by rw[ao];simp,by simp;omega,?_⟩;rw[aak,List.map_append,List.filter_append];have e2:([a].map (qd R)).filter rF=[qd R a]:=by simp[hc]
    rw[e2];exact(((hQ.mv s7).mv kg).app (cW.one (x:=qd R a) ao)).jo (kI hWg)
   ·have:decide ((2:Int)<=((lJ R a.1 a.2.1 a.2.2).2.2.2.length:Int))=false:=decide_eq_false (λz=>hc (decide_eq_true (by have z:(2:Int)<=((qd R a).2.2.2.length:Int):=z;omega)))
    rw[this];refine aU ⟨_,_,_,_,bs,rfl,sm.trans s7,Yv,by omega,?_⟩;rw[aak,List.map_append,List.filter_append];have e2:([a].map (qd R)).filter rF=[]:=by simp[hc]
    rw[e2,List.append_nil];exact hQ.mv s7
  ·rintro σ H' ⟨v6,v7,v8,v9,bs,rfl,sm,hWb,qy,hQ⟩
   rw[List.length_map,adA,List.take_length]at hQ;refine⟨_,rfl,W,_,rfl,.inl ⟨aN.of hWb,λT hT=>?_⟩⟩;have k:Same H' (upd H' T (HO.tup (bs.map V.ref))):=Same.upd hT;refine q T bs _ (((s1.trans sH6).trans sm).trans k) ao ?_;unfold gZ;rw[hR];exact hQ.mv k
end
end My
end
section
namespace My
open PySem L2
section
variable {P:Program}{w:World}{K:PySem.W.Frag}{mg:Str->Option Value}{base:Heap}
def Dg (K:PySem.W.Frag)(T:String)(H:Hp)(x:V):Prop:=∃t,jy K H x t/\PySem.W.kitOne K t (.type T)=some false
theorem jy.mv {K:PySem.W.Frag}{H H':Hp}{x:V}{t:Value}(h:jy K H x t)(s:Same H H'):jy K H' x t:=by
 cases h with
 | non=>exact .non
 | bl b=>exact .bl b
 | int i=>exact .int i
 | str x=>exact .str x
 | flt x=>exact .flt x
 | lst e=>exact .lst (s _ _ e)
 | lM e=>exact .lM (s _ _ e)
 | tup e=>exact .tup (s _ _ e)
 | dK e=>exact .dK (s _ _ e)
 | dT e=>exact .dT (s _ _ e)
 | ins e a b c d f=>exact .ins (s _ _ e) a b c d f
theorem Dg.mv {K:PySem.W.Frag}{T:String}{H H':Hp}{x:V}(h:Dg K T H x)(s:Same H H'):Dg K T H' x:=let ⟨t,a,b⟩:=h;⟨t,jy.mv a s,b⟩
def Dh (K:PySem.W.Frag):Sp:=λvs H Q _=>(∃i:Int,vs=[.int i]/\Q (.bl true) H)\/(∃b:Bool,vs=[.bl b]/\Q (.bl false) H)\/∃x,vs=[x]/\Dg K "int" H x/\Q (.bl false) H
theorem Mg (D:aG K mg "is_whole" nq ["thing"])(jZ:mg "int"=none)(qu:mg "bool"=none)(aV:mg "isinstance"=none):Def P w K mg base "is_whole" 1 ["thing"] (Dh K):=by
 refine D.cU BZ (λvs H Q E h=>?_) (λf cdv A outer s H vs Q E hr h=>?_)
 ·rcases h with⟨i,rfl,_⟩ | ⟨i,rfl,_⟩ | ⟨i,rfl,_⟩ <;> rfl
 ·refine⟨_,(aA (aQ (iZ (aJ fj (by rfl) aV PyProof.Rows.boot_isinstance (aj (qv 0) (aj (iT (v:=.ty "int") (by rfl) jZ PyProof.Rows.boot_int rfl) ak))) (gY (U3 (aJ fj (by rfl) aV PyProof.Rows.boot_isinstance (aj (qv 0) (aj (iT (v:=.ty "bool") (by rfl) qu PyProof.Rows.boot_bool rfl) ak)))))))),?_⟩
  rcases h with⟨i,rfl,q⟩ | ⟨b,rfl,q⟩ | ⟨x,rfl,⟨t,ty,k⟩,q⟩
  ·exact⟨_,rfl,_,_,_,true,rfl,.int _,(by kernel_rfl),true,rfl,bw ⟨_,rfl,_,_,_,false,rfl,.int _,(by kernel_rfl),false,rfl,q⟩⟩
  ·exact⟨_,rfl,_,_,_,true,rfl,.bl _,(by kernel_rfl),true,rfl,bw ⟨_,rfl,_,_,_,true,rfl,.bl _,(by kernel_rfl),true,rfl,q⟩⟩
  ·exact⟨_,rfl,_,_,_,false,rfl,ty,k,false,rfl,aU q⟩
theorem all_map {α:Type}(l:List α)(f:α->Bool):((l.map f).all id)=l.all f:=by induction l with | nil=>rfl | cons a l ih=>simp[ih]
theorem take_snoc {α β:Type}{l:List α}{i:Nat}{a:α}(h:l[i]?=some a)(f:α->β):(l.take (i+1)).map f=(l.take i).map f++[f a]:=by
 rw[List.take_add_one,h,List.map_append];rfl
inductive uD (K:PySem.W.Frag) (H:Hp):V->Option Int->Prop
 | int (i:Int):uD K H (.int i) (some i)
 | bl (b:Bool):uD K H (.bl b) none
 | no {x:V} (h:Dg K "int" H x):uD K H x none
theorem uD.mv {H H':Hp}{x:V}{o:Option Int}(h:uD K H x o)(s:Same H H'):uD K H' x o:=by
 cases h with
 | int i=>exact .int i
 | bl b=>exact .bl b
 | no h=>exact .no (h.mv s)
def FN (r w:Nat)(oi oj:Option Int):Bool:=match oi,oj with | some i,some j=>decide (0<=i/\i < r/\0<=j/\j < w) | _,_=>false
def Qu (K:PySem.W.Frag):Sp:=λvs H Q _=>∃(p:Addr) (ls:List (List Nat)) (r w:Nat) (x y:V) (oi oj:Option Int),vs=[.ref p,x,y]/\H p=some (.tup (Ts ls))/\Blk r w ls/\1<=r/\r<=9/\w<=9/\uD K H x oi/\uD K H y oj/\Q (.bl (FN r w oi oj)) H
theorem uD.sp {H:Hp}{x:V}{o:Option Int}{Q:VK}{E:XK}(h:uD K H x o)(q:Q (.bl o.isSome) H):Dh K [x] H Q E:=by
 cases h with
 | int i=>exact .inl ⟨i,rfl,q⟩
 | bl b=>exact .inr (.inl ⟨b,rfl,q⟩)
 | no h=>exact .inr (.inr ⟨x,rfl,h,q⟩)
theorem Hh (D:aG K mg "is_cell_of" kh ["rows","row","column"])(aX:mg "len"=none)(nH:Def P w K mg base "is_whole" 1 ["thing"] (Dh K)):Def P w K mg base "is_cell_of" 2 ["rows","row","column"] (Qu K):=by
 refine D.cU yP (λvs H Q E h=>?_) (λf cdv A outer s H vs Q E hr h=>?_)
 ·obtain⟨p,ls,r,w,x,y,oi,oj,rfl,_⟩:=h
  rfl
 ·obtain⟨p,ls,r,w,x,y,oi,oj,rfl,hp,hb,r1,r9,w9,hx,hy,q⟩:=h
  have jd:(Ts ls).length=r:=by rw[List.length_map,hb.len]
  have h0:0 < ls.length:=by rw[hb.len];omega
  have hw0:ls[0].length=w:=hb.iw _ (List.getElem_mem _);refine⟨_,(au (bO (QW.qt (nj (dG (cP (bA nH (hr.mono (by decide)) rfl (aj (qv 1) ak)))) (lR (dG (cP (bA nH (hr.mono (by decide)) rfl (aj (qv 2) ak))))))) (aA (aQ gD)) bD) (aA (aQ (iZ (jG ju jt aq (qv 1) (aJ bL (by rfl) aX PySem.boot_len (aj (qv 0) ak))) (gY (jG ju jt aq (qv 2) (aJ cT (by rfl) aX PySem.boot_len (aj (aL aW (qv 0) aq (λ_ _=>rfl)) ak)))))))),?_⟩;refine⟨_,rfl,?_⟩;dsimp only[su,m8];refine uD.sp hx ⟨_,rfl,?_⟩;cases hx with
  | bl b=>exact bw q
  | no h=>exact bw q
  | int i=>
   refine aU ⟨_,rfl,?_⟩;dsimp only[su,m8];refine uD.sp hy ⟨_,rfl,?_⟩;cases hy with
   | bl b=>exact bw q
   | no h=>exact bw q
   | int j=>
    refine aU ?_;have q:Q (.bl (decide (0<=i/\i < (r:Int)/\0<=j/\j < (w:Int)))) H:=q;refine⟨_,rfl,_,_,rfl,rfl,_,rfl,?_⟩;by_cases h1:0<=i
    ·rw[decide_eq_true h1]
     refine bw ⟨_,rfl,p,_,rfl,.inr (aK.of hp),_,_,rfl,rfl,_,rfl,?_⟩;rw[jd];by_cases h2:i < (r:Int)
     ·rw[decide_eq_true h2]
      refine bw ⟨_,rfl,_,_,rfl,rfl,_,rfl,?_⟩;by_cases h3:0<=j
      ·rw[decide_eq_true h3]
       refine bw ⟨_,rfl,p,_,_,.str (S ls[0]),rfl,rfl,aK.of hp,aF (j:=0) (gG (by simp[h0])),_,rfl,Nat.le_of_lt (aD (by omega)),_,_,rfl,rfl,?_⟩;rw[hw0];simpa [h1,h2,h3] using q
      ·rw[decide_eq_false h3]
       refine aU ?_;simpa [h1,h2,h3] using q
     ·rw[decide_eq_false h2]
      refine aU ?_;simpa [h1,h2] using q
    ·rw[decide_eq_false h1]
     refine aU ⟨_,rfl,aU ?_⟩;simpa [h1] using q
inductive Qv (K:PySem.W.Frag) (H:Hp):V->Option (List Nat)->Prop
 | no {x:V} (h:aad K H x):Qv K H x none
 | str (l:List Nat) (h:l.length<=1000):Qv K H (.str (S l)) (some l)
theorem Qv.mv {H H':Hp}{x:V}{o:Option (List Nat)}(h:Qv K H x o)(s:Same H H'):Qv K H' x o:=by
 cases h with
 | no h=>exact .no (let ⟨t,a,b⟩:=h;⟨t,jy.mv a s,b⟩)
 | str l h=>exact .str l h
abbrev uE:=Option (Option Int × Option Int × Option (List Nat))
inductive vY (K:PySem.W.Frag) (H:Hp):V->uE->Prop
 | no {x:V} (h:Dg K "tuple" H x):vY K H x none
 | bad {b:Addr} {xs:List V} (h:H b=some (.tup xs)) (hl:xs.length≠3):vY K H (.ref b) none
 | tri {b:Addr} {x y z:V} {oi oj:Option Int} {ol:Option (List Nat)} (h:H b=some (.tup [x,y,z])) (hx:uD K H x oi) (hy:uD K H y oj) (hz:Qv K H z ol):vY K H (.ref b) (some (oi,oj,ol))
theorem vY.mv {H H':Hp}{x:V}{o:uE}(h:vY K H x o)(s:Same H H'):vY K H' x o:=by
 cases h with
 | no h=>exact .no (h.mv s)
 | bad h hl=>exact .bad (s _ _ h) hl
 | tri h hx hy hz=>exact .tri (s _ _ h) (hx.mv s) (hy.mv s) (hz.mv s)
def sgO (ol:Option (List Nat)):Bool:=match ol with | none=>false | some l=>Cd l
def pR (r w:Nat)(o:uE):Bool:=match o with | none=>false | some (oi,oj,ol)=>FN r w oi oj&&sgO ol
def Js (K:PySem.W.Frag)(C:Addr):Sp:=λvs H Q _=>∃(b:Addr) (x:V) (o:uE) (r w:Nat) (rows marks:List (List Nat)) (bi bj:Nat),vs=[.ref b,x]/\dY C H b r w rows marks bi bj/\vY K H x o/\Q (.bl (pR r w o)) H
theorem Mh {C:Addr}(D:aG K mg "is_triple" pN ["board","thing"])(aX:mg "len"=none)(bW:mg "tuple"=none)(aV:mg "isinstance"=none)(T:gb K C)
  (kj:Def P w K mg base "is_cell_of" 2 ["rows","row","column"] (Qu K)) (zF:Def P w K mg base "is_sign" 1 ["thing"] (Lj K)):Def P w K mg base "is_triple" 3 ["board","thing"] (Js K C):=by
 refine D.cU Lh (λvs H Q E h=>?_) (λf cdv A outer s H vs Q E hr h=>?_)
 ·obtain⟨b,x,o,r,w,rows,marks,bi,bj,rfl,_⟩:=h
  rfl
 ·obtain⟨b,x,o,r,w,rows,marks,bi,bj,rfl,BA,hT,q⟩:=h
  obtain⟨⟨dx,pr,pm,pb,hb,hpr,hpm,hpb⟩,B⟩:=BA;refine⟨_,(au (bO (QW.qt (nj (dG (cP (aJ fj (by rfl) aV PyProof.Rows.boot_isinstance (aj (qv 1) (aj (iT (v:=.ty "tuple") (by rfl) bW PyProof.Rows.boot_tuple rfl) ak))))) (lR (bh pD (aJ bL (by rfl) aX PySem.boot_len (aj (qv 1) ak)) aq (aY _))))) (aA (aQ gD)) bD) (aA (aQ (iZ (bA kj (hr.mono (by decide)) rfl (aj (iC (qv 0) rfl) (aj (aL aW (qv 1) aq (λ_ _=>rfl)) (aj (aL aW (qv 1) aq (λ_ _=>rfl)) ak)))) (gY (bA zF (hr.mono (by decide)) rfl (aj (aL aW (qv 1) aq (λ_ _=>rfl)) ak))))))),?_⟩;cases hT with
  | no h=>
   obtain⟨t,ty,k⟩:=h;exact⟨_,rfl,_,_,_,false,rfl,ty,k,_,rfl,bw (bw q)⟩
  | @bad a xs h hl=>
   refine⟨_,rfl,_,_,_,true,rfl,.tup h,(by kernel_rfl),_,rfl,aU ⟨_,rfl,a,_,rfl,.inr (aK.of h),rfl,_,rfl,?_⟩⟩;rw[decide_eq_false (show ¬V.int (xs.length:Nat)=V.int 3 from λz=>hl (by injection z with z;omega))];exact bw q
  | @tri a x y z oi oj ol h hx hy hz=>
   refine⟨_,rfl,_,_,_,true,rfl,.tup h,(by kernel_rfl),_,rfl,aU ⟨_,rfl,a,_,rfl,.inr (aK.of h),rfl,_,rfl,Bd rfl ?_⟩⟩;refine⟨_,rfl,b,C,dx,_,_,rfl,hb,T.cl,T.nr,rfl,_,rfl,a,_,_,x,rfl,rfl,aK.of h,aF (j:=0) rfl,_,rfl,a,_,_,y,rfl,rfl,aK.of h,aF (j:=1) rfl,pr,rows,r,w,x,y,oi,oj,rfl,hpr,B.br,B.r1,B.r9,B.w9,hx,hy,_,rfl,?_⟩;have q:Q (.bl (FN r w oi oj&&sgO ol)) H:=q;cases hc:FN r w oi oj with
   | false=>rw[hc]at q;exact aU q
   | true=>
    rw[hc]at q;refine bw ⟨_,rfl,a,_,_,z,rfl,rfl,aK.of h,aF (j:=2) rfl,?_⟩;dsimp only[su,m8];cases hz with
    | no h=>exact .inl ⟨z,rfl,h,q⟩
    | str l hl=>exact .inr ⟨l,rfl,hl,q⟩
abbrev Mi:=cW (λq:Nat × Nat=>[V.int q.1,V.int q.2])
def zN:Sp:=λvs H Q _=>∃(t:Addr) (as:List Addr) (ts:List bx),vs=[.ref t]/\H t=some (.tup (as.map V.ref))/\cO H as ts/\ts.length<=100/\
 ∀(L:Addr) (cs:List Addr) (H':Hp),Same H H'->H' L=some (.lst (cs.map V.ref))->Mi H' cs (ts.map λt=>(t.1,t.2.1))->Q (.ref L) H'
theorem O8 (D:aG K mg "cells_of" rz ["laying"]):Def P w K mg base "cells_of" 1 ["laying"] zN:=by
 refine D.cU Ov (λvs H Q E h=>?_) (λf cdv A outer s H vs Q E hr h=>?_)
 ·obtain⟨t,as,ts,rfl,_⟩:=h
  rfl
 ·obtain⟨t,as,ts,rfl,ht,hL,h7,q⟩:=h
  have hal:=hL.len;refine⟨_,(aA (aQ (dZ (ns:=["row","column","sign"]) rfl (d_.of ["laying"] [] (by kernel_rfl)) (dz (qv 0)) (λ_ _ _ _ _=>(jR K rfl (show (["row","column","sign","laying"]:List Str).Nodup by decide +kernel) rfl rfl rfl (by rfl) (by rfl) (by rfl))) (λ_ _ _ _ _=>cH) (λ_ _ _ _ _=>(bZ (aj (qv 0) (aj (qv 1) ak))))))),?_⟩;refine⟨_,rfl,t,rfl,⟨_,aK.of ht⟩,λN hN=>gj (K:=K) (KT:=K) (a:=t) (f:=dR [] 0) (tt:=gq) (xs:=as.map V.ref) (λn ys H5=>∃cs:List Addr,ys=cs.map V.ref/\cs.length=n/\H5 N=some (.lst ys)/\Same H H5/\Mi H5 cs ((ts.take n).map λt=>(t.1,t.2.1)))
   ⟨[],rfl,rfl,ao,Same.upd hN,cW.nil⟩ (λn ys H5 _ h=>by obtain⟨_,_,_,_,sm,_⟩:=h;exact aK.of (sm _ _ ht)) ?_ ?_⟩
  ·rintro n x ys H5 hx ⟨cs,rfl,hcl,nO,iy,uz⟩
   have hn:n < as.length:=by have:=(List.getElem?_eq_some_iff.mp hx).1;simpa using this
   have hnt:n < ts.length:=by omega
   rw[List.getElem?_map,List.getElem?_eq_getElem hn]at hx;have hx:V.ref as[n]=x:=Option.some.inj hx;obtain⟨_,en⟩:=eO (hL.mv iy) hnt;refine qU hx.symm (aK.of en) ?_;refine⟨_,rfl,_,rfl,by show 2<=sizeLine;decide,λg hg=>?_⟩;have kg:Same H5 (upd H5 g (HO.tup [.int ts[n].1,.int ts[n].2.1])):=Same.upd hg;have Jr:=kg _ _ nO;refine⟨Jr,by rw[List.length_map];exact aD (by omega),dh.mk (by rw[List.length_map];exact hn) ⟨cs++[g],by simp,by simp[hcl],by rw[ao],(iy.trans kg).bK hN,?_⟩⟩;rw[show ts.take (n+1)=ts.take n++[ts[n]] by rw[List.take_add_one,List.getElem?_eq_getElem hnt];rfl,List.map_append];exact((uz.mv kg).app (cW.one (x:=(ts[n].1,ts[n].2.1)) ao)).jo (kI Jr)
  ·rintro ys H5 ⟨cs,rfl,hcl,nO,iy,uz⟩
   rw[List.length_map,hal,List.take_length]at uz;exact q N cs H5 iy nO uz
end
end My
end
section
namespace My
open PySem L2
section
variable {P:Program}{w:World}{K:PySem.W.Frag}{mg:Str->Option Value}{base:Heap}
structure Di (K:PySem.W.Frag)(H:Hp)(xs:List V)(os:List uE):Prop where
 len:xs.length=os.length
 at_:∀(i:Nat) (x:V) (o:uE),xs[i]?=some x->os[i]?=some o->vY K H x o
inductive VH (K:PySem.W.Frag) (H:Hp):V->Option (List uE)->Prop
 | no {x:V} (h:Dg K "tuple" H x):VH K H x none
 | tup {p:Addr} {xs:List V} {os:List uE} (h:H p=some (.tup xs)) (hp:Di K H xs os) (h1:os.length<=100):VH K H (.ref p) (some os)
def mkT (t:bx):uE:=some (some (t.1:Int),some (t.2.1:Int),some [t.2.2])
def aal (o:uE):Nat × Nat:=match o with | some (some i,some j,_)=>(i.toNat,j.toNat) | _=>(0,0)
def ltQ (p:(Nat × Nat) × (Nat × Nat)):Bool:=decide (p.1.1*1000+p.1.2 < p.2.1*1000+p.2.2)
def mC (cs:List (Nat × Nat)):Bool:=(cs.zip (cs.drop 1)).all ltQ
def layB (r w:Nat)(o:Option (List uE)):Bool:=match o with | none=>false | some os=>decide (1<=os.length/\os.length<=7)&&os.all (pR r w)&&mC (os.map aal)
theorem Mj (ts:List bx):(ts.map mkT).map aal=ts.map λt=>(t.1,t.2.1):=by
 rw[List.map_map];exact List.map_congr_left λt _=>rfl
theorem Yw {r w:Nat}{o:uE}(h:pR r w o=true):∃t:bx,o=mkT t/\inB r w t:=by
 match o with
 | none=>cases h
 | some (oi,oj,ol)=>
  unfold pR at h;simp only[Bool.and_eq_true]at h;obtain⟨h1,h2⟩:=h
  match oi,oj,ol with
  | none,_,_=>cases h1
  | some i,none,_=>cases h1
  | some i,some j,none=>cases h2
  | some i,some j,some l=>
   have h1:=of_decide_eq_true h1;have h2:Cd l=true:=h2
   match l with
   | []=>cases h2
   | [c]=>
    refine⟨(i.toNat,j.toNat,c),?_,⟨by show i.toNat < r;omega,by show j.toNat < w;omega,h2⟩⟩;show some (some i,some j,some [c])=some (some ((i.toNat:Nat):Int),some ((j.toNat:Nat):Int),some [c]);rw[Int.toNat_of_nonneg h1.1,Int.toNat_of_nonneg h1.2.2.1]
   | _::_::_=>cases h2
theorem Yx {r w:Nat}{t:bx}(h:inB r w t):pR r w (mkT t)=true:=by
 unfold pR mkT FN sgO;have h1:=h.1;have h2:=h.2.1;simp only[Bool.and_eq_true];exact⟨decide_eq_true (by omega),h.2.2⟩
theorem Jt {r w:Nat}:∀{os:List uE},os.all (pR r w)=true->∃ts:List bx,os=ts.map mkT/\∀t∈ts,inB r w t
 | [],_=>⟨[],rfl,λt h=>by simp at h⟩
 | o::os,h=>by
  rw[List.all_cons,Bool.and_eq_true]at h;obtain⟨ts,e,k⟩:=Jt h.2;obtain⟨t,e2,k2⟩:=Yw h.1;exact⟨t::ts,by rw[e,e2];rfl,λu hu=>by
   rcases List.mem_cons.mp hu with z | z
   ·rw[z];exact k2
   ·exact k u z⟩
theorem vY.aes {H:Hp}{x:V}{t:bx}(h:vY K H x (mkT t)):∃b,x=.ref b/\vX H b t:=by
 generalize ho:mkT t=o at h;cases h with
 | no _=>cases ho
 | bad _ _=>cases ho
 | @tri b x y z oi oj ol h hx hy hz=>
  have ho:=Option.some.inj ho;injection ho with e1 e2;injection e2 with e2 e3;subst e1 e2 e3;cases hx;cases hy;cases hz;exact⟨b,rfl,h⟩
theorem Di.lay {H:Hp}:∀{ts:List bx} {xs:List V},Di K H xs (ts.map mkT)->∃as:List Addr,xs=as.map V.ref/\cO H as ts
 | [],[],_=>⟨[],rfl,cO.nil⟩
 | [],_::_,h=>by have:=h.len;simp at this
 | _::_,[],h=>by have:=h.len;simp at this
 | t::ts,x::xs,h=>by
  obtain⟨b,rfl,hb⟩:=(h.at_ 0 x (mkT t) rfl rfl).aes;obtain⟨as,e,hL⟩:=Di.lay (ts:=ts) (xs:=xs) ⟨by have:=h.len;simpa using this,λi x o a c=>h.at_ (i+1) x o a c⟩;refine⟨b::as,by rw[e];rfl,⟨λa ha=>?_,?_⟩⟩
  ·rcases List.mem_cons.mp ha with z | z
   ·rw[z,Fx hb];exact hb
   ·exact hL.at_ a z
  ·rw[List.map_cons,hL.eq,Fx hb]
theorem vY.mk {H:Hp}{b:Addr}{t:bx}(h:vX H b t):vY K H (.ref b) (mkT t):=.tri h (.int _) (.int _) (.str _ (by show 1<=1000;decide))
theorem Di.of_lay {H:Hp}{as:List Addr}{ts:List bx}(h:cO H as ts):Di K H (as.map V.ref) (ts.map mkT):=by
 refine⟨by rw[List.length_map,List.length_map,h.len],λi x o hx ho=>?_⟩;rw[List.getElem?_map]at hx ho;obtain⟨a,ha,rfl⟩:=Option.map_eq_some_iff.mp hx;obtain⟨t,ht,rfl⟩:=Option.map_eq_some_iff.mp ho;have hi:i < as.length:=(List.getElem?_eq_some_iff.mp ha).1;obtain⟨u,hu,hU⟩:=h.get hi;rw[ht]at hu;rw[Option.some.inj hu];rw[List.getElem?_eq_getElem hi]at ha;rw[<- Option.some.inj ha];exact vY.mk hU
def VJ (K:PySem.W.Frag)(C:Addr):Sp:=λvs H Q _=>∃(b:Addr) (x:V) (o:Option (List uE)) (r w:Nat) (rows marks:List (List Nat)) (bi bj:Nat),vs=[.ref b,x]/\dY C H b r w rows marks bi bj/\VH K H x o/\∀H',Same H H'->Q (.bl (layB r w o)) H'
theorem Ml {C:Addr}(D:aG K mg "is_laying" pO ["board","thing"])(aX:mg "len"=none)(bW:mg "tuple"=none)(aV:mg "isinstance"=none)(dU:mg "all"=none)(FP:mg "zip"=none)(kJ:∃t,mg "MOST_TILES"=some (.int 7 t))
  (O9:Def P w K mg base "is_triple" 3 ["board","thing"] (Js K C)) (xr:Def P w K mg base "cells_of" 1 ["laying"] zN):Def P w K mg base "is_laying" 4 ["board","thing"] (VJ K C):=by
 refine D.cU sW (λvs H Q E h=>?_) (λf cdv A outer s H vs Q E hr h=>?_)
 ·obtain⟨b,x,o,r,w,rows,marks,bi,bj,rfl,_⟩:=h
  rfl
 ·obtain⟨b,x,o,r,w,rows,marks,bi,bj,rfl,BA,hT,q⟩:=h
  have w9:=BA.ok.w9;refine⟨_,(au (bO (QW.qt (nj (dG (cP (aJ fj (by rfl) aV PyProof.Rows.boot_isinstance (aj (qv 1) (aj (iT (v:=.ty "tuple") (by rfl) bW PyProof.Rows.boot_tuple rfl) ak))))) (lR (dG (mF ju ju aq (aJ bL (by rfl) aX PySem.boot_len (aj (qv 1) ak)) (RG (by rfl) kJ)))))) (aA (aQ gD)) bD) (au (bO (dG (cP (aJ (iD rfl) (by rfl) dU iu (aj (iU rfl (gW.of sW.nd (by kernel_rfl)) (dz (qv 1)) (λ_ _ _ _ _=>cH) (λ_ _ _ _ _=>(bA O9 (hr.mono (by decide)) rfl (aj (qv 1) (aj (qv 0) ak))))) ak)))) (aA (aQ gD)) bD) (au (aM (i:=2) sW.nd rfl (Or.inl rfl) (bA xr (hr.mono (by decide)) rfl (aj (qv 1) ak))) (aA (aQ (aJ (iD rfl) (by rfl) dU iu (aj (dZ (ns:=["cell","later"]) rfl (d_.of ["board","thing","cells"] [] (by kernel_rfl)) (aa2 (by rfl) FP (aj (qv 2) (aj (oM PB (qv 2) (oN aq) vN) ak))) (λ_ _ _ _ _=>(vP K rfl (show (["cell","later","board","thing","cells"]:List Str).Nodup by decide +kernel) rfl rfl (by rfl) (by rfl))) (λ_ _ _ _ _=>cH) (λ_ _ _ _ _=>(dB (adl hr.acE) (qv 0) (qv 1) (aY _)))) ak))))))),?_⟩;cases hT with
  | no h=>
   obtain⟨t,ty,k⟩:=h;exact⟨_,rfl,_,_,_,false,rfl,ty,k,_,rfl,bw (bw (q H (Same.refl _)))⟩
  | @tup p xs os hp hP h100=>
   have hlen:=hP.len;refine⟨_,rfl,_,_,_,true,rfl,.tup hp,(by kernel_rfl),_,rfl,aU ?_⟩;have F:¬layB r w (some os)=true->∀H',Same H H'->Q (.bl false) H':=λz H' s'=>by
    have:=q H' s';rw[Bool.not_eq_true _ |>.mp z]at this;exact this
   refine⟨_,rfl,p,_,rfl,.inr (aK.of hp),_,_,rfl,rfl,?_⟩;rw[hlen];by_cases h1:1<=os.length
   ·refine⟨true,by simp;omega,bw ⟨_,_,rfl,rfl,?_⟩⟩
    by_cases h7:os.length<=7
    ·refine⟨true,by simp;omega,aU ?_⟩
     refine⟨_,rfl,p,rfl,⟨_,aK.of hp⟩,λL hL=>sJ (xs:=xs) (λi ys H2=>ys=((os.take i).map (pR r w)).map V.bl/\H2 L=some (.lst ys)/\Same H H2) ⟨rfl,ao,Same.upd hL⟩ (λi ys H2 _ h=>aK.of (h.2.2 _ _ hp)) ?_ ?_⟩
     ·rintro i x ys H2 hi ⟨rfl,hL2,sm⟩
      have hil:i < xs.length:=(List.getElem?_eq_some_iff.mp hi).1;have hio:i < os.length:=by omega
      have ho:=List.getElem?_eq_getElem hio;refine⟨_,rfl,_,rfl,b,x,os[i],r,w,rows,marks,bi,bj,rfl,BA.mv sm,(hP.at_ i x _ hi ho).mv sm,hL2,?_,dh.mk hil ⟨?_,ao,sm.bK hL⟩⟩
      ·rw[List.length_map,List.length_map,List.length_take];exact aD (by omega)
      ·rw[take_snoc ho,List.map_append];rfl
     ·rintro ys H2 ⟨rfl,hL2,sm⟩
      refine⟨L,_,rfl,aN.of hL2,?_⟩;rw[hlen,List.take_length,all_map];refine⟨_,rfl,?_⟩;cases ha:os.all (pR r w) with
      | false=>exact bw (F (by unfold layB;simp only;rw[ha];simp) H2 sm)
      | true=>
       refine aU ?_;obtain⟨ts,rfl,hin⟩:=Jt ha;obtain⟨as,rfl,hLy⟩:=hP.lay;rw[List.length_map]at h1 h7;refine⟨_,rfl,p,as,ts,rfl,sm _ _ hp,hLy.mv sm,by omega,λLc cs H3 s3 hLc hcs=>?_⟩;have oh:=sm.trans s3;refine⟨_,rfl,_,rfl,_,rfl,Lc,_,rfl,aN.of hLc,λM hM=>?_⟩;have hcl:=hcs.len;rw[List.length_map]at hcl;have eM:wG (cs.map V.ref) (some 1) none=(cs.drop 1).map V.ref:=by
        unfold wG;rw[show (some (1:Int))=some (((1:Nat):Int)) from rfl,HT.Gw,HT.Xw,List.length_map,Nat.min_eq_left (show 1<=cs.length by omega),List.take_of_length_le (by rw[List.length_drop,List.length_map];omega),List.map_drop]
       rw[eM];have sM:Same H3 (upd H3 M (HO.lst ((cs.drop 1).map V.ref))):=Same.upd hM;have Ju:upd H3 M (HO.lst ((cs.drop 1).map V.ref)) M=some (.lst ((cs.drop 1).map V.ref)):=ao;have Yy:=sM _ _ hLc;have Sd:=hcs.mv sM;have m5:=oh.trans sM;generalize upd H3 M (HO.lst ((cs.drop 1).map V.ref))=H4 at sM Ju Yy Sd m5 ⊢;generalize hcc:(ts.map λt=>(t.1,t.2.1))=cc at Sd;have ae4:cc.length=cs.length:=by rw[<- hcc,List.length_map,hcl]
       have hw9:∀u∈cc,u.2 < 1000:=λu hu=>by
        rw[<- hcc]at hu;obtain⟨t,ht,rfl⟩:=List.mem_map.mp hu;have:=(hin t ht).2.1;show t.2.1 < 1000;omega
       have Mp:(cc.zip (cc.drop 1)).length=cs.length-1:=by rw[List.length_zip,List.length_drop,ae4];omega
       refine⟨Lc,M,rfl,⟨_,aN.of Yy⟩,⟨_,aN.of Ju⟩,λN hN=>adk (f:=dR [] 0) (K:=K) (KT:=K) (a:=Lc) (b:=M) (tt:=gq) (xs:=cs.map V.ref) (ys:=(cs.drop 1).map V.ref) (by rw[List.length_map,List.length_map,List.length_drop];omega)
        (λn zs H5=>zs=(((cc.zip (cc.drop 1)).take n).map ltQ).map V.bl/\H5 N=some (.lst zs)/\Same H4 H5)
        ⟨rfl,ao,Same.upd hN⟩ (λn zs H5 _ h=>⟨aN.of (h.2.2 _ _ Yy),aN.of (h.2.2 _ _ Ju)⟩) ?_ ?_⟩
       ·rintro n x y zs H5 T hx hy ⟨rfl,nO,iy⟩ hT
        have kT:Same H5 (upd H5 T (HO.tup [x,y])):=Same.upd hT;rw[List.getElem?_map]at hx hy;obtain⟨a1,ha1,rfl⟩:=Option.map_eq_some_iff.mp hx;obtain⟨a2,ha2,rfl⟩:=Option.map_eq_some_iff.mp hy;rw[List.getElem?_drop]at ha2;have n1:n < cs.length:=(List.getElem?_eq_some_iff.mp ha1).1;have n2:1+n < cs.length:=(List.getElem?_eq_some_iff.mp ha2).1;have c1:cc[n]?=some cc[n]:=List.getElem?_eq_getElem (by omega);have c2:cc[1+n]?=some cc[1+n]:=List.getElem?_eq_getElem (by omega);have e1:=kT _ _ (iy _ _ (Sd.at_ n a1 _ ha1 c1));have e2:=kT _ _ (iy _ _ (Sd.at_ (1+n) a2 _ ha2 c2));refine Z_ rfl (aK.of ao) ?_;refine⟨_,rfl,_,rfl,a1,a2,_,_,_,_,rfl,rfl,e1,e2,hw9 _ (List.getElem_mem _),hw9 _ (List.getElem_mem _),kT _ _ nO,?_,dh.mk (by rw[List.length_map,List.length_drop];omega) ⟨?_,ao,(iy.trans kT).bK hN⟩⟩
        ·rw[List.length_map,List.length_map,List.length_take];exact aD (by omega)
        ·have ez:(cc.zip (cc.drop 1))[n]?=some (cc[n],cc[1+n]):=by
          rw[List.getElem?_zip_eq_some];exact⟨c1,by rw[List.getElem?_drop];exact c2⟩
         rw[take_snoc ez,List.map_append];rfl
       ·rintro zs H5 ⟨rfl,nO,iy⟩
        refine⟨N,_,rfl,aN.of nO,?_⟩;rw[List.take_of_length_le (by rw[List.length_map,List.length_drop,Mp];omega),all_map];have:=q H5 (m5.trans iy);have e:layB r w (some (ts.map mkT))=mC cc:=by
         unfold layB;simp only;rw[ha,Mj,hcc,List.length_map,decide_eq_true (show 1<=ts.length/\ts.length<=7 from ⟨h1,h7⟩)];rfl
        rw[e]at this;exact this
    ·refine⟨false,by simp;omega,bw ?_⟩
     exact F (by unfold layB;simp;omega) H (Same.refl _)
   ·refine⟨false,by simp;omega,aU ⟨_,rfl,bw ?_⟩⟩
    exact F (by unfold layB;simp;omega) H (Same.refl _)
end
end My
end
section
namespace My
open PySem L2
section
variable {P:Program}{w:World}{K:PySem.W.Frag}{mg:Str->Option Value}{base:Heap}
theorem abd {f C R:Addr}{fd:FuncData}(F:fG K "__init__" "Taken.__init__" iH f fd)(fO:mg "RackError"=some (.ref R))(jm:InitOf K R)(T:lH K mg "Taken" C f ["row","column"]):cu P w K mg base eV 1 f fd ["self","row","column"] (Fd C "row" "column"):=by
 refine F.cU JQ (λvs H Q E h=>?_) (λcdv A outer s H vs Q E hr h=>?_)
 ·obtain⟨a,v,u,rfl,_⟩:=h
  rfl
 ·obtain⟨a,v,u,rfl,ha,q⟩:=h
  refine⟨_,(au (cX (qX (by rfl) fO jm (aj (qv 0) (aj (qv 1) (aj (qv 2) ak))))) (au (rT (qv 0) (qv 1) rfl) (aA (rT (qv 0) (qv 2) rfl)))),?_⟩;refine⟨_,rfl,_,rfl,_,rfl,a,C,f,none,[v,u],rfl,ha,T.M.ini,by show 2<=sizeLine;decide,?_⟩;exact⟨_,rfl,_,rfl,a,C,none,rfl,ha,T.T,T.no _ (by simp),.inl ⟨rfl,λdx ne nd=>⟨_,rfl,_,rfl,a,C,some dx,rfl,ao,T.T,T.no _ (by simp),.inr ⟨dx,_,rfl,by rw[aP ne,ao],by show 1 < 50;decide,q dx ne nd⟩⟩⟩⟩
theorem adB {f C R:Addr}{fd:FuncData}(F:fG K "__init__" "Gap.__init__" jH f fd)(fO:mg "RackError"=some (.ref R))(jm:InitOf K R)(T:lH K mg "Gap" C f ["row","column"]):cu P w K mg base eV 1 f fd ["self","row","column"] (Fd C "row" "column"):=by
 refine F.cU Oq (λvs H Q E h=>?_) (λcdv A outer s H vs Q E hr h=>?_)
 ·obtain⟨a,v,u,rfl,_⟩:=h
  rfl
 ·obtain⟨a,v,u,rfl,ha,q⟩:=h
  refine⟨_,(au (cX (qX (by rfl) fO jm (aj (qv 0) (aj (qv 1) (aj (qv 2) ak))))) (au (rT (qv 0) (qv 1) rfl) (aA (rT (qv 0) (qv 2) rfl)))),?_⟩;refine⟨_,rfl,_,rfl,_,rfl,a,C,f,none,[v,u],rfl,ha,T.M.ini,by show 2<=sizeLine;decide,?_⟩;exact⟨_,rfl,_,rfl,a,C,none,rfl,ha,T.T,T.no _ (by simp),.inl ⟨rfl,λdx ne nd=>⟨_,rfl,_,rfl,a,C,some dx,rfl,ao,T.T,T.no _ (by simp),.inr ⟨dx,_,rfl,by rw[aP ne,ao],by show 1 < 50;decide,q dx ne nd⟩⟩⟩⟩
theorem Jv {H:Hp}{a dx:Addr}{o p q p2:HO}(na:H a=none)(ne:dx≠a)(nd:upd H a o dx=none):upd (upd (upd (upd H a o) dx p) a q) dx p2 a=some q/\Same H (drop (upd (upd (upd (upd H a o) dx p) a q) dx p2) a)/\drop (upd (upd (upd (upd H a o) dx p) a q) dx p2) a dx=some p2:=by
 rw[aP ne]at nd;refine⟨by rw[aP ne.symm,ao],λb u e=>?_,?_⟩
 ·have h1:b≠a:=bR e na
  have h2:b≠dx:=bR e nd;rw[gF h1,aP h2,aP h1,aP h2,aP h1];exact e
 ·rw[gF ne,ao]
abbrev Qw (i j:Nat):List (Str × V):=gM "column" (.int j) [("row",.int i)]
theorem Bp {α:Type}{p:α->Bool}{l:List α}{n:Nat}(hn:n < l.length)(h0:∀x∈l.take n,p x=false)(h1:p l[n]=true):l.find? p=some l[n]:=by
 have e:l=l.take n++l[n]::l.drop (n+1):=by rw[<- List.drop_eq_getElem_cons hn,List.take_append_drop]
 have e2:(l.take n++l[n]::l.drop (n+1)).find? p=some l[n]:=by
  rw[List.find?_append,List.find?_eq_none.mpr λx hx=>by rw[h0 x hx];decide,Option.none_or,List.find?_cons_of_pos h1]
 rw[<- e]at e2;exact e2
theorem Bq {α:Type}{p:α->Bool}{l:List α}(h0:∀x∈l,p x=false):l.find? p=none:=List.find?_eq_none.mpr λx hx=>by rw[h0 x hx];decide
theorem adC (a b:Nat):decide (V.int (a:Int)=V.int (b:Int))=decide (a=b):=by
 by_cases h:a=b
 ·subst h;simp
 ·have:¬V.int (a:Int)=V.int (b:Int):=λz=>h (by injection z with z;exact Int.ofNat.inj z)
  simp[h,this]
def jX (ts:List bx):Bool:=ts.all λt=>decide (t.1=(ts.headD (0,0,0)).1)
def jY (ts:List bx):Bool:=ts.all λt=>decide (t.2.1=(ts.headD (0,0,0)).2.1)
theorem jN {ts:List bx}(h:0 < ts.length):ts.headD (0,0,0)=ts[0]:=by
 cases ts with
 | nil=>simp at h
 | cons a b=>rfl
def Jw:Sp:=λvs H Q _=>∃(t:Addr) (as:List Addr) (ts:List bx),vs=[.ref t]/\H t=some (.tup (as.map V.ref))/\cO H as ts/\0 < ts.length/\ts.length<=7/\∀H',Same H H'->Q (.bl (jX ts)) H'
def Qx:Sp:=λvs H Q _=>∃(t:Addr) (as:List Addr) (ts:List bx),vs=[.ref t]/\H t=some (.tup (as.map V.ref))/\cO H as ts/\0 < ts.length/\ts.length<=7/\∀H',Same H H'->Q (.bl (jY ts)) H'
theorem J1 (D:aG K mg "is_across" lU ["laying"])(dU:mg "all"=none):Def P w K mg base "is_across" 1 ["laying"] Jw:=by
 refine D.cU zB (λvs H Q E h=>?_) (λf cdv A outer s H vs Q E hr h=>?_)
 ·obtain⟨t,as,ts,rfl,_⟩:=h
  rfl
 ·obtain⟨t,as,ts,rfl,ht,hL,h0,h7,q⟩:=h
  have hal:=hL.len;have hh:=jN h0;refine⟨_,(aA (aQ (aJ (iD rfl) (by rfl) dU iu (aj (dZ (ns:=["row","column","sign"]) rfl (d_.of ["laying"] [] (by kernel_rfl)) (dz (qv 0)) (λ_ _ _ _ _=>(jR K rfl (show (["row","column","sign","laying"]:List Str).Nodup by decide +kernel) rfl rfl rfl (by rfl) (by rfl) (by rfl))) (λ_ _ _ _ _=>cH) (λ_ _ _ _ _=>(dB jr (qv 0) (aL (jA K) (aL (jA K) (qv 3) aq (λ_ _=>rfl)) aq (λ_ _=>rfl)) (aY _)))) ak)))),?_⟩;refine⟨_,rfl,t,rfl,⟨_,aK.of ht⟩,λN hN=>gj (K:=K) (KT:=K) (a:=t) (f:=dR [] 0) (tt:=gq) (xs:=as.map V.ref) (λn ys H3=>ys=((ts.take n).map λt=>decide (t.1=(ts.headD (0,0,0)).1)).map V.bl/\H3 N=some (.lst ys)/\Same H H3)
   ⟨rfl,ao,Same.upd hN⟩ (λn ys H3 _ h=>aK.of (h.2.2 _ _ ht)) ?_ ?_⟩
  ·rintro n x ys H3 hx ⟨rfl,jf,sm3⟩
   have hn:n < as.length:=by have:=(List.getElem?_eq_some_iff.mp hx).1;simpa using this
   have hnt:n < ts.length:=by omega
   rw[List.getElem?_map,List.getElem?_eq_getElem hn]at hx;have hx:V.ref as[n]=x:=Option.some.inj hx;obtain⟨_,en⟩:=eO (hL.mv sm3) hnt;obtain⟨g0,e0⟩:=eO (hL.mv sm3) h0;refine qU hx.symm (aK.of en) ?_;refine⟨_,rfl,_,rfl,t,_,_,.ref as[0],rfl,rfl,aK.of (sm3 _ _ ht),aF (j:=0) (by simp[g0]),as[0],_,_,_,rfl,rfl,aK.of e0,aF (j:=0) rfl,rfl,jf,?_,dh.mk (by rw[List.length_map];exact hn) ⟨?_,ao,sm3.bK hN⟩⟩
   ·rw[List.length_map,List.length_map,List.length_take];exact aD (by omega)
   ·rw[take_snoc (List.getElem?_eq_getElem hnt),List.map_append,hh,adC]
    rfl
  ·rintro ys H3 ⟨rfl,jf,sm3⟩
   refine⟨N,_,rfl,aN.of jf,?_⟩;rw[List.length_map,hal,List.take_length,all_map];exact q H3 sm3
theorem Sg (D:aG K mg "is_down" ug ["laying"])(dU:mg "all"=none):Def P w K mg base "is_down" 1 ["laying"] Qx:=by
 refine D.cU RQ (λvs H Q E h=>?_) (λf cdv A outer s H vs Q E hr h=>?_)
 ·obtain⟨t,as,ts,rfl,_⟩:=h
  rfl
 ·obtain⟨t,as,ts,rfl,ht,hL,h0,h7,q⟩:=h
  have hal:=hL.len;have hh:=jN h0;refine⟨_,(aA (aQ (aJ (iD rfl) (by rfl) dU iu (aj (dZ (ns:=["row","column","sign"]) rfl (d_.of ["laying"] [] (by kernel_rfl)) (dz (qv 0)) (λ_ _ _ _ _=>(jR K rfl (show (["row","column","sign","laying"]:List Str).Nodup by decide +kernel) rfl rfl rfl (by rfl) (by rfl) (by rfl))) (λ_ _ _ _ _=>cH) (λ_ _ _ _ _=>(dB jr (qv 1) (aL (jA K) (aL (jA K) (qv 3) aq (λ_ _=>rfl)) aq (λ_ _=>rfl)) (aY _)))) ak)))),?_⟩;refine⟨_,rfl,t,rfl,⟨_,aK.of ht⟩,λN hN=>gj (K:=K) (KT:=K) (a:=t) (f:=dR [] 0) (tt:=gq) (xs:=as.map V.ref) (λn ys H3=>ys=((ts.take n).map λt=>decide (t.2.1=(ts.headD (0,0,0)).2.1)).map V.bl/\H3 N=some (.lst ys)/\Same H H3)
   ⟨rfl,ao,Same.upd hN⟩ (λn ys H3 _ h=>aK.of (h.2.2 _ _ ht)) ?_ ?_⟩
  ·rintro n x ys H3 hx ⟨rfl,jf,sm3⟩
   have hn:n < as.length:=by have:=(List.getElem?_eq_some_iff.mp hx).1;simpa using this
   have hnt:n < ts.length:=by omega
   rw[List.getElem?_map,List.getElem?_eq_getElem hn]at hx;have hx:V.ref as[n]=x:=Option.some.inj hx;obtain⟨_,en⟩:=eO (hL.mv sm3) hnt;obtain⟨g0,e0⟩:=eO (hL.mv sm3) h0;refine qU hx.symm (aK.of en) ?_;refine⟨_,rfl,_,rfl,t,_,_,.ref as[0],rfl,rfl,aK.of (sm3 _ _ ht),aF (j:=0) (by simp[g0]),as[0],_,_,_,rfl,rfl,aK.of e0,aF (j:=1) rfl,rfl,jf,?_,dh.mk (by rw[List.length_map];exact hn) ⟨?_,ao,sm3.bK hN⟩⟩
   ·rw[List.length_map,List.length_map,List.length_take];exact aD (by omega)
   ·rw[take_snoc (List.getElem?_eq_getElem hnt),List.map_append,hh,adC]
    rfl
  ·rintro ys H3 ⟨rfl,jf,sm3⟩
   refine⟨N,_,rfl,aN.of jf,?_⟩;rw[List.length_map,hal,List.take_length,all_map];exact q H3 sm3
abbrev IL2:=cW (λq:Int × Int=>[V.int q.1,V.int q.2])
def around (i j:Int):List (Int × Int):=[(i-1,j),(i+1,j),(i,j-1),(i,j+1)]
def uF (rows:List (List Nat))(r w:Nat)(p:Int × Int):Bool:=!decide ([atC rows r w p.1 p.2]=[46])
def ig (rows:List (List Nat))(r w:Nat)(i j:Int):Bool:=(around i j).any (uF rows r w)
theorem any_map {α:Type}(l:List α)(f:α->Bool):((l.map f).any id)=l.any f:=by induction l with | nil=>rfl | cons a l ih=>simp[ih]
def Mq (C:Addr):Sp:=λvs H Q _=>∃(b:Addr) (r w:Nat) (rows marks:List (List Nat)) (bi bj:Nat) (i j:Int),vs=[.ref b,.int i,.int j]/\dY C H b r w rows marks bi bj/\∀H',Same H H'->Q (.bl (ig rows r w i j)) H'
theorem J2 {C f1:Addr}{gH:FuncData}(D:aG K mg "is_next_to_taken" i_ ["board","row","column"])(uG:mg "any"=none)(dW:∃t,mg "FREE"=some (.str (S [46]) t))(gJ:gb K C)(nP:Meth K C "at" f1)(nQ:cu P w K mg base eV 3 f1 gH ["self","row","column"] (R6 C))(nR:Binds K gH ["self","row","column"] []) :
  Def P w K mg base "is_next_to_taken" 5 ["board","row","column"] (Mq C):=by
 refine D.cU jW (λvs H Q E h=>?_) (λf cdv A outer s H vs Q E hr h=>?_)
 ·obtain⟨b,r,w,rows,marks,bi,bj,i,j,rfl,_⟩:=h
  rfl
 ·obtain⟨b,r,w,rows,marks,bi,bj,i,j,rfl,BA,q⟩:=h
  refine⟨_,(au (aM (i:=3) jW.nd rfl (Or.inl rfl) (bZ (aj (bZ (aj (aH gR (qv 1) aq) (aj (qv 2) ak))) (aj (bZ (aj (aH b_ (qv 1) aq) (aj (qv 2) ak))) (aj (bZ (aj (qv 1) (aj (aH gR (qv 2) aq) ak))) (aj (bZ (aj (qv 1) (aj (aH b_ (qv 2) aq) ak))) ak)))))) (aA (aQ (aJ (K9 rfl) (by rfl) uG Jc (aj (iU rfl (gW.of jW.nd (by kernel_rfl)) (dz (qv 3)) (λ_ _ _ _ _=>cH) (λ_ _ _ _ _=>(dB j8 (mW (qv 1) gJ.cl nP nQ (hr.mono (by decide)) nR .nil jw (aj (aL (jA K) (qv 0) aq (λ_ _=>rfl)) (aj (aL (jA K) (qv 0) aq (λ_ _=>rfl)) ak))) (qR (by rfl) dW) (aY _)))) ak))))),?_⟩;refine⟨_,rfl,_,_,rfl,rfl,_,rfl,by show 2<=sizeLine;decide,λg1 h1=>⟨_,rfl,_,_,rfl,rfl,_,rfl,by show 2<=sizeLine;decide,λg2 h2=>⟨_,rfl,_,rfl,_,_,rfl,rfl,by show 2<=sizeLine;decide,λg3 h3=>⟨_,rfl,_,rfl,_,_,rfl,rfl,by show 2<=sizeLine;decide,λg4 h4=>⟨by show 4<=sizeLine;decide,λA hA=>?_⟩⟩⟩⟩⟩;dsimp only at h1 h2 h3 h4 hA ⊢;have k1:Same H (upd H g1 (HO.tup [.int (i-1),.int j])):=Same.upd h1;have e1:upd H g1 (HO.tup [.int (i-1),.int j]) g1=some (.tup [.int (i-1),.int j]):=ao;generalize upd H g1 (HO.tup [.int (i-1),.int j])=H1 at k1 e1 h2 h3 h4 hA ⊢;have k2:Same H1 (upd H1 g2 (HO.tup [.int (i+1),.int j])):=Same.upd h2;have e2:upd H1 g2 (HO.tup [.int (i+1),.int j]) g2=some (.tup [.int (i+1),.int j]):=ao;generalize upd H1 g2 (HO.tup [.int (i+1),.int j])=H2 at k2 e2 h3 h4 hA ⊢;have k3:Same H2 (upd H2 g3 (HO.tup [.int i,.int (j-1)])):=Same.upd h3;have e3:upd H2 g3 (HO.tup [.int i,.int (j-1)]) g3=some (.tup [.int i,.int (j-1)]):=ao;generalize upd H2 g3 (HO.tup [.int i,.int (j-1)])=H3 at k3 e3 h4 hA ⊢;have k4:Same H3 (upd H3 g4 (HO.tup [.int i,.int (j+1)])):=Same.upd h4;have e4:upd H3 g4 (HO.tup [.int i,.int (j+1)]) g4=some (.tup [.int i,.int (j+1)]):=ao;generalize upd H3 g4 (HO.tup [.int i,.int (j+1)])=H4 at k4 e4 hA ⊢;have k5:Same H4 (upd H4 A (HO.tup [.ref g1,.ref g2,.ref g3,.ref g4])):=Same.upd hA;have e5:upd H4 A (HO.tup [.ref g1,.ref g2,.ref g3,.ref g4]) A=some (.tup ([g1,g2,g3,g4].map V.ref)):=ao;have il:IL2 H4 [g1,g2,g3,g4] (around i j):=((cW.one (x:=(i-1,j)) (k4 _ _ (k3 _ _ (k2 _ _ e1)))).app (cW.one (x:=(i+1,j)) (k4 _ _ (k3 _ _ e2)))).app ((cW.one (x:=(i,j-1)) (k4 _ _ e3)).app (cW.one (x:=(i,j+1)) e4));have s5:=(((k1.trans k2).trans k3).trans k4).trans k5;have il5:=il.mv k5;generalize upd H4 A (HO.tup [.ref g1,.ref g2,.ref g3,.ref g4])=H5 at k5 e5 s5 il5 ⊢;have BA5:=BA.mv s5;refine⟨_,rfl,A,rfl,⟨_,aK.of e5⟩,λN hN=>sJ (xs:=[g1,g2,g3,g4].map V.ref) (λn ys H6=>ys=(((around i j).take n).map (uF rows r w)).map V.bl/\H6 N=some (.lst ys)/\Same H5 H6)
   ⟨rfl,ao,Same.upd hN⟩ (λn ys H6 _ h=>aK.of (h.2.2 _ _ e5)) ?_ ?_⟩
  ·rintro n x ys H6 hx ⟨rfl,Jx,Cj⟩
   have hn:n < [g1,g2,g3,g4].length:=by have:=(List.getElem?_eq_some_iff.mp hx).1;simpa using this
   have hn4:n < 4:=hn;rw[List.getElem?_map,List.getElem?_eq_getElem hn]at hx;have hx:V.ref [g1,g2,g3,g4][n]=x:=Option.some.inj hx;subst hx;obtain⟨u,eu,hu⟩:=(il5.mv Cj).get hn;have BA6:=BA5.mv Cj;obtain⟨dx,_,_,_,ex,_⟩:=id BA6.ex;refine⟨_,rfl,b,dx,_,rfl,ex,rfl,_,rfl,_,_,_,_,rfl,rfl,aK.of hu,aF (j:=0) rfl,_,rfl,_,_,_,_,rfl,rfl,aK.of hu,aF (j:=1) rfl,b,r,w,rows,marks,bi,bj,u.1,u.2,rfl,BA6,[_],[46],rfl,rfl,Jx,?_,dh.mk (by rw[List.length_map];exact hn) ⟨?_,ao,Cj.bK hN⟩⟩
   ·rw[List.length_map,List.length_map,List.length_take];exact aD (by omega)
   ·rw[take_snoc eu,List.map_append];rfl
  ·rintro ys H6 ⟨rfl,Jx,Cj⟩
   refine⟨N,_,rfl,aN.of Jx,?_⟩;rw[List.take_of_length_le (by show 4<=4;decide),any_map];exact q H6 (s5.trans Cj)
def FQ:Sp:=λvs H Q _=>∃c:Nat,vs=[.str (S [c])]/\c < 128/\Q (.str (S ([c].map PyProof.Rows.lo1))) H
theorem Mr (D:aG K mg "letter_of" pJ ["sign"]):Def P w K mg base "letter_of" 1 ["sign"] FQ:=by
 refine D.cU Lg (λvs H Q E h=>?_) (λf cdv A outer s H vs Q E hr h=>?_)
 ·obtain⟨c,rfl,_⟩:=h
  rfl
 ·obtain⟨c,rfl,hc,q⟩:=h
  refine⟨_,(aA (aQ (j9 PySem.F.plainAttrs_str PySem.F.slot_str_lower PySem.F.type_str_lower j_ (qv 0)))),?_⟩;exact⟨_,rfl,rfl,[c],rfl,rfl,by show 1<=1000;decide,λd hd=>by rw[List.mem_singleton.mp hd];exact hc,q⟩
end
end My
end
section
namespace My
open PySem L2
section
variable {P:Program}{w:World}{K:PySem.W.Frag}{mg:Str->Option Value}{base:Heap}
theorem Dj {rows:List (List Nat)}{r w i j:Nat}(hi:i < r)(hj:j < w):atC rows r w (i:Int) (j:Int)=cell rows i j:=by
 unfold atC cell;rw[if_pos ⟨by omega,by omega,by omega,by omega⟩,Int.toNat_natCast,Int.toNat_natCast]
def VL (rows:List (List Nat))(t:bx):Bool:=!decide ([cell rows t.1 t.2.1]=[46])
def mL (rows:List (List Nat))(ts:List bx):Option bx:=ts.find? (VL rows)
def Ms (C CT:Addr):Sp:=λvs H Q E=>∃(b t:Addr) (as:List Addr) (ts:List bx) (r w:Nat) (rows marks:List (List Nat)) (bi bj:Nat),vs=[.ref b,.ref t]/\dY C H b r w rows marks bi bj/\H t=some (.tup (as.map V.ref))/\cO H as ts/\(∀t∈ts,inB r w t)/\
 (∀u,mL rows ts=some u->∀(dx:Addr) (H':Hp),Same H H'->H' dx=some (.ext (XD dx (Qw u.1 u.2.1)))->E (.ref CT) (some dx) H')/\
 (mL rows ts=none->∀H',Same H H'->Q .non H')
theorem J3 {C CT f0 f1:Addr}{jq gH:FuncData}(D:aG K mg "check_free" nC ["board","laying"])(dW:∃t,mg "FREE"=some (.str (S [46]) t))(gJ:gb K C)(nP:Meth K C "at" f1)(nQ:cu P w K mg base eV 3 f1 gH ["self","row","column"] (R6 C))(nR:Binds K gH ["self","row","column"] [])
  (T:lH K mg "Taken" CT f0 ["row","column"]) (abe:cu P w K mg base eV 1 f0 jq ["self","row","column"] (Fd CT "row" "column")) (Hi:Binds K jq ["self","row","column"] []):DefX P w K mg base "check_free" 5 ["board","laying"] (Ms C CT):=by
 refine D.wU mj (λvs H Q E h=>?_) (λf cdv A outer s H vs Q E hr h=>?_)
 ·obtain⟨b,t,as,ts,r,w,rows,marks,bi,bj,rfl,_⟩:=h
  rfl
 ·obtain⟨b,t,as,ts,r,w,rows,marks,bi,bj,rfl,BA,ht,hL,hin,qE,q⟩:=h
  have abf:=T.M;have Dk:=T.E_;have hal:=hL.len;refine⟨_,(aA (dF PassesOwn.leaving rfl (dz (qv 1)) (lQ rfl (bT (bI (i:=2) mj.nd rfl (Or.inl rfl)) (bT (bI (i:=3) mj.nd rfl (Or.inl rfl)) (bT (bI (i:=4) mj.nd rfl (Or.inl rfl)) jQ)))) (aA (bO (bh j8 (mW (qv 0) gJ.cl nP nQ (hr.mono (by decide)) nR .nil jw (aj (qv 2) (aj (qv 3) ak))) (qR (by rfl) dW) (aY _)) (aA (qg mX rfl abf abe (hr.mono (by decide)) (by rfl) Dk Hi (aj (qv 2) (aj (qv 3) ak)))) bD)))),?_⟩;refine⟨_,rfl,t,rfl,⟨_,aK.of ht⟩,mU (K:=K) (a:=t) (xs:=as.map V.ref) (λn σ H'=>∃v2 v3 v4:Option V,σ=[some (.ref b),some (.ref t),v2,v3,v4]/\Same H H'/\∀x∈ts.take n,VL rows x=false)
   ⟨none,none,none,rfl,Same.refl _,λx hx=>by simp at hx⟩ (λn σ H' _ h=>by obtain⟨_,_,_,_,sm,_⟩:=h;exact aK.of (sm _ _ ht)) ?_ ?_⟩
  ·rintro n x σ H' hx ⟨v2,v3,v4,rfl,sm,hfr⟩
   have hn:n < as.length:=by have:=(List.getElem?_eq_some_iff.mp hx).1;simpa using this
   have hnt:n < ts.length:=by omega
   rw[List.getElem?_map,List.getElem?_eq_getElem hn]at hx;have hx:V.ref as[n]=x:=Option.some.inj hx;subst hx;obtain⟨_,en⟩:=eO (hL.mv sm) hnt;obtain⟨c1,c2,_⟩:=hin _ (List.getElem_mem hnt);have BA':=BA.mv sm;obtain⟨dx0,_,_,_,ex,_⟩:=id BA'.ex;refine⟨as[n],_,rfl,aK.of en,rfl,_,_,rfl,_,_,rfl,_,_,rfl,rfl,?_⟩;refine⟨_,rfl,b,dx0,_,rfl,ex,rfl,_,rfl,_,rfl,b,r,w,rows,marks,bi,bj,_,_,rfl,BA',[_],[46],rfl,rfl,_,rfl,?_⟩;rw[Dj c1 c2];cases ht0:VL rows ts[n] with
   | true=>
    rw[show (!decide ([cell rows ts[n].1 ts[n].2.1]=[46]))=true from ht0];refine bw ⟨_,rfl,_,rfl,by show 2<=sizeLine;decide,λa na=>⟨a,_,_,rfl,ao,λdx ne nd=>?_⟩⟩;obtain⟨k0,k1,k2⟩:=Jv (q:=.ext (fL a (.ref CT) (some dx))) (p:=.ext (XD dx [("row",.int ts[n].1)])) (p2:=.ext (XD dx (Qw ts[n].1 ts[n].2.1))) na ne nd;exact⟨rfl,some dx,k0,qE ts[n] (Bp hnt hfr ht0) dx _ (sm.trans k1) k2⟩
   | false=>
    rw[show (!decide ([cell rows ts[n].1 ts[n].2.1]=[46]))=false from ht0];refine aU ⟨_,_,_,rfl,sm,λx hx=>?_⟩;rw[List.take_add_one,List.getElem?_eq_getElem hnt]at hx;rcases List.mem_append.mp hx with z | z
    ·exact hfr x z
    ·rw[List.mem_singleton.mp z];exact ht0
  ·rintro σ H' ⟨v2,v3,v4,rfl,sm,hfr⟩
   rw[List.length_map,hal,List.take_length]at hfr;exact q (Bq hfr) H' sm
def Qy (CC:Addr):Sp:=λvs H Q E=>∃(t:Addr) (as:List Addr) (ts:List bx),vs=[.ref t]/\H t=some (.tup (as.map V.ref))/\cO H as ts/\0 < ts.length/\ts.length<=7/\
 ((jX ts||jY ts)=false->∀H',Same H H'->E (.ref CC) none H')/\((jX ts||jY ts)=true->∀H',Same H H'->Q .non H')
theorem BL {CC:Addr}(D:aG K mg "check_straight" jK ["laying"])(xu:mg "Crooked"=some (.ref CC))(VN:PySem.W.excIn K CC h_ "ValueError.__new__"=true)
  (u0:Def P w K mg base "is_across" 1 ["laying"] Jw) (VP:Def P w K mg base "is_down" 1 ["laying"] Qx):DefX P w K mg base "check_straight" 3 ["laying"] (Qy CC):=by
 refine D.wU BJ (λvs H Q E h=>?_) (λf cdv A outer s H vs Q E hr h=>?_)
 ·obtain⟨t,as,ts,rfl,_⟩:=h
  rfl
 ·obtain⟨t,as,ts,rfl,ht,hL,h0,h7,qE,q⟩:=h
  refine⟨_,(aA (bO (QW.qt (iY (dG (cP (bA u0 (hr.mono (by decide)) rfl (aj (qv 0) ak)))) (lB (dG (cP (bA VP (hr.mono (by decide)) rfl (aj (qv 0) ak))))))) (aA (CP mX rfl rfl (by rfl) xu VN (aj (bN [116,104,101,32,99,101,108,108,115,32,97,114,101,32,110,111,116,32,105,110,32,111,110,101,32,108,105,110,101] (by decide +kernel)) ak))) bD)),?_⟩;refine⟨_,rfl,t,as,ts,rfl,ht,hL,h0,h7,λH1 s1=>⟨_,rfl,?_⟩⟩;cases ha:jX ts with
  | true=>exact aU (aU (q (by rw[ha];rfl) H1 s1))
  | false=>
   refine bw ⟨_,rfl,t,as,ts,rfl,s1 _ _ ht,hL.mv s1,h0,h7,λH2 s2=>⟨_,rfl,?_⟩⟩;cases hd:jY ts with
   | true=>exact aU (q (by rw[ha,hd];rfl) H2 (s1.trans s2))
   | false=>exact bw ⟨by show 1<=sizeLine;decide,qE (by rw[ha,hd];rfl) H2 (s1.trans s2)⟩
structure Sh (R:List (List Nat))(a b c d i j:Nat):Prop where
 i1:a<=i
 i2:i<=b
 j1:c<=j
 j2:j<=d
 fr:cell R i j=46
 up:∀i' j',a<=i'->i' < i->c<=j'->j'<=d->cell R i' j'≠46
 le:∀j',c<=j'->j' < j->cell R i j'≠46
def uH (R:List (List Nat))(a b c d:Nat):Prop:=∀i j,a<=i->i<=b->c<=j->j<=d->cell R i j≠46
def fD (ts:List bx):bx:=ts.getLastD (0,0,0)
def fW (ts:List bx):bx:=ts.headD (0,0,0)
theorem Mt {ts:List bx}(h:0 < ts.length):fD ts=ts[ts.length-1]:=by
 unfold fD;rw[List.getLastD_eq_getLast?,List.getLast?_eq_getElem?,List.getElem?_eq_getElem (by omega)];rfl
def Mu (C CG:Addr):Sp:=λvs H Q E=>∃(b t:Addr) (as:List Addr) (ts:List bx) (r w:Nat) (rows marks:List (List Nat)) (bi bj:Nat),vs=[.ref b,.ref t]/\dY C H b r w rows marks bi bj/\H t=some (.tup (as.map V.ref))/\cO H as ts/\(∀t∈ts,inB r w t)/\0 < ts.length/\
 (∀i j,Sh (bJ rows ts) (fW ts).1 (fD ts).1 (fW ts).2.1 (fD ts).2.1 i j->∀(dx:Addr) (H':Hp),Same H H'->H' dx=some (.ext (XD dx (Qw i j)))->E (.ref CG) (some dx) H')/\
 (uH (bJ rows ts) (fW ts).1 (fD ts).1 (fW ts).2.1 (fD ts).2.1->∀H',Same H H'->Q .non H')
theorem J4 {C CG f0 f1 f2:Addr}{jq gH fd2:FuncData}(D:aG K mg "check_gaps" nD ["board","laying"])(cI:mg "range"=none)(dW:∃t,mg "FREE"=some (.str (S [46]) t))(gJ:gb K C)(nP:Meth K C "at" f1)(nQ:cu P w K mg base eV 3 f1 gH ["self","row","column"] (R6 C))(nR:Binds K gH ["self","row","column"] [])
  (tE:Meth K C "laid" f2) (tG:cu P w K mg base eV 8 f2 fd2 ["self","laying"] (Ly C)) (tH:Binds K fd2 ["self","laying"] [])
  (T:lH K mg "Gap" CG f0 ["row","column"]) (aeu:cu P w K mg base eV 1 f0 jq ["self","row","column"] (Fd CG "row" "column")) (Sq:Binds K jq ["self","row","column"] []):DefX P w K mg base "check_gaps" 10 ["board","laying"] (Mu C CG):=by
 refine D.wU mq (λvs H Q E h=>?_) (λf cdv A outer s H vs Q E hr h=>?_)
 ·obtain⟨b,t,as,ts,r,w,rows,marks,bi,bj,rfl,_⟩:=h
  rfl
 ·obtain⟨b,t,as,ts,r,w,rows,marks,bi,bj,rfl,BA,ht,hL,hin,h0,qE,q⟩:=h
  have aev:=T.M;have Mv:=T.E_;have hal:=hL.len;have r9:=BA.ok.r9;have w9:=BA.ok.w9;obtain⟨dx,_,_,_,ex,_⟩:=id BA.ex;refine⟨_,(au (aM (i:=2) mq.nd rfl (Or.inl rfl) (mW (qv 0) gJ.cl tE tG (hr.mono (by decide)) tH .nil jw (aj (qv 1) ak))) (aA (dF PassesOwn.leaving rfl (tZ (by rfl) cI (aj (aL aW (aL aW (qv 1) aq (λ_ _=>rfl)) aq (λ_ _=>rfl)) (aj (aH b_ (aL aW (aL aW (qv 1) (wL rZ aq) (λ_ _=>rfl)) aq (λ_ _=>rfl)) aq) ak))) (bI (i:=3) mq.nd rfl (Or.inl rfl)) (aA (dF PassesOwn.leaving rfl (tZ (by rfl) cI (aj (aL aW (aL aW (qv 1) aq (λ_ _=>rfl)) aq (λ_ _=>rfl)) (aj (aH b_ (aL aW (aL aW (qv 1) (wL rZ aq) (λ_ _=>rfl)) aq (λ_ _=>rfl)) aq) ak))) (bI (i:=4) mq.nd rfl (Or.inl rfl)) (aA (bO (bh pZ (mW (qv 2) gJ.cl nP nQ (hr.mono (by decide)) nR .nil jw (aj (qv 3) (aj (qv 4) ak))) (qR (by rfl) dW) (aY _)) (aA (qg mX rfl aev aeu (hr.mono (by decide)) (by rfl) Mv Sq (aj (qv 3) (aj (qv 4) ak)))) bD))))))),?_⟩;refine⟨_,rfl,b,dx,_,rfl,ex,rfl,_,rfl,b,t,as,ts,r,w,rows,marks,bi,bj,rfl,BA,ht,hL,hin,λx1 H1 s1 B1=>?_⟩;rw[show fW ts=ts[0] from jN h0,Mt h0]at qE q;obtain⟨a1,a2,_⟩:=hin _ (List.getElem_mem h0);obtain⟨l1,l2,_⟩:=hin _ (List.getElem_mem (show ts.length-1 < ts.length by omega));have hL1:=hL.mv s1;have ht1:=s1 _ _ ht;obtain⟨g0,e0⟩:=eO hL1 h0;obtain⟨gl,el⟩:=eO hL1 (show ts.length-1 < ts.length by omega);have eal:as.length-1=ts.length-1:=by omega
  have xq:mV (as.map V.ref) (-1)=some (.ref as[ts.length-1]):=by
   rw[Hg (show 0 < as.length by omega)];simp only[eal]
  generalize hR:bJ rows ts=R at B1 qE q;generalize ef:ts[0]=ff at e0 qE q a1 a2;generalize eg:ts[ts.length-1]=ll at el qE q l1 l2;refine⟨_,rfl,t,_,_,.ref as[0],rfl,rfl,aK.of ht1,aF (j:=0) (by simp[g0]),as[0],_,_,_,rfl,rfl,aK.of e0,aF (j:=0) rfl,_,rfl,_,rfl,t,_,_,.ref as[ts.length-1],rfl,rfl,aK.of ht1,xq,as[ts.length-1],_,_,_,rfl,rfl,aK.of el,aF (j:=0) rfl,_,_,rfl,rfl,(ff.1:Int),(ll.1:Int)+1,rfl,⟨by omega,by omega,by omega,by omega⟩,?_⟩;refine gk (lo:=(ff.1:Int)) (λn σ H'=>∃v3 v4:Option V,σ=[some (.ref b),some (.ref t),some (.ref x1),v3,v4]/\Same H1 H'/\∀i j,ff.1<=i->i < ff.1+n->ff.2.1<=j->j<=ll.2.1->cell R i j≠46)
   ⟨none,none,rfl,Same.refl _,λi j z1 z2=>by omega⟩ ?_ ?_
  ·rintro n σ H' hn ⟨v3,v4,rfl,sm,hup⟩
   have hn2:ff.1+n<=ll.1:=by omega
   have en:(ff.1:Int)+(n:Int)=((ff.1+n:Nat):Int):=by omega
   rw[en];have Jp:=sm _ _ ht1;have e02:=sm _ _ e0;have el2:=sm _ _ el;refine⟨_,rfl,t,_,_,.ref as[0],rfl,rfl,aK.of Jp,aF (j:=0) (by simp[g0]),as[0],_,_,_,rfl,rfl,aK.of e02,aF (j:=1) rfl,_,rfl,_,rfl,t,_,_,.ref as[ts.length-1],rfl,rfl,aK.of Jp,xq,as[ts.length-1],_,_,_,rfl,rfl,aK.of el2,aF (j:=1) rfl,_,_,rfl,rfl,(ff.2.1:Int),(ll.2.1:Int)+1,rfl,⟨by omega,by omega,by omega,by omega⟩,?_⟩;refine gk (lo:=(ff.2.1:Int)) (λm σ H2=>∃v4:Option V,σ=[some (.ref b),some (.ref t),some (.ref x1),some (.int ((ff.1+n:Nat):Int)),v4]/\Same H1 H2/\∀j,ff.2.1<=j->j < ff.2.1+m->cell R (ff.1+n) j≠46)
    ⟨_,rfl,sm,λj z1 z2=>by omega⟩ ?_ ?_
   ·rintro m σ H2 hm ⟨v4,rfl,VR,hle⟩
    have hm2:ff.2.1+m<=ll.2.1:=by omega
    have em:(ff.2.1:Int)+(m:Int)=((ff.2.1+m:Nat):Int):=by omega
    rw[em];have B2:=B1.mv VR;obtain⟨dx1,_,_,_,ex1,_⟩:=id B2.ex;refine⟨_,rfl,x1,dx1,_,rfl,ex1,rfl,_,rfl,_,rfl,x1,r,w,R,marks,bi,bj,_,_,rfl,B2,[_],[46],rfl,rfl,_,rfl,?_⟩;rw[Dj (show ff.1+n < r by omega) (show ff.2.1+m < w by omega)];by_cases hc:cell R (ff.1+n) (ff.2.1+m)=46
    ·rw[decide_eq_true (show [cell R (ff.1+n) (ff.2.1+m)]=[46] by rw[hc])]
     refine bw ⟨_,rfl,_,rfl,by show 2<=sizeLine;decide,λa na=>⟨a,_,_,rfl,ao,λdx ne nd=>?_⟩⟩;obtain⟨k0,k1,k2⟩:=Jv (q:=.ext (fL a (.ref CG) (some dx))) (p:=.ext (XD dx [("row",.int (ff.1+n:Nat))])) (p2:=.ext (XD dx (Qw (ff.1+n) (ff.2.1+m)))) na ne nd;exact⟨rfl,some dx,k0,qE _ _ ⟨by omega,hn2,by omega,hm2,hc,hup,hle⟩ dx _ ((s1.trans VR).trans k1) k2⟩
    ·rw[decide_eq_false (show ¬[cell R (ff.1+n) (ff.2.1+m)]=[46] from λz=>hc (by injection z))]
     refine aU ⟨_,rfl,VR,λj z1 z2=>?_⟩;by_cases z:j=ff.2.1+m
     ·rw[z];exact hc
     ·exact hle j z1 (by omega)
   ·rintro σ H2 ⟨v4,rfl,VR,hle⟩
    refine⟨_,_,rfl,VR,λi j z1 z2 z3 z4=>?_⟩;by_cases z:i=ff.1+n
    ·rw[z];exact hle j z3 (by omega)
    ·exact hup i j z1 (by omega) z3 z4
  ·rintro σ H' ⟨v3,v4,rfl,sm,hup⟩
   exact q (λi j z1 z2 z3 z4=>hup i j z1 (by omega) z3 z4) H' (s1.trans sm)
def dI (t:bx):Nat × Nat:=(t.1,t.2.1)
def qz (rows:List (List Nat))(r w bi bj:Nat)(ts:List bx):Bool:=if isFree rows=true then decide ((bi,bj)∈ts.map dI) else ts.any λt=>ig rows r w t.1 t.2.1
theorem cY.V0 {H:Hp}:∀{cs:List Addr} {cc:List (Nat × Nat)},Mi H cs cc->cY K H 1 (cc.map λc=>Dt.tup [.int c.1,.int c.2]) (cs.map V.ref)
 | [],[],_=>.nil
 | [],_::_,h=>by have:=h.len;simp at this
 | _::_,[],h=>by have:=h.len;simp at this
 | a::cs,c::cc,h=>.cons (.tup (aK.of (h.at_ 0 a c rfl rfl)) (.cons (.int _) (.cons (.int _) .nil))) (cY.V0 ⟨by have:=h.len;simpa using this,λi a x h1 h2=>h.at_ (i+1) a x h1 h2⟩)
theorem vZ {c:Nat × Nat}{cc:List (Nat × Nat)}:Dt.tup [.int c.1,.int c.2]∈(cc.map λc=>Dt.tup [.int (c.1:Int),.int (c.2:Int)])↔c∈cc:=by
 constructor
 ·intro h
  obtain⟨d,hd,e⟩:=List.mem_map.mp h;injection e with e;injection e with e1 e2;injection e1 with e1;injection e2 with e2;injection e2 with e2;have:d=c:=Prod.ext (Int.ofNat.inj e1) (Int.ofNat.inj e2);rw[<- this];exact hd
 ·intro h
  exact List.mem_map.mpr ⟨c,h,rfl⟩
def Mw (C CA:Addr):Sp:=λvs H Q E=>∃(b t:Addr) (as:List Addr) (ts:List bx) (r w:Nat) (rows marks:List (List Nat)) (bi bj:Nat),vs=[.ref b,.ref t]/\dY C H b r w rows marks bi bj/\H t=some (.tup (as.map V.ref))/\cO H as ts/\ts.length<=7/\
 (qz rows r w bi bj ts=false->∀H',Same H H'->E (.ref CA) none H')/\(qz rows r w bi bj ts=true->∀H',Same H H'->Q .non H')
open Classical in
theorem FT {C CA f1:Addr}{gH:FuncData}(D:aG K mg "check_joined" lC ["board","laying"])(uG:mg "any"=none)(gJ:gb K C)(FW:Meth K C "is_free" f1)(FZ:cu P w K mg base eV 1 f1 gH ["self"] (Vr C))(Ga:Binds K gH ["self"] [])
  (Dl:mg "Apart"=some (.ref CA)) (abg:PySem.W.excIn K CA h_ "ValueError.__new__"=true) (xr:Def P w K mg base "cells_of" 1 ["laying"] zN) (zO:Def P w K mg base "is_next_to_taken" 5 ["board","row","column"] (Mq C)):DefX P w K mg base "check_joined" 7 ["board","laying"] (Mw C CA):=by
 refine D.wU nF (λvs H Q E h=>?_) (λf cdv A outer s H vs Q E hr h=>?_)
 ·obtain⟨b,t,as,ts,r,w,rows,marks,bi,bj,rfl,_⟩:=h
  rfl
 ·obtain⟨b,t,as,ts,r,w,rows,marks,bi,bj,rfl,BA,ht,hL,h7,qE,q⟩:=h
  have hal:=hL.len;obtain⟨dx,pr,pm,pb,ex,_,_,hpb⟩:=id BA.ex;refine⟨_,(au (iG (bO (cP (wM (qv 0) gJ.cl FW FZ (hr.mono (by decide)) Ga .nil jw)) (aA (aM (i:=2) nF.nd rfl (Or.inl rfl) (dB (Qf hr.units) (iC (qv 0) rfl) (bA xr (hr.mono (by decide)) rfl (aj (qv 1) ak)) rfl))) (aA (aM (i:=2) nF.nd rfl (Or.inl rfl) (aJ (K9 rfl) (by rfl) uG Jc (aj (dZ (ns:=["row","column","sign"]) rfl (d_.of ["board","laying","joined"] [] (by kernel_rfl)) (dz (qv 1)) (λ_ _ _ _ _=>(jR K rfl (show (["row","column","sign","board","laying","joined"]:List Str).Nodup by decide +kernel) rfl rfl rfl (by rfl) (by rfl) (by rfl))) (λ_ _ _ _ _=>cH) (λ_ _ _ _ _=>(bA zO (hr.mono (by decide)) rfl (aj (qv 3) (aj (qv 0) (aj (qv 1) ak)))))) ak)))))) (aA (bO (dG (cP (qv 2))) (aA (CP mX rfl rfl (by rfl) Dl abg (aj (bN [116,104,101,32,108,97,121,105,110,103,32,105,115,32,106,111,105,110,101,100,32,116,111,32,110,111,116,104,105,110,103] (by decide +kernel)) ak))) bD))),?_⟩;refine⟨λσ H'=>Same H H'/\σ=[some (.ref b),some (.ref t),some (.bl (qz rows r w bi bj ts))],?_,?_⟩
  ·refine⟨_,rfl,b,dx,_,rfl,ex,rfl,b,r,w,rows,marks,bi,bj,rfl,BA,λH1 s1=>⟨_,rfl,?_⟩⟩
   cases hf:isFree rows with
   | true=>
    refine bw ⟨_,rfl,b,C,dx,_,_,rfl,s1 _ _ ex,gJ.cl,gJ.nb,rfl,_,rfl,t,as,ts,rfl,s1 _ _ ht,hL.mv s1,by omega,λLc cs H2 s2 hLc hcs=>?_⟩;have Yz:=s2 _ _ (s1 _ _ hpb);refine⟨2,.tup [.int bi,.int bj],(ts.map dI).map λc=>Dt.tup [.int c.1,.int c.2],by decide,.tup (aK.of Yz) (.cons (.int _) (.cons (.int _) .nil)),.lst (aN.of hLc) (cY.V0 hcs),?_⟩;refine⟨s1.trans s2,?_⟩;have e:qz rows r w bi bj ts=decide ((bi,bj)∈ts.map dI):=by unfold qz;rw[if_pos hf]
    rw[e];simp only[Bool.false_eq_true,if_false];by_cases hm:(bi,bj)∈ts.map dI
    ·rw[decide_eq_true hm,decide_eq_true (vZ (c:=(bi,bj)).mpr hm)];rfl
    ·rw[decide_eq_false hm,decide_eq_false (λz=>hm (vZ (c:=(bi,bj)).mp z))];rfl
   | false=>
    refine aU ⟨_,rfl,t,rfl,⟨_,aK.of (s1 _ _ ht)⟩,λN hN=>gj (K:=K) (KT:=K) (a:=t) (f:=dR [] 0) (tt:=gq) (xs:=as.map V.ref) (λn ys H3=>ys=((ts.take n).map λt=>ig rows r w t.1 t.2.1).map V.bl/\H3 N=some (.lst ys)/\Same H1 H3)
     ⟨rfl,ao,Same.upd hN⟩ (λn ys H3 _ h=>aK.of (h.2.2 _ _ (s1 _ _ ht))) ?_ ?_⟩
    ·rintro n x ys H3 hx ⟨rfl,jf,sm3⟩
     have hn:n < as.length:=by have:=(List.getElem?_eq_some_iff.mp hx).1;simpa using this
     have hnt:n < ts.length:=by omega
     rw[List.getElem?_map,List.getElem?_eq_getElem hn]at hx;have hx:V.ref as[n]=x:=Option.some.inj hx;have oh:=s1.trans sm3;obtain⟨_,en⟩:=eO (hL.mv oh) hnt;refine qU hx.symm (aK.of en) ?_;refine⟨_,rfl,_,rfl,_,rfl,b,r,w,rows,marks,bi,bj,_,_,rfl,BA.mv oh,λH4 s4=>⟨s4 _ _ jf,?_,dh.mk (by rw[List.length_map];exact hn) ⟨?_,ao,(sm3.trans s4).bK hN⟩⟩⟩
     ·rw[List.length_map,List.length_map,List.length_take];exact aD (by omega)
     ·rw[take_snoc (List.getElem?_eq_getElem hnt),List.map_append];rfl
    ·rintro ys H3 ⟨rfl,jf,sm3⟩
     refine⟨N,_,rfl,aN.of jf,s1.trans sm3,?_⟩;rw[List.length_map,hal,List.take_length,any_map];have e:qz rows r w bi bj ts=ts.any λt=>ig rows r w t.1 t.2.1:=by unfold qz;rw[if_neg (by rw[hf];decide)]
     rw[e];rfl
  ·rintro σ H' ⟨sm,rfl⟩
   refine⟨_,rfl,_,rfl,?_⟩;cases hj:qz rows r w bi bj ts with
   | true=>exact aU (q hj H' sm)
   | false=>exact bw ⟨by show 1<=sizeLine;decide,qE hj H' sm⟩
end
end My
end
section
namespace My
open PySem L2
section
variable {P:Program}{w:World}{K:PySem.W.Frag}{mg:Str->Option Value}{base:Heap}
structure lK (w:List Nat):Prop where
 lo:2<=w.length
 hi:w.length<=9
 az:∀c∈w,isLet c
def Mx:Sp:=λvs H Q _=>∃l:List Nat,vs=[.str (S l)]/\lK l/\∀H',Same H H'->Q (.bl true) H'
theorem adD {c:Nat}(h:isLet c):decide ([c] < [97])=false/\decide ([122] < [c])=false:=by
 have hlt:∀a b:Nat,([a] < [b])↔a < b:=λa b=>by simp[List.cons_lt_cons_iff]
 constructor
 ·rw[decide_eq_false];rw[hlt];have:=h.1;omega
 ·rw[decide_eq_false];rw[hlt];have:=h.2;omega
theorem Ss (D:aG K mg "is_word" uh ["text"])(hlen:mg "len"=none)(hall:mg "all"=none):Def P w K mg base "is_word" 1 ["text"] Mx:=by
 refine D.cU Fj (λvs H Q E h=>?_) (λf cdv A outer s H vs Q E hr h=>?_)
 ·obtain⟨l,rfl,_⟩:=h
  rfl
 ·obtain⟨l,rfl,hw,q⟩:=h
  have h1:=hw.lo;have h2:=hw.hi;have hz:l.length<=sizeLine:=Nat.le_of_lt (aD (by omega));refine⟨_,aA (aQ (iZ (jG ju ju aq (aJ cT (by rfl) hlen PySem.boot_len (aj (qv 0) ak)) aq)
   (gY (aJ (iD rfl) (by rfl) hall (by decide +kernel) (aj (iU rfl (gW.of Fj.nd (by kernel_rfl)) (zj (qv 0)) (λ_ _ _ _ _=>cH)
    (λ_ _ _ _ _=>jG qe qe (bN [97] (by decide +kernel)) (qv 0) (bN [122] (by decide +kernel)))) ak))))),?_⟩
  refine⟨_,rfl,l,rfl,hz,_,_,rfl,rfl,true,(by simp;omega),?_⟩;refine bw ⟨_,_,rfl,rfl,true,(by simp;omega),?_⟩;refine bw ?_;refine⟨_,rfl,l,rfl,λL hL=>wN (λi ys H2=>ys=(List.replicate i true).map V.bl/\H2 L=some (.lst ys)/\Same H H2) ⟨rfl,ao,Same.upd hL⟩ ?_ ?_⟩
  ·rintro i c ys H2 hi ⟨rfl,hL2,sm⟩
   have hil:i < l.length:=(List.getElem?_eq_some_iff.mp hi).1;obtain⟨a1,a2⟩:=adD (hw.az c (List.mem_of_getElem? hi));refine⟨_,rfl,[97],[c],rfl,rfl,true,by rw[a1];rfl,bw ⟨[c],[122],rfl,rfl,hL2,?_,dh.mk hil ⟨?_,ao,sm.bK hL⟩⟩⟩
   ·rw[List.length_map,List.length_replicate];exact aD (by omega)
   ·rw[a2,List.replicate_succ',List.map_append];rfl
  ·rintro ys H2 ⟨rfl,hL2,sm⟩
   refine⟨L,List.replicate l.length true,rfl,aN.of hL2,?_⟩;have e:(List.replicate l.length true).all id=true:=by simp
   rw[e];exact q H2 sm
def Hj:Sp:=λvs H Q _=>∃l:List Nat,vs=[.str (S l)]/\lK l/\∀H',Same H H'->Q .non H'
theorem J5 (D:aG K mg "check_word" nG ["text"])(D1:Def P w K mg base "is_word" 1 ["text"] Mx):Def P w K mg base "check_word" 2 ["text"] Hj:=by
 refine D.cU JT (λvs H Q E h=>?_) (λf cdv A outer s H vs Q E hr h=>?_)
 ·obtain⟨l,rfl,_⟩:=h
  rfl
 ·obtain⟨l,rfl,hw,q⟩:=h
  refine⟨_,aA (bO (dG (cP (bA D1 hr rfl (aj (qv 0) ak)))) zf bD),?_⟩;refine⟨_,rfl,l,rfl,hw,λH1 s1=>⟨true,rfl,?_⟩⟩;exact aU (q H1 s1)
structure oZ (K:PySem.W.Frag)(C:Addr):Prop where
 cl:Cls K C
 nh:lO K C "held"
def lF (ws:List (List Nat)):List (Key × V):=ws.map λl=>(g_ l,V.bl true)
theorem YB (ws:List (List Nat)):(lF ws).map (·.1)=ws.map g_:=by unfold lF;rw[List.map_map];rfl
theorem YC {a b:List Nat}(h:g_ a=g_ b):a=b:=Kd (Sum.inr.inj h)
theorem Br (ws:List (List Nat))(l:List Nat):j7 (lF ws) (g_ l)=if l∈ws then some (.bl true) else none:=by
 induction ws with
 | nil=>simp[lF,j7]
 | cons a r ih=>
  by_cases e:a=l
  ·subst e
   have:j7 (lF (a::r)) (g_ a)=some (.bl true):=wH (p:=(g_ a,V.bl true)) rfl;rw[this];simp
  ·have:j7 (lF (a::r)) (g_ l)=j7 (lF r) (g_ l):=wI (p:=(g_ a,V.bl true)) λz=>e (YC z)
   rw[this,ih];have e':¬l=a:=λz=>e z.symm;simp[e']
theorem abh {ws:List (List Nat)}{l:List Nat}(h:l∈ws):putK (lF ws) (g_ l) (.bl true)=lF ws:=by
 have hany:((lF ws).any λkv=>decide (kv.1=g_ l))=true:=by rw[wJ,Br,if_pos h];rfl
 unfold putK;rw[if_pos hany];refine(List.map_congr_left λkv hkv=>?_).trans (List.map_id _);obtain⟨a,_,rfl⟩:=List.mem_map.mp hkv;by_cases e:g_ a=g_ l
 ·simp[e]
 ·simp[e]
theorem Qz {ws:List (List Nat)}{l:List Nat}(h:l∉ws):putK (lF ws) (g_ l) (.bl true)=lF (ws++[l]):=by
 rw[XF _ (by rw[Br,if_neg h])];simp[lF]
structure kO (C:Addr)(H:Hp)(p d:Addr)(ws:List (List Nat)):Prop where
 ob:∃dx,H p=some (.ins C dx [("held",.ref d)])
 dc:H d=some (.dK (lF ws))
 nd:ws.Nodup
 az:∀l∈ws,lK l
def u6 (ws:List (List Nat))(l:List Nat):List (List Nat):=if l∈ws then ws else ws++[l]
theorem Mz (ws:List (List Nat))(l:List Nat):putK (lF ws) (g_ l) (.bl true)=lF (u6 ws l):=by
 unfold u6
 split
 ·rename_i h;exact abh h
 ·rename_i h;exact Qz h
theorem QB {ws:List (List Nat)}{l:List Nat}(h:ws.Nodup):(u6 ws l).Nodup:=by
 unfold u6
 split
 ·exact h
 ·rename_i hl;exact GC h hl
theorem MF {ws:List (List Nat)}{l x:List Nat}:x∈u6 ws l↔x∈ws\/x=l:=by
 unfold u6
 split
 ·rename_i h;exact⟨.inl,λz=>z.elim id λe=>e ▸ h⟩
 ·simp
theorem MJ (ws:List (List Nat))(l:List Nat):(u6 ws l).length<=ws.length+1:=by
 unfold u6
 split
 ·omega
 ·simp
def aew (K:PySem.W.Frag)(H:Hp)(a:Addr)(ls:List (List Nat)):Prop:=aN K H a (Ts ls)\/aK K H a (Ts ls)
def V1 (K:PySem.W.Frag)(C:Addr):Sp:=λvs H Q _=>∃(p dx a:Addr) (ls:List (List Nat)),vs=[.ref p,.ref a]/\H p=some (.ins C dx [])/\aew K H a ls/\(∀l∈ls,lK l)/\ls.length<=200/\
 ∀(d:Addr) (ws:List (List Nat)) (H':Hp),H d=none->kO C H' p d ws->(∀x,x∈ws↔x∈ls)->ws.length<=ls.length->(∀b o,H b=some o->b≠p->H' b=some o)->Q .non H'
theorem abj {f C:Addr}{fd:FuncData}(F:fG K "__init__" "Book.__init__" jl f fd)(T:oZ K C)(D1:Def P w K mg base "check_word" 2 ["text"] Hj):cu P w K mg base eV 3 f fd ["self","words"] (V1 K C):=by
 refine F.cU zE (λvs H Q E h=>?_) (λcdv A outer s H vs Q E hr h=>?_)
 ·obtain⟨p,dx,a,ls,rfl,_⟩:=h
  rfl
 ·obtain⟨p,dx,a,ls,rfl,hp,hS,hW,hn,k⟩:=h
  have hu:=Rv hr;have nd:=zE.nd;refine⟨_,au (Et (qv 0) XR rfl) (aA (dF PassesOwn.never rfl ((fY (qv 1)).or (dz (qv 1))) (bI (i:=2) nd rfl (Or.inl rfl))
   (au (cX (bA D1 hr rfl (aj (qv 2) ak))) (aA (Qa hu (iC (qv 0) rfl) (qv 2) gD rfl))))),?_⟩
  intro d hd;have QD:p≠d:=bR hp hd;refine⟨_,rfl,p,C,dx,[],rfl,(by rw[aP QD];exact hp),T.cl,T.nh,(by show 0 < 1000;decide),?_⟩;have hP1:upd (upd H d (HO.dK [])) p (HO.ins C dx (gM "held" (V.ref d) [])) p=some (.ins C dx [("held",.ref d)]):=ao;have hD1:upd (upd H d (HO.dK [])) p (HO.ins C dx (gM "held" (V.ref d) [])) d=some (.dK (lF [])):=by rw[aP QD.symm,ao];rfl
  have V2:∀b o,H b=some o->b≠p->upd (upd H d (HO.dK [])) p (HO.ins C dx (gM "held" (V.ref d) [])) b=some o:=λb o e hb=>by rw[aP hb,aP (bR e hd)];exact e
  generalize upd (upd H d (HO.dK [])) p (HO.ins C dx (gM "held" (V.ref d) []))=H1 at hP1 hD1 V2 ⊢;have npl:∀o,H p=some o->(∀ys,o≠.lst ys)/\∀u ys,o≠.lM u (.lst ys):=λo e=>by
   rw[hp]at e;cases e;exact⟨λ_ z=>(nomatch z),λ_ _ z=>(nomatch z)⟩
  have npt:∀o,H p=some o->(∀ys,o≠.tup ys)/\∀u ys,o≠.lM u (.tup ys):=λo e=>by
   rw[hp]at e;cases e;exact⟨λ_ z=>(nomatch z),λ_ _ z=>(nomatch z)⟩
  rcases hS with hS | hS
  ·refine .inl ⟨_,rfl,a,rfl,⟨_,hS.keep V2 npl⟩,oJ (K:=K) (a:=a) (xs:=Ts ls) (λi σ H2=>∃(v2:Option V) (ws:List (List Nat)),σ=[some (.ref p),some (.ref a),v2]/\H2 p=some (.ins C dx [("held",.ref d)])/\H2 d=some (.dK (lF ws))/\ws.Nodup/\
    (∀x,x∈ws↔x∈ls.take i)/\ws.length<=i/\∀b o,H b=some o->b≠p->H2 b=some o) ⟨none,[],rfl,hP1,hD1,List.nodup_nil,λx=>by simp,Nat.le_refl _,V2⟩ (λi σ H2 _ ⟨_,_,_,_,_,_,_,_,kp⟩=>hS.keep kp npl) ?_ ?_⟩
   ·rintro i y σ H2 hi ⟨v2,ws,rfl,hp2,hd2,hnd,hm,hl,kp⟩
    rw[List.getElem?_map]at hi;obtain⟨l,hl2,e⟩:=Option.map_eq_some_iff.mp hi;subst e;have hil:i < ls.length:=(List.getElem?_eq_some_iff.mp hl2).1;refine⟨_,rfl,l,rfl,hW l (List.mem_of_getElem? hl2),λH3 s3=>?_⟩;have hd3:=s3 _ _ hd2;refine⟨_,rfl,p,C,dx,_,_,rfl,s3 _ _ hp2,T.cl,T.nh,rfl,_,rfl,d,_,rfl,Cy.k (k:=g_ l) hd3 (by rw[lF,List.length_map];exact aD (by omega)),?_⟩;refine⟨_,u6 ws l,rfl,by rw[aP QD];exact s3 _ _ hp2,by rw[ao,Mz],QB hnd,λx=>?_,Nat.le_trans (MJ _ _) (by omega),λb o e hb=>?_⟩
    ·rw[MF,hm,List.take_add_one,hl2];simp
    ·rw[aP (bR e hd)];exact s3 _ _ (kp b o e hb)
   ·rintro σ H2 ⟨v2,ws,rfl,hp2,hd2,hnd,hm,hl,kp⟩
    rw[List.length_map]at hm hl;rw[List.take_length]at hm;exact k d ws H2 hd ⟨⟨dx,hp2⟩,hd2,hnd,λl hl=>hW l ((hm l).mp hl)⟩ hm hl kp
  ·refine .inr ⟨_,rfl,a,rfl,⟨_,hS.keep V2 npt⟩,mU (K:=K) (a:=a) (xs:=Ts ls) (λi σ H2=>∃(v2:Option V) (ws:List (List Nat)),σ=[some (.ref p),some (.ref a),v2]/\H2 p=some (.ins C dx [("held",.ref d)])/\H2 d=some (.dK (lF ws))/\ws.Nodup/\
    (∀x,x∈ws↔x∈ls.take i)/\ws.length<=i/\∀b o,H b=some o->b≠p->H2 b=some o) ⟨none,[],rfl,hP1,hD1,List.nodup_nil,λx=>by simp,Nat.le_refl _,V2⟩ (λi σ H2 _ ⟨_,_,_,_,_,_,_,_,kp⟩=>hS.keep kp npt) ?_ ?_⟩
   ·rintro i y σ H2 hi ⟨v2,ws,rfl,hp2,hd2,hnd,hm,hl,kp⟩
    rw[List.getElem?_map]at hi;obtain⟨l,hl2,e⟩:=Option.map_eq_some_iff.mp hi;subst e;have hil:i < ls.length:=(List.getElem?_eq_some_iff.mp hl2).1;refine⟨_,rfl,l,rfl,hW l (List.mem_of_getElem? hl2),λH3 s3=>?_⟩;have hd3:=s3 _ _ hd2;refine⟨_,rfl,p,C,dx,_,_,rfl,s3 _ _ hp2,T.cl,T.nh,rfl,_,rfl,d,_,rfl,Cy.k (k:=g_ l) hd3 (by rw[lF,List.length_map];exact aD (by omega)),?_⟩;refine⟨_,u6 ws l,rfl,by rw[aP QD];exact s3 _ _ hp2,by rw[ao,Mz],QB hnd,λx=>?_,Nat.le_trans (MJ _ _) (by omega),λb o e hb=>?_⟩
    ·rw[MF,hm,List.take_add_one,hl2];simp
    ·rw[aP (bR e hd)];exact s3 _ _ (kp b o e hb)
   ·rintro σ H2 ⟨v2,ws,rfl,hp2,hd2,hnd,hm,hl,kp⟩
    rw[List.length_map]at hm hl;rw[List.take_length]at hm;exact k d ws H2 hd ⟨⟨dx,hp2⟩,hd2,hnd,λl hl=>hW l ((hm l).mp hl)⟩ hm hl kp
def aam (C:Addr):Sp:=λvs H Q _=>∃(p d:Addr) (ws:List (List Nat)) (l:List Nat),vs=[.ref p,.str (S l)]/\kO C H p d ws/\Q (.bl (decide (l∈ws))) H
theorem adE {f C:Addr}{fd:FuncData}(F:fG K "has" "Book.has" jL f fd)(T:oZ K C):cu P w K mg base eV 1 f fd ["self","text"] (aam C):=by
 refine F.cU Ow (λvs H Q E h=>?_) (λcdv A outer s H vs Q E hr h=>?_)
 ·obtain⟨p,d,ws,l,rfl,_⟩:=h
  rfl
 ·obtain⟨p,d,ws,l,rfl,B,q⟩:=h
  have hu:=Rv hr;obtain⟨⟨dx,hp⟩,hd,_,_⟩:=id B;refine⟨_,aA (aQ (acZ (U4 hu (qv 1) (iC (qv 0) rfl)))),?_⟩;refine⟨_,rfl,_,rfl,p,C,dx,_,_,rfl,hp,T.cl,T.nh,rfl,d,_,rfl,Gz.k (k:=g_ l) hd,?_⟩;rw[Br];by_cases h:l∈ws
  ·rw[if_pos h];simpa [h] using q
  ·rw[if_neg h];simpa [h] using q
def YD (ws:List (List Nat)):Prop:=ws.Pairwise (λa b=>decide (b < a)=false)
def QF (C:Addr):Sp:=λvs H Q _=>∃(p d:Addr) (ws:List (List Nat)),vs=[.ref p]/\kO C H p d ws/\ws.length < 64/\
 ∀(t:Addr) (us:List (List Nat)) (H':Hp),Same H H'->H t=none->H' t=some (.tup (Ts us))->us.Perm ws->YD us->Q (.ref t) H'
theorem YF {f C:Addr}{fd:FuncData}(F:fG K "words" "Book.words" iK f fd)(T:oZ K C)(abk:mg "sorted"=none)(htup:mg "tuple"=none):cu P w K mg base eV 1 f fd ["self"] (QF C):=by
 refine F.cU JV (λvs H Q E h=>?_) (λcdv A outer s H vs Q E hr h=>?_)
 ·obtain⟨p,d,ws,rfl,_⟩:=h
  rfl
 ·obtain⟨p,d,ws,rfl,B,h64,q⟩:=h
  obtain⟨⟨dx,hp⟩,hd,_,_⟩:=id B;refine⟨_,aA (aQ (fU gO (by rfl) htup PyProof.Rows.boot_tuple (aj (aJ (KJ rfl) (by rfl) abk PyProof.Rows.boot_sorted (aj (iC (qv 0) rfl) ak)) ak))),?_⟩;refine⟨_,rfl,p,C,dx,_,_,rfl,hp,T.cl,T.nh,rfl,d,_,ws,rfl,hd,YB ws,h64,λt us ht pm rs=>?_⟩;refine⟨t,_,rfl,.inl ⟨aN.of ao,λv hv=>?_⟩⟩;have s1:Same H (upd H t (.lst (Ts us))):=Same.upd ht;exact q v us _ (s1.bK (s1.free hv)) (s1.free hv) ao pm rs
def aan (C:Addr):Sp:=λvs H Q _=>∃(p d:Addr) (ws:List (List Nat)) (l:List Nat),vs=[.ref p,.str (S l)]/\kO C H p d ws/\lK l/\l∉ws/\ws.length<=200/\
 ∀H',kO C H' p d (ws++[l])->(∀b o,H b=some o->b≠d->H' b=some o)->Q .non H'
theorem V3 {f C:Addr}{fd:FuncData}(F:fG K "put_in" "Book.put_in" gQ f fd)(T:oZ K C)(MN:Def P w K mg base "check_word" 2 ["text"] Hj):cu P w K mg base eV 3 f fd ["self","word"] (aan C):=by
 refine F.cU GZ (λvs H Q E h=>?_) (λcdv A outer s H vs Q E hr h=>?_)
 ·obtain⟨p,d,ws,l,rfl,_⟩:=h
  rfl
 ·obtain⟨p,d,ws,l,rfl,B,hw,hl,hn,q⟩:=h
  have hu:=Rv hr;obtain⟨⟨dx,hp⟩,hd,nd,az⟩:=id B;refine⟨_,(au (cX (bA MN (hr.mono (by decide)) rfl (aj (qv 1) ak))) (au (bO (ac0 (U4 hu (qv 1) (iC (qv 0) rfl))) zf bD) (aA (Qa hu (iC (qv 0) rfl) (qv 1) gD rfl)))),?_⟩;refine⟨_,rfl,l,rfl,hw,λH1 s1=>?_⟩;refine⟨_,rfl,_,rfl,p,C,dx,_,_,rfl,s1 _ _ hp,T.cl,T.nh,rfl,d,_,rfl,Gz.k (k:=g_ l) (s1 _ _ hd),_,rfl,?_⟩;rw[Br,if_neg hl];refine aU ⟨_,rfl,p,C,dx,_,_,rfl,s1 _ _ hp,T.cl,T.nh,rfl,_,rfl,d,_,rfl,Cy.k (k:=g_ l) (s1 _ _ hd) (by rw[lF,List.length_map];exact aD (by omega)),?_⟩;have QD:p≠d:=λz=>by rw[z,hd]at hp;cases hp
  refine q _ ⟨⟨dx,by rw[aP QD];exact s1 _ _ hp⟩,by rw[ao,Qz hl],GC nd hl,λx hx=>?_⟩ λb o e hb=>by rw[aP hb];exact s1 _ _ e
  rcases List.mem_append.mp hx with z | z
  ·exact az x z
  ·rw[List.mem_singleton.mp z];exact hw
def cM (c:Nat):Nat:=if 65<=c/\c<=90 then 63 else c
def V4 (c:Nat):Prop:=isLet c\/(65<=c/\c<=90)
theorem V4.lt {c:Nat}(h:V4 c):c < 128:=by
 rcases h with h | h
 ·have:=h.2;omega
 ·omega
def wg (left:List (List Nat)):List Nat->Sum Nat (List (List Nat))
 | []=>.inr left
 | c::cs=>if [cM c]∈left then wg (left.erase [cM c]) cs else .inl (cM c)
theorem QH:∀{us:List (List Nat)},(∀l∈us,l.length=1)->us.flatten.length=us.length
 | [],_=>rfl
 | u::us,h=>by
  rw[List.flatten_cons,List.length_append,QH λl hl=>h l (List.mem_cons_of_mem _ hl),h u List.mem_cons_self,List.length_cons];omega
def V5:Sp:=λvs H Q _=>∃c:Nat,vs=[.str (S [c])]/\c < 128/\Q (.str (S [cM c])) H
theorem le1 (a b:Nat):(!decide ([b] < [a]))=decide (a<=b):=by
 by_cases h:a<=b
 ·rw[decide_eq_true h,decide_eq_false (by simp[List.cons_lt_cons_iff];omega)];rfl
 ·rw[decide_eq_false h,decide_eq_true (by simp[List.cons_lt_cons_iff];omega)];rfl
theorem Sv (D:aG K mg "tile_of" ud ["sign"]):Def P w K mg base "tile_of" 1 ["sign"] V5:=by
 refine D.cU RP (λvs H Q E h=>?_) (λf cdv A outer s H vs Q E hr h=>?_)
 ·obtain⟨c,rfl,_⟩:=h
  rfl
 ·obtain⟨c,rfl,hc,q⟩:=h
  refine⟨_,(aA (aQ (mG (mF qe qe (bN [65] (by decide +kernel)) (qv 0) (bN [90] (by decide +kernel))) (bN [63] (by decide +kernel)) (qv 0)))),?_⟩;refine⟨_,rfl,[65],[c],rfl,rfl,?_⟩;rw[le1];unfold cM at q;by_cases h1:65<=c
  ·rw[decide_eq_true h1]
   refine⟨_,rfl,bw ⟨[c],[90],rfl,rfl,?_⟩⟩;rw[le1];by_cases h2:c<=90
   ·rw[if_pos ⟨h1,h2⟩]at q
    rw[decide_eq_true h2];exact⟨_,rfl,bw q⟩
   ·rw[if_neg λz=>h2 z.2]at q
    rw[decide_eq_false h2];exact⟨_,rfl,aU ⟨_,rfl,q⟩⟩
  ·rw[if_neg λz=>h1 z.1]at q
   rw[decide_eq_false h1];exact⟨_,rfl,aU ⟨_,rfl,aU ⟨_,rfl,q⟩⟩⟩
theorem V6 (x:List Nat)(ws:List (List Nat)):inV (.str (S x)) (Ts ws)=decide (x∈ws):=by
 unfold inV
 induction ws with
 | nil=>simp[Ts]
 | cons y ws ih=>
  have e:BW (.str (S y)) (.str (S x))=decide (y=x):=by
   show decide (S y=S x)=_;by_cases h:y=x
   ·rw[h];simp
   ·have h2:S y≠S x:=λe=>h (Kd e)
    simp[h,h2]
  show (BW (.str (S y)) (.str (S x))||(Ts ws).any _)=_;rw[e,ih];by_cases h:y=x
  ·simp[h]
  ·have h2:¬x=y:=λe=>h e.symm
   simp[h,h2]
theorem Hl (ws:List (List Nat)):(Ts ws).all qQ=true:=by rw[List.all_eq_true];intro x hx;obtain⟨l,_,rfl⟩:=List.mem_map.mp hx;rfl
theorem Sw {f C R:Addr}{fd:FuncData}(F:fG K "__init__" "Lacking.__init__" fZ f fd)(fO:mg "RackError"=some (.ref R))(jm:InitOf K R)(T:lH K mg "Lacking" C f ["tile"]):cu P w K mg base eV 1 f fd ["self","tile"] (Fb C "tile"):=by
 refine F.cU Fg (λvs H Q E h=>?_) (λcdv A outer s H vs Q E hr h=>?_)
 ·obtain⟨a,v,rfl,_⟩:=h
  rfl
 ·obtain⟨a,v,rfl,ha,q⟩:=h
  refine⟨_,(au (cX (qX (by rfl) fO jm (aj (qv 0) (aj (qv 1) ak)))) (aA (rT (qv 0) (qv 1) rfl))),?_⟩;refine⟨_,rfl,_,rfl,a,C,f,none,[v],rfl,ha,T.M.ini,by show 1<=sizeLine;decide,?_⟩;exact⟨_,rfl,_,rfl,a,C,none,rfl,ha,T.T,T.no _ (by simp),.inl ⟨rfl,λdx ne nd=>q dx ne nd⟩⟩
def V7 (C:Addr):Sp:=λvs H Q E=>∃(rack signs:List Nat),vs=[.str (S rack),.str (S signs)]/\rack.length<=63/\signs.length<=63/\(∀c∈signs,V4 c)/\
 (∀t,wg (rack.map λc=>[c]) signs=.inl t->∀(dx:Addr) (H':Hp),Same H H'->H' dx=some (.ext (XD dx [("tile",.str (S [t]))]))->E (.ref C) (some dx) H')/\
 (∀left,wg (rack.map λc=>[c]) signs=.inr left->∀(ws:List (List Nat)) (H':Hp),Same H H'->ws.Perm left->ws.Pairwise (λa b=>decide (b < a)=false)->Q (.str (S ws.flatten)) H')
theorem Sx {C f0:Addr}{jq:FuncData}(D:aG K mg "left_of" uf ["rack","signs"])(kE:mg "list"=none)(o7:mg "sorted"=none)(T:lH K mg "Lacking" C f0 ["tile"])(V8:cu P w K mg base eV 1 f0 jq ["self","tile"] (Fb C "tile"))(zP:Binds K jq ["self","tile"] [])
  (V9:Def P w K mg base "tile_of" 1 ["sign"] V5):DefX P w K mg base "left_of" 3 ["rack","signs"] (V7 C):=by
 refine D.wU qY (λvs H Q E h=>?_) (λf cdv A outer s H vs Q E hr h=>?_)
 ·obtain⟨rack,signs,rfl,_⟩:=h
  rfl
 ·obtain⟨rack,signs,rfl,ae5,afj,hsg,qE,q⟩:=h
  have V_:=T.M;have xG:=T.E_;refine⟨_,(au (aM (i:=2) qY.nd rfl (Or.inl rfl) (fU (wR rfl) (by rfl) kE PyProof.Rows.boot_list (aj (qv 0) ak))) (au (dF PassesOwn.leaving rfl (zj (qv 1)) (bI (i:=3) qY.nd rfl (Or.inl rfl)) (au (aM (i:=4) qY.nd rfl (Or.inl rfl) (bA V9 (hr.mono (by decide)) rfl (aj (qv 3) ak))) (au (bO (bh sy (qv 4) (qv 2) rfl) (aA (qg mX rfl V_ V8 (hr.mono (by decide)) (by rfl) xG zP (aj (qv 4) ak))) bD) (aA (cX (fK PySem.F.plainAttrs_list PySem.F.slot_list_remove PySem.F.type_list_remove U_ (qv 2) (aj (qv 4) ak))))))) (aA (aQ (fK PySem.F.plainAttrs_str PySem.F.slot_str_join PySem.F.type_str_join rO (bN [] (by decide +kernel)) (aj (aJ K8 (by rfl) o7 PyProof.Rows.boot_sorted (aj (qv 2) ak)) ak)))))),?_⟩;refine⟨_,rfl,rack,rfl,by omega,λL hL=>?_⟩;have s1:Same H (upd H L (.lst (Ts (rack.map λc=>[c])))):=Same.upd hL;refine⟨_,rfl,signs,rfl,?_⟩;refine aaQ (λi σ H2=>∃(v3 v4:Option V) (us:List (List Nat)),σ=[some (.str (S rack)),some (.str (S signs)),some (.ref L),v3,v4]/\Same H H2/\H2 L=some (.lst (Ts us))/\us.length<=63/\(∀l∈us,l.length=1)/\wg (rack.map λc=>[c]) signs=wg us (signs.drop i))
   ⟨none,none,rack.map λc=>[c],rfl,s1,ao,by rw[List.length_map];exact ae5,λl hl=>by obtain⟨c,_,rfl⟩:=List.mem_map.mp hl;rfl,by rw[List.drop_zero]⟩ ?_ ?_
  ·rintro i c σ H2 hc ⟨v3,v4,us,rfl,sm,hL2,QJ,hu1,hgo⟩
   have hcs:=hsg c (List.mem_of_getElem? hc);have hi:i < signs.length:=(List.getElem?_eq_some_iff.mp hc).1;have hdrop:signs.drop i=c::signs.drop (i+1):=by
    rw[List.drop_eq_getElem_cons hi];rw[List.getElem?_eq_getElem hi]at hc;rw[Option.some.inj hc]
   rw[hdrop]at hgo;refine⟨_,rfl,c,rfl,hcs.lt,?_⟩;refine⟨_,rfl,_,rfl,L,Ts us,rfl,.inl (aN.of hL2),rfl,Hl us,?_⟩;rw[V6];by_cases hm:[cM c]∈us
   ·rw[decide_eq_true hm]
    refine⟨_,rfl,aU ⟨_,rfl,.inl ⟨rfl,_,aN.of hL2⟩,_,rfl,L,us,[cM c],rfl,rfl,hL2,hm,by omega,?_⟩⟩;refine⟨_,_,us.erase [cM c],rfl,sm.bK hL,ao,?_,λl hl=>hu1 l (List.mem_of_mem_erase hl),?_⟩
    ·have:=(List.erase_sublist (a:=[cM c]) (l:=us)).length_le;omega
    ·rw[hgo];show (if _ then _ else _)=_;rw[if_pos hm]
   ·rw[decide_eq_false hm]
    have e:wg (rack.map λc=>[c]) signs=.inl (cM c):=by rw[hgo];show (if _ then _ else _)=_;rw[if_neg hm]
    refine⟨_,rfl,bw ⟨_,rfl,by show 1<=sizeLine;decide,λa na=>⟨a,_,rfl,ao,λdx ne nd=>⟨rfl,some dx,ao,?_⟩⟩⟩⟩;obtain⟨k1,k2⟩:=drop_new (q:=.ext (fL a (.ref C) (some dx))) (p:=.ext (XD dx [("tile",.str (S [cM c]))])) na ne nd;exact qE _ e dx _ (sm.trans k1) k2
  ·rintro σ H2 ⟨v3,v4,us,rfl,sm,hL2,QJ,hu1,hgo⟩
   rw[List.drop_length]at hgo;refine⟨rfl,_,rfl,L,us,rfl,aN.of hL2,by omega,λp ws hp pm pw=>?_⟩;refine⟨p,ws,rfl,rfl,aN.of ao,?_,?_⟩
   ·rw[QH λl hl=>hu1 l (pm.mem_iff.mp hl),pm.length_eq];omega
   ·exact q us hgo ws _ (sm.bK (sm.free hp)) pm pw
theorem Wa {f C R:Addr}{fd:FuncData}(F:fG K "__init__" "NoWord.__init__" gP f fd)(fO:mg "RackError"=some (.ref R))(jm:InitOf K R)(T:lH K mg "NoWord" C f ["word"]):cu P w K mg base eV 1 f fd ["self","word"] (Fb C "word"):=by
 refine F.cU GR (λvs H Q E h=>?_) (λcdv A outer s H vs Q E hr h=>?_)
 ·obtain⟨a,v,rfl,_⟩:=h
  rfl
 ·obtain⟨a,v,rfl,ha,q⟩:=h
  refine⟨_,(au (cX (qX (by rfl) fO jm (aj (qv 0) (aj (qv 1) ak)))) (aA (rT (qv 0) (qv 1) rfl))),?_⟩;refine⟨_,rfl,_,rfl,a,C,f,none,[v],rfl,ha,T.M.ini,by show 1<=sizeLine;decide,?_⟩;exact⟨_,rfl,_,rfl,a,C,none,rfl,ha,T.T,T.no _ (by simp),.inl ⟨rfl,λdx ne nd=>q dx ne nd⟩⟩
end
end My
end
section
namespace My
open PySem L2
section
variable {P:Program}{w:World}{K:PySem.W.Frag}{mg:Str->Option Value}{base:Heap}
theorem zQ {p:Nat->Bool}:∀{l:List Nat} {c:Nat},c∈l.takeWhile p->c∈l/\p c=true
 | [],c,h=>by simp at h
 | a::l,c,h=>by
  rw[List.takeWhile_cons]at h;by_cases z:p a=true
  ·rw[if_pos z]at h
   rcases List.mem_cons.mp h with e | e
   ·rw[e];exact⟨List.mem_cons_self,z⟩
   ·have:=zQ e;exact⟨List.mem_cons_of_mem _ this.1,this.2⟩
  ·rw[if_neg z]at h;simp at h
theorem YG {r w:Nat}{R:List (List Nat)}(hb:Blk r w R)(hp:∀l∈R,∀c∈l,n8 c){i j wy:Nat}(hi:i < r)(hj:j < w):∀c∈lineOf R i j (wy:Int),n8 c:=λc hc=>by
 unfold lineOf at hc
 split at hc
 ·rw[List.getD_eq_getElem?_getD,List.getElem?_eq_getElem (by rw[hb.len];exact hi)]at hc
  exact hp _ (List.getElem_mem _) c hc
 ·obtain⟨l,hl,e⟩:=List.mem_map.mp hc
  have hw:=hb.iw l hl;have e2:l.getD j 0=l[j]:=by rw[List.getD_eq_getElem?_getD,List.getElem?_eq_getElem (show j < l.length by omega)];rfl
  rw[<- e,e2];exact hp l hl _ (List.getElem_mem _)
theorem abl {r w:Nat}{R:List (List Nat)}(hb:Blk r w R)(hp:∀l∈R,∀c∈l,n8 c){i j wy:Nat}(hi:i < r)(hj:j < w):∀c∈(lJ R i j wy).2.2.2,lV c:=λc hc=>by
 have key:∀c,c∈lineOf R i j (wy:Int)->(c != 46)=true->lV c:=λc h1 h2=>by
  rcases YG hb hp hi hj c h1 with z | z
  ·rw[z]at h2;cases h2
  ·exact z
 rcases List.mem_append.mp (show c∈cZ _++d8 _ from hc) with z | z
 ·unfold cZ at z
  have:=zQ (List.mem_reverse.mp z);exact key c (List.mem_of_mem_take (List.mem_reverse.mp this.1)) this.2
 ·have:=zQ z
  exact key c (List.mem_of_mem_drop this.1) this.2
theorem xH {r w:Nat}{rows:List (List Nat)}{ts:List bx}(hb:Blk r w (bJ rows ts))(hp:∀l∈bJ rows ts,∀c∈l,n8 c)(hin:∀t∈ts,inB r w t):∀q∈gZ rows ts,∀c∈q.2.2.2,lV c:=λq hq=>by
 obtain⟨a,ha,rfl⟩:=List.mem_map.mp (List.mem_filter.mp hq).1;have hi:a.1 < r/\a.2.1 < w:=by
  rcases List.mem_append.mp ha with z | z
  ·obtain⟨u,hu,rfl⟩:=List.mem_map.mp z
   have:=hin u (List.mem_of_mem_take hu);exact⟨this.1,this.2.1⟩
  ·obtain⟨u,hu,rfl⟩:=List.mem_map.mp z
   have:=hin u hu;exact⟨this.1,this.2.1⟩
 exact abl hb hp hi.1 hi.2
theorem u9 {r w:Nat}{rows:List (List Nat)}{ts:List bx}(hb:Blk r w (bJ rows ts))(r9:r<=9)(w9:w<=9)(hin:∀t∈ts,inB r w t):∀q∈gZ rows ts,q.2.2.2.length<=20:=λq hq=>by
 obtain⟨a,ha,rfl⟩:=List.mem_map.mp (List.mem_filter.mp hq).1;have hi:a.1 < r:=by
  rcases List.mem_append.mp ha with z | z
  ·obtain⟨u,hu,rfl⟩:=List.mem_map.mp z
   exact(hin u (List.mem_of_mem_take hu)).1
  ·obtain⟨u,hu,rfl⟩:=List.mem_map.mp z
   exact(hin u hu).1
 exact Dd hb r9 w9 hi
def dQ (q:tD):Dt:=.tup [.int q.1,.int q.2.1,.int q.2.2.1,.str q.2.2.2]
theorem cY.ofQ {H:Hp}:∀{bs:List Addr} {qs:List tD},QL H bs qs->(∀q∈qs,∀c∈q.2.2.2,c < 128)->cY K H 1 (qs.map dQ) (bs.map V.ref)
 | [],[],_,_=>.nil
 | [],_::_,h,_=>by have:=h.len;simp at this
 | _::_,[],h,_=>by have:=h.len;simp at this
 | a::bs,q::qs,h,k=>.cons (.tup (aK.of (h.at_ 0 a q rfl rfl)) (.cons (.int _) (.cons (.int _) (.cons (.int _) (.cons (.str _ (k q List.mem_cons_self)) .nil))))) (cY.ofQ ⟨by have:=h.len;simpa using this,λi a x h1 h2=>h.at_ (i+1) a x h1 h2⟩ λq' hq'=>k q' (List.mem_cons_of_mem _ hq'))
def zR (q:tD):List Nat:=q.2.2.2.map PyProof.Rows.lo1
def u_ (ws:List (List Nat))(q:tD):Bool:=!decide (zR q∈ws)
def jg (rows:List (List Nat))(ws:List (List Nat))(ts:List bx):Option (List Nat):=if gZ rows ts=[] then some ([(fW ts).2.2].map PyProof.Rows.lo1) else ((gZ rows ts).find? (u_ ws)).map zR
def Jy (C CB CW:Addr):Sp:=λvs H Q E=>∃(b k d t:Addr) (ws:List (List Nat)) (as:List Addr) (ts:List bx) (r w:Nat) (rows marks:List (List Nat)) (bi bj:Nat),vs=[.ref b,.ref k,.ref t]/\dY C H b r w rows marks bi bj/\kO CB H k d ws/\H t=some (.tup (as.map V.ref))/\cO H as ts/\(∀t∈ts,inB r w t)/\0 < ts.length/\ts.length<=7/\Fy ts/\
 (∀l,jg rows ws ts=some l->∀(dx:Addr) (H':Hp),Same H H'->H' dx=some (.ext (XD dx [("word",.str (S l))]))->E (.ref CW) (some dx) H')/\(jg rows ws ts=none->∀H',Same H H'->Q .non H')
theorem kO.mv {C:Addr}{H H':Hp}{p d:Addr}{ws:List (List Nat)}(B:kO C H p d ws)(s:Same H H'):kO C H' p d ws:=⟨let ⟨dx,e⟩:=B.ob;⟨dx,s _ _ e⟩,s _ _ B.dc,B.nd,B.az⟩
theorem Gb {rows:List (List Nat)}{ts:List bx}(h:ts.length<=7):(gZ rows ts).length<=100:=by
 refine Nat.le_trans (List.length_filter_le _ _) ?_;rw[List.length_map];unfold oY;rw[List.length_append,List.length_map,List.length_map,List.length_take];omega
open Classical in
theorem Ho {C CB CW f0 f1:Addr}{jq gH:FuncData}(D:aG K mg "check_words" mz ["board","book","laying"])(wj:oZ K CB)(Sy:Meth K CB "has" f1)(SJ:cu P w K mg base eV 1 f1 gH ["self","text"] (aam CB))(SM:Binds K gH ["self","text"] [])
  (T:lH K mg "NoWord" CW f0 ["word"]) (MP:cu P w K mg base eV 1 f0 jq ["self","word"] (Fb CW "word")) (xJ:Binds K jq ["self","word"] []) (YH:Def P w K mg base "formed" 10 ["board","laying"] (Mf C)) (O_:Def P w K mg base "letter_of" 1 ["sign"] FQ):DefX P w K mg base "check_words" 12 ["board","book","laying"] (Jy C CB CW):=by
 refine D.wU f9 (λvs H Q E h=>?_) (λf cdv A outer s H vs Q E hr h=>?_)
 ·obtain⟨b,k,d,t,ws,as,ts,r,w,rows,marks,bi,bj,rfl,_⟩:=h
  rfl
 ·obtain⟨b,k,d,t,ws,as,ts,r,w,rows,marks,bi,bj,rfl,BA,BK,ht,hL,hin,h0,h7,hl1,qE,q⟩:=h
  have M4:=T.M;have uI:=T.E_;have hb':=iM BA.ok.br hin;have hp':=oX BA.ok.br hin BA.ok.cr;have hsg:=xH hb' hp' hin;have Jz:=u9 hb' BA.ok.r9 BA.ok.w9 hin;have hwl:=Gb (rows:=rows) h7;have hlt:∀q∈gZ rows ts,∀c∈q.2.2.2,c < 128:=λq hq c hc=>(hsg q hq c hc).lt;refine⟨_,(au (aM (i:=3) f9.nd rfl (Or.inl rfl) (bA YH (hr.mono (by decide)) rfl (aj (qv 0) (aj (qv 2) ak)))) (au (bO (bh (zm hr.units) (qv 3) (bZ ak) (aY _)) (aA (qg mX rfl M4 MP (hr.mono (by decide)) (by rfl) uI xJ (aj (bA O_ (hr.mono (by decide)) rfl (aj (aL aW (aL aW (qv 2) aq (λ_ _=>rfl)) aq (λ_ _=>rfl)) ak)) ak))) bD) (aA (dF PassesOwn.leaving rfl (dz (qv 3)) (lQ rfl (bT (bI (i:=4) f9.nd rfl (Or.inl rfl)) (bT (bI (i:=5) f9.nd rfl (Or.inl rfl)) (bT (bI (i:=6) f9.nd rfl (Or.inl rfl)) (bT (bI (i:=7) f9.nd rfl (Or.inl rfl)) jQ))))) (au (aM (i:=8) f9.nd rfl (Or.inl rfl) (j9 PySem.F.plainAttrs_str PySem.F.slot_str_lower PySem.F.type_str_lower j_ (qv 7))) (aA (bO (dG (cP (mW (qv 1) wj.cl Sy SJ (hr.mono (by decide)) SM .nil jw (aj (qv 8) ak)))) (aA (qg mX rfl M4 MP (hr.mono (by decide)) (by rfl) uI xJ (aj (qv 8) ak))) bD))))))),?_⟩;refine⟨_,rfl,_,rfl,b,t,as,ts,r,w,rows,marks,bi,bj,rfl,BA,ht,hL,hin,h0,h7,hl1,λT1 b1 H1 s1 hT1 zT=>?_⟩;generalize hW:gZ rows ts=W at hsg Jz hwl hlt zT;refine⟨_,rfl,by show 0<=sizeLine;decide,λZ hZ=>?_⟩;have sZ:Same H1 (upd H1 Z (HO.tup [])):=Same.upd hZ;have eZ:upd H1 Z (HO.tup []) Z=some (.tup []):=ao;have hT2:=sZ _ _ hT1;have M5:=zT.mv sZ;have iQ:=s1.trans sZ;generalize upd H1 Z (HO.tup [])=H2 at sZ eZ hT2 M5 iQ ⊢;refine⟨2,.tup (W.map dQ),.tup [],by decide,.tup (aK.of hT2) (cY.ofQ M5 hlt),.tup (aK.of eZ) .nil,_,rfl,?_⟩;have qy:=M5.len;cases Gd:W with
  | nil=>
   simp only[List.map_nil,decide_true];obtain⟨g0,e0⟩:=eO (hL.mv iQ) h0;have hh:fW ts=ts[0]:=jN h0;have hs0:=(hin _ (List.getElem_mem h0)).2.2;refine bw ⟨_,rfl,t,_,_,.ref as[0],rfl,rfl,aK.of (iQ _ _ ht),aF (j:=0) (by simp[g0]),as[0],_,_,_,rfl,rfl,aK.of e0,aF (j:=2) rfl,ts[0].2.2,rfl,hs0.lt,by show 1<=sizeLine;decide,λa na=>⟨a,_,rfl,ao,λdx ne nd=>⟨rfl,some dx,ao,?_⟩⟩⟩;obtain⟨k1,k2⟩:=drop_new (q:=.ext (fL a (.ref CW) (some dx))) (p:=.ext (XD dx [("word",.str (S ([ts[0].2.2].map PyProof.Rows.lo1)))])) na ne nd;refine qE _ ?_ dx _ (iQ.trans k1) k2;unfold jg;rw[if_pos (hW.trans Gd),hh]
  | cons q0 Wr=>
   have hne:¬(Dt.tup (W.map dQ)=Dt.tup []):=λz=>by rw[Gd]at z;injection z with z;cases z
   have hmw:jg rows ws ts=(W.find? (u_ ws)).map zR:=by
    unfold jg;rw[if_neg (by rw[hW,Gd];simp),hW]
   rw[<- Gd];rw[decide_eq_false hne];refine aU ⟨_,rfl,T1,rfl,⟨_,aK.of hT2⟩,mU (K:=K) (a:=T1) (xs:=b1.map V.ref) (λn σ H'=>∃v4 v5 v6 v7 v8:Option V,σ=[some (.ref b),some (.ref k),some (.ref t),some (.ref T1),v4,v5,v6,v7,v8]/\Same H2 H'/\∀x∈W.take n,u_ ws x=false)
    ⟨none,none,none,none,none,rfl,Same.refl _,λx hx=>by simp at hx⟩ (λn σ H' _ h=>by obtain⟨_,_,_,_,_,_,sm,_⟩:=h;exact aK.of (sm _ _ hT2)) ?_ ?_⟩
   ·rintro n x σ H' hx ⟨v4,v5,v6,v7,v8,rfl,sm,hfr⟩
    have hn:n < b1.length:=by have:=(List.getElem?_eq_some_iff.mp hx).1;simpa using this
    have uJ:n < W.length:=by omega
    rw[List.getElem?_map,List.getElem?_eq_getElem hn]at hx;have hx:V.ref b1[n]=x:=Option.some.inj hx;subst hx;have en:=(M5.mv sm).at_ n _ _ (List.getElem?_eq_getElem hn) (List.getElem?_eq_getElem uJ);have hm:=List.getElem_mem uJ;have adF:=Jz _ hm;refine⟨b1[n],_,rfl,aK.of en,rfl,_,_,rfl,_,_,rfl,_,_,rfl,_,_,rfl,rfl,?_⟩;refine⟨_,rfl,rfl,W[n].2.2.2,rfl,rfl,by omega,hlt _ hm,?_⟩;have BK':=BK.mv (iQ.trans sm);obtain⟨dk,ek⟩:=BK'.ob;refine⟨_,rfl,k,dk,_,rfl,ek,rfl,_,rfl,k,d,ws,_,rfl,BK',_,rfl,?_⟩;cases hq0:u_ ws W[n] with
    | true=>
     rw[show (!decide (W[n].2.2.2.map PyProof.Rows.lo1∈ws))=true from hq0];refine bw ⟨_,rfl,by show 1<=sizeLine;decide,λa na=>⟨a,_,rfl,ao,λdx ne nd=>⟨rfl,some dx,ao,?_⟩⟩⟩;obtain⟨k1,k2⟩:=drop_new (q:=.ext (fL a (.ref CW) (some dx))) (p:=.ext (XD dx [("word",.str (S (zR W[n])))])) na ne nd;refine qE _ ?_ dx _ ((iQ.trans sm).trans k1) k2;rw[hmw,Bp uJ hfr hq0];rfl
    | false=>
     rw[show (!decide (W[n].2.2.2.map PyProof.Rows.lo1∈ws))=false from hq0];refine aU ⟨_,_,_,_,_,rfl,sm,λx hx=>?_⟩;rw[List.take_add_one,List.getElem?_eq_getElem uJ]at hx;rcases List.mem_append.mp hx with z | z
     ·exact hfr x z
     ·rw[List.mem_singleton.mp z];exact hq0
   ·rintro σ H' ⟨v4,v5,v6,v7,v8,rfl,sm,hfr⟩
    rw[List.length_map,qy,List.take_length]at hfr;exact q (by rw[hmw,Bq hfr];rfl) H' (iQ.trans sm)
inductive Vd
 | ok | ou (i j:Nat) | oA | gap (i j:Nat) | oE | qC (t:Nat) | nw (l:List Nat)
inductive uK (rows:List (List Nat)) (r w bi bj:Nat) (ws:List (List Nat)) (rack:List Nat) (ts:List bx):Vd->Prop
 | ou {u:bx} (h:mL rows ts=some u):uK rows r w bi bj ws rack ts (.ou u.1 u.2.1)
 | oA (h1:mL rows ts=none) (h:(jX ts||jY ts)=false):uK rows r w bi bj ws rack ts .oA
 | gap {i j:Nat} (h1:mL rows ts=none) (h2:(jX ts||jY ts)=true) (h:Sh (bJ rows ts) (fW ts).1 (fD ts).1 (fW ts).2.1 (fD ts).2.1 i j):uK rows r w bi bj ws rack ts (.gap i j)
 | oE (h1:mL rows ts=none) (h2:(jX ts||jY ts)=true) (h3:uH (bJ rows ts) (fW ts).1 (fD ts).1 (fW ts).2.1 (fD ts).2.1) (h:qz rows r w bi bj ts=false):uK rows r w bi bj ws rack ts .oE
 | qC {t:Nat} (h1:mL rows ts=none) (h2:(jX ts||jY ts)=true) (h3:uH (bJ rows ts) (fW ts).1 (fD ts).1 (fW ts).2.1 (fD ts).2.1) (h4:qz rows r w bi bj ts=true) (h:wg (rack.map λc=>[c]) (ts.map (·.2.2))=.inl t):uK rows r w bi bj ws rack ts (.qC t)
 | nw {l:List Nat} (h1:mL rows ts=none) (h2:(jX ts||jY ts)=true) (h3:uH (bJ rows ts) (fW ts).1 (fD ts).1 (fW ts).2.1 (fD ts).2.1) (h4:qz rows r w bi bj ts=true) (h5:∃left,wg (rack.map λc=>[c]) (ts.map (·.2.2))=.inr left) (h:jg rows ws ts=some l):uK rows r w bi bj ws rack ts (.nw l)
 | ok (h1:mL rows ts=none) (h2:(jX ts||jY ts)=true) (h3:uH (bJ rows ts) (fW ts).1 (fD ts).1 (fW ts).2.1 (fD ts).2.1) (h4:qz rows r w bi bj ts=true) (h5:∃left,wg (rack.map λc=>[c]) (ts.map (·.2.2))=.inr left) (h:jg rows ws ts=none):uK rows r w bi bj ws rack ts .ok
structure yS where
 lay:Addr
 ou:Addr
 oA:Addr
 gap:Addr
 oE:Addr
 qC:Addr
 nw:Addr
def JB (c:yS)(H:Hp)(cls:Value)(dd:Option Addr):Vd->Prop
 | .ok=>False
 | .ou i j=>cls=.ref c.ou/\∃dx,dd=some dx/\H dx=some (.ext (XD dx (Qw i j)))
 | .oA=>cls=.ref c.oA/\dd=none
 | .gap i j=>cls=.ref c.gap/\∃dx,dd=some dx/\H dx=some (.ext (XD dx (Qw i j)))
 | .oE=>cls=.ref c.oE/\dd=none
 | .qC t=>cls=.ref c.qC/\∃dx,dd=some dx/\H dx=some (.ext (XD dx [("tile",.str (S [t]))]))
 | .nw l=>cls=.ref c.nw/\∃dx,dd=some dx/\H dx=some (.ext (XD dx [("word",.str (S l))]))
theorem QK {cs:List (Nat × Nat)}(h:mC cs=true):∀n,(hn:n+1 < cs.length)->cs[n].1*1000+cs[n].2 < cs[n+1].1*1000+cs[n+1].2:=λn hn=>by
 unfold mC at h;rw[List.all_eq_true]at h;have:=h (cs[n],cs[n+1]) (by
  refine List.mem_of_getElem? (i:=n) ?_;rw[List.getElem?_zip_eq_some];exact⟨List.getElem?_eq_getElem (by omega),by rw[List.getElem?_drop,Nat.add_comm 1 n];exact List.getElem?_eq_getElem hn⟩)
 exact of_decide_eq_true this
theorem M6 {cs:List (Nat × Nat)}(h:mC cs=true):∀k n,(hn:n+k+1 < cs.length)->cs[n].1*1000+cs[n].2 < cs[n+k+1].1*1000+cs[n+k+1].2
 | 0,n,hn=>QK h n hn
 | k+1,n,hn=>Nat.lt_trans (M6 h k n (by omega)) (QK h (n+k+1) hn)
theorem abm {ts:List bx}{r w:Nat}(w9:w<=9)(hin:∀t∈ts,inB r w t)(h0:0 < ts.length)(hr:mC (ts.map dI)=true)(hs:(jX ts||jY ts)=true):Fy ts:=by
 have hh:=jN h0;rw[Bool.or_eq_true]at hs;rcases hs with hs | hs
 ·refine .inl ?_
  unfold jX at hs;rw[List.all_eq_true]at hs;rw[List.pairwise_iff_getElem];intro i j hi hj _;rw[of_decide_eq_true (hs _ (List.getElem_mem hi)),of_decide_eq_true (hs _ (List.getElem_mem hj))]
 ·refine .inr ?_
  unfold jY at hs;rw[List.all_eq_true]at hs;rw[List.pairwise_iff_getElem];intro i j hi hj hij;have e1:=of_decide_eq_true (hs _ (List.getElem_mem hi));have e2:=of_decide_eq_true (hs _ (List.getElem_mem hj));have:=M6 hr (j-i-1) i (by rw[List.length_map];omega);simp only[show i+(j-i-1)+1=j by omega,List.getElem_map]at this;have this:ts[i].1*1000+ts[i].2.1 < ts[j].1*1000+ts[j].2.1:=this;omega
theorem M7 {c:Nat}(h:lV c):V4 c:=by
 unfold lV Cd Ca Fv at h;simp at h;exact h
def QM (K : PySem.W.Frag)(C CB : Addr)(c : yS) : Sp := λvs H Q E => ∃(b k d : Addr) (ws : List (List Nat)) (rack : List Nat) (x : V) (r w : Nat) (rows marks : List (List Nat)) (bi bj : Nat), vs = [.ref b, .ref k, .str (S rack), x] /\ dY C H b r w rows marks bi bj /\ kO CB H k d ws /\ rack.length <= 63 /\
  ((∃o, VH K H x o /\ layB r w o = false /\ ∀H', Same H H' -> E (.ref c.lay) none H') \/
   (∃(t : Addr) (as : List Addr) (ts : List bx), x = .ref t /\ H t = some (.tup (as.map V.ref)) /\ cO H as ts /\ (∀t ∈ ts, inB r w t) /\ 0 < ts.length /\ ts.length <= 7 /\ mC (ts.map dI) = true /\
     (∀v cls dd H', uK rows r w bi bj ws rack ts v -> JB c H' cls dd v -> Same H H' -> E cls dd H') /\ (uK rows r w bi bj ws rack ts .ok -> ∀H', Same H H' -> Q .non H')))
theorem Ge {C CB:Addr}{c:yS}(D:aG K mg "check_laying" lD ["board","book","rack","laying"])(vf:mg "NoLaying"=some (.ref c.lay))(SN:PySem.W.excIn K c.lay h_ "ValueError.__new__"=true)
  (Pa:Def P w K mg base "is_laying" 4 ["board","thing"] (VJ K C)) (M8:DefX P w K mg base "check_free" 5 ["board","laying"] (Ms C c.ou)) (Dm:DefX P w K mg base "check_straight" 3 ["laying"] (Qy c.oA)) (M9:DefX P w K mg base "check_gaps" 10 ["board","laying"] (Mu C c.gap))
  (Hq:DefX P w K mg base "check_joined" 7 ["board","laying"] (Mw C c.oE)) (Wb:DefX P w K mg base "left_of" 3 ["rack","signs"] (V7 c.qC)) (J6:DefX P w K mg base "check_words" 12 ["board","book","laying"] (Jy C CB c.nw)):DefX P w K mg base "check_laying" 14 ["board","book","rack","laying"] (QM K C CB c):=by
 refine D.wU Fi (λvs H Q E h=>?_) (λf cdv A outer s H vs Q E hr h=>?_)
 ·obtain⟨b,k,d,ws,rack,x,r,w,rows,marks,bi,bj,rfl,_⟩:=h
  rfl
 ·obtain⟨b,k,d,ws,rack,x,r,w,rows,marks,bi,bj,rfl,BA,BK,h63,h⟩:=h
  refine⟨_,(au (bO (dG (cP (bA Pa (hr.mono (by decide)) rfl (aj (qv 0) (aj (qv 3) ak))))) (aA (CP mX rfl rfl (by rfl) vf SN (aj (bN [110,111,32,108,97,121,105,110,103,32,102,111,114,32,116,104,105,115,32,98,111,97,114,100] (by decide +kernel)) ak))) bD) (au (cX (oO M8 (hr.mono (by decide)) rfl rR.all (aj (qv 0) (aj (qv 3) ak)))) (au (cX (oO Dm (hr.mono (by decide)) rfl rR.all (aj (qv 3) ak))) (au (cX (oO M9 (hr.mono (by decide)) rfl rR.all (aj (qv 0) (aj (qv 3) ak)))) (au (cX (oO Hq (hr.mono (by decide)) rfl rR.all (aj (qv 0) (aj (qv 3) ak)))) (au (cX (oO Wb (hr.mono (by decide)) rfl rR.all (aj (qv 2) (aj (fK PySem.F.plainAttrs_str PySem.F.slot_str_join PySem.F.type_str_join rO (bN [] (by decide +kernel)) (aj (dZ (ns:=["row","column","sign"]) rfl (d_.of ["board","book","rack","laying"] [] (by kernel_rfl)) (dz (qv 3)) (λ_ _ _ _ _=>(jR K rfl (show (["row","column","sign","board","book","rack","laying"]:List Str).Nodup by decide +kernel) rfl rfl rfl (by rfl) (by rfl) (by rfl))) (λ_ _ _ _ _=>cH) (λ_ _ _ _ _=>(qv 2))) ak)) ak)))) (aA (cX (oO J6 (hr.mono (by decide)) rfl rR.all (aj (qv 0) (aj (qv 1) (aj (qv 3) ak)))))))))))),?_⟩;rcases h with⟨o,hD,hB,qE⟩ | ⟨t,as,ts,rfl,ht,hL,hin,h0,h7,uy,qE,q⟩
  ·refine⟨_,rfl,_,rfl,b,x,o,r,w,rows,marks,bi,bj,rfl,BA,hD,λH1 s1=>⟨_,rfl,?_⟩⟩
   rw[hB];exact bw ⟨by show 1<=sizeLine;decide,qE H1 s1⟩
  ·have hal:=hL.len
   have hB:layB r w (some (ts.map mkT))=true:=by
    unfold layB;simp only;rw[Mj,List.length_map,decide_eq_true (show 1<=ts.length/\ts.length<=7 by omega),show mC (ts.map λt=>(t.1,t.2.1))=true from uy,List.all_map];have:ts.all (pR r w ∘ mkT)=true:=List.all_eq_true.mpr λt ht=>Yx (hin t ht);rw[this];rfl
   refine⟨_,rfl,_,rfl,b,.ref t,some (ts.map mkT),r,w,rows,marks,bi,bj,rfl,BA,.tup ht (Di.of_lay hL) (by rw[List.length_map];omega),λH1 s1=>⟨_,rfl,?_⟩⟩;rw[hB];refine aU ⟨True.intro,_,rfl,_,rfl,b,t,as,ts,r,w,rows,marks,bi,bj,rfl,BA.mv s1,s1 _ _ ht,hL.mv s1,hin,λu hu dx H' s' hd=>qE _ _ _ H' (.ou hu) ⟨rfl,dx,rfl,hd⟩ (s1.trans s'),λv1 H2 s2=>?_⟩;have iQ:=s1.trans s2;refine⟨True.intro,_,rfl,t,as,ts,rfl,iQ _ _ ht,hL.mv iQ,h0,h7,λe H' s'=>qE _ _ _ H' (.oA v1 e) ⟨rfl,rfl⟩ (iQ.trans s'),λv2 H3 s3=>?_⟩;have oh:=iQ.trans s3;refine⟨True.intro,_,rfl,_,rfl,b,t,as,ts,r,w,rows,marks,bi,bj,rfl,BA.mv oh,oh _ _ ht,hL.mv oh,hin,h0,λi j e dx H' s' hd=>qE _ _ _ H' (.gap v1 v2 e) ⟨rfl,dx,rfl,hd⟩ (oh.trans s'),λv3 H4 s4=>?_⟩;have m5:=oh.trans s4;refine⟨True.intro,_,rfl,_,rfl,b,t,as,ts,r,w,rows,marks,bi,bj,rfl,BA.mv m5,m5 _ _ ht,hL.mv m5,h7,λe H' s'=>qE _ _ _ H' (.oE v1 v2 v3 e) ⟨rfl,rfl⟩ (m5.trans s'),λv4 H5 s5=>?_⟩;have Wc:=m5.trans s5;have ht5:=Wc _ _ ht;refine⟨True.intro,_,rfl,rfl,_,rfl,t,rfl,⟨_,aK.of ht5⟩,λN hN=>gj (K:=K) (KT:=K) (a:=t) (f:=dR [] 0) (tt:=gq) (xs:=as.map V.ref) (λn ys H6=>ys=Ts (ones ((ts.take n).map (·.2.2)))/\H6 N=some (.lst ys)/\Same H5 H6)
    ⟨rfl,ao,Same.upd hN⟩ (λn ys H6 _ h=>aK.of (h.2.2 _ _ ht5)) ?_ ?_⟩
   ·rintro n x ys H6 hx ⟨rfl,Jx,Cj⟩
    have hn:n < as.length:=by have:=(List.getElem?_eq_some_iff.mp hx).1;simpa using this
    have hnt:n < ts.length:=by omega
    rw[List.getElem?_map,List.getElem?_eq_getElem hn]at hx;have hx:V.ref as[n]=x:=Option.some.inj hx;obtain⟨_,en⟩:=eO (hL.mv (Wc.trans Cj)) hnt;refine qU hx.symm (aK.of en) ?_;refine⟨_,rfl,Jx,?_,dh.mk (by rw[List.length_map];exact hn) ⟨?_,ao,Cj.bK hN⟩⟩
    ·rw[List.length_map,List.length_map,List.length_map,List.length_take];exact aD (by omega)
    ·rw[take_snoc (List.getElem?_eq_getElem hnt)]
     simp[Ts,ones]
   ·rintro ys H6 ⟨rfl,Jx,Cj⟩
    rw[List.length_map,hal,List.take_length]at Jx;have s06:=Wc.trans Cj;refine⟨N,ones (ts.map (·.2.2)),rfl,rfl,aN.of Jx,by rw[pQ,List.length_map];omega,?_⟩;rw[pQ];refine⟨rack,ts.map (·.2.2),rfl,h63,by rw[List.length_map];omega,λc hc=>?_,λtl e dx H' s' hd=>qE _ _ _ H' (.qC v1 v2 v3 v4 e) ⟨rfl,dx,rfl,hd⟩ (s06.trans s'),λleft v5 ws' H7 s7 _ _=>?_⟩
    ·obtain⟨u,hu,rfl⟩:=List.mem_map.mp hc
     exact M7 (hin u hu).2.2
    have JC:=s06.trans s7;refine⟨True.intro,_,rfl,_,rfl,_,rfl,b,k,d,t,ws,as,ts,r,w,rows,marks,bi,bj,rfl,BA.mv JC,BK.mv JC,JC _ _ ht,hL.mv JC,hin,h0,h7,abm BA.ok.w9 hin h0 uy v2,λl e dx H' s' hd=>qE _ _ _ H' (.nw v1 v2 v3 v4 ⟨left,v5⟩ e) ⟨rfl,dx,rfl,hd⟩ (JC.trans s'),λv6 H8 s8=>?_⟩;exact q (.ok v1 v2 v3 v4 ⟨left,v5⟩ v6) H8 (JC.trans s8)
end
end My
end
section
namespace My
open PySem L2
section
variable {P:Program}{w:World}{K:PySem.W.Frag}{mg:Str->Option Value}{base:Heap}
theorem jP.mv {H H':Hp}{dd:Option Addr}(h:jP H dd)(s:Same H H'):jP H' dd:=by
 cases dd with
 | none=>trivial
 | some d=>obtain⟨o,e⟩:=h;exact⟨o,s _ _ e⟩
structure uL (K:PySem.W.Frag)(cs os:List Addr)(C:Addr)(i:Nat):Prop where
 is:pI K C
 val:PySem.W.kitOne K (.ref C) (.type "ValueError")=some true
 ix:∀j D,cs[j]?=some D->PySem.W.kitOne K (.ref C) (.ref D)=some (decide (j=i))
 no:PySem.W.kitAny K (.ref C) (os.map Value.ref)=some false
 lt:i < 7
def bits (j:Nat):List Bool:=[decide (0=j),decide (1=j),decide (2=j),decide (3=j),decide (4=j),decide (5=j),decide (6=j)]
theorem SQ:∀j,j < 7->((bits j).filter id).length=1:=by decide
theorem abn:∀j,j < 7->(bits j)[j]?=some true/\∀m,m < j->(bits j)[m]?=some false:=by
 intro j hj;have h1:∀j,j < 7->(bits j)[j]?=some true:=by decide
 have h2:∀j,j < 7->∀m,m < 7->m < j->(bits j)[m]?=some false:=by decide
 exact⟨h1 j hj,λm hm=>h2 j hj m (by omega) hm⟩
def QV (K:PySem.W.Frag)(cs os:List Addr):Sp:=λvs H Q _=>∃(a C:Addr) (dd:Option Addr) (j:Nat),vs=[.ref a]/\H a=some (.ext (sU a (.ref C) dd))/\jP H dd/\uL K cs os C j/\∀H',Same H H'->Q (.int j) H'
theorem YJ {bf bH bF bU bM aZ bC cA bY cB cQ cD dH cF cR:Addr}(D:aG K mg "_law_class" Bk ["_law_error"])(aX:mg "len"=none)(aV:mg "isinstance"=none)(kY:mg "ValueError"=none)(vf:mg "NoLaying"=some (.ref bf))(Dk:mg "Taken"=some (.ref bH))(xu:mg "Crooked"=some (.ref bF))(Mv:mg "Gap"=some (.ref bU))(Dl:mg "Apart"=some (.ref bM))(xG:mg "Lacking"=some (.ref aZ))(uI:mg "NoWord"=some (.ref bC))(Wd:mg "NoBack"=some (.ref cA))(SX:mg "NoBoard"=some (.ref bY))(Wf:mg "NoDeed"=some (.ref cB))(YK:mg "NoRow"=some (.ref cQ))(Wg:mg "NoText"=some (.ref cD))(abo:mg "Over"=some (.ref dH))(Wh:mg "TooFew"=some (.ref cF))(YL:mg "Twice"=some (.ref cR)):Def P w K mg base "_law_class" 1 ["_law_error"] (QV K [bf,bH,bF,bU,bM,aZ,bC] [cA,bY,cB,cQ,cD,dH,cF,cR]):=by
 refine D.cU wY (λvs H Q E h=>?_) (λf cdv A outer s H vs Q E hr h=>?_)
 ·obtain⟨a,C,dd,j,rfl,_⟩:=h
  rfl
 ·obtain⟨a,C,dd,j,rfl,ha,hdk,cx,q⟩:=h
  have is:=cx.is;have hj:=cx.lt;have S5:=cx.ix 0 bf rfl;have abp:=cx.ix 1 bH rfl;have Wi:=cx.ix 2 bF rfl;have aex:=cx.ix 3 bU rfl;have abq:=cx.ix 4 bM rfl;have Wj:=cx.ix 5 aZ rfl;have YM:=cx.ix 6 bC rfl;refine⟨_,(au (aM (i:=1) wY.nd rfl (Or.inl rfl) (eG (aj (aJ gw (by rfl) aV PyProof.Rows.boot_isinstance (aj (qv 0) (aj (fB (v:=.ref _) (by rfl) vf rfl) ak))) (aj (aJ gw (by rfl) aV PyProof.Rows.boot_isinstance (aj (qv 0) (aj (fB (v:=.ref _) (by rfl) Dk rfl) ak))) (aj (aJ gw (by rfl) aV PyProof.Rows.boot_isinstance (aj (qv 0) (aj (fB (v:=.ref _) (by rfl) xu rfl) ak))) ak))))) (au (aM (i:=1) wY.nd rfl (Or.inl rfl) (aH Er (qv 1) (eG (aj (aJ gw (by rfl) aV PyProof.Rows.boot_isinstance (aj (qv 0) (aj (fB (v:=.ref _) (by rfl) Mv rfl) ak))) (aj (aJ gw (by rfl) aV PyProof.Rows.boot_isinstance (aj (qv 0) (aj (fB (v:=.ref _) (by rfl) Dl rfl) ak))) (aj (aJ gw (by rfl) aV PyProof.Rows.boot_isinstance (aj (qv 0) (aj (fB (v:=.ref _) (by rfl) xG rfl) ak))) ak)))))) (au (aM (i:=1) wY.nd rfl (Or.inl rfl) (aH Er (qv 1) (eG (aj (aJ gw (by rfl) aV PyProof.Rows.boot_isinstance (aj (qv 0) (aj (fB (v:=.ref _) (by rfl) uI rfl) ak))) ak)))) (au (bO (cP (aJ JN (by rfl) aV PyProof.Rows.boot_isinstance (aj (qv 0) (aj (bZ (aj (fB (v:=.ref _) (by rfl) Wd rfl) (aj (fB (v:=.ref _) (by rfl) SX rfl) (aj (fB (v:=.ref _) (by rfl) Wf rfl) (aj (fB (v:=.ref _) (by rfl) YK rfl) (aj (fB (v:=.ref _) (by rfl) Wg rfl) (aj (fB (v:=.ref _) (by rfl) abo rfl) (aj (fB (v:=.ref _) (by rfl) Wh rfl) (aj (fB (v:=.ref _) (by rfl) YL rfl) ak))))))))) ak)))) (aA (aQ (wL rZ aq))) bD) (au (bO (QW.qt (nj (dG (cP (aJ gw (by rfl) aV PyProof.Rows.boot_isinstance (aj (qv 0) (aj (iT (v:=.ty "ValueError") (by rfl) kY EY rfl) ak))))) (lR (bh pD (aJ bL (by rfl) aX PySem.boot_len (aj (dZ (ns:=["_law_one"]) rfl (d_.of ["_law_error","_law_some"] [] (by kernel_rfl)) (fY (qv 1)) (λ_ _ _ _ _=>(rQ (show (["_law_one","_law_error","_law_some"]:List Str).Nodup by decide +kernel) rfl (by rfl))) (λ_ _ _ _ _=>(vO (cP (qv 0)))) (λ_ _ _ _ _=>(qv 0))) ak)) aq (aY _))))) (aA (aQ (wL rZ aq))) bD) (aA (aQ (fK PySem.F.plainAttrs_list PySem.F.slot_list_index PySem.F.type_list_index Vj (qv 1) (aj gD ak))))))))),?_⟩;refine⟨_,rfl,a,C,.ref bf,.ref bf,dd,_,rfl,.inl ⟨bf,rfl,rfl⟩,ha,hdk,is,S5,_,rfl,a,C,.ref bH,.ref bH,dd,_,rfl,.inl ⟨bH,rfl,rfl⟩,ha,hdk,is,abp,_,rfl,a,C,.ref bF,.ref bF,dd,_,rfl,.inl ⟨bF,rfl,rfl⟩,ha,hdk,is,Wi,by show 3<=sizeLine;decide,λM0 hM0=>?_⟩;have t0:Same H (upd H M0 (HO.lst [V.bl (decide (0=j)),V.bl (decide (1=j)),V.bl (decide (2=j))])):=Same.upd hM0;have f0:upd H M0 (HO.lst [V.bl (decide (0=j)),V.bl (decide (1=j)),V.bl (decide (2=j))]) M0=some (.lst [V.bl (decide (0=j)),V.bl (decide (1=j)),V.bl (decide (2=j))]):=ao;have s0:=t0;generalize upd H M0 (HO.lst [V.bl (decide (0=j)),V.bl (decide (1=j)),V.bl (decide (2=j))])=G0 at t0 f0 s0 ⊢;refine⟨_,rfl,_,rfl,a,C,.ref bU,.ref bU,dd,_,rfl,.inl ⟨bU,rfl,rfl⟩,(s0 _ _ ha),(jP.mv hdk s0),is,aex,_,rfl,a,C,.ref bM,.ref bM,dd,_,rfl,.inl ⟨bM,rfl,rfl⟩,(s0 _ _ ha),(jP.mv hdk s0),is,abq,_,rfl,a,C,.ref aZ,.ref aZ,dd,_,rfl,.inl ⟨aZ,rfl,rfl⟩,(s0 _ _ ha),(jP.mv hdk s0),is,Wj,by show 3<=sizeLine;decide,λM1 hM1=>?_⟩;have t1:Same G0 (upd G0 M1 (HO.lst [V.bl (decide (3=j)),V.bl (decide (4=j)),V.bl (decide (5=j))])):=Same.upd hM1;have f1:upd G0 M1 (HO.lst [V.bl (decide (3=j)),V.bl (decide (4=j)),V.bl (decide (5=j))]) M1=some (.lst [V.bl (decide (3=j)),V.bl (decide (4=j)),V.bl (decide (5=j))]):=ao;have u1:=t1 _ _ f0;have s1a:=s0.trans t1;generalize upd G0 M1 (HO.lst [V.bl (decide (3=j)),V.bl (decide (4=j)),V.bl (decide (5=j))])=G1 at t1 f1 u1 s1a ⊢;refine⟨M0,M1,_,_,rfl,rfl,u1,f1,by show 3+3<=sizeLine;decide,λL1 hL1=>?_⟩;have v1:Same G1 (upd G1 L1 (HO.lst ([V.bl (decide (0=j)),V.bl (decide (1=j)),V.bl (decide (2=j))]++[V.bl (decide (3=j)),V.bl (decide (4=j)),V.bl (decide (5=j))]))):=Same.upd hL1;have e1:upd G1 L1 (HO.lst ([V.bl (decide (0=j)),V.bl (decide (1=j)),V.bl (decide (2=j))]++[V.bl (decide (3=j)),V.bl (decide (4=j)),V.bl (decide (5=j))])) L1=some (.lst ([V.bl (decide (0=j)),V.bl (decide (1=j)),V.bl (decide (2=j))]++[V.bl (decide (3=j)),V.bl (decide (4=j)),V.bl (decide (5=j))])):=ao;have s1:=s1a.trans v1;generalize upd G1 L1 (HO.lst ([V.bl (decide (0=j)),V.bl (decide (1=j)),V.bl (decide (2=j))]++[V.bl (decide (3=j)),V.bl (decide (4=j)),V.bl (decide (5=j))]))=K1 at v1 e1 s1 ⊢;refine⟨_,rfl,_,rfl,a,C,.ref bC,.ref bC,dd,_,rfl,.inl ⟨bC,rfl,rfl⟩,(s1 _ _ ha),(jP.mv hdk s1),is,YM,by show 1<=sizeLine;decide,λM2 je=>?_⟩;have t2:Same K1 (upd K1 M2 (HO.lst [V.bl (decide (6=j))])):=Same.upd je;have f2:upd K1 M2 (HO.lst [V.bl (decide (6=j))]) M2=some (.lst [V.bl (decide (6=j))]):=ao;have u2:=t2 _ _ e1;have s2a:=s1.trans t2;generalize upd K1 M2 (HO.lst [V.bl (decide (6=j))])=G2 at t2 f2 u2 s2a ⊢;refine⟨L1,M2,_,_,rfl,rfl,u2,f2,by show 6+1<=sizeLine;decide,λL2 hL2=>?_⟩;have v2:Same G2 (upd G2 L2 (HO.lst (([V.bl (decide (0=j)),V.bl (decide (1=j)),V.bl (decide (2=j))]++[V.bl (decide (3=j)),V.bl (decide (4=j)),V.bl (decide (5=j))])++[V.bl (decide (6=j))]))):=Same.upd hL2;have e2:upd G2 L2 (HO.lst (([V.bl (decide (0=j)),V.bl (decide (1=j)),V.bl (decide (2=j))]++[V.bl (decide (3=j)),V.bl (decide (4=j)),V.bl (decide (5=j))])++[V.bl (decide (6=j))])) L2=some (.lst (([V.bl (decide (0=j)),V.bl (decide (1=j)),V.bl (decide (2=j))]++[V.bl (decide (3=j)),V.bl (decide (4=j)),V.bl (decide (5=j))])++[V.bl (decide (6=j))])):=ao;have s2:=s2a.trans v2;generalize upd G2 L2 (HO.lst (([V.bl (decide (0=j)),V.bl (decide (1=j)),V.bl (decide (2=j))]++[V.bl (decide (3=j)),V.bl (decide (4=j)),V.bl (decide (5=j))])++[V.bl (decide (6=j))]))=K2 at v2 e2 s2 ⊢;have eb:K2 L2=some (.lst ((bits j).map V.bl)):=e2;refine⟨_,rfl,by show 8<=sizeLine;decide,λTP hTP=>?_⟩;have v3:Same K2 (upd K2 TP (HO.tup [V.ref cA,V.ref bY,V.ref cB,V.ref cQ,V.ref cD,V.ref dH,V.ref cF,V.ref cR])):=Same.upd hTP;have e3:upd K2 TP (HO.tup [V.ref cA,V.ref bY,V.ref cB,V.ref cQ,V.ref cD,V.ref dH,V.ref cF,V.ref cR]) TP=some (.tup ([cA,bY,cB,cQ,cD,dH,cF,cR].map V.ref)):=ao;have s3:=s2.trans v3;have eb3:=v3 _ _ eb;generalize upd K2 TP (HO.tup [V.ref cA,V.ref bY,V.ref cB,V.ref cQ,V.ref cD,V.ref dH,V.ref cF,V.ref cR])=K3 at v3 e3 s3 eb3 ⊢;refine⟨a,C,TP,_,dd,false,rfl,s3 _ _ ha,jP.mv hdk s3,is,e3,cx.no,_,rfl,aU ?_⟩;refine⟨_,rfl,a,C,.ty "ValueError",.type "ValueError",dd,true,rfl,.inr ⟨_,rfl,rfl⟩,s3 _ _ ha,jP.mv hdk s3,is,cx.val,_,rfl,aU ?_⟩;refine⟨_,rfl,L2,rfl,⟨_,aN.of eb3⟩,λN hN=>uZ (K:=K) (a:=L2) (f:=dR [] 0) (tt:=tB (gK 0)) (te:=gK 0) (xs:=(bits j).map V.bl) (λn ys H5=>ys=(((bits j).take n).filter id).map V.bl/\H5 N=some (.lst ys)/\Same K3 H5)
   ⟨rfl,ao,Same.upd hN⟩ (λn ys H5 _ h=>aN.of (h.2.2 _ _ eb3)) ?_ ?_⟩
  ·rintro n x ys H5 hx ⟨rfl,nO,iy⟩
   have hn:n < ((bits j).map V.bl).length:=(List.getElem?_eq_some_iff.mp hx).1;rw[List.getElem?_map]at hx;obtain⟨b,hb,rfl⟩:=Option.map_eq_some_iff.mp hx;have hn7:n < 7:=hn;refine⟨_,rfl,_,rfl,?_⟩;have et:(((bits j).take (n+1)).filter id).map V.bl=(((bits j).take n).filter id).map V.bl++([b].filter id).map V.bl:=by rw[List.take_add_one,hb,List.filter_append,List.map_append];rfl
   cases b with
   | true=>
    refine bw ⟨_,rfl,nO,?_,dh.mk hn ⟨et.symm,ao,iy.bK hN⟩⟩;rw[List.length_map];exact aD (Nat.le_trans (List.length_filter_le _ _) (by rw[List.length_take];omega))
   | false=>
    refine aU (dh.mk hn ⟨?_,nO,iy⟩);rw[et];simp
  ·rintro ys H5 ⟨rfl,nO,iy⟩
   rw[List.length_map,List.take_length]at nO;refine⟨N,_,rfl,.inl (aN.of nO),rfl,_,rfl,?_⟩;rw[List.length_map];obtain⟨b1,b2⟩:=abn j hj;refine Bd (by rw[SQ j hj];rfl) ?_;have eb5:=iy _ _ eb3;exact⟨_,rfl,.inl ⟨rfl,_,aN.of eb5⟩,L2,bits j,j,rfl,rfl,eb5,b1,b2,by show 7<=1000;decide,q _ (s3.trans iy)⟩
theorem JB.Qp {c:yS}{H H':Hp}{cls:Value}{dd:Option Addr}{v:Vd}(h:JB c H cls dd v)(s:Same H H'):JB c H' cls dd v:=by
 cases v with
 | ok=>exact h
 | ou i j=>exact⟨h.1,let ⟨dx,e,k⟩:=h.2;⟨dx,e,s _ _ k⟩⟩
 | oA=>exact h
 | gap i j=>exact⟨h.1,let ⟨dx,e,k⟩:=h.2;⟨dx,e,s _ _ k⟩⟩
 | oE=>exact h
 | qC t=>exact⟨h.1,let ⟨dx,e,k⟩:=h.2;⟨dx,e,s _ _ k⟩⟩
 | nw l=>exact⟨h.1,let ⟨dx,e,k⟩:=h.2;⟨dx,e,s _ _ k⟩⟩
structure VdM (K:PySem.W.Frag)(c:yS)(CR:Addr):Prop where
 lay:PySem.W.exmOne K (.ref c.lay) (.ref CR)=some true
 ou:PySem.W.exmOne K (.ref c.ou) (.ref CR)=some true
 oA:PySem.W.exmOne K (.ref c.oA) (.ref CR)=some true
 gap:PySem.W.exmOne K (.ref c.gap) (.ref CR)=some true
 oE:PySem.W.exmOne K (.ref c.oE) (.ref CR)=some true
 qC:PySem.W.exmOne K (.ref c.qC) (.ref CR)=some true
 nw:PySem.W.exmOne K (.ref c.nw) (.ref CR)=some true
theorem JB.match_ {c:yS}{CR:Addr}(M:VdM K c CR){H:Hp}{cls:Value}{dd:Option Addr}{v:Vd}(h:JB c H cls dd v):PySem.W.exmOne K cls (.ref CR)=some true:=by
 cases v with
 | ok=>exact h.elim
 | ou i j=>rw[h.1];exact M.ou
 | oA=>rw[h.1];exact M.oA
 | gap i j=>rw[h.1];exact M.gap
 | oE=>rw[h.1];exact M.oE
 | qC t=>rw[h.1];exact M.qC
 | nw l=>rw[h.1];exact M.nw
def M_ (K : PySem.W.Frag)(C CB : Addr)(c : yS) : Sp := λvs H Q _ => ∃(b k d : Addr) (ws : List (List Nat)) (rack : List Nat) (x : V) (r w : Nat) (rows marks : List (List Nat)) (bi bj : Nat), vs = [.ref b, .ref k, .str (S rack), x] /\ dY C H b r w rows marks bi bj /\ kO CB H k d ws /\ rack.length <= 63 /\
  ((∃o, VH K H x o /\ layB r w o = false /\ ∀(a : Addr) (H' : Hp), Same H H' -> H' a = some (.ext (sU a (.ref c.lay) none)) -> Q (.ref a) H') \/
   (∃(t : Addr) (as : List Addr) (ts : List bx), x = .ref t /\ H t = some (.tup (as.map V.ref)) /\ cO H as ts /\ (∀t ∈ ts, inB r w t) /\ 0 < ts.length /\ ts.length <= 7 /\ mC (ts.map dI) = true /\
     (∀v cls dd a H', uK rows r w bi bj ws rack ts v -> JB c H' cls dd v -> Same H H' -> H' a = some (.ext (sU a cls dd)) -> Q (.ref a) H') /\ (uK rows r w bi bj ws rack ts .ok -> ∀H', Same H H' -> Q .non H')))
theorem Wk {C CB CR:Addr}{c:yS}(D:aG K mg "_law_caught" wZ ["_law_board","_law_book","_law_rack","_law_laying"])(fO:mg "RackError"=some (.ref CR))(M:VdM K c CR)(Hr:DefX P w K mg base "check_laying" 14 ["board","book","rack","laying"] (QM K C CB c)) :
  Def P w K mg base "_law_caught" 16 ["_law_board","_law_book","_law_rack","_law_laying"] (M_ K C CB c):=by
 refine D.cU qm (λvs H Q E h=>?_) (λf cdv A outer s H vs Q E hr h=>?_)
 ·obtain⟨b,k,d,ws,rack,x,r,w,rows,marks,bi,bj,rfl,_⟩:=h
  rfl
 ·obtain⟨b,k,d,ws,rack,x,r,w,rows,marks,bi,bj,rfl,BA,BK,h63,h⟩:=h
  refine⟨_,(au (aM (i:=4) qm.nd rfl (Or.inl rfl) sE) (au (adh rfl rfl (by rfl) fO qm.nd (i:=5) rfl (by rfl) (λpn xe E0 σ0 hp hx=>(aA (aM (i:=4) qm.nd rfl (Or.inl rfl) (oO Hr (hr.mono (by decide)) rfl hx (aj (qv 0) (aj (qv 1) (aj (qv 2) (aj (qv 3) ak)))))))) (λ_=>(aA (aM (i:=4) qm.nd rfl (Or.inl rfl) (qv 5))))) (aA (aQ (qv 4))))),?_⟩;rcases h with⟨o,hD,hB,q⟩ | ⟨t,as,ts,rfl,ht,hL,hin,h0,h7,uy,qE,q⟩
  ·refine⟨λcls dd H'=>cls=.ref c.lay/\dd=none/\Same H H',?_,?_⟩
   ·exact⟨rfl,_,rfl,_,rfl,_,rfl,_,rfl,b,k,d,ws,rack,x,r,w,rows,marks,bi,bj,rfl,BA,BK,h63,.inl ⟨o,hD,hB,λH' s'=>⟨rfl,rfl,s'⟩⟩⟩
   ·rintro a cls dd H' ⟨rfl,rfl,s3⟩ na
    exact⟨M.lay,_,rfl,_,rfl,q a _ (s3.trans (Same.upd na)) ao⟩
  ·refine⟨λcls dd H'=>∃v,uK rows r w bi bj ws rack ts v/\JB c H' cls dd v/\Same H H',?_,?_⟩
   ·refine⟨rfl,_,rfl,_,rfl,_,rfl,_,rfl,b,k,d,ws,rack,.ref t,r,w,rows,marks,bi,bj,rfl,BA,BK,h63,.inr ⟨t,as,ts,rfl,ht,hL,hin,h0,h7,uy,λv cls dd H' h1 h2 h3=>⟨v,h1,h2,h3⟩,λh1 H' s'=>?_⟩⟩
    exact⟨_,rfl,q h1 H' s'⟩
   ·rintro a cls dd H' ⟨v,h1,h2,s3⟩ na
    exact⟨h2.match_ M,_,rfl,_,rfl,qE v cls dd a _ h1 (h2.Qp (Same.upd na)) (s3.trans (Same.upd na)) ao⟩
end
end My
end
section
namespace My
open PySem L2
section
variable {P:Program}{w:World}{K:PySem.W.Frag}{mg:Str->Option Value}{base:Heap}
def rW (i j:Int):List (Int × Int):=[(i-1,j),(i,j-1),(i,j+1),(i+1,j)]
theorem abr (rows:List (List Nat))(r w:Nat)(i j:Int):(rW i j).any (uF rows r w)=ig rows r w i j:=by
 unfold ig rW around;simp only[List.any_cons,List.any_nil,Bool.or_false];cases uF rows r w (i-1,j) <;> cases uF rows r w (i,j-1) <;> cases uF rows r w (i,j+1) <;> cases uF rows r w (i+1,j) <;> rfl
def Ht:Sp:=λvs H Q _=>∃(p:Addr) (rows:List (List Nat)) (r w:Nat) (i j:Int),vs=[.ref p,.int i,.int j]/\H p=some (.tup (Ts rows))/\Blk r w rows/\1<=r/\r<=9/\w<=9/\∀(H':Hp),Same H H'->Q (.bl (ig rows r w i j)) H'
theorem Bs {rows:List (List Nat)}{r w:Nat}{u v:Int}(h:¬(0<=u/\u < (r:Int)/\0<=v/\v < (w:Int))):uF rows r w (u,v)=false:=by
 unfold uF atC;simp only;rw[if_neg h];rfl
theorem Pb (D:aG K mg "_law_is_near" qj ["_law_rows_here","_law_row","_law_column"])(aX:mg "len"=none):Def P w K mg base "_law_is_near" 1 ["_law_rows_here","_law_row","_law_column"] Ht:=by
 refine D.cU rC (λvs H Q E h=>?_) (λf cdv A outer s H vs Q E hr h=>?_)
 ·obtain⟨p,rows,r,w,i,j,rfl,_⟩:=h
  rfl
 ·obtain⟨pr,rows,r,w,i,j,rfl,hp0,hb,r1,r9,w9,q⟩:=h
  refine⟨_,(au (dF PassesOwn.never rfl (fY (eG (aj (bZ (aj (aH gR (qv 1) aq) (aj (qv 2) ak))) (aj (bZ (aj (qv 1) (aj (aH gR (qv 2) aq) ak))) (aj (bZ (aj (qv 1) (aj (aH b_ (qv 2) aq) ak))) (aj (bZ (aj (aH b_ (qv 1) aq) (aj (qv 2) ak))) ak)))))) (bI (i:=3) rC.nd rfl (Or.inl rfl)) (aA (bO (QW.qt (iY (mF ju jt aq (aL aW (qv 3) aq (λ_ _=>rfl)) (aJ bL (by rfl) aX PySem.boot_len (aj (qv 0) ak))) (iY (mF ju jt aq (aL aW (qv 3) aq (λ_ _=>rfl)) (aJ cT (by rfl) aX PySem.boot_len (aj (aL aW (qv 0) aq (λ_ _=>rfl)) ak))) (lB (bh j8 (aL ni (aL aW (qv 0) (aL aW (qv 3) aq (λ_ _=>rfl)) (λ_ _=>rfl)) (aL aW (qv 3) aq (λ_ _=>rfl)) (λ_ _=>rfl)) (bN [46] (by decide +kernel)) (aY _)))))) (aA (aQ gD)) bD))) (aA (aQ gD))),?_⟩;refine⟨_,rfl,_,_,rfl,rfl,_,rfl,by show 2<=sizeLine;decide,λt1 h1=>⟨_,rfl,_,rfl,_,_,rfl,rfl,by show 2<=sizeLine;decide,λt2 h2=>⟨_,rfl,_,rfl,_,_,rfl,rfl,by show 2<=sizeLine;decide,λt3 h3=>⟨_,rfl,_,_,rfl,rfl,_,rfl,by show 2<=sizeLine;decide,λt4 h4=>⟨by show 4<=sizeLine;decide,λT hT=>?_⟩⟩⟩⟩⟩;have s1:Same H (upd H t1 (HO.tup [.int (i-1),.int j])):=Same.upd h1;have s2:=s1.bK (o:=HO.tup [.int i,.int (j-1)]) (s1.free h2);have s3:=s2.bK (o:=HO.tup [.int i,.int (j+1)]) (s2.free h3);have s4:=s3.bK (o:=HO.tup [.int (i+1),.int j]) (s3.free h4);have s5:=s4.bK (o:=HO.lst [.ref t1,.ref t2,.ref t3,.ref t4]) (s4.free hT);have k5:Same _ _:=Same.upd (o:=HO.lst [.ref t1,.ref t2,.ref t3,.ref t4]) hT;have k4:Same _ _:=Same.upd (o:=HO.tup [.int (i+1),.int j]) h4;have k3:Same _ _:=Same.upd (o:=HO.tup [.int i,.int (j+1)]) h3;have k2:Same _ _:=Same.upd (o:=HO.tup [.int i,.int (j-1)]) h2;have e1:=k5 _ _ (k4 _ _ (k3 _ _ (k2 _ _ (ao (H:=H) (a:=t1) (o:=HO.tup [.int (i-1),.int j])))));have e2:=k5 _ _ (k4 _ _ (k3 _ _ (ao (a:=t2) (o:=HO.tup [.int i,.int (j-1)]))));have e3:=k5 _ _ (k4 _ _ (ao (a:=t3) (o:=HO.tup [.int i,.int (j+1)])));have e4:=k5 _ _ (ao (a:=t4) (o:=HO.tup [.int (i+1),.int j]));have e5:upd (upd (upd (upd (upd H t1 (HO.tup [.int (i-1),.int j])) t2 (HO.tup [.int i,.int (j-1)])) t3 (HO.tup [.int i,.int (j+1)])) t4 (HO.tup [.int (i+1),.int j])) T (HO.lst [.ref t1,.ref t2,.ref t3,.ref t4]) T=some (.lst ([t1,t2,t3,t4].map V.ref)):=ao;generalize upd (upd (upd (upd (upd H t1 (HO.tup [.int (i-1),.int j])) t2 (HO.tup [.int i,.int (j-1)])) t3 (HO.tup [.int i,.int (j+1)])) t4 (HO.tup [.int (i+1),.int j])) T (HO.lst [.ref t1,.ref t2,.ref t3,.ref t4])=H5 at s5 e1 e2 e3 e4 e5 ⊢;have il5:IL2 H5 [t1,t2,t3,t4] (rW i j):=((cW.one (x:=(i-1,j)) e1).app (cW.one (x:=(i,j-1)) e2)).app ((cW.one (x:=(i,j+1)) e3).app (cW.one (x:=(i+1,j)) e4));have hp:=aK.of (K:=K) (s5 _ _ hp0);have jd:(Ts rows).length=r:=by rw[List.length_map,hb.len]
  have h0:0 < rows.length:=by rw[hb.len];omega
  have hw0:rows[0].length=w:=hb.iw _ (List.getElem_mem _);rw[<- abr]at q;refine⟨T,rfl,⟨_,aN.of e5⟩,oJ (K:=K) (a:=T) (xs:=[t1,t2,t3,t4].map V.ref) (λn σ H6=>H6=H5/\∃v3:Option V,σ=[some (.ref pr),some (.int i),some (.int j),v3]/\∀p∈(rW i j).take n,uF rows r w p=false)
   ⟨rfl,none,rfl,λp hp=>by simp at hp⟩ (λn σ H6 _ h=>by rw[h.1];exact aN.of e5) ?_ ?_⟩
  ·rintro n x σ H6 hx ⟨rfl,v3,rfl,hfr⟩
   have hn:n < [t1,t2,t3,t4].length:=by have:=(List.getElem?_eq_some_iff.mp hx).1;simpa using this
   rw[List.getElem?_map,List.getElem?_eq_getElem hn]at hx;have hx:V.ref [t1,t2,t3,t4][n]=x:=Option.some.inj hx;subst hx;obtain⟨⟨u,v⟩,eu,ht⟩:=il5.get hn;generalize [t1,t2,t3,t4][n]=t at ht ⊢;have hS:=aK.of (K:=K) ht;have nx:uF rows r w (u,v)=false->H6=H6/\∃v3:Option V,([some (.ref pr),some (.int i),some (.int j),some (.ref t)]:St)=[some (.ref pr),some (.int i),some (.int j),v3]/\∀p∈(rW i j).take (n+1),uF rows r w p=false:=λz=>⟨rfl,_,rfl,λp hp=>by
    rw[List.take_add_one,eu]at hp;rcases List.mem_append.mp hp with y | y
    ·exact hfr p y
    ·rw[List.mem_singleton.mp y];exact z⟩
   refine⟨_,rfl,t,_,_,_,rfl,rfl,hS,aF (j:=0) rfl,_,_,rfl,rfl,_,rfl,?_⟩;by_cases c1:0<=u
   ·rw[decide_eq_true c1]
    refine bw ⟨_,rfl,pr,_,rfl,.inr hp,_,_,rfl,rfl,_,rfl,?_⟩;rw[jd];by_cases c2:u < (r:Int)
    ·rw[decide_eq_true c2]
     refine bw ⟨_,rfl,t,_,_,_,rfl,rfl,hS,aF (j:=1) rfl,_,_,rfl,rfl,_,rfl,?_⟩;by_cases c3:0<=v
     ·rw[decide_eq_true c3]
      refine bw ⟨_,rfl,pr,_,_,.str (S rows[0]),rfl,rfl,hp,aF (j:=0) (gG (by simp[h0])),_,rfl,Nat.le_of_lt (aD (by omega)),_,_,rfl,rfl,_,rfl,?_⟩;rw[hw0];by_cases c4:v < (w:Int)
      ·rw[decide_eq_true c4]
       obtain⟨u,rfl⟩:∃k:Nat,u=k:=⟨u.toNat,by omega⟩
       obtain⟨v,rfl⟩:∃k:Nat,v=k:=⟨v.toNat,by omega⟩
       have hi:u < rows.length:=by rw[hb.len];omega
       have hgi:rows[u]?=some (rows.getD u []):=by rw[List.getD_eq_getElem?_getD,List.getElem?_eq_getElem hi];rfl
       have hw:(rows.getD u []).length=w:=hb.iw _ (List.mem_of_getElem? hgi);have Vq:(rows.getD u [])[v]?=some ((rows.getD u []).getD v 0):=by rw[List.getD_eq_getElem?_getD (l:=rows.getD u []),List.getElem?_eq_getElem (by omega)];rfl
       have hat:atC rows r w (u:Int) (v:Int)=(rows.getD u []).getD v 0:=Dj (by omega) (by omega);refine bw ⟨_,rfl,_,rfl,t,_,_,_,rfl,rfl,hS,aF (j:=0) rfl,pr,_,_,_,rfl,rfl,hp,aF (gG hgi),_,rfl,t,_,_,_,rfl,rfl,hS,aF (j:=1) rfl,_,_,_,rfl,rfl,Nat.le_of_lt (aD (by omega)),aF Vq,_,_,rfl,rfl,_,rfl,?_⟩;rw[<- hat];cases ht0:uF rows r w ((u:Int),(v:Int)) with
       | true=>
        rw[show (!decide ([atC rows r w (u:Int) (v:Int)]=[46]))=true from ht0];have hq:=q H6 s5;rw[List.any_eq_true.mpr ⟨_,List.mem_of_getElem? eu,ht0⟩]at hq;exact bw hq
       | false=>
        rw[show (!decide ([atC rows r w (u:Int) (v:Int)]=[46]))=false from ht0];exact aU (nx ht0)
      ·rw[decide_eq_false c4]
       exact aU (aU (nx (Bs λz=>c4 z.2.2.2)))
     ·rw[decide_eq_false c3]
      exact aU ⟨_,rfl,aU (aU (nx (Bs λz=>c3 z.2.2.1)))⟩
    ·rw[decide_eq_false c2]
     exact aU (aU (nx (Bs λz=>c2 z.2.1)))
   ·rw[decide_eq_false c1]
    exact aU ⟨_,rfl,aU (aU (nx (Bs λz=>c1 z.1)))⟩
  ·rintro σ H6 ⟨rfl,v3,rfl,hfr⟩
   have hq:=q H6 s5;have:(rW i j).any (uF rows r w)=false:=by
    rw[List.any_eq_false];intro p hp;rw[hfr p (by rw[List.take_of_length_le (by show 4<=4;decide)];exact hp)];decide
   rw[this]at hq;exact hq
theorem YQ {r w:Nat}{R:List (List Nat)}(hb:Blk r w R){a b z i j:Nat}(ha:a < r)(hbw:b < w)(hi:i < r)(hj:j < w):cell (setAt R a b z) i j=if i=a/\j=b then z else cell R i j:=by
 have la:a < R.length:=by rw[hb.len];exact ha
 have li:i < R.length:=by rw[hb.len];exact hi
 have ga:R.getD a []=R[a]:=by rw[List.getD_eq_getElem?_getD,List.getElem?_eq_getElem la];rfl
 have gi:R.getD i []=R[i]:=by rw[List.getD_eq_getElem?_getD,List.getElem?_eq_getElem li];rfl
 have wa:R[a].length=w:=hb.iw _ (List.getElem_mem _);unfold cell setAt;rw[List.getD_eq_getElem?_getD (l:=R.set a _)];by_cases e:i=a
 ·subst e
  rw[List.getElem?_set_self li,ga];show (R[i].set b z).getD j 0=_;rw[List.getD_eq_getElem?_getD];by_cases e2:j=b
  ·subst e2
   rw[List.getElem?_set_self (by omega),if_pos ⟨rfl,rfl⟩];rfl
  ·rw[List.getElem?_set_ne (λz=>e2 z.symm),if_neg (λz=>e2 z.2),List.getD_eq_getElem?_getD]
 ·rw[List.getElem?_set_ne (λz=>e z.symm),if_neg (λz=>e z.1),<- List.getD_eq_getElem?_getD]
theorem JD {r w i j:Nat}(hi:i < r)(hj:j < w):∀{ts:List bx} {R:List (List Nat)},Blk r w R->(∀t∈ts,inB r w t)->((i,j)∉ts.map dI->cell (bJ R ts) i j=cell R i j)/\((i,j)∈ts.map dI->lV (cell (bJ R ts) i j))
 | [],R,_,_=>⟨λ_=>rfl,λh=>by simp at h⟩
 | t::ts,R,hb,hin=>by
  obtain⟨t1,t2,t3⟩:=hin t List.mem_cons_self;have hb2:=G8 hb t1 (j:=t.2.1) (z:=t.2.2);obtain⟨k1,k2⟩:=JD hi hj (ts:=ts) hb2 λu hu=>hin u (List.mem_cons_of_mem _ hu);have e:bJ R (t::ts)=bJ (setAt R t.1 t.2.1 t.2.2) ts:=rfl;rw[e];have hc:=YQ hb t1 t2 hi hj (z:=t.2.2);constructor
  ·intro h
   rw[List.map_cons,List.mem_cons,not_or]at h;rw[k1 h.2,hc,if_neg];intro z;exact h.1 (by show (i,j)=(t.1,t.2.1);rw[z.1,z.2])
  ·intro h
   by_cases hm:(i,j)∈ts.map dI
   ·exact k2 hm
   ·rw[k1 hm,hc]
    rw[List.map_cons,List.mem_cons]at h;rcases h with z | z
    ·have z:(i,j)=(t.1,t.2.1):=z
     injection z with z1 z2;rw[if_pos ⟨z1,z2⟩];exact t3
    ·exact absurd z hm
theorem Wm {r w i j:Nat}(hi:i < r)(hj:j < w){ts:List bx}{R:List (List Nat)}(hb:Blk r w R)(hin:∀t∈ts,inB r w t):cell (bJ R ts) i j=46↔cell R i j=46/\(i,j)∉ts.map dI:=by
 obtain⟨k1,k2⟩:=JD hi hj hb hin;constructor
 ·intro h
  by_cases hm:(i,j)∈ts.map dI
  ·have:=k2 hm
   rw[h]at this;cases this
  ·exact⟨(k1 hm).symm.trans h,hm⟩
 ·intro h
  rw[k1 h.2];exact h.1
end
end My
end
section
namespace My
open PySem L2
section
variable {P:Program}{w:World}{K:PySem.W.Frag}{mg:Str->Option Value}{base:Heap}
def Nb (rows:List (List Nat))(r w bi bj:Nat)(cc:List (Nat × Nat)):Bool:=if isFree rows=true then decide ((bi,bj)∈cc) else cc.any λc=>ig rows r w c.1 c.2
theorem adG (rows:List (List Nat))(r w bi bj:Nat)(ts:List bx):Nb rows r w bi bj (ts.map dI)=qz rows r w bi bj ts:=by
 unfold Nb qz;rw[List.any_map];rfl
def jO (l:List Nat):Bool:=!decide (l=(List.replicate l.length [46]).flatten)
theorem YS (n:Nat):(List.replicate n [46]).flatten=List.replicate n 46:=by
 induction n with
 | zero=>rfl
 | succ n ih=>rw[List.replicate_succ,List.flatten_cons,ih,List.replicate_succ];rfl
theorem Nf {l:List Nat}:jO l=false↔∀c∈l,c=46:=by
 unfold jO;rw[YS];constructor
 ·intro h
  have:l=List.replicate l.length 46:=by simpa using h
  exact(List.eq_replicate_iff.mp this).2
 ·intro h
  have:l=List.replicate l.length 46:=List.eq_replicate_iff.mpr ⟨rfl,h⟩;rw[decide_eq_true this];rfl
theorem Ng {rows:List (List Nat)}:isFree rows=true↔rows.filter jO=[]:=by
 unfold isFree;rw[List.all_eq_true,List.filter_eq_nil_iff];constructor
 ·intro h l hl
  have:jO l=false:=Nf.mpr λc hc=>by
   have:=of_decide_eq_true (h c (List.mem_flatten.mpr ⟨l,hl,hc⟩));injection this
  rw[this];decide
 ·intro h c hc
  obtain⟨l,hl,hcl⟩:=List.mem_flatten.mp hc;have:jO l=false:=by
   cases e:jO l with
   | false=>rfl
   | true=>exact absurd e (h l hl)
  rw[Nf.mp this c hcl];rfl
theorem cY.xK {H:Hp}:∀{ls:List (List Nat)},(∀l∈ls,∀c∈l,c < 128)->cY K H 1 (ls.map Dt.str) (Ts ls)
 | [],_=>.nil
 | l::ls,h=>.cons (.str l (h l List.mem_cons_self)) (cY.xK λl' hl'=>h l' (List.mem_cons_of_mem _ hl'))
def Nh:Sp:=λvs H Q _=>∃(pr pb Lc:Addr) (rows:List (List Nat)) (r w bi bj:Nat) (cs:List Addr) (cc:List (Nat × Nat)),vs=[.ref pr,.ref pb,.ref Lc]/\H pr=some (.tup (Ts rows))/\Blk r w rows/\1<=r/\r<=9/\1<=w/\w<=9/\(∀l∈rows,∀c∈l,n8 c)/\H pb=some (.tup [.int bi,.int bj])/\H Lc=some (.lst (cs.map V.ref))/\Mi H cs cc/\cc.length<=7/\
 ∀H',Same H H'->Q (.bl (Nb rows r w bi bj cc)) H'
open Classical in
theorem Wn (D:aG K mg "_law_joined" wX ["_law_rows_here","_law_begin","_law_cells"])(aX:mg "len"=none)(zK:Def P w K mg base "_law_is_near" 1 ["_law_rows_here","_law_row","_law_column"] Ht):Def P w K mg base "_law_joined" 2 ["_law_rows_here","_law_begin","_law_cells"] Nh:=by
 refine D.cU Vm (λvs H Q E h=>?_) (λf cdv A outer s H vs Q E hr h=>?_)
 ·obtain⟨pr,pb,Lc,rows,r,w,bi,bj,cs,cc,rfl,_⟩:=h
  rfl
 ·obtain⟨pr,pb,Lc,rows,r,w,bi,bj,cs,cc,rfl,hpr,hb,r1,r9,w1,w9,qD,hpb,hLc,hcs,h7,q⟩:=h
  have jd:(Ts rows).length=r:=by rw[List.length_map,hb.len]
  have hcl:=hcs.len;refine⟨_,(au (bO (bh (zm hr.units) (dZ (ns:=["_law_text"]) rfl (d_.of ["_law_rows_here","_law_begin","_law_cells"] [] (by kernel_rfl)) (dz (qv 0)) (λ_ _ _ _ _=>(rQ (show (["_law_text","_law_rows_here","_law_begin","_law_cells"]:List Str).Nodup by decide +kernel) rfl (by rfl))) (λ_ _ _ _ _=>(vO (bh j8 (qv 0) (aH GD (bN [46] (by decide +kernel)) (aJ cT (by rfl) aX PySem.boot_len (aj (qv 0) ak))) (aY _)))) (λ_ _ _ _ _=>(qv 0))) (eG ak) (aY _)) (aA (aQ (dB (Qf hr.units) (qv 1) (qv 2) rfl))) bD) (aA (aQ (dB (KQ hr.units) (dZ (ns:=["_law_cell"]) rfl (d_.of ["_law_rows_here","_law_begin","_law_cells"] [] (by kernel_rfl)) (fY (qv 2)) (λ_ _ _ _ _=>(rQ (show (["_law_cell","_law_rows_here","_law_begin","_law_cells"]:List Str).Nodup by decide +kernel) rfl (by rfl))) (λ_ _ _ _ _=>(vO (cP (bA zK (hr.mono (by decide)) rfl (aj (qv 1) (aj (aL (jA K) (qv 0) aq (λ_ _=>rfl)) (aj (aL (jA K) (qv 0) aq (λ_ _=>rfl)) ak))))))) (λ_ _ _ _ _=>(qv 0))) (eG ak) (aY _))))),?_⟩;refine⟨_,rfl,pr,rfl,⟨_,aK.of hpr⟩,λN hN=>wQ (K:=K) (a:=pr) (f:=dR [] 0) (tt:=wF (n6 XQ (gK 0) (n6 Z6 (tC (V.str (S [46]))) (Kv Rx (m8 (gK 0) su))))) (te:=gK 0) (xs:=Ts rows) (λn ys H2=>ys=Ts ((rows.take n).filter jO)/\H2 N=some (.lst ys)/\Same H H2)
   ⟨rfl,ao,Same.upd hN⟩ (λn ys H2 _ h=>aK.of (h.2.2 _ _ hpr)) ?_ ?_⟩
  ·rintro n x ys H2 hx ⟨rfl,Wo,sm⟩
   obtain⟨l,hl,rfl⟩:=sY hx;have hn:n < (Ts rows).length:=(List.getElem?_eq_some_iff.mp hx).1;have tu:l.length=w:=hb.iw _ (List.mem_of_getElem? hl);refine⟨_,rfl,_,rfl,l,rfl,Nat.le_of_lt (aD (by omega)),[46],l.length,rfl,rfl,by omega,by omega,by decide,l,_,rfl,rfl,_,rfl,?_⟩;have et:(rows.take (n+1)).filter jO=(rows.take n).filter jO++[l].filter jO:=by rw[List.take_add_one,hl,List.filter_append];rfl
   cases hf:jO l with
   | true=>
    rw[show (!decide (l=(List.replicate l.length [46]).flatten))=true from hf];refine bw ⟨_,rfl,Wo,?_,dh.mk hn ⟨?_,ao,sm.bK hN⟩⟩
    ·rw[List.length_map]
     exact aD (Nat.le_trans (List.length_filter_le _ _) (by rw[List.length_take];omega))
    ·rw[et,oW];simp[hf]
   | false=>
    rw[show (!decide (l=(List.replicate l.length [46]).flatten))=false from hf];refine aU (dh.mk hn ⟨?_,Wo,sm⟩);rw[et];simp[hf]
  ·rintro ys H2 ⟨rfl,Wo,sm⟩
   rw[List.length_map,List.take_length]at Wo;refine⟨by show 0<=sizeLine;decide,λZ hZ=>?_⟩;have sZ:Same H2 (upd H2 Z (HO.lst [])):=Same.upd hZ;have eZ:upd H2 Z (HO.lst []) Z=some (.lst []):=ao;have jf:=sZ _ _ Wo;have s3:=sm.trans sZ;generalize upd H2 Z (HO.lst [])=H3 at sZ eZ jf s3 ⊢;have ae6:∀l∈rows.filter jO,∀c∈l,c < 128:=λl hl c hc=>by
    rcases qD l (List.mem_filter.mp hl).1 c hc with e | e
    ·omega
    ·exact e.lt
   refine⟨2,.lst ((rows.filter jO).map Dt.str),.lst [],by decide,.lst (aN.of jf) (cY.xK ae6),.lst (aN.of eZ) .nil,_,rfl,?_⟩;simp only[Bool.false_eq_true,if_false];by_cases hf:isFree rows=true
   ·have he:Dt.lst ((rows.filter jO).map Dt.str)=Dt.lst []:=by rw[Ng.mp hf];rfl
    rw[decide_eq_true he];refine bw ⟨_,rfl,_,rfl,2,.tup [.int bi,.int bj],cc.map λc=>Dt.tup [.int c.1,.int c.2],by decide,.tup (aK.of (s3 _ _ hpb)) (.cons (.int _) (.cons (.int _) .nil)),.lst (aN.of (s3 _ _ hLc)) (cY.V0 (hcs.mv s3)),?_⟩;have hq:=q H3 s3;have e:Nb rows r w bi bj cc=decide ((bi,bj)∈cc):=by unfold Nb;rw[if_pos hf]
    rw[e]at hq;simp only[Bool.false_eq_true,if_false];by_cases hm:(bi,bj)∈cc
    ·rw[decide_eq_true hm]at hq
     rw[decide_eq_true (vZ (c:=(bi,bj)).mpr hm)];exact hq
    ·rw[decide_eq_false hm]at hq
     rw[decide_eq_false (λz=>hm (vZ (c:=(bi,bj)).mp z))];exact hq
   ·have he:¬Dt.lst ((rows.filter jO).map Dt.str)=Dt.lst []:=λz=>by
     injection z with z;exact hf (Ng.mpr (List.map_eq_nil_iff.mp z))
    rw[decide_eq_false he];refine aU ⟨_,rfl,Lc,rfl,⟨_,aN.of (s3 _ _ hLc)⟩,λM hM=>uZ (K:=K) (a:=Lc) (f:=dR [] 0) (tt:=tB (Ka Ht [] E0 (m8 (gK 1) (m8 (n6 (Ky K) (gK 0) (tC (V.int 0))) (m8 (n6 (Ky K) (gK 0) (tC (V.int 1))) su))))) (te:=gK 0) (xs:=cs.map V.ref) (λn ys H4=>∃ds:List Addr,ys=ds.map V.ref/\ds.length<=n/\H4 M=some (.lst ys)/\Same H3 H4/\Mi H4 ds ((cc.take n).filter λc=>ig rows r w c.1 c.2))
     ⟨[],rfl,Nat.le_refl _,ao,Same.upd hM,cW.nil⟩ (λn ys H4 _ h=>by obtain⟨_,_,_,_,sm,_⟩:=h;exact aN.of (sm _ _ (s3 _ _ hLc))) ?_ ?_⟩
    ·rintro n x ys H4 hx ⟨ds,rfl,hdl,Ju,lX,Wq⟩
     have hn:n < cs.length:=by have:=(List.getElem?_eq_some_iff.mp hx).1;simpa using this
     rw[List.getElem?_map,List.getElem?_eq_getElem hn]at hx;have hx:V.ref cs[n]=x:=Option.some.inj hx;subst hx;have m5:=s3.trans lX;obtain⟨u,eu,hu⟩:=(hcs.mv m5).get hn;refine⟨_,rfl,_,rfl,cs[n],_,_,_,rfl,rfl,aK.of hu,aF (j:=0) rfl,_,rfl,cs[n],_,_,_,rfl,rfl,aK.of hu,aF (j:=1) rfl,pr,rows,r,w,_,_,rfl,m5 _ _ hpr,hb,r1,r9,w9,λH5 s5=>⟨_,rfl,?_⟩⟩;have et:(cc.take (n+1)).filter (λc=>ig rows r w c.1 c.2)=(cc.take n).filter (λc=>ig rows r w c.1 c.2)++[u].filter (λc=>ig rows r w c.1 c.2):=by rw[List.take_add_one,eu,List.filter_append];rfl
     cases hf2:ig rows r w u.1 u.2 with
     | true=>
      have Ws:=s5 _ _ Ju;refine bw ⟨_,rfl,Ws,by rw[List.length_map];exact aD (by omega),dh.mk (by rw[List.length_map];exact hn) ⟨ds++[cs[n]],by simp,by simp;omega,by rw[ao],(lX.trans s5).bK hM,?_⟩⟩;rw[et];have e2:[u].filter (λc=>ig rows r w c.1 c.2)=[u]:=by simp[hf2]
      rw[e2];exact((Wq.mv s5).app (cW.one (s5 _ _ hu))).jo (kI Ws)
     | false=>
      refine aU (dh.mk (by rw[List.length_map];exact hn) ⟨ds,rfl,by omega,s5 _ _ Ju,lX.trans s5,?_⟩);rw[et];have e2:[u].filter (λc=>ig rows r w c.1 c.2)=[]:=by simp[hf2]
      rw[e2,List.append_nil];exact Wq.mv s5
    ·rintro ys H4 ⟨ds,rfl,hdl,Ju,lX,Wq⟩
     rw[List.length_map,hcl,List.take_length]at Wq;refine⟨by show 0<=sizeLine;decide,λZ2 hZ2=>?_⟩;have sZ2:Same H4 (upd H4 Z2 (HO.lst [])):=Same.upd hZ2;have eZ2:upd H4 Z2 (HO.lst []) Z2=some (.lst []):=ao;have Ws:=sZ2 _ _ Ju;have hP5:=Wq.mv sZ2;generalize upd H4 Z2 (HO.lst [])=H5 at sZ2 eZ2 Ws hP5 ⊢;refine⟨2,.lst _,.lst [],by decide,.lst (aN.of Ws) (cY.V0 hP5),.lst (aN.of eZ2) .nil,?_⟩;have hq:=q H5 (s3.trans (lX.trans sZ2));have e:Nb rows r w bi bj cc=cc.any λc=>ig rows r w c.1 c.2:=by unfold Nb;rw[if_neg hf]
     rw[e]at hq;simp only[if_true];cases ha:(cc.any λc=>ig rows r w c.1 c.2) with
     | true=>
      rw[ha]at hq;have:¬(Dt.lst (((cc.filter λc=>ig rows r w c.1 c.2)).map λc=>Dt.tup [.int c.1,.int c.2])=Dt.lst []):=λz=>by
       injection z with z;have z:=List.map_eq_nil_iff.mp z;obtain⟨c,hc1,hc2⟩:=List.any_eq_true.mp ha;exact absurd hc2 (List.filter_eq_nil_iff.mp z c hc1)
      rw[decide_eq_false this];exact hq
     | false=>
      rw[ha]at hq;have:Dt.lst (((cc.filter λc=>ig rows r w c.1 c.2)).map λc=>Dt.tup [.int c.1,.int c.2])=Dt.lst []:=by
       rw[List.filter_eq_nil_iff.mpr λc hc=>by have:=List.any_eq_false.mp ha c hc;exact this];rfl
      rw[decide_eq_true this];exact hq
end
end My
end
section
namespace My
open PySem L2
section
variable {P:Program}{w:World}{K:PySem.W.Frag}{mg:Str->Option Value}{base:Heap}
inductive xM (rows:List (List Nat)) (r w bi bj:Nat) (ts:List bx):Nat->Nat->Nat->Prop
 | ou {u:bx} (h:mL rows ts=some u):xM rows r w bi bj ts 1 u.1 u.2.1
 | oA (h1:mL rows ts=none) (h:(jX ts||jY ts)=false):xM rows r w bi bj ts 2 0 0
 | gap {i j:Nat} (h1:mL rows ts=none) (h2:(jX ts||jY ts)=true) (h:Sh (bJ rows ts) (fW ts).1 (fD ts).1 (fW ts).2.1 (fD ts).2.1 i j):xM rows r w bi bj ts 3 i j
 | oE (h1:mL rows ts=none) (h2:(jX ts||jY ts)=true) (h3:uH (bJ rows ts) (fW ts).1 (fD ts).1 (fW ts).2.1 (fD ts).2.1) (h:qz rows r w bi bj ts=false):xM rows r w bi bj ts 4 0 0
 | ok (h1:mL rows ts=none) (h2:(jX ts||jY ts)=true) (h3:uH (bJ rows ts) (fW ts).1 (fD ts).1 (fW ts).2.1 (fD ts).2.1) (h:qz rows r w bi bj ts=true):xM rows r w bi bj ts 9 0 0
theorem Wt {ts:List bx}(h0:0 < ts.length){g:bx->Nat}{m M:Int}(hm:m∈ts.map λt=>(g t:Int))(h1:∀x∈ts.map (λt=>(g t:Int)),m<=x)(hM:M∈ts.map λt=>(g t:Int))(h2:∀x∈ts.map (λt=>(g t:Int)),M>=x) :
  decide (V.int m=V.int M)=ts.all λt=>decide (g t=g (ts.headD (0,0,0))):=by
 rw[jN h0];cases e:(ts.all λt=>decide (g t=g ts[0])) with
 | true=>
  rw[List.all_eq_true]at e;have key:∀x∈ts.map (λt=>(g t:Int)),x=(g ts[0]:Int):=λx hx=>by
   obtain⟨t,ht,rfl⟩:=List.mem_map.mp hx;have:=of_decide_eq_true (e t ht);rw[this]
  rw[key m hm,key M hM];simp
 | false=>
  refine decide_eq_false λz=>?_;injection z with z;have:(ts.all λt=>decide (g t=g ts[0]))=true:=List.all_eq_true.mpr λt ht=>by
   have a1:=h1 _ (List.mem_map.mpr ⟨t,ht,rfl⟩);have a2:=h2 _ (List.mem_map.mpr ⟨t,ht,rfl⟩);have b1:=h1 _ (List.mem_map.mpr ⟨ts[0],List.getElem_mem h0,rfl⟩);have b2:=h2 _ (List.mem_map.mpr ⟨ts[0],List.getElem_mem h0,rfl⟩);exact decide_eq_true (by omega)
  rw[this]at e;cases e
theorem xO {f:St->St}{σ:St}(ix:Nat){Hs H':Hp}{cs:List Addr}{cc:List (Nat × Nat)}{n:Nat}{x:V}{ys:List V}{N:Addr}(hx:(cs.map V.ref)[n]?=some x)
  (hh:ys=((cc.take n).map λc=>(((if ix=0 then c.1 else c.2:Nat)):Int)).map V.int/\H' N=some (.lst ys)/\Same Hs H') (hcs:Mi Hs cs cc) (h7:cc.length<=7) (hN:Hs N=none) (hix:ix=0\/ix=1) :
  qT (cs.map V.ref).length n N (λv H Q=>∃a p q,v=.ref a/\aK K H a [p,q]/\Q [some p,some q]) f σ gq (gK ix) x H' ys (λys H'=>ys=((cc.take (n+1)).map λc=>(((if ix=0 then c.1 else c.2:Nat)):Int)).map V.int/\H' N=some (.lst ys)/\Same Hs H'):=by
 obtain⟨rfl,hN',sm⟩:=hh;have hn:n < cs.length:=by have:=(List.getElem?_eq_some_iff.mp hx).1;simpa using this
 have hcl:=hcs.len;rw[List.getElem?_map,List.getElem?_eq_getElem hn]at hx;have hx:V.ref cs[n]=x:=Option.some.inj hx;obtain⟨u,eu,hu⟩:=(hcs.mv sm).get hn;refine Z_ hx.symm (aK.of hu) ?_;have hz:(((cc.take n).map λc=>(((if ix=0 then c.1 else c.2:Nat)):Int)).map V.int).length < sizeLine:=by rw[List.length_map,List.length_map,List.length_take];exact aD (by omega)
 rcases hix with rfl | rfl
 ·refine⟨_,rfl,hN',hz,dh.mk (by rw[List.length_map];exact hn) ⟨?_,ao,sm.bK hN⟩⟩
  rw[take_snoc eu,List.map_append];rfl
 ·refine⟨_,rfl,hN',hz,dh.mk (by rw[List.length_map];exact hn) ⟨?_,ao,sm.bK hN⟩⟩
  rw[take_snoc eu,List.map_append];rfl
def Wu:Sp:=λvs H Q _=>∃(pr pb t:Addr) (rows:List (List Nat)) (r w bi bj:Nat) (as:List Addr) (ts:List bx),vs=[.ref pr,.ref pb,.ref t]/\H pr=some (.tup (Ts rows))/\Blk r w rows/\1<=r/\r<=9/\1<=w/\w<=9/\(∀l∈rows,∀c∈l,n8 c)/\H pb=some (.tup [.int bi,.int bj])/\H t=some (.tup (as.map V.ref))/\cO H as ts/\(∀t∈ts,inB r w t)/\0 < ts.length/\ts.length<=7/\
 ∀(T:Addr) (d x y:Nat) (H':Hp),Same H H'->xM rows r w bi bj ts d x y->H' T=some (.tup [.int d,.int x,.int y])->Q (.ref T) H'
open Classical in
theorem Ni (D:aG K mg "_law_cells_due" pP ["_law_rows_here","_law_begin","_law_laying"])(cI:mg "range"=none)(Bt:mg "min"=none)(Bu:mg "max"=none)(YT:Def P w K mg base "_law_joined" 2 ["_law_rows_here","_law_begin","_law_cells"] Nh):Def P w K mg base "_law_cells_due" 3 ["_law_rows_here","_law_begin","_law_laying"] Wu:=by
 refine D.cU jC (λvs H Q E h=>?_) (λf cdv A outer s H vs Q E hr h=>?_)
 ·obtain⟨pr,pb,t,rows,r,w,bi,bj,as,ts,rfl,_⟩:=h
  rfl
 ·obtain⟨pr,pb,t,rows,r,w,bi,bj,as,ts,rfl,hpr,hb,r1,r9,w1,w9,qD,hpb,ht,hL,hin,h0,h7,q⟩:=h
  have hal:=hL.len;refine⟨_,(au (Bg (ix:=3) (ns:=["_law_row","_law_column","_law_sign_here"]) jC.nd rfl (Or.inl rfl) rfl (d_.of ["_law_rows_here","_law_begin","_law_laying","_law_cells",".4",".5"] [4,5] (by kernel_rfl)) (dz (qv 2)) (λ_ _ _ _ _=>(jR K rfl (show (["_law_row","_law_column","_law_sign_here","_law_rows_here","_law_begin","_law_laying","_law_cells",".4",".5"]:List Str).Nodup by decide +kernel) rfl rfl rfl (by rfl) (by rfl) (by rfl))) (λ_ _ _ _ _=>cH) (λ_ _ _ _ _=>(bZ (aj (qv 0) (aj (qv 1) ak))))) (au (dF PassesOwn.never rfl (fY (qv 3)) (lQ rfl (bT (bI (i:=4) jC.nd rfl (Or.inl rfl)) (bT (bI (i:=5) jC.nd rfl (Or.inl rfl)) jQ))) (aA (bO (bh j8 (aL ni (aL aW (qv 0) (qv 4) (λ_ _=>rfl)) (qv 5) (λ_ _=>rfl)) (bN [46] (by decide +kernel)) (aY _)) (aA (aQ (bZ (aj aq (aj (qv 4) (aj (qv 5) ak)))))) bD))) (au (iG (bO (bh pD (aJ (Ji rfl) (by rfl) Bt PyProof.Rows.boot_min (aj (dZ (ns:=["_law_row","_law_column"]) rfl (d_.of ["_law_rows_here","_law_begin","_law_laying","_law_cells",".4",".5"] [4,5] (by kernel_rfl)) (fY (qv 3)) (λ_ _ _ _ _=>(vP K rfl (show (["_law_row","_law_column","_law_rows_here","_law_begin","_law_laying","_law_cells",".4",".5"]:List Str).Nodup by decide +kernel) rfl rfl (by rfl) (by rfl))) (λ_ _ _ _ _=>cH) (λ_ _ _ _ _=>(qv 0))) ak)) (aJ (Jj rfl) (by rfl) Bu PyProof.Rows.boot_max (aj (dZ (ns:=["_law_row","_law_column"]) rfl (d_.of ["_law_rows_here","_law_begin","_law_laying","_law_cells",".4",".5"] [4,5] (by kernel_rfl)) (fY (qv 3)) (λ_ _ _ _ _=>(vP K rfl (show (["_law_row","_law_column","_law_rows_here","_law_begin","_law_laying","_law_cells",".4",".5"]:List Str).Nodup by decide +kernel) rfl rfl (by rfl) (by rfl))) (λ_ _ _ _ _=>cH) (λ_ _ _ _ _=>(qv 0))) ak)) (aY _)) (aA (bO (bh pD (aJ (Ji rfl) (by rfl) Bt PyProof.Rows.boot_min (aj (dZ (ns:=["_law_row","_law_column"]) rfl (d_.of ["_law_rows_here","_law_begin","_law_laying","_law_cells",".4",".5"] [4,5] (by kernel_rfl)) (fY (qv 3)) (λ_ _ _ _ _=>(vP K rfl (show (["_law_row","_law_column","_law_rows_here","_law_begin","_law_laying","_law_cells",".4",".5"]:List Str).Nodup by decide +kernel) rfl rfl (by rfl) (by rfl))) (λ_ _ _ _ _=>cH) (λ_ _ _ _ _=>(qv 1))) ak)) (aJ (Jj rfl) (by rfl) Bu PyProof.Rows.boot_max (aj (dZ (ns:=["_law_row","_law_column"]) rfl (d_.of ["_law_rows_here","_law_begin","_law_laying","_law_cells",".4",".5"] [4,5] (by kernel_rfl)) (fY (qv 3)) (λ_ _ _ _ _=>(vP K rfl (show (["_law_row","_law_column","_law_rows_here","_law_begin","_law_laying","_law_cells",".4",".5"]:List Str).Nodup by decide +kernel) rfl rfl (by rfl) (by rfl))) (λ_ _ _ _ _=>cH) (λ_ _ _ _ _=>(qv 1))) ak)) (aY _)) (aA (aQ (bZ (aj aq (aj aq (aj aq ak)))))) bD)) bD)) (au (dF PassesOwn.never rfl (tZ (by rfl) cI (aj (aL aW (aL d7 (qv 3) aq (λ_ _=>rfl)) aq (λ_ _=>rfl)) (aj (aH b_ (aL aW (aL d7 (qv 3) (wL rZ aq) (λ_ _=>rfl)) aq (λ_ _=>rfl)) aq) ak))) (bI (i:=4) jC.nd rfl (Or.inl rfl)) (aA (dF PassesOwn.never rfl (tZ (by rfl) cI (aj (aL aW (aL d7 (qv 3) aq (λ_ _=>rfl)) aq (λ_ _=>rfl)) (aj (aH b_ (aL aW (aL d7 (qv 3) (wL rZ aq) (λ_ _=>rfl)) aq (λ_ _=>rfl)) aq) ak))) (bI (i:=5) jC.nd rfl (Or.inl rfl)) (aA (bO (QW.qt (iY (bh pZ (aL ni (aL aW (qv 0) (qv 4) (λ_ _=>rfl)) (qv 5) (λ_ _=>rfl)) (bN [46] (by decide +kernel)) (aY _)) (lB (bh (RM hr.units) (bZ (aj (qv 4) (aj (qv 5) ak))) (qv 3) rfl)))) (aA (aQ (bZ (aj aq (aj (qv 4) (aj (qv 5) ak)))))) bD))))) (au (bO (dG (cP (bA YT (hr.mono (by decide)) rfl (aj (qv 0) (aj (qv 1) (aj (qv 3) ak)))))) (aA (aQ (bZ (aj aq (aj aq (aj aq ak)))))) bD) (aA (aQ (bZ (aj aq (aj aq (aj aq ak))))))))))),?_⟩;refine⟨_,rfl,t,rfl,⟨_,aK.of ht⟩,λLc adH=>gj (K:=K) (KT:=K) (a:=t) (f:=dR [4,5] 0) (tt:=gq) (xs:=as.map V.ref) (λn ys H5=>∃cs:List Addr,ys=cs.map V.ref/\cs.length=n/\H5 Lc=some (.lst ys)/\Same H H5/\Mi H5 cs ((ts.take n).map dI))
   ⟨[],rfl,rfl,ao,Same.upd adH,cW.nil⟩ (λn ys H5 _ h=>by obtain⟨_,_,_,_,sm,_⟩:=h;exact aK.of (sm _ _ ht)) ?_ ?_⟩
  ·rintro n x ys H5 hx ⟨cs,rfl,hcl,nO,iy,uz⟩
   have hn:n < as.length:=by have:=(List.getElem?_eq_some_iff.mp hx).1;simpa using this
   have hnt:n < ts.length:=by omega
   rw[List.getElem?_map,List.getElem?_eq_getElem hn]at hx;have hx:V.ref as[n]=x:=Option.some.inj hx;obtain⟨_,en⟩:=eO (hL.mv iy) hnt;refine qU hx.symm (aK.of en) ?_;refine⟨_,rfl,_,rfl,by show 2<=sizeLine;decide,λg hg=>?_⟩;have kg:Same H5 (upd H5 g (HO.tup [.int ts[n].1,.int ts[n].2.1])):=Same.upd hg;have Jr:=kg _ _ nO;refine⟨Jr,by rw[List.length_map];exact aD (by omega),dh.mk (by rw[List.length_map];exact hn) ⟨cs++[g],by simp,by simp[hcl],by rw[ao],(iy.trans kg).bK adH,?_⟩⟩;rw[take_snoc (List.getElem?_eq_getElem hnt)];exact((uz.mv kg).app (cW.one (x:=(ts[n].1,ts[n].2.1)) ao)).jo (kI Jr)
  rintro ys H1 ⟨cs,rfl,hcl,hLc,s1,hcs⟩;rw[List.length_map]at hcl;rw[List.length_map,hal,List.take_length]at hcs;have Nj:cs.length=ts.length:=by omega
  have S6:∀n,(h:n < ts.length)->(ts.map dI)[n]?=some (ts[n].1,ts[n].2.1):=λn h=>by rw[List.getElem?_map,List.getElem?_eq_getElem h];rfl
  have ae7:=s1 _ _ hpr;have Nk:(ts.map dI).length<=7:=by rw[List.length_map];exact h7
  refine⟨_,rfl,Lc,rfl,⟨_,aN.of hLc⟩,oJ (K:=K) (a:=Lc) (xs:=cs.map V.ref) (λn σ H'=>∃v4 v5:Option V,σ=[some (.ref pr),some (.ref pb),some (.ref t),some (.ref Lc),v4,v5]/\Same H1 H'/\∀x∈ts.take n,VL rows x=false)
   ⟨none,none,rfl,Same.refl _,λx hx=>by simp at hx⟩ (λn σ H' _ h=>by obtain⟨_,_,_,sm,_⟩:=h;exact aN.of (sm _ _ hLc)) ?_ ?_⟩
  ·rintro n x σ H' hx ⟨v4,v5,rfl,sm,hfr⟩
   have hn:n < cs.length:=by have:=(List.getElem?_eq_some_iff.mp hx).1;simpa using this
   have hnt:n < ts.length:=by omega
   rw[List.getElem?_map,List.getElem?_eq_getElem hn]at hx;have hx:V.ref cs[n]=x:=Option.some.inj hx;subst hx;have en:=(hcs.mv sm).at_ n _ _ (List.getElem?_eq_getElem hn) (S6 n hnt);obtain⟨c1,c2,_⟩:=hin _ (List.getElem_mem hnt);have g1:ts[n].1 < rows.length:=by rw[hb.len];exact c1
   have hwi:rows[ts[n].1].length=w:=hb.iw _ (List.getElem_mem _);have g2:ts[n].2.1 < rows[ts[n].1].length:=by omega
   have hce:=cell_eq g1 g2;refine⟨cs[n],_,rfl,aK.of en,rfl,_,_,rfl,_,_,rfl,rfl,?_⟩;refine⟨_,rfl,_,rfl,pr,_,_,.str (S rows[ts[n].1]),rfl,rfl,aK.of (sm _ _ ae7),aF (gG (by simp[g1])),_,rfl,rows[ts[n].1],_,rows[ts[n].1][ts[n].2.1],rfl,rfl,Nat.le_of_lt (aD (by omega)),aF (by simp[g2]),[rows[ts[n].1][ts[n].2.1]],[46],rfl,rfl,_,rfl,?_⟩;rw[<- hce];cases ht0:VL rows ts[n] with
   | true=>
    rw[show (!decide ([cell rows ts[n].1 ts[n].2.1]=[46]))=true from ht0];exact bw ⟨_,rfl,_,rfl,by show 3<=sizeLine;decide,λT hT=>q T 1 _ _ _ ((s1.trans sm).trans (Same.upd hT)) (.ou (Bp hnt hfr ht0)) ao⟩
   | false=>
    rw[show (!decide ([cell rows ts[n].1 ts[n].2.1]=[46]))=false from ht0];refine aU ⟨_,_,rfl,sm,λx hx=>?_⟩;rw[List.take_add_one,List.getElem?_eq_getElem hnt]at hx;rcases List.mem_append.mp hx with z | z
    ·exact hfr x z
    ·rw[List.mem_singleton.mp z];exact ht0
  rintro σ H2 ⟨v4,v5,rfl,sm,hfr⟩;rw[List.length_map,Nj,List.take_length]at hfr;have d1:mL rows ts=none:=Bq hfr;have s2:=s1.trans sm;refine⟨λσ H'=>Same H2 H'/\σ=[some (.ref pr),some (.ref pb),some (.ref t),some (.ref Lc),v4,v5]/\(jX ts||jY ts)=true,?_,?_⟩
  ·refine⟨_,rfl,Lc,rfl,⟨_,aN.of (sm _ _ hLc)⟩,λA1 hA1=>pH (K:=K) (KT:=K) (a:=Lc) (f:=dR [4,5] 0) (tt:=gq) (te:=gK 0) (xs:=cs.map V.ref) (λn ys H'=>ys=(((ts.map dI).take n).map λc=>(((if 0=0 then c.1 else c.2:Nat)):Int)).map V.int/\H' A1=some (.lst ys)/\Same H2 H')
    ⟨rfl,ao,Same.upd hA1⟩ (λn ys H' _ h=>aN.of (h.2.2 _ _ (sm _ _ hLc))) (λn x ys H' hx hh=>xO 0 hx hh (hcs.mv sm) Nk hA1 (by decide)) ?_⟩
   rintro ys H3 ⟨rfl,Wv,k3⟩;rw[List.length_map,Nj,List.take_of_length_le (by rw[List.length_map];exact Nat.le_refl _),show ((ts.map dI).map λc=>(((if 0=0 then c.1 else c.2:Nat)):Int))=ts.map (λt=>(t.1:Int)) by rw[List.map_map];rfl]at Wv;refine⟨A1,ts.map λt=>(t.1:Int),rfl,aN.of Wv,by rw[List.length_map];exact h0,λm hm hmn=>?_⟩;refine⟨_,rfl,Lc,rfl,⟨_,aN.of ((sm.trans k3) _ _ hLc)⟩,λA2 hA2=>pH (K:=K) (KT:=K) (a:=Lc) (f:=dR [4,5] 0) (tt:=gq) (te:=gK 0) (xs:=cs.map V.ref) (λn ys H'=>ys=(((ts.map dI).take n).map λc=>(((if 0=0 then c.1 else c.2:Nat)):Int)).map V.int/\H' A2=some (.lst ys)/\Same H3 H')
    ⟨rfl,ao,Same.upd hA2⟩ (λn ys H' _ h=>aN.of (h.2.2 _ _ ((sm.trans k3) _ _ hLc))) (λn x ys H' hx hh=>xO 0 hx hh (hcs.mv (sm.trans k3)) Nk hA2 (by decide)) ?_⟩
   rintro ys H4 ⟨rfl,Ww,k4⟩;rw[List.length_map,Nj,List.take_of_length_le (by rw[List.length_map];exact Nat.le_refl _),show ((ts.map dI).map λc=>(((if 0=0 then c.1 else c.2:Nat)):Int))=ts.map (λt=>(t.1:Int)) by rw[List.map_map];rfl]at Ww;refine⟨A2,ts.map λt=>(t.1:Int),rfl,aN.of Ww,by rw[List.length_map];exact h0,λM hM hmx=>?_⟩;refine⟨rfl,_,rfl,?_⟩;have JF:=k3.trans k4;rw[Wt (g:=λt=>t.1) h0 hm hmn hM hmx];cases ha:jX ts with
   | true=>
    rw[show (ts.all λt=>decide (t.1=(ts.headD (0,0,0)).1))=true from ha];exact aU ⟨JF,rfl,by rw[Bool.true_or]⟩
   | false=>
    rw[show (ts.all λt=>decide (t.1=(ts.headD (0,0,0)).1))=false from ha];refine bw ?_;refine⟨_,rfl,Lc,rfl,⟨_,aN.of ((sm.trans JF) _ _ hLc)⟩,λA3 Wv=>pH (K:=K) (KT:=K) (a:=Lc) (f:=dR [4,5] 0) (tt:=gq) (te:=gK 1) (xs:=cs.map V.ref) (λn ys H'=>ys=(((ts.map dI).take n).map λc=>(((if 1=0 then c.1 else c.2:Nat)):Int)).map V.int/\H' A3=some (.lst ys)/\Same H4 H')
     ⟨rfl,ao,Same.upd Wv⟩ (λn ys H' _ h=>aN.of (h.2.2 _ _ ((sm.trans JF) _ _ hLc))) (λn x ys H' hx hh=>xO 1 hx hh (hcs.mv (sm.trans JF)) Nk Wv (by decide)) ?_⟩
    rintro ys H5 ⟨rfl,uz,k5⟩;rw[List.length_map,Nj,List.take_of_length_le (by rw[List.length_map];exact Nat.le_refl _),show ((ts.map dI).map λc=>(((if 1=0 then c.1 else c.2:Nat)):Int))=ts.map (λt=>(t.2.1:Int)) by rw[List.map_map];rfl]at uz;refine⟨A3,ts.map λt=>(t.2.1:Int),rfl,aN.of uz,by rw[List.length_map];exact h0,λm2 hm2 ae8=>?_⟩;refine⟨_,rfl,Lc,rfl,⟨_,aN.of ((sm.trans (JF.trans k5)) _ _ hLc)⟩,λA4 Ww=>pH (K:=K) (KT:=K) (a:=Lc) (f:=dR [4,5] 0) (tt:=gq) (te:=gK 1) (xs:=cs.map V.ref) (λn ys H'=>ys=(((ts.map dI).take n).map λc=>(((if 1=0 then c.1 else c.2:Nat)):Int)).map V.int/\H' A4=some (.lst ys)/\Same H5 H')
     ⟨rfl,ao,Same.upd Ww⟩ (λn ys H' _ h=>aN.of (h.2.2 _ _ ((sm.trans (JF.trans k5)) _ _ hLc))) (λn x ys H' hx hh=>xO 1 hx hh (hcs.mv (sm.trans (JF.trans k5))) Nk Ww (by decide)) ?_⟩
    rintro ys H6 ⟨rfl,hA6,k6⟩;rw[List.length_map,Nj,List.take_of_length_le (by rw[List.length_map];exact Nat.le_refl _),show ((ts.map dI).map λc=>(((if 1=0 then c.1 else c.2:Nat)):Int))=ts.map (λt=>(t.2.1:Int)) by rw[List.map_map];rfl]at hA6;refine⟨A4,ts.map λt=>(t.2.1:Int),rfl,aN.of hA6,by rw[List.length_map];exact h0,λM2 je ae9=>?_⟩;refine⟨rfl,_,rfl,?_⟩;have Wx:=JF.trans (k5.trans k6);rw[Wt (g:=λt=>t.2.1) h0 hm2 ae8 je ae9];cases hd:jY ts with
    | true=>
     rw[show (ts.all λt=>decide (t.2.1=(ts.headD (0,0,0)).2.1))=true from hd];exact aU ⟨Wx,rfl,rfl⟩
    | false=>
     rw[show (ts.all λt=>decide (t.2.1=(ts.headD (0,0,0)).2.1))=false from hd];exact bw ⟨by show 3<=sizeLine;decide,λT hT=>q T 2 0 0 _ ((s2.trans Wx).trans (Same.upd hT)) (.oA d1 (by rw[ha,hd];rfl)) ao⟩
  rintro σ H3 ⟨k3,rfl,d2⟩;have s3:=s2.trans k3;have s13:=sm.trans k3;have Hu:=s13 _ _ hLc;have S7:=hcs.mv s13;have z0:0 < cs.length:=by omega
  have zl:cs.length-1 < cs.length:=by omega
  have e0:=S7.at_ 0 _ _ (List.getElem?_eq_getElem z0) (S6 0 h0);have el:=S7.at_ (cs.length-1) _ _ (List.getElem?_eq_getElem zl) (by rw[show cs.length-1=ts.length-1 by omega];exact S6 _ (by omega));have xq:mV (cs.map V.ref) (-1)=some (.ref cs[cs.length-1]):=Hg z0;obtain⟨a1,a2,_⟩:=hin _ (List.getElem_mem h0);obtain⟨l1,l2,_⟩:=hin _ (List.getElem_mem (show ts.length-1 < ts.length by omega));have ef:fW ts=ts[0]:=jN h0;have eg:=Mt h0;generalize hff:ts[0]=ff at e0 a1 a2 ef;generalize hll:ts[ts.length-1]=ll at el l1 l2 eg;have hR:∀i j,i < r->j < w->(cell (bJ rows ts) i j=46↔cell rows i j=46/\(i,j)∉ts.map dI):=λi j hi hj=>Wm hi hj hb hin;have hDs:∀H',Same H3 H'->jz K H' 2 (.lst ((ts.map dI).map λc=>Dt.tup [.int c.1,.int c.2])) (.ref Lc):=λH' sH=>.lst (aN.of (sH _ _ Hu)) (cY.V0 (S7.mv sH));generalize hRR:bJ rows ts=R at hR;refine⟨_,rfl,Lc,_,_,.ref cs[0],rfl,rfl,aN.of Hu,aF (j:=0) (by simp[z0]),cs[0],_,_,_,rfl,rfl,aK.of e0,aF (j:=0) rfl,_,rfl,_,rfl,Lc,_,_,.ref cs[cs.length-1],rfl,rfl,aN.of Hu,xq,cs[cs.length-1],_,_,_,rfl,rfl,aK.of el,aF (j:=0) rfl,_,_,rfl,rfl,(ff.1:Int),(ll.1:Int)+1,rfl,⟨by omega,by omega,by omega,by omega⟩,?_⟩;refine gk (lo:=(ff.1:Int)) (λn σ H'=>∃v4 v5:Option V,σ=[some (.ref pr),some (.ref pb),some (.ref t),some (.ref Lc),v4,v5]/\Same H3 H'/\∀i j,ff.1<=i->i < ff.1+n->ff.2.1<=j->j<=ll.2.1->cell R i j≠46)
   ⟨_,_,rfl,Same.refl _,λi j z1 z2=>by omega⟩ ?_ ?_
  ·rintro n σ H' hn ⟨v4,v5,rfl,lX,hup⟩
   have hn2:ff.1+n<=ll.1:=by omega
   have en:(ff.1:Int)+(n:Int)=((ff.1+n:Nat):Int):=by omega
   rw[en];refine⟨_,rfl,Lc,_,_,.ref cs[0],rfl,rfl,aN.of (lX _ _ Hu),aF (j:=0) (by simp[z0]),cs[0],_,_,_,rfl,rfl,aK.of (lX _ _ e0),aF (j:=1) rfl,_,rfl,_,rfl,Lc,_,_,.ref cs[cs.length-1],rfl,rfl,aN.of (lX _ _ Hu),xq,cs[cs.length-1],_,_,_,rfl,rfl,aK.of (lX _ _ el),aF (j:=1) rfl,_,_,rfl,rfl,(ff.2.1:Int),(ll.2.1:Int)+1,rfl,⟨by omega,by omega,by omega,by omega⟩,?_⟩;refine gk (lo:=(ff.2.1:Int)) (λm σ H'=>∃v5:Option V,σ=[some (.ref pr),some (.ref pb),some (.ref t),some (.ref Lc),some (.int ((ff.1+n:Nat):Int)),v5]/\Same H3 H'/\∀j,ff.2.1<=j->j < ff.2.1+m->cell R (ff.1+n) j≠46)
    ⟨_,rfl,lX,λj z1 z2=>by omega⟩ ?_ ?_
   ·rintro m σ H5 hm ⟨v5,rfl,iy,hle⟩
    have hm2:ff.2.1+m<=ll.2.1:=by omega
    have em:(ff.2.1:Int)+(m:Int)=((ff.2.1+m:Nat):Int):=by omega
    rw[em];have ci:ff.1+n < r:=by omega
    have cj:ff.2.1+m < w:=by omega
    generalize hii:ff.1+n=ii at ci hle hn2 hup ⊢;generalize hjj:ff.2.1+m=jj at cj hle hm2 ⊢;have g1:ii < rows.length:=by rw[hb.len];exact ci
    have hwi:rows[ii].length=w:=hb.iw _ (List.getElem_mem _);have g2:jj < rows[ii].length:=by omega
    have hce:=cell_eq g1 g2;refine⟨_,rfl,_,rfl,pr,_,_,.str (S rows[ii]),rfl,rfl,aK.of (s3.trans iy _ _ hpr),aF (gG (by simp[g1])),_,rfl,rows[ii],_,rows[ii][jj],rfl,rfl,Nat.le_of_lt (aD (by omega)),aF (by simp[g2]),[rows[ii][jj]],[46],rfl,rfl,_,rfl,?_⟩;rw[<- hce];have nx:cell R ii jj≠46->∀H',Same H3 H'->∃v5:Option V,([some (.ref pr),some (.ref pb),some (.ref t),some (.ref Lc),some (.int (ii:Int)),some (.int (jj:Int))]:St)=[some (.ref pr),some (.ref pb),some (.ref t),some (.ref Lc),some (.int (ii:Int)),v5]/\Same H3 H'/\∀j,ff.2.1<=j->j < ff.2.1+(m+1)->cell R ii j≠46:=λz H' sH=>⟨_,rfl,sH,λj y1 y2=>by
     by_cases y:j=jj
     ·rw[y];exact z
     ·exact hle j y1 (by omega)⟩
    by_cases hc:cell rows ii jj=46
    ·rw[decide_eq_true (show [cell rows ii jj]=[46] by rw[hc])]
     refine bw ⟨_,rfl,_,rfl,by show 2<=sizeLine;decide,λg hg=>?_⟩;have kg:Same H5 (upd H5 g (HO.tup [.int (ii:Int),.int (jj:Int)])):=Same.upd hg;have eg2:upd H5 g (HO.tup [.int (ii:Int),.int (jj:Int)]) g=some (.tup [.int (ii:Int),.int (jj:Int)]):=ao;have sg:=iy.trans kg;generalize upd H5 g (HO.tup [.int (ii:Int),.int (jj:Int)])=H6 at kg eg2 sg ⊢;refine⟨_,rfl,2,.tup [.int (ii:Int),.int (jj:Int)],_,by decide,.tup (aK.of eg2) (.cons (.int _) (.cons (.int _) .nil)),hDs H6 sg,_,rfl,?_⟩;simp only[if_true];by_cases Wy:(ii,jj)∈ts.map dI
     ·rw[decide_eq_true (vZ (c:=(ii,jj)).mpr Wy)]
      exact aU (nx (λz=>((hR ii jj ci cj).mp z).2 Wy) H6 sg)
     ·rw[decide_eq_false (λz=>Wy (vZ (c:=(ii,jj)).mp z))]
      refine bw ⟨_,rfl,_,rfl,by show 3<=sizeLine;decide,λT hT=>?_⟩;refine q T 3 ii jj _ ((s3.trans sg).trans (Same.upd hT)) (.gap d1 d2 ?_) ao;rw[hRR,ef,eg];exact⟨by omega,hn2,by omega,hm2,(hR ii jj ci cj).mpr ⟨hc,Wy⟩,hup,λj y1 y2=>hle j y1 (by omega)⟩
    ·rw[decide_eq_false (show ¬[cell rows ii jj]=[46] from λz=>hc (by injection z))]
     exact aU (aU (nx (λz=>hc ((hR ii jj ci cj).mp z).1) H5 iy))
   ·rintro σ H5 ⟨v5,rfl,iy,hle⟩
    refine⟨_,_,rfl,iy,λi j z1 z2 z3 z4=>?_⟩;by_cases z:i=ff.1+n
    ·rw[z];exact hle j z3 (by omega)
    ·exact hup i j z1 (by omega) z3 z4
  ·rintro σ H4 ⟨v4,v5,rfl,lX,hup⟩
   have d3:uH (bJ rows ts) (fW ts).1 (fD ts).1 (fW ts).2.1 (fD ts).2.1:=by
    rw[hRR,ef,eg];exact λi j z1 z2 z3 z4=>hup i j z1 (by omega) z3 z4
   have s4:=s3.trans lX;refine⟨_,rfl,_,rfl,_,rfl,pr,pb,Lc,rows,r,w,bi,bj,cs,ts.map dI,rfl,s4 _ _ hpr,hb,r1,r9,w1,w9,qD,s4 _ _ hpb,lX _ _ Hu,S7.mv lX,Nk,λH5 k5=>⟨_,rfl,?_⟩⟩;rw[adG];have s5:=s4.trans k5;cases hj:qz rows r w bi bj ts with
   | true=>exact aU ⟨by show 3<=sizeLine;decide,λT hT=>q T 9 0 0 _ (s5.trans (Same.upd hT)) (.ok d1 d2 d3 hj) ao⟩
   | false=>exact bw ⟨by show 3<=sizeLine;decide,λT hT=>q T 4 0 0 _ (s5.trans (Same.upd hT)) (.oE d1 d2 d3 hj) ao⟩
end
end My
end
section
namespace My
open PySem L2
section
variable {P:Program}{w:World}{K:PySem.W.Frag}{mg:Str->Option Value}{base:Heap}
theorem abt {c:Nat}(h:V4 c):(([c].map PyProof.Rows.lo1=[c])->cM c=c)/\(¬([c].map PyProof.Rows.lo1=[c])->cM c=63):=by
 unfold cM PyProof.Rows.lo1;rw[List.map_singleton];rcases h with h | h
 ·have h1:=h.1
  have h2:=h.2;rw[if_neg (by omega),if_neg (by omega)];exact⟨λ_=>rfl,λz=>absurd rfl z⟩
 ·rw[if_pos h,if_pos h]
  exact⟨λz=>by injection z with z;omega,λ_=>rfl⟩
theorem Wz {r w:Nat}{R:List (List Nat)}(hb:Blk r w R)(r9:r<=9)(w9:w<=9){i j wy:Nat}(hi:i < r):(lJ R i j wy).2.2.2.length<=9:=by
 have hll:=nJ hb hi (j:=j) (way:=(wy:Int));have h9:(lineOf R i j (wy:Int)).length<=9:=by rw[hll];split <;> assumption
 show (cZ _++d8 _).length<=9;have a1:=mZ ((lineOf R i j (wy:Int)).take (placeOf i j (wy:Int)));have a2:=ux ((lineOf R i j (wy:Int)).drop (placeOf i j (wy:Int)));rw[List.length_take]at a1;rw[List.length_drop]at a2;rw[List.length_append];omega
theorem WD {c:Nat}(h:lV c):isLet (PyProof.Rows.lo1 c):=by
 unfold PyProof.Rows.lo1;rcases M7 h with h | h
 ·have h1:=h.1
  have h2:=h.2;rw[if_neg (by omega)];exact h
 ·rw[if_pos h];exact⟨by omega,by omega⟩
theorem Dn {r w:Nat}{rows:List (List Nat)}{ts:List bx}(hb:Blk r w (bJ rows ts))(hp:∀l∈bJ rows ts,∀c∈l,n8 c)(r9:r<=9)(w9:w<=9)(hin:∀t∈ts,inB r w t):∀q∈gZ rows ts,lK (zR q):=λq hq=>by
 have hsg:=xH hb hp hin q hq;obtain⟨hm,hl⟩:=List.mem_filter.mp hq;obtain⟨a,ha,e⟩:=List.mem_map.mp hm;have hi:a.1 < r:=by
  rcases List.mem_append.mp ha with z | z
  ·obtain⟨u,hu,rfl⟩:=List.mem_map.mp z
   exact(hin u (List.mem_of_mem_take hu)).1
  ·obtain⟨u,hu,rfl⟩:=List.mem_map.mp z
   exact(hin u hu).1
 have h9:q.2.2.2.length<=9:=by rw[<- e];exact Wz hb r9 w9 hi
 have h2:=of_decide_eq_true hl;unfold zR;refine⟨by rw[List.length_map];omega,by rw[List.length_map];exact h9,λc hc=>?_⟩;obtain⟨d,hd,rfl⟩:=List.mem_map.mp hc;exact WD (hsg d hd)
def WK:Sp:=λvs H Q _=>∃(pr t Lw:Addr) (rows ws:List (List Nat)) (r w:Nat) (as:List Addr) (ts:List bx),vs=[.ref pr,.ref t,.ref Lw]/\H pr=some (.tup (Ts rows))/\Blk r w rows/\r<=9/\w<=9/\(∀l∈rows,∀c∈l,n8 c)/\H t=some (.tup (as.map V.ref))/\cO H as ts/\(∀t∈ts,inB r w t)/\0 < ts.length/\ts.length<=7/\H Lw=some (.lst (Ts ws))/\
 (∀l,jg rows ws ts=some l->∀H',Same H H'->Q (.str (S l)) H')/\(jg rows ws ts=none->∀H',Same H H'->Q .non H')
open Classical in
theorem S8 (D:aG K mg "_law_missing" uq ["_law_rows_here","_law_laying","_law_words_here"])(Hv:Def P w K mg base "_law_words" 2 ["_law_rows_here","_law_laying"] Df):Def P w K mg base "_law_missing" 3 ["_law_rows_here","_law_laying","_law_words_here"] WK:=by
 refine D.cU lE (λvs H Q E h=>?_) (λf cdv A outer s H vs Q E hr h=>?_)
 ·obtain⟨pr,t,Lw,rows,ws,r,w,as,ts,rfl,_⟩:=h
  rfl
 ·obtain⟨pr,t,Lw,rows,ws,r,w,as,ts,rfl,hpr,hb,r9,w9,qD,ht,hL,hin,h0,h7,hLw,qS,q⟩:=h
  have hb':=iM hb hin;have hp':=oX hb hin qD;have hsg:=xH hb' hp' hin;have Jz:=u9 hb' r9 w9 hin;have hwl:=Gb (rows:=rows) h7;have hlt:∀q∈gZ rows ts,∀c∈q.2.2.2,c < 128:=λq hq c hc=>(hsg q hq c hc).lt;refine⟨_,(au (aM (i:=3) lE.nd rfl (Or.inl rfl) (bA Hv (hr.mono (by decide)) rfl (aj (qv 0) (aj (qv 1) ak)))) (au (dF PassesOwn.never rfl (dz (qv 3)) (lQ rfl (bT (bI (i:=4) lE.nd rfl (Or.inl rfl)) (bT (bI (i:=5) lE.nd rfl (Or.inl rfl)) (bT (bI (i:=6) lE.nd rfl (Or.inl rfl)) (bT (bI (i:=7) lE.nd rfl (Or.inl rfl)) jQ))))) (aA (bO (bh sy (j9 PySem.F.plainAttrs_str PySem.F.slot_str_lower PySem.F.type_str_lower j_ (qv 7)) (qv 2) rfl) (aA (aQ (j9 PySem.F.plainAttrs_str PySem.F.slot_str_lower PySem.F.type_str_lower j_ (qv 7)))) bD))) (au (bO (bh (zm hr.units) (qv 3) (bZ ak) (aY _)) (aA (aQ (j9 PySem.F.plainAttrs_str PySem.F.slot_str_lower PySem.F.type_str_lower j_ (aL aW (aL aW (qv 1) aq (λ_ _=>rfl)) aq (λ_ _=>rfl))))) bD) (aA (aQ sE))))),?_⟩;refine⟨_,rfl,_,rfl,pr,t,as,ts,r,w,rows,rfl,hpr,hb,r9,w9,ht,hL,hin,h0,h7,λT1 b1 H1 s1 hT1 zT=>?_⟩;generalize hW:gZ rows ts=W at hsg Jz hwl hlt zT;have qy:=zT.len;refine⟨_,rfl,T1,rfl,⟨_,aK.of hT1⟩,mU (K:=K) (a:=T1) (xs:=b1.map V.ref) (λn σ H'=>∃v4 v5 v6 v7:Option V,σ=[some (.ref pr),some (.ref t),some (.ref Lw),some (.ref T1),v4,v5,v6,v7]/\Same H1 H'/\∀x∈W.take n,u_ ws x=false)
   ⟨none,none,none,none,rfl,Same.refl _,λx hx=>by simp at hx⟩ (λn σ H' _ h=>by obtain⟨_,_,_,_,_,sm,_⟩:=h;exact aK.of (sm _ _ hT1)) ?_ ?_⟩
  ·rintro n x σ H' hx ⟨v4,v5,v6,v7,rfl,sm,hfr⟩
   have hn:n < b1.length:=by have:=(List.getElem?_eq_some_iff.mp hx).1;simpa using this
   have uJ:n < W.length:=by omega
   rw[List.getElem?_map,List.getElem?_eq_getElem hn]at hx;have hx:V.ref b1[n]=x:=Option.some.inj hx;subst hx;have en:=(zT.mv sm).at_ n _ _ (List.getElem?_eq_getElem hn) (List.getElem?_eq_getElem uJ);have hm:=List.getElem_mem uJ;have adF:=Jz _ hm;have Nm:=hlt _ hm;refine⟨b1[n],_,rfl,aK.of en,rfl,_,_,rfl,_,_,rfl,_,_,rfl,_,_,rfl,rfl,?_⟩;refine⟨_,rfl,rfl,W[n].2.2.2,rfl,rfl,by omega,Nm,_,rfl,Lw,Ts ws,rfl,.inl (aN.of ((s1.trans sm) _ _ hLw)),rfl,Hl ws,_,rfl,?_⟩;rw[V6];cases hq0:u_ ws W[n] with
   | true=>
    rw[show (!decide (W[n].2.2.2.map PyProof.Rows.lo1∈ws))=true from hq0];refine bw ⟨_,rfl,rfl,W[n].2.2.2,rfl,rfl,by omega,Nm,qS _ ?_ _ (s1.trans sm)⟩;unfold jg;rw[hW,if_neg (λz=>by rw[z]at uJ;exact absurd uJ (Nat.not_lt_zero _)),Bp uJ hfr hq0];rfl
   | false=>
    rw[show (!decide (W[n].2.2.2.map PyProof.Rows.lo1∈ws))=false from hq0];refine aU ⟨_,_,_,_,rfl,sm,λx hx=>?_⟩;rw[List.take_add_one,List.getElem?_eq_getElem uJ]at hx;rcases List.mem_append.mp hx with z | z
    ·exact hfr x z
    ·rw[List.mem_singleton.mp z];exact hq0
  ·rintro σ H2 ⟨v4,v5,v6,v7,rfl,sm,hfr⟩
   rw[List.length_map,qy,List.take_length]at hfr;refine⟨_,rfl,by show 0<=sizeLine;decide,λZ hZ=>?_⟩;have sZ:Same H2 (upd H2 Z (HO.tup [])):=Same.upd hZ;have eZ:upd H2 Z (HO.tup []) Z=some (.tup []):=ao;have hT2:=sZ _ _ (sm _ _ hT1);have M5:=(zT.mv sm).mv sZ;have iQ:=(s1.trans sm).trans sZ;generalize upd H2 Z (HO.tup [])=H3 at sZ eZ hT2 M5 iQ ⊢;refine⟨2,.tup (W.map dQ),.tup [],by decide,.tup (aK.of hT2) (cY.ofQ M5 hlt),.tup (aK.of eZ) .nil,_,rfl,?_⟩;cases Gd:W with
   | nil=>
    simp only[List.map_nil,decide_true];obtain⟨g0,e0⟩:=eO (hL.mv iQ) h0;have hh:fW ts=ts[0]:=jN h0;have hs0:=(hin _ (List.getElem_mem h0)).2.2;refine bw ⟨_,rfl,t,_,_,.ref as[0],rfl,rfl,aK.of (iQ _ _ ht),aF (j:=0) (by simp[g0]),as[0],_,_,_,rfl,rfl,aK.of e0,aF (j:=2) rfl,rfl,[ts[0].2.2],rfl,rfl,by show 1<=1000;decide,λd hd=>by rw[List.mem_singleton.mp hd];exact hs0.lt,qS _ ?_ _ iQ⟩;unfold jg;rw[if_pos (hW.trans Gd),hh]
   | cons q0 Wr=>
    have hne:¬(Dt.tup (W.map dQ)=Dt.tup []):=λz=>by rw[Gd]at z;injection z with z;cases z
    rw[<- Gd,decide_eq_false hne];refine aU (q ?_ _ iQ);unfold jg;rw[if_neg (by rw[hW,Gd];simp),hW,Bq hfr];rfl
theorem Np:∀cs:List Nat,wg ((cs.map cM).map λc=>[c]) cs=.inr []
 | []=>rfl
 | c::cs=>by
  show (if [cM c]∈[cM c]::(cs.map cM).map (λc=>[c]) then wg (([cM c]::(cs.map cM).map λc=>[c]).erase [cM c]) cs else _)=_;rw[if_pos List.mem_cons_self,List.erase_cons_head];exact Np cs
def QX:Sp:=λvs H Q _=>∃(t:Addr) (as:List Addr) (ts:List bx) (r w:Nat),vs=[.ref t]/\H t=some (.tup (as.map V.ref))/\cO H as ts/\(∀t∈ts,inB r w t)/\ts.length<=7/\∀H',Same H H'->Q (.str (S ((ts.map (·.2.2)).map cM))) H'
theorem YW (D:aG K mg "_law_tiles" Bl ["_law_laying"]):Def P w K mg base "_law_tiles" 1 ["_law_laying"] QX:=by
 refine D.cU CQ (λvs H Q E h=>?_) (λf cdv A outer s H vs Q E hr h=>?_)
 ·obtain⟨t,as,ts,r,w,rfl,_⟩:=h
  rfl
 ·obtain⟨t,as,ts,r,w,rfl,ht,hL,hin,h7,q⟩:=h
  have hal:=hL.len;refine⟨_,(au (Bg (ix:=1) (ns:=["_law_row","_law_column","_law_sign_here"]) CQ.nd rfl (Or.inl rfl) rfl (d_.of ["_law_laying","_law_signs"] [] (by kernel_rfl)) (dz (qv 0)) (λ_ _ _ _ _=>(jR K rfl (show (["_law_row","_law_column","_law_sign_here","_law_laying","_law_signs"]:List Str).Nodup by decide +kernel) rfl rfl rfl (by rfl) (by rfl) (by rfl))) (λ_ _ _ _ _=>cH) (λ_ _ _ _ _=>(qv 2))) (aA (aQ (fK PySem.F.plainAttrs_str PySem.F.slot_str_join PySem.F.type_str_join rO (bN [] (by decide +kernel)) (aj (iU rfl (gW.of CQ.nd (by kernel_rfl)) (fY (qv 1)) (λ_ _ _ _ _=>cH) (λ_ _ _ _ _=>(mG (bh pZ (qv 0) (Qg K PySem.F.plainAttrs_str PySem.F.slot_str_lower PySem.F.type_str_lower j_ (qv 0)) (aY _)) (qv 0) (bN [63] (by decide +kernel))))) ak))))),?_⟩;refine⟨_,rfl,t,rfl,⟨_,aK.of ht⟩,λM hM=>gj (K:=K) (KT:=K) (a:=t) (f:=dR [] 0) (tt:=gq) (xs:=as.map V.ref) (λn ys H2=>ys=Ts (ones ((ts.take n).map (·.2.2)))/\H2 M=some (.lst ys)/\Same H H2)
   ⟨rfl,ao,Same.upd hM⟩ (λn ys H2 _ h=>aK.of (h.2.2 _ _ ht)) ?_ ?_⟩
  ·rintro n x ys H2 hx ⟨rfl,je,sm⟩
   have hn:n < as.length:=by have:=(List.getElem?_eq_some_iff.mp hx).1;simpa using this
   have hnt:n < ts.length:=by omega
   rw[List.getElem?_map,List.getElem?_eq_getElem hn]at hx;have hx:V.ref as[n]=x:=Option.some.inj hx;obtain⟨_,en⟩:=eO (hL.mv sm) hnt;refine qU hx.symm (aK.of en) ?_;refine⟨_,rfl,je,?_,dh.mk (by rw[List.length_map];exact hn) ⟨?_,ao,sm.bK hM⟩⟩
   ·rw[List.length_map,List.length_map,List.length_map,List.length_take];exact aD (by omega)
   ·rw[take_snoc (List.getElem?_eq_getElem hnt)]
    simp[Ts,ones]
  ·rintro ys H2 ⟨rfl,je,sm⟩
   rw[List.length_map,hal,List.take_length]at je;generalize hcs:ts.map (·.2.2)=cs at je q;have hcl:cs.length<=7:=by rw[<- hcs,List.length_map];exact h7
   have hsg:∀c∈cs,lV c:=λc hc=>by
    rw[<- hcs]at hc;obtain⟨u,hu,rfl⟩:=List.mem_map.mp hc;exact(hin u hu).2.2
   refine⟨rfl,_,rfl,M,rfl,⟨_,aN.of je⟩,λN hN=>I_ (xs:=Ts (ones cs)) (λi ys H3=>ys=Ts (ones ((cs.take i).map cM))/\H3 N=some (.lst ys)/\Same H2 H3) ⟨rfl,ao,Same.upd hN⟩ (λi ys H3 _ h=>aN.of (h.2.2 _ _ je)) ?_ ?_⟩
   ·rintro i x ys H3 hi ⟨rfl,jf,sm3⟩
    obtain⟨l,hl,rfl⟩:=sY hi;rw[List.getElem?_map]at hl;obtain⟨c,hc,rfl⟩:=Option.map_eq_some_iff.mp hl;have hil:i < (Ts (ones cs)).length:=(List.getElem?_eq_some_iff.mp hi).1;have hcg:=hsg c (List.mem_of_getElem? hc);obtain⟨k1,k2⟩:=abt (M7 hcg);have fin:H3 N=some (.lst (Ts (ones ((cs.take i).map cM))))/\(Ts (ones ((cs.take i).map cM))).length < sizeLine/\dh (Ts (ones cs)).length i (Ts (ones ((cs.take i).map cM))++[V.str (S [cM c])]=Ts (ones ((cs.take (i+1)).map cM))/\upd H3 N (.lst (Ts (ones ((cs.take i).map cM))++[V.str (S [cM c])])) N=some (.lst (Ts (ones ((cs.take i).map cM))++[V.str (S [cM c])]))/\Same H2 (upd H3 N (.lst (Ts (ones ((cs.take i).map cM))++[V.str (S [cM c])])))):=by
     refine⟨jf,?_,dh.mk hil ⟨?_,ao,sm3.bK hN⟩⟩
     ·rw[List.length_map,List.length_map,List.length_map,List.length_take];exact aD (by omega)
     ·rw[take_snoc hc];simp[Ts,ones]
    refine⟨_,rfl,_,rfl,rfl,[c],rfl,rfl,by show 1<=1000;decide,λd hd=>by rw[List.mem_singleton.mp hd];exact hcg.lt,[c],_,rfl,rfl,_,rfl,?_⟩;by_cases e:[c]=[c].map PyProof.Rows.lo1
    ·rw[decide_eq_true e]
     refine bw ⟨_,rfl,?_⟩;rw[k1 e.symm]at fin;exact fin
    ·rw[decide_eq_false e]
     refine aU ?_;rw[k2 λy=>e y.symm]at fin;exact fin
   ·rintro ys H3 ⟨rfl,jf,sm3⟩
    have e:cs.take (Ts (ones cs)).length=cs:=by rw[List.length_map,List.length_map,List.take_length]
    rw[e]at jf;refine⟨N,ones (cs.map cM),rfl,rfl,aN.of jf,by rw[pQ,List.length_map];omega,?_⟩;rw[pQ];exact q H3 (sm.trans sm3)
end
end My
end
section
namespace My
open PySem L2
section
variable {P:Program}{w:World}{K:PySem.W.Frag}{mg:Str->Option Value}{base:Heap}
theorem QZ {α β:Type}(f:α->β):∀(l:List α) (j:Nat),(l.map f).eraseIdx j=(l.eraseIdx j).map f
 | [],_=>rfl
 | _::_,0=>rfl
 | a::l,j+1=>congrArg (f a :: ·) (QZ f l j)
def Q0:Sp:=λvs H Q _=>∃(pr t:Addr) (c:Int) (ls:List Nat) (rows:List (List Nat)) (r w:Nat) (as:List Addr) (ts:List bx),vs=[.ref pr,.ref t,.int c,.str (S ls)]/\Lp ls/\H pr=some (.tup (Ts rows))/\Blk r w rows/\r<=9/\w<=9/\(∀l∈rows,∀c∈l,n8 c)/\H t=some (.tup (as.map V.ref))/\cO H as ts/\(∀t∈ts,inB r w t)/\0 < ts.length/\ts.length<=7/\
 ∀(p:Addr) (ws:List (List Nat)) (H':Hp),Same H H'->H' p=some (.lst (Ts ws))->(∀w∈ws,lK w)->ws.length<=20->Q (.ref p) H'
theorem Pg {rows:List (List Nat)}{ts:List bx}(h:ts.length<=7):(gZ rows ts).length<=8:=by
 refine Nat.le_trans (List.length_filter_le _ _) ?_;rw[List.length_map];unfold oY;rw[List.length_append,List.length_map,List.length_map,List.length_take];omega
theorem lK.lt {l:List Nat}(h:lK l):∀c∈l,c < 128:=λc hc=>by have:=(h.az c hc).2;omega
open Classical in
theorem YX (D:aG K mg "_law_known" Bm ["_law_rows_here","_law_laying","_law_cell","_law_letters_here"])(aX:mg "len"=none)(cI:mg "range"=none)(Hv:Def P w K mg base "_law_words" 2 ["_law_rows_here","_law_laying"] Df):Def P w K mg base "_law_known" 3 ["_law_rows_here","_law_laying","_law_cell","_law_letters_here"] Q0:=by
 refine D.cU mK (λvs H Q E h=>?_) (λf cdv A outer s H vs Q E hr h=>?_)
 ·obtain⟨pr,t,c,ls,rows,r,w,as,ts,rfl,_⟩:=h
  rfl
 ·obtain⟨pr,t,c,ls,rows,r,w,as,ts,rfl,hA,hpr,hb,r9,w9,qD,ht,hL,hin,h0,h7,q⟩:=h
  have hb':=iM hb hin;have hp':=oX hb hin qD;have hsg:=xH hb' hp' hin;have Jz:=u9 hb' r9 w9 hin;have Nq:=Dn hb' hp' r9 w9 hin;have hwl:=Pg (rows:=rows) h7;have hl2:=hA.lo;have afk:=hA.hi;have Mp:ls.length<=sizeLine:=Nat.le_of_lt (aD (by omega));refine⟨_,(au (aM (i:=4) mK.nd rfl (Or.inl rfl) (eG ak)) (au (dF PassesOwn.never rfl (dz (bA Hv (hr.mono (by decide)) rfl (aj (qv 0) (aj (qv 1) ak)))) (lQ rfl (bT (bI (i:=5) mK.nd rfl (Or.inl rfl)) (bT (bI (i:=6) mK.nd rfl (Or.inl rfl)) (bT (bI (i:=7) mK.nd rfl (Or.inl rfl)) (bT (bI (i:=8) mK.nd rfl (Or.inl rfl)) jQ))))) (aA (iG (bO (bh sy (j9 PySem.F.plainAttrs_str PySem.F.slot_str_lower PySem.F.type_str_lower j_ (qv 8)) (qv 4) rfl) (aA (cX (fK PySem.F.plainAttrs_list PySem.F.slot_list_append PySem.F.type_list_append gn (qv 4) (aj (j9 PySem.F.plainAttrs_str PySem.F.slot_str_lower PySem.F.type_str_lower j_ (qv 8)) ak)))) bD)))) (au (dF PassesOwn.never rfl (jD (by rfl) cI (aj (aH cL (qv 2) aq) ak)) (bI (i:=9) mK.nd rfl (Or.inl rfl)) (aA (iG (bO (bh (KQ hr.units) (qv 4) (eG ak) (aY _)) (aA (cX (fK PySem.F.plainAttrs_list PySem.F.slot_list_pop PySem.F.type_list_pop XC (qv 4) (aj (aH cL (aH dJ (qv 2) aq) (aJ bL (by rfl) aX PySem.boot_len (aj (qv 4) ak))) ak)))) bD)))) (aA (aQ (aH Er (qv 4) (eG (aj (aH lu (aL ni (qv 3) aq (λ_ _=>rfl)) (aL ni (qv 3) aq (λ_ _=>rfl))) (aj (aH GD (aL ni (qv 3) aq (λ_ _=>rfl)) aq) ak))))))))),?_⟩;refine⟨by show 0<=sizeLine;decide,λL hL0=>?_⟩;have k1:Same H (upd H L (HO.lst [])):=Same.upd hL0;have e1:upd H L (HO.lst []) L=some (.lst (Ts [])):=ao;generalize upd H L (HO.lst [])=H1 at k1 e1 ⊢;refine⟨_,rfl,_,rfl,pr,t,as,ts,r,w,rows,rfl,k1 _ _ hpr,hb,r9,w9,k1 _ _ ht,hL.mv k1,hin,h0,h7,λT1 b1 H2 s2 hT1 zT=>?_⟩;generalize hW:gZ rows ts=W at hsg Jz hwl Nq zT;have qy:=zT.len;refine⟨T1,rfl,⟨_,aK.of hT1⟩,mU (K:=K) (a:=T1) (xs:=b1.map V.ref) (λn σ H'=>∃(v5 v6 v7 v8:Option V) (us:List (List Nat)),σ=[some (.ref pr),some (.ref t),some (.int c),some (.str (S ls)),some (.ref L),v5,v6,v7,v8,none]/\Same H H'/\H' T1=some (.tup (b1.map V.ref))/\QL H' b1 W/\H' L=some (.lst (Ts us))/\(∀u∈us,lK u)/\us.length<=n)
   ⟨none,none,none,none,[],rfl,k1.trans s2,hT1,zT,s2 _ _ e1,λu hu=>by simp at hu,Nat.le_refl _⟩ (λn σ H' _ h=>by obtain⟨_,_,_,_,_,_,_,e,_⟩:=h;exact aK.of e) ?_ ?_⟩
  ·rintro n x σ H' hx ⟨v5,v6,v7,v8,us,rfl,sm,hT',hQ',hL',Ck,QJ⟩
   have hn:n < b1.length:=by have:=(List.getElem?_eq_some_iff.mp hx).1;simpa using this
   have uJ:n < W.length:=by omega
   rw[List.getElem?_map,List.getElem?_eq_getElem hn]at hx;have hx:V.ref b1[n]=x:=Option.some.inj hx;subst hx;have en:=hQ'.at_ n _ _ (List.getElem?_eq_getElem hn) (List.getElem?_eq_getElem uJ);have hm:=List.getElem_mem uJ;have adF:=Jz _ hm;have Nm:∀c∈W[n].2.2.2,c < 128:=λc hc=>(hsg _ hm c hc).lt;refine⟨b1[n],_,rfl,aK.of en,rfl,_,_,rfl,_,_,rfl,_,_,rfl,_,_,rfl,rfl,?_⟩;refine⟨λσ' n_=>∃(v5 v6 v7 v8:Option V) (us:List (List Nat)),σ'=[some (.ref pr),some (.ref t),some (.int c),some (.str (S ls)),some (.ref L),v5,v6,v7,v8,none]/\Same H n_/\n_ T1=some (.tup (b1.map V.ref))/\QL n_ b1 W/\n_ L=some (.lst (Ts us))/\(∀u∈us,lK u)/\us.length<=n+1,?_,λσ' n_ h=>h⟩;refine⟨_,rfl,rfl,W[n].2.2.2,rfl,rfl,by omega,Nm,_,rfl,L,Ts us,rfl,.inl (aN.of hL'),rfl,Hl us,_,rfl,?_⟩;refine jV (λ_=>?_) (λ_=>⟨_,_,_,_,us,rfl,sm,hT',hQ',hL',Ck,by omega⟩);refine⟨_,rfl,.inl ⟨rfl,_,aN.of hL'⟩,_,rfl,rfl,W[n].2.2.2,rfl,rfl,by omega,Nm,L,_,_,rfl,rfl,hL',by rw[List.length_map];exact aD (by omega),?_⟩;refine⟨_,_,_,_,us++[zR W[n]],rfl,sm.bK hL0,kI hL' _ _ hT',hQ'.jo (kI hL'),by rw[ao,oW];rfl,λu hu=>?_,by simp;omega⟩;rcases List.mem_append.mp hu with z | z
   ·exact Ck u z
   ·rw[List.mem_singleton.mp z];exact Nq _ hm
  rintro σ H3 ⟨v5,v6,v7,v8,us,rfl,s3,_,_,hL3,Ck,QJ⟩;rw[List.length_map,qy]at QJ;obtain⟨m,em,Wy⟩:∃m:Nat,c%3=(m:Int)/\m < 3:=⟨(c%3).toNat,by omega,by omega⟩
  refine⟨_,rfl,_,_,rfl,rfl,(by show (0:Int) < 3;decide),_,rfl,by omega,by omega,?_⟩;refine gk (lo:=0) (λn σ H'=>∃(v9:Option V) (us:List (List Nat)),σ=[some (.ref pr),some (.ref t),some (.int c),some (.str (S ls)),some (.ref L),v5,v6,v7,v8,v9]/\Same H H'/\H' L=some (.lst (Ts us))/\(∀u∈us,lK u)/\us.length<=8)
   ⟨_,us,rfl,s3,hL3,Ck,by omega⟩ ?_ ?_
  ·rintro n σ H4 hn ⟨v9,us,rfl,s4,Fw,Ck,QJ⟩
   refine⟨λσ' H'=>∃(v9:Option V) (us:List (List Nat)),σ'=[some (.ref pr),some (.ref t),some (.int c),some (.str (S ls)),some (.ref L),v5,v6,v7,v8,v9]/\Same H H'/\H' L=some (.lst (Ts us))/\(∀u∈us,lK u)/\us.length<=8,?_,λσ' H' h=>h⟩;refine⟨_,rfl,by show 0<=sizeLine;decide,λZ hZ=>?_⟩;have kZ:Same H4 (upd H4 Z (HO.lst [])):=Same.upd hZ;have eZ:upd H4 Z (HO.lst []) Z=some (.lst []):=ao;have Gf:=kZ _ _ Fw;have s5:=s4.trans kZ;generalize upd H4 Z (HO.lst [])=H5 at kZ eZ Gf s5 ⊢;refine⟨2,.lst (us.map Dt.str),.lst [],by decide,.lst (aN.of Gf) (cY.xK λl hl=>(Ck l hl).lt),.lst (aN.of eZ) .nil,_,rfl,?_⟩;simp only[if_true];by_cases hu0:us=[]
   ·subst hu0
    rw[decide_eq_true (show Dt.lst (([]:List (List Nat)).map Dt.str)=Dt.lst [] from rfl)];exact aU ⟨_,[],rfl,s5,Gf,Ck,by decide⟩
   ·rw[decide_eq_false (show ¬Dt.lst (us.map Dt.str)=Dt.lst [] from λz=>by injection z with z;exact hu0 (List.map_eq_nil_iff.mp z))]
    have hup:0 < us.length:=List.length_pos_iff.mpr hu0;have hlu:(Ts us).length=us.length:=List.length_map ..;obtain⟨j,ej,hj⟩:∃j:Nat,c/3%(((Ts us).length:Nat):Int)=(j:Int)/\j < us.length:=by
     have a1:=Int.emod_nonneg (c/3) (show (((Ts us).length:Nat):Int)≠0 by omega);have a2:=Int.emod_lt_of_pos (c/3) (show (0:Int) < (((Ts us).length:Nat):Int) by omega);exact⟨(c/3%(((Ts us).length:Nat):Int)).toNat,by omega,by omega⟩
    refine bw ⟨_,rfl,.inl ⟨rfl,_,aN.of Gf⟩,_,rfl,_,_,rfl,rfl,⟨by decide,by decide⟩,_,rfl,L,_,rfl,.inl (aN.of Gf),_,_,rfl,rfl,(by show (0:Int) < (((Ts us).length:Nat):Int);omega),?_⟩;dsimp only;rw[ej];refine⟨L,_,_,j,.str (S us[j]),rfl,rfl,Gf,by omega,by omega,?_,?_,?_⟩
    ·rw[hlu];exact(PySem.StrLaws.seqIndex_nonneg (by omega) (by omega)).trans (congrArg some (by omega))
    ·exact gG (List.getElem?_eq_getElem hj)
    ·have eE:(Ts us).eraseIdx j=Ts (us.eraseIdx j):=by
      show (us.map λl=>V.str (S l)).eraseIdx j=_;rw[QZ]
     rw[eE];exact⟨_,us.eraseIdx j,rfl,s5.bK hL0,ao,λu hu=>Ck u ((List.eraseIdx_sublist us j).subset hu),by rw[List.length_eraseIdx];split <;> omega⟩
  ·rintro σ H4 ⟨v9,us,rfl,s4,Fw,Ck,QJ⟩
   have l0:0 < ls.length:=by omega
   have l1:1 < ls.length:=by omega
   refine⟨_,rfl,_,rfl,ls,_,ls[0],rfl,rfl,Mp,aF (j:=0) (by simp[l0]),_,rfl,ls,_,ls[1],rfl,rfl,Mp,aF (j:=1) (by simp[l1]),[ls[0]],[ls[1]],rfl,rfl,by show 2<=sizeLine;decide,_,rfl,ls,_,ls[1],rfl,rfl,Mp,aF (j:=1) (by simp[l1]),[ls[1]],3,rfl,rfl,by decide,by decide,by show 1 < 1000;decide,by show 2<=sizeLine;decide,λM hM=>?_⟩;have kM:Same H4 (upd H4 M (HO.lst [.str (S ([ls[0]]++[ls[1]])),.str (S (List.replicate 3 [ls[1]]).flatten)])):=Same.upd hM;have eM:upd H4 M (HO.lst [.str (S ([ls[0]]++[ls[1]])),.str (S (List.replicate 3 [ls[1]]).flatten)]) M=some (.lst (Ts [[ls[0],ls[1]],[ls[1],ls[1],ls[1]]])):=ao;have Gf:=kM _ _ Fw;generalize upd H4 M (HO.lst [.str (S ([ls[0]]++[ls[1]])),.str (S (List.replicate 3 [ls[1]]).flatten)])=H5 at kM eM Gf ⊢;refine⟨L,M,_,_,rfl,rfl,Gf,eM,Nat.le_of_lt (aD (by rw[List.length_map,List.length_map];simp;omega)),λp hp=>?_⟩;have ee:Ts us++Ts [[ls[0],ls[1]],[ls[1],ls[1],ls[1]]]=Ts (us++[[ls[0],ls[1]],[ls[1],ls[1],ls[1]]]):=by simp[Ts]
   rw[ee];have a0:=hA.az _ (List.getElem_mem l0);have a1:=hA.az _ (List.getElem_mem l1);refine q p _ _ ((s4.trans kM).trans (Same.upd hp)) ao (λu hu=>?_) (by simp;omega);rcases List.mem_append.mp hu with z | z
   ·exact Ck u z
   ·rcases List.mem_cons.mp z with z | z
    ·rw[z]
     refine⟨by show 2<=2;decide,by show 2<=9;decide,λc hc=>?_⟩;rcases List.mem_cons.mp hc with y | y
     ·rw[y];exact a0
     ·rw[List.mem_singleton.mp y];exact a1
    ·rw[List.mem_singleton.mp z]
     refine⟨by show 2<=3;decide,by show 3<=9;decide,λc hc=>?_⟩;simp only[List.mem_cons,List.not_mem_nil,or_false,or_self]at hc;rw[hc];exact a1
end
end My
end
section
namespace My
open PySem L2
section
variable {P:Program}{w:World}{K:PySem.W.Frag}{mg:Str->Option Value}{base:Heap}
theorem Nr {a b:List (List Nat)}(p:a.Perm b)(h1:YD a)(h2:YD b):a=b:=
 p.eq_of_pairwise (le:=λx y=>decide (y < x)=false) (λx y _ _ z1 z2=>List.le_antisymm (List.not_lt.mp (of_decide_eq_false z1)) (List.not_lt.mp (of_decide_eq_false z2))) h1 h2
theorem Nt {rows:List (List Nat)}{ts:List bx}{bs ws:List (List Nat)}(h:∀x,x∈bs↔x∈ws):jg rows bs ts=jg rows ws ts:=by
 have e:u_ bs=u_ ws:=funext λq=>by
  unfold u_;rw[decide_eq_decide.mpr (h (zR q))]
 unfold jg;rw[e]
theorem abu {r w:Nat}{rows ws:List (List Nat)}{ts:List bx}(hb:Blk r w (bJ rows ts))(hp:∀l∈bJ rows ts,∀c∈l,n8 c)(r9:r<=9)(w9:w<=9)(hin:∀t∈ts,inB r w t){l:List Nat}(h:jg rows ws ts=some l)(h1:1 < l.length):lK l/\l∉ws:=by
 unfold jg at h
 split at h
 ·have h:=Option.some.inj h
  rw[<- h]at h1;exact absurd h1 (by show ¬1 < 1;decide)
 ·obtain⟨q,hq,rfl⟩:=Option.map_eq_some_iff.mp h
  have hm:=List.mem_of_find?_eq_some hq;have hp2:=List.find?_some hq;refine⟨Dn hb hp r9 w9 hin q hm,?_⟩;unfold u_ at hp2;simpa using hp2
theorem aey {r w:Nat}{rows ws:List (List Nat)}{ts:List bx}(hb:Blk r w (bJ rows ts))(hp:∀l∈bJ rows ts,∀c∈l,n8 c)(r9:r<=9)(w9:w<=9)(hin:∀t∈ts,inB r w t)(h0:0 < ts.length){l:List Nat}(h:jg rows ws ts=some l):l.length<=9/\∀c∈l,c < 128:=by
 unfold jg at h
 split at h
 ·have h:=Option.some.inj h
  have hh:fW ts=ts[0]:=jN h0;rw[<- h,hh];refine⟨by show 1<=9;decide,λc hc=>?_⟩;rw[List.mem_singleton.mp (show c∈[PyProof.Rows.lo1 ts[0].2.2] from hc)];have:=(WD (hin _ (List.getElem_mem h0)).2.2).2;omega
 ·obtain⟨q,hq,rfl⟩:=Option.map_eq_some_iff.mp h
  have hw:=Dn hb hp r9 w9 hin q (List.mem_of_find?_eq_some hq);exact⟨hw.hi,hw.lt⟩
theorem WL {rows:List (List Nat)}{r w bi bj:Nat}{ws:List (List Nat)}{rack:List Nat}{ts:List bx}{x y:Nat}{v:Vd}(h:xM rows r w bi bj ts 9 x y)(g:uK rows r w bi bj ws rack ts v) :
  (∃t,v=.qC t/\wg (rack.map λc=>[c]) (ts.map (·.2.2))=.inl t)\/(∃left,wg (rack.map λc=>[c]) (ts.map (·.2.2))=.inr left/\((∃l,v=.nw l/\jg rows ws ts=some l)\/(v=.ok/\jg rows ws ts=none))):=by
 cases h with
 | ok d1 d2 d3 d4=>
  cases g with
  | ou h=>rw[d1]at h;cases h
  | oA _ h=>rw[d2]at h;cases h
  | gap _ _ h=>exact absurd h.fr (d3 _ _ h.i1 h.i2 h.j1 h.j2)
  | oE _ _ _ h=>rw[d4]at h;cases h
  | qC _ _ _ _ h=>exact .inl ⟨_,rfl,h⟩
  | nw _ _ _ _ h5 h=>obtain⟨left,e⟩:=h5;exact .inr ⟨left,e,.inl ⟨_,rfl,h⟩⟩
  | ok _ _ _ _ h5 h=>obtain⟨left,e⟩:=h5;exact .inr ⟨left,e,.inr ⟨rfl,h⟩⟩
theorem o8 {rows:List (List Nat)}{r w bi bj:Nat}{ws:List (List Nat)}{ts:List bx}{x y:Nat}{v:Vd}(h:xM rows r w bi bj ts 9 x y)(g:uK rows r w bi bj ws ((ts.map (·.2.2)).map cM) ts v):(∃l,v=.nw l/\jg rows ws ts=some l)\/(v=.ok/\jg rows ws ts=none):=by
 rcases WL h g with⟨t,_,e⟩ | ⟨_,_,e⟩
 ·rw[Np]at e;cases e
 ·exact e
def yS.all (c:yS):List Addr:=[c.lay,c.ou,c.oA,c.gap,c.oE,c.qC,c.nw]
structure VdF (K:PySem.W.Frag)(c:yS)(os:List Addr):Prop where
 lay:uL K c.all os c.lay 0
 ou:uL K c.all os c.ou 1
 oA:uL K c.all os c.oA 2
 gap:uL K c.all os c.gap 3
 oE:uL K c.all os c.oE 4
 qC:uL K c.all os c.qC 5
 nw:uL K c.all os c.nw 6
 non:PySem.W.kitOne K (.type "NoneType") (.ref c.lay)=some false
def WM (C:Addr):Sp:=λvs H Q _=>∃(b Lw t pr:Addr) (rows marks ws:List (List Nat)) (r w bi bj x y:Nat) (as:List Addr) (ts:List bx),vs=[.ref b,.ref Lw,.ref t,.ref pr]/\dY C H b r w rows marks bi bj/\H Lw=some (.lst (Ts ws))/\(∀l∈ws,lK l)/\ws.length<=20/\H t=some (.tup (as.map V.ref))/\cO H as ts/\(∀t∈ts,inB r w t)/\0 < ts.length/\ts.length<=7/\mC (ts.map dI)=true/\H pr=some (.tup (Ts rows))/\xM rows r w bi bj ts 9 x y/\
 ∀H',Same H H'->Q (.bl true) H'
open Classical in
theorem abv {C CB g1 f1 f2:Addr}{c:yS}{os:List Addr}{fe1 gH fd2:FuncData}(D:aG K mg "_law_told" Ft ["_law_board","_law_words_here","_law_laying","_law_rows_here"])(aX:mg "len"=none)(rE:mg "str"=none)(aV:mg "isinstance"=none)(VF:VdF K c os)(hnw:PySem.W.hasDictIn K c.nw=true)(nnw:PySem.W.findIn K (.ref c.nw) "word"=some none)
  (wj:oZ K CB) (abw:mg "Book"=some (.ref CB)) (adI:Mk K CB g1) (adJ:cu P w K mg base eV 3 g1 fe1 ["self","words"] (V1 K CB)) (adK:Binds K fe1 ["self","words"] [])
  (tK:Meth K CB "words" f1) (tL:cu P w K mg base eV 1 f1 gH ["self"] (QF CB)) (tM:Binds K gH ["self"] [])
  (J7:Meth K CB "put_in" f2) (J8:cu P w K mg base eV 3 f2 fd2 ["self","word"] (aan CB)) (J9:Binds K fd2 ["self","word"] [])
  (JG:Def P w K mg base "_law_missing" 3 ["_law_rows_here","_law_laying","_law_words_here"] WK) (Q5:Def P w K mg base "_law_tiles" 1 ["_law_laying"] QX)
  (abx:Def P w K mg base "_law_class" 1 ["_law_error"] (QV K c.all os)) (Nu:Def P w K mg base "_law_caught" 16 ["_law_board","_law_book","_law_rack","_law_laying"] (M_ K C CB c)):Def P w K mg base "_law_told" 18 ["_law_board","_law_words_here","_law_laying","_law_rows_here"] (WM C):=by
 refine D.cU oV (λvs H Q E h=>?_) (λf cdv A outer s H vs Q E hr h=>?_)
 ·obtain⟨b,Lw,t,pr,rows,marks,ws,r,w,bi,bj,x,y,as,ts,rfl,_⟩:=h
  rfl
 ·obtain⟨b,Lw,t,pr,rows,marks,ws,r,w,bi,bj,x,y,as,ts,rfl,BA,hLw,Nq,adL,ht,hL,hin,h0,h7,uy,hpr,hdr,q⟩:=h
  have r9:=BA.ok.r9;have w9:=BA.ok.w9;have hb:=BA.ok.br;have qD:=BA.ok.cr;have hb':=iM hb hin;have hp':=oX hb hin qD;have hrl:((ts.map (·.2.2)).map cM).length<=63:=by rw[List.length_map,List.length_map];omega
  refine⟨_,(au (aM (i:=4) oV.nd rfl (Or.inl rfl) (GF adI adJ (hr.mono (by decide)) rfl abw adK .nil jw (aj (qv 1) ak))) (au (aM (i:=5) oV.nd rfl (Or.inl rfl) (wM (qv 4) wj.cl tK tL (hr.mono (by decide)) tM .nil jw)) (au (aM (i:=6) oV.nd rfl (Or.inl rfl) (bA JG (hr.mono (by decide)) rfl (aj (qv 3) (aj (qv 2) (aj (qv 1) ak))))) (au (aM (i:=7) oV.nd rfl (Or.inl rfl) (bA Nu (hr.mono (by decide)) rfl (aj (qv 0) (aj (qv 4) (aj (bA Q5 (hr.mono (by decide)) rfl (aj (qv 2) ak)) (aj (qv 2) ak)))))) (au (bO (bh En (qv 6) sE (aY _)) (aA (aQ (iZ (dB En (qv 7) sE (aY _)) (gY (dB (zm hr.units) (wM (qv 4) wj.cl tK tL (hr.mono (by decide)) tM .nil jw) (qv 5) (aY _)))))) bD) (au (bO (QW.qt (nj (bh pD (bA abx (hr.mono (by decide)) rfl (aj (qv 7) ak)) aq (aY _)) (nj (dG (cP (aJ fj (by rfl) aV PyProof.Rows.boot_isinstance (aj (GQ (qv 7) rfl) (aj (iT (v:=.ty "str") (by rfl) rE PyProof.Rows.boot_str rfl) ak))))) (lR (bh j8 (GQ (qv 7) rfl) (qv 6) (aY _)))))) (aA (aQ gD)) bD) (au (bO (bh Rh (aJ cT (by rfl) aX PySem.boot_len (aj (qv 6) ak)) aq (aY _)) (au (cX (mW (qv 4) wj.cl J7 J8 (hr.mono (by decide)) J9 .nil jw (aj (qv 6) ak))) (au (aM (i:=8) oV.nd rfl (Or.inl rfl) (bA JG (hr.mono (by decide)) rfl (aj (qv 3) (aj (qv 2) (aj (aH Er (qv 1) (eG (aj (qv 6) ak))) ak))))) (au (aM (i:=7) oV.nd rfl (Or.inl rfl) (bA Nu (hr.mono (by decide)) rfl (aj (qv 0) (aj (qv 4) (aj (bA Q5 (hr.mono (by decide)) rfl (aj (qv 2) ak)) (aj (qv 2) ak)))))) (aA (aQ (Rz (iZ (dB En (qv 7) sE (aY _)) (gY (dB En (qv 8) sE (aY _)))) (gY (iZ (dB aaw (qv 7) sE (aY _)) (gY (dB pZ (GQ (qv 7) rfl) (qv 8) (aY _))))))))))) bD) (aA (aQ (dB (zm hr.units) (wM (qv 4) wj.cl tK tL (hr.mono (by decide)) tM .nil jw) (qv 5) (aY _))))))))))),?_⟩;refine⟨_,rfl,λk dk nk ndk nek=>?_⟩;have t4:Same H (upd (upd H dk (HO.own k)) k (HO.ins CB dk [])):=λc o e=>by rw[aP (bR e nk),aP (bR e ndk)];exact e
  refine⟨k,dk,Lw,ws,rfl,ao,.inl (aN.of (t4 _ _ hLw)),Nq,by omega,λd bs H1 hdn BK hbs qy kp=>⟨rfl,?_⟩⟩;have s1:Same H H1:=λc o e=>kp c o (t4 c o e) (bR e nk);have nd0:H d=none:=by
   cases e:H d with
   | none=>rfl
   | some o=>rw[t4 _ _ e]at hdn;cases hdn
  have b64:bs.length < 64:=by omega
  obtain⟨dk1,ek1⟩:=BK.ob;refine⟨_,rfl,k,dk1,_,rfl,ek1,rfl,k,d,bs,rfl,BK,b64,λtk us H2 s2 ntk etk pm rs=>?_⟩;have iQ:=s1.trans s2;have BK2:=BK.mv s2;have uw:∀l∈us,lK l:=λl hl=>Nq l ((hbs l).mp (pm.mem_iff.mp hl));have ends:∀(H':Hp) (Q':VK),Same H2 H'->Q' (.bl true)=Q' (.bl true)->True:=λ_ _ _ _=>True.intro;clear ends;have hmc:jg rows bs ts=jg rows ws ts:=Nt hbs;cases hm:jg rows ws ts with
  | none=>
   refine⟨_,rfl,_,rfl,_,rfl,pr,t,Lw,rows,ws,r,w,as,ts,rfl,iQ _ _ hpr,hb,r9,w9,qD,iQ _ _ ht,hL.mv iQ,hin,h0,h7,iQ _ _ hLw,λl e=>by(rw[hm]at e;cases e),λ_ H3 s3=>?_⟩;have oh:=iQ.trans s3;refine⟨_,rfl,_,rfl,_,rfl,t,as,ts,r,w,rfl,oh _ _ ht,hL.mv oh,hin,h7,λH4 s4=>?_⟩;have m5:=oh.trans s4;have WQ:=BK2.mv (s3.trans s4);refine⟨_,rfl,b,k,d,bs,_,.ref t,r,w,rows,marks,bi,bj,rfl,BA.mv m5,WQ,hrl,.inr ⟨t,as,ts,rfl,m5 _ _ ht,hL.mv m5,hin,h0,h7,uy,λvd cls dd e H5 hv1 hv2 s5 he=>?_,λhv1 H5 s5=>?_⟩⟩
   ·rcases o8 hdr hv1 with⟨l,rfl,e2⟩ | ⟨rfl,_⟩
    ·rw[hmc,hm]at e2;cases e2
    ·exact hv2.elim
   ·have BK5:=WQ.mv s5
    obtain⟨dk5,ek5⟩:=BK5.ob;refine⟨_,rfl,rfl,_,rfl,?_⟩;rw[decide_eq_true (show V.non=V.non from rfl)];refine bw ⟨_,rfl,rfl,_,rfl,?_⟩;rw[decide_eq_true (show V.non=V.non from rfl)];refine bw ⟨_,rfl,k,dk5,_,rfl,ek5,rfl,k,d,bs,rfl,BK5,b64,λt2 us2 H6 s6 nt2 et2 Nv rs2=>?_⟩;have eu:us2=us:=Nr (Nv.trans pm.symm) rs2 rs;subst eu;have Wx:=s3.trans (s4.trans (s5.trans s6));refine⟨_,rfl,2,_,_,by decide,.tup (aK.of et2) (cY.xK λl hl=>(uw l hl).lt),.tup (aK.of (Wx _ _ etk)) (cY.xK λl hl=>(uw l hl).lt),?_⟩;simp only[Bool.false_eq_true,if_false,decide_true];exact q _ (iQ.trans Wx)
  | some l=>
   obtain⟨l9,afl⟩:=aey hb' hp' r9 w9 hin h0 hm;have Mp:l.length<=sizeLine:=Nat.le_of_lt (aD (by omega));refine⟨_,rfl,_,rfl,_,rfl,pr,t,Lw,rows,ws,r,w,as,ts,rfl,iQ _ _ hpr,hb,r9,w9,qD,iQ _ _ ht,hL.mv iQ,hin,h0,h7,iQ _ _ hLw,λl' e H3 s3=>?_,λe=>by(rw[hm]at e;cases e)⟩;obtain rfl:l=l':=by rw[hm]at e;exact Option.some.inj e
   have oh:=iQ.trans s3;refine⟨_,rfl,_,rfl,_,rfl,t,as,ts,r,w,rfl,oh _ _ ht,hL.mv oh,hin,h7,λH4 s4=>?_⟩;have m5:=oh.trans s4;have WQ:=BK2.mv (s3.trans s4);refine⟨_,rfl,b,k,d,bs,_,.ref t,r,w,rows,marks,bi,bj,rfl,BA.mv m5,WQ,hrl,.inr ⟨t,as,ts,rfl,m5 _ _ ht,hL.mv m5,hin,h0,h7,uy,λvd cls dd e5 H5 hv1 hv2 s5 he=>?_,λhv1 H5 s5=>?_⟩⟩
   ·obtain⟨rfl⟩:vd=.nw l:=by
     rcases o8 hdr hv1 with⟨l2,rfl,e2⟩ | ⟨rfl,_⟩
     ·rw[hmc,hm]at e2;rw[Option.some.inj e2]
     ·exact hv2.elim
    obtain⟨rfl,dx,rfl,hdx⟩:=hv2;have BK5:=WQ.mv s5;have Wc:=m5.trans s5;refine⟨_,rfl,rfl,_,rfl,?_⟩;rw[decide_eq_false (show ¬V.str (S l)=V.non from λz=>nomatch z)];refine aU ⟨_,rfl,e5,c.nw,some dx,6,rfl,he,⟨_,hdx⟩,VF.nw,λH6 s6=>⟨rfl,_,rfl,Bd rfl ?_⟩⟩;have he6:=s6 _ _ he;have adM:=s6 _ _ hdx;have BK6:=BK5.mv s6;have s06:=Wc.trans s6;refine⟨_,rfl,e5,c.nw,dx,_,_,rfl,he6,adM,VF.nw.is,hnw,nnw,rfl,_,_,_,true,rfl,.str _,(by kernel_rfl),_,rfl,aU ?_⟩;refine⟨_,rfl,e5,c.nw,dx,_,_,rfl,he6,adM,VF.nw.is,hnw,nnw,rfl,_,rfl,l,l,rfl,rfl,_,rfl,?_⟩;rw[decide_eq_true (show l=l from rfl)];refine aU ⟨_,rfl,l,rfl,Mp,_,_,rfl,rfl,_,rfl,?_⟩;by_cases h1:1 < l.length
    ·rw[decide_eq_true (show (1:Int) < (l.length:Int) by omega)]
     obtain⟨hWl,hnl⟩:=abu hb' hp' r9 w9 hin hm h1;have hnb:l∉bs:=λz=>hnl ((hbs l).mp z);obtain⟨dk6,ek6⟩:=BK6.ob;refine bw ⟨_,rfl,k,dk6,_,rfl,ek6,rfl,_,rfl,k,d,bs,l,rfl,BK6,hWl,hnb,by omega,λH7 BK7 kp7=>?_⟩;have JC:Same H H7:=λa o e=>kp7 a o (s06 a o e) (bR e nd0);refine⟨_,rfl,_,rfl,_,rfl,_,rfl,by show 1<=sizeLine;decide,λM hM=>?_⟩;have kM:Same H7 (upd H7 M (HO.lst [.str (S l)])):=Same.upd hM;have eM:upd H7 M (HO.lst [.str (S l)]) M=some (.lst (Ts [l])):=ao;have BK8:=BK7.mv kM;have s08:=JC.trans kM;generalize upd H7 M (HO.lst [.str (S l)])=H8 at kM eM BK8 s08 ⊢;refine⟨Lw,M,_,_,rfl,rfl,s08 _ _ hLw,eM,Nat.le_of_lt (aD (by rw[List.length_map,List.length_map];simp;omega)),λN hN=>?_⟩;have kN:Same H8 (upd H8 N (HO.lst (Ts ws++Ts [l]))):=Same.upd hN;have eN:upd H8 N (HO.lst (Ts ws++Ts [l])) N=some (.lst (Ts (ws++[l]))):=by rw[ao];simp[Ts]
     have BK9:=BK8.mv kN;have Gg:=s08.trans kN;generalize upd H8 N (HO.lst (Ts ws++Ts [l]))=H9 at kN eN BK9 Gg ⊢;have YZ:jg rows (bs++[l]) ts=jg rows (ws++[l]) ts:=Nt λz=>by rw[List.mem_append,List.mem_append,hbs z]
     cases hm2:jg rows (ws++[l]) ts with
     | none=>
      refine⟨pr,t,N,rows,ws++[l],r,w,as,ts,rfl,Gg _ _ hpr,hb,r9,w9,qD,Gg _ _ ht,hL.mv Gg,hin,h0,h7,eN,λl' e=>by(rw[hm2]at e;cases e),λ_ Ha sa=>?_⟩;have Nx:=Gg.trans sa;refine⟨_,rfl,_,rfl,_,rfl,t,as,ts,r,w,rfl,Nx _ _ ht,hL.mv Nx,hin,h7,λHb sb=>?_⟩;have Gh:=Nx.trans sb;refine⟨_,rfl,b,k,d,bs++[l],_,.ref t,r,w,rows,marks,bi,bj,rfl,BA.mv Gh,BK9.mv (sa.trans sb),hrl,.inr ⟨t,as,ts,rfl,Gh _ _ ht,hL.mv Gh,hin,h0,h7,uy,λvd cls dd e5 Hc hv1 hv2 sc he=>?_,λhv1 Hc sc=>?_⟩⟩
      ·rcases o8 hdr hv1 with⟨l2,rfl,e2⟩ | ⟨rfl,_⟩
       ·rw[YZ,hm2]at e2;cases e2
       ·exact hv2.elim
      ·refine⟨_,rfl,rfl,_,rfl,?_⟩
       rw[decide_eq_true (show V.non=V.non from rfl)];refine bw ⟨_,rfl,rfl,?_⟩;rw[decide_eq_true (show V.non=V.non from rfl)];exact⟨_,rfl,bw (q _ (Gh.trans sc))⟩
     | some l2=>
      refine⟨pr,t,N,rows,ws++[l],r,w,as,ts,rfl,Gg _ _ hpr,hb,r9,w9,qD,Gg _ _ ht,hL.mv Gg,hin,h0,h7,eN,λl' e Ha sa=>?_,λe=>by(rw[hm2]at e;cases e)⟩;obtain rfl:l2=l':=by rw[hm2]at e;exact Option.some.inj e
      have Nx:=Gg.trans sa;refine⟨_,rfl,_,rfl,_,rfl,t,as,ts,r,w,rfl,Nx _ _ ht,hL.mv Nx,hin,h7,λHb sb=>?_⟩;have Gh:=Nx.trans sb;refine⟨_,rfl,b,k,d,bs++[l],_,.ref t,r,w,rows,marks,bi,bj,rfl,BA.mv Gh,BK9.mv (sa.trans sb),hrl,.inr ⟨t,as,ts,rfl,Gh _ _ ht,hL.mv Gh,hin,h0,h7,uy,λvd cls dd e6 Hc hv1 hv2 sc he=>?_,λhv1 Hc sc=>?_⟩⟩
      ·obtain⟨rfl⟩:vd=.nw l2:=by
        rcases o8 hdr hv1 with⟨l3,rfl,e2⟩ | ⟨rfl,_⟩
        ·rw[YZ,hm2]at e2;rw[Option.some.inj e2]
        ·exact hv2.elim
       obtain⟨rfl,dx2,rfl,ae_⟩:=hv2;refine⟨_,rfl,rfl,_,rfl,?_⟩;rw[decide_eq_false (show ¬V.ref e6=V.non from λz=>nomatch z)];refine aU ⟨_,rfl,aU ⟨_,rfl,rfl,_,rfl,?_⟩⟩;rw[decide_eq_false (show ¬V.ref e6=V.non from λz=>nomatch z)];refine bw ⟨_,rfl,e6,c.nw,dx2,_,_,rfl,he,ae_,VF.nw.is,hnw,nnw,rfl,_,rfl,l2,l2,rfl,rfl,?_⟩;rw[decide_eq_true (show l2=l2 from rfl)];exact q _ (Gh.trans sc)
      ·rcases o8 hdr hv1 with⟨l3,z,_⟩ | ⟨_,e2⟩
       ·cases z
       ·rw[YZ,hm2]at e2;cases e2
    ·rw[decide_eq_false (show ¬(1:Int) < (l.length:Int) by omega)]
     obtain⟨dk6,ek6⟩:=BK6.ob;refine aU ⟨_,rfl,k,dk6,_,rfl,ek6,rfl,k,d,bs,rfl,BK6,b64,λt2 us2 H7 s7 nt2 et2 Nv rs2=>?_⟩;have eu:us2=us:=Nr (Nv.trans pm.symm) rs2 rs;subst eu;have s27:=s3.trans (s4.trans (s5.trans (s6.trans s7)));refine⟨_,rfl,2,_,_,by decide,.tup (aK.of et2) (cY.xK λl hl=>(uw l hl).lt),.tup (aK.of (s27 _ _ etk)) (cY.xK λl hl=>(uw l hl).lt),?_⟩;simp only[Bool.false_eq_true,if_false,decide_true];exact q _ (iQ.trans s27)
   ·rcases o8 hdr hv1 with⟨l3,z,_⟩ | ⟨_,e2⟩
    ·cases z
    ·rw[hmc,hm]at e2;cases e2
end
end My
end
section
namespace My
open PySem L2
section
variable {P:Program}{w:World}{K:PySem.W.Frag}{mg:Str->Option Value}{base:Heap}
theorem aby {ts:List bx}{r w:Nat}(w9:w<=9)(hin:∀t∈ts,inB r w t)(h:Kh ts):mC (ts.map dI)=true:=by
 unfold mC;rw[List.all_eq_true];intro p hp;obtain⟨i,hi,e⟩:=List.mem_iff_getElem.mp hp;have hl:=hi;rw[List.length_zip,List.length_drop,List.length_map]at hl;rw[List.getElem_zip,List.getElem_drop,List.getElem_map,List.getElem_map]at e;have h1:i < ts.length:=by omega
 have h2:1+i < ts.length:=by omega
 have w1:=(hin _ (List.getElem_mem h1)).2.1;have w2:=(hin _ (List.getElem_mem h2)).2.1;rw[<- e];refine decide_eq_true ?_;show ts[i].1*1000+ts[i].2.1 < ts[1+i].1*1000+ts[1+i].2.1;rcases h with h | h
 ·have:=List.pairwise_iff_getElem.mp h i (1+i) h1 h2 (by omega)
  omega
 ·have:=List.pairwise_iff_getElem.mp h i (1+i) h1 h2 (by omega)
  omega
theorem abz {ds:List Int}{lo hi:Option Int}{v:V}(h:v∈wG (ds.map V.int) lo hi):∃d:Int,v=.int d:=by
 unfold wG at h;have h2:=List.mem_of_mem_drop (List.mem_of_mem_take h);obtain⟨d,hd,e⟩:=List.mem_map.mp h2;exact⟨d,e.symm⟩
theorem adN {C f g0:Addr}{fd fe0:FuncData}(F:fG K "law" "law" Kg f fd)(aX:mg "len"=none)
  (gJ:gb K C) (C_:mg "Board"=some (.ref C)) (G9:Mk K C g0) (G_:cu P w K mg base eV 5 g0 fe0 ["self","rows","marks","begin"] (G6 C)) (Hf:Binds K fe0 ["self","rows","marks","begin"] [])
  (WR:Def P w K mg base "_law_letters" 1 ["_law_cell"] Vp) (qw:Def P w K mg base "_law_cell_at" 1 ["_law_script","_law_k"] (Lk K)) (adO:Def P w K mg base "_law_rows" 2 ["_law_script","_law_letters_here"] (Qo K)) (abA:Def P w K mg base "_law_marks" 2 ["_law_rows_here","_law_cell"] Ls)
  (qx:Def P w K mg base "_law_draw" 1 ["_law_cell","_law_j"] zG) (S9:Def P w K mg base "_law_straight" 3 ["_law_rows_here","_law_cell","_law_letters_here","_law_many"] Fz)
  (abB:Def P w K mg base "_law_known" 3 ["_law_rows_here","_law_laying","_law_cell","_law_letters_here"] Q0) (Ph:Def P w K mg base "_law_cells_due" 3 ["_law_rows_here","_law_begin","_law_laying"] Wu)
  (adP:Def P w K mg base "_law_told" 18 ["_law_board","_law_words_here","_law_laying","_law_rows_here"] (WM C)):cu P w K mg base eV 20 f fd ["_law_script"] (Ke K):=by
 refine F.cU qp (λvs H Q E h=>?_) (λcdv A outer s H vs Q E hr h=>?_)
 ·obtain⟨a,ns,rfl,_⟩:=h
  rfl
 ·obtain⟨a,ns,rfl,hS,hn,q⟩:=h
  refine⟨_,(au (aM (i:=1) qp.nd rfl (Or.inl rfl) (bA WR (hr.mono (by decide)) rfl (aj (bA qw (hr.mono (by decide)) rfl (aj (qv 0) (aj aq ak))) ak))) (au (aM (i:=2) qp.nd rfl (Or.inl rfl) (bA adO (hr.mono (by decide)) rfl (aj (qv 0) (aj (qv 1) ak)))) (au (aM (i:=3) qp.nd rfl (Or.inl rfl) (GF G9 G_ (hr.mono (by decide)) rfl C_ Hf .nil jw (aj (qv 2) (aj (bA abA (hr.mono (by decide)) rfl (aj (qv 2) (aj (bA qw (hr.mono (by decide)) rfl (aj (qv 0) (aj aq ak))) ak))) (aj (bZ (aj aq (aj aq ak))) ak))))) (au (dF PassesOwn.never rfl (fY (oM PB (qv 0) (oN aq) (oN aq))) (bI (i:=4) qp.nd rfl (Or.inl rfl)) (au (aM (i:=5) qp.nd rfl (Or.inl rfl) (bA S9 (hr.mono (by decide)) rfl (aj (qv 2) (aj (bA qx (hr.mono (by decide)) rfl (aj (qv 4) (aj aq ak))) (aj (qv 1) (aj (aH b_ aq (aH cL (qv 4) aq)) ak)))))) (au (aM (i:=6) qp.nd rfl (Or.inl rfl) (aJ bL (by rfl) aX PySem.boot_len (aj (dZ (ns:=["_law_row","_law_column","_law_sign_here"]) rfl (d_.of ["_law_script","_law_letters_here","_law_rows_here","_law_board","_law_cell","_law_laying","_law_blanks","_law_words_here"] [] (by kernel_rfl)) (dz (qv 5)) (λ_ _ _ _ _=>(jR K rfl (show (["_law_row","_law_column","_law_sign_here","_law_script","_law_letters_here","_law_rows_here","_law_board","_law_cell","_law_laying","_law_blanks","_law_words_here"]:List Str).Nodup by decide +kernel) rfl rfl rfl (by rfl) (by rfl) (by rfl))) (λ_ _ _ _ _=>(vO (bh j8 (qv 2) (Qg K PySem.F.plainAttrs_str PySem.F.slot_str_lower PySem.F.type_str_lower j_ (qv 2)) (aY _)))) (λ_ _ _ _ _=>aq)) ak))) (au (aM (i:=7) qp.nd rfl (Or.inl rfl) (bA abB (hr.mono (by decide)) rfl (aj (qv 2) (aj (qv 5) (aj (bA qx (hr.mono (by decide)) rfl (aj (qv 4) (aj aq ak))) (aj (qv 1) ak)))))) (aA (iG (bO (QW.qt (iY (bh jt (qv 6) aq (aY _)) (lB (bh jr (aL aW (bA Ph (hr.mono (by decide)) rfl (aj (qv 2) (aj (bZ (aj aq (aj aq ak))) (aj (qv 5) ak)))) aq (λ_ _=>rfl)) aq (aY _))))) (aA (bO (dG (cP (bA adP (hr.mono (by decide)) rfl (aj (qv 3) (aj (qv 7) (aj (qv 5) (aj (qv 2) ak))))))) (aA (aQ gD)) bD)) bD))))))) (aA (aQ gD)))))),?_⟩;refine⟨_,rfl,a,ns,0,rfl,hS,λc0=>⟨c0,rfl,λls H1 s1 hA=>?_⟩⟩;refine⟨_,rfl,_,rfl,a,ns,ls,rfl,s1.seq hS,hA,λpr rows r w H2 s2 hpr hb r1 r9 w1 w9 qD hfree=>?_⟩;have sH2:=s1.trans s2;refine⟨_,rfl,_,rfl,_,rfl,a,ns,2,rfl,sH2.seq hS,λc2=>⟨pr,rows,r,w,c2,rfl,hpr,hb,r1,r9,w9,λpm marks H3 s3 hpm hbm hmk=>?_⟩⟩;refine⟨by show 2<=sizeLine;decide,λpb hpb=>?_⟩;have kb:Same H3 (upd H3 pb (HO.tup [V.int 0,V.int 0])):=Same.upd hpb;have Y4:upd H3 pb (HO.tup [V.int 0,V.int 0]) pb=some (.tup [.int ((0:Nat):Int),.int ((0:Nat):Int)]):=ao;have Y5:=kb _ _ (s3 _ _ hpr);have Y6:=kb _ _ hpm;have sH4:=(sH2.trans s3).trans kb;generalize upd H3 pb (HO.tup [V.int 0,V.int 0])=H4 at kb Y4 Y5 Y6 sH4 ⊢;have B:Qj r w rows marks 0 0:=⟨r1,r9,w1,w9,hb,hbm,qD,hmk,r1,w1⟩
  intro b dx nx ndx sS;have t2:Same H4 (upd (upd H4 dx (HO.own b)) b (HO.ins C dx [])):=λc o e=>by rw[aP (bR e nx),aP (bR e ndx)];exact e
  refine⟨b,dx,pr,pm,pb,r,w,rows,marks,0,0,rfl,ao,t2 _ _ Y5,t2 _ _ Y6,t2 _ _ Y4,B,λH5 kp hx5=>⟨rfl,?_⟩⟩;have t3:Same H4 H5:=λc o e=>kp c o (t2 c o e) (bR e nx);have Ny:=t3 _ _ Y5;have BA:dY C H5 b r w rows marks 0 0:=⟨⟨dx,pr,pm,pb,hx5,Ny,t3 _ _ Y6,t3 _ _ Y4⟩,B⟩
  have sH5:=sH4.trans t3;refine⟨_,rfl,_,rfl,_,rfl,a,_,rfl,sH5.seq hS,λta hta=>?_⟩;generalize hxs:wG (ns.map V.int) (some 3) (some 63)=xs;have kta:Same H5 (upd H5 ta (HO.lst xs)):=Same.upd hta;have Y7:upd H5 ta (HO.lst xs) ta=some (.lst xs):=ao;generalize upd H5 ta (HO.lst xs)=H8 at kta Y7 ⊢;refine⟨ta,rfl,⟨_,aN.of Y7⟩,oJ (K:=K) (a:=ta) (xs:=xs) (λn σ H'=>∃v4 v5 v6 v7:Option V,σ=[some (.ref a),some (.str (S ls)),some (.ref pr),some (.ref b),v4,v5,v6,v7]/\Same H8 H')
   ⟨none,none,none,none,rfl,Same.refl _⟩ (λn σ H' _ h=>by obtain⟨_,_,_,_,_,sm⟩:=h;exact aN.of (sm _ _ Y7)) ?_ ?_⟩
  ·rintro n x σ H9 hx ⟨v4,v5,v6,v7,rfl,s9⟩
   obtain⟨cc,rfl⟩:∃cc:Int,x=.int cc:=by
    have:=List.mem_of_getElem? hx;rw[<- hxs]at this;exact abz this
   obtain⟨m,hm,hm1,hm7⟩:∃m:Nat,1+cc%7=(m:Int)/\1<=m/\m<=7:=⟨(1+cc%7).toNat,by omega,by omega,by omega⟩
   have k9:=kta.trans s9;have afa:=k9 _ _ Ny;refine⟨_,rfl,_,rfl,cc,1,rfl,by decide,λcd=>?_⟩;refine⟨_,rfl,_,rfl,_,_,rfl,rfl,(by show (0:Int) < 7;decide),_,_,rfl,rfl,pr,rows,r,w,cd,ls,m,by show [V.ref pr,V.int cd,V.str (S ls),V.int (1+cc%7)]=_;rw[hm],afa,hb,r1,r9,w1,w9,hfree,hA,hm1,hm7,λt as ts Z1 UL ht hL hin hne h7 hrl=>?_⟩;have h0:0 < ts.length:=List.length_pos_iff.mpr hne;have uy:=aby w9 hin hrl;have hal:=hL.len;refine⟨_,rfl,t,rfl,⟨_,aK.of ht⟩,λN hN=>gj (K:=K) (KT:=K) (a:=t) (f:=dR [] 0) (tt:=wF (n6 XQ (gK 2) (Rq K "str" ac2 (gK 2)))) (te:=tC (V.int 1)) (xs:=as.map V.ref) (λn ys H'=>ys.length<=n/\H' N=some (.lst ys)/\Same Z1 H')
    ⟨Nat.le_refl _,ao,Same.upd hN⟩ (λn ys H' _ h=>aK.of (h.2.2 _ _ ht)) ?_ ?_⟩
   ·rintro n2 x ys H' hx ⟨hyl,hN',sm⟩
    have hn:n2 < as.length:=by have:=(List.getElem?_eq_some_iff.mp hx).1;simpa using this
    have hnt:n2 < ts.length:=by omega
    rw[List.getElem?_map,List.getElem?_eq_getElem hn]at hx;have hx:V.ref as[n2]=x:=Option.some.inj hx;obtain⟨_,en⟩:=eO (hL.mv sm) hnt;have hsg:=(hin _ (List.getElem_mem hnt)).2.2;refine⟨as[n2],_,_,_,hx.symm,aK.of en,?_⟩;refine⟨_,rfl,_,rfl,rfl,[ts[n2].2.2],rfl,rfl,by show 1<=1000;decide,λd hd=>by rw[List.mem_singleton.mp hd];exact hsg.lt,[ts[n2].2.2],_,rfl,rfl,_,rfl,?_⟩;refine jV (λ_=>?_) (λ_=>dh.mk (by rw[List.length_map];exact hn) ⟨by omega,hN',sm⟩);exact⟨hN',aD (by omega),dh.mk (by rw[List.length_map];exact hn) ⟨by rw[List.length_append];simp;omega,ao,sm.bK hN⟩⟩
   rintro ys H11 ⟨hyl,afb,s11⟩;refine⟨N,ys,rfl,.inl (aN.of afb),?_⟩;have k11:=(k9.trans UL).trans s11;refine⟨_,rfl,_,rfl,_,rfl,cc,2,rfl,by decide,λNz=>?_⟩;refine⟨_,rfl,pr,t,Nz,ls,rows,r,w,as,ts,rfl,hA,k11 _ _ Ny,hb,r9,w9,qD,s11 _ _ ht,hL.mv s11,hin,h0,h7,λLw ws Q6 s12 hLw Nq adL=>?_⟩;have k12:=k11.trans s12;have q12:=s11.trans s12;refine⟨λσ' H'=>∃v4 v5 v6 v7:Option V,σ'=[some (.ref a),some (.str (S ls)),some (.ref pr),some (.ref b),v4,v5,v6,v7]/\Same H8 H',?_,λσ' H' h=>h⟩;have fin:∀H',Same Q6 H'->∃v4 v5 v6 v7:Option V,([some (.ref a),some (.str (S ls)),some (.ref pr),some (.ref b),some (.int cc),some (.ref t),some (.int (ys.length:Nat)),some (.ref Lw)]:St)=[some (.ref a),some (.str (S ls)),some (.ref pr),some (.ref b),v4,v5,v6,v7]/\Same H8 H':=λH' sH=>⟨_,_,_,_,rfl,s9.trans (UL.trans (q12.trans sH))⟩
   refine⟨_,rfl,_,_,rfl,rfl,_,rfl,?_⟩;refine jV (λ_=>?_) (λ_=>aU (fin Q6 (Same.refl _)));refine⟨_,rfl,by show 2<=sizeLine;decide,λWT Yz=>?_⟩;have Q7:Same Q6 (upd Q6 WT (HO.tup [V.int 0,V.int 0])):=Same.upd Yz;have ep2:upd Q6 WT (HO.tup [V.int 0,V.int 0]) WT=some (.tup [.int ((0:Nat):Int),.int ((0:Nat):Int)]):=ao;generalize upd Q6 WT (HO.tup [V.int 0,V.int 0])=H13 at Q7 ep2 ⊢;have k13:=k12.trans Q7;have q13:=q12.trans Q7;refine⟨_,rfl,pr,WT,t,rows,r,w,0,0,as,ts,rfl,k13 _ _ Ny,hb,r1,r9,w1,w9,qD,ep2,q13 _ _ ht,hL.mv q13,hin,h0,h7,λT d9 x9 y9 H14 WW hdr hT=>?_⟩;have k14:=k13.trans WW;have q14:=q13.trans WW;refine⟨T,_,_,.int d9,rfl,rfl,aK.of hT,aF (j:=0) rfl,rfl,_,rfl,?_⟩;by_cases h9:d9=9
   ·subst h9
    rw[decide_eq_true (show V.int ((9:Nat):Int)=V.int 9 from rfl)];refine bw ⟨_,rfl,_,rfl,_,rfl,_,rfl,b,Lw,t,pr,rows,marks,ws,r,w,0,0,x9,y9,as,ts,rfl,BA.mv k14,(Q7.trans WW) _ _ hLw,Nq,adL,q14 _ _ ht,hL.mv q14,hin,h0,h7,uy,k14 _ _ Ny,hdr,λH15 s15=>⟨_,rfl,aU ?_⟩⟩;exact fin _ (Q7.trans (WW.trans s15))
   ·rw[decide_eq_false (show ¬V.int (d9:Int)=V.int 9 from λz=>h9 (by injection z with z;omega))]
    exact aU (fin _ (Q7.trans WW))
  ·rintro σ H9 ⟨v4,v5,v6,v7,rfl,s9⟩
   exact q _
end
end My
end
namespace My
open PySem L2
section
variable {P:Program}{w:World}{K:PySem.W.Frag}{mg:Str->Option Value}{base:Heap}
structure xP (K:PySem.W.Frag)(mg:Str->Option Value)(C f0 f1 f2 f3 f4:Addr)(jq gH fd2 wk Q8:FuncData):Prop where
 T:gb K C
 E_:mg "Board"=some (.ref C)
 M:Mk K C f0
 F0:fG K "__init__" "Board.__init__" iI f0 jq
 b0:Binds K jq ["self","rows","marks","begin"] []
 F1:fG K "at" "Board.at" jJ f1 gH
 b1:Binds K gH ["self","row","column"] []
 m1:Meth K C "at" f1
 F2:fG K "is_free" "Board.is_free" fM f2 fd2
 b2:Binds K fd2 ["self"] []
 m2:Meth K C "is_free" f2
 F3:fG K "run" "Board.run" jk f3 wk
 b3:Binds K wk ["self","row","column","way"] []
 m3:Meth K C "run" f3
 F4:fG K "laid" "Board.laid" iJ f4 Q8
 b4:Binds K Q8 ["self","laying"] []
 m4:Meth K C "laid" f4
theorem Y8 {h:Heap}{C f0 f1 f2 f3 f4:Addr}(X:K.In h)(G:h.Ns mainGlobals mg)
  {od0 an0 od1 an1 od2 an2 od3 an3 od4 an4:Option Addr} {sl0 sl1 sl2 K_ sl4:Array (Option Value)} {oc0 kV0 dc0 pm0 WX ct0 oc1 kV1 dc1 pm1 WY ct1 oc2 kV2 dc2 Nv Nz ct2 oc3 kV3 dc3 pm3 W0 ct3 oc4 kV4 dc4 pm4 cd4 ct4:Value}
  (aC:PySem.W.nsIn K mainGlobals "Board"=some (some (.ref C)))
  (a0:PySem.W.findIn K (.ref C) "__init__"=some (some (.ref f0))) (i0:PySem.W.isFn K (.ref f0)=true) (l0:K.lookup f0=some ⟨oc0,od0,.func (PySem.W.fnOf "__init__" "Board.__init__" (dM iI) (cJ iI) (aB iI) .none kV0 dc0 pm0 an0 WX ct0),sl0⟩) (c0:PySem.W.codeIn K WX "Board.__init__"=true) (k0:PySem.W.keepIn K (.ref f0)=true)
  (a1:PySem.W.findIn K (.ref C) "at"=some (some (.ref f1))) (i1:PySem.W.isFn K (.ref f1)=true) (l1:K.lookup f1=some ⟨oc1,od1,.func (PySem.W.fnOf "at" "Board.at" (dM jJ) (cJ jJ) (aB jJ) .none kV1 dc1 pm1 an1 WY ct1),sl1⟩) (c1:PySem.W.codeIn K WY "Board.at"=true) (k1:PySem.W.keepIn K (.ref f1)=true)
  (a2:PySem.W.findIn K (.ref C) "is_free"=some (some (.ref f2))) (i2:PySem.W.isFn K (.ref f2)=true) (l2:K.lookup f2=some ⟨oc2,od2,.func (PySem.W.fnOf "is_free" "Board.is_free" (dM fM) (cJ fM) (aB fM) .none kV2 dc2 Nv an2 Nz ct2),sl2⟩) (c2:PySem.W.codeIn K Nz "Board.is_free"=true) (k2:PySem.W.keepIn K (.ref f2)=true)
  (a3:PySem.W.findIn K (.ref C) "run"=some (some (.ref f3))) (i3:PySem.W.isFn K (.ref f3)=true) (l3:K.lookup f3=some ⟨oc3,od3,.func (PySem.W.fnOf "run" "Board.run" (dM jk) (cJ jk) (aB jk) .none kV3 dc3 pm3 an3 W0 ct3),K_⟩) (c3:PySem.W.codeIn K W0 "Board.run"=true) (k3:PySem.W.keepIn K (.ref f3)=true)
  (a4:PySem.W.findIn K (.ref C) "laid"=some (some (.ref f4))) (i4:PySem.W.isFn K (.ref f4)=true) (l4:K.lookup f4=some ⟨oc4,od4,.func (PySem.W.fnOf "laid" "Board.laid" (dM iJ) (cJ iJ) (aB iJ) .none kV4 dc4 pm4 an4 cd4 ct4),sl4⟩) (c4:PySem.W.codeIn K cd4 "Board.laid"=true) (k4:PySem.W.keepIn K (.ref f4)=true)
  (pg:PySem.W.plainGet K C Str.empty=true) (hd:PySem.W.hasDictIn K C=true) (po:PySem.W.plainOver K C=true) (sa:PySem.W.findIn K (.ref C) "__setattr__"=some (some (.builtin "object.__setattr__"))) (mk:PySem.W.makesIn K C=true) (kc:PySem.W.keepIn K (.ref C)=true) (NK:PySem.W.findIn K (.ref C) "rows"=some none) (nf1:PySem.W.findIn K (.ref C) "marks"=some none) (nf2:PySem.W.findIn K (.ref C) "begin"=some none):∃C f0 f1 f2 f3 f4 jq gH fd2 wk Q8,xP K mg C f0 f1 f2 f3 f4 jq gH fd2 wk Q8:=by
 have F0:=gU (st:=iI) l0 c0 k0;have F1:=gU (st:=jJ) l1 c1 k1;have F2:=gU (st:=fM) l2 c2 k2;have F3:=gU (st:=jk) l3 c3 k3;have F4:=gU (st:=iJ) l4 c4 k4;exact⟨C,f0,f1,f2,f3,f4,_,_,_,_,_,⟨⟨pg,hd,po,sa⟩,NK,nf1,nf2⟩,PySem.W.mg_of X G aC,⟨mk,a0,i0,kc⟩,F0,F0.binds (ps:=["self","rows","marks","begin"]) (λ_ _ _ _ _ _ us hl=>match us,hl with | [_,_,_,_],_=>rfl),F1,F1.binds (ps:=["self","row","column"]) (λ_ _ _ _ _ _ us hl=>match us,hl with | [_,_,_],_=>rfl),⟨a1,i1,k1⟩,F2,F2.binds (ps:=["self"]) (λ_ _ _ _ _ _ us hl=>match us,hl with | [_],_=>rfl),⟨a2,i2,k2⟩,F3,F3.binds (ps:=["self","row","column","way"]) (λ_ _ _ _ _ _ us hl=>match us,hl with | [_,_,_,_],_=>rfl),⟨a3,i3,k3⟩,F4,F4.binds (ps:=["self","laying"]) (λ_ _ _ _ _ _ us hl=>match us,hl with | [_,_],_=>rfl),⟨a4,i4,k4⟩⟩
structure zU (K:PySem.W.Frag)(mg:Str->Option Value)(C f0 f1 f2 f3:Addr)(jq gH fd2 wk:FuncData):Prop where
 T:oZ K C
 E_:mg "Book"=some (.ref C)
 M:Mk K C f0
 F0:fG K "__init__" "Book.__init__" jl f0 jq
 b0:Binds K jq ["self","words"] []
 F1:fG K "has" "Book.has" jL f1 gH
 b1:Binds K gH ["self","text"] []
 m1:Meth K C "has" f1
 F2:fG K "words" "Book.words" iK f2 fd2
 b2:Binds K fd2 ["self"] []
 m2:Meth K C "words" f2
 F3:fG K "put_in" "Book.put_in" gQ f3 wk
 b3:Binds K wk ["self","word"] []
 m3:Meth K C "put_in" f3
theorem abC {h:Heap}{C f0 f1 f2 f3:Addr}(X:K.In h)(G:h.Ns mainGlobals mg)
  {od0 an0 od1 an1 od2 an2 od3 an3:Option Addr} {sl0 sl1 sl2 K_:Array (Option Value)} {oc0 kV0 dc0 pm0 WX ct0 oc1 kV1 dc1 pm1 WY ct1 oc2 kV2 dc2 Nv Nz ct2 oc3 kV3 dc3 pm3 W0 ct3:Value}
  (aC:PySem.W.nsIn K mainGlobals "Book"=some (some (.ref C)))
  (a0:PySem.W.findIn K (.ref C) "__init__"=some (some (.ref f0))) (i0:PySem.W.isFn K (.ref f0)=true) (l0:K.lookup f0=some ⟨oc0,od0,.func (PySem.W.fnOf "__init__" "Book.__init__" (dM jl) (cJ jl) (aB jl) .none kV0 dc0 pm0 an0 WX ct0),sl0⟩) (c0:PySem.W.codeIn K WX "Book.__init__"=true) (k0:PySem.W.keepIn K (.ref f0)=true)
  (a1:PySem.W.findIn K (.ref C) "has"=some (some (.ref f1))) (i1:PySem.W.isFn K (.ref f1)=true) (l1:K.lookup f1=some ⟨oc1,od1,.func (PySem.W.fnOf "has" "Book.has" (dM jL) (cJ jL) (aB jL) .none kV1 dc1 pm1 an1 WY ct1),sl1⟩) (c1:PySem.W.codeIn K WY "Book.has"=true) (k1:PySem.W.keepIn K (.ref f1)=true)
  (a2:PySem.W.findIn K (.ref C) "words"=some (some (.ref f2))) (i2:PySem.W.isFn K (.ref f2)=true) (l2:K.lookup f2=some ⟨oc2,od2,.func (PySem.W.fnOf "words" "Book.words" (dM iK) (cJ iK) (aB iK) .none kV2 dc2 Nv an2 Nz ct2),sl2⟩) (c2:PySem.W.codeIn K Nz "Book.words"=true) (k2:PySem.W.keepIn K (.ref f2)=true)
  (a3:PySem.W.findIn K (.ref C) "put_in"=some (some (.ref f3))) (i3:PySem.W.isFn K (.ref f3)=true) (l3:K.lookup f3=some ⟨oc3,od3,.func (PySem.W.fnOf "put_in" "Book.put_in" (dM gQ) (cJ gQ) (aB gQ) .none kV3 dc3 pm3 an3 W0 ct3),K_⟩) (c3:PySem.W.codeIn K W0 "Book.put_in"=true) (k3:PySem.W.keepIn K (.ref f3)=true)
  (pg:PySem.W.plainGet K C Str.empty=true) (hd:PySem.W.hasDictIn K C=true) (po:PySem.W.plainOver K C=true) (sa:PySem.W.findIn K (.ref C) "__setattr__"=some (some (.builtin "object.__setattr__"))) (mk:PySem.W.makesIn K C=true) (kc:PySem.W.keepIn K (.ref C)=true) (NK:PySem.W.findIn K (.ref C) "held"=some none):∃C f0 f1 f2 f3 jq gH fd2 wk,zU K mg C f0 f1 f2 f3 jq gH fd2 wk:=by
 have F0:=gU (st:=jl) l0 c0 k0;have F1:=gU (st:=jL) l1 c1 k1;have F2:=gU (st:=iK) l2 c2 k2;have F3:=gU (st:=gQ) l3 c3 k3;exact⟨C,f0,f1,f2,f3,_,_,_,_,⟨⟨pg,hd,po,sa⟩,NK⟩,PySem.W.mg_of X G aC,⟨mk,a0,i0,kc⟩,F0,F0.binds (ps:=["self","words"]) (λ_ _ _ _ _ _ us hl=>match us,hl with | [_,_],_=>rfl),F1,F1.binds (ps:=["self","text"]) (λ_ _ _ _ _ _ us hl=>match us,hl with | [_,_],_=>rfl),⟨a1,i1,k1⟩,F2,F2.binds (ps:=["self"]) (λ_ _ _ _ _ _ us hl=>match us,hl with | [_],_=>rfl),⟨a2,i2,k2⟩,F3,F3.binds (ps:=["self","word"]) (λ_ _ _ _ _ _ us hl=>match us,hl with | [_,_],_=>rfl),⟨a3,i3,k3⟩⟩
structure Y9 (K:PySem.W.Frag)(mg:Str->Option Value)(bf bH bF bU bM aZ bC cA bY cB cQ cD dH cF cR CR fQ jx dO eU:Addr)(k_ qF jh jE:FuncData):Prop where
 Gi:mg "NoLaying"=some (.ref bf)
 abD:mg "Taken"=some (.ref bH)
 JH:mg "Crooked"=some (.ref bF)
 aez:mg "Gap"=some (.ref bU)
 Q9:mg "Apart"=some (.ref bM)
 W2:mg "Lacking"=some (.ref aZ)
 Y_:mg "NoWord"=some (.ref bC)
 Za:mg "NoBack"=some (.ref cA)
 W3:mg "NoBoard"=some (.ref bY)
 Zb:mg "NoDeed"=some (.ref cB)
 abE:mg "NoRow"=some (.ref cQ)
 Zc:mg "NoText"=some (.ref cD)
 adQ:mg "Over"=some (.ref dH)
 Zd:mg "TooFew"=some (.ref cF)
 abF:mg "Twice"=some (.ref cR)
 mR:mg "RackError"=some (.ref CR)
 I:InitOf K CR
 nU:PySem.W.excIn K bf h_ "ValueError.__new__"=true
 qG:PySem.W.excIn K bF h_ "ValueError.__new__"=true
 wu:PySem.W.excIn K bM h_ "ValueError.__new__"=true
 Bv:lH K mg "Taken" bH fQ ["row","column"]
 Bw:fG K "__init__" "Taken.__init__" iH fQ k_
 Hi:Binds K k_ ["self","row","column"] []
 Kl:lH K mg "Gap" bU jx ["row","column"]
 Km:fG K "__init__" "Gap.__init__" jH jx qF
 Sq:Binds K qF ["self","row","column"] []
 uM:lH K mg "Lacking" aZ dO ["tile"]
 uN:fG K "__init__" "Lacking.__init__" fZ dO jh
 zP:Binds K jh ["self","tile"] []
 o9:lH K mg "NoWord" bC eU ["word"]
 xQ:fG K "__init__" "NoWord.__init__" gP eU jE
 xJ:Binds K jE ["self","word"] []
 M:VdM K ⟨bf,bH,bF,bU,bM,aZ,bC⟩ CR
 V:VdF K ⟨bf,bH,bF,bU,bM,aZ,bC⟩ [cA,bY,cB,cQ,cD,dH,cF,cR]
theorem o_ {C:Addr}{Cs:List Addr}{j:Nat}(h:(Cs.zipIdx.all λp=>PySem.W.kitOne K (.ref C) (.ref p.1)==some (decide (p.2=j)))=true):∀i D,Cs[i]?=some D->PySem.W.kitOne K (.ref C) (.ref D)=some (decide (i=j)):=λi D e=>
 beq_iff_eq.mp (List.all_eq_true.mp h (D,i) (List.mem_zipIdx_iff_getElem?.mpr e))
theorem abG {h:Heap}{bf bH bF bU bM aZ bC cA bY cB cQ cD dH cF cR CR fQ jx dO eU:Addr}(X:K.In h)(G:h.Ns mainGlobals mg)
  {Ze Zf adR adS S_ Tc W4 W5:Option Addr} {Zg adT Td W6:Array (Option Value)} {Zh Zi Zj Zk NP Zm adU adV adW adX W7 adY Tf Tg Ti Tj Gj Tn W8 W9 W_ Xa JK Xb:Value}
  (xR:PySem.W.nsIn K mainGlobals "NoLaying"=some (some (.ref bf)))
  (Bx:PySem.W.nsIn K mainGlobals "Taken"=some (some (.ref bH)))
  (zV:PySem.W.nsIn K mainGlobals "Crooked"=some (some (.ref bF)))
  (Ko:PySem.W.nsIn K mainGlobals "Gap"=some (some (.ref bU)))
  (Hw:PySem.W.nsIn K mainGlobals "Apart"=some (some (.ref bM)))
  (uO:PySem.W.nsIn K mainGlobals "Lacking"=some (some (.ref aZ)))
  (xT:PySem.W.nsIn K mainGlobals "NoWord"=some (some (.ref bC)))
  (Dp:PySem.W.nsIn K mainGlobals "NoBack"=some (some (.ref cA)))
  (zW:PySem.W.nsIn K mainGlobals "NoBoard"=some (some (.ref bY)))
  (Dq:PySem.W.nsIn K mainGlobals "NoDeed"=some (some (.ref cB)))
  (Hx:PySem.W.nsIn K mainGlobals "NoRow"=some (some (.ref cQ)))
  (Dr:PySem.W.nsIn K mainGlobals "NoText"=some (some (.ref cD)))
  (NQ:PySem.W.nsIn K mainGlobals "Over"=some (some (.ref dH)))
  (Du:PySem.W.nsIn K mainGlobals "TooFew"=some (some (.ref cF)))
  (Hy:PySem.W.nsIn K mainGlobals "Twice"=some (some (.ref cR)))
  (aR:PySem.W.nsIn K mainGlobals "RackError"=some (some (.ref CR)))
  (nU:PySem.W.excIn K bf h_ "ValueError.__new__"=true)
  (qG:PySem.W.excIn K bF h_ "ValueError.__new__"=true)
  (wu:PySem.W.excIn K bM h_ "ValueError.__new__"=true)
  (xU:PySem.W.exmOne K (.ref bf) (.ref CR)=some true)
  (Hz:PySem.W.exmOne K (.ref bH) (.ref CR)=some true)
  (zX:PySem.W.exmOne K (.ref bF) (.ref CR)=some true)
  (Tp:PySem.W.exmOne K (.ref bU) (.ref CR)=some true)
  (HB:PySem.W.exmOne K (.ref bM) (.ref CR)=some true)
  (zY:PySem.W.exmOne K (.ref aZ) (.ref CR)=some true)
  (Dv:PySem.W.exmOne K (.ref bC) (.ref CR)=some true)
  (NT:PySem.W.findIn K (.ref bH) "__init__"=some (some (.ref fQ)))
  (Dw:PySem.W.isFn K (.ref fQ)=true)
  (Dy:K.lookup fQ=some ⟨Zh,Ze,.func (PySem.W.fnOf "__init__" "Taken.__init__" (dM iH) (cJ iH) (aB iH) .none Zi Zj Zk Zf NP Zm),Zg⟩)
  (Dz:PySem.W.codeIn K NP "Taken.__init__"=true)
  (DG:PySem.W.keepIn K (.ref fQ)=true)
  (zZ:t_ K bH fQ=true)
  (DK:PySem.W.keepIn K (.ref bH)=true)
  (DN:((PySem.W.clsIn K bH).any λcd=>cd.hasDict&&oU cd.mro)=true)
  (DP:PySem.W.findIn K (.ref bH) "__setattr__"=some (some (.builtin "object.__setattr__")))
  (DQ:PySem.W.hasDictIn K bH=true)
  (vg:PySem.W.findIn K (.ref bH) "row"=some none)
  (pq:PySem.W.findIn K (.ref bH) "column"=some none)
  (Xc:PySem.W.findIn K (.ref bU) "__init__"=some (some (.ref jx)))
  (NZ:PySem.W.isFn K (.ref jx)=true)
  (N5:K.lookup jx=some ⟨adU,adR,.func (PySem.W.fnOf "__init__" "Gap.__init__" (dM jH) (cJ jH) (aB jH) .none adV adW adX adS W7 adY),adT⟩)
  (N6:PySem.W.codeIn K W7 "Gap.__init__"=true)
  (N7:PySem.W.keepIn K (.ref jx)=true)
  (HD:t_ K bU jx=true)
  (N8:PySem.W.keepIn K (.ref bU)=true)
  (N_:((PySem.W.clsIn K bU).any λcd=>cd.hasDict&&oU cd.mro)=true)
  (Oa:PySem.W.findIn K (.ref bU) "__setattr__"=some (some (.builtin "object.__setattr__")))
  (Ob:PySem.W.hasDictIn K bU=true)
  (z9:PySem.W.findIn K (.ref bU) "row"=some none)
  (tQ:PySem.W.findIn K (.ref bU) "column"=some none)
  (Gk:PySem.W.findIn K (.ref aZ) "__init__"=some (some (.ref dO)))
  (xV:PySem.W.isFn K (.ref dO)=true)
  (xW:K.lookup dO=some ⟨Tf,S_,.func (PySem.W.fnOf "__init__" "Lacking.__init__" (dM fZ) (cJ fZ) (aB fZ) .none Tg Ti Tj Tc Gj Tn),Td⟩)
  (xX:PySem.W.codeIn K Gj "Lacking.__init__"=true)
  (xY:PySem.W.keepIn K (.ref dO)=true)
  (vh:t_ K aZ dO=true)
  (xZ:PySem.W.keepIn K (.ref aZ)=true)
  (yc:((PySem.W.clsIn K aZ).any λcd=>cd.hasDict&&oU cd.mro)=true)
  (yd:PySem.W.findIn K (.ref aZ) "__setattr__"=some (some (.builtin "object.__setattr__")))
  (yg:PySem.W.hasDictIn K aZ=true)
  (pA:PySem.W.findIn K (.ref aZ) "tile"=some none)
  (JL:PySem.W.findIn K (.ref bC) "__init__"=some (some (.ref eU)))
  (z_:PySem.W.isFn K (.ref eU)=true)
  (Aa:K.lookup eU=some ⟨W8,W4,.func (PySem.W.fnOf "__init__" "NoWord.__init__" (dM gP) (cJ gP) (aB gP) .none W9 W_ Xa W5 JK Xb),W6⟩)
  (Ab:PySem.W.codeIn K JK "NoWord.__init__"=true)
  (Ac:PySem.W.keepIn K (.ref eU)=true)
  (yh:t_ K bC eU=true)
  (Ad:PySem.W.keepIn K (.ref bC)=true)
  (Ae:((PySem.W.clsIn K bC).any λcd=>cd.hasDict&&oU cd.mro)=true)
  (Af:PySem.W.findIn K (.ref bC) "__setattr__"=some (some (.builtin "object.__setattr__")))
  (Ag:PySem.W.hasDictIn K bC=true)
  (qJ:PySem.W.findIn K (.ref bC) "word"=some none)
  (hn:PySem.W.specialIn K (.builtin "object.__class__") "__get__"=some (some (.builtin "getset_descriptor.__get__")))
  (ht:PySem.W.takesIn K (.builtin "object.__class__")=some true)
  (vm:(PySem.W.clsIn K bf).isSome=true)
  (vo:PySem.W.findIn K (.ref bf) "__getattribute__"=some (some (.builtin "BaseException.__getattribute__")))
  (vp:PySem.W.findIn K (.ref bf) "__getattr__"=some none)
  (vq:PySem.W.findIn K (.ref bf) "__class__"=some (some (.builtin "object.__class__")))
  (vA:PySem.W.mroIn K bf (.type "object")=some true)
  (vB:PySem.W.mroIn K bf (.type "BaseException")=some true)
  (yj:PySem.W.kitOne K (.ref bf) (.type "ValueError")=some true)
  (yp:(([bf,bH,bF,bU,bM,aZ,bC]:List Addr).zipIdx.all λp=>PySem.W.kitOne K (.ref bf) (.ref p.1)==some (decide (p.2=0)))=true)
  (yq:PySem.W.kitAny K (.ref bf) (([cA,bY,cB,cQ,cD,dH,cF,cR]:List Addr).map Value.ref)=some false)
  (yr:(PySem.W.clsIn K bH).isSome=true)
  (yt:PySem.W.findIn K (.ref bH) "__getattribute__"=some (some (.builtin "BaseException.__getattribute__")))
  (yu:PySem.W.findIn K (.ref bH) "__getattr__"=some none)
  (yw:PySem.W.findIn K (.ref bH) "__class__"=some (some (.builtin "object.__class__")))
  (tR:PySem.W.mroIn K bH (.type "object")=some true)
  (yx:PySem.W.mroIn K bH (.type "BaseException")=some true)
  (HF:PySem.W.kitOne K (.ref bH) (.type "ValueError")=some true)
  (HJ:(([bf,bH,bF,bU,bM,aZ,bC]:List Addr).zipIdx.all λp=>PySem.W.kitOne K (.ref bH) (.ref p.1)==some (decide (p.2=1)))=true)
  (HN:PySem.W.kitAny K (.ref bH) (([cA,bY,cB,cQ,cD,dH,cF,cR]:List Addr).map Value.ref)=some false)
  (yC:(PySem.W.clsIn K bF).isSome=true)
  (yD:PySem.W.findIn K (.ref bF) "__getattribute__"=some (some (.builtin "BaseException.__getattribute__")))
  (yE:PySem.W.findIn K (.ref bF) "__getattr__"=some none)
  (yF:PySem.W.findIn K (.ref bF) "__class__"=some (some (.builtin "object.__class__")))
  (yG:PySem.W.mroIn K bF (.type "object")=some true)
  (yH:PySem.W.mroIn K bF (.type "BaseException")=some true)
  (Ah:PySem.W.kitOne K (.ref bF) (.type "ValueError")=some true)
  (Ai:(([bf,bH,bF,bU,bM,aZ,bC]:List Addr).zipIdx.all λp=>PySem.W.kitOne K (.ref bF) (.ref p.1)==some (decide (p.2=2)))=true)
  (Aj:PySem.W.kitAny K (.ref bF) (([cA,bY,cB,cQ,cD,dH,cF,cR]:List Addr).map Value.ref)=some false)
  (Gm:(PySem.W.clsIn K bU).isSome=true)
  (Gn:PySem.W.findIn K (.ref bU) "__getattribute__"=some (some (.builtin "BaseException.__getattribute__")))
  (Gp:PySem.W.findIn K (.ref bU) "__getattr__"=some none)
  (Gq:PySem.W.findIn K (.ref bU) "__class__"=some (some (.builtin "object.__class__")))
  (Ak:PySem.W.mroIn K bU (.type "object")=some true)
  (Gr:PySem.W.mroIn K bU (.type "BaseException")=some true)
  (Tq:PySem.W.kitOne K (.ref bU) (.type "ValueError")=some true)
  (Tr:(([bf,bH,bF,bU,bM,aZ,bC]:List Addr).zipIdx.all λp=>PySem.W.kitOne K (.ref bU) (.ref p.1)==some (decide (p.2=3)))=true)
  (Tt:PySem.W.kitAny K (.ref bU) (([cA,bY,cB,cQ,cD,dH,cF,cR]:List Addr).map Value.ref)=some false)
  (DR:(PySem.W.clsIn K bM).isSome=true)
  (DW:PySem.W.findIn K (.ref bM) "__getattribute__"=some (some (.builtin "BaseException.__getattribute__")))
  (DX:PySem.W.findIn K (.ref bM) "__getattr__"=some none)
  (DY:PySem.W.findIn K (.ref bM) "__class__"=some (some (.builtin "object.__class__")))
  (D_:PySem.W.mroIn K bM (.type "object")=some true)
  (Ea:PySem.W.mroIn K bM (.type "BaseException")=some true)
  (HS:PySem.W.kitOne K (.ref bM) (.type "ValueError")=some true)
  (HW:(([bf,bH,bF,bU,bM,aZ,bC]:List Addr).zipIdx.all λp=>PySem.W.kitOne K (.ref bM) (.ref p.1)==some (decide (p.2=4)))=true)
  (HX:PySem.W.kitAny K (.ref bM) (([cA,bY,cB,cQ,cD,dH,cF,cR]:List Addr).map Value.ref)=some false)
  (rG:(PySem.W.clsIn K aZ).isSome=true)
  (rH:PySem.W.findIn K (.ref aZ) "__getattribute__"=some (some (.builtin "BaseException.__getattribute__")))
  (rJ:PySem.W.findIn K (.ref aZ) "__getattr__"=some none)
  (rK:PySem.W.findIn K (.ref aZ) "__class__"=some (some (.builtin "object.__class__")))
  (nW:PySem.W.mroIn K aZ (.type "object")=some true)
  (rM:PySem.W.mroIn K aZ (.type "BaseException")=some true)
  (Al:PySem.W.kitOne K (.ref aZ) (.type "ValueError")=some true)
  (Am:(([bf,bH,bF,bU,bM,aZ,bC]:List Addr).zipIdx.all λp=>PySem.W.kitOne K (.ref aZ) (.ref p.1)==some (decide (p.2=5)))=true)
  (Ao:PySem.W.kitAny K (.ref aZ) (([cA,bY,cB,cQ,cD,dH,cF,cR]:List Addr).map Value.ref)=some false)
  (uP:(PySem.W.clsIn K bC).isSome=true)
  (uQ:PySem.W.findIn K (.ref bC) "__getattribute__"=some (some (.builtin "BaseException.__getattribute__")))
  (uR:PySem.W.findIn K (.ref bC) "__getattr__"=some none)
  (uT:PySem.W.findIn K (.ref bC) "__class__"=some (some (.builtin "object.__class__")))
  (qH:PySem.W.mroIn K bC (.type "object")=some true)
  (uU:PySem.W.mroIn K bC (.type "BaseException")=some true)
  (Eb:PySem.W.kitOne K (.ref bC) (.type "ValueError")=some true)
  (Ec:(([bf,bH,bF,bU,bM,aZ,bC]:List Addr).zipIdx.all λp=>PySem.W.kitOne K (.ref bC) (.ref p.1)==some (decide (p.2=6)))=true)
  (Ed:PySem.W.kitAny K (.ref bC) (([cA,bY,cB,cQ,cD,dH,cF,cR]:List Addr).map Value.ref)=some false)
  (nn:PySem.W.kitOne K (.type "NoneType") (.ref bf)=some false)
  (g2:PySem.W.specialIn K (.ref CR) "__getattribute__"=some (some (.builtin "type.__getattribute__")))
  (rd:PySem.W.readsIn K CR (.type "type")=true)
  (fc:PySem.W.findCls K (.ref CR) (.type "type") "__init__"=some (.val (.builtin "ValueError.__init__")))
  : ∃bf bH bF bU bM aZ bC cA bY cB cQ cD dH cF cR CR fQ jx dO eU k_ qF jh jE,Y9 K mg bf bH bF bU bM aZ bC cA bY cB cQ cD dH cF cR CR fQ jx dO eU k_ qF jh jE:=by
 have Bw:=gU (st:=iH) Dy Dz DG;have Km:=gU (st:=jH) N5 N6 N7;have uN:=gU (st:=fZ) xW xX xY;have xQ:=gU (st:=gP) Aa Ab Ac;have Bv:lH K mg "Taken" bH fQ ["row","column"]:=⟨PySem.W.mg_of X G Bx,⟨zZ,Dw,DK⟩,⟨DN,tR,DP⟩,⟨yr,yt,yu,yw,hn,ht,tR,yx⟩,DQ,λg hg=>by
  rcases List.mem_cons.mp hg with z | z
  ·rw[z];exact vg
  ·rw[List.mem_singleton.mp z];exact pq⟩
 have Kl:lH K mg "Gap" bU jx ["row","column"]:=⟨PySem.W.mg_of X G Ko,⟨HD,NZ,N8⟩,⟨N_,Ak,Oa⟩,⟨Gm,Gn,Gp,Gq,hn,ht,Ak,Gr⟩,Ob,λg hg=>by
  rcases List.mem_cons.mp hg with z | z
  ·rw[z];exact z9
  ·rw[List.mem_singleton.mp z];exact tQ⟩
 have uM:lH K mg "Lacking" aZ dO ["tile"]:=⟨PySem.W.mg_of X G uO,⟨vh,xV,xZ⟩,⟨yc,nW,yd⟩,⟨rG,rH,rJ,rK,hn,ht,nW,rM⟩,yg,λg hg=>by
  rw[List.mem_singleton.mp hg];exact pA⟩
 have o9:lH K mg "NoWord" bC eU ["word"]:=⟨PySem.W.mg_of X G xT,⟨yh,z_,Ad⟩,⟨Ae,qH,Af⟩,⟨uP,uQ,uR,uT,hn,ht,qH,uU⟩,Ag,λg hg=>by
  rw[List.mem_singleton.mp hg];exact qJ⟩
 exact⟨bf,bH,bF,bU,bM,aZ,bC,cA,bY,cB,cQ,cD,dH,cF,cR,CR,fQ,jx,dO,eU,_,_,_,_,⟨PySem.W.mg_of X G xR,PySem.W.mg_of X G Bx,PySem.W.mg_of X G zV,PySem.W.mg_of X G Ko,PySem.W.mg_of X G Hw,PySem.W.mg_of X G uO,PySem.W.mg_of X G xT,PySem.W.mg_of X G Dp,PySem.W.mg_of X G zW,PySem.W.mg_of X G Dq,PySem.W.mg_of X G Hx,PySem.W.mg_of X G Dr,PySem.W.mg_of X G NQ,PySem.W.mg_of X G Du,PySem.W.mg_of X G Hy,PySem.W.mg_of X G aR,⟨g2,rd,fc⟩,nU,qG,wu,Bv,Bw,Bw.binds (ps:=["self","row","column"]) (λ_ _ _ _ _ _ us hl=>match us,hl with | [_,_,_],_=>rfl),Kl,Km,Km.binds (ps:=["self","row","column"]) (λ_ _ _ _ _ _ us hl=>match us,hl with | [_,_,_],_=>rfl),uM,uN,uN.binds (ps:=["self","tile"]) (λ_ _ _ _ _ _ us hl=>match us,hl with | [_,_],_=>rfl),o9,xQ,xQ.binds (ps:=["self","word"]) (λ_ _ _ _ _ _ us hl=>match us,hl with | [_,_],_=>rfl),⟨xU,Hz,zX,Tp,HB,zY,Dv⟩,⟨⟨⟨vm,vo,vp,vq,hn,ht,vA,vB⟩,yj,o_ yp,yq,by decide⟩,⟨⟨yr,yt,yu,yw,hn,ht,tR,yx⟩,HF,o_ HJ,HN,by decide⟩,⟨⟨yC,yD,yE,yF,hn,ht,yG,yH⟩,Ah,o_ Ai,Aj,by decide⟩,⟨⟨Gm,Gn,Gp,Gq,hn,ht,Ak,Gr⟩,Tq,o_ Tr,Tt,by decide⟩,⟨⟨DR,DW,DX,DY,hn,ht,D_,Ea⟩,HS,o_ HW,HX,by decide⟩,⟨⟨rG,rH,rJ,rK,hn,ht,nW,rM⟩,Al,o_ Am,Ao,by decide⟩,⟨⟨uP,uQ,uR,uT,hn,ht,qH,uU⟩,Eb,o_ Ec,Ed,by decide⟩,nn⟩⟩⟩
theorem abH (aX:mg "len"=none)(cI:mg "range"=none)(bW:mg "tuple"=none)(kE:mg "list"=none)(o7:mg "sorted"=none)(aV:mg "isinstance"=none)(qu:mg "bool"=none)(jZ:mg "int"=none)(rE:mg "str"=none)(dU:mg "all"=none)(uG:mg "any"=none)(FP:mg "zip"=none)(Bt:mg "min"=none)(Bu:mg "max"=none)(kY:mg "ValueError"=none)
  (dW:∃t,mg "FREE"=some (.str (S [46]) t)) (vW:∃t,mg "MARKS"=some (.str (S MK) t)) (vV:∃t,mg "MOST"=some (.int 9 t)) (kJ:∃t,mg "MOST_TILES"=some (.int 7 t)) (rN:aG K mg "is_whole" nq ["thing"]) (Aq:aG K mg "is_sign" uc ["thing"]) (vC:aG K mg "letter_of" pJ ["sign"]) (Av:aG K mg "tile_of" ud ["sign"]) (Aw:aG K mg "left_of" uf ["rack","signs"]) (yI:aG K mg "is_block" qZ ["thing"]) (yJ:aG K mg "are_rows" q_ ["thing"]) (vD:aG K mg "are_marks" pL ["thing"]) (nY:aG K mg "is_cell_of" kh ["rows","row","column"]) (qK:aG K mg "is_begin_of" lY ["rows","thing"]) (yK:aG K mg "is_board" rm ["rows","marks","begin"]) (qL:aG K mg "column_text" lZ ["rows","column"]) (vG:aG K mg "is_triple" pN ["board","thing"]) (vH:aG K mg "is_laying" pO ["board","thing"]) (yL:aG K mg "cells_of" rz ["laying"]) (pU:aG K mg "is_across" lU ["laying"]) (Ax:aG K mg "is_down" ug ["laying"]) (lq:aG K mg "is_next_to_taken" i_ ["board","row","column"]) (Ef:aG K mg "formed" wV ["board","laying"]) (tU:aG K mg "check_free" nC ["board","laying"]) (mO:aG K mg "check_straight" jK ["laying"]) (tV:aG K mg "check_gaps" nD ["board","laying"]) (pB:aG K mg "check_joined" lC ["board","laying"]) (qM:aG K mg "check_words" mz ["board","book","laying"]) (pC:aG K mg "check_laying" lD ["board","book","rack","laying"]) (Ay:aG K mg "is_word" uh ["text"]) (tW:aG K mg "check_word" nG ["text"]) (Az:aG K mg "_law_cell_at" um ["_law_script","_law_k"]) (Oc:aG K mg "_law_draw" Fl ["_law_cell","_law_j"]) (A_:aG K mg "_law_letters" uo ["_law_cell"]) (Od:aG K mg "_law_sign" Fo ["_law_cell","_law_letters_here"]) (Oe:aG K mg "_law_rows" Fp ["_law_script","_law_letters_here"]) (HY:aG K mg "_law_marks" Bh ["_law_rows_here","_law_cell"]) (Og:aG K mg "_law_grid" Fq ["_law_rows_here","_law_laying"]) (Tv:aG K mg "_law_run" Kf ["_law_grid_here","_law_row","_law_column","_law_way"]) (H_:aG K mg "_law_words" Bj ["_law_rows_here","_law_laying"]) (uV:aG K mg "_law_is_near" qj ["_law_rows_here","_law_row","_law_column"]) (Eh:aG K mg "_law_starts" wW ["_law_rows_here","_law_cell"]) (yM:aG K mg "_law_straight" rD ["_law_rows_here","_law_cell","_law_letters_here","_law_many"]) (Ei:aG K mg "_law_joined" wX ["_law_rows_here","_law_begin","_law_cells"]) (vI:aG K mg "_law_cells_due" pP ["_law_rows_here","_law_begin","_law_laying"]) (Ba:aG K mg "_law_missing" uq ["_law_rows_here","_law_laying","_law_words_here"]) (Ia:aG K mg "_law_class" Bk ["_law_error"]) (Ej:aG K mg "_law_caught" wZ ["_law_board","_law_book","_law_rack","_law_laying"]) (Ib:aG K mg "_law_tiles" Bl ["_law_laying"]) (Ie:aG K mg "_law_known" Bm ["_law_rows_here","_law_laying","_law_cell","_law_letters_here"]) (Oh:aG K mg "_law_told" Ft ["_law_board","_law_words_here","_law_laying","_law_rows_here"]) {abI abJ abK abL abM abN:Addr} {Zn Zo Zq Zr Zt:FuncData} (bQ:xP K mg abI abJ abK abL abM abN Zn Zo Zq Zr Zt) {adZ ad0 ad1 ad2 ad3:Addr} {abO abP abQ abR:FuncData} (fP:zU K mg adZ ad0 ad1 ad2 ad3 abO abP abQ abR) {bf bH bF bU bM aZ bC cA bY cB cQ cD dH cF cR CR fQ jx dO eU:Addr} {k_ qF jh jE:FuncData} (R:Y9 K mg bf bH bF bU bM aZ bC cA bY cB cQ cD dH cF cR CR fQ jx dO eU k_ qF jh jE)
  {f:Addr} {fd:FuncData} (F:fG K "law" "law" Kg f fd):cu P w K mg base eV 20 f fd ["_law_script"] (Ke K):=by
 have c1:=RZ (P:=P) (w:=w) (base:=base) Az aX;have c2:=aa5 (P:=P) (w:=w) (base:=base) Oc;have c3:=R4 (P:=P) (w:=w) (base:=base) A_ cI;have c4:=aa6 (P:=P) (w:=w) (base:=base) Od aX;have c5:=O2 Oe cI bW c1 c2 c4;have c6:=Lx HY aX cI bW c2;have p1:=RX (P:=P) (w:=w) (base:=base) Aq aX rE aV;have p2:=Ox (P:=P) (w:=w) (base:=base) rN jZ qu aV;have p3:=Oz (P:=P) (w:=w) (base:=base) yI aX bW rE dU aV vV;have p4:=OD yJ dU dW p3 p1;have p5:=Lq vD dU vW p3;have p6:=JW nY aX p2;have p7:=G5 qK aX bW aV p6;have p8:=OJ yK aX p4 p5 p7;have p9:=G7 (P:=P) (w:=w) (base:=base) qL;have g0:=JZ bQ.F0 bQ.T p8;have g1:=aer bQ.F1 bQ.T dW p6;have g2:=R7 (P:=P) (w:=w) (base:=base) bQ.F2 bQ.T dU dW;have g3:=adt bQ.F3 bQ.T aX dW p9;have g4:=aa9 bQ.F4 bQ.T kE bW bQ.E_ bQ.M g0 bQ.b0;have w1:=Ss (P:=P) (w:=w) (base:=base) Ay aX dU;have w2:=J5 tW w1;have k0:=abj fP.F0 fP.T w2;have k2:=YF (P:=P) (w:=w) (base:=base) fP.F2 fP.T o7 bW;have k3:=V3 fP.F3 fP.T w2;have k1:=adE (P:=P) (w:=w) (mg:=mg) (base:=base) fP.F1 fP.T;have c7:=R8 (P:=P) (w:=w) (base:=base) uV aX;have c8:=Vs Eh aX cI c7;have c9:=O4 yM aX jZ bW c8 c2 c4;have x4:=Ma (P:=P) (w:=w) (base:=base) pU dU;have x5:=VG Ef aX bW bQ.T bQ.m4 g4 bQ.b4 bQ.m3 g3 bQ.b3 x4;have y1:=Mg (P:=P) (w:=w) (base:=base) rN jZ qu aV;have y2:=Hh nY aX y1;have y3:=Mh vG aX bW aV bQ.T y2 p1;have y4:=O8 (P:=P) (w:=w) (base:=base) yL;have y5:=Ml vH aX bW aV dU FP kJ y3 y4;have e1:=abd (P:=P) (w:=w) (base:=base) R.Bw R.mR R.I R.Bv;have e2:=adB (P:=P) (w:=w) (base:=base) R.Km R.mR R.I R.Kl;have e3:=Sw (P:=P) (w:=w) (base:=base) R.uN R.mR R.I R.uM;have e4:=Wa (P:=P) (w:=w) (base:=base) R.xQ R.mR R.I R.o9;have z1:=J1 (P:=P) (w:=w) (base:=base) pU dU;have z2:=Sg (P:=P) (w:=w) (base:=base) Ax dU;have z3:=J2 lq uG dW bQ.T bQ.m1 g1 bQ.b1;have z4:=Mr (P:=P) (w:=w) (base:=base) vC;have z5:=Sv (P:=P) (w:=w) (base:=base) Av;have q1:=J3 tU dW bQ.T bQ.m1 g1 bQ.b1 R.Bv e1 R.Hi;have q2:=BL mO R.JH R.qG z1 z2;have q3:=J4 tV cI dW bQ.T bQ.m1 g1 bQ.b1 bQ.m4 g4 bQ.b4 R.Kl e2 R.Sq;have q4:=FT pB uG bQ.T bQ.m2 g2 bQ.b2 R.Q9 R.wu y4 z3;have q5:=Sx Aw kE o7 R.uM e3 R.zP z5;have q6:=Ho qM fP.T fP.m1 k1 fP.b1 R.o9 e4 R.xJ x5 z4;have q7:=Ge (c:=⟨bf,bH,bF,bU,bM,aZ,bC⟩) pC R.Gi R.nU y5 q1 q2 q3 q4 q5 q6;have l1:=YJ (P:=P) (w:=w) (base:=base) Ia aX aV kY R.Gi R.abD R.JH R.aez R.Q9 R.W2 R.Y_ R.Za R.W3 R.Zb R.abE R.Zc R.adQ R.Zd R.abF;have l2:=Wk Ej R.mR R.M q7;have l3:=Pb (P:=P) (w:=w) (base:=base) uV aX;have l4:=Wn Ei aX l3;have l5:=Ni vI cI Bt Bu l4;have x1:=aa_ (P:=P) (w:=w) (base:=base) Og kE;have x2:=R_ (P:=P) (w:=w) (base:=base) Tv aX;have x3:=LR H_ aX jZ bW x1 x2;have l6:=S8 Ba x3;have l7:=YW (P:=P) (w:=w) (base:=base) Ib;have l8:=YX Ie aX cI x3;have l9:=abv (c:=⟨bf,bH,bF,bU,bM,aZ,bC⟩) Oh aX rE aV R.V R.o9.hd (R.o9.no _ (by simp)) fP.T fP.E_ fP.M k0 fP.b0 fP.m2 k2 fP.b2 fP.m3 k3 fP.b3 l6 l7 l1 l2;exact adN F aX bQ.T bQ.E_ bQ.M g0 bQ.b0 c3 c1 c5 c6 c2 c9 l8 l5 l9
end
end My
namespace PySem.W.Fast
def tw10216098223191191327:=0
def tw6233929009190565072:=0
def tw463392294272780366:=0
def tw9886113330335956415:=0
def tw18425530262285567229:=0
def tw5743227578848705083:=0
def tw12519517534693676091:=0
def tw664168469683341575:=0
def tw14907024646630360510:=0
def tw15674518535737596110:=0
def tw4807771048328532652:=0
def tw6494124837323549789:=0
def tw13034347202122962494:=0
def tw1377418131232715939:=0
def tw2708407941458260616:=0
def tw8418168925735921753:=0
def tw17343545261990883122:=0
def tw9054335552171313644:=0
def tw4376439587023765279:=0
def tw894799072698917150:=0
def tw11154390639956323354:=0
def tw6418083551734172788:=0
def tw11058506726730255270:=0
def tw9589205516834220333:=0
def tw7702284530916048321:=0
def tw11373658573168420106:=0
def tw869049372807925914:=0
def tw1052690363907358220:=0
def tw15069230094895695533:=0
def tw8429259356587022491:=0
def tw17260653371747146525:=0
def tw16618169916540382025:=0
def tw2586172849646174397:=0
def tw160864536080707164:=0
def tw17082483879551981157:=0
def tw14939947521926648423:=0
def tw5132646140889218919:=0
def tw12285050289603006114:=0
def tw7252484112350016140:=0
def tw1091414915553214634:=0
def tw13013254929630414758:=0
def tw6054260937823469285:=0
def tw8632123785752655800:=0
def tw11364493769306796162:=0
def tw12158420876823686814:=0
def tw14159216057969876554:=0
def tw11713448378556882872:=0
def tw7861612270205808149:=0
def tw812904681754317684:=0
def tw17293842642554695272:=0
def tw13970242123601212389:=0
def tw3446561862692557820:=0
def tw8604662009678873310:=0
def tw16034521275464337847:=0
def tw7655898151275693315:=0
def tw928783734713035907:=0
def tw3943930585347299548:=0
def tw14854001992493485663:=0
def tw12859534188208738389:=0
def tw6477834267718616345:=0
def tw16747816875783055795:=0
def tw15489406196854263330:=0
def tw2910936944742176951:=0
def tw10603166908238980614:=0
def tw10770431427081722168:=0
def tw10735644568941949759:=0
def tw14793440464394966433:=0
def tw7002164311393757263:=0
def tw8367693458583460872:=0
def tw1978937215920292486:=0
def tw8300741884955595097:=0
def tw5787377589540022526:=0
def tw7134174604034139521:=0
def tw5693687273166892758:=0
def tw16265238123225738600:=0
def tw13214678392525821790:=0
def tw9923044446513547229:=0
def tw17134035048257504393:=0
def tw5812135426833456501:=0
def tw15283248875411546385:=0
def tw9721803212952875850:=0
def tw547735058521089580:=0
def tw1930271665618971558:=0
def tw1938306227823905802:=0
def tw4979838716052635982:=0
def tw11300017126921106864:=0
def tw11593676592956582359:=0
def tw7048907518828967495:=0
def tw4695228538672812345:=0
def tw10723037964429950164:=0
def tw9077407027186429060:=0
def tw9509459176583191456:=0
def tw12082063237643278201:=0
def tw9778611369056963252:=0
def tw17078413829555795958:=0
def tw2691830744409967666:=0
def tw15666832432157201156:=0
def tw1846314943276553637:=0
def tw9672512625847716522:=0
def tw13362844098256330220:=0
def tw9820901875944560409:=0
def tw15704971528773963460:=0
def tw9332782850309029751:=0
def tw2544008511044027474:=0
def tw11414295245032752177:=0
def tw1333357980687912431:=0
def tw1921956006955557967:=0
def tw3084931197739589592:=0
def tw16136931250474374454:=0
def tw5065235851416931344:=0
def tw13140897259037125699:=0
def tw4954269178293058858:=0
def tw16241417001337501204:=0
def tw15793772827894651890:=0
def tw4098687663002397838:=0
def tw14461638767658998333:=0
def tw9663921330587998095:=0
def tw8385942630063923917:=0
def tw6490506594248598742:=0
def tw706681479826975758:=0
def tw7968137150180685036:=0
def tw14987956694683312014:=0
def tw10302340707549632238:=0
def tw3077937289173438739:=0
def tw17055457187243935003:=0
def tw16935194090659752862:=0
def tw10961345530884232189:=0
def tw2642355233857614535:=0
def tw13961337254432079924:=0
def tw4262098747025792598:=0
def tw7095175045475742205:=0
def tw677076850057530269:=0
def tw13196305848596562543:=0
def tw7019779592354167617:=0
def tw6611670621115438983:=0
def tw8749498509270614074:=0
def tw3597592859032446484:=0
def tw8529216507867203360:=0
def tw12364541305454956450:=0
def tw15471008627878541160:=0
def tw11606457210215807021:=0
def tw2074928482891160923:=0
def tw2195958325742423787:=0
def tw10150790463522973065:=0
def tw14784086996157418657:=0
def tw3244897585868273892:=0
def tw3329204622726217771:=0
def tw16145737247221153207:=0
def tw14061972737740626206:=0
def tw8700047312049735047:=0
def tw16858205012382928345:=0
def tw9489178514593038304:=0
def tw16812682493795443936:=0
def tw7749604747203814226:=0
def tw10075756886672143735:=0
def tw15889548136453337906:=0
def tw8125270108183833634:=0
def tw4957435135224678286:=0
def tw5953410171827996742:=0
def tw9958138683797537158:=0
def tw4090807000620288603:=0
def tw1792072962230890116:=0
def tw9462433976352117276:=0
def tw16105110279145054149:=0
def tw8505002032998092977:=0
def tw17516166836726748724:=0
def tw17937758760250116387:=0
def tw2880748743986348995:=0
def tw14981807758518488781:=0
def tw2389029308311304363:=0
def tw8360847520719336124:=0
def tw16188407723857651037:=0
def tw10898117274196992543:=0
def tw5757441055477247776:=0
def tw5461815780699311811:=0
def tw15739301466822542789:=0
def tw17491434100204839534:=0
def tw5588169630242274109:=0
def tw16583732601037214282:=0
def tw11250116077758787068:=0
def tw17328262059774680406:=0
def tw16182501425356103582:=0
def tw3341907570155764813:=0
def tw13239382779571779930:=0
def tw16261544396587029802:=0
def tw7512078987144844583:=0
def tw13841722959935372782:=0
def tw4777722673803306:=0
def tw5646226539079607603:=0
def tw11287104603889820398:=0
def tw16496963485463006072:=0
def tw16084378261675305746:=0
def tw6776192777121262306:=0
def tw3422252798104719671:=0
def tw13260779419867013701:=0
def tw18405291053122575833:=0
def tw9449650257813023418:=0
def tw14710849650540246072:=0
def tw2200703028862906301:=0
def tw4165896845413755744:=0
def tw3706137946417234963:=0
def tw8375792512939050018:=0
def tw3504521585129122749:=0
def tw12938348763201199309:=0
def tw12696466933581008093:=0
def tw1707013633200821449:=0
def tw9177406729776202544:=0
def tw12951626849479195747:=0
def tw9069106080285602352:=0
def tw16234607978197723477:=0
def tw14466469614856003818:=0
def tw17005474172293283290:=0
def tw2108685313028847574:=0
def tw13459528284032628335:=0
def tw5055694145959181571:=0
def tw7153759509373826519:=0
def tw14828351537680559642:=0
def tw6070820723370081309:=0
def tw6911249305995325838:=0
def tw16239978412586650161:=0
def tw14506516154219374136:=0
def tw18425558307881571447:=0
def tw10413580463661944987:=0
def tw2490564813565817602:=0
def tw6389312405784463724:=0
def tw4947450351819771418:=0
def tw9980244157041862792:=0
def tw15227961364773046514:=0
def tw8654025779042857773:=0
def tw6078131820855287740:=0
def tw4022985683656171711:=0
def tw10004946548193846155:=0
def tw6038462305945401652:=0
def tw7100146799426773573:=0
def tw17787849318622243646:=0
def tw232910582287318428:=0
def tw16970804810310564324:=0
def tw5414640804040298792:=0
def tw5145117096294971215:=0
def tw16058942558973511568:=0
def tw7522102797779541925:=0
def tw11333436384653838987:=0
def tw13108560998691952280:=0
def tw15197352085054923680:=0
def tw7959955964627820909:=0
def tw5334448115456551645:=0
def tw6124087862664021096:=0
def tw6781030441533585025:=0
def tw13054275286575510574:=0
def tw11456066373428660852:=0
def tw1529088485200969907:=0
def tw8943019049262363127:=0
def tw2403405010474367354:=0
def tw5757496730697088084:=0
def tw14956592840968565815:=0
def tw16680951046583918195:=0
def tw15319218563230947066:=0
def tw8697308346494916984:=0
def tw14467443362941313401:=0
def tw10150661326688873180:=0
def tw14919021379997743388:=0
def tw1564233507406974469:=0
def tw6193646522928189946:=0
def tw17495493271363706148:=0
def tw13127329488715814191:=0
def tw283242789277444727:=0
def tw10932844112657627889:=0
def tw5248613365884664447:=0
def tw18251528344881029222:=0
def tw9572354915616481526:=0
def tw17763430005024715774:=0
def tw15118517669889901231:=0
def tw18267147939064745135:=0
def tw16551419080729743990:=0
def tw16501106065713811018:=0
def tw10726846410992685118:=0
def tw8997231596001330345:=0
def tw13823343926534546645:=0
def tw3098060505844984921:=0
def tw13458011483005671012:=0
def tw14433157628995673840:=0
def tw9815282122588697494:=0
def tw1972557457560083018:=0
def tw4959289720116879791:=0
def tw2422068332557209824:=0
def tw17390732805120144696:=0
def tw4624025870949973071:=0
def tw6469817232753829253:=0
def tw8418113270095484009:=0
def tw10844264304189869409:=0
def tw3255216168889218454:=0
def tw14512478983901548085:=0
def tw18173327580515492568:=0
def tw8573009085195870505:=0
def tw9542963433245511230:=0
def tw14428544809860868887:=0
def tw7448304583871844576:=0
def tw9268422413653473973:=0
def tw9835767553554866072:=0
def tw17917193865111857464:=0
def tw16969711679814690492:=0
def tw4613921786763988672:=0
def tw590191821581661179:=0
def tw8058924015960414023:=0
def tw117861902770877429:=0
def tw4707394259874962574:=0
def tw1104818103951862494:=0
def tw2458077157764642987:=0
def tw7739773399383201755:=0
def tw14981717064673017819:=0
def tw4933050187986082949:=0
def tw9660538620757324481:=0
def tw8027189272326653655:=0
def tw11789110540920122318:=0
def tw15945552389215020712:=0
def tw4077045907987710482:=0
def tw1299228767370540969:=0
def tw7107537870668321167:=0
def tw5147612851680402339:=0
def tw3656944935554053851:=0
def tw14889172357889290307:=0
def tw15845225451822083892:=0
def tw14031952429593270067:=0
def tw8514635539696578714:=0
def tw1315603034547872023:=0
def tw10894246812986258917:=0
def tw16926815230754947720:=0
def tw12305077833024999552:=0
def tw17172137275614806719:=0
def tw1147810707627327272:=0
def tw17226810507610018095:=0
def tw626742100631824913:=0
def tw11984556960892625019:=0
def tw11028112276890501217:=0
def tw5908492118896667092:=0
def tw6866119084812216953:=0
def tw948103225250478692:=0
def tw13266327084540038314:=0
def tw17984199921338782052:=0
def tw6236183923078221447:=0
def tw14896342987635559840:=0
def tw4074427133943617836:=0
def tw3531845241121701849:=0
def tw5297560383340567226:=0
def tw13948076024538494061:=0
def tw43963320759366030:=0
def tw12938910049003144690:=0
def tw4233745536114470081:=0
def tw7100695267779261998:=0
def tw4098985429257812411:=0
def tw15114237256067849721:=0
def tw2303445757409697271:=0
def tw2413721672398205649:=0
def tw16247312114720714048:=0
def tw2576140691962703572:=0
def tw6298038335580791407:=0
def tw2498711315127074525:=0
def tw10338513643474138799:=0
def tw10499437585340528497:=0
def tw3385763103742625802:=0
def tw14323862740256886266:=0
def tw7443605198857630404:=0
def tw16971075571345147732:=0
def tw2638235541040411167:=0
def tw12257011654504135069:=0
def tw602419462820691523:=0
def tw17438756609764381854:=0
def tw15697255737297762036:=0
def tw3379227660740257696:=0
def tw7991109263307131695:=0
def tw15561710673601882376:=0
end PySem.W.Fast
open PySem PySem.W PyProof.Rows
set_option maxRecDepth 100000 in
set_option maxHeartbeats 0 in
theorem PySem.Challenge.cw_letterrack_k24_words_not_in_the_book_holds : PySem.Challenge.rw_letterrack_k24_words_not_in_the_book.Holds := by
 w_on;o_law;k_head;(case hw=>w_witness2)
 k_fill
 refine L2.aaP (x:="_law_script") (l:=PySem.Challenge.rw_letterrack_k24_words_not_in_the_book) rfl rfl (λw h Y=>PySem.W.kIn_of Y) ?F
 case F=>
  intro w mg fa h KX G hmg;have aX:mg "len"=none:=by
   refine' PySem.W.mg_none_of KX G ?z
   (case z=>k_is)
  have cI:mg "range"=none:=by
   refine' PySem.W.mg_none_of KX G ?z
   (case z=>k_is)
  have bW:mg "tuple"=none:=by
   refine' PySem.W.mg_none_of KX G ?z
   (case z=>k_is)
  have kE:mg "list"=none:=by
   refine' PySem.W.mg_none_of KX G ?z
   (case z=>k_is)
  have o7:mg "sorted"=none:=by
   refine' PySem.W.mg_none_of KX G ?z
   (case z=>k_is)
  have aV:mg "isinstance"=none:=by
   refine' PySem.W.mg_none_of KX G ?z
   (case z=>k_is)
  have qu:mg "bool"=none:=by
   refine' PySem.W.mg_none_of KX G ?z
   (case z=>k_is)
  have jZ:mg "int"=none:=by
   refine' PySem.W.mg_none_of KX G ?z
   (case z=>k_is)
  have rE:mg "str"=none:=by
   refine' PySem.W.mg_none_of KX G ?z
   (case z=>k_is)
  have dU:mg "all"=none:=by
   refine' PySem.W.mg_none_of KX G ?z
   (case z=>k_is)
  have uG:mg "any"=none:=by
   refine' PySem.W.mg_none_of KX G ?z
   (case z=>k_is)
  have FP:mg "zip"=none:=by
   refine' PySem.W.mg_none_of KX G ?z
   (case z=>k_is)
  have Bt:mg "min"=none:=by
   refine' PySem.W.mg_none_of KX G ?z
   (case z=>k_is)
  have Bu:mg "max"=none:=by
   refine' PySem.W.mg_none_of KX G ?z
   (case z=>k_is)
  have kY:mg "ValueError"=none:=by
   refine' PySem.W.mg_none_of KX G ?z
   (case z=>k_is)
  have dW:∃t,mg "FREE"=some (.str (L2.S [46]) t):=by
   refine' L2.KY KX G ?z
   (case z=>k_is)
  have vW:∃t,mg "MARKS"=some (.str (L2.S My.MK) t):=by
   refine' L2.KY KX G ?z
   (case z=>k_is)
  have vV:∃t,mg "MOST"=some (.int 9 t):=by
   refine' L2.KZ KX G ?z
   (case z=>k_is)
  have kJ:∃t,mg "MOST_TILES"=some (.int 7 t):=by
   refine' L2.KZ KX G ?z
   (case z=>k_is)
  have rN:L2.aG (L2.KOf KX) mg "is_whole" My.nq ["thing"]:=by
   dsimp only[L2.KOf];refine' L2.bB KX G ?a ?l ?c ?k ?b
   (case a=>k_is);(case l=>k_is);(case c=>k_is);(case k=>k_is)
   (case b=>exact λ_ _ _ _ _ _ us hl=>match us,hl with | [_],_=>rfl)
  have Aq:L2.aG (L2.KOf KX) mg "is_sign" My.uc ["thing"]:=by
   dsimp only[L2.KOf];refine' L2.bB KX G ?a ?l ?c ?k ?b
   (case a=>k_is);(case l=>k_is);(case c=>k_is);(case k=>k_is)
   (case b=>exact λ_ _ _ _ _ _ us hl=>match us,hl with | [_],_=>rfl)
  have vC:L2.aG (L2.KOf KX) mg "letter_of" My.pJ ["sign"]:=by
   dsimp only[L2.KOf];refine' L2.bB KX G ?a ?l ?c ?k ?b
   (case a=>k_is);(case l=>k_is);(case c=>k_is);(case k=>k_is)
   (case b=>exact λ_ _ _ _ _ _ us hl=>match us,hl with | [_],_=>rfl)
  have Av:L2.aG (L2.KOf KX) mg "tile_of" My.ud ["sign"]:=by
   dsimp only[L2.KOf];refine' L2.bB KX G ?a ?l ?c ?k ?b
   (case a=>k_is);(case l=>k_is);(case c=>k_is);(case k=>k_is)
   (case b=>exact λ_ _ _ _ _ _ us hl=>match us,hl with | [_],_=>rfl)
  have Aw:L2.aG (L2.KOf KX) mg "left_of" My.uf ["rack","signs"]:=by
   dsimp only[L2.KOf];refine' L2.bB KX G ?a ?l ?c ?k ?b
   (case a=>k_is);(case l=>k_is);(case c=>k_is);(case k=>k_is)
   (case b=>exact λ_ _ _ _ _ _ us hl=>match us,hl with | [_,_],_=>rfl)
  have yI:L2.aG (L2.KOf KX) mg "is_block" My.qZ ["thing"]:=by
   dsimp only[L2.KOf];refine' L2.bB KX G ?a ?l ?c ?k ?b
   (case a=>k_is);(case l=>k_is);(case c=>k_is);(case k=>k_is)
   (case b=>exact λ_ _ _ _ _ _ us hl=>match us,hl with | [_],_=>rfl)
  have yJ:L2.aG (L2.KOf KX) mg "are_rows" My.q_ ["thing"]:=by
   dsimp only[L2.KOf];refine' L2.bB KX G ?a ?l ?c ?k ?b
   (case a=>k_is);(case l=>k_is);(case c=>k_is);(case k=>k_is)
   (case b=>exact λ_ _ _ _ _ _ us hl=>match us,hl with | [_],_=>rfl)
  have vD:L2.aG (L2.KOf KX) mg "are_marks" My.pL ["thing"]:=by
   dsimp only[L2.KOf];refine' L2.bB KX G ?a ?l ?c ?k ?b
   (case a=>k_is);(case l=>k_is);(case c=>k_is);(case k=>k_is)
   (case b=>exact λ_ _ _ _ _ _ us hl=>match us,hl with | [_],_=>rfl)
  have nY:L2.aG (L2.KOf KX) mg "is_cell_of" My.kh ["rows","row","column"]:=by
   dsimp only[L2.KOf];refine' L2.bB KX G ?a ?l ?c ?k ?b
   (case a=>k_is);(case l=>k_is);(case c=>k_is);(case k=>k_is)
   (case b=>exact λ_ _ _ _ _ _ us hl=>match us,hl with | [_,_,_],_=>rfl)
  have qK:L2.aG (L2.KOf KX) mg "is_begin_of" My.lY ["rows","thing"]:=by
   dsimp only[L2.KOf];refine' L2.bB KX G ?a ?l ?c ?k ?b
   (case a=>k_is);(case l=>k_is);(case c=>k_is);(case k=>k_is)
   (case b=>exact λ_ _ _ _ _ _ us hl=>match us,hl with | [_,_],_=>rfl)
  have yK:L2.aG (L2.KOf KX) mg "is_board" My.rm ["rows","marks","begin"]:=by
   dsimp only[L2.KOf];refine' L2.bB KX G ?a ?l ?c ?k ?b
   (case a=>k_is);(case l=>k_is);(case c=>k_is);(case k=>k_is)
   (case b=>exact λ_ _ _ _ _ _ us hl=>match us,hl with | [_,_,_],_=>rfl)
  have qL:L2.aG (L2.KOf KX) mg "column_text" My.lZ ["rows","column"]:=by
   dsimp only[L2.KOf];refine' L2.bB KX G ?a ?l ?c ?k ?b
   (case a=>k_is);(case l=>k_is);(case c=>k_is);(case k=>k_is)
   (case b=>exact λ_ _ _ _ _ _ us hl=>match us,hl with | [_,_],_=>rfl)
  have vG:L2.aG (L2.KOf KX) mg "is_triple" My.pN ["board","thing"]:=by
   dsimp only[L2.KOf];refine' L2.bB KX G ?a ?l ?c ?k ?b
   (case a=>k_is);(case l=>k_is);(case c=>k_is);(case k=>k_is)
   (case b=>exact λ_ _ _ _ _ _ us hl=>match us,hl with | [_,_],_=>rfl)
  have vH:L2.aG (L2.KOf KX) mg "is_laying" My.pO ["board","thing"]:=by
   dsimp only[L2.KOf];refine' L2.bB KX G ?a ?l ?c ?k ?b
   (case a=>k_is);(case l=>k_is);(case c=>k_is);(case k=>k_is)
   (case b=>exact λ_ _ _ _ _ _ us hl=>match us,hl with | [_,_],_=>rfl)
  have yL:L2.aG (L2.KOf KX) mg "cells_of" My.rz ["laying"]:=by
   dsimp only[L2.KOf];refine' L2.bB KX G ?a ?l ?c ?k ?b
   (case a=>k_is);(case l=>k_is);(case c=>k_is);(case k=>k_is)
   (case b=>exact λ_ _ _ _ _ _ us hl=>match us,hl with | [_],_=>rfl)
  have pU:L2.aG (L2.KOf KX) mg "is_across" My.lU ["laying"]:=by
   dsimp only[L2.KOf];refine' L2.bB KX G ?a ?l ?c ?k ?b
   (case a=>k_is);(case l=>k_is);(case c=>k_is);(case k=>k_is)
   (case b=>exact λ_ _ _ _ _ _ us hl=>match us,hl with | [_],_=>rfl)
  have Ax:L2.aG (L2.KOf KX) mg "is_down" My.ug ["laying"]:=by
   dsimp only[L2.KOf];refine' L2.bB KX G ?a ?l ?c ?k ?b
   (case a=>k_is);(case l=>k_is);(case c=>k_is);(case k=>k_is)
   (case b=>exact λ_ _ _ _ _ _ us hl=>match us,hl with | [_],_=>rfl)
  have lq:L2.aG (L2.KOf KX) mg "is_next_to_taken" My.i_ ["board","row","column"]:=by
   dsimp only[L2.KOf];refine' L2.bB KX G ?a ?l ?c ?k ?b
   (case a=>k_is);(case l=>k_is);(case c=>k_is);(case k=>k_is)
   (case b=>exact λ_ _ _ _ _ _ us hl=>match us,hl with | [_,_,_],_=>rfl)
  have Ef:L2.aG (L2.KOf KX) mg "formed" My.wV ["board","laying"]:=by
   dsimp only[L2.KOf];refine' L2.bB KX G ?a ?l ?c ?k ?b
   (case a=>k_is);(case l=>k_is);(case c=>k_is);(case k=>k_is)
   (case b=>exact λ_ _ _ _ _ _ us hl=>match us,hl with | [_,_],_=>rfl)
  have tU:L2.aG (L2.KOf KX) mg "check_free" My.nC ["board","laying"]:=by
   dsimp only[L2.KOf];refine' L2.bB KX G ?a ?l ?c ?k ?b
   (case a=>k_is);(case l=>k_is);(case c=>k_is);(case k=>k_is)
   (case b=>exact λ_ _ _ _ _ _ us hl=>match us,hl with | [_,_],_=>rfl)
  have mO:L2.aG (L2.KOf KX) mg "check_straight" My.jK ["laying"]:=by
   dsimp only[L2.KOf];refine' L2.bB KX G ?a ?l ?c ?k ?b
   (case a=>k_is);(case l=>k_is);(case c=>k_is);(case k=>k_is)
   (case b=>exact λ_ _ _ _ _ _ us hl=>match us,hl with | [_],_=>rfl)
  have tV:L2.aG (L2.KOf KX) mg "check_gaps" My.nD ["board","laying"]:=by
   dsimp only[L2.KOf];refine' L2.bB KX G ?a ?l ?c ?k ?b
   (case a=>k_is);(case l=>k_is);(case c=>k_is);(case k=>k_is)
   (case b=>exact λ_ _ _ _ _ _ us hl=>match us,hl with | [_,_],_=>rfl)
  have pB:L2.aG (L2.KOf KX) mg "check_joined" My.lC ["board","laying"]:=by
   dsimp only[L2.KOf];refine' L2.bB KX G ?a ?l ?c ?k ?b
   (case a=>k_is);(case l=>k_is);(case c=>k_is);(case k=>k_is)
   (case b=>exact λ_ _ _ _ _ _ us hl=>match us,hl with | [_,_],_=>rfl)
  have qM:L2.aG (L2.KOf KX) mg "check_words" My.mz ["board","book","laying"]:=by
   dsimp only[L2.KOf];refine' L2.bB KX G ?a ?l ?c ?k ?b
   (case a=>k_is);(case l=>k_is);(case c=>k_is);(case k=>k_is)
   (case b=>exact λ_ _ _ _ _ _ us hl=>match us,hl with | [_,_,_],_=>rfl)
  have pC:L2.aG (L2.KOf KX) mg "check_laying" My.lD ["board","book","rack","laying"]:=by
   dsimp only[L2.KOf];refine' L2.bB KX G ?a ?l ?c ?k ?b
   (case a=>k_is);(case l=>k_is);(case c=>k_is);(case k=>k_is)
   (case b=>exact λ_ _ _ _ _ _ us hl=>match us,hl with | [_,_,_,_],_=>rfl)
  have Ay:L2.aG (L2.KOf KX) mg "is_word" My.uh ["text"]:=by
   dsimp only[L2.KOf];refine' L2.bB KX G ?a ?l ?c ?k ?b
   (case a=>k_is);(case l=>k_is);(case c=>k_is);(case k=>k_is)
   (case b=>exact λ_ _ _ _ _ _ us hl=>match us,hl with | [_],_=>rfl)
  have tW:L2.aG (L2.KOf KX) mg "check_word" My.nG ["text"]:=by
   dsimp only[L2.KOf];refine' L2.bB KX G ?a ?l ?c ?k ?b
   (case a=>k_is);(case l=>k_is);(case c=>k_is);(case k=>k_is)
   (case b=>exact λ_ _ _ _ _ _ us hl=>match us,hl with | [_],_=>rfl)
  have Az:L2.aG (L2.KOf KX) mg "_law_cell_at" My.um ["_law_script","_law_k"]:=by
   dsimp only[L2.KOf];refine' L2.bB KX G ?a ?l ?c ?k ?b
   (case a=>k_is);(case l=>k_is);(case c=>k_is);(case k=>k_is)
   (case b=>exact λ_ _ _ _ _ _ us hl=>match us,hl with | [_,_],_=>rfl)
  have Oc:L2.aG (L2.KOf KX) mg "_law_draw" My.Fl ["_law_cell","_law_j"]:=by
   dsimp only[L2.KOf];refine' L2.bB KX G ?a ?l ?c ?k ?b
   (case a=>k_is);(case l=>k_is);(case c=>k_is);(case k=>k_is)
   (case b=>exact λ_ _ _ _ _ _ us hl=>match us,hl with | [_,_],_=>rfl)
  have A_:L2.aG (L2.KOf KX) mg "_law_letters" My.uo ["_law_cell"]:=by
   dsimp only[L2.KOf];refine' L2.bB KX G ?a ?l ?c ?k ?b
   (case a=>k_is);(case l=>k_is);(case c=>k_is);(case k=>k_is)
   (case b=>exact λ_ _ _ _ _ _ us hl=>match us,hl with | [_],_=>rfl)
  have Od:L2.aG (L2.KOf KX) mg "_law_sign" My.Fo ["_law_cell","_law_letters_here"]:=by
   dsimp only[L2.KOf];refine' L2.bB KX G ?a ?l ?c ?k ?b
   (case a=>k_is);(case l=>k_is);(case c=>k_is);(case k=>k_is)
   (case b=>exact λ_ _ _ _ _ _ us hl=>match us,hl with | [_,_],_=>rfl)
  have Oe:L2.aG (L2.KOf KX) mg "_law_rows" My.Fp ["_law_script","_law_letters_here"]:=by
   dsimp only[L2.KOf];refine' L2.bB KX G ?a ?l ?c ?k ?b
   (case a=>k_is);(case l=>k_is);(case c=>k_is);(case k=>k_is)
   (case b=>exact λ_ _ _ _ _ _ us hl=>match us,hl with | [_,_],_=>rfl)
  have HY:L2.aG (L2.KOf KX) mg "_law_marks" My.Bh ["_law_rows_here","_law_cell"]:=by
   dsimp only[L2.KOf];refine' L2.bB KX G ?a ?l ?c ?k ?b
   (case a=>k_is);(case l=>k_is);(case c=>k_is);(case k=>k_is)
   (case b=>exact λ_ _ _ _ _ _ us hl=>match us,hl with | [_,_],_=>rfl)
  have Og:L2.aG (L2.KOf KX) mg "_law_grid" My.Fq ["_law_rows_here","_law_laying"]:=by
   dsimp only[L2.KOf];refine' L2.bB KX G ?a ?l ?c ?k ?b
   (case a=>k_is);(case l=>k_is);(case c=>k_is);(case k=>k_is)
   (case b=>exact λ_ _ _ _ _ _ us hl=>match us,hl with | [_,_],_=>rfl)
  have Tv:L2.aG (L2.KOf KX) mg "_law_run" My.Kf ["_law_grid_here","_law_row","_law_column","_law_way"]:=by
   dsimp only[L2.KOf];refine' L2.bB KX G ?a ?l ?c ?k ?b
   (case a=>k_is);(case l=>k_is);(case c=>k_is);(case k=>k_is)
   (case b=>exact λ_ _ _ _ _ _ us hl=>match us,hl with | [_,_,_,_],_=>rfl)
  have H_:L2.aG (L2.KOf KX) mg "_law_words" My.Bj ["_law_rows_here","_law_laying"]:=by
   dsimp only[L2.KOf];refine' L2.bB KX G ?a ?l ?c ?k ?b
   (case a=>k_is);(case l=>k_is);(case c=>k_is);(case k=>k_is)
   (case b=>exact λ_ _ _ _ _ _ us hl=>match us,hl with | [_,_],_=>rfl)
  have uV:L2.aG (L2.KOf KX) mg "_law_is_near" My.qj ["_law_rows_here","_law_row","_law_column"]:=by
   dsimp only[L2.KOf];refine' L2.bB KX G ?a ?l ?c ?k ?b
   (case a=>k_is);(case l=>k_is);(case c=>k_is);(case k=>k_is)
   (case b=>exact λ_ _ _ _ _ _ us hl=>match us,hl with | [_,_,_],_=>rfl)
  have Eh:L2.aG (L2.KOf KX) mg "_law_starts" My.wW ["_law_rows_here","_law_cell"]:=by
   dsimp only[L2.KOf];refine' L2.bB KX G ?a ?l ?c ?k ?b
   (case a=>k_is);(case l=>k_is);(case c=>k_is);(case k=>k_is)
   (case b=>exact λ_ _ _ _ _ _ us hl=>match us,hl with | [_,_],_=>rfl)
  have yM:L2.aG (L2.KOf KX) mg "_law_straight" My.rD ["_law_rows_here","_law_cell","_law_letters_here","_law_many"]:=by
   dsimp only[L2.KOf];refine' L2.bB KX G ?a ?l ?c ?k ?b
   (case a=>k_is);(case l=>k_is);(case c=>k_is);(case k=>k_is)
   (case b=>exact λ_ _ _ _ _ _ us hl=>match us,hl with | [_,_,_,_],_=>rfl)
  have Ei:L2.aG (L2.KOf KX) mg "_law_joined" My.wX ["_law_rows_here","_law_begin","_law_cells"]:=by
   dsimp only[L2.KOf];refine' L2.bB KX G ?a ?l ?c ?k ?b
   (case a=>k_is);(case l=>k_is);(case c=>k_is);(case k=>k_is)
   (case b=>exact λ_ _ _ _ _ _ us hl=>match us,hl with | [_,_,_],_=>rfl)
  have vI:L2.aG (L2.KOf KX) mg "_law_cells_due" My.pP ["_law_rows_here","_law_begin","_law_laying"]:=by
   dsimp only[L2.KOf];refine' L2.bB KX G ?a ?l ?c ?k ?b
   (case a=>k_is);(case l=>k_is);(case c=>k_is);(case k=>k_is)
   (case b=>exact λ_ _ _ _ _ _ us hl=>match us,hl with | [_,_,_],_=>rfl)
  have Ba:L2.aG (L2.KOf KX) mg "_law_missing" My.uq ["_law_rows_here","_law_laying","_law_words_here"]:=by
   dsimp only[L2.KOf];refine' L2.bB KX G ?a ?l ?c ?k ?b
   (case a=>k_is);(case l=>k_is);(case c=>k_is);(case k=>k_is)
   (case b=>exact λ_ _ _ _ _ _ us hl=>match us,hl with | [_,_,_],_=>rfl)
  have Ia:L2.aG (L2.KOf KX) mg "_law_class" My.Bk ["_law_error"]:=by
   dsimp only[L2.KOf];refine' L2.bB KX G ?a ?l ?c ?k ?b
   (case a=>k_is);(case l=>k_is);(case c=>k_is);(case k=>k_is)
   (case b=>exact λ_ _ _ _ _ _ us hl=>match us,hl with | [_],_=>rfl)
  have Ej:L2.aG (L2.KOf KX) mg "_law_caught" My.wZ ["_law_board","_law_book","_law_rack","_law_laying"]:=by
   dsimp only[L2.KOf];refine' L2.bB KX G ?a ?l ?c ?k ?b
   (case a=>k_is);(case l=>k_is);(case c=>k_is);(case k=>k_is)
   (case b=>exact λ_ _ _ _ _ _ us hl=>match us,hl with | [_,_,_,_],_=>rfl)
  have Ib:L2.aG (L2.KOf KX) mg "_law_tiles" My.Bl ["_law_laying"]:=by
   dsimp only[L2.KOf];refine' L2.bB KX G ?a ?l ?c ?k ?b
   (case a=>k_is);(case l=>k_is);(case c=>k_is);(case k=>k_is)
   (case b=>exact λ_ _ _ _ _ _ us hl=>match us,hl with | [_],_=>rfl)
  have Ie:L2.aG (L2.KOf KX) mg "_law_known" My.Bm ["_law_rows_here","_law_laying","_law_cell","_law_letters_here"]:=by
   dsimp only[L2.KOf];refine' L2.bB KX G ?a ?l ?c ?k ?b
   (case a=>k_is);(case l=>k_is);(case c=>k_is);(case k=>k_is)
   (case b=>exact λ_ _ _ _ _ _ us hl=>match us,hl with | [_,_,_,_],_=>rfl)
  have Oh:L2.aG (L2.KOf KX) mg "_law_told" My.Ft ["_law_board","_law_words_here","_law_laying","_law_rows_here"]:=by
   dsimp only[L2.KOf];refine' L2.bB KX G ?a ?l ?c ?k ?b
   (case a=>k_is);(case l=>k_is);(case c=>k_is);(case k=>k_is)
   (case b=>exact λ_ _ _ _ _ _ us hl=>match us,hl with | [_,_,_,_],_=>rfl)
  have Xd:∃C f0 f1 f2 f3 f4 jq gH fd2 wk Q8,My.xP (L2.KOf KX) mg C f0 f1 f2 f3 f4 jq gH fd2 wk Q8:=by
   dsimp only[L2.KOf];refine' My.Y8 KX G ?aC ?a0 ?i0 ?l0 ?c0 ?k0 ?a1 ?i1 ?l1 ?c1 ?k1 ?a2 ?i2 ?l2 ?c2 ?k2 ?a3 ?i3 ?l3 ?c3 ?k3 ?a4 ?i4 ?l4 ?c4 ?k4 ?pg ?hd ?po ?sa ?mk ?kc ?NK ?nf1 ?nf2
   (case aC=>k_is)
   (case a0=>k_is)
   (case i0=>k_is)
   (case l0=>k_is)
   (case c0=>k_is)
   (case k0=>k_is)
   (case a1=>k_is)
   (case i1=>k_is)
   (case l1=>k_is)
   (case c1=>k_is)
   (case k1=>k_is)
   (case a2=>k_is)
   (case i2=>k_is)
   (case l2=>k_is)
   (case c2=>k_is)
   (case k2=>k_is)
   (case a3=>k_is)
   (case i3=>k_is)
   (case l3=>k_is)
   (case c3=>k_is)
   (case k3=>k_is)
   (case a4=>k_is)
   (case i4=>k_is)
   (case l4=>k_is)
   (case c4=>k_is)
   (case k4=>k_is)
   (case pg=>k_is)
   (case hd=>k_is)
   (case po=>k_is)
   (case sa=>k_is)
   (case mk=>k_is)
   (case kc=>k_is)
   (case NK=>k_is)
   (case nf1=>k_is)
   (case nf2=>k_is)
  obtain⟨_,_,_,_,_,_,_,_,_,_,_,Zu⟩:=Xd;have Zv:∃C f0 f1 f2 f3 jq gH fd2 wk,My.zU (L2.KOf KX) mg C f0 f1 f2 f3 jq gH fd2 wk:=by
   dsimp only[L2.KOf];refine' My.abC KX G ?aC ?a0 ?i0 ?l0 ?c0 ?k0 ?a1 ?i1 ?l1 ?c1 ?k1 ?a2 ?i2 ?l2 ?c2 ?k2 ?a3 ?i3 ?l3 ?c3 ?k3 ?pg ?hd ?po ?sa ?mk ?kc ?NK
   (case aC=>k_is)
   (case a0=>k_is)
   (case i0=>k_is)
   (case l0=>k_is)
   (case c0=>k_is)
   (case k0=>k_is)
   (case a1=>k_is)
   (case i1=>k_is)
   (case l1=>k_is)
   (case c1=>k_is)
   (case k1=>k_is)
   (case a2=>k_is)
   (case i2=>k_is)
   (case l2=>k_is)
   (case c2=>k_is)
   (case k2=>k_is)
   (case a3=>k_is)
   (case i3=>k_is)
   (case l3=>k_is)
   (case c3=>k_is)
   (case k3=>k_is)
   (case pg=>k_is)
   (case hd=>k_is)
   (case po=>k_is)
   (case sa=>k_is)
   (case mk=>k_is)
   (case kc=>k_is)
   (case NK=>k_is)
  obtain⟨_,_,_,_,_,_,_,_,_,abS⟩:=Zv;have xer:∃bf bH bF bU bM aZ bC cA bY cB cQ cD dH cF cR CR fQ jx dO eU k_ qF jh jE,My.Y9 (L2.KOf KX) mg bf bH bF bU bM aZ bC cA bY cB cQ cD dH cF cR CR fQ jx dO eU k_ qF jh jE:=by
   dsimp only[L2.KOf];refine' My.abG KX G ?xR ?Bx ?zV ?Ko ?Hw ?uO ?xT ?Dp ?zW ?Dq ?Hx ?Dr ?NQ ?Du ?Hy ?aR ?nU ?qG ?wu ?xU ?Hz ?zX ?Tp ?HB ?zY ?Dv ?NT ?Dw ?Dy ?Dz ?DG ?zZ ?DK ?DN ?DP ?DQ ?vg ?pq ?Xc ?NZ ?N5 ?N6 ?N7 ?HD ?N8 ?N_ ?Oa ?Ob ?z9 ?tQ ?Gk ?xV ?xW ?xX ?xY ?vh ?xZ ?yc ?yd ?yg ?pA ?JL ?z_ ?Aa ?Ab ?Ac ?yh ?Ad ?Ae ?Af ?Ag ?qJ ?hn ?ht ?vm ?vo ?vp ?vq ?vA ?vB ?yj ?yp ?yq ?yr ?yt ?yu ?yw ?tR ?yx ?HF ?HJ ?HN ?yC ?yD ?yE ?yF ?yG ?yH ?Ah ?Ai ?Aj ?Gm ?Gn ?Gp ?Gq ?Ak ?Gr ?Tq ?Tr ?Tt ?DR ?DW ?DX ?DY ?D_ ?Ea ?HS ?HW ?HX ?rG ?rH ?rJ ?rK ?nW ?rM ?Al ?Am ?Ao ?uP ?uQ ?uR ?uT ?qH ?uU ?Eb ?Ec ?Ed ?nn ?g2 ?rd ?fc
   (case xR=>k_is)
   (case Bx=>k_is)
   (case zV=>k_is)
   (case Ko=>k_is)
   (case Hw=>k_is)
   (case uO=>k_is)
   (case xT=>k_is)
   (case Dp=>k_is)
   (case zW=>k_is)
   (case Dq=>k_is)
   (case Hx=>k_is)
   (case Dr=>k_is)
   (case NQ=>k_is)
   (case Du=>k_is)
   (case Hy=>k_is)
   (case aR=>k_is)
   (case nU=>k_exc)
   (case qG=>k_exc)
   (case wu=>k_exc)
   (case xU=>kernel_rfl)
   (case Hz=>kernel_rfl)
   (case zX=>kernel_rfl)
   (case Tp=>kernel_rfl)
   (case HB=>kernel_rfl)
   (case zY=>kernel_rfl)
   (case Dv=>kernel_rfl)
   (case NT=>k_is)
   (case Dw=>k_is)
   (case Dy=>k_is)
   (case Dz=>k_is)
   (case DG=>k_is)
   (case zZ=>kernel_rfl)
   (case DK=>k_is)
   (case DN=>kernel_rfl)
   (case DP=>k_is)
   (case DQ=>k_is)
   (case vg=>k_is)
   (case pq=>k_is)
   (case Xc=>k_is)
   (case NZ=>k_is)
   (case N5=>k_is)
   (case N6=>k_is)
   (case N7=>k_is)
   (case HD=>kernel_rfl)
   (case N8=>k_is)
   (case N_=>kernel_rfl)
   (case Oa=>k_is)
   (case Ob=>k_is)
   (case z9=>k_is)
   (case tQ=>k_is)
   (case Gk=>k_is)
   (case xV=>k_is)
   (case xW=>k_is)
   (case xX=>k_is)
   (case xY=>k_is)
   (case vh=>kernel_rfl)
   (case xZ=>k_is)
   (case yc=>kernel_rfl)
   (case yd=>k_is)
   (case yg=>k_is)
   (case pA=>k_is)
   (case JL=>k_is)
   (case z_=>k_is)
   (case Aa=>k_is)
   (case Ab=>k_is)
   (case Ac=>k_is)
   (case yh=>kernel_rfl)
   (case Ad=>k_is)
   (case Ae=>kernel_rfl)
   (case Af=>k_is)
   (case Ag=>k_is)
   (case qJ=>k_is)
   (case hn=>k_is)
   (case ht=>k_is)
   (case vm=>kernel_rfl)
   (case vo=>k_is)
   (case vp=>k_is)
   (case vq=>k_is)
   (case vA=>k_is)
   (case vB=>k_is)
   (case yj=>kernel_rfl)
   (case yp=>kernel_rfl)
   (case yq=>kernel_rfl)
   (case yr=>kernel_rfl)
   (case yt=>k_is)
   (case yu=>k_is)
   (case yw=>k_is)
   (case tR=>k_is)
   (case yx=>k_is)
   (case HF=>kernel_rfl)
   (case HJ=>kernel_rfl)
   (case HN=>kernel_rfl)
   (case yC=>kernel_rfl)
   (case yD=>k_is)
   (case yE=>k_is)
   (case yF=>k_is)
   (case yG=>k_is)
   (case yH=>k_is)
   (case Ah=>kernel_rfl)
   (case Ai=>kernel_rfl)
   (case Aj=>kernel_rfl)
   (case Gm=>kernel_rfl)
   (case Gn=>k_is)
   (case Gp=>k_is)
   (case Gq=>k_is)
   (case Ak=>k_is)
   (case Gr=>k_is)
   (case Tq=>kernel_rfl)
   (case Tr=>kernel_rfl)
   (case Tt=>kernel_rfl)
   (case DR=>kernel_rfl)
   (case DW=>k_is)
   (case DX=>k_is)
   (case DY=>k_is)
   (case D_=>k_is)
   (case Ea=>k_is)
   (case HS=>kernel_rfl)
   (case HW=>kernel_rfl)
   (case HX=>kernel_rfl)
   (case rG=>kernel_rfl)
   (case rH=>k_is)
   (case rJ=>k_is)
   (case rK=>k_is)
   (case nW=>k_is)
   (case rM=>k_is)
   (case Al=>kernel_rfl)
   (case Am=>kernel_rfl)
   (case Ao=>kernel_rfl)
   (case uP=>kernel_rfl)
   (case uQ=>k_is)
   (case uR=>k_is)
   (case uT=>k_is)
   (case qH=>k_is)
   (case uU=>k_is)
   (case Eb=>kernel_rfl)
   (case Ec=>kernel_rfl)
   (case Ed=>kernel_rfl)
   (case nn=>kernel_rfl)
   (case g2=>k_is)
   (case rd=>k_is)
   (case fc=>k_is)
  obtain⟨_,_,_,_,_,_,_,_,_,_,_,_,_,_,_,_,_,_,_,_,_,_,_,_,er⟩:=xer;have lw:∃fd:FuncData,L2.fG (L2.KOf KX) "law" "law" My.Kg fa fd/\∀(s:Shared) (v:Value),BindsTo s fd ⟨[v],[]⟩ [("_law_script",v)]:=by
   dsimp only[L2.KOf];refine' L2.acY KX G hmg ?a ?l ?c ?k ?b
   (case a=>k_is);(case l=>k_is);(case c=>k_is);(case k=>k_is)
   (case b=>exact λ_ _ _ _ _ _ _=>rfl)
  obtain⟨fd,F,hb⟩:=lw;exact⟨fd,hb,λbase _ _=>My.abH aX cI bW kE o7 aV qu jZ rE dU uG FP Bt Bu kY dW vW vV kJ rN Aq vC Av Aw yI yJ vD nY qK yK qL vG vH yL pU Ax lq Ef tU mO tV pB qM pC Ay tW Az Oc A_ Od Oe HY Og Tv H_ uV Eh yM Ei vI Ba Ia Ej Ib Ie Oh Zu abS er F⟩

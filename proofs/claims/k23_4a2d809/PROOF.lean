import PyProof.Rows.All
import Wide.All
import OpenK.AllK
import Wide.FinOn
import Lean
import PyProof.EqAt
import PyProof.EqKinds
import PyProof.TupleCall
import KE.KRevIter
import PyProof.JoinWalk
import PyProof.CollectIter
import KE.KDictSum
import KE.KSortTup
import OpenK.KRaise
import PyProof.StationsW
import OpenK.KOwn
import KE.KTryMore
import KE.KIsNot
import PyProof.NsDelKeeps
import KE.KIsAll
import PyProof.ExcArgs
import PyProof.ListMulRoad
import PyProof.Rows.SeqMore
import PyProof.FactsAll.tuple_2
import PyProof.ExcInit
import OpenK.KCls
import PyProof.WalkInts
import PyProof.SeqI3
import PySem.Challenge.RW_letterrack_k23_tiles_that_are_lacking
section
set_option Elab.async false
set_option linter.all false
set_option maxRecDepth 100000
namespace L2
open PySem PySem.Spec PyProof.Rows
abbrev Key:=Sum Int Str
def keyIs:Key→Value→Bool
 | .inl k,v=>Value.isInt k v
 | .inr x,v=>Value.isStrOf x v
def keyH (w:World):Key→Int
 | .inl k=>hashInt k
 | .inr x=>hashStr w x
theorem keyIs_shape:∀ {k:Key} {v:Value},keyIs k v=true→(∃ i t,k=Sum.inl i∧v=Value.int i t)∨(∃ x t,k=Sum.inr x∧v=Value.str x t)
 | .inl i,v,h=>by
  obtain ⟨t,e⟩:=Value.isInt_shape (k:=i) (v:=v) h
  exact .inl ⟨i,t,rfl,e⟩
 | .inr x,v,h=>by
  obtain ⟨t,e⟩:=Value.isStrOf_shape (x:=x) (v:=v) h
  exact .inr ⟨x,t,rfl,e⟩
theorem keyIs_int (i:Int) (t:Tok):keyIs (.inl i) (.int i t)=true:=by simp [keyIs,Value.isInt]
theorem keyIs_str (x:Str) (t:Tok):keyIs (.inr x) (.str x t)=true:=by simp [keyIs,Value.isStrOf]
theorem key_ll (a b:Int):decide ((Sum.inl a:Key)=Sum.inl b)=(a == b):=by
 by_cases e:a=b
 ·subst e;simp
 ·have h:¬(Sum.inl a:Key)=Sum.inl b:=fun q=>e (Sum.inl.inj q)
  rw [decide_eq_false h]
  exact (beq_eq_false_iff_ne.mpr e).symm
theorem key_rr (a b:Str):decide ((Sum.inr a:Key)=Sum.inr b)=decide (a=b):=by
 by_cases e:a=b
 ·subst e;simp
 ·have h:¬(Sum.inr a:Key)=Sum.inr b:=fun q=>e (Sum.inr.inj q)
  rw [decide_eq_false h,decide_eq_false e]
theorem key_lr (a:Int) (b:Str):decide ((Sum.inl a:Key)=Sum.inr b)=false:=decide_eq_false (fun q=>nomatch q)
theorem key_rl (a:Str) (b:Int):decide ((Sum.inr a:Key)=Sum.inl b)=false:=decide_eq_false (fun q=>nomatch q)
def mixKind (prog:Program) (w:World):PySem.KeyKind prog w Key where
 is:=keyIs
 hash:=keyH w
 inj:=fun v a b ha hb=>by
  rcases keyIs_shape ha with ⟨i,t,rfl,rfl⟩ | ⟨x,t,rfl,rfl⟩
  ·rcases keyIs_shape hb with ⟨j,u,rfl,e⟩ | ⟨y,u,rfl,e⟩
   ·injection e with e1 _;rw [e1]
   ·exact nomatch e
  ·rcases keyIs_shape hb with ⟨j,u,rfl,e⟩ | ⟨y,u,rfl,e⟩
   ·exact nomatch e
   ·injection e with e1 _;rw [e1]
 byValue:=fun k v h=>by
  rcases keyIs_shape h with ⟨i,t,rfl,rfl⟩ | ⟨x,t,rfl,rfl⟩ <;> rfl
 pyHash:=fun hv h=>by
  rcases keyIs_shape hv with ⟨i,t,rfl,rfl⟩ | ⟨x,t,rfl,rfl⟩
  ·exact wpAny_pyHash_int h
  ·exact wpAny_pyHash_str h
 eqBool:=fun hu hv h=>by
  rcases keyIs_shape hu with ⟨i,t,rfl,rfl⟩ | ⟨x,t,rfl,rfl⟩
  ·rcases keyIs_shape hv with ⟨j,u,rfl,rfl⟩ | ⟨y,u,rfl,rfl⟩
   ·rw [key_ll] at h;exact wpAny_eqBool_int h
   ·rw [key_lr] at h;exact SeqAt.EqAt.int_str i t y u _ _ _ _ h
  ·rcases keyIs_shape hv with ⟨j,u,rfl,rfl⟩ | ⟨y,u,rfl,rfl⟩
   ·rw [key_rl] at h;exact SeqAt.EqAt.str_int x t j u _ _ _ _ h
   ·rw [key_rr] at h;exact wpAny_eqBool_str h
 «strs»:=fun k x t v h=>by
  rcases keyIs_shape h with ⟨i,u,rfl,e⟩ | ⟨y,u,rfl,e⟩
  ·exact nomatch e
  ·injection e with e1 _
   subst e1
   cases v <;> rfl
theorem mixKind_int (prog:Program) (w:World) (i:Int) (t:Tok):(mixKind prog w).is (.inl i) (.int i t)=true:=keyIs_int i t
theorem mixKind_str (prog:Program) (w:World) (x:Str) (t:Tok):(mixKind prog w).is (.inr x) (.str x t)=true:=keyIs_str x t
end L2
namespace L2
open PySem PySem.Spec PyProof.Rows
inductive V where
 | non | bl (b:Bool) | int (i:Int) | str (x:Str) | byt (b:Array UInt8) | flt (b:UInt64) | ref (a:Addr) | ty (n:String)
 deriving DecidableEq
def RelV:V→Value→Prop
 | .non,u=>u=Value.none
 | .bl b,u=>u=Value.bool b
 | .int i,u=>∃ t,u=Value.int i t
 | .str x,u=>∃ t,u=Value.str x t
 | .byt b,u=>∃ t,u=Value.bytes b t
 | .flt b,u=>∃ t,u=Value.float b t
 | .ref a,u=>u=Value.ref a
 | .ty n,u=>u=Value.type n
abbrev Vals:List V→List Value→Prop:=Paired RelV
theorem Vals.length {xs:List V} {us:List Value} (r:Vals xs us):xs.length=us.length:=Paired.length r
theorem Vals.get:∀ {xs:List V} {us:List Value} {i:Nat} {x:V},Vals xs us→xs[i]?=some x→∃ u,us[i]?=some u∧RelV x u
 | _,_,_,_,.nil,e=>by simp at e
 | _,_,0,_,.cons r _,e=>by simp at e;subst e;exact ⟨_,rfl,r⟩
 | _,_,i + 1,x,.cons _ t,e=>by
  obtain ⟨u,h1,h2⟩:=Vals.get (i:=i) (x:=x) t (by simpa using e)
  exact ⟨u,by simpa using h1,h2⟩
theorem Vals.set {x:V} {u:Value} (r:RelV x u):∀ {xs:List V} {us:List Value} (i:Nat),Vals xs us→Vals (xs.set i x) (us.set i u)
 | _,_,_,.nil=>.nil
 | _,_,0,.cons _ t=>.cons r t
 | _,_,i + 1,.cons q t=>.cons q (Vals.set r i t)
theorem Vals.append:∀ {xs ys:List V} {us ws:List Value},Vals xs us→Vals ys ws→Vals (xs ++ ys) (us ++ ws)
 | _,_,_,_,.nil,s=>s
 | _,_,_,_,.cons r t,s=>.cons r (Vals.append t s)
theorem Vals.take:∀ {xs:List V} {us:List Value} (n:Nat),Vals xs us→Vals (xs.take n) (us.take n)
 | _,_,0,_=>.nil
 | _,_,_ + 1,.nil=>.nil
 | _,_,n + 1,.cons r t=>.cons r (Vals.take n t)
theorem Vals.drop:∀ {xs:List V} {us:List Value} (n:Nat),Vals xs us→Vals (xs.drop n) (us.drop n)
 | _,_,0,r=>r
 | _,_,_ + 1,.nil=>.nil
 | _,_,n + 1,.cons _ t=>Vals.drop n t
def RelO:Option V→Option Value→Prop
 | some v,some u=>RelV v u
 | none,none=>True
 | _,_=>False
def KV {κ:Type}:List (κ × V)→List (κ × Value)→Prop:=Paired fun (p:κ × V) (q:κ × Value)=>p.1=q.1∧RelV p.2 q.2
def kV:Key→V
 | .inl i=>.int i
 | .inr x=>.str x
inductive HO where
 | lst (xs:List V)
 | tup (xs:List V)
 | dK (kvs:List (Key × V)) | dT (kvs:List (List Key × V))
 | set (S:Int→Bool) (n:Nat)
 | ins (C dx:Addr) (fs:List (Str × V))
 | own (x:Addr)
 | xd (fs:List (Str × V))
 | met (f x:Addr)
 | rng (lo hi:Int)
 | frz (o:Obj) (u:HO)
 | tbl (ps:Array Value)
 | ext (φ:Heap→Prop)
abbrev Hp:=Addr→Option HO
def upd (H:Hp) (a:Addr) (o:HO):Hp:=fun b=>if b=a then some o else H b
theorem upd_same {H:Hp} {a:Addr} {o:HO}:upd H a o a=some o:=by unfold upd;rw [if_pos rfl]
theorem upd_ne {H:Hp} {a b:Addr} {o:HO} (h:b≠a):upd H a o b=H b:=by unfold upd;rw [if_neg h]
theorem ne_of {H:Hp} {a b:Addr} {o u:HO} (h:H a=some o) (h':H b=some u) (d:o≠u):a≠b:=by
 intro e;subst e;rw [h] at h';exact d (Option.some.inj h')
theorem ne_of_none {H:Hp} {a b:Addr} {o:HO} (h:H a=some o) (h':H b=none):a≠b:=by
 intro e;subst e;rw [h] at h';cases h'
section
variable (P:Program) (w:World)
def ObjOk (H:Hp) (h:Heap) (a:Addr):HO→Prop
 | .lst xs=>xs.length≤sizeLine∧∃ (its:List Value) (n:Nat),Vals xs its∧h.get? a=some { cls:=.type "list",data:=.seq its.toArray n }
 | .tup xs=>xs.length≤sizeLine∧∃ its:List Value,Vals xs its∧IsTup h a its.toArray
 | .dK kvs=>kvs.length≤sizeLine∧(a == sysModules)=false∧∃ vs,KV kvs vs∧h.DictOf (mixKind P w) a vs
 | .dT kvs=>kvs.length≤sizeLine∧(a == sysModules)=false∧∃ xs:List (List Key × Addr × Value),
   Paired (fun (p:List Key × V) (q:List Key × Addr × Value)=>p.1=q.1∧H q.2.1=some (.tup (p.1.map kV))∧RelV p.2 q.2.2) kvs xs∧
   ∃ o es ep,h.get? a=some o∧o.ExactDict∧o.data=.dict es ep∧es.toList=xs.map (entryOfKey (tupleKind (mixKind P w)))∧(xs.map (·.1)).Nodup
 | .set S n=>h.SetOf (intKind P w) a S n
 | .ins C dx fs=>H dx=some (.own a)∧fs.length≤1000∧dx≠a∧h.get? a=some (PySem.W.instObj C dx)∧
   ∃ mA,h.Ns1 dx mA∧(∀ f,RelO (fs.lookup f) (mA f))∧PySem.Within mA (fs.map (·.1))
 | .own _=>∃ o,h.get? a=some o
 | .xd fs=>∃ mA,h.Ns1 a mA∧∀ f,RelO (fs.lookup f) (mA f)
 | .rng lo hi=>∃ t u v,h.get? a=some { cls:=.type "range",data:=.fields #[.int lo t,.int hi u,.int 1 v] }
 | .frz o u=>h.get? a=some o∧ObjOk H h a u
 | .tbl ps=>h.get? a=some { cls:=.none,data:=.fields ps }
 | .met f x=>h.get? a=some (PySem.W.methodObj (.ref f) (.ref x))
 | .ext φ=>φ h∧(∃ o,h.get? a=some o)∧∀ h1 h2:Heap,φ h1→(∀ o,h1.get? a=some o→h2.get? a=some o)→φ h2
def HOk (H:Hp) (h:Heap):Prop:=∀ a o,H a=some o→ObjOk P w H h a o
end
section
variable {P:Program} {w:World} {H H':Hp} {h h':Heap} {a:Addr} {o:HO}
theorem ObjOk.lt (x:ObjOk P w H h a o):a < h.objs.size:=by
 cases o with
 | lst xs=>obtain ⟨_,_,_,_,e⟩:=x;exact Heap.lt_size e
 | tup xs=>obtain ⟨_,_,_,p⟩:=x;exact p.lt
 | dK kvs=>obtain ⟨_,_,_,_,o,_,_,e,_⟩:=x;exact Heap.lt_size e
 | dT kvs=>obtain ⟨_,_,_,_,o,_,_,e,_⟩:=x;exact Heap.lt_size e
 | set S n=>obtain ⟨o,_,_,_,e,_⟩:=x;exact Heap.lt_size e
 | ins C dx fs=>obtain ⟨_,_,_,e,_⟩:=x;exact Heap.lt_size e
 | own y=>obtain ⟨_,e⟩:=x;exact Heap.lt_size e
 | xd fs=>obtain ⟨_,⟨_,_,_,e,_⟩,_⟩:=x;exact Heap.lt_size e
 | rng lo hi=>obtain ⟨_,_,_,e⟩:=x;exact Heap.lt_size e
 | frz ob u=>obtain ⟨e,_⟩:=x;exact Heap.lt_size e
 | tbl ps=>exact Heap.lt_size (show h.get? a=some _ from x)
 | met f y=>exact Heap.lt_size (show h.get? a=some _ from x)
 | ext φ=>obtain ⟨_,⟨_,e⟩,_⟩:=x;exact Heap.lt_size e
theorem Paired.mapP {α β:Type} {F G:α→β→Prop}:∀ {l₁:List α} {l₂:List β},Paired F l₁ l₂→(∀ a b,F a b→G a b)→Paired G l₁ l₂
 | _,_,.nil,_=>.nil
 | _,_,.cons r t,f=>.cons (f _ _ r) (Paired.mapP t f)
theorem ObjOk.stay (x:ObjOk P w H h a o) (k:∀ b u,(b=a∨H b=some (.own a))→h.get? b=some u→h'.get? b=some u)
  (ho:∀ b,H b=some (.own a)→H' b=some (.own a)) (ht:∀ b xs,H b=some (.tup xs)→H' b=some (.tup xs)):ObjOk P w H' h' a o:=by
 induction o with
 | lst xs=>obtain ⟨z,its,n,r,e⟩:=x;exact ⟨z,its,n,r,k _ _ (.inl rfl) e⟩
 | tup xs=>obtain ⟨z,its,r,ob,e,c⟩:=x;exact ⟨z,its,r,ob,k _ _ (.inl rfl) e,c⟩
 | dK kvs=>obtain ⟨z,y,vs,r,ob,es,ep,e,c⟩:=x;exact ⟨z,y,vs,r,ob,es,ep,k _ _ (.inl rfl) e,c⟩
 | dT kvs=>
  obtain ⟨z,y,xs,r,ob,es,ep,e,c⟩:=x
  exact ⟨z,y,xs,Paired.mapP r fun p q z=>⟨z.1,ht _ _ z.2.1,z.2.2⟩,ob,es,ep,k _ _ (.inl rfl) e,c⟩
 | set S n=>obtain ⟨ob,es,ep,t,e,c⟩:=x;exact ⟨ob,es,ep,t,k _ _ (.inl rfl) e,c⟩
 | ins C dx fs=>
  obtain ⟨d,z,ne,e,mA,⟨od,es,ep,e2,c⟩,r⟩:=x
  exact ⟨ho _ d,z,ne,k _ _ (.inl rfl) e,mA,⟨od,es,ep,k _ _ (.inr d) e2,c⟩,r⟩
 | own y=>obtain ⟨ob,e⟩:=x;exact ⟨ob,k _ _ (.inl rfl) e⟩
 | xd fs=>obtain ⟨mA,⟨od,es,ep,e,c⟩,r⟩:=x;exact ⟨mA,⟨od,es,ep,k _ _ (.inl rfl) e,c⟩,r⟩
 | rng lo hi=>obtain ⟨t,u,v,e⟩:=x;exact ⟨t,u,v,k _ _ (.inl rfl) e⟩
 | frz ob u ih=>obtain ⟨e,q⟩:=x;exact ⟨k _ _ (.inl rfl) e,ih q⟩
 | tbl ps=>
  have e:h.get? a=some { cls:=.none,data:=.fields ps }:=x
  show h'.get? a=some { cls:=.none,data:=.fields ps }
  exact k a _ (.inl rfl) e
 | met f y=>
  have e:h.get? a=some (PySem.W.methodObj (.ref f) (.ref y)):=x
  show h'.get? a=some (PySem.W.methodObj (.ref f) (.ref y))
  exact k a _ (.inl rfl) e
 | ext φ=>obtain ⟨p,⟨o,e⟩,st⟩:=x;exact ⟨st _ _ p fun o q=>k _ _ (.inl rfl) q,⟨o,k _ _ (.inl rfl) e⟩,st⟩
theorem HOk.lt (x:HOk P w H h) (e:H a=some o):a < h.objs.size:=(x a o e).lt
theorem HOk.fresh (x:HOk P w H h) (e:h.objs.size≤a):H a=none:=by
 cases q:H a with
 | none=>rfl
 | some u=>exact absurd (Nat.lt_of_lt_of_le (x.lt q) e) (Nat.lt_irrefl _)
theorem HOk.kept (x:HOk P w H h) (k:∀ b u,h.get? b=some u→h'.get? b=some u):HOk P w H h':=fun a o e=>
 (x a o e).stay (fun b u _ q=>k b u q) (fun _ q=>q) fun _ _ q=>q
theorem HOk.laid (x:HOk P w H h) (k:∀ b u,h.get? b=some u→h'.get? b=some u) (hp:h.objs.size≤a) (new:ObjOk P w (upd H a o) h' a o):HOk P w (upd H a o) h':=fun b u e=>by
 have hn:=x.fresh hp
 by_cases hb:b=a
 ·subst hb;rw [upd_same] at e;cases e;exact new
 ·rw [upd_ne hb] at e
  exact (x b u e).stay (fun c v _ q=>k c v q) (fun c q=>by rw [upd_ne (ne_of_none q hn)];exact q) fun c xs q=>by rw [upd_ne (ne_of_none q hn)];exact q
end
def Rd (H:Hp) (a:Addr) (u:HO):Prop:=H a=some u∨∃ o,H a=some (.frz o u)
theorem Rd.ok {P:Program} {w:World} {H:Hp} {h:Heap} {a:Addr} {u:HO} (r:Rd H a u) (x:HOk P w H h):ObjOk P w H h a u:=by
 rcases r with r | ⟨o,r⟩
 ·exact x a u r
 ·obtain ⟨_,q⟩:=x a _ r
  exact q
def Mut:Option HO→Prop
 | some (.lst _)=>True
 | some (.dK _)=>True
 | some (.dT _)=>True
 | some (.set _ _)=>True
 | some (.ins _ _ _)=>True
 | some (.ext _)=>True
 | _=>False
section
variable {P:Program} {w:World} {H:Hp} {h h':Heap} {x e:Addr} {o':HO}
theorem HOk.write (ok:HOk P w H h) (mu:Mut (H x)) (he:e=x∨H e=some (.own x)) (k:∀ b u,b≠e→h.get? b=some u→h'.get? b=some u) (heo:∃ u,h'.get? e=some u)
  (new:ObjOk P w (upd H x o') h' x o'):HOk P w (upd H x o') h':=fun b u q=>by
 have nown:∀ c y,H c=some (.own y)→c≠x:=fun c y r z=>by subst z;rw [r] at mu;exact mu
 have ntup:∀ c xs,H c=some (.tup xs)→c≠x:=fun c xs r z=>by subst z;rw [r] at mu;exact mu
 by_cases hb:b=x
 ·subst hb;rw [upd_same] at q;cases q;exact new
 ·rw [upd_ne hb] at q
  by_cases hbe:b=e
  ·have q':H b=some (.own x):=by
    rcases he with z | z
    ·exact absurd (hbe.trans z) hb
    ·rw [hbe];exact z
   rw [q] at q';cases q'
   obtain ⟨v,hv⟩:=heo
   exact ⟨v,by rw [hbe];exact hv⟩
  ·refine (ok b u q).stay (fun c v hc r=>k c v ?_ r) (fun c r=>by rw [upd_ne (nown c b r)];exact r) fun c xs r=>by rw [upd_ne (ntup c xs r)];exact r
   rcases hc with rfl | hc
   ·exact hbe
   ·rintro rfl
    rcases he with z | z
    ·exact nown c b hc z
    ·rw [hc] at z;cases z;exact hb rfl
end
structure Un (fs ex:List Addr) (H H':Hp) (h h':Heap):Prop where
 keep:∀ b o,h.get? b=some o→H b=none→b∉fs→b∉ex→h'.get? b=some o
 slot:∀ b o,h.get? b=some o→H b=none→b∈fs→b∉ex→∃ sl,h'.get? b=some { o with slots:=sl }
 free:∀ b o,h.get? b=some o→H b=none→b∉ex→H' b=none
 there:∀ b o,h.get? b=some o→b∉ex→∃ o',h'.get? b=some o'
 tups:∀ b xs,H b=some (.tup xs)→H' b=some (.tup xs)
 frzs:∀ b o u,H b=some (.frz o u)→H' b=some (.frz o u)
 tbls:∀ b ps,H b=some (.tbl ps)→∃ more,H' b=some (.tbl (ps ++ more))
section
variable {fs fs' ex ex':List Addr} {H H1 H2:Hp} {h h1 h2 h':Heap} {a x e:Addr} {o:HO}
theorem Un.any (u:Un fs ex H H1 h h1) {b:Addr} {ob:Obj} (q:h.get? b=some ob) (n:H b=none) (hx:b∉ex):∃ sl,h1.get? b=some { ob with slots:=sl }:=by
 by_cases hb:b∈fs
 ·exact u.slot b ob q n hb hx
 ·exact ⟨ob.slots,u.keep b ob q n hb hx⟩
theorem Un.kept (k:∀ b u,h.get? b=some u→h'.get? b=some u):Un fs ex H H h h':=
 ⟨fun b ob q _ _ _=>k b ob q,fun b ob q _ _ _=>⟨ob.slots,k b ob q⟩,fun _ _ _ n _=>n,fun b ob q _=>⟨ob,k b ob q⟩,fun _ _ q=>q,fun _ _ _ q=>q,fun _ ps q=>⟨#[],by rw [q];simp⟩⟩
theorem Un.refl:Un fs ex H H h h:=Un.kept fun _ _ q=>q
theorem Un.laid (k:∀ b u,h.get? b=some u→h'.get? b=some u) (hp:h.objs.size≤a) (hn:H a=none):Un fs ex H (upd H a o) h h' where
 keep:=fun b u q _ _ _=>k b u q
 slot:=fun b u q _ _ _=>⟨u.slots,k b u q⟩
 free:=fun b u q n _=>by rw [upd_ne (Nat.ne_of_lt (Nat.lt_of_lt_of_le (Heap.lt_size q) hp))];exact n
 there:=fun b u q _=>⟨u,k b u q⟩
 tups:=fun b xs q=>by rw [upd_ne (ne_of_none q hn)];exact q
 frzs:=fun b u xs q=>by rw [upd_ne (ne_of_none q hn)];exact q
 tbls:=fun b ps q=>⟨#[],by rw [upd_ne (ne_of_none q hn),q];simp⟩
theorem Un.write (mu:Mut (H x)) (he:e=x∨H e=some (.own x)) (k:∀ b u,b≠e→h.get? b=some u→h'.get? b=some u) (heo:∃ u,h'.get? e=some u):Un fs ex H (upd H x o) h h':=by
 have hx:∀ b,H b=none→b≠x:=fun b n z=>by subst z;rw [n] at mu;exact mu
 have hb:∀ b,H b=none→b≠e:=fun b n z=>by
  subst z
  rcases he with r | r
  ·exact hx b n r
  ·rw [n] at r;cases r
 have hm:∀ b u,H b=some u→¬Mut (some u)→b≠x:=fun b u q nm z=>by subst z;rw [q] at mu;exact nm mu
 refine ⟨fun b u q n _ _=>k b u (hb b n) q,fun b u q n _ _=>⟨u.slots,k b u (hb b n) q⟩,fun b u q n _=>by rw [upd_ne (hx b n)];exact n,fun b u q _=>?_,
  fun b xs q=>by rw [upd_ne (hm b _ q fun z=>z)];exact q,fun b u xs q=>by rw [upd_ne (hm b _ q fun z=>z)];exact q,fun b ps q=>⟨#[],by rw [upd_ne (hm b _ q fun z=>z),q];simp⟩⟩
 by_cases hbe:b=e
 ·subst hbe;exact heo
 ·exact ⟨u,k b u hbe q⟩
end
def trk (h:Heap) (H:Hp):List Addr:=(List.range h.objs.size).filter fun a=>(H a).isSome
def hidT (h:Heap) (H:Hp):Heap:=PySem.W.hideAll h (trk h H)
theorem hidT_size (h:Heap) (H:Hp):(hidT h H).objs.size=h.objs.size:=PySem.W.hideAll_size _ _
theorem hidT_get {h:Heap} {H:Hp} {b:Addr} {o:Obj} (e:h.get? b=some o) (n:H b=none):(hidT h H).get? b=some o:=
 PySem.W.hideAll_get _ e fun hm=>by
  have q:(H b).isSome=true:=(List.mem_filter.mp hm).2
  rw [n] at q;simp at q
theorem of_hidT {h:Heap} {H:Hp} {b:Addr} {o:Obj} (e:(hidT h H).get? b=some o):h.get? b=some o∧H b=none:=by
 have e':h.get? b=some o:=PySem.W.of_hideAll (trk h H) e
 refine ⟨e',?_⟩
 cases q:H b with
 | none=>rfl
 | some x=>
  have hm:b∈trk h H:=List.mem_filter.mpr ⟨List.mem_range.mpr (Heap.lt_size e'),by simp [q]⟩
  have z:(hidT h H).get? b=none:=PySem.W.hideAll_none (trk h H) hm
  rw [z] at e;cases e
end L2
namespace L2
open PySem PySem.Spec PyProof.Rows
structure Mod (K:PySem.W.Frag) (mg:Str→Option Value) (base:Heap):Prop where
 kin:K.In base
 glob:base.Ns mainGlobals mg
 blt:∃ mb,base.Ns builtinsNs mb∧∀ x:Str,x≠"__name__"→mb x=bootBuiltins x
 nolimit:base.NoLimit
structure Cx where
 prog:Program
 w:World
 K:PySem.W.Frag
 mg:Str→Option Value
 base:Heap
 A:Around
 N:List Str
 s₀:Shared
 H₀:Hp
 env:Env
 outer:List Env
 stack:List Env
 ex:List Addr
 fn:Str→Bool
 calm:Bool
 pn:List (Addr × Obj)
 xe:Value→Shared→Prop
def frs (l:List Env):List Addr:=l.filterMap (·.frame)
abbrev Cx.fs (X:Cx):List Addr:=frs X.outer
def Vis (sc:Scope) (x:Str):Prop:=sc.names.lookup x=some .local∨sc.names.lookup x=some .cell∨sc.names.lookup x=some .free
def Loc (sc:Scope) (x:Str):Prop:=sc.names.lookup x=some .local∨sc.names.lookup x=some .cell
def Look (env:Env) (h:Heap) (m:Str→Option Value) (x:Str) (u:Value):Prop:=
 (env.kindOf x=some .local∧m x=some u)∨((env.kindOf x=some .cell∨env.kindOf x=some .free)∧∃ c,env.cells.lookup x=some c∧h.IsCell c (some u))
structure Cx.Ok (X:Cx):Prop where
 mod:Mod X.K X.mg X.base
 kind:X.env.scope.kind=.function
 glob:X.env.globals=mainGlobals
 blt:X.env.builtins=builtinsNs
 above:X.s₀.heap.objs.size≤X.env.locals
 inj:∀ x y c,X.env.cells.lookup x=some c→X.env.cells.lookup y=some c→x=y
 has:∀ x,(X.env.kindOf x=some .cell∨X.env.kindOf x=some .free)→∃ c,X.env.cells.lookup x=some c
 cab:∀ x c,X.fn x=true→X.env.cells.lookup x=some c→X.s₀.heap.objs.size≤c
 hd:X.calm=true→X.A.handled=none
 frames:X.A.frames=some X.stack
 stk:X.stack=X.outer∨(X.stack=X.env :: X.outer∧X.env.frame=some X.env.locals)
 exf:∀ b∈X.ex,b≠X.env.locals∧∀ x c,X.env.cells.lookup x=some c→c≠b
 bs:∀ b o,X.base.get? b=some o→X.s₀.heap.get? b=some o∧X.H₀ b=none
 bsz:X.base.objs.size≤X.s₀.heap.objs.size
 noex:∀ b o,X.base.get? b=some o→b∉X.ex
 exfs:∀ b∈X.ex,b∉X.fs
 funs:X.s₀.heap.FunFrames X.base X.outer
 frf:∀ b∈X.fs,X.H₀ b=none
structure Inv (X:Cx) (pins:List (Addr × Obj)) (σ:List (Option V)) (H:Hp) (s:Shared):Prop where
 ok:X.Ok
 os:s.os=X.s₀.os
 bare:AllBare s.gens
 base:Un X.fs X.ex X.H₀ H X.s₀.heap s.heap
 loc:∃ m,s.heap.Ns X.env.locals m∧∀ (i:Nat) (x:Str) (v:V),X.N[i]?=some x→σ[i]?=some (some v)→Vis X.env.scope x→∃ u,RelV v u∧Look X.env s.heap m x u
 cell:∀ x c,X.env.cells.lookup x=some c→∃ v,s.heap.IsCell c v
 free:H X.env.locals=none
 freeC:∀ x c,X.env.cells.lookup x=some c→H c=none
 pin:∀ p∈X.pn ++ pins,s.heap.get? p.1=some p.2∧H p.1=none∧p.1≠X.env.locals∧p.1∉X.fs∧∀ v,p.2.data≠.cell v
 hok:HOk X.prog X.w H s.heap
 len:σ.length=X.N.length
section
variable {X:Cx} {pins:List (Addr × Obj)} {σ:List (Option V)} {H H':Hp} {s:Shared} {h':Heap}
theorem Cx.Ok.nofr (ok:X.Ok) {b:Addr} {o:Obj} (e:X.base.get? b=some o):b∉X.fs:=fun hb=>by
 have:=(ok.funs.mem hb).1
 rw [e] at this;cases this
theorem Inv.bs (I:Inv X pins σ H s):∀ b o,X.base.get? b=some o→s.heap.get? b=some o∧H b=none:=fun b o e=>
 ⟨I.base.keep b o (I.ok.bs b o e).1 (I.ok.bs b o e).2 (I.ok.nofr e) (I.ok.noex b o e),I.base.free b o (I.ok.bs b o e).1 (I.ok.bs b o e).2 (I.ok.noex b o e)⟩
theorem Inv.bk (I:Inv X pins σ H s):∀ b o,X.base.get? b=some o→s.heap.get? b=some o:=fun b o e=>(I.bs b o e).1
theorem Inv.mod (I:Inv X pins σ H s):Mod X.K X.mg X.base:=I.ok.mod
theorem Inv.kIn (I:Inv X pins σ H s):X.K.In s.heap:=I.ok.mod.kin.keeps I.bk
theorem Inv.lt (I:Inv X pins σ H s):X.env.locals < s.heap.objs.size:=let ⟨_,hn,_⟩:=I.loc;hn.lt
theorem Inv.sz (I:Inv X pins σ H s):X.s₀.heap.objs.size≤s.heap.objs.size:=Nat.le_trans I.ok.above (Nat.le_of_lt I.lt)
theorem Inv.nofs (I:Inv X pins σ H s) {a:Addr} (h:s.heap.objs.size≤a):a∉X.fs:=fun hb=>by
 obtain ⟨_,o,ho,_⟩:=I.ok.funs.mem hb
 exact absurd (Nat.lt_of_lt_of_le (Heap.lt_size ho) (Nat.le_trans I.sz h)) (Nat.lt_irrefl _)
theorem Inv.cne (I:Inv X pins σ H s):∀ x c,X.env.cells.lookup x=some c→c≠X.env.locals:=fun x c e z=>by
 obtain ⟨v,o,ho,hd⟩:=I.cell x c e
 obtain ⟨m,⟨o',es,ep,ho',hd',_⟩,_⟩:=I.loc
 rw [z,ho'] at ho;cases ho;rw [hd'] at hd;cases hd
theorem Inv.funs (I:Inv X pins σ H s):s.heap.FunFrames X.base X.outer:=by
 have all:∀ (l:List Env),(∀ b∈frs l,b∈X.fs)→X.s₀.heap.FunFrames X.base l→s.heap.FunFrames X.base l:=by
  intro l
  induction l with
  | nil=>intro _ _;trivial
  | cons env r ih=>
   intro hs hl
   obtain ⟨hk,⟨L,o,hf,hn,ho,hd⟩,hr⟩:=hl
   have hL:L∈X.fs:=hs L (by unfold frs;rw [List.filterMap_cons,hf];exact List.mem_cons_self)
   obtain ⟨sl,e⟩:=I.base.slot L o ho (I.ok.frf L hL) hL fun z=>I.ok.exfs L z hL
   exact ⟨hk,⟨L,_,hf,hn,e,hd⟩,ih (fun b hb=>hs b (by unfold frs;rw [List.filterMap_cons,hf];exact List.mem_cons_of_mem _ hb)) hr⟩
 exact all X.outer (fun _ hb=>hb) I.ok.funs
theorem Inv.stack (I:Inv X pins σ H s):s.heap.FunFrames X.base X.stack:=by
 rcases I.ok.stk with e | ⟨e,hf⟩
 ·rw [e];exact I.funs
 ·rw [e]
  obtain ⟨m,hn,_⟩:=I.loc
  refine .cons (by rw [I.ok.kind];decide) hf hn ?_ I.funs
  exact Heap.get?_none_of_le (Nat.le_trans I.ok.bsz I.ok.above)
theorem Inv.stkSub (I:Inv X pins σ H s):∀ b∈frs X.stack,b∈X.env.locals :: X.fs:=fun b hb=>by
 rcases I.ok.stk with e | ⟨e,hf⟩
 ·rw [e] at hb;exact List.mem_cons_of_mem _ hb
 ·rw [e] at hb
  unfold frs at hb
  rw [List.filterMap_cons,hf] at hb
  exact hb
theorem Inv.stkFree (I:Inv X pins σ H s):∀ b∈frs X.stack,H b=none:=fun b hb=>by
 rcases List.mem_cons.mp (I.stkSub b hb) with e | hb
 ·rw [e];exact I.free
 ·obtain ⟨_,o,ho,_⟩:=I.ok.funs.mem hb
  exact I.base.free b o ho (I.ok.frf b hb) fun z=>I.ok.exfs b z hb
theorem Inv.step {g':Array GenState} {t':Nat} {d':Drawn} {ch:List Addr} (I:Inv X pins σ H s)
  (hch:∀ b∈ch,(b∈X.ex∨X.s₀.heap.objs.size≤b)∧b≠X.env.locals∧(∀ x c,X.env.cells.lookup x=some c→c≠b)∧∀ p∈X.pn ++ pins,p.1≠b)
  (keep:∀ b o,b≠X.env.locals→b∉X.fs→b∉ch→s.heap.get? b=some o→H b=none→h'.get? b=some o)
  (slot:∀ b o,b≠X.env.locals→b∈X.fs→b∉ch→s.heap.get? b=some o→H b=none→∃ sl,h'.get? b=some { o with slots:=sl }) (free:∀ b o,b∉ch→s.heap.get? b=some o→H b=none→H' b=none)
  (there:∀ b o,b∉ch→s.heap.get? b=some o→∃ o',h'.get? b=some o')
  (tups:∀ b xs,H b=some (.tup xs)→H' b=some (.tup xs)) (frzs:∀ b o u,H b=some (.frz o u)→H' b=some (.frz o u)) (tbls:∀ b ps,H b=some (.tbl ps)→∃ more,H' b=some (.tbl (ps ++ more)))
  (ns:∀ m,s.heap.Ns X.env.locals m→h'.Ns X.env.locals m) (hok:HOk X.prog X.w H' h') (hg:AllBare g') :
  Inv X pins σ H' { s with heap:=h',gens:=g',drawn:=d',toks:=t' }:=by
 have neL:∀ b o,X.s₀.heap.get? b=some o→b≠X.env.locals:=fun b o e=>Nat.ne_of_lt (Nat.lt_of_lt_of_le (Heap.lt_size e) I.ok.above)
 have neC:∀ b o,X.s₀.heap.get? b=some o→b∉X.ex→b∉ch:=fun b o e hx hb=>by
  rcases (hch b hb).1 with z | z
  ·exact hx z
  ·exact absurd (Nat.lt_of_lt_of_le (Heap.lt_size e) z) (Nat.lt_irrefl _)
 have cellK:∀ x c,X.env.cells.lookup x=some c→∀ v,s.heap.IsCell c v→h'.IsCell c v:=fun x c e v ⟨o,ho,hd⟩=>by
  have nch:c∉ch:=fun z=>(hch c z).2.2.1 x c e rfl
  by_cases hc:c∈X.fs
  ·obtain ⟨sl,q⟩:=slot c o (I.cne x c e) hc nch ho (I.freeC x c e)
   exact ⟨_,q,hd⟩
  ·exact ⟨o,keep c o (I.cne x c e) hc nch ho (I.freeC x c e),hd⟩
 refine ⟨I.ok,I.os,hg,⟨fun b o e n hb hx=>?_,fun b o e n hb hx=>?_,fun b o e n hx=>?_,fun b o e hx=>?_,fun b xs e=>tups b xs (I.base.tups b xs e),fun b o xs e=>frzs b o xs (I.base.frzs b o xs e),fun b ps e=>?_⟩,?_,fun x c e=>?_,?_,fun x c e=>?_,fun p hp=>?_,hok,I.len⟩
 ·exact keep b o (neL b o e) hb (neC b o e hx) (I.base.keep b o e n hb hx) (I.base.free b o e n hx)
 ·obtain ⟨sl,e1⟩:=I.base.slot b o e n hb hx
  obtain ⟨sl',e2⟩:=slot b _ (neL b o e) hb (neC b o e hx) e1 (I.base.free b o e n hx)
  exact ⟨sl',e2⟩
 ·obtain ⟨o',e1⟩:=I.base.there b o e hx
  exact free b o' (neC b o e hx) e1 (I.base.free b o e n hx)
 ·obtain ⟨o',e1⟩:=I.base.there b o e hx
  exact there b o' (neC b o e hx) e1
 ·obtain ⟨m1,e1⟩:=I.base.tbls b ps e
  obtain ⟨m2,e2⟩:=tbls b _ e1
  exact ⟨m1 ++ m2,by rw [e2,Array.append_assoc]⟩
 ·obtain ⟨m,hn,hl⟩:=I.loc
  refine ⟨m,ns m hn,fun i x v e1 e2 e3=>?_⟩
  obtain ⟨u,r,l⟩:=hl i x v e1 e2 e3
  refine ⟨u,r,?_⟩
  rcases l with l | ⟨k,c,e,z⟩
  ·exact .inl l
  ·exact .inr ⟨k,c,e,cellK x c e _ z⟩
 ·obtain ⟨v,z⟩:=I.cell x c e
  exact ⟨v,cellK x c e v z⟩
 ·obtain ⟨m,⟨o,_,_,ho,_⟩,_⟩:=I.loc
  exact free _ o (fun z=>(hch _ z).2.1 rfl) ho I.free
 ·obtain ⟨v,o,ho,hd⟩:=I.cell x c e
  exact free c o (fun z=>(hch c z).2.2.1 x c e rfl) ho (I.freeC x c e)
 ·obtain ⟨e,n,ne,nf,d⟩:=I.pin p hp
  have nch:p.1∉ch:=fun z=>(hch p.1 z).2.2.2 p hp rfl
  exact ⟨keep p.1 p.2 ne nf nch e n,free p.1 p.2 nch e n,ne,nf,d⟩
theorem Inv.un {t':Nat} (I:Inv X pins σ H s) (u:Un X.fs [] H H' s.heap h') (hok:HOk X.prog X.w H' h'):Inv X pins σ H' { s with heap:=h',toks:=t' }:=by
 obtain ⟨m,⟨o,es,ep,ho,r⟩,_⟩:=id I.loc
 obtain ⟨sl,hL⟩:=u.any ho I.free (by simp)
 exact I.step (g':=s.gens) (d':=s.drawn) (ch:=[]) (fun _ z=>nomatch z) (fun b o _ hb _ e n=>u.keep b o e n hb (by simp)) (fun b o _ hb _ e n=>u.slot b o e n hb (by simp)) (fun b o _ e n=>u.free b o e n (by simp)) (fun b o _ e=>u.there b o e (by simp)) u.tups u.frzs u.tbls (fun m' hm=>by
  obtain ⟨o',es',ep',ho',r'⟩:=hm
  rw [ho] at ho';cases ho'
  exact ⟨_,es',ep',hL,r'⟩) hok I.bare
theorem Inv.call {g':Array GenState} {t':Nat} {d':Drawn} {ch:List Addr} (I:Inv X pins σ H s) (u:Un (frs X.stack) ch H H' s.heap h') (hok:HOk X.prog X.w H' h') (hg:AllBare g')
  (hch:∀ b∈ch,(b∈X.ex∨X.s₀.heap.objs.size≤b)∧b≠X.env.locals∧(∀ x c,X.env.cells.lookup x=some c→c≠b)∧∀ p∈X.pn ++ pins,p.1≠b) :
  Inv X pins σ H' { s with heap:=h',gens:=g',drawn:=d',toks:=t' }:=by
 obtain ⟨m,⟨o,es,ep,ho,r⟩,_⟩:=id I.loc
 obtain ⟨sl,hL⟩:=u.any ho I.free fun z=>(hch _ z).2.1 rfl
 exact I.step (ch:=ch) hch (fun b o hL hb hc e n=>u.keep b o e n (fun z=>(List.mem_cons.mp (I.stkSub b z)).elim hL hb) hc) (fun b o _ _ hc e n=>u.any e n hc) (fun b o hc e n=>u.free b o e n hc) (fun b o hc e=>u.there b o e hc) u.tups u.frzs u.tbls (fun m' hm=>by
  obtain ⟨o',es',ep',ho',r'⟩:=hm
  rw [ho] at ho';cases ho'
  exact ⟨_,es',ep',hL,r'⟩) hok hg
theorem Inv.turned {t':Nat} {it:Addr} (I:Inv X pins σ H s) (k:∀ b o,b≠it→s.heap.get? b=some o→h'.get? b=some o) (hn:H it=none) (hL:it≠X.env.locals)
  (h1:it∈X.ex∨X.s₀.heap.objs.size≤it) (h2:∀ x c,X.env.cells.lookup x=some c→c≠it) (h3:∀ p∈X.pn ++ pins,p.1≠it):Inv X pins σ H { s with heap:=h',toks:=t' }:=by
 have nit:∀ b u,H b=some u→b≠it:=fun b u e z=>by rw [z,hn] at e;cases e
 refine I.step (g':=s.gens) (d':=s.drawn) (ch:=[it]) (fun b hb=>?_) (fun b o _ _ hc e _=>k b o (fun z=>hc (by simp [z])) e) (fun b o _ _ hc e _=>⟨o.slots,k b o (fun z=>hc (by simp [z])) e⟩) (fun _ _ _ _ n=>n)
  (fun b o hc e=>⟨o,k b o (fun z=>hc (by simp [z])) e⟩) (fun _ _ e=>e) (fun _ _ _ e=>e) (fun b ps e=>⟨#[],by rw [e];simp⟩) (fun m hm=>?_) (fun b u e=>?_) I.bare
 ·have e:b=it:=by simpa using hb
  subst e
  exact ⟨h1,hL,h2,h3⟩
 ·obtain ⟨o,es,ep,ho,r⟩:=hm
  exact ⟨o,es,ep,k _ o (Ne.symm hL) ho,r⟩
 ·refine (I.hok b u e).stay (fun c v hc q=>k c v ?_ q) (fun _ q=>q) fun _ _ q=>q
  rcases hc with z | z
  ·rw [z];exact nit b u e
  ·exact nit c _ z
theorem Inv.tok (I:Inv X pins σ H s) (t:Nat):Inv X pins σ H { s with toks:=t }:=I.un (h':=s.heap) (t':=t) Un.refl I.hok
theorem Inv.kept {t':Nat} (I:Inv X pins σ H s) (k:∀ b u,s.heap.get? b=some u→h'.get? b=some u):Inv X pins σ H { s with heap:=h',toks:=t' }:=I.un (Un.kept k) (I.hok.kept k)
theorem Inv.laid {a:Addr} {o:HO} {t':Nat} (I:Inv X pins σ H s) (k:∀ b u,s.heap.get? b=some u→h'.get? b=some u) (hp:s.heap.objs.size≤a) (new:ObjOk X.prog X.w (upd H a o) h' a o) :
  Inv X pins σ (upd H a o) { s with heap:=h',toks:=t' }:=I.un (Un.laid k hp (I.hok.fresh hp)) (I.hok.laid k hp new)
theorem Inv.write {x e:Addr} {o:HO} {t':Nat} (I:Inv X pins σ H s) (mu:Mut (H x)) (he:e=x∨H e=some (.own x)) (k:∀ b u,b≠e→s.heap.get? b=some u→h'.get? b=some u) (heo:∃ u,h'.get? e=some u)
  (new:ObjOk X.prog X.w (upd H x o) h' x o):Inv X pins σ (upd H x o) { s with heap:=h',toks:=t' }:=I.un (Un.write mu he k heo) (I.hok.write mu he k heo new)
theorem Inv.pins_of {pins':List (Addr × Obj)} (I:Inv X pins σ H s) (h:∀ p∈pins',s.heap.get? p.1=some p.2∧H p.1=none∧p.1≠X.env.locals∧p.1∉X.fs∧∀ v,p.2.data≠.cell v):Inv X pins' σ H s:=
 ⟨I.ok,I.os,I.bare,I.base,I.loc,I.cell,I.free,I.freeC,fun p hp=>(List.mem_append.mp hp).elim (fun z=>I.pin p (List.mem_append_left _ z)) (h p),I.hok,I.len⟩
theorem nodup_ix {N:List Str} (hN:N.Nodup) {i j:Nat} {x:Str} (a:N[i]?=some x) (b:N[j]?=some x):i=j:=by
 obtain ⟨h1,e1⟩:=List.getElem?_eq_some_iff.mp a
 obtain ⟨h2,e2⟩:=List.getElem?_eq_some_iff.mp b
 exact (List.getElem_inj hN).mp (e1.trans e2.symm)
theorem store_ok2 {M:Model} {A:Around} {E:Value→Shared→Prop} {i:Nat} {x:Str} {v:V} {u:Value} {Q:Unit→Shared→Prop} (I:Inv X pins σ H s) (hN:X.N.Nodup) (hi:X.N[i]?=some x) (hx:Loc X.env.scope x) (r:RelV v u)
  (h:∀ s',Inv X pins (σ.set i (some v)) H s'→(∃ a,Heap.SameBut a s.heap s'.heap∧(a=X.env.locals∨X.env.cells.lookup x=some a))→Q () s') (hf:X.fn x=true∨X.env.scope.names.lookup x=some .local:=by first | exact .inl rfl | exact .inr rfl | assumption):wpAny M A (storeName X.env x u) Q E s:=by
 obtain ⟨m,hn,hl⟩:=id I.loc
 have hcls:(X.env.scope.kind == .class || (X.env.scope.kind == .module && X.env.locals != X.env.globals))=false:=by rw [I.ok.kind];rfl
 have hiσ:i < σ.length:=by rw [I.len];exact (List.getElem?_eq_some_iff.mp hi).1
 have cne:=I.cne
 have tracked:∀ {a:Addr} {h':Heap},(∃ o,s.heap.get? a=some o∧H a=none)→Heap.SameBut a s.heap h'→HOk X.prog X.w H h':=fun {a h'} ha hs b ob e=>by
  obtain ⟨_,_,hfree⟩:=ha
  refine (I.hok b ob e).stay (fun c w' hc q=>(hs.2 c ?_).trans q) (fun _ q=>q) fun _ _ q=>q
  rintro rfl
  rcases hc with rfl | hc
  ·rw [hfree] at e;cases e
  ·rw [hfree] at hc;cases hc
 rcases hx with hk | hk
 ·refine wpAny_storeName_local hk hn (fun h' hn' hs=>?_) hcls
  obtain ⟨oL,_,_,hoL,_⟩:=id hn
  refine h _ ⟨I.ok,I.os,I.bare,⟨fun b o e n hb hx=>?_,fun b o e n hb hx=>?_,I.base.free,fun b o e hx=>?_,I.base.tups,I.base.frzs,I.base.tbls⟩,⟨_,hn',fun j y v' e1 e2 e3=>?_⟩,fun y c e=>?_,I.free,I.freeC,fun p hp=>?_,tracked ⟨oL,hoL,I.free⟩ hs,by simpa using I.len⟩ ⟨_,hs,.inl rfl⟩
  ·exact (hs.2 b (Nat.ne_of_lt (Nat.lt_of_lt_of_le (Heap.lt_size e) I.ok.above))).trans (I.base.keep b o e n hb hx)
  ·obtain ⟨sl,e1⟩:=I.base.slot b o e n hb hx
   exact ⟨sl,(hs.2 b (Nat.ne_of_lt (Nat.lt_of_lt_of_le (Heap.lt_size e) I.ok.above))).trans e1⟩
  ·obtain ⟨o',e1⟩:=I.base.there b o e hx
   exact ⟨o',(hs.2 b (Nat.ne_of_lt (Nat.lt_of_lt_of_le (Heap.lt_size e) I.ok.above))).trans e1⟩
  ·by_cases hj:j=i
   ·subst hj
    rw [hi] at e1;cases e1
    rw [List.getElem?_set_self hiσ] at e2
    cases e2
    exact ⟨u,r,.inl ⟨hk,by simp⟩⟩
   ·rw [List.getElem?_set_ne (Ne.symm hj)] at e2
    obtain ⟨u',r',q⟩:=hl j y v' e1 e2 e3
    refine ⟨u',r',?_⟩
    rcases q with ⟨k,e⟩ | ⟨k,c,e,z⟩
    ·refine .inl ⟨k,?_⟩
     have:y≠x:=fun e=>hj (nodup_ix hN e1 (e ▸ hi))
     simp [this,e]
    ·exact .inr ⟨k,c,e,z.sameBut hs (cne y c e)⟩
  ·obtain ⟨w',z⟩:=I.cell y c e
   exact ⟨w',z.sameBut hs (cne y c e)⟩
  ·obtain ⟨e,n,ne,nf,d⟩:=I.pin p hp
   exact ⟨(hs.2 p.1 ne).trans e,n,ne,nf,d⟩
 ·have hfn:X.fn x=true:=by
   rcases hf with z | z
   ·exact z
   ·rw [z] at hk;cases hk
  obtain ⟨c,hc⟩:=I.ok.has x (.inl hk)
  obtain ⟨w',z⟩:=I.cell x c hc
  refine wpAny_storeName_cell I.ok.kind hk hc z (fun h' hc' hs=>?_)
  obtain ⟨oc,hoc,hocd⟩:=id z
  refine h { s with heap:=h' } ⟨I.ok,I.os,I.bare,⟨fun b o e n hb hx=>?_,fun b o e n hb hx=>?_,I.base.free,fun b o e hx=>?_,I.base.tups,I.base.frzs,I.base.tbls⟩,⟨m,hn.sameBut hs (Ne.symm (cne x c hc)),fun j y v' e1 e2 e3=>?_⟩,fun y c' e=>?_,I.free,I.freeC,fun p hp=>?_,tracked ⟨oc,hoc,I.freeC x c hc⟩ hs,by simpa using I.len⟩ ⟨c,hs,.inr hc⟩
  ·exact (hs.2 b (Nat.ne_of_lt (Nat.lt_of_lt_of_le (Heap.lt_size e) (I.ok.cab x c hfn hc)))).trans (I.base.keep b o e n hb hx)
  ·obtain ⟨sl,e1⟩:=I.base.slot b o e n hb hx
   exact ⟨sl,(hs.2 b (Nat.ne_of_lt (Nat.lt_of_lt_of_le (Heap.lt_size e) (I.ok.cab x c hfn hc)))).trans e1⟩
  ·obtain ⟨o',e1⟩:=I.base.there b o e hx
   exact ⟨o',(hs.2 b (Nat.ne_of_lt (Nat.lt_of_lt_of_le (Heap.lt_size e) (I.ok.cab x c hfn hc)))).trans e1⟩
  ·by_cases hj:j=i
   ·subst hj
    rw [hi] at e1;cases e1
    rw [List.getElem?_set_self hiσ] at e2
    cases e2
    exact ⟨u,r,.inr ⟨.inl hk,c,hc,hc'⟩⟩
   ·rw [List.getElem?_set_ne (Ne.symm hj)] at e2
    obtain ⟨u',r',q⟩:=hl j y v' e1 e2 e3
    refine ⟨u',r',?_⟩
    rcases q with q | ⟨k,c',e,z'⟩
    ·exact .inl q
    ·refine .inr ⟨k,c',e,z'.sameBut hs ?_⟩
     rintro rfl
     exact hj (nodup_ix hN e1 (I.ok.inj _ _ _ e hc ▸ hi))
  ·by_cases hcc:c'=c
   ·subst hcc;exact ⟨_,hc'⟩
   ·obtain ⟨w2,z2⟩:=I.cell y c' e
    exact ⟨w2,z2.sameBut hs hcc⟩
  ·obtain ⟨e,n,ne,nf,d⟩:=I.pin p hp
   refine ⟨(hs.2 p.1 ?_).trans e,n,ne,nf,d⟩
   intro q
   rw [q,hoc] at e
   have q':oc=p.2:=Option.some.inj e
   exact d w' (by rw [← q'];exact hocd)
theorem store_ok {M:Model} {A:Around} {E:Value→Shared→Prop} {i:Nat} {x:Str} {v:V} {u:Value} {Q:Unit→Shared→Prop} (I:Inv X pins σ H s) (hN:X.N.Nodup) (hi:X.N[i]?=some x) (hx:Loc X.env.scope x) (r:RelV v u)
  (h:∀ s',Inv X pins (σ.set i (some v)) H s'→Q () s') (hf:X.fn x=true∨X.env.scope.names.lookup x=some .local:=by first | exact .inl rfl | exact .inr rfl | assumption):wpAny M A (storeName X.env x u) Q E s:=
 store_ok2 I hN hi hx r (fun s' I' _=>h s' I') hf
theorem Inv.call' {s':Shared} {ch:List Addr} (I:Inv X pins σ H s) (ho:s'.os=s.os) (u:Un (frs X.stack) ch H H' s.heap s'.heap) (hok:HOk X.prog X.w H' s'.heap) (hg:AllBare s'.gens)
  (hch:∀ b∈ch,(b∈X.ex∨X.s₀.heap.objs.size≤b)∧b≠X.env.locals∧(∀ x c,X.env.cells.lookup x=some c→c≠b)∧∀ p∈X.pn ++ pins,p.1≠b):Inv X pins σ H' s':=by
 obtain ⟨h',g',d',t',o'⟩:=s'
 have e:o'=s.os:=ho
 subst e
 exact I.call (g':=g') (t':=t') (d':=d') u hok hg hch
end
abbrev XK:=Value→Option Addr→Hp→Prop
abbrev St:=List (Option V)
abbrev VK:=V→Hp→Prop
abbrev TE:=St→Hp→VK→Prop
abbrev TT:=St→Hp→(Bool→Hp→Prop)→Prop
abbrev TA:=St→Hp→(List V→Hp→Prop)→Prop
structure Ends where
 nx:St→Hp→Prop
 rt:VK
 bk:St→Hp→Prop:=fun _ _=>False
 ct:St→Hp→Prop:=fun _ _=>False
abbrev TS:=Ends→St→Hp→Prop
def EP (X:Cx) (pins:List (Addr × Obj)) (σ:St) (Q:VK) (u:Value) (s':Shared):Prop:=∃ v H',Inv X pins σ H' s'∧RelV v u∧Q v H'
def TP (X:Cx) (pins:List (Addr × Obj)) (σ:St) (Q:Bool→Hp→Prop) (b:Bool) (s':Shared):Prop:=∃ H',Inv X pins σ H' s'∧Q b H'
def AP (X:Cx) (pins:List (Addr × Obj)) (σ:St) (Q:List V→Hp→Prop) (us:List Value) (s':Shared):Prop:=∃ vs H',Inv X pins σ H' s'∧Vals vs us∧Q vs H'
def SP (X:Cx) (pins:List (Addr × Obj)) (D:Ends) (f:Flow) (s':Shared):Prop:=
 match f with
 | .next=>∃ σ' H',Inv X pins σ' H' s'∧D.nx σ' H'
 | .brk=>∃ σ' H',Inv X pins σ' H' s'∧D.bk σ' H'
 | .cont=>∃ σ' H',Inv X pins σ' H' s'∧D.ct σ' H'
 | .ret u=>∃ v σ' H',Inv X pins σ' H' s'∧RelV v u∧D.rt v H'
def PE (X:Cx) (e:Expr) (t:TE):Prop:=
 ∀ (pins:List (Addr × Obj)) (s:Shared) (σ:St) (H:Hp) (Q:VK),Inv X pins σ H s→t σ H Q→wpAny (model X.prog X.w) X.A (eval e X.env) (EP X pins σ Q) X.xe s
def PT (X:Cx) (e:Expr) (t:TT):Prop:=
 ∀ (pins:List (Addr × Obj)) (s:Shared) (σ:St) (H:Hp) (Q:Bool→Hp→Prop),Inv X pins σ H s→t σ H Q→wpAny (model X.prog X.w) X.A (isTrue e X.env (eval e X.env)) (TP X pins σ Q) X.xe s
def PW (X:Cx) (e:Expr) (t:TT):Prop:=
 ∀ (whole:Sem Value) (pins:List (Addr × Obj)) (s:Shared) (σ:St) (H:Hp) (Q:Bool→Hp→Prop),Inv X pins σ H s→t σ H Q→wpAny (model X.prog X.w) X.A (isTrue e X.env whole) (TP X pins σ Q) X.xe s
theorem PW.pt {X:Cx} {e:Expr} {t:TT} (h:PW X e t):PT X e t:=h _
def PA (X:Cx) (es:List Expr) (t:TA):Prop:=
 ∀ (pos:Pos) (pins:List (Addr × Obj)) (s:Shared) (σ:St) (H:Hp) (Q:List V→Hp→Prop),Inv X pins σ H s→t σ H Q→wpAny (model X.prog X.w) X.A (spliced (backTo pos (starEach es X.env))) (AP X pins σ Q) X.xe s
def PS (X:Cx) (st:Stmt) (t:TS):Prop:=
 ∀ (pins:List (Addr × Obj)) (s:Shared) (σ:St) (H:Hp) (D:Ends),Inv X pins σ H s→t D σ H→wpAny (model X.prog X.w) X.A (exec st X.env) (SP X pins D) X.xe s
def PSs (X:Cx) (st:List Stmt) (t:TS):Prop:=
 ∀ (pins:List (Addr × Obj)) (s:Shared) (σ:St) (H:Hp) (D:Ends),Inv X pins σ H s→t D σ H→wpAny (model X.prog X.w) X.A (execs st X.env) (SP X pins D) X.xe s
theorem thn {α:Type} {t:Sem α} {Q Q':α→Shared→Prop} {M:Model} {A:Around} {E:Value→Shared→Prop} {s:Shared} (h:wpAny M A t Q E s) (hQ:∀ a s,Q a s→Q' a s):wpAny M A t Q' E s:=wpAny_mono h hQ fun _ _ x=>x
end L2
namespace L2
open PySem PySem.Spec PyProof.Rows
section
variable {X:Cx}
def tVar (i:Nat):TE:=fun σ H Q=>∃ v,σ[i]?=some (some v)∧Q v H
def tC (v:V):TE:=fun _ H Q=>Q v H
theorem pe_var {i:Nat} {x:Str} {pos:Pos} (hN:X.N[i]?=some x) (hv:Vis X.env.scope x) (hd:(x == ("__debug__":Str))=false:=by decide) (hcd:(x == ("__classdict__":Str))=false:=by decide):PE X (.Name x pos) (tVar i):=by
 intro pins s σ H Q I h
 obtain ⟨v,e,h⟩:=h
 obtain ⟨m,hn,hl⟩:=I.loc
 obtain ⟨u,r,l⟩:=hl i x v hN e hv
 have fin:EP X pins σ Q u s:=⟨v,H,I,r,h⟩
 rcases l with ⟨hk,hm⟩ | ⟨hk,c,hc,hcell⟩
 ·exact wpAny_Name (wpAny_loadName_local I.ok.kind hk hn hm fin) hd
 ·rcases hk with hk | hk
  ·exact wpAny_Name (wpAny_loadName_cell I.ok.kind hk hc hcell fin) hd
  ·exact wpAny_Name (wpAny_loadName_free I.ok.kind hk hc hcell fin hcd) hd
theorem pe_int {i j pos}:PE X (.Constant (.int i) j pos) (tC (.int i)):=fun _ _ _ H _ I h=>wpAny_Constant_int ⟨.int i,H,I.tok _,⟨_,rfl⟩,h⟩
theorem pe_bl {b j pos}:PE X (.Constant (.bool b) j pos) (tC (.bl b)):=fun _ _ _ H _ I h=>Constant_bool ⟨.bl b,H,I,rfl,h⟩
theorem pe_non {j pos}:PE X (.Constant .none j pos) (tC .non):=fun _ _ _ H _ I h=>Constant_none ⟨.non,H,I,rfl,h⟩
theorem pe_str {x j pos}:PE X (.Constant (.str x) j pos) (tC (.str x)):=fun _ _ _ H _ I h=>Calls.Constant_str ⟨.str x,H,I.tok _,⟨_,rfl⟩,h⟩
def Gl (X:Cx) (x:Str):Prop:=X.env.kindOf x=some .globalImplicit
theorem ld_glob {E:Value→Shared→Prop} {pins:List (Addr × Obj)} {s:Shared} {σ:St} {H:Hp} {x:Str} {u:Value} {pos:Pos} {Q:Value→Shared→Prop} (I:Inv X pins σ H s) (hg:Gl X x) (hm:X.mg x=some u) (h:Q u s)
  (hd:(x == ("__debug__":Str))=false:=by decide):wpAny (model X.prog X.w) X.A (eval (.Name x pos) X.env) Q E s:=
 Calls.Name_function_global I.ok.kind hg (Calls.loadGlobal_global (by rw [I.ok.glob];exact I.mod.glob.keeps I.bk) hm h) hd
theorem ld_blt {E:Value→Shared→Prop} {pins:List (Addr × Obj)} {s:Shared} {σ:St} {H:Hp} {x:Str} {u:Value} {pos:Pos} {Q:Value→Shared→Prop} (I:Inv X pins σ H s) (hg:Gl X x) (hm:X.mg x=none) (hv:bootBuiltins x=some u) (h:Q u s)
  (hn:x≠"__name__":=by decide) (hd:(x == ("__debug__":Str))=false:=by decide):wpAny (model X.prog X.w) X.A (eval (.Name x pos) X.env) Q E s:=by
 obtain ⟨mb,h1,h2⟩:=I.mod.blt
 exact Calls.Name_function_global I.ok.kind hg (Calls.loadGlobal_builtin (by rw [I.ok.glob];exact I.mod.glob.keeps I.bk) hm (by rw [I.ok.blt];exact h1.keeps I.bk) ((h2 x hn).trans hv) h) hd
theorem pe_glob {x:Str} {v:V} {u:Value} {pos:Pos} (hg:Gl X x) (hm:X.mg x=some u) (r:RelV v u) (hd:(x == ("__debug__":Str))=false:=by decide):PE X (.Name x pos) (tC v):=
 fun _ _ _ H _ I h=>ld_glob I hg hm ⟨v,H,I,r,h⟩ hd
theorem pe_bltn {x:Str} {v:V} {u:Value} {pos:Pos} (hg:Gl X x) (hm:X.mg x=none) (hv:bootBuiltins x=some u) (r:RelV v u) (hn:x≠"__name__":=by decide) (hd:(x == ("__debug__":Str))=false:=by decide):PE X (.Name x pos) (tC v):=
 fun _ _ _ H _ I h=>ld_blt I hg hm hv ⟨v,H,I,r,h⟩ hn hd
variable {a b:Expr} {ta tb:TE} {pos:Pos}
def PC (X:Cx) (op:CmpOp) (a b:Expr) (t:TE):Prop:=
 ∀ (pins:List (Addr × Obj)) (s:Shared) (σ:St) (H:Hp) (Q:VK),Inv X pins σ H s→t σ H Q→
  wpAny (model X.prog X.w) X.A (eval a X.env) (fun v s₁=>wpAny (model X.prog X.w) X.A (eval b X.env) (fun u s₂=>wpAny (model X.prog X.w) X.A (compareOp op v u) (EP X pins σ Q) X.xe s₂) X.xe s₁) X.xe s
def tB (t:TE):TT:=fun σ H Q=>t σ H fun x H1=>∃ c,x=.bl c∧Q c H1
theorem pe_cmp {op:CmpOp} {t:TE} (h:PC X op a b t) (h1:behindInMarks op b=false:=by first | exact nobehind _ (by decide) (by decide) | rfl):PE X (.Compare a [op] [b] pos) t:=fun pins s σ H Q I hw=>wpAny_Compare1 (h pins s σ H Q I hw) h1
theorem pt_val {e:Expr} {t:TE} (h:PE X e t) (he:∀ whole,isTrue e X.env whole=(do let v ← whole;standAt e.pos;holding [v] (truthy v)):=by intro _;rfl):PT X e (tB t):=by
 intro pins s σ H Q I hw
 refine isTrue_plain (thn (h pins s σ H _ I hw) fun v s1 ⟨x,H1,I1,r1,q1⟩=>?_) (he _)
 obtain ⟨d,rfl,q⟩:=q1
 cases r1
 exact wpAny_truthy_bool ⟨H1,I1,q⟩
variable {tA tB':TT} {rest:List Expr}
def tAnd (t u:TT):TT:=fun σ H Q=>t σ H fun c H1=>if c=true then u σ H1 Q else Q false H1
def tOr (t u:TT):TT:=fun σ H Q=>t σ H fun c H1=>if c=true then Q true H1 else u σ H1 Q
def tNot (t:TT):TT:=fun σ H Q=>t σ H fun c H1=>Q (!c) H1
theorem pw_and1 (ha:PT X a tA):PW X (.BoolOp .And [a] pos) tA:=by
 intro wh pins s σ H Q I h
 refine isTrue_and (thn (ha pins s σ H Q I h) fun c s1 e=>?_)
 cases c with
 | true=>exact isTrue_and_nil e
 | false=>exact e
theorem pw_or1 (ha:PT X a tA):PW X (.BoolOp .Or [a] pos) tA:=by
 intro wh pins s σ H Q I h
 refine isTrue_or (thn (ha pins s σ H Q I h) fun c s1 e=>?_)
 cases c with
 | false=>exact isTrue_or_nil e
 | true=>exact e
theorem pw_and (ha:PT X a tA) (hb:PW X (.BoolOp .And (b :: rest) pos) tB'):PW X (.BoolOp .And (a :: b :: rest) pos) (tAnd tA tB'):=by
 intro wh pins s σ H Q I h
 refine isTrue_and (thn (ha pins s σ H _ I h) fun c s1 ⟨H1,I1,q1⟩=>?_)
 cases c with
 | true=>exact hb wh pins s1 σ H1 Q I1 q1
 | false=>exact ⟨H1,I1,q1⟩
theorem pw_or (ha:PT X a tA) (hb:PW X (.BoolOp .Or (b :: rest) pos) tB'):PW X (.BoolOp .Or (a :: b :: rest) pos) (tOr tA tB'):=by
 intro wh pins s σ H Q I h
 refine isTrue_or (thn (ha pins s σ H _ I h) fun c s1 ⟨H1,I1,q1⟩=>?_)
 cases c with
 | true=>exact ⟨H1,I1,q1⟩
 | false=>exact hb wh pins s1 σ H1 Q I1 q1
theorem pt_not (ha:PT X a tA):PT X (.UnaryOp .Not a pos) (tNot tA):=by
 intro pins s σ H Q I h
 exact isTrue_not (ha pins s σ H (fun c H1=>Q (!c) H1) I h)
def tAndV (ta tb:TE):TE:=fun σ H Q=>ta σ H fun x H1=>∃ c,x=.bl c∧if c=true then tb σ H1 Q else Q (.bl false) H1
def tOrV (ta tb:TE):TE:=fun σ H Q=>ta σ H fun x H1=>∃ c,x=.bl c∧if c=true then Q (.bl true) H1 else tb σ H1 Q
def tNotV (ta:TE):TE:=fun σ H Q=>ta σ H fun x H1=>∃ c,x=.bl c∧Q (.bl (!c)) H1
theorem pe_one {op} {t:TE} (h:PE X a t):PE X (.BoolOp op [a] pos) t:=fun pins s σ H Q I hw=>BoolOp_one (h pins s σ H Q I hw)
theorem pe_and (ha:PE X a ta) (hb:PE X (.BoolOp .And (b :: rest) pos) tb):PE X (.BoolOp .And (a :: b :: rest) pos) (tAndV ta tb):=by
 intro pins s σ H Q I h
 refine BoolOp_and (thn (ha pins s σ H _ I h) fun v s1 ⟨x,H1,I1,r1,q1⟩=>?_)
 obtain ⟨c,rfl,q1⟩:=q1
 cases r1
 refine wpAny_truthy_bool ?_
 cases c with
 | true=>exact hb pins s1 σ H1 Q I1 q1
 | false=>exact ⟨.bl false,H1,I1,rfl,q1⟩
theorem pe_or (ha:PE X a ta) (hb:PE X (.BoolOp .Or (b :: rest) pos) tb):PE X (.BoolOp .Or (a :: b :: rest) pos) (tOrV ta tb):=by
 intro pins s σ H Q I h
 refine BoolOp_or (thn (ha pins s σ H _ I h) fun v s1 ⟨x,H1,I1,r1,q1⟩=>?_)
 obtain ⟨c,rfl,q1⟩:=q1
 cases r1
 refine wpAny_truthy_bool ?_
 cases c with
 | false=>exact hb pins s1 σ H1 Q I1 q1
 | true=>exact ⟨.bl true,H1,I1,rfl,q1⟩
theorem pe_not (ha:PE X a ta):PE X (.UnaryOp .Not a pos) (tNotV ta):=by
 intro pins s σ H Q I h
 refine UnaryOp_ (thn (ha pins s σ H _ I h) fun v s1 ⟨x,H1,I1,r1,q1⟩=>?_)
 obtain ⟨c,rfl,q1⟩:=q1
 cases r1
 exact not_of (wpAny_truthy_bool ⟨.bl (!c),H1,I1,rfl,q1⟩)
def tIf (t:TT) (ta tb:TE):TE:=fun σ H Q=>t σ H fun c H1=>if c=true then ta σ H1 Q else tb σ H1 Q
theorem pe_ifExp {c:Expr} (hc:PT X c tA) (ha:PE X a ta) (hb:PE X b tb):PE X (.IfExp c a b pos) (tIf tA ta tb):=by
 intro pins s σ H Q I h
 refine wpAny_IfExp (thn (hc pins s σ H _ I h) fun d s1 ⟨H1,I1,q1⟩=>?_)
 cases d with
 | true=>exact ha pins s1 σ H1 Q I1 q1
 | false=>exact hb pins s1 σ H1 Q I1 q1
end
end L2
namespace L2
open PySem PySem.Spec PyProof.Rows
def SqL (K:PySem.W.Frag) (H:Hp) (a:Addr) (xs:List V):Prop:=
 Rd H a (.lst xs)∨
  ∃ (o:Obj) (its:Array Value) (n:Nat),K.lookup a=some o∧o.cls=.type "list"∧o.dict=none∧o.data=.seq its n∧its.size≤sizeLine∧Vals xs its.toList
def SqT (K:PySem.W.Frag) (H:Hp) (a:Addr) (xs:List V):Prop:=
 Rd H a (.tup xs)∨
  ∃ (o:Obj) (its:Array Value) (n:Nat),K.lookup a=some o∧o.cls=.type "tuple"∧o.data=.seq its n∧its.size≤sizeLine∧Vals xs its.toList
def absV:Value→Option V
 | .none=>some .non
 | .bool b=>some (.bl b)
 | .int i _=>some (.int i)
 | .str x _=>some (.str x)
 | .bytes b _=>some (.byt b)
 | .float b _=>some (.flt b)
 | .ref a=>some (.ref a)
 | .type n=>some (.ty n)
 | _=>none
theorem RelV.abs {x:V} {u:Value} (r:RelV x u):absV u=some x:=by
 cases x with
 | non=>cases r;rfl
 | bl _=>cases r;rfl
 | int _=>obtain ⟨t,rfl⟩:=r;rfl
 | str _=>obtain ⟨t,rfl⟩:=r;rfl
 | byt _=>obtain ⟨t,rfl⟩:=r;rfl
 | flt _=>obtain ⟨t,rfl⟩:=r;rfl
 | ref _=>cases r;rfl
 | ty _=>cases r;rfl
theorem RelV.inj {x y:V} {u:Value} (r:RelV x u) (q:RelV y u):x=y:=Option.some.inj (r.abs.symm.trans q.abs)
theorem Vals.inj:∀ {xs ys:List V} {us:List Value},Vals xs us→Vals ys us→xs=ys
 | _,_,_,.nil,.nil=>rfl
 | _,_,_,.cons r t,.cons r' t'=>by rw [r.inj r',Vals.inj t t']
section
variable {X:Cx} {pins:List (Addr × Obj)} {σ:St} {H:Hp} {s:Shared} {a:Addr} {xs ys:List V}
theorem SqL.of {K:PySem.W.Frag} (h:H a=some (.lst xs)):SqL K H a xs:=.inl (.inl h)
theorem SqT.of {K:PySem.W.Frag} (h:H a=some (.tup xs)):SqT K H a xs:=.inl (.inl h)
theorem Inv.list (I:Inv X pins σ H s) (h:SqL X.K H a xs):∃ its:List Value,Vals xs its∧PlainL s.heap a its.toArray∧xs.length≤sizeLine:=by
 rcases h with h | ⟨o,its,n,hk,hc,hd,hs,hz,r⟩
 ·obtain ⟨z,its,n,r,e⟩:=h.ok I.hok
  exact ⟨its,r,⟨_,n,e,rfl,rfl,rfl⟩,z⟩
 ·refine ⟨its.toList,r,⟨o,n,I.kIn a o hk,hc,hd,by simpa using hs⟩,?_⟩
  have e:=r.length
  simp only [Array.length_toList] at e
  omega
theorem Inv.tuple (I:Inv X pins σ H s) (h:SqT X.K H a xs):∃ its:List Value,Vals xs its∧IsTup s.heap a its.toArray∧xs.length≤sizeLine:=by
 rcases h with h | ⟨o,its,n,hk,hc,hs,hz,r⟩
 ·obtain ⟨z,its,r,p⟩:=h.ok I.hok
  exact ⟨its,r,p,z⟩
 ·refine ⟨its.toList,r,⟨o,I.kIn a o hk,hc,n,by simpa using hs⟩,?_⟩
  have e:=r.length
  simp only [Array.length_toList] at e
  omega
theorem Inv.list_inj (I:Inv X pins σ H s) (h:SqL X.K H a xs) (h':SqL X.K H a ys):xs=ys:=by
 obtain ⟨its,r,⟨o,n,e,_,_,d⟩,_⟩:=I.list h
 obtain ⟨its',r',⟨o',n',e',_,_,d'⟩,_⟩:=I.list h'
 rw [e] at e';cases e'
 rw [d] at d'
 injection d' with d1 _
 have:its=its':=by simpa using congrArg Array.toList d1
 subst this
 exact r.inj r'
theorem Inv.tuple_inj (I:Inv X pins σ H s) (h:SqT X.K H a xs) (h':SqT X.K H a ys):xs=ys:=by
 obtain ⟨its,r,⟨o,e,_,n,d⟩,_⟩:=I.tuple h
 obtain ⟨its',r',⟨o',e',_,n',d'⟩,_⟩:=I.tuple h'
 rw [e] at e';cases e'
 rw [d] at d'
 injection d' with d1 _
 have:its=its':=by simpa using congrArg Array.toList d1
 subst this
 exact r.inj r'
end
abbrev Cx.wish (X:Cx) (E:Value→Shared→Prop):Cx:={ X with xe:=E }
abbrev Cx.nox (X:Cx):Cx:=X.wish fun _ _=>False
theorem Cx.Ok.wish {X:Cx} (ok:X.Ok) (E:Value→Shared→Prop):(X.wish E).Ok:=
 ⟨ok.mod,ok.kind,ok.glob,ok.blt,ok.above,ok.inj,ok.has,ok.cab,ok.hd,ok.frames,ok.stk,ok.exf,ok.bs,ok.bsz,ok.noex,ok.exfs,ok.funs,ok.frf⟩
theorem Cx.Ok.unwish {X:Cx} {E:Value→Shared→Prop} (ok:(X.wish E).Ok):X.Ok:=
 ⟨ok.mod,ok.kind,ok.glob,ok.blt,ok.above,ok.inj,ok.has,ok.cab,ok.hd,ok.frames,ok.stk,ok.exf,ok.bs,ok.bsz,ok.noex,ok.exfs,ok.funs,ok.frf⟩
section
variable {X:Cx} {pins:List (Addr × Obj)} {σ:St} {H:Hp} {s:Shared} {E:Value→Shared→Prop}
theorem Inv.wish (I:Inv X pins σ H s) (E:Value→Shared→Prop):Inv (X.wish E) pins σ H s:=⟨I.ok.wish E,I.os,I.bare,I.base,I.loc,I.cell,I.free,I.freeC,I.pin,I.hok,I.len⟩
theorem Inv.unwish (I:Inv (X.wish E) pins σ H s):Inv X pins σ H s:=⟨I.ok.unwish,I.os,I.bare,I.base,I.loc,I.cell,I.free,I.freeC,I.pin,I.hok,I.len⟩
theorem SP.unwish {D:Ends} {f:Flow} {s':Shared} (h:SP (X.wish E) pins D f s'):SP X pins D f s':=by
 cases f with
 | next=>obtain ⟨σ',H',I,q⟩:=h;exact ⟨σ',H',I.unwish,q⟩
 | brk=>obtain ⟨σ',H',I,q⟩:=h;exact ⟨σ',H',I.unwish,q⟩
 | cont=>obtain ⟨σ',H',I,q⟩:=h;exact ⟨σ',H',I.unwish,q⟩
 | ret u=>obtain ⟨v,σ',H',I,r,q⟩:=h;exact ⟨v,σ',H',I.unwish,r,q⟩
theorem PSs.nox {st:List Stmt} {t:TS} (h:PSs X.nox st t):PSs X st t:=fun pins s σ H D I hw=>
 wpAny_mono (h pins s σ H D (I.wish _) hw) (fun _ _ q=>q.unwish) fun _ _ z=>False.elim z
end
section
variable {X:Cx} {st:Stmt} {rest:List Stmt} {t u:TS} {e:Expr} {te:TE} {pos:Pos}
def tNext:TS:=fun D σ H=>D.nx σ H
def tSeq (t u:TS):TS:=fun D σ H=>t { D with nx:=u D } σ H
theorem pss_nil:PSs X [] tNext:=fun _ _ σ H _ I h=>wpAny_execs_nil ⟨σ,H,I,h⟩
theorem pss_cons (h1:PS X st t) (h2:PSs X rest u):PSs X (st :: rest) (tSeq t u):=by
 intro pins s σ H D I h
 refine wpAny_execs_cons (thn (h1 pins s σ H { D with nx:=u D } I h) fun f s1 q=>?_)
 cases f with
 | next=>
  obtain ⟨σ',H',I',q⟩:=q
  exact h2 pins s1 σ' H' D I' q
 | ret v=>exact q
 | brk=>exact q
 | cont=>exact q
theorem pss_one (h1:PS X st t):PSs X [st] t:=by
 intro pins s σ H D I h
 refine wpAny_execs_cons (thn (h1 pins s σ H D I h) fun f s1 q=>?_)
 cases f with
 | next=>exact wpAny_execs_nil q
 | ret v=>exact q
 | brk=>exact q
 | cont=>exact q
theorem Inv.quiet {pins:List (Addr × Obj)} {σ:St} {H:Hp} {s:Shared} (I:Inv X pins σ H s):interactive X.env=false:=by simp [interactive,I.ok.kind]
def tDrop (te:TE):TS:=fun D σ H=>te σ H fun _ H1=>D.nx σ H1
theorem ps_expr (he:PE X e te) (hs:swapsWith e none pos.line X.env=pure false:=by rfl):PS X (.Expr e pos) (tDrop te):=by
 intro pins s σ H D I h
 exact wpAny_Expr_any (thn (he pins s σ H _ I h) fun v s1 ⟨x,H1,I1,r1,q1⟩=>⟨σ,H1,I1,q1⟩) I.quiet hs
def tRet (te:TE):TS:=fun D σ H=>te σ H D.rt
theorem ps_ret (he:PE X e te):PS X (.Return (some e) pos) (tRet te):=by
 intro pins s σ H D I h
 exact wpAny_Return_some (thn (he pins s σ H _ I h) fun v s1 ⟨x,H1,I1,r1,q1⟩=>⟨x,σ,H1,I1,r1,q1⟩)
def tIfS (c:TT) (t u:TS):TS:=fun D σ H=>c σ H fun b H1=>if b=true then t D σ H1 else u D σ H1
theorem ps_if {c:Expr} {a b:List Stmt} {tc:TT} (hc:PT X c tc) (ha:PSs X a t) (hb:PSs X b u):PS X (.If c a b pos) (tIfS tc t u):=by
 intro pins s σ H D I h
 refine wpAny_If (thn (hc pins s σ H _ I h) fun d s1 ⟨H1,I1,q1⟩=>?_)
 cases d with
 | true=>exact ha pins s1 σ H1 D I1 q1
 | false=>exact hb pins s1 σ H1 D I1 q1
def tNever:TS:=fun _ _ _=>False
theorem pss_never {sts:List Stmt}:PSs X sts tNever:=fun _ _ _ _ _ _ h=>h.elim
end
abbrev TG:=V→St→Hp→(St→Hp→Prop)→Prop
abbrev TGs:=List V→St→Hp→(St→Hp→Prop)→Prop
def PG (X:Cx) (target:Expr) (t:TG):Prop:=
 ∀ (pins:List (Addr × Obj)) (s:Shared) (σ:St) (H:Hp) (v:V) (u:Value) (Q:St→Hp→Prop),Inv X pins σ H s→RelV v u→t v σ H Q→
  wpAny (model X.prog X.w) X.A (assign target X.env u) (fun _ s'=>∃ σ' H',Inv X pins σ' H' s'∧Q σ' H') X.xe s
def PGs (X:Cx) (ts:List Expr) (t:TGs):Prop:=
 ∀ (pins:List (Addr × Obj)) (s:Shared) (σ:St) (H:Hp) (vs:List V) (us:List Value) (Q:St→Hp→Prop),Inv X pins σ H s→Vals vs us→t vs σ H Q→
  wpAny (model X.prog X.w) X.A (assignInOrder ((assignEach ts X.env).map (·.2)) us) (fun _ s'=>∃ σ' H',Inv X pins σ' H' s'∧Q σ' H') X.xe s
abbrev TSet:=V→V→V→Hp→(Hp→Prop)→Prop
def PSet (X:Cx) (t:TSet):Prop:=
 ∀ (pins:List (Addr × Obj)) (s:Shared) (σ:St) (H:Hp) (o i v:V) (ov iv u:Value) (Q:Hp→Prop),Inv X pins σ H s→RelV o ov→RelV i iv→RelV v u→t o i v H Q→
  wpAny (model X.prog X.w) X.A (setItem ov iv u) (fun _ s'=>∃ H',Inv X pins σ H' s'∧Q H') X.xe s
section
variable {X:Cx} {pos:Pos}
def gName (i:Nat):TG:=fun v σ H Q=>Q (σ.set i (some v)) H
theorem pg_name {i:Nat} {x:Str} (hN:X.N.Nodup) (hi:X.N[i]?=some x) (hx:Loc X.env.scope x) (hf:X.fn x=true∨X.env.scope.names.lookup x=some .local:=by first | exact .inl rfl | exact .inr rfl | assumption):PG X (.Name x pos) (gName i):=by
 intro pins s σ H v u Q I r h
 exact wpAny_assign_Name (store_ok I hN hi hx r (fun s' I'=>⟨_,H,I',h⟩) hf)
def gNil:TGs:=fun vs σ H Q=>vs=[]∧Q σ H
def gCons (t:TG) (u:TGs):TGs:=fun vs σ H Q=>∃ v r,vs=v :: r∧t v σ H fun σ' H'=>u r σ' H' Q
theorem pgs_nil:PGs X [] gNil:=by
 intro pins s σ H vs us Q I r h
 obtain ⟨e,h⟩:=h
 subst e
 cases r
 exact assignInOrder_nil ⟨σ,H,I,h⟩
theorem pgs_cons {e:Expr} {es:List Expr} {t:TG} {u:TGs} (h1:PG X e t) (h2:PGs X es u)
  (hs:(assignEach (e :: es) X.env).map (·.2)=assign e X.env :: (assignEach es X.env).map (·.2):=by rfl):PGs X (e :: es) (gCons t u):=by
 intro pins s σ H vs us Q I r h
 obtain ⟨v,vr,e1,h⟩:=h
 subst e1
 cases r with
 | cons r rr=>
  rw [hs]
  refine assignInOrder_cons (thn (h1 pins s σ H _ _ _ I r h) fun _ s1 ⟨σ1,H1,I1,q1⟩=>?_)
  exact h2 pins s1 σ1 H1 _ _ Q I1 rr q1
def gTup (K:PySem.W.Frag) (n:Nat) (t:TGs):TG:=fun v σ H Q=>∃ a xs,v=.ref a∧SqT K H a xs∧xs.length=n∧t xs σ H Q
theorem pg_tup {es:List Expr} {k:Nat} {t:TGs} {n:Nat} (hc:X.calm=true) (h:PGs X es t)
  (hn:(assignEach es X.env).length=n:=by rfl) (hst:(assignEach es X.env).findIdx? (·.1)=none:=by rfl):PG X (.Tuple es k pos) (gTup X.K n t):=by
 intro pins s σ H v u Q I r hw
 obtain ⟨a,xs,e1,hq,hl,hw⟩:=hw
 subst e1
 cases r
 obtain ⟨its,rv,ht,hz⟩:=I.tuple hq
 refine assign_Tuple_tuple (I.ok.hd hc) ht (by simp [hn,← hl,rv.length]) hst fun h' hx=>?_
 have I1:Inv X pins σ H { s with heap:=h' }:=I.kept (t':=s.toks) fun b o e=>hx b o (Nat.ne_of_lt (Heap.lt_size e)) e
 exact h pins _ σ H xs _ Q I1 (by simpa using rv) hw
def gSub (to ti:TE) (t:TSet):TG:=fun v σ H Q=>to σ H fun o H1=>ti σ H1 fun i H2=>t o i v H2 fun H3=>Q σ H3
theorem pg_sub {o i:Expr} {to ti:TE} {t:TSet} (ho:PE X o to) (hi:PE X i ti) (hs:PSet X t)
  (ha:∀ v,assign (.Subscript o i pos) X.env v=(do
   let ov ← holding [v] (eval o X.env)
   let iv ← holding [v,ov] (eval i X.env)
   standAt pos
   holding [v,ov,iv] (setItem ov iv v)
   release [v,ov,iv] []):=by intro _;rfl):PG X (.Subscript o i pos) (gSub to ti t):=by
 intro pins s σ H v u Q I r h
 rw [ha]
 refine wpAny_bind (wpAny_holding (thn (ho pins s σ H _ I h) fun ov s1 ⟨x,H1,I1,r1,q1⟩=>?_))
 refine wpAny_bind (wpAny_holding (thn (hi pins s1 σ H1 _ I1 q1) fun iv s2 ⟨y,H2,I2,r2,q2⟩=>?_))
 refine wpAny_bind (wpAny_standAt (wpAny_bind (wpAny_holding (thn (hs pins s2 σ H2 x y v ov iv u _ I2 r1 r2 r q2) fun _ s3 ⟨H3,I3,q3⟩=>?_))))
 exact wpAny_release ⟨σ,H3,I3,q3⟩
def tAsg (te:TE) (g:TG):TS:=fun D σ H=>te σ H fun x H1=>g x σ H1 D.nx
theorem ps_asg {tg e:Expr} {te:TE} {g:TG} (he:PE X e te) (hg:PG X tg g) (hs:swapsWithSole [tg] e pos.line X.env=pure false:=by rfl) (hw:swappedStores [tg] e X.env=pure none:=by rfl)
  (h1:(assignEach [tg] X.env).map (·.2)=[assign tg X.env]:=by rfl):PS X (.Assign [tg] e pos) (tAsg te g):=by
 intro pins s σ H D I h
 refine wpAny_Assign_stores (thn (he pins s σ H _ I h) fun v s1 ⟨x,H1,I1,r1,q1⟩=>?_) hs hw
 rw [h1]
 exact thn (hg pins s1 σ H1 x v _ I1 r1 q1) fun _ s2 q=>q
theorem ps_set {i:Nat} {x:Str} {e:Expr} {te:TE} {pos':Pos} (hN:X.N.Nodup) (hi:X.N[i]?=some x) (hx:Loc X.env.scope x) (he:PE X e te) (hs:swapsWith e (some (.Name x pos')) pos.line X.env=pure false:=by rfl) (hf:X.fn x=true∨X.env.scope.names.lookup x=some .local:=by first | exact .inl rfl | exact .inr rfl | assumption) :
  PS X (.Assign [.Name x pos'] e pos) (tAsg te (gName i)):=by
 intro pins s σ H D I h
 refine wpAny_Assign_Name (thn (he pins s σ H _ I h) fun v s1 ⟨y,H1,I1,r1,q1⟩=>?_) hs
 exact store_ok I1 hN hi hx r1 (fun s2 I2=>⟨_,H1,I2,q1⟩) hf
end
section
variable {X:Cx} {pos:Pos}
def tWhile (c:TT) (tb:TS):TS:=fun D σ H=>∃ W:Nat→St→Hp→Prop,(∃ m,W m σ H)∧∀ m σ H,W m σ H→
 c σ H fun b H1=>if b=true then ∃ N:St→Hp→Prop,(∀ σ' H',N σ' H'→∃ m',m' < m∧W m' σ' H')∧tb { D with nx:=N,ct:=N,bk:=D.nx } σ H1 else D.nx σ H1
theorem ps_while {c:Expr} {body:List Stmt} {tc:TT} {tb:TS} (hp:PassesOwn (model X.prog X.w) X.A X.env X.xe) (hc:PT X c tc) (hb:PSs X body tb):PS X (.While c body [] pos) (tWhile tc tb):=by
 intro pins s σ H D I h
 obtain ⟨W,⟨m0,w0⟩,turn⟩:=h
 refine wpAny_While (codeAny_whileLoop (fun n s'=>∃ σ' H',Inv X pins σ' H' s'∧W n σ' H') ?_ m0 ⟨σ,H,I,w0⟩)
 rintro n s1 ⟨σ1,H1,I1,w1⟩
 refine wpAny_passesOwn hp (thn (hc pins s1 σ1 H1 _ I1 (turn n σ1 H1 w1)) fun b s2 ⟨H2,I2,q2⟩=>?_)
 cases b with
 | true=>
  obtain ⟨N,hN,q2⟩:=q2
  rw [if_pos rfl]
  refine wpAny_passesOwn hp (thn (hb pins s2 σ1 H2 _ I2 q2) fun f s3 q3=>?_)
  cases f with
  | next=>
   obtain ⟨σ3,H3,I3,n3⟩:=q3
   obtain ⟨m',hm,w3⟩:=hN σ3 H3 n3
   exact ⟨m',hm,σ3,H3,I3,w3⟩
  | cont=>
   obtain ⟨σ3,H3,I3,n3⟩:=q3
   obtain ⟨m',hm,w3⟩:=hN σ3 H3 n3
   exact ⟨m',hm,σ3,H3,I3,w3⟩
  | brk=>exact q3
  | ret v=>exact q3
 | false=>
  rw [if_neg Bool.false_ne_true]
  exact wpAny_execs_nil ⟨σ1,H2,I2,q2⟩
end
structure It where
 go:Nat→Hp→Prop
 yld:Nat→Hp→V→Hp→Prop
 stop:Nat→Hp→Prop
def FpOk (X:Cx) (pins:List (Addr × Obj)) (H:Hp) (b:Addr):Prop:=
 H b=none∧b≠X.env.locals∧b∉X.fs∧(b∈X.ex∨X.s₀.heap.objs.size≤b)∧(∀ x c,X.env.cells.lookup x=some c→c≠b)∧∀ p∈X.pn ++ pins,p.1≠b
theorem Inv.fpOk {X:Cx} {pins:List (Addr × Obj)} {σ:St} {H H':Hp} {s:Shared} {b:Addr} (I:Inv X pins σ H s) (hb:s.heap.objs.size≤b) (hn:H' b=none):FpOk X pins H' b:=by
 refine ⟨hn,Nat.ne_of_gt (Nat.lt_of_lt_of_le I.lt hb),I.nofs hb,.inr (Nat.le_trans I.sz hb),fun x c e z=>?_,fun p hp z=>?_⟩
 ·obtain ⟨v,q⟩:=I.cell x c e
  exact absurd (Nat.lt_of_lt_of_le q.lt (by rw [z];exact hb)) (Nat.lt_irrefl _)
 ·exact absurd (Nat.lt_of_lt_of_le (Heap.lt_size (I.pin p hp).1) (by rw [z];exact hb)) (Nat.lt_irrefl _)
structure Turn (P:Program) (w:World) (K:PySem.W.Frag) (tg:Expr) (J:It) (fp:List Addr) (it:Addr) (tn:Nat→Heap→Prop):Prop where
 mem:it∈fp
 obj:∀ i h,tn i h→∀ b∈fp,∃ o,h.get? b=some o∧∀ v,o.data≠.cell v
 keep:∀ i h h',tn i h→(∀ b∈fp,∀ o,h.get? b=some o→h'.get? b=some o)→tn i h'
 item:∀ (X:Cx),X.prog=P→X.w=w→X.K=K→X.calm=true→∀ (i:Nat) (pins:List (Addr × Obj)) (s:Shared) (σ:St) (H:Hp) (E:Value→Shared→Prop),Inv X pins σ H s→(∀ b∈fp,FpOk X pins H b)→tn i s.heap→J.go i H→
  wpAny (model P w) X.A (pyNext (.ref it)) (fun r s1=>∃ u,r=some u∧
   wpAny (model P w) X.A (letOwnedTupleGo tg (.ref it) u) (fun _ s2=>∃ x H',Inv X pins σ H' s2∧RelV x u∧J.yld i H x H'∧tn (i + 1) s2.heap∧∀ b∈fp,H' b=none) E s1) E s
 done:∀ (X:Cx),X.prog=P→X.w=w→X.K=K→X.calm=true→∀ (i:Nat) (pins:List (Addr × Obj)) (s:Shared) (σ:St) (H:Hp) (E:Value→Shared→Prop),Inv X pins σ H s→(∀ b∈fp,FpOk X pins H b)→tn i s.heap→J.stop i H→
  wpAny (model P w) X.A (pyNext (.ref it)) (fun r s1=>r=none∧Inv X pins σ H s1) E s
 self:∀ (A:Around) (i:Nat) (s:Shared) (Q:Value→Shared→Prop) (E:Value→Shared→Prop),tn i s.heap→Q (.ref it) s→wpAny (model P w) A (pyIter (.ref it)) Q E s
abbrev TI:=St→Hp→(It→Hp→Prop)→Prop
def PIE (X:Cx) (pins:List (Addr × Obj)) (σ:St) (tg:Expr) (R:It→Hp→Prop) (itv:Value) (s2:Shared):Prop:=
 ∃ (it:Addr) (fp:List Addr) (tn:Nat→Heap→Prop) (J:It) (H':Hp),itv=.ref it∧Inv X pins σ H' s2∧Turn X.prog X.w X.K tg J fp it tn∧tn 0 s2.heap∧(∀ b∈fp,FpOk X pins H' b)∧R J H'
def PI (X:Cx) (tg iter:Expr) (wi:TI):Prop:=
 ∀ (pins:List (Addr × Obj)) (s:Shared) (σ:St) (H:Hp) (R:It→Hp→Prop),Inv X pins σ H s→wi σ H R→
  wpAny (model X.prog X.w) X.A (eval iter X.env) (fun v s1=>wpAny (model X.prog X.w) X.A (pyIter v) (PIE X pins σ tg R) X.xe s1) X.xe s
theorem go_of {M : Model} {A : Around} {E : Value → Shared → Prop} {s : Shared} {tg : Expr} {it : Addr} {u : Value} {o : Obj} {n : String} {vs : Array Value} {Q : Unit → Shared → Prop} (ho : s.heap.get? it = some o) (hc : o.cls = .type n) (hd : o.data = .fields vs)
    (hn : ["enumerate", "zip", "dict_itemiterator", "dict_reverseitemiterator", "odict_iterator", "itertools.zip_longest", "itertools.pairwise"].contains n = false) (hQ : Q () s) : wpAny M A (letOwnedTupleGo tg (.ref it) u) Q E s := by
  unfold letOwnedTupleGo
  cases tg <;> first
    | exact wpAny_pure hQ
    | (cases u <;> first
        | exact wpAny_pure hQ
        | (refine wpAny_bind (wpAny_load ho ?_)
           rw [hc, hd]
           show wpAny M A (if (["enumerate", "zip", "dict_itemiterator", "dict_reverseitemiterator", "odict_iterator", "itertools.zip_longest", "itertools.pairwise"].contains n && vs[0]? == some (rawInt _)) = true then _ else _) Q E s
           rw [if_neg (by intro h; rw [hn, Bool.false_and] at h; cases h)]
           exact wpAny_pure hQ))
def Itl (K:PySem.W.Frag) (a:Addr):It:=
 ⟨fun i H=>∃ xs x,SqL K H a xs∧xs[i]?=some x,fun i H x H'=>H'=H∧∀ xs,SqL K H a xs→xs[i]?=some x,fun i H=>∃ xs,SqL K H a xs∧xs.length≤i⟩
def Itt (K:PySem.W.Frag) (a:Addr):It:=
 ⟨fun i H=>∃ xs x,SqT K H a xs∧xs[i]?=some x,fun i H x H'=>H'=H∧∀ xs,SqT K H a xs→xs[i]?=some x,fun i H=>∃ xs,SqT K H a xs∧xs.length≤i⟩
def Itr (lo:Int) (n:Nat):It:=⟨fun i _=>i < n,fun i H x H'=>H'=H∧x=.int (lo + i),fun i _=>n≤i⟩
theorem turn_list {P:Program} {w:World} {K:PySem.W.Frag} {tg:Expr} (a it:Addr):Turn P w K tg (Itl K a) [it] it (fun i h=>h.IsListIter it a i) where
 mem:=by simp
 obj:=fun i h st b hb=>by
  have e:b=it:=by simpa using hb
  subst e
  obtain ⟨o,e,c,d⟩:=st
  exact ⟨o,e,fun v z=>by rw [d] at z;cases z⟩
 keep:=fun i h h' st k=>st.at fun o e=>k it (by simp) o e
 item:=by
  intro X hP hw hK hc i pins s σ H E I hf st hg
  subst hP hw hK
  obtain ⟨xs,x,hq,hx⟩:=hg
  obtain ⟨its,rv,p,hz⟩:=I.list hq
  obtain ⟨u,hu,ru⟩:=rv.get hx
  obtain ⟨f0,f1,f2,f3,f4,f5⟩:=hf it (by simp)
  refine wpAny_pyNext_list_item st p.isList (x:=u) (by simpa using hu) fun h' st' sb=>?_
  have I1:Inv X pins σ H { s with heap:=h' }:=I.turned (t':=s.toks) (fun b o hb e=>(sb.2 b hb).trans e) f0 f1 f3 f4 f5
  obtain ⟨o,e,c,d⟩:=id st'
  exact ⟨u,rfl,go_of (s:={ s with heap:=h' }) e c d (by decide) ⟨x,H,I1,ru,⟨rfl,fun ys hy=>by rw [I.list_inj hy hq];exact hx⟩,st',fun b hb=>(hf b hb).1⟩⟩
 done:=by
  intro X hP hw hK hc i pins s σ H E I hf st hg
  subst hP hw hK
  obtain ⟨xs,hq,hx⟩:=hg
  obtain ⟨its,rv,p,hz⟩:=I.list hq
  obtain ⟨f0,f1,f2,f3,f4,f5⟩:=hf it (by simp)
  have hl:=rv.length
  exact wpAny_pyNext_list_end (I.ok.hd hc) st p.isList (by simp;omega) fun h' eb=>⟨rfl,I.turned (t':=s.toks) (fun b o hb e=>eb b o hb e) f0 f1 f3 f4 f5⟩
 self:=fun _ _ _ _ _ st h=>wpAny_pyIter_listiter st h
theorem turn_tuple {P:Program} {w:World} {K:PySem.W.Frag} {tg:Expr} (a it:Addr):Turn P w K tg (Itt K a) [it] it (fun i h=>h.IsTupleIter it a i) where
 mem:=by simp
 obj:=fun i h st b hb=>by
  have e:b=it:=by simpa using hb
  subst e
  obtain ⟨o,e,c,d⟩:=st
  exact ⟨o,e,fun v z=>by rw [d] at z;cases z⟩
 keep:=fun i h h' st k=>st.at fun o e=>k it (by simp) o e
 item:=by
  intro X hP hw hK hc i pins s σ H E I hf st hg
  subst hP hw hK
  obtain ⟨xs,x,hq,hx⟩:=hg
  obtain ⟨its,rv,p,hz⟩:=I.tuple hq
  obtain ⟨u,hu,ru⟩:=rv.get hx
  obtain ⟨f0,f1,f2,f3,f4,f5⟩:=hf it (by simp)
  refine wpAny_pyNext_tuple_item st (show s.heap.IsTuple a its.toArray from p) (x:=u) (by simpa using hu) fun h' st' sb=>?_
  have I1:Inv X pins σ H { s with heap:=h' }:=I.turned (t':=s.toks) (fun b o hb e=>(sb.2 b hb).trans e) f0 f1 f3 f4 f5
  obtain ⟨o,e,c,d⟩:=id st'
  exact ⟨u,rfl,go_of (s:={ s with heap:=h' }) e c d (by decide) ⟨x,H,I1,ru,⟨rfl,fun ys hy=>by rw [I.tuple_inj hy hq];exact hx⟩,st',fun b hb=>(hf b hb).1⟩⟩
 done:=by
  intro X hP hw hK hc i pins s σ H E I hf st hg
  subst hP hw hK
  obtain ⟨xs,hq,hx⟩:=hg
  obtain ⟨its,rv,p,hz⟩:=I.tuple hq
  obtain ⟨f0,f1,f2,f3,f4,f5⟩:=hf it (by simp)
  have hl:=rv.length
  exact wpAny_pyNext_tuple_end (I.ok.hd hc) st (show s.heap.IsTuple a its.toArray from p) (by simp;omega) fun h' eb=>⟨rfl,I.turned (t':=s.toks) (fun b o hb e=>eb b o hb e) f0 f1 f3 f4 f5⟩
 self:=fun _ _ _ _ _ st h=>wpAny_pyIter_tupleiter st h
theorem turn_range {P:Program} {w:World} {K:PySem.W.Frag} {tg:Expr} (it:Addr) (lo:Int) (n:Nat):Turn P w K tg (Itr lo n) [it] it (fun i h=>IsRangeIter h it (lo + (i:Nat) * 1) ((n:Int) - (i:Nat)) 1) where
 mem:=by simp
 obj:=fun i h st b hb=>by
  have e:b=it:=by simpa using hb
  subst e
  exact ⟨_,st,fun v z=>by
   have z':Data.fields _=Data.cell v:=z
   cases z'⟩
 keep:=fun i h h' st k=>k it (by simp) _ st
 item:=by
  intro X hP hw hK hc i pins s σ H E I hf st hg
  subst hP hw hK
  obtain ⟨f0,f1,f2,f3,f4,f5⟩:=hf it (by simp)
  have W:=Walks.range (prog:=X.prog) (w:=X.w) (I.ok.hd hc) it lo 1 n
  refine W.item i s _ _ hg st fun v h' tk hv st' kk=>?_
  obtain ⟨t,rfl⟩:=hv
  have I1:Inv X pins σ H { s with heap:=h',toks:=tk }:=I.turned (fun b o hb e=>kk b o (by simpa using hb) e) f0 f1 f3 f4 f5
  refine ⟨_,rfl,go_of (s:={ s with heap:=h',toks:=tk }) (n:="range_iterator") st' rfl rfl (by decide) ⟨.int (lo + i),H,I1,⟨t,?_⟩,⟨rfl,rfl⟩,st',fun b hb=>(hf b hb).1⟩⟩
  rw [Int.mul_one]
 done:=by
  intro X hP hw hK hc i pins s σ H E I hf st hg
  subst hP hw hK
  obtain ⟨f0,f1,f2,f3,f4,f5⟩:=hf it (by simp)
  exact wpAny_pyNext_range_end (I.ok.hd hc) st (by have:n≤i:=hg;omega) fun h' eb=>⟨rfl,I.turned (t':=s.toks) (fun b o hb e=>eb b o hb e) f0 f1 f3 f4 f5⟩
 self:=fun _ _ _ _ _ st h=>wpAny_pyIter_rangeiter st h
end L2
namespace L2
open PySem PySem.Spec PyProof.Rows
section
variable {X:Cx} {tg:Expr}
def iList (K:PySem.W.Frag) (tl:TE):TI:=fun σ H R=>tl σ H fun x H1=>∃ a,x=.ref a∧(∃ xs,SqL K H1 a xs)∧R (Itl K a) H1
def iTup (K:PySem.W.Frag) (tl:TE):TI:=fun σ H R=>tl σ H fun x H1=>∃ a,x=.ref a∧(∃ xs,SqT K H1 a xs)∧R (Itt K a) H1
theorem pi_list {l:Expr} {tl:TE} (hl:PE X l tl):PI X tg l (iList X.K tl):=by
 intro pins s σ H R I h
 refine thn (hl pins s σ H _ I h) fun v s1 ⟨x,H1,I1,r1,q1⟩=>?_
 obtain ⟨a,e,⟨xs,hq⟩,q⟩:=q1
 subst e
 cases r1
 obtain ⟨its,rv,p,hz⟩:=I1.list hq
 refine wpAny_pyIter_list p.isList ?_
 refine ⟨s1.heap.objs.size,[s1.heap.objs.size],_,_,H1,rfl,I1.kept (t':=s1.toks) fun b o e=>Heap.get?_push_of_some _ e,turn_list a _,⟨_,Heap.get?_push_size _ rfl,rfl,rfl⟩,fun b hb=>?_,q⟩
 have e:b=s1.heap.objs.size:=by simpa using hb
 subst e
 exact I1.fpOk (Nat.le_refl _) (I1.hok.fresh (Nat.le_refl _))
theorem pi_tup {l:Expr} {tl:TE} (hl:PE X l tl):PI X tg l (iTup X.K tl):=by
 intro pins s σ H R I h
 refine thn (hl pins s σ H _ I h) fun v s1 ⟨x,H1,I1,r1,q1⟩=>?_
 obtain ⟨a,e,⟨xs,hq⟩,q⟩:=q1
 subst e
 cases r1
 obtain ⟨its,rv,p,hz⟩:=I1.tuple hq
 refine wpAny_pyIter_tuple (show s1.heap.IsTuple a its.toArray from p) ?_
 refine ⟨s1.heap.objs.size,[s1.heap.objs.size],_,_,H1,rfl,I1.kept (t':=s1.toks) fun b o e=>Heap.get?_push_of_some _ e,turn_tuple a _,⟨_,Heap.get?_push_size _ rfl,rfl,rfl⟩,fun b hb=>?_,q⟩
 have e:b=s1.heap.objs.size:=by simpa using hb
 subst e
 exact I1.fpOk (Nat.le_refl _) (I1.hok.fresh (Nat.le_refl _))
theorem range_it {pins:List (Addr × Obj)} {σ:St} {H:Hp} {s:Shared} {R:It→Hp→Prop} {E:Value→Shared→Prop} {lo hi:Int} {t u v:Tok} {tk:Nat} (I:Inv X pins σ H s) (h1:-(2 ^ 62)≤lo) (h2:lo < 2 ^ 62) (h3:-(2 ^ 62)≤hi) (h4:hi < 2 ^ 62)
  (q:R (Itr lo (hi - lo).toNat) H):wpAny (model X.prog X.w) X.A (pyIter (.ref s.heap.objs.size)) (PIE X pins σ tg R) E { s with heap:=s.heap.push { cls:=.type "range",data:=.fields #[.int lo t,.int hi u,.int 1 v] },toks:=tk }:=by
 refine wpAny_pyIter_range (IsRange.new ..) (small_one h1 h2 h3 h4) ?_
 have I1:Inv X pins σ H { s with heap:=s.heap.push { cls:=.type "range",data:=.fields #[.int lo t,.int hi u,.int 1 v] },toks:=tk }:=I.kept fun b o e=>Heap.get?_push_of_some _ e
 refine ⟨(s.heap.push { cls:=.type "range",data:=.fields #[.int lo t,.int hi u,.int 1 v] }).objs.size,[(s.heap.push { cls:=.type "range",data:=.fields #[.int lo t,.int hi u,.int 1 v] }).objs.size],_,_,H,rfl,
  I1.kept (t':=tk) fun b o e=>Heap.get?_push_of_some _ e,turn_range _ lo (hi - lo).toNat,?_,fun b hb=>?_,q⟩
 ·have e1:lo + ((0:Nat):Int) * 1=lo:=by simp
  have e2:(((hi - lo).toNat:Nat):Int) - ((0:Nat):Int)=Builtin.Range.rangeSize lo hi 1:=by rw [rangeSize_one];split <;> omega
  show IsRangeIter _ _ (lo + ((0:Nat):Int) * 1) ((((hi - lo).toNat:Nat):Int) - ((0:Nat):Int)) 1
  rw [e1,e2]
  exact Heap.get?_push_size _ rfl
 ·have e:b=(s.heap.push { cls:=.type "range",data:=.fields #[.int lo t,.int hi u,.int 1 v] }).objs.size:=by simpa using hb
  subst e
  exact I1.fpOk (Nat.le_refl _) (I1.hok.fresh (Nat.le_refl _))
def iRng1 (ta:TA):TI:=fun σ H R=>ta σ H fun vs H1=>∃ j:Int,vs=[.int j]∧-(2 ^ 62)≤j∧j < 2 ^ 62∧R (Itr 0 j.toNat) H1
def iRng2 (ta:TA):TI:=fun σ H R=>ta σ H fun vs H1=>∃ i j:Int,vs=[.int i,.int j]∧(-(2 ^ 62)≤i∧i < 2 ^ 62∧-(2 ^ 62)≤j∧j < 2 ^ 62)∧R (Itr i (j - i).toNat) H1
theorem pi_range1 {a:Expr} {ta:TA} {p pos:Pos} (hg:Gl X "range") (hm:X.mg "range"=none) (ha:PA X [a] ta) (hs:starEach [a] X.env=[(false,eval a X.env)]:=by rfl):PI X tg (.Call (.Name "range" p) [a] [] pos) (iRng1 ta):=by
 intro pins s σ H R I h
 refine Call_ (ld_blt I hg hm boot_range (PyProof.Rows.callWith_type1 (thn (ha pos pins s σ H _ I h) fun us s1 ⟨vs,H1,I1,r1,q1⟩=>?_) hs rfl))
 obtain ⟨j,e,q1,q2,q⟩:=q1
 subst e
 cases r1 with
 | cons r rr=>
  cases rr
  obtain ⟨t,rfl⟩:=r
  exact call_range_1 (range_it I1 (by omega) (by omega) q1 q2 (by simpa using q))
theorem pi_range2 {a b:Expr} {ta:TA} {p pos:Pos} (hg:Gl X "range") (hm:X.mg "range"=none) (ha:PA X [a,b] ta) (hs:starEach [a,b] X.env=[(false,eval a X.env),(false,eval b X.env)]:=by rfl) (hs2:starEach [b] X.env=[(false,eval b X.env)]:=by rfl) :
  PI X tg (.Call (.Name "range" p) [a,b] [] pos) (iRng2 ta):=by
 intro pins s σ H R I h
 refine Call_ (ld_blt I hg hm boot_range (PyProof.Rows.callWith_type1 (thn (ha pos pins s σ H _ I h) fun us s1 ⟨vs,H1,I1,r1,q1⟩=>?_) (by rw [hs,hs2]) (by rw [hs2];rfl)))
 obtain ⟨i,j,e,⟨q1,q2,q3,q4⟩,q⟩:=q1
 subst e
 cases r1 with
 | cons r rr=>
  cases rr with
  | cons r' rr=>
   cases rr
   obtain ⟨t,rfl⟩:=r
   obtain ⟨t',rfl⟩:=r'
   exact call_range_2 (range_it I1 q1 q2 q3 q4 q)
def tFor (wi:TI) (g:TG) (tb:TS):TS:=fun D σ H=>wi σ H fun J H1=>∃ W:Nat→Nat→St→Hp→Prop,(∃ m,W 0 m σ H1)∧∀ i m σ H,W i m σ H→
 (J.stop i H∧D.nx σ H)∨(J.go i H∧∃ N:St→Hp→Prop,(∀ σ' H',N σ' H'→∃ m',m' < m∧W (i + 1) m' σ' H')∧∀ x H',J.yld i H x H'→g x σ H' fun σ2 H2=>tb { D with nx:=N,ct:=N,bk:=D.nx } σ2 H2)
def pinsAt (fp:List Addr) (h:Heap):List (Addr × Obj):=fp.filterMap fun b=>(h.get? b).map fun o=>(b,o)
theorem mem_pinsAt {fp:List Addr} {h:Heap} {b:Addr} {o:Obj} (hb:b∈fp) (e:h.get? b=some o):(b,o)∈pinsAt fp h:=List.mem_filterMap.mpr ⟨b,hb,by rw [e];rfl⟩
theorem of_pinsAt {fp:List Addr} {h:Heap} {p:Addr × Obj} (hp:p∈pinsAt fp h):p.1∈fp∧h.get? p.1=some p.2:=by
 obtain ⟨b,hb,e⟩:=List.mem_filterMap.mp hp
 cases q:h.get? b with
 | none=>rw [q] at e;cases e
 | some o=>
  rw [q] at e
  have e':(b,o)=p:=Option.some.inj e
  subst e'
  exact ⟨hb,q⟩
theorem Inv.pinned {pins:List (Addr × Obj)} {σ:St} {H:Hp} {s:Shared} {fp:List Addr} (I:Inv X pins σ H s) (hf:∀ b∈fp,FpOk X pins H b) (ho:∀ b∈fp,∃ o,s.heap.get? b=some o∧∀ v,o.data≠.cell v):Inv X (pins ++ pinsAt fp s.heap) σ H s:=
 I.pins_of fun p hp=>(List.mem_append.mp hp).elim (fun z=>I.pin p (List.mem_append_right _ z)) fun z=>by
  obtain ⟨hb,e⟩:=of_pinsAt z
  obtain ⟨f0,f1,f2,_⟩:=hf p.1 hb
  obtain ⟨o,e',d⟩:=ho p.1 hb
  rw [e] at e';cases e'
  exact ⟨e,f0,f1,f2,d⟩
theorem Inv.unpinned {pins pl:List (Addr × Obj)} {σ:St} {H:Hp} {s:Shared} (I:Inv X (pins ++ pl) σ H s):Inv X pins σ H s:=I.pins_of fun p hp=>I.pin p (List.mem_append_right _ (List.mem_append_left _ hp))
theorem ps_for {iter:Expr} {body:List Stmt} {wi:TI} {g:TG} {tb:TS} {pos:Pos} (hp:PassesOwn (model X.prog X.w) X.A X.env X.xe) (hc:X.calm=true) (hi:PI X tg iter wi) (hg:PG X tg g) (hb:PSs X body tb)
  (hs:∀ x,foldedSetIterable iter X.env x=pure x:=by intro _;rfl):PS X (.For tg iter body [] pos) (tFor wi g tb):=by
 intro pins s σ H D I h
 refine wpAny_For (thn (hi pins s σ H _ I h) fun v s1 h1=>thn h1 fun itv s2 h2=>?_) hs
 obtain ⟨it,fp,tn,J,H2,e,I2,T,st2,f2,W,⟨m0,w0⟩,turn⟩:=h2
 subst e
 have stat:∀ {H':Hp},(∀ b∈fp,H' b=none)→∀ b∈fp,FpOk X pins H' b:=fun hn b hb=>⟨hn b hb,(f2 b hb).2⟩
 refine codeAny_forLoop_any (fun n s'=>∃ i σ' H',Inv X pins σ' H' s'∧tn i s'.heap∧(∀ b∈fp,H' b=none)∧W i n σ' H') ?_ m0 ⟨0,σ,H2,I2,st2,fun b hb=>(f2 b hb).1,w0⟩
 rintro n s3 ⟨i,σ3,H3,I3,st3,fr3,w3⟩
 rcases turn i n σ3 H3 w3 with ⟨stop,qn⟩ | ⟨go,N,hN,step⟩
 ·refine wpAny_passesOwn hp (thn (T.done X rfl rfl rfl hc i pins s3 σ3 H3 X.xe I3 (stat fr3) st3 stop) fun r s4 ⟨hr,I4⟩=>?_)
  subst hr
  exact wpAny_execs_nil ⟨σ3,H3,I4,qn⟩
 ·refine wpAny_passesOwn hp (thn (T.item X rfl rfl rfl hc i pins s3 σ3 H3 X.xe I3 (stat fr3) st3 go) fun r s4 ⟨u,hr,h4⟩=>?_)
  subst hr
  refine wpAny_passesOwn hp (thn h4 fun _ s5 ⟨x,H5,I5,r5,y5,st5,fr5⟩=>?_)
  have I5':=I5.pinned (stat fr5) (T.obj _ _ st5)
  refine wpAny_passesOwn hp (thn (hg _ s5 σ3 H5 x u _ I5' r5 (step x H5 y5)) fun _ s6 ⟨σ6,H6,I6,q6⟩=>?_)
  refine wpAny_passesOwn hp (thn (hb _ s6 σ6 H6 _ I6 q6) fun f s7 q7=>?_)
  have again:∀ {σ7:St} {H7:Hp},Inv X (pins ++ pinsAt fp s5.heap) σ7 H7 s7→N σ7 H7→∃ m,m < n∧∃ i σ' H',Inv X pins σ' H' s7∧tn i s7.heap∧(∀ b∈fp,H' b=none)∧W i m σ' H':=fun {σ7 H7} I7 n7=>by
   obtain ⟨m',hm,w7⟩:=hN σ7 H7 n7
   refine ⟨m',hm,i + 1,σ7,H7,I7.unpinned,T.keep _ _ _ st5 fun b hb o e=>(I7.pin (b,o) (List.mem_append_right _ (List.mem_append_right _ (mem_pinsAt hb e)))).1,fun b hb=>?_,w7⟩
   obtain ⟨o,e,d⟩:=T.obj _ _ st5 b hb
   exact (I7.pin (b,o) (List.mem_append_right _ (List.mem_append_right _ (mem_pinsAt hb e)))).2.1
  cases f with
  | next=>obtain ⟨σ7,H7,I7,n7⟩:=q7;exact again I7 n7
  | cont=>obtain ⟨σ7,H7,I7,n7⟩:=q7;exact again I7 n7
  | brk=>obtain ⟨σ7,H7,I7,q7⟩:=q7;exact ⟨σ7,H7,I7.unpinned,q7⟩
  | ret v=>obtain ⟨x7,σ7,H7,I7,r7,q7⟩:=q7;exact ⟨x7,σ7,H7,I7.unpinned,r7,q7⟩
end
theorem for_list {K:PySem.W.Frag} {a:Addr} {xs:List V} {g:TG} {tb:TS} {D:Ends} {σ:St} {H:Hp} (Pv:Nat→St→Hp→Prop) (h0:Pv 0 σ H) (hl:∀ i σ H,i≤xs.length→Pv i σ H→SqL K H a xs)
  (hs:∀ i x σ H,xs[i]?=some x→Pv i σ H→g x σ H fun σ2 H2=>tb { D with nx:=Pv (i + 1),ct:=Pv (i + 1),bk:=D.nx } σ2 H2) (hd:∀ σ H,Pv xs.length σ H→D.nx σ H) :
  ∃ W:Nat→Nat→St→Hp→Prop,(∃ m,W 0 m σ H)∧∀ i m σ H,W i m σ H→
   ((Itl K a).stop i H∧D.nx σ H)∨((Itl K a).go i H∧∃ N:St→Hp→Prop,(∀ σ' H',N σ' H'→∃ m',m' < m∧W (i + 1) m' σ' H')∧∀ x H',(Itl K a).yld i H x H'→g x σ H' fun σ2 H2=>tb { D with nx:=N,ct:=N,bk:=D.nx } σ2 H2):=by
 refine ⟨fun i m σ H=>m=xs.length - i∧i≤xs.length∧Pv i σ H,⟨xs.length,by simp,Nat.zero_le _,h0⟩,?_⟩
 rintro i m σ H ⟨rfl,hi,p⟩
 have q:=hl i σ H hi p
 by_cases hlt:i < xs.length
 ·refine .inr ⟨⟨xs,xs[i],q,by simp [hlt]⟩,Pv (i + 1),fun σ' H' p'=>⟨xs.length - (i + 1),by omega,rfl,hlt,p'⟩,fun x H' y=>?_⟩
  obtain ⟨e,y⟩:=y
  subst e
  exact hs i x σ _ (y xs q) p
 ·have e:i=xs.length:=by omega
  subst e
  exact .inl ⟨⟨xs,q,Nat.le_refl _⟩,hd σ H p⟩
theorem for_tup {K:PySem.W.Frag} {a:Addr} {xs:List V} {g:TG} {tb:TS} {D:Ends} {σ:St} {H:Hp} (Pv:Nat→St→Hp→Prop) (h0:Pv 0 σ H) (hl:∀ i σ H,i≤xs.length→Pv i σ H→SqT K H a xs)
  (hs:∀ i x σ H,xs[i]?=some x→Pv i σ H→g x σ H fun σ2 H2=>tb { D with nx:=Pv (i + 1),ct:=Pv (i + 1),bk:=D.nx } σ2 H2) (hd:∀ σ H,Pv xs.length σ H→D.nx σ H) :
  ∃ W:Nat→Nat→St→Hp→Prop,(∃ m,W 0 m σ H)∧∀ i m σ H,W i m σ H→
   ((Itt K a).stop i H∧D.nx σ H)∨((Itt K a).go i H∧∃ N:St→Hp→Prop,(∀ σ' H',N σ' H'→∃ m',m' < m∧W (i + 1) m' σ' H')∧∀ x H',(Itt K a).yld i H x H'→g x σ H' fun σ2 H2=>tb { D with nx:=N,ct:=N,bk:=D.nx } σ2 H2):=by
 refine ⟨fun i m σ H=>m=xs.length - i∧i≤xs.length∧Pv i σ H,⟨xs.length,by simp,Nat.zero_le _,h0⟩,?_⟩
 rintro i m σ H ⟨rfl,hi,p⟩
 have q:=hl i σ H hi p
 by_cases hlt:i < xs.length
 ·refine .inr ⟨⟨xs,xs[i],q,by simp [hlt]⟩,Pv (i + 1),fun σ' H' p'=>⟨xs.length - (i + 1),by omega,rfl,hlt,p'⟩,fun x H' y=>?_⟩
  obtain ⟨e,y⟩:=y
  subst e
  exact hs i x σ _ (y xs q) p
 ·have e:i=xs.length:=by omega
  subst e
  exact .inl ⟨⟨xs,q,Nat.le_refl _⟩,hd σ H p⟩
theorem for_range {lo:Int} {n:Nat} {g:TG} {tb:TS} {D:Ends} {σ:St} {H:Hp} (Pv:Nat→St→Hp→Prop) (h0:Pv 0 σ H)
  (hs:∀ i σ H,i < n→Pv i σ H→g (.int (lo + i)) σ H fun σ2 H2=>tb { D with nx:=Pv (i + 1),ct:=Pv (i + 1),bk:=D.nx } σ2 H2) (hd:∀ σ H,Pv n σ H→D.nx σ H) :
  ∃ W:Nat→Nat→St→Hp→Prop,(∃ m,W 0 m σ H)∧∀ i m σ H,W i m σ H→
   ((Itr lo n).stop i H∧D.nx σ H)∨((Itr lo n).go i H∧∃ N:St→Hp→Prop,(∀ σ' H',N σ' H'→∃ m',m' < m∧W (i + 1) m' σ' H')∧∀ x H',(Itr lo n).yld i H x H'→g x σ H' fun σ2 H2=>tb { D with nx:=N,ct:=N,bk:=D.nx } σ2 H2):=by
 refine ⟨fun i m σ H=>m=n - i∧i≤n∧Pv i σ H,⟨n,by simp,Nat.zero_le _,h0⟩,?_⟩
 rintro i m σ H ⟨rfl,hi,p⟩
 by_cases hlt:i < n
 ·refine .inr ⟨hlt,Pv (i + 1),fun σ' H' p'=>⟨n - (i + 1),by omega,rfl,hlt,p'⟩,fun x H' y=>?_⟩
  obtain ⟨e,y⟩:=y
  subst e y
  exact hs i σ _ hlt p
 ·have e:i=n:=by omega
  subst e
  exact .inl ⟨Nat.le_refl _,hd σ H p⟩
end L2
namespace L2
open PySem PySem.Spec PyProof.Rows
abbrev R2:=V→V→Hp→VK→Prop
def OpR (X:Cx) (f:Value→Value→Sem Value) (r:R2):Prop:=
 ∀ (pins:List (Addr × Obj)) (s:Shared) (σ:St) (H:Hp) (x y:V) (v u:Value) (Q:VK),Inv X pins σ H s→RelV x v→RelV y u→r x y H Q→
  wpAny (model X.prog X.w) X.A (f v u) (EP X pins σ Q) X.xe s
def UnR (X:Cx) (f:Value→Sem Value) (r:V→Hp→VK→Prop):Prop:=
 ∀ (pins:List (Addr × Obj)) (s:Shared) (σ:St) (H:Hp) (x:V) (v:Value) (Q:VK),Inv X pins σ H s→RelV x v→r x H Q→
  wpAny (model X.prog X.w) X.A (f v) (EP X pins σ Q) X.xe s
def CallR (X:Cx) (f:Value) (r:List V→Hp→VK→Prop):Prop:=
 ∀ (pins:List (Addr × Obj)) (s:Shared) (σ:St) (H:Hp) (xs:List V) (us:List Value) (Q:VK),Inv X pins σ H s→Vals xs us→r xs H Q→
  wpAny (model X.prog X.w) X.A (call f us) (EP X pins σ Q) X.xe s
def tOp (r:R2) (ta tb:TE):TE:=fun σ H Q=>ta σ H fun x H1=>tb σ H1 fun y H2=>r x y H2 Q
def tUn (r:V→Hp→VK→Prop) (ta:TE):TE:=fun σ H Q=>ta σ H fun x H1=>r x H1 Q
def rI (C:Int→Int→Prop) (g:Int→Int→V):R2:=fun x y H Q=>∃ i j,x=.int i∧y=.int j∧C i j∧Q (g i j) H
def rI0 (g:Int→Int→V):R2:=fun x y H Q=>∃ i j,x=.int i∧y=.int j∧Q (g i j) H
def rU (g:Int→V):V→Hp→VK→Prop:=fun x H Q=>∃ i,x=.int i∧Q (g i) H
section
variable {X:Cx} {a b c:Expr} {ta tb tc:TE} {pos:Pos}
theorem binT (ha:PE X a ta) (hb:PE X b tb) {pins:List (Addr × Obj)} {s:Shared} {σ:St} {H:Hp} {R:V→V→Hp→Prop} (I:Inv X pins σ H s)
  (h:ta σ H fun x H1=>tb σ H1 fun y H2=>R x y H2) {Q:Value→Shared→Prop} {f:Value→Value→Sem Value}
  (hf:∀ v u s2 x y H2,Inv X pins σ H2 s2→RelV x v→RelV y u→R x y H2→wpAny (model X.prog X.w) X.A (f v u) Q X.xe s2) :
  wpAny (model X.prog X.w) X.A (eval a X.env) (fun v s₁=>wpAny (model X.prog X.w) X.A (eval b X.env) (fun u s₂=>wpAny (model X.prog X.w) X.A (f v u) Q X.xe s₂) X.xe s₁) X.xe s:=by
 refine thn (ha pins s σ H _ I h) fun v s1 ⟨x,H1,I1,r1,q1⟩=>?_
 refine thn (hb pins s1 σ H1 _ I1 q1) fun u s2 ⟨y,H2,I2,r2,q2⟩=>?_
 exact hf v u s2 x y H2 I2 r1 r2 q2
theorem pe_op {op:Operator} {r:R2} (ho:OpR X (binaryOp op) r) (ha:PE X a ta) (hb:PE X b tb):PE X (.BinOp a op b pos) (tOp r ta tb):=by
 intro pins s σ H Q I h
 exact wpAny_BinOp (binT ha hb I h fun v u s2 x y H2 I2 rx ry q=>ho pins s2 σ H2 x y v u Q I2 rx ry q)
theorem pe_un {op:UnaryOp} {r:V→Hp→VK→Prop} (ho:UnR X (unaryOp op) r) (ha:PE X a ta):PE X (.UnaryOp op a pos) (tUn r ta):=by
 intro pins s σ H Q I h
 exact UnaryOp_ (thn (ha pins s σ H _ I h) fun v s1 ⟨x,H1,I1,r1,q1⟩=>ho pins s1 σ H1 x v Q I1 r1 q1)
theorem opI {f:Value→Value→Sem Value} {C:Int→Int→Prop} {g:Int→Int→Int}
  (rule:∀ (i j:Int) (t u:Tok) (s:Shared) (Q:Value→Shared→Prop) (E:Value→Shared→Prop),C i j→Q (.int (g i j) s.toks) { s with toks:=s.toks + 1 }→wpAny (model X.prog X.w) X.A (f (.int i t) (.int j u)) Q E s) :
  OpR X f (rI C fun i j=>.int (g i j)):=by
 intro pins s σ H x y v u Q I rx ry h
 obtain ⟨i,j,rfl,rfl,hc,q⟩:=h
 obtain ⟨t,rfl⟩:=rx
 obtain ⟨t',rfl⟩:=ry
 exact rule i j t t' s _ _ hc ⟨.int (g i j),H,I.tok _,⟨_,rfl⟩,q⟩
theorem opI0 {f:Value→Value→Sem Value} {g:Int→Int→Int}
  (rule:∀ (i j:Int) (t u:Tok) (s:Shared) (Q:Value→Shared→Prop) (E:Value→Shared→Prop),Q (.int (g i j) s.toks) { s with toks:=s.toks + 1 }→wpAny (model X.prog X.w) X.A (f (.int i t) (.int j u)) Q E s) :
  OpR X f (rI0 fun i j=>.int (g i j)):=by
 intro pins s σ H x y v u Q I rx ry h
 obtain ⟨i,j,rfl,rfl,q⟩:=h
 obtain ⟨t,rfl⟩:=rx
 obtain ⟨t',rfl⟩:=ry
 exact rule i j t t' s _ _ ⟨.int (g i j),H,I.tok _,⟨_,rfl⟩,q⟩
theorem opB0 {f:Value→Value→Sem Value} {g:Int→Int→Bool}
  (rule:∀ (i j:Int) (t u:Tok) (s:Shared) (Q:Value→Shared→Prop) (E:Value→Shared→Prop),Q (.bool (g i j)) s→wpAny (model X.prog X.w) X.A (f (.int i t) (.int j u)) Q E s) :
  OpR X f (rI0 fun i j=>.bl (g i j)):=by
 intro pins s σ H x y v u Q I rx ry h
 obtain ⟨i,j,rfl,rfl,q⟩:=h
 obtain ⟨t,rfl⟩:=rx
 obtain ⟨t',rfl⟩:=ry
 exact rule i j t t' s _ _ ⟨.bl (g i j),H,I,rfl,q⟩
def CDiv (i j:Int):Prop:=0 < j∧j < 1073741824
def CPow (i j:Int):Prop:=0≤j∧j≤1000000∧i.natAbs < 2 ^ 64
def CMul (i j:Int):Prop:=(-(2 ^ 64) < i∧i < 2 ^ 64)∨(-(2 ^ 64) < j∧j < 2 ^ 64)
theorem CMul.ok {i j:Int} (h:CMul i j):IntMulOk i j:=by
 rcases h with ⟨h1,h2⟩ | ⟨h1,h2⟩
 ·exact .of_left (intBits_le_64 h1 h2)
 ·exact .of_right (intBits_le_64 h1 h2)
theorem op_add:OpR X (binaryOp .Add) (rI0 fun i j=>.int (i + j)):=opI0 fun _ _ _ _ _ _ _ q=>add_int q
theorem op_sub:OpR X (binaryOp .Sub) (rI0 fun i j=>.int (i - j)):=opI0 fun _ _ _ _ _ _ _ q=>sub_int q
theorem op_mul:OpR X (binaryOp .Mult) (rI CMul fun i j=>.int (i * j)):=opI fun _ _ _ _ _ _ _ hc q=>mul_int q hc.ok
theorem op_fdiv:OpR X (binaryOp .FloorDiv) (rI CDiv fun i j=>.int (i / j)):=opI fun i j _ _ _ _ _ hc q=>by
 have h1:(0:Int) < j:=hc.1
 have h2:j < 1073741824:=hc.2
 exact floordiv_int (by omega) (by rw [Int.fdiv_eq_ediv_of_nonneg i (by omega)];exact q) (.inl (PyProof.noPylong_small (by omega)))
theorem op_mod:OpR X (binaryOp .Mod) (rI (fun _ j=>0 < j) fun i j=>.int (i % j)):=opI fun i j _ _ _ _ _ hc q=>by
 have h1:(0:Int) < j:=hc
 exact mod_int' (by omega) (by rw [Int.fmod_eq_emod_of_nonneg i (by omega)];exact q)
theorem op_pow:OpR X (binaryOp .Pow) (rI CPow fun i j=>.int (i ^ j.toNat)):=opI fun _ _ _ _ _ _ _ hc q=>pow_int_small hc.1 hc.2.1 hc.2.2 q
theorem unI {f:Value→Sem Value} {g:Int→Int}
  (rule:∀ (i:Int) (t:Tok) (s:Shared) (Q:Value→Shared→Prop) (E:Value→Shared→Prop),Q (.int (g i) s.toks) { s with toks:=s.toks + 1 }→wpAny (model X.prog X.w) X.A (f (.int i t)) Q E s) :
  UnR X f (rU fun i=>.int (g i)):=by
 intro pins s σ H x v Q I rx h
 obtain ⟨i,rfl,q⟩:=h
 obtain ⟨t,rfl⟩:=rx
 exact rule i t s _ _ ⟨.int (g i),H,I.tok _,⟨_,rfl⟩,q⟩
theorem un_neg:UnR X (unaryOp .USub) (rU fun i=>.int (-i)):=unI fun _ _ _ _ _ q=>neg_int q
end
def scal:V→V→Bool
 | .non,.non=>true | .non,.int _=>true | .int _,.non=>true | .non,.bl _=>true | .bl _,.non=>true | .non,.str _=>true | .str _,.non=>true
 | .int _,.int _=>true | .bl _,.bl _=>true | .str _,.str _=>true | .byt _,.byt _=>true
 | .int _,.str _=>true | .str _,.int _=>true | .bl _,.str _=>true | .str _,.bl _=>true
 | _,_=>false
def rEq:R2:=fun x y H Q=>scal x y=true∧Q (.bl (decide (x=y))) H
def rNe:R2:=fun x y H Q=>scal x y=true∧Q (.bl (!decide (x=y))) H
theorem dec_int {i j:Int}:decide (V.int i=V.int j)=(i == j):=by
 rw [Bool.eq_iff_iff]
 simp
theorem dec_bl {i j:Bool}:decide (V.bl i=V.bl j)=(i == j):=by
 rw [Bool.eq_iff_iff]
 simp
theorem dec_str {i j:Str}:decide (V.str i=V.str j)=(i == j):=by
 rw [Bool.eq_iff_iff]
 simp
theorem dec_byt {i j:Array UInt8}:decide (V.byt i=V.byt j)=(i.toList == j.toList):=by
 rw [Bool.eq_iff_iff]
 cases i
 cases j
 simp
section
variable {X:Cx} {a b c:Expr} {ta tb tc:TE} {pos:Pos}
theorem fin_bl {pins:List (Addr × Obj)} {σ:St} {H:Hp} {s:Shared} {Q:VK} {k k':Bool} (I:Inv X pins σ H s) (q:Q (.bl k) H) (e:k=k'):EP X pins σ Q (.bool k') s:=by
 subst e
 exact ⟨.bl k,H,I,rfl,q⟩
theorem op_eq:OpR X (compareOp .Eq) rEq:=by
 intro pins s σ H x y v u Q I rx ry h
 obtain ⟨hs,q⟩:=h
 cases x with
 | non=>
  cases rx
  cases y with
  | non=>cases ry;exact PySem.EqNone.eq_none_none (fin_bl I q (by simp))
  | bl j=>cases ry;exact PySem.EqNone.eq_none_bool (fin_bl I q (by simp))
  | int j=>obtain ⟨t',rfl⟩:=ry;exact PySem.EqNone.eq_none_int (fin_bl I q (by simp))
  | str j=>obtain ⟨t',rfl⟩:=ry;exact PySem.EqNone.eq_none_str (fin_bl I q (by simp))
  | _=>exact absurd (show false=true from hs) Bool.false_ne_true
 | bl i=>
  cases rx
  cases y with
  | non=>cases ry;exact PySem.EqNone.eq_bool_none (fin_bl I q (by simp))
  | bl j=>cases ry;exact eq_bool (fin_bl I q dec_bl)
  | str j=>obtain ⟨t',rfl⟩:=ry;exact PySem.EqMixed.eq_bool_str (fin_bl I q (by simp))
  | _=>exact absurd (show false=true from hs) Bool.false_ne_true
 | int i=>
  obtain ⟨t,rfl⟩:=rx
  cases y with
  | non=>cases ry;exact PySem.EqNone.eq_int_none (fin_bl I q (by simp))
  | int j=>obtain ⟨t',rfl⟩:=ry;exact eq_int (fin_bl I q dec_int)
  | str j=>obtain ⟨t',rfl⟩:=ry;exact PySem.EqMixed.eq_int_str (fin_bl I q (by simp))
  | _=>exact absurd (show false=true from hs) Bool.false_ne_true
 | str i=>
  obtain ⟨t,rfl⟩:=rx
  cases y with
  | non=>cases ry;exact PySem.EqNone.eq_str_none (fin_bl I q (by simp))
  | bl j=>cases ry;exact PySem.EqMixed.eq_str_bool (fin_bl I q (by simp))
  | int j=>obtain ⟨t',rfl⟩:=ry;exact PySem.EqMixed.eq_str_int (fin_bl I q (by simp))
  | str j=>obtain ⟨t',rfl⟩:=ry;exact eq_str (fin_bl I q dec_str)
  | _=>exact absurd (show false=true from hs) Bool.false_ne_true
 | byt i=>
  obtain ⟨t,rfl⟩:=rx
  cases y with
  | byt j=>obtain ⟨t',rfl⟩:=ry;exact PySem.W.eq_bytes (fin_bl I q dec_byt)
  | _=>exact absurd (show false=true from hs) Bool.false_ne_true
 | _=>cases y <;> exact absurd (show false=true from hs) Bool.false_ne_true
theorem op_ne:OpR X (compareOp .NotEq) rNe:=by
 intro pins s σ H x y v u Q I rx ry h
 obtain ⟨hs,q⟩:=h
 cases x with
 | non=>
  cases rx
  cases y with
  | non=>cases ry;exact PySem.EqNone.ne_none_none (fin_bl I q (by simp))
  | bl j=>cases ry;exact PySem.EqNone.ne_none_bool (fin_bl I q (by simp))
  | int j=>obtain ⟨t',rfl⟩:=ry;exact PySem.EqNone.ne_none_int (fin_bl I q (by simp))
  | str j=>obtain ⟨t',rfl⟩:=ry;exact PySem.EqNone.ne_none_str (fin_bl I q (by simp))
  | _=>exact absurd (show false=true from hs) Bool.false_ne_true
 | bl i=>
  cases rx
  cases y with
  | non=>cases ry;exact PySem.EqNone.ne_bool_none (fin_bl I q (by simp))
  | bl j=>cases ry;exact ne_bool (fin_bl I q (congrArg not dec_bl))
  | str j=>obtain ⟨t',rfl⟩:=ry;exact PySem.EqMixed.ne_bool_str (fin_bl I q (by simp))
  | _=>exact absurd (show false=true from hs) Bool.false_ne_true
 | int i=>
  obtain ⟨t,rfl⟩:=rx
  cases y with
  | non=>cases ry;exact PySem.EqNone.ne_int_none (fin_bl I q (by simp))
  | int j=>obtain ⟨t',rfl⟩:=ry;exact ne_int (fin_bl I q (congrArg not dec_int))
  | str j=>obtain ⟨t',rfl⟩:=ry;exact PySem.EqMixed.ne_int_str (fin_bl I q (by simp))
  | _=>exact absurd (show false=true from hs) Bool.false_ne_true
 | str i=>
  obtain ⟨t,rfl⟩:=rx
  cases y with
  | non=>cases ry;exact PySem.EqNone.ne_str_none (fin_bl I q (by simp))
  | bl j=>cases ry;exact PySem.EqMixed.ne_str_bool (fin_bl I q (by simp))
  | int j=>obtain ⟨t',rfl⟩:=ry;exact PySem.EqMixed.ne_str_int (fin_bl I q (by simp))
  | str j=>obtain ⟨t',rfl⟩:=ry;exact ne_str (fin_bl I q (congrArg not dec_str))
  | _=>exact absurd (show false=true from hs) Bool.false_ne_true
 | byt i=>
  obtain ⟨t,rfl⟩:=rx
  cases y with
  | byt j=>obtain ⟨t',rfl⟩:=ry;exact PySem.W.ne_bytes (fin_bl I q (congrArg not dec_byt))
  | _=>exact absurd (show false=true from hs) Bool.false_ne_true
 | _=>cases y <;> exact absurd (show false=true from hs) Bool.false_ne_true
theorem op_lt:OpR X (compareOp .Lt) (rI0 fun i j=>.bl (decide (i < j))):=opB0 fun _ _ _ _ _ _ _ q=>lt_int q
theorem op_le:OpR X (compareOp .LtE) (rI0 fun i j=>.bl (decide (i≤j))):=opB0 fun _ _ _ _ _ _ _ q=>le_int q
theorem op_gt:OpR X (compareOp .Gt) (rI0 fun i j=>.bl (decide (j < i))):=opB0 fun _ _ _ _ _ _ _ q=>gt_int q
theorem op_ge:OpR X (compareOp .GtE) (rI0 fun i j=>.bl (decide (j≤i))):=opB0 fun _ _ _ _ _ _ _ q=>ge_int q
theorem op_in_str:OpR X (compareOp .In) (fun x y H Q=>∃ i j,x=.str i∧y=.str j∧Q (.bl (!(Builtin.Str.occurrences j i 0 j.length 1).isEmpty)) H):=by
 intro pins s σ H x y v u Q I rx ry h
 obtain ⟨i,j,rfl,rfl,q⟩:=h
 obtain ⟨t,rfl⟩:=rx
 obtain ⟨t',rfl⟩:=ry
 exact in_str (fin_bl I q rfl)
theorem op_isN:OpR X (compareOp .Is) (fun x y H Q=>y=.non∧Q (.bl (decide (x=.non))) H):=by
 intro pins s σ H x y v u Q I rx ry h
 obtain ⟨rfl,q⟩:=h
 cases ry
 refine is_none_gen (fin_bl I q ?_)
 cases x <;> first
  | (cases rx;rfl)
  | (obtain ⟨t,rfl⟩:=rx;rfl)
theorem op_notN:OpR X (compareOp .IsNot) (fun x y H Q=>y=.non∧Q (.bl (!decide (x=.non))) H):=by
 intro pins s σ H x y v u Q I rx ry h
 obtain ⟨rfl,q⟩:=h
 cases ry
 refine isnot_none_gen (fin_bl I q ?_)
 cases x <;> first
  | (cases rx;rfl)
  | (obtain ⟨t,rfl⟩:=rx;rfl)
theorem nomark (b:Expr) {op:CmpOp} (h:op≠.In:=by decide) (h2:op≠.NotIn:=by decide):behindInMarks op b=false:=by
 have e1:(op == CmpOp.In)=false:=by cases op <;> first | rfl | exact absurd rfl h
 have e2:(op == CmpOp.NotIn)=false:=by cases op <;> first | rfl | exact absurd rfl h2
 cases b <;> simp [behindInMarks,e1,e2]
theorem pe_cmpR {op:CmpOp} {r:R2} (ho:OpR X (compareOp op) r) (ha:PE X a ta) (hb:PE X b tb) (hm:behindInMarks op b=false):PE X (.Compare a [op] [b] pos) (tOp r ta tb):=by
 intro pins s σ H Q I h
 exact wpAny_Compare1 (binT ha hb I h fun v u s2 x y H2 I2 rx ry q=>ho pins s2 σ H2 x y v u Q I2 rx ry q) hm
def tTest (t:TE):TT:=fun σ H Q=>t σ H fun x H'=>∃ k,x=.bl k∧Q k H'
theorem pt_cmpR {op:CmpOp} {r:R2} (ho:OpR X (compareOp op) r) (ha:PE X a ta) (hb:PE X b tb) (hm:behindInMarks op b=false):PT X (.Compare a [op] [b] pos) (tTest (tOp r ta tb)):=by
 intro pins s σ H Q I h
 refine wpAny_isTrue_Compare1 (thn (ha pins s σ H _ I h) fun v s1 ⟨x,H1,I1,r1,q1⟩=>thn (hb pins s1 σ H1 _ I1 q1) fun u s2 ⟨y,H2,I2,r2,q2⟩=>
  thn (ho pins s2 σ H2 x y v u _ I2 r1 r2 q2) fun c s3 ⟨z,H3,I3,r3,k,e,q3⟩=>?_) hm
 subst e
 cases r3
 exact wpAny_truthy_bool ⟨H3,I3,q3⟩
def tChain (r r':R2) (ta tb tc:TE):TE:=fun σ H Q=>ta σ H fun x H1=>tb σ H1 fun y H2=>r x y H2 fun z H3=>∃ k,z=.bl k∧
 (if k=true then tc σ H3 fun w' H4=>r' y w' H4 Q else Q (.bl false) H3)
theorem pe_chain {op op':CmpOp} {r r':R2} (ho:OpR X (compareOp op) r) (ho':OpR X (compareOp op') r') (ha:PE X a ta) (hb:PE X b tb) (hc:PE X c tc)
  (hm:lastMarks [op,op'] [b,c]=false:=by with_unfolding_all rfl):PE X (.Compare a [op,op'] [b,c] pos) (tChain r r' ta tb tc):=by
 intro pins s σ H Q I h
 refine Compare_chain (thn (ha pins s σ H _ I h) fun v s1 ⟨x,H1,I1,r1,q1⟩=>chain_link (thn (hb pins s1 σ H1 _ I1 q1) fun u s2 ⟨y,H2,I2,r2,q2⟩=>
  thn (ho pins s2 σ H2 x y v u _ I2 r1 r2 q2) fun d s3 ⟨z,H3,I3,r3,k,e,q3⟩=>?_)) hm
 subst e
 cases r3
 refine wpAny_truthy_bool ?_
 cases k with
 | false=>exact ite_ff ⟨.bl false,H3,I3,rfl,q3⟩
 | true=>exact ite_tt (chain_last (thn (hc pins s3 σ H3 _ I3 q3) fun w' s4 ⟨z',H4,I4,r4,q4⟩=>ho' pins s4 σ H4 y z' u w' Q I4 r2 r4 q4))
theorem pt_chain {op op':CmpOp} {r r':R2} (ho:OpR X (compareOp op) r) (ho':OpR X (compareOp op') r') (ha:PE X a ta) (hb:PE X b tb) (hc:PE X c tc)
  (hm:lastMarks [op,op'] [b,c]=false:=by with_unfolding_all rfl):PT X (.Compare a [op,op'] [b,c] pos) (tTest (tChain r r' ta tb tc)):=by
 intro pins s σ H Q I h
 refine isTrue_chain (thn (ha pins s σ H _ I h) fun v s1 ⟨x,H1,I1,r1,q1⟩=>test_link (thn (hb pins s1 σ H1 _ I1 q1) fun u s2 ⟨y,H2,I2,r2,q2⟩=>
  thn (ho pins s2 σ H2 x y v u _ I2 r1 r2 q2) fun d s3 ⟨z,H3,I3,r3,k,e,q3⟩=>?_)) hm
 subst e
 cases r3
 refine wpAny_truthy_bool ?_
 cases k with
 | false=>
  obtain ⟨k',e',q'⟩:=q3
  cases e'
  exact ite_ff ⟨H3,I3,q'⟩
 | true=>
  refine ite_tt (test_last (thn (hc pins s3 σ H3 _ I3 q3) fun w' s4 ⟨z',H4,I4,r4,q4⟩=>thn (ho' pins s4 σ H4 y z' u w' _ I4 r2 r4 q4) fun d' s5 ⟨z2,H5,I5,r5,k2,e2,q5⟩=>?_))
  subst e2
  cases r5
  exact wpAny_truthy_bool ⟨H5,I5,q5⟩
theorem line63:(sizeLine:Nat) < 2 ^ 63:=by rw [sizeLine_eq];decide
theorem op_add_str:OpR X (binaryOp .Add) (fun x y H Q=>∃ i j,x=.str i∧y=.str j∧i.length + j.length≤sizeLine∧Q (.str (i ++ j)) H):=by
 intro pins s σ H x y v u Q I rx ry h
 obtain ⟨i,j,rfl,rfl,hz,q⟩:=h
 obtain ⟨t,rfl⟩:=rx
 obtain ⟨t',rfl⟩:=ry
 exact add_str (fun t' tk=>⟨.str (i ++ j),H,I.tok _,⟨_,rfl⟩,q⟩) hz
theorem vals1 {x:V} {us:List Value} (r:Vals [x] us):∃ u,us=[u]∧RelV x u:=by
 cases r with
 | cons r1 r2=>cases r2;exact ⟨_,rfl,r1⟩
theorem vals2 {x y:V} {us:List Value} (r:Vals [x,y] us):∃ u w',us=[u,w']∧RelV x u∧RelV y w':=by
 cases r with
 | cons r1 r2=>
  cases r2 with
  | cons r3 r4=>cases r4;exact ⟨_,_,rfl,r1,r3⟩
theorem call_int1:CallR X (.type "int") (fun xs H Q=>(∃ i,xs=[.int i]∧Q (.int i) H)∨∃ k,xs=[.bl k]∧Q (.int (if k then 1 else 0)) H):=by
 intro pins s σ H xs us Q I r h
 rcases h with ⟨i,rfl,q⟩ | ⟨k,rfl,q⟩
 ·obtain ⟨u,rfl,t,rfl⟩:=vals1 r
  exact call_int_int ⟨.int i,H,I,⟨_,rfl⟩,q⟩
 ·obtain ⟨u,rfl,r1⟩:=vals1 r
  cases r1
  exact call_int_bool ⟨.int (if k then 1 else 0),H,I.tok _,⟨_,rfl⟩,q⟩
end
end L2
namespace L2
open PySem PySem.Spec PyProof.Rows
structure ObjM (h:Heap) (x dx C:Addr) (mA:Str→Option Value):Prop where
 obj:h.get? x=some (PySem.W.instObj C dx)
 ns:h.Ns1 dx mA
 ne:dx≠x
theorem lookIn_ns {h:Heap} {dx:Addr} {mA:Str→Option Value} (n:h.Ns1 dx mA):∃ od,h.get? dx=some od∧∀ name,PySem.W.lookIn name od=some (mA name):=by
 obtain ⟨o,es,ep,ho,hd,hk,_,hm⟩:=n
 refine ⟨o,ho,fun name=>?_⟩
 have e:=hm name
 unfold nsFind findBy at e
 rw [← Array.find?_toList] at e
 unfold PySem.W.lookIn
 rw [hd]
 dsimp only
 split
 ·rename_i y q
  rw [q] at e
  exact congrArg some e
 ·rename_i q
  rw [q] at e
  have a:es.toList.any (·.refKey)=false:=by
   rw [List.any_eq_false]
   intro y hy
   obtain ⟨z,t,hkey⟩:=hk y (Array.mem_toList_iff.mp hy)
   simp [DictEntry.refKey,hkey]
  have a':¬es.toList.any (·.refKey)=true:=by rw [a];exact Bool.false_ne_true
  rw [if_neg a']
  exact congrArg some e
theorem ObjM.look {h:Heap} {x dx C:Addr} {mA:Str→Option Value} (I:ObjM h x dx C mA):∃ od,PySem.W.InstAt h x (PySem.W.instObj C dx) C (some od)∧∀ name,PySem.W.lookIn name od=some (mA name):=
 let ⟨od,ho,hl⟩:=lookIn_ns I.ns
 ⟨od,⟨I.obj,rfl,rfl,ho⟩,hl⟩
section
variable {prog:Program} {w:World} {A:Around} {E:Value→Shared→Prop} {s:Shared} {K:PySem.W.Frag} {x dx C f:Addr} {mA:Str→Option Value} {name:Str} {v:Value}
theorem get_map {expr:Bool} {Q:Value→Shared→Prop} (X:K.In s.heap) (I:ObjM s.heap x dx C mA) (hg:PySem.W.plainGet K C name=true) (hh:PySem.W.hasDictIn K C=true)
  (ha:PySem.W.findIn K (.ref C) name=some none) (hv:mA name=some v) (hv':PySem.W.handedIn v=true) (h:Q v { s with toks:=s.toks + 1 }) :
  wpAny (model prog w) A (getAttr (.ref x) name expr) Q E s:=by
 obtain ⟨od,J,hl⟩:=I.look
 exact PySem.W.get_value X J (PySem.W.plainGet_of hg).1 (PySem.W.findObj_own hh ha rfl (by rw [hl,hv])) hv' h
theorem get_meth {pl:Sem Bool} {Q:Value × List Value→Shared→Prop} (X:K.In s.heap) (I:ObjM s.heap x dx C mA) (hg:PySem.W.plainGet K C name=true)
  (hf:PySem.W.findIn K (.ref C) name=some (some (.ref f))) (ht:PySem.W.isFn K (.ref f)=true) (hv:mA name=none) (h:Q (.ref f,[.ref x]) s) :
  wpAny (model prog w) A (getMethod (.ref x) name pl) Q E s:=by
 obtain ⟨od,J,hl⟩:=I.look
 exact PySem.W.method_fn X J (PySem.W.plainGet_of hg).1 (PySem.W.plainGet_of hg).2 hf (beq_iff_eq.mp ht) (by show (PySem.W.lookIn name od).map (·.isSome)=some false;rw [hl,hv];rfl) h
theorem set_map {ns:List Str} {Q:Unit→Shared→Prop} (X:K.In s.heap) (I:ObjM s.heap x dx C mA)
  (hs:PySem.W.findIn K (.ref C) "__setattr__"=some (some (.builtin "object.__setattr__"))) (hp:PySem.W.plainOver K C=true) (ht:PySem.W.takerIn K C name=some none) (hh:PySem.W.hasDictIn K C=true)
  (hw:PySem.Within mA ns) (hsz:ns.length≤sizeLine)
  (h:∀ h',ObjM h' x dx C (fun y=>if y=name then some v else mA y)→Heap.SameBut dx s.heap h'→Q () { s with heap:=h',toks:=s.toks + 2 }) :
  wpAny (model prog w) A (setAttr (.ref x) name v) Q E s:=by
 obtain ⟨od,J,hl⟩:=I.look
 refine PySem.W.set_plain X J hs (PySem.W.osa_open (s:={ s with toks:=s.toks + 1 }) (r:=none) X J hp ht fun b=>?_)
 obtain ⟨cd,hc,hd'⟩:=PySem.W.any_some hh
 have hx:s.heap.get? x=some ⟨.ref C,some dx,.plain,#[]⟩:=I.obj
 refine wpAny_bind (wpAny_pure (wpAny_bind (wpAny_bind (wpAny_loadPart hx (wpAny_bind (PySem.W.Looks.here (s:={ s with toks:=s.toks + 1 }) (PySem.W.looks_clsIn X hc) ?_))))))
 rw [hd']
 refine wpAny_pure (a:=some dx) (wpAny_bind (wpAny_pure (wpAny_bind ?_)))
 refine wpAny_nsSet1 (s:={ s with toks:=s.toks + 1 }) I.ns fun h' hn2 hs2=>?_
 obtain ⟨oD,esD,epD,hoD,hdD,hcD⟩:=hn2.count (PySem.Within.cons name v hw)
 refine wpAny_bind (wpAny_lookBehind hoD (by rw [hdD];exact pastItsLine_dict (Nat.le_trans hcD (by rw [List.length_cons];omega))) ?_)
 exact wpAny_pure (h _ ⟨(hs2.2 _ (Ne.symm I.ne)).trans I.obj,hn2,I.ne⟩ hs2)
theorem make_map {R:Result→Shared→Prop} {vs:List Value} {kw:List (Str × Value)} (X:K.In s.heap) (hm:PySem.W.makesIn K C=true)
  (hi:PySem.W.findIn K (.ref C) "__init__"=some (some (.ref f))) (hf:PySem.W.typeIn K (.ref f)=some (.type "function"))
  (h:codeAny (model prog w) (A.under (.builtin "type.__call__" ⟨.ref C :: vs,kw⟩)) (.call (.ref f) ⟨.ref (s.heap.objs.size + 1) :: vs,kw⟩) (PySem.W.InitBack (s.heap.objs.size + 1) R)
   { s with heap:=(s.heap.push PySem.W.emptyDict).push (PySem.W.instObj C s.heap.objs.size) }) :
  codeAny (model prog w) A (.call (.ref C) ⟨vs,kw⟩) R s:=by
 obtain ⟨hh,g,d,t,os⟩:=s
 exact PySem.W.make_core (PySem.W.makes_of X hm) (PySem.W.looks_findIn X hi) (fun self=>PySem.W.bind_fn X self hf) (.inl rfl) h
end
def putF (f:Str) (v:V):List (Str × V)→List (Str × V)
 | []=>[(f,v)]
 | (g,x) :: r=>if g=f then (g,v) :: r else (g,x) :: putF f v r
theorem lookup_putF (f g:Str) (v:V):∀ fs:List (Str × V),(putF f v fs).lookup g=if g=f then some v else fs.lookup g
 | []=>by
  show List.lookup g [(f,v)]=_
  by_cases h:g=f
  ·have hb:(g == f)=true:=beq_iff_eq.mpr h
   simp only [List.lookup,hb,if_pos h]
  ·have hb:(g == f)=false:=beq_eq_false_iff_ne.mpr h
   simp only [List.lookup,hb,if_neg h]
 | (k,x) :: r=>by
  have ih:=lookup_putF f g v r
  rw [show putF f v ((k,x) :: r)=(if k=f then (k,v) :: r else (k,x) :: putF f v r) from rfl]
  by_cases hk:k=f
  ·rw [if_pos hk]
   by_cases h:g=k
   ·have hb:(g == k)=true:=beq_iff_eq.mpr h
    simp only [List.lookup,hb,if_pos (h.trans hk)]
   ·have hb:(g == k)=false:=beq_eq_false_iff_ne.mpr h
    simp only [List.lookup,hb,if_neg (fun e:g=f=>h (e.trans hk.symm))]
  ·rw [if_neg hk]
   by_cases h:g=k
   ·have hb:(g == k)=true:=beq_iff_eq.mpr h
    simp only [List.lookup,hb,if_neg (fun e:g=f=>hk (h.symm.trans e))]
   ·have hb:(g == k)=false:=beq_eq_false_iff_ne.mpr h
    simp only [List.lookup,hb]
    exact ih
theorem keys_putF (f:Str) (v:V):∀ fs:List (Str × V),f∈(putF f v fs).map (·.1)∧∀ g,g∈fs.map (·.1)→g∈(putF f v fs).map (·.1)
 | []=>⟨by simp [putF],fun g h=>by simp at h⟩
 | (k,x) :: r=>by
  obtain ⟨i1,i2⟩:=keys_putF f v r
  rw [show putF f v ((k,x) :: r)=(if k=f then (k,v) :: r else (k,x) :: putF f v r) from rfl]
  by_cases hk:k=f
  ·rw [if_pos hk]
   subst hk
   exact ⟨by simp,fun g h=>by simpa using h⟩
  ·rw [if_neg hk]
   refine ⟨?_,fun g h=>?_⟩
   ·rw [List.map_cons]
    exact List.mem_cons_of_mem _ i1
   ·rw [List.map_cons] at h ⊢
    rcases List.mem_cons.mp h with e | e
    ·exact List.mem_cons.mpr (.inl e)
    ·exact List.mem_cons_of_mem _ (i2 g e)
theorem length_putF (f:Str) (v:V):∀ fs:List (Str × V),(putF f v fs).length≤fs.length + 1
 | []=>by simp [putF]
 | (k,x) :: r=>by
  have ih:=length_putF f v r
  rw [show putF f v ((k,x) :: r)=(if k=f then (k,v) :: r else (k,x) :: putF f v r) from rfl]
  by_cases hk:k=f
  ·rw [if_pos hk,List.length_cons,List.length_cons];omega
  ·rw [if_neg hk,List.length_cons,List.length_cons];omega
theorem RelO.some_of {v:V} {o:Option Value} (r:RelO (some v) o):∃ u,o=some u∧RelV v u:=by
 cases o with
 | none=>exact (show False from r).elim
 | some u=>exact ⟨u,rfl,r⟩
theorem RelO.none_of {o:Option Value} (r:RelO none o):o=none:=by
 cases o with
 | none=>rfl
 | some u=>exact (show False from r).elim
theorem handed_of {v:V} {u:Value} (r:RelV v u):PySem.W.handedIn u=true:=by
 cases v with
 | non=>cases (show u=Value.none from r);rfl
 | bl b=>cases (show u=Value.bool b from r);rfl
 | int i=>obtain ⟨t,e⟩:=(show ∃ t,u=Value.int i t from r);cases e;rfl
 | str x=>obtain ⟨t,e⟩:=(show ∃ t,u=Value.str x t from r);cases e;rfl
 | byt b=>obtain ⟨t,e⟩:=(show ∃ t,u=Value.bytes b t from r);cases e;rfl
 | flt b=>obtain ⟨t,e⟩:=(show ∃ t,u=Value.float b t from r);cases e;rfl
 | ref a=>cases (show u=Value.ref a from r);rfl
 | ty n=>cases (show u=Value.type n from r);rfl
section
variable {P:Program} {w:World} {H H':Hp} {h h':Heap} {a C dx:Addr} {fs fs':List (Str × V)}
theorem ins_get (hok:HOk P w H h) (e:H a=some (.ins C dx fs)):∃ mA,ObjM h a dx C mA∧(∀ f,RelO (fs.lookup f) (mA f))∧PySem.Within mA (fs.map (·.1))∧fs.length≤1000∧H dx=some (.own a):=by
 obtain ⟨d,z,ne,ob,mA,n,r,q⟩:=(show ObjOk P w H h a (.ins C dx fs) from hok a _ e)
 exact ⟨mA,⟨ob,n,ne⟩,r,q,z,d⟩
end
structure Cls (K:PySem.W.Frag) (C:Addr):Prop where
 pg:PySem.W.plainGet K C Str.empty=true
 hd:PySem.W.hasDictIn K C=true
 po:PySem.W.plainOver K C=true
 sa:PySem.W.findIn K (.ref C) "__setattr__"=some (some (.builtin "object.__setattr__"))
theorem Cls.get {K:PySem.W.Frag} {C:Addr} (c:Cls K C) (f:Str):PySem.W.plainGet K C f=true:=c.pg
def NoAttr (K:PySem.W.Frag) (C:Addr) (f:Str):Prop:=PySem.W.findIn K (.ref C) f=some none
theorem NoAttr.taker {K:PySem.W.Frag} {C:Addr} {f:Str} (n:NoAttr K C f):PySem.W.takerIn K C f=some none:=by
 unfold PySem.W.takerIn
 rw [show PySem.W.findIn K (.ref C) f=some none from n]
 rfl
structure Con (K:PySem.W.Frag) (C:Addr) (f:Str) (v:V) (u:Value):Prop where
 at_:PySem.W.findIn K (.ref C) f=some (some u)
 rel:RelV v u
 get:PySem.W.specialIn K u "__get__"=some none
 cp:PySem.W.copiedNames.contains f=false
structure Meth (K:PySem.W.Frag) (C:Addr) (m:Str) (f:Addr):Prop where
 at_:PySem.W.findIn K (.ref C) m=some (some (.ref f))
 fn:PySem.W.isFn K (.ref f)=true
 kp:PySem.W.keepIn K (.ref f)=true
section
variable {X:Cx} {pins:List (Addr × Obj)} {σ:St} {H:Hp} {s:Shared} {a C dx:Addr} {fs:List (Str × V)} {f:Str} {v:V} {A:Around} {E:Value→Shared→Prop}
theorem getattr_ok {b:Bool} {Q:Value→Shared→Prop} (I:Inv X pins σ H s) (e:H a=some (.ins C dx fs)) (c:Cls X.K C) (n:NoAttr X.K C f) (l:fs.lookup f=some v)
  (h:∀ u s',Inv X pins σ H s'→RelV v u→Q u s'):wpAny (model X.prog X.w) A (getAttr (.ref a) f b) Q E s:=by
 obtain ⟨mA,O,r,_,_,_⟩:=ins_get I.hok e
 obtain ⟨u,hu,ru⟩:=RelO.some_of (v:=v) (o:=mA f) (by rw [← l];exact r f)
 exact get_map I.kIn O (c.get f) c.hd n hu (handed_of ru) (h u _ (I.tok _) ru)
theorem getmeth_ok {m:Str} {g:Addr} {pl:Sem Bool} {Q:Value × List Value→Shared→Prop} (I:Inv X pins σ H s) (e:H a=some (.ins C dx fs)) (c:Cls X.K C) (k:Meth X.K C m g) (l:fs.lookup m=none)
  (h:Q (.ref g,[.ref a]) s):wpAny (model X.prog X.w) A (getMethod (.ref a) m pl) Q E s:=by
 obtain ⟨mA,O,r,_,_,_⟩:=ins_get I.hok e
 have hn:mA m=none:=RelO.none_of (by rw [← l];exact r m)
 exact get_meth I.kIn O (c.get m) k.at_ k.fn hn h
theorem setattr_ok {y:V} {u:Value} {Q:Unit→Shared→Prop} (I:Inv X pins σ H s) (e:H a=some (.ins C dx fs)) (c:Cls X.K C) (n:NoAttr X.K C f) (hl:fs.length < 1000) (ry:RelV y u)
  (h:∀ s',Inv X pins σ (upd H a (.ins C dx (putF f y fs))) s'→Q () s'):wpAny (model X.prog X.w) A (setAttr (.ref a) f u) Q E s:=by
 obtain ⟨mA,O,r,wi,_,ho⟩:=ins_get I.hok e
 have hz:(fs.map (·.1)).length≤sizeLine:=by rw [List.length_map,sizeLine_eq];omega
 refine set_map I.kIn O c.sa c.po n.taker c.hd wi hz fun h' O' sb=>h _ ?_
 have hd:∃ o,h'.get? dx=some o:=let ⟨o,_,_,e',_⟩:=O'.ns;⟨o,e'⟩
 refine I.write (x:=a) (e:=dx) (by rw [e];exact True.intro) (.inr ho) (fun b q hb z=>(sb.2 b hb).trans z) hd ?_
 refine ⟨by rw [upd_ne O.ne];exact ho,?_,O.ne,O'.obj,_,O'.ns,fun g=>?_,fun g hg=>?_⟩
 ·have:=length_putF f y fs;omega
 ·show RelO ((putF f y fs).lookup g) (if g=f then some u else mA g)
  rw [lookup_putF]
  by_cases q:g=f
  ·rw [if_pos q,if_pos q];exact ry
  ·rw [if_neg q,if_neg q];exact r g
 ·by_cases q:g=f
  ·rw [q];exact (keys_putF f y fs).1
  ·refine (keys_putF f y fs).2 g (wi g fun z=>hg ?_)
   show (if g=f then some u else mA g)=none
   rw [if_neg q];exact z
theorem Inv.made (I:Inv X pins σ H s):Inv X pins σ (upd (upd H s.heap.objs.size (.own (s.heap.objs.size + 1))) (s.heap.objs.size + 1) (.ins C s.heap.objs.size []))
  { s with heap:=(s.heap.push PySem.W.emptyDict).push (PySem.W.instObj C s.heap.objs.size) }:=by
 have e1:(s.heap.push PySem.W.emptyDict).get? s.heap.objs.size=some PySem.W.emptyDict:=Heap.get?_push_size s.heap rfl
 have e2:((s.heap.push PySem.W.emptyDict).push (PySem.W.instObj C s.heap.objs.size)).get? (s.heap.objs.size + 1)=some (PySem.W.instObj C s.heap.objs.size):=by
  have:=Heap.get?_push_size (s.heap.push PySem.W.emptyDict) (o:=PySem.W.instObj C s.heap.objs.size) rfl
  rwa [Heap.size_push] at this
 have e3:(s.heap.push PySem.W.emptyDict).Ns s.heap.objs.size (fun _=>none):=⟨PySem.W.emptyDict,#[],_,e1,rfl,(fun e he=>absurd he (by simp)),fun _=>rfl⟩
 have I1:=I.laid (a:=s.heap.objs.size) (o:=.own (s.heap.objs.size + 1)) (h':=s.heap.push PySem.W.emptyDict) (t':=s.toks) (fun b u q=>Heap.get?_push_of_some _ q) (Nat.le_refl _) ⟨_,e1⟩
 refine I1.laid (a:=s.heap.objs.size + 1) (o:=.ins C s.heap.objs.size []) (t':=s.toks) (fun b u q=>Heap.get?_push_of_some _ q) (Nat.le_of_eq (Heap.size_push _ _)) ?_
 have ne:s.heap.objs.size≠s.heap.objs.size + 1:=Nat.ne_of_lt (Nat.lt_succ_self _)
 refine ⟨by rw [upd_ne ne,upd_same],Nat.zero_le _,ne,e2,fun _=>none,(Heap.Ns1.of_empty e3).at fun o q=>Heap.get?_push_of_some _ q,fun _=>True.intro,fun y hy=>absurd rfl hy⟩
theorem attr_of {prog:Program} {w:World} {env:Env} {e:Expr} {f:Str} {pos:Pos} {s:Shared} {Q:Value→Shared→Prop} (hb:attributeBase e f env (eval e env)=eval e env)
  (h:wpAny (model prog w) A (eval e env) (fun o s₁=>wpAny (model prog w) A (getAttr o f true) Q E s₁) E s):wpAny (model prog w) A (eval (.Attribute e f pos) env) Q E s:=
 Attribute_any_ h (by rw [arm_eval_Attribute,hb])
end
def tFld (K:PySem.W.Frag) (ta:TE) (f:Str):TE:=fun σ H Q=>ta σ H fun x H1=>∃ a C dx fs v,x=.ref a∧H1 a=some (.ins C dx fs)∧Cls K C∧NoAttr K C f∧fs.lookup f=some v∧Q v H1
def sFld (K:PySem.W.Frag) (ta tv:TE) (f:Str):TS:=fun D σ H=>tv σ H fun y H1=>ta σ H1 fun x H2=>∃ a C dx fs,x=.ref a∧H2 a=some (.ins C dx fs)∧Cls K C∧NoAttr K C f∧fs.length < 1000∧
 D.nx σ (upd H2 a (.ins C dx (putF f y fs)))
section
variable {X:Cx} {o e value:Expr} {f:Str} {pos pos' tpos:Pos} {ta tv:TE}
theorem pe_fld (he:PE X e ta) (hb:attributeBase e f X.env (eval e X.env)=eval e X.env):PE X (.Attribute e f pos) (tFld X.K ta f):=by
 intro pins s σ H Q I h
 refine attr_of hb (thn (he pins s σ H _ I h) fun u s1 ⟨x,H1,I1,rx,a,C,dx,fs,v,ex,ea,c,n,l,q⟩=>?_)
 subst ex
 obtain rfl:u=Value.ref a:=rx
 exact getattr_ok I1 ea c n l fun u' s2 I2 ru=>⟨v,H1,I2,ru,q⟩
theorem ps_fld (ha:PE X o ta) (hv:PE X value tv) (hs:swapsWith value (some (.Attribute o f pos')) pos.line X.env=pure false):PS X (.Assign [.Attribute o f pos'] value pos) (sFld X.K ta tv f):=by
 intro pins s σ H D I h
 refine plainObj_wpAny_Assign_Attribute (thn (hv pins s σ H _ I h) fun u s1 ⟨y,H1,I1,ry,q⟩=>thn (ha pins s1 σ H1 _ I1 q) fun ov s2 ⟨x,H2,I2,rx,a,C,dx,fs,ex,ea,c,n,l,q2⟩=>?_) hs
 subst ex
 obtain rfl:ov=Value.ref a:=rx
 exact setattr_ok I2 ea c n l ry fun s3 I3=>⟨σ,_,I3,q2⟩
end
section
variable {X:Cx} {pins:List (Addr × Obj)} {σ:St} {H:Hp} {s:Shared} {A:Around} {E:Value→Shared→Prop} {Q:Value→Shared→Prop} {c:Value} {b:Bool}
inductive TyOf (K:PySem.W.Frag) (H:Hp):V→Value→Prop where
 | non:TyOf K H .non (.type "NoneType")
 | bl (x:Bool):TyOf K H (.bl x) (.type "bool")
 | int (i:Int):TyOf K H (.int i) (.type "int")
 | str (x:Str):TyOf K H (.str x) (.type "str")
 | flt (x:UInt64):TyOf K H (.flt x) (.type "float")
 | lst {a:Addr} {xs:List V} (e:H a=some (.lst xs)):TyOf K H (.ref a) (.type "list")
 | frz {a:Addr} {o:Obj} {xs:List V} (e:H a=some (.frz o (.lst xs))):TyOf K H (.ref a) (.type "list")
 | tup {a:Addr} {xs:List V} (e:H a=some (.tup xs)):TyOf K H (.ref a) (.type "tuple")
 | dK {a:Addr} {kvs:List (Key × V)} (e:H a=some (.dK kvs)):TyOf K H (.ref a) (.type "dict")
 | dT {a:Addr} {kvs:List (List Key × V)} (e:H a=some (.dT kvs)):TyOf K H (.ref a) (.type "dict")
 | ins {a C dx:Addr} {fs:List (Str × V)} (e:H a=some (.ins C dx fs)) (cl:Cls K C) (ha:PySem.W.findIn K (.ref C) "__class__"=some (some (.builtin "object.__class__")))
   (hn:PySem.W.specialIn K (.builtin "object.__class__") "__get__"=some (some (.builtin "getset_descriptor.__get__"))) (htk:PySem.W.takesIn K (.builtin "object.__class__")=some true)
   (hm:PySem.W.mroIn K C (.type "object")=some true):TyOf K H (.ref a) (.ref C)
theorem isinst_ok {x:V} {u t:Value} (I:Inv X pins σ H s) (rx:RelV x u) (ty:TyOf X.K H x t) (e:PySem.W.kitOne X.K t c=some b) (h:∀ tk,Q (.bool b) { s with toks:=tk }) :
  wpAny (model X.prog X.w) A (call (.builtin "isinstance") [u,c]) Q E s:=by
 cases ty with
 | non=>cases (show u=Value.none from rx);exact PySem.W.kia_one PySem.W.kitx_none I.kIn True.intro e (fun z=>nomatch z) h
 | bl y=>cases (show u=Value.bool y from rx);exact PySem.W.kia_one PySem.W.kitx_bool I.kIn True.intro e (fun z=>nomatch z) h
 | int i=>obtain ⟨t,q⟩:=(show ∃ t,u=Value.int i t from rx);cases q;exact PySem.W.kia_one PySem.W.kitx_int I.kIn True.intro e (fun z=>nomatch z) h
 | str y=>obtain ⟨t,q⟩:=(show ∃ t,u=Value.str y t from rx);cases q;exact PySem.W.kia_one PySem.W.kitx_str I.kIn True.intro e (fun z=>nomatch z) h
 | flt y=>obtain ⟨t,q⟩:=(show ∃ t,u=Value.float y t from rx);cases q;exact PySem.W.kia_one PySem.W.kitx_float I.kIn True.intro e (fun z=>nomatch z) h
 | @lst a xs ea=>
  cases (show u=Value.ref a from rx)
  obtain ⟨_,_,n,_,h1⟩:=(show ObjOk X.prog X.w H s.heap a (.lst xs) from I.hok a _ ea)
  exact PySem.W.kia_one PySem.W.kitx_list I.kIn ⟨_,h1,rfl⟩ e (fun z=>nomatch z) h
 | @frz a ob xs ea=>
  cases (show u=Value.ref a from rx)
  obtain ⟨_,_,_,n,_,h1⟩:=(show ObjOk X.prog X.w H s.heap a (.frz ob (.lst xs)) from I.hok a _ ea)
  exact PySem.W.kia_one PySem.W.kitx_list I.kIn ⟨_,h1,rfl⟩ e (fun z=>nomatch z) h
 | @tup a xs ea=>
  cases (show u=Value.ref a from rx)
  obtain ⟨_,_,_,p⟩:=(show ObjOk X.prog X.w H s.heap a (.tup xs) from I.hok a _ ea)
  obtain ⟨o,h1,h2,_⟩:=p
  exact PySem.W.kia_one PySem.W.kitx_tuple I.kIn ⟨o,h1,h2⟩ e (fun z=>nomatch z) h
 | @dK a kvs ea=>
  cases (show u=Value.ref a from rx)
  obtain ⟨_,_,vs,_,p⟩:=(show ObjOk X.prog X.w H s.heap a (.dK kvs) from I.hok a _ ea)
  obtain ⟨o,es,ep,h1,h2,_⟩:=p
  exact PySem.W.kia_one PySem.W.kitx_dict I.kIn ⟨o,h1,h2.1⟩ e (fun z=>nomatch z) h
 | @dT a kvs ea=>
  cases (show u=Value.ref a from rx)
  obtain ⟨_,_,xs,_,o,es,ep,h1,h2,_⟩:=(show ObjOk X.prog X.w H s.heap a (.dT kvs) from I.hok a _ ea)
  exact PySem.W.kia_one PySem.W.kitx_dict I.kIn ⟨o,h1,h2.1⟩ e (fun z=>nomatch z) h
 | @ins a C dx fs ea cl ha hn htk hm=>
  cases (show u=Value.ref a from rx)
  obtain ⟨mA,O,_⟩:=ins_get I.hok ea
  obtain ⟨od,J,_⟩:=O.look
  exact PySem.W.kia_one (PySem.W.kitx_own (cl.get _) cl.hd ha hn htk hm) I.kIn J e (fun z=>nomatch z) h
end
end L2
namespace L2
open PySem PySem.Spec PyProof.Rows
structure Room (k:Nat) (A:Around):Prop where
 hd:A.handled=none
 dp:A.depth + 3 * k + 5 < recursionLimit
 un:A.units + 16 * k + 200 < cLine
theorem Room.mono {j k:Nat} {A:Around} (r:Room k A) (h:j≤k):Room j A:=⟨r.hd,by have:=r.dp;omega,by have:=r.un;omega⟩
theorem Room.deeper {k:Nat} {A:Around} (r:Room (k + 1) A) (env:Env):Room k (A.deeper env):=
 ⟨r.hd,by have:=r.dp;show A.depth + 1 + 3 * k + 5 < _;omega,by have:=r.un;show A.units + 3 + 16 * k + 200 < _;omega⟩
theorem make_depth {A:Around} {C:Addr} {us:List Value} {kw:List (Str × Value)}:(A.under (.builtin "type.__call__" ⟨.ref C :: us,kw⟩)).depth=A.depth + 1:=by
 first | rfl | simp [Around.under,Code.weight,Code.isCreation,Code.isGuard,Code.isCaller,Code.frames,Code.isFrame,guardIds]
theorem make_units {A:Around} {C:Addr} {us:List Value} {kw:List (Str × Value)}:(A.under (.builtin "type.__call__" ⟨.ref C :: us,kw⟩)).units=A.units + 1:=by
 first | rfl | simp [Around.under,Code.cUnits,Code.frames,Code.isFrame]
theorem Room.make {k:Nat} {A:Around} (r:Room (k + 1) A) (C:Addr) (us:List Value) (kw:List (Str × Value)):Room k (A.under (.builtin "type.__call__" ⟨.ref C :: us,kw⟩)):=
 ⟨r.hd,by have:=r.dp;rw [make_depth];omega,by have:=r.un;rw [make_units];omega⟩
theorem Room.depth {k:Nat} {A:Around} (r:Room k A):A.depth < recursionLimit:=by have:=r.dp;omega
theorem Room.units {k:Nat} {A:Around} (r:Room k A):A.units + 64 < cLine:=by have:=r.un;omega
theorem Room.units0 {k:Nat} {A:Around} (r:Room k A):A.units < cLine:=by have:=r.un;omega
def tNil:TA:=fun _ H Q=>Q [] H
def tCons (ta:TE) (tr:TA):TA:=fun σ H Q=>ta σ H fun x H1=>tr σ H1 fun xs H2=>Q (x :: xs) H2
section
variable {X:Cx} {e:Expr} {es:List Expr} {te:TE} {t:TA} {pos:Pos}
theorem pa_nil:PA X [] tNil:=fun _ _ _ _ H Q I h=>Calls.spliced_nil ⟨[],H,I,.nil,h⟩
theorem pa_cons (ha:PE X e te) (hr:PA X es t) (hs:starEach (e :: es) X.env=(false,eval e X.env) :: starEach es X.env:=by rfl):PA X (e :: es) (tCons te t):=by
 intro pos pins s σ H Q I h
 rw [hs]
 show wpAny _ _ (spliced ((false,eval e X.env) :: backTo pos (starEach es X.env))) _ _ s
 refine Calls.spliced_cons (thn (ha pins s σ H _ I h) fun u s1 ⟨x,H1,I1,r1,q1⟩=>?_)
 exact thn (hr pos pins s1 σ H1 _ I1 q1) fun us s2 ⟨xs,H2,I2,r2,q2⟩=>⟨x :: xs,H2,I2,.cons r1 r2,q2⟩
def tTup (t:TA):TE:=fun σ H Q=>t σ H fun xs H1=>xs.length≤sizeLine∧∀ p,H1 p=none→Q (.ref p) (upd H1 p (.tup xs))
def tLst (t:TA):TE:=fun σ H Q=>t σ H fun xs H1=>xs.length≤sizeLine∧∀ p,H1 p=none→Q (.ref p) (upd H1 p (.lst xs))
theorem pe_tup {x1} (h:PA X es t):PE X (.Tuple es x1 pos) (tTup t):=by
 intro pins s σ H Q I hq
 refine wpAny_Tuple_spliced (thn (h pos pins s σ H _ I hq) fun us s1 ⟨xs,H1,I1,r,z,q⟩=>⟨by rw [← r.length];exact z,?_⟩)
 have hf:H1 s1.heap.objs.size=none:=I1.hok.fresh (Nat.le_refl _)
 refine ⟨.ref s1.heap.objs.size,upd H1 s1.heap.objs.size (.tup xs),I1.laid (t':=s1.toks) (fun b u e=>Heap.get?_push_of_some _ e) (Nat.le_refl _) ?_,rfl,q _ hf⟩
 exact ⟨z,us,r,⟨_,Heap.get?_push_size _ rfl,rfl,_,rfl⟩⟩
theorem pe_lst (h:PA X es t):PE X (.List es pos) (tLst t):=by
 intro pins s σ H Q I hq
 refine wpAny_List_spliced (thn (h pos pins s σ H _ I hq) fun us s1 ⟨xs,H1,I1,r,z,q⟩=>⟨by rw [← r.length];exact z,?_⟩)
 have hf:H1 s1.heap.objs.size=none:=I1.hok.fresh (Nat.le_refl _)
 refine ⟨.ref s1.heap.objs.size,upd H1 s1.heap.objs.size (.lst xs),I1.laid (t':=s1.toks) (fun b u e=>Heap.get?_push_of_some _ e) (Nat.le_refl _) ?_,rfl,q _ hf⟩
 exact ⟨z,us,0,r,Heap.get?_push_size _ rfl⟩
end
abbrev Sp:=List V→Hp→VK→XK→Prop
abbrev CXT:=List Env→Hp→Shared→XK→Value→Shared→Prop
structure Env0 (P:Program) (w:World) (K:PySem.W.Frag) (mg:Str→Option Value) (base:Heap) (A:Around) (outer:List Env) (s:Shared) (H:Hp):Prop where
 frames:A.frames=some outer
 mod:Mod K mg base
 bs:∀ b o,base.get? b=some o→s.heap.get? b=some o∧H b=none
 bsz:base.objs.size≤s.heap.objs.size
 funs:s.heap.FunFrames base outer
 frf:∀ b∈frs outer,H b=none
 hok:HOk P w H s.heap
 bare:AllBare s.gens
def CE (outer:List Env) (P:Program) (w:World) (H:Hp) (s:Shared) (Q:VK) (u:Value) (s':Shared):Prop:=
 ∃ v H',s'.os=s.os∧AllBare s'.gens∧Un (frs outer) [] H H' s.heap s'.heap∧HOk P w H' s'.heap∧RelV v u∧Q v H'
def CR (CX:CXT) (outer:List Env) (P:Program) (w:World) (H:Hp) (s:Shared) (Q:VK) (E:XK) (r:Result) (s':Shared):Prop:=
 match r with
 | .ok (.ret u)=>CE outer P w H s Q u s'
 | .ok _=>False
 | .error e=>CX outer H s E e s'
structure FnOk (P:Program) (w:World) (K:PySem.W.Frag) (mg:Str→Option Value) (base:Heap) (CX:CXT) (k:Nat) (f:Addr) (fd:FuncData) (ps:List Str) (sp:Sp):Prop where
 len:∀ vs H Q E,sp vs H Q E→vs.length=ps.length
 run:∀ (A:Around) (outer:List Env) (s:Shared) (H:Hp) (args:Args) (us:List Value) (vs:List V) (Q:VK) (E:XK),Room k A→Env0 P w K mg base A outer s H→BindsTo s fd args (ps.zip us)→Vals vs us→sp vs H Q E→
  codeAny (model P w) A (.call (.ref f) args) (CR CX outer P w H s Q E) s
theorem FnOk.mono {P:Program} {w:World} {K:PySem.W.Frag} {mg:Str→Option Value} {base:Heap} {CX:CXT} {j k:Nat} {f:Addr} {fd:FuncData} {ps:List Str} {sp:Sp} (F:FnOk P w K mg base CX j f fd ps sp) (h:j≤k) :
  FnOk P w K mg base CX k f fd ps sp:=⟨F.len,fun A outer s H args us vs Q E hr=>F.run A outer s H args us vs Q E (hr.mono h)⟩
theorem Env0.make {P:Program} {w:World} {K:PySem.W.Frag} {mg:Str→Option Value} {base:Heap} {A:Around} {outer:List Env} {s:Shared} {H:Hp} (e:Env0 P w K mg base A outer s H) (C:Addr) (us:List Value) (kw:List (Str × Value)) :
  Env0 P w K mg base (A.under (.builtin "type.__call__" ⟨.ref C :: us,kw⟩)) outer s H:=⟨by first | exact e.frames | (simpa [Around.under,Code.envs,Code.isFrame,pushEnvs] using e.frames),e.mod,e.bs,e.bsz,e.funs,e.frf,e.hok,e.bare⟩
section
variable {X:Cx} {pins:List (Addr × Obj)} {σ:St} {H:Hp} {s s':Shared}
theorem Inv.env0 (I:Inv X pins σ H s):Env0 X.prog X.w X.K X.mg X.base X.A X.stack s H:=
 ⟨I.ok.frames,I.ok.mod,I.bs,Nat.le_trans I.ok.bsz I.sz,I.stack,I.stkFree,I.hok,I.bare⟩
theorem Inv.after {Q:VK} {u:Value} (I:Inv X pins σ H s) (h:CE X.stack X.prog X.w H s Q u s'):EP X pins σ Q u s':=by
 obtain ⟨v,H',os,bare,un,hok,r,q⟩:=h
 obtain ⟨hh,g,d,t,os'⟩:=s'
 obtain rfl:os'=s.os:=os
 exact ⟨v,H',I.call (h':=hh) (g':=g) (d':=d) (t':=t) (ch:=[]) un hok bare (fun b z=>absurd z (by simp)),r,q⟩
end
def tCall (sp:Sp) (dvs:List V) (E:XK) (t:TA):TE:=fun σ H Q=>t σ H fun vs H1=>sp (vs ++ dvs) H1 Q E
def tMeth (C:Addr) (m:Str) (sp:Sp) (dvs:List V) (E:XK) (ta:TE) (t:TA):TE:=fun σ H Q=>ta σ H fun x H1=>∃ a dx fs,x=.ref a∧H1 a=some (.ins C dx fs)∧fs.lookup m=none∧
 t σ H1 fun vs H2=>sp (x :: (vs ++ dvs)) H2 Q E
def tMake (C:Addr) (sp:Sp) (dvs:List V) (E:XK) (t:TA):TE:=fun σ H Q=>t σ H fun vs H1=>∀ x dx,H1 x=none→H1 dx=none→dx≠x→
 sp (.ref x :: (vs ++ dvs)) (upd (upd H1 dx (.own x)) x (.ins C dx [])) (fun v H2=>v=.non∧Q (.ref x) H2) E
def Binds (K:PySem.W.Frag) (fd:FuncData) (ps:List Str) (ds:List Value):Prop:=
 ∀ (s:Shared) (us:List Value),K.In s.heap→(us ++ ds).length=ps.length→BindsTo s fd ⟨us,[]⟩ (ps.zip (us ++ ds))
theorem Binds.all {K:PySem.W.Frag} {fd:FuncData} {ps:List Str} (h:∀ us:List Value,us.length=ps.length→bindArgs fd ⟨us,[]⟩=pure (ps.zip us)):Binds K fd ps []:=fun s us _ hl=>by
 rw [List.append_nil] at hl ⊢
 exact .of_eq (h us hl)
def Passes (CX:CXT) (X:Cx) (E:XK):Prop:=∀ (pins:List (Addr × Obj)) (σ:St) (H:Hp) (s:Shared) (e:Value) (s':Shared),Inv X pins σ H s→CX X.stack H s E e s'→X.xe e s'
section
variable {X:Cx} {CX:CXT} {k:Nat} {f C:Addr} {fd:FuncData} {ps:List Str} {sp:Sp} {dvs:List V} {ds:List Value} {E:XK} {x m:Str} {p pos apos:Pos} {e o:Expr} {es:List Expr} {ta:TE} {t:TA}
theorem run_fn {pins:List (Addr × Obj)} {σ:St} {H:Hp} {s:Shared} {Q:VK} {us:List Value} {vs:List V} (F:FnOk X.prog X.w X.K X.mg X.base CX k f fd ps sp) (hr:Room k X.A) (hb:Binds X.K fd ps ds) (hd:Vals dvs ds) (hx:Passes CX X E)
  (I:Inv X pins σ H s) (r:Vals vs us) (h:sp (vs ++ dvs) H Q E):wpAny (model X.prog X.w) X.A (call (.ref f) us) (EP X pins σ Q) X.xe s:=by
 have r2:Vals (vs ++ dvs) (us ++ ds):=r.append hd
 have hl:(us ++ ds).length=ps.length:=by rw [← r2.length];exact F.len _ _ _ _ h
 refine wpAny_call (codeAny_mono (F.run X.A X.stack s H ⟨us,[]⟩ (us ++ ds) (vs ++ dvs) Q E hr I.env0 (hb s us I.kIn hl) r2 h) fun r s' hq=>?_)
 cases r with
 | error e=>exact hx pins σ H s e s' I hq
 | ok fl=>
  cases fl with
  | ret u=>exact I.after hq
  | next=>exact False.elim hq
  | brk=>exact False.elim hq
  | cont=>exact False.elim hq
theorem pe_call (F:FnOk X.prog X.w X.K X.mg X.base CX k f fd ps sp) (hr:Room k X.A) (hg:Gl X x) (hm:X.mg x=some (.ref f)) (hk:PySem.W.keepIn X.K (.ref f)=true) (hb:Binds X.K fd ps ds) (hd:Vals dvs ds) (hx:Passes CX X E)
  (ha:PA X (e :: es) t) (hdb:(x == ("__debug__":Str))=false:=by decide) (he:starEach (e :: es) X.env=(false,eval e X.env) :: starEach es X.env:=by rfl) (hpl:(backTo pos (starEach es X.env)).any (·.1)=false:=by rfl) :
  PE X (.Call (.Name x p) (e :: es) [] pos) (tCall sp dvs E t):=by
 intro pins s σ H Q I h
 refine wpAny_Call_Name_kw (ld_glob I hg hm ?_ hdb)
 refine PySem.W.callWith_K (h₀:=X.base) I.ok.mod.kin hk (thn (ha pos pins s σ H _ I h) fun us s1 ⟨vs,H1,I1,r,q⟩=>⟨I1.kIn,?_⟩) he hpl
 exact run_fn F hr hb hd hx I1 r q
theorem pe_meth {pl:Sem Bool} (he:PE X o ta) (c:Cls X.K C) (hm:Meth X.K C m f) (F:FnOk X.prog X.w X.K X.mg X.base CX k f fd ps sp) (hr:Room k X.A) (hb:Binds X.K fd ps ds) (hd:Vals dvs ds) (hx:Passes CX X E) (ha:PA X (e :: es) t)
  (hst:starEach (e :: es) X.env=(false,eval e X.env) :: starEach es X.env:=by rfl) (hpl:(backTo pos (starEach es X.env)).any (·.1)=false:=by rfl)
  (ht:eval (.Call (.Attribute o m apos) (e :: es) [] pos) X.env=(do
   let ov ← eval o X.env
   standAt apos.atName
   let (f,first) ← holding [ov] (getMethod ov m pl)
   callWith pos f first (backTo pos (starEach (e :: es) X.env)) (backToKw pos (keywordEach [] X.env))):=by rfl) :
  PE X (.Call (.Attribute o m apos) (e :: es) [] pos) (tMeth C m sp dvs E ta t):=by
 intro pins s σ H Q I h
 refine PySem.W.methodCall_KW (pl:=pl) (thn (he pins s σ H _ I h) fun u s1 ⟨x,H1,I1,rx,a,dx,fs,ex,ea,l,q⟩=>?_) ht
 subst ex
 obtain rfl:u=Value.ref a:=rx
 refine getmeth_ok I1 ea c hm l ?_
 refine PySem.W.callWith_K (first:=[.ref a]) (h₀:=X.base) I.ok.mod.kin hm.kp (thn (ha pos pins s1 σ H1 _ I1 q) fun us s2 ⟨vs,H2,I2,r,q2⟩=>⟨I2.kIn,?_⟩) hst hpl
 exact run_fn (us:=.ref a :: us) (vs:=.ref a :: vs) F hr hb hd hx I2 (.cons rfl r) q2
theorem pe_meth0 {pl:Sem Bool} (he:PE X o ta) (c:Cls X.K C) (hm:Meth X.K C m f) (F:FnOk X.prog X.w X.K X.mg X.base CX k f fd ps sp) (hr:Room k X.A) (hb:Binds X.K fd ps ds) (hd:Vals dvs ds) (hx:Passes CX X E)
  (ht:eval (.Call (.Attribute o m apos) [] [] pos) X.env=(do
   let ov ← eval o X.env
   standAt apos.atName
   let (f,first) ← holding [ov] (getMethod ov m pl)
   callWith pos f first (backTo pos (starEach [] X.env)) (backToKw pos (keywordEach [] X.env))):=by rfl) :
  PE X (.Call (.Attribute o m apos) [] [] pos) (tMeth C m sp dvs E ta tNil):=by
 intro pins s σ H Q I h
 refine PySem.W.methodCall_KW (pl:=pl) (thn (he pins s σ H _ I h) fun u s1 ⟨x,H1,I1,rx,a,dx,fs,ex,ea,l,q⟩=>?_) ht
 subst ex
 obtain rfl:u=Value.ref a:=rx
 refine getmeth_ok I1 ea c hm l ?_
 exact PySem.W.callWith_K0 (first:=[.ref a]) I1.kIn hm.kp (run_fn (us:=[.ref a]) (vs:=[.ref a]) F hr hb hd hx I1 (.cons rfl .nil) q)
structure Mk (K:PySem.W.Frag) (C f:Addr):Prop where
 makes:PySem.W.makesIn K C=true
 init:PySem.W.findIn K (.ref C) "__init__"=some (some (.ref f))
 fn:PySem.W.isFn K (.ref f)=true
 kp:PySem.W.keepIn K (.ref C)=true
theorem run_make {pins:List (Addr × Obj)} {σ:St} {H:Hp} {s:Shared} {Q:VK} {us:List Value} {vs:List V} (M:Mk X.K C f) (F:FnOk X.prog X.w X.K X.mg X.base CX k f fd ps sp) (hr:Room (k + 1) X.A) (hb:Binds X.K fd ps ds) (hd:Vals dvs ds)
  (hx:Passes CX X E) (I:Inv X pins σ H s) (r:Vals vs us)
  (h:∀ x dx,H x=none→H dx=none→dx≠x→sp (.ref x :: (vs ++ dvs)) (upd (upd H dx (.own x)) x (.ins C dx [])) (fun v H2=>v=.non∧Q (.ref x) H2) E) :
  wpAny (model X.prog X.w) X.A (call (.ref C) us) (EP X pins σ Q) X.xe s:=by
 have hq:=h (s.heap.objs.size + 1) s.heap.objs.size (I.hok.fresh (Nat.le_succ _)) (I.hok.fresh (Nat.le_refl _)) (Nat.ne_of_lt (Nat.lt_succ_self _))
 have I2:=Inv.made (C:=C) I
 have r2:Vals (V.ref (s.heap.objs.size + 1) :: (vs ++ dvs)) (Value.ref (s.heap.objs.size + 1) :: (us ++ ds)):=.cons rfl (r.append hd)
 have hl:(Value.ref (s.heap.objs.size + 1) :: us ++ ds).length=ps.length:=by
  have e:=r2.length
  rw [F.len _ _ _ _ hq] at e
  exact e.symm
 refine wpAny_call (make_map (f:=f) I.kIn M.makes M.init (beq_iff_eq.mp M.fn) (codeAny_mono (F.run _ X.stack _ _ ⟨Value.ref (s.heap.objs.size + 1) :: us,[]⟩ (Value.ref (s.heap.objs.size + 1) :: (us ++ ds)) _ _ E (hr.make C us [])
  (I2.env0.make C us []) (hb _ (Value.ref (s.heap.objs.size + 1) :: us) I2.kIn hl) r2 hq) fun r s' hq'=>?_))
 cases r with
 | error e=>exact hx pins σ _ _ e s' I2 hq'
 | ok fl=>
  cases fl with
  | ret u=>
   obtain ⟨v,H',I3,rv,ev,q3⟩:=I2.after hq'
   subst ev
   exact ⟨rv,⟨V.ref (s.heap.objs.size + 1),H',I3,rfl,q3⟩⟩
  | next=>exact False.elim hq'
  | brk=>exact False.elim hq'
  | cont=>exact False.elim hq'
theorem pe_make (M:Mk X.K C f) (F:FnOk X.prog X.w X.K X.mg X.base CX k f fd ps sp) (hr:Room (k + 1) X.A) (hg:Gl X x) (hm:X.mg x=some (.ref C)) (hb:Binds X.K fd ps ds) (hd:Vals dvs ds) (hx:Passes CX X E)
  (ha:PA X (e :: es) t) (hdb:(x == ("__debug__":Str))=false:=by decide) (he:starEach (e :: es) X.env=(false,eval e X.env) :: starEach es X.env:=by rfl) (hpl:(backTo pos (starEach es X.env)).any (·.1)=false:=by rfl) :
  PE X (.Call (.Name x p) (e :: es) [] pos) (tMake C sp dvs E t):=by
 intro pins s σ H Q I h
 refine wpAny_Call_Name_kw (ld_glob I hg hm ?_ hdb)
 refine PySem.W.callWith_K (h₀:=X.base) I.ok.mod.kin M.kp (thn (ha pos pins s σ H _ I h) fun us s1 ⟨vs,H1,I1,r,q⟩=>⟨I1.kIn,?_⟩) he hpl
 exact run_make M F hr hb hd hx I1 r q
end
section
variable {X:Cx} {CX:CXT} {k:Nat} {f C:Addr} {fd:FuncData} {ps ks:List Str} {sp:Sp} {E:XK} {x m:Str} {p pos apos kpos:Pos} {e o:Expr} {es:List Expr} {kws:List Keyword} {te ta:TE} {t tk:TA} {nm:Option Str}
structure KBinds (K:PySem.W.Frag) (fd:FuncData) (ps ks:List Str) (g:List Value→List Value→List Value) (gV:List V→List V→List V):Prop where
 to:∀ (s:Shared) (us ws:List Value),K.In s.heap→(g us ws).length=ps.length→BindsTo s fd ⟨us,ks.zip ws⟩ (ps.zip (g us ws))
 rel:∀ {vs:List V} {us:List Value} {zs:List V} {ws:List Value},Vals vs us→Vals zs ws→Vals (gV vs zs) (g us ws)
variable {g:List Value→List Value→List Value} {gV:List V→List V→List V}
end
structure FnScope (N P:List Str) (sc:Scope):Prop where
 kind:sc.kind=.function
 co:sc.isCoroutine=false
 gen:sc.isGenerator=false
 nd:N.Nodup
 pre:N.take P.length=P
 par:∀ x∈P,sc.names.lookup x=some .local∨sc.names.lookup x=some .cell
 nofree:∀ y∈sc.names,y.2≠.free
theorem bindL_out {kindOf:Str→Option NameKind} {x:Str}:∀ {binds:List (Str × Value)} {m:Str→Option Value},(∀ v,(x,v)∉binds)→bindL kindOf binds m x=m x
 | [],_,_=>rfl
 | (n,v) :: r,m,h=>by
  unfold bindL
  rw [bindL_out fun w hw=>h w (List.mem_cons_of_mem _ hw)]
  split
  ·have:x≠n:=by rintro rfl;exact h v List.mem_cons_self
   simp [this]
  ·rfl
theorem bindC_out {kindOf:Str→Option NameKind} {x:Str}:∀ {binds:List (Str × Value)} {m:Str→Option Value},(∀ v,(x,v)∉binds)→bindC kindOf binds m x=m x
 | [],_,_=>rfl
 | (n,v) :: r,m,h=>by
  unfold bindC
  rw [bindC_out fun w hw=>h w (List.mem_cons_of_mem _ hw)]
  split
  ·rfl
  ·have:x≠n:=by rintro rfl;exact h v List.mem_cons_self
   simp [this]
theorem bindL_get {kindOf:Str→Option NameKind} {x:Str} {v:Value}:∀ {P:List Str} {vs:List Value} {i:Nat} {m:Str→Option Value},P.Nodup→P[i]?=some x→vs[i]?=some v→kindOf x=some .local→
  bindL kindOf (P.zip vs) m x=some v
 | [],_,_,_,_,h,_,_=>by simp at h
 | _ :: _,[],_,_,_,_,h,_=>by simp at h
 | p :: P,w :: vs,0,m,nd,h1,h2,hk=>by
  simp at h1 h2;subst h1;subst h2
  show bindL kindOf ((p,w) :: P.zip vs) m p=_
  unfold bindL
  rw [bindL_out fun v hv=>(List.nodup_cons.mp nd).1 (List.of_mem_zip hv).1,if_pos hk]
  simp
 | p :: P,w :: vs,i + 1,m,nd,h1,h2,hk=>by
  show bindL kindOf ((p,w) :: P.zip vs) m x=_
  unfold bindL
  exact bindL_get (i:=i) (List.nodup_cons.mp nd).2 (by simpa using h1) (by simpa using h2) hk
theorem bindC_get {kindOf:Str→Option NameKind} {x:Str} {v:Value}:∀ {P:List Str} {vs:List Value} {i:Nat} {m:Str→Option Value},P.Nodup→P[i]?=some x→vs[i]?=some v→kindOf x≠some .local→
  bindC kindOf (P.zip vs) m x=some v
 | [],_,_,_,_,h,_,_=>by simp at h
 | _ :: _,[],_,_,_,_,h,_=>by simp at h
 | p :: P,w :: vs,0,m,nd,h1,h2,hk=>by
  simp at h1 h2;subst h1;subst h2
  show bindC kindOf ((p,w) :: P.zip vs) m p=_
  unfold bindC
  rw [bindC_out fun v hv=>(List.nodup_cons.mp nd).1 (List.of_mem_zip hv).1,if_neg hk]
  simp
 | p :: P,w :: vs,i + 1,m,nd,h1,h2,hk=>by
  show bindC kindOf ((p,w) :: P.zip vs) m x=_
  unfold bindC
  exact bindC_get (i:=i) (List.nodup_cons.mp nd).2 (by simpa using h1) (by simpa using h2) hk
def start (N:List Str) (vs:List V):St:=vs.map some ++ List.replicate (N.length - vs.length) none
def cxOf (CX:CXT) (P:Program) (w:World) (K:PySem.W.Frag) (mg:Str→Option Value) (base:Heap) (N:List Str) (qual:Str) (scope:Scope) (f:Addr) (cd:Value) (A:Around) (outer:List Env) (s:Shared) (H:Hp) (E:XK):Cx where
 prog:=P
 w:=w
 K:=K
 mg:=mg
 base:=base
 A:=A.deeper (envOfC qual scope s.heap.objs.size f cd)
 N:=N
 s₀:=s
 H₀:=H
 env:=envOfC qual scope s.heap.objs.size f cd
 outer:=outer
 stack:=envOfC qual scope s.heap.objs.size f cd :: outer
 ex:=[]
 calm:=true
 fn:=fun _=>true
 pn:=[]
 xe:=fun e s'=>wpAny (model P w) (A.deeper (envOfC qual scope s.heap.objs.size f cd)) (leaving (envOfC qual scope s.heap.objs.size f cd) e) (fun _ s''=>CX outer H s E e s'') (fun e' s''=>CX outer H s E e' s'') s'
theorem cell_has {sc:Scope} {n:Nat} {x:Str} (h:sc.names.lookup x=some .cell):∃ c,(cellsFrom n sc.names []).lookup x=some c:=by
 have q:=PySem.W.cellsFrom_some sc.names n [] (.inl h)
 exact Option.isSome_iff_exists.mp q
theorem inv_start {CX:CXT} {P:Program} {w:World} {K:PySem.W.Frag} {mg:Str→Option Value} {base:Heap} {N ps:List Str} {qual:Str} {scope:Scope} {f:Addr} {cd:Value} {A:Around} {outer:List Env} {s s1:Shared} {H:Hp} {E:XK} {us:List Value} {vs:List V}
  (S:FnScope N ps scope) (hd:A.handled=none) (e0:Env0 P w K mg base A outer s H) (hl:vs.length=ps.length) (r:Vals vs us)
  (x:InCallC s s.heap.objs.size (bindL (envOfC qual scope s.heap.objs.size f cd).kindOf (ps.zip us) fun _=>none) (cellsFrom (s.heap.objs.size + 1) scope.names []) (bindC (envOfC qual scope s.heap.objs.size f cd).kindOf (ps.zip us) fun _=>none) s1) :
  Inv (cxOf CX P w K mg base N qual scope f cd A outer s H E) [] (start N vs) H s1:=by
 have hpl:ps.length≤N.length:=by have:=congrArg List.length S.pre;rw [List.length_take] at this;omega
 obtain ⟨h1,tk,rfl,hk⟩:=x.done
 have noA:∀ b:Addr,b∉(cxOf CX P w K mg base N qual scope f cd A outer s H E).ex:=fun b z=>absurd (show b∈([]:List Addr) from z) (by simp)
 refine ⟨⟨e0.mod,S.kind,rfl,rfl,Nat.le_refl _,fun y z c h1 h2=>?_,fun y hy=>?_,fun y c _ h=>?_,fun _=>hd,Around.frames_deeper e0.frames,.inr ⟨rfl,rfl⟩,fun b z=>absurd z (noA b),e0.bs,e0.bsz,fun b _ _=>noA b,fun b z=>absurd z (noA b),e0.funs,e0.frf⟩,
  rfl,e0.bare,Un.kept hk,⟨_,x.toInCall.ns,fun i y v h1 h2 h3=>?_⟩,fun y c h=>⟨_,x.cell y c h⟩,e0.hok.fresh (Nat.le_refl _),fun y c h=>?_,fun p hp=>absurd (show p∈([]:List (Addr × Obj)) from hp) (by simp),e0.hok.kept hk,?_⟩
 ·exact name_of_addr x.apart (PySem.mem_of_lookup h1) (PySem.mem_of_lookup h2)
 ·have hy:scope.names.lookup y=some .cell∨scope.names.lookup y=some .free:=hy
  rcases hy with hy | hy
  ·exact cell_has hy
  ·exact absurd rfl (S.nofree _ (PySem.mem_of_lookup hy))
 ·exact Nat.le_of_lt (x.above y c (PySem.mem_of_lookup h))
 ·have hi:i < vs.length:=by
   unfold start at h2
   by_cases hi:i < vs.length
   ·exact hi
   ·rw [List.getElem?_append_right (by simpa using hi)] at h2
    rw [List.getElem?_replicate] at h2
    split at h2 <;> cases h2
  have ha:vs[i]?=some v:=by
   unfold start at h2
   rw [List.getElem?_append_left (by simpa using hi),List.getElem?_map] at h2
   cases e:vs[i]? with
   | none=>rw [e] at h2;cases h2
   | some a=>rw [e] at h2;cases h2;rfl
  obtain ⟨u,hu,rv⟩:=r.get ha
  have hp:ps[i]?=some y:=by
   rw [← S.pre,List.getElem?_take_of_lt (by omega)];exact h1
  have ndP:ps.Nodup:=by rw [← S.pre];exact S.nd.sublist (List.take_sublist _ _)
  refine ⟨u,rv,?_⟩
  rcases S.par y (List.mem_of_getElem? hp) with k | k
  ·exact .inl ⟨k,bindL_get ndP hp hu k⟩
  ·obtain ⟨c,e⟩:=cell_has (n:=s.heap.objs.size + 1) k
   refine .inr ⟨.inl k,c,e,?_⟩
   have q:=x.cell y c e
   rw [bindC_get ndP hp hu (by show scope.names.lookup y≠_;rw [k];decide)] at q
   exact q
 ·exact e0.hok.fresh (Nat.le_of_lt (x.above y c (PySem.mem_of_lookup h)))
 ·unfold start
  show _=N.length
  rw [List.length_append,List.length_map,List.length_replicate]
  omega
theorem fn_of {CX:CXT} {P:Program} {w:World} {K:PySem.W.Frag} {mg:Str→Option Value} {base:Heap} {k:Nat} {f:Addr} {name qual:Str} {params:Arguments} {body:List Stmt} {scope:Scope} {dV kV doc pm cdv ct oc:Value} {an od:Option Addr}
  {osl:Array (Option Value)} {N ps:List Str} {sp:Sp} (lk:K.lookup f=some ⟨oc,od,.func (PySem.W.fnOf name qual params body scope dV kV doc pm an cdv ct),osl⟩) (hcd:PySem.W.codeIn K cdv qual=true) (S:FnScope N ps scope)
  (len:∀ vs H Q E,sp vs H Q E→vs.length=ps.length)
  (hbody:∀ (A:Around) (outer:List Env) (s:Shared) (H:Hp) (vs:List V) (Q:VK) (E:XK),Room k (A.deeper (envOfC qual scope s.heap.objs.size f cdv))→sp vs H Q E→
   ∃ t,PSs (cxOf CX P w K mg base N qual scope f cdv A outer s H E) body t∧t { nx:=fun _ H'=>Q .non H',rt:=Q } (start N vs) H) :
  FnOk P w K mg base CX (k + 1) f (PySem.W.fnOf name qual params body scope dV kV doc pm an cdv ct) ps sp:=by
 refine ⟨len,fun A outer s H args us vs Q E hr e0 hb r hsp=>?_⟩
 have hl:=len _ _ _ _ hsp
 have KX:K.In s.heap:=e0.mod.kin.keeps fun b o e=>(e0.bs b o e).1
 have lim:s.heap.NoLimit:=e0.mod.nolimit.keeps fun b o e=>(e0.bs b o e).1
 have hkind:∀ y∈ps.zip us,scope.names.lookup y.1=some .local∨(scope.names.lookup y.1=some .cell∧((cellsFrom (s.heap.objs.size + 1) scope.names []).lookup y.1).isSome=true):=fun ⟨n,v⟩ hy=>by
  rcases S.par n (List.of_mem_zip hy).1 with q | q
  ·exact .inl q
  ·exact .inr ⟨q,PySem.W.cellsFrom_some _ _ _ (.inl q)⟩
 refine codeAny_call_function hr.depth (KX _ _ lk) rfl S.co S.gen rfl (PySem.W.codeRec_of KX hcd) (hb _ _ _ _ ?_)
 refine wpAny_newFunctionEnv_cells S.kind hkind fun env he s1 x=>?_
 subst he
 refine ⟨lim.keeps x.toInCall.keep,codeAny_func ?_⟩
 obtain ⟨t,ht,hq⟩:=hbody A outer s H vs Q E (hr.deeper _) hsp
 have I:Inv (cxOf CX P w K mg base N qual scope f cdv A outer s H E) [] (start N vs) H s1:=inv_start S hr.hd e0 hl r x
 refine wpAny_mono (ht [] s1 (start N vs) H _ I hq) (fun fl s' hs=>?_) fun e s' hs=>hs
 have fin:∀ {σ':St} {H':Hp} {v:V} {u:Value},Inv (cxOf CX P w K mg base N qual scope f cdv A outer s H E) [] σ' H' s'→RelV v u→Q v H'→CE outer P w H s Q u s':=
  fun {σ' H' v u} J rv q=>⟨v,H',J.os,J.bare,J.base,J.hok,rv,q⟩
 cases fl with
 | ret u=>
  obtain ⟨v,σ',H',J,rv,q⟩:=hs
  exact fin J rv q
 | next=>
  obtain ⟨σ',H',J,q⟩:=hs
  exact fin (v:=V.non) (u:=Value.none) J rfl q
 | brk=>
  obtain ⟨_,_,_,q⟩:=hs
  exact False.elim q
 | cont=>
  obtain ⟨_,_,_,q⟩:=hs
  exact False.elim q
end L2
namespace L2
open PySem PySem.Spec PyProof.Rows
section
variable {X:Cx} {x:Str} {p pos:Pos} {e:Expr} {es:List Expr} {t:TA} {id T:String} {r:List V→Hp→VK→Prop}
def tCB (r:List V→Hp→VK→Prop) (t:TA):TE:=fun σ H Q=>t σ H fun vs H1=>r vs H1 Q
theorem pe_callB (hc:CallR X (.builtin id) r) (hg:Gl X x) (hm:X.mg x=none) (hv:bootBuiltins x=some (.builtin id)) (ha:PA X (e :: es) t) (hn:x≠"__name__":=by decide) (hdb:(x == ("__debug__":Str))=false:=by decide)
  (he:starEach (e :: es) X.env=(false,eval e X.env) :: starEach es X.env:=by rfl) (hpl:(backTo pos (starEach es X.env)).any (·.1)=false:=by rfl):PE X (.Call (.Name x p) (e :: es) [] pos) (tCB r t):=by
 intro pins s σ H Q I h
 refine wpAny_Call_Name_kw (ld_blt I hg hm hv ?_ hn hdb)
 exact PyProof.Rows.callWith_builtin1 (thn (ha pos pins s σ H _ I h) fun us s1 ⟨vs,H1,I1,r1,q1⟩=>hc pins s1 σ H1 vs us Q I1 r1 q1) he hpl
theorem pe_callTy (hc:CallR X (.type T) r) (hg:Gl X x) (hm:X.mg x=none) (hv:bootBuiltins x=some (.type T)) (ha:PA X (e :: es) t) (hn:x≠"__name__":=by decide) (hdb:(x == ("__debug__":Str))=false:=by decide)
  (he:starEach (e :: es) X.env=(false,eval e X.env) :: starEach es X.env:=by rfl) (hpl:(backTo pos (starEach es X.env)).any (·.1)=false:=by rfl):PE X (.Call (.Name x p) (e :: es) [] pos) (tCB r t):=by
 intro pins s σ H Q I h
 refine wpAny_Call_Name_kw (ld_blt I hg hm hv ?_ hn hdb)
 exact PyProof.Rows.callWith_type1 (thn (ha pos pins s σ H _ I h) fun us s1 ⟨vs,H1,I1,r1,q1⟩=>hc pins s1 σ H1 vs us Q I1 r1 q1) he hpl
end
end L2
namespace HT
open PySem PyProof.Rows
section
open PySem.SeqAt
open PySem.AutoSeq1 (wpAny_loadPart')
open PySem.MeetsSeq PySem.MeetsSeq2 PySem.MeetsSeq3
end
section
variable {prog:Program} {w:World} {A:Around} {E:Value→Shared→Prop} {s:Shared}
def sIx (n d:Nat):Option Int→Nat
 | none=>d
 | some v=>if v < 0 then (v + (n:Int)).toNat else min v.toNat n
theorem sIx_none (n d:Nat):sIx n d none=d:=rfl
theorem sIx_nat (n d k:Nat):sIx n d (some (k:Int))=min k n:=by
 show (if (k:Int) < 0 then ((k:Int) + (n:Int)).toNat else min (k:Int).toNat n)=min k n
 rw [if_neg (by omega),Int.toNat_natCast]
theorem sIx_le (n d:Nat) (hd:d≤n) (o:Option Int):sIx n d o≤n:=by
 cases o with
 | none=>exact hd
 | some v=>
  show (if v < 0 then (v + (n:Int)).toNat else min v.toNat n)≤n
  by_cases hv:v < 0
  ·rw [if_pos hv];omega
  ·rw [if_neg hv];exact Nat.min_le_right _ _
theorem clip_eq (v:Int) (n d:Nat):(if v < 0 then max (v + (n:Int)) 0 else min v (n:Int))=((sIx n d (some v):Nat):Int):=by
 show (if v < 0 then max (v + (n:Int)) 0 else min v (n:Int))=(((if v < 0 then (v + (n:Int)).toNat else min v.toNat n):Nat):Int)
 by_cases hv:v < 0
 ·simp only [if_pos hv];omega
 ·simp only [if_neg hv];omega
end
end HT
namespace L2
open PySem PySem.Spec PyProof.Rows
abbrev TO:=St→Hp→(Option Int→Hp→Prop)→Prop
def PO (X:Cx) (e:Option Expr) (t:TO):Prop:=
 ∀ (pins:List (Addr × Obj)) (s:Shared) (σ:St) (H:Hp) (Q:Option Int→Hp→Prop),Inv X pins σ H s→t σ H Q→
  wpAny (model X.prog X.w) X.A (evalPart e X.env) (fun u s'=>∃ o H',Inv X pins σ H' s'∧IsPart u o∧Q o H') X.xe s
def tNoPart:TO:=fun _ H Q=>Q none H
def tPart (t:TE):TO:=fun σ H Q=>t σ H fun x H1=>∃ i,x=.int i∧Q (some i) H1
section
variable {X:Cx} {e:Expr} {te:TE} {lo hi:Option Expr} {tl th:TO} {pos p2:Pos}
theorem po_none:PO X none tNoPart:=by
 intro pins s σ H Q I h
 rw [evalPart_none]
 exact wpAny_pure ⟨none,H,I,.none,h⟩
theorem po_some (h:PE X e te):PO X (some e) (tPart te):=by
 intro pins s σ H Q I hw
 rw [evalPart_some]
 refine thn (h pins s σ H _ I hw) fun u s1 ⟨x,H1,I1,r1,q1⟩=>?_
 obtain ⟨i,rfl,q⟩:=q1
 obtain ⟨t,rfl⟩:=r1
 exact ⟨some i,H1,I1,.int i t,q⟩
def SlR (X:Cx) (r:V→Option Int→Option Int→Hp→VK→Prop):Prop:=
 ∀ (pins:List (Addr × Obj)) (s:Shared) (σ:St) (H:Hp) (x:V) (v vl vu:Value) (lo hi:Option Int) (sl:Addr) (Q:VK),Inv X pins σ H s→RelV x v→s.heap.IsSliceOf sl vl vu .none→IsPart vl lo→IsPart vu hi→r x lo hi H Q→
  ∃ T id,typeLookup (.type T) "__getitem__"=pure (some (.builtin id))∧s.TypeIs v T∧wpAny (model X.prog X.w) X.A (getItem v (.ref sl)) (EP X pins σ Q) X.xe s
def tSl (r:V→Option Int→Option Int→Hp→VK→Prop) (te:TE) (tl th:TO):TE:=fun σ H Q=>te σ H fun x H1=>tl σ H1 fun l H2=>th σ H2 fun u H3=>r x l u H3 Q
theorem pe_slice {r:V→Option Int→Option Int→Hp→VK→Prop} (hr:SlR X r) (he:PE X e te) (hl:PO X lo tl) (hu:PO X hi th):PE X (.Subscript e (.Slice lo hi none p2) pos) (tSl r te tl th):=by
 intro pins s σ H Q I h
 refine Subscript_ (thn (he pins s σ H _ I h) fun v s1 ⟨x,H1,I1,r1,q1⟩=>?_)
 refine wpAny_Slice (thn (hl pins s1 σ H1 _ I1 q1) fun vl s2 ⟨l,H2,I2,pl,q2⟩=>thn (hu pins s2 σ H2 _ I2 q2) fun vu s3 ⟨u,H3,I3,pu,q3⟩=>?_)
 rw [evalPart_none]
 refine wpAny_pure ?_
 have I4:Inv X pins σ H3 { s3 with heap:=s3.heap.push { cls:=.type "slice",data:=.fields #[vl,vu,.none] } }:=I3.kept (t':=s3.toks) fun b ob q=>Heap.get?_push_of_some _ q
 obtain ⟨T,id,hT,ht,hg⟩:=hr pins { s3 with heap:=s3.heap.push { cls:=.type "slice",data:=.fields #[vl,vu,.none] } } σ H3 x v vl vu l u s3.heap.objs.size Q I4 r1 (Heap.IsSliceOf.new ..) pl pu q3
 show wpAny (model X.prog X.w) X.A (subscriptTail e (.Slice lo hi none p2) v (.ref s3.heap.objs.size)) (EP X pins σ Q) X.xe { s3 with heap:=s3.heap.push { cls:=.type "slice",data:=.fields #[vl,vu,.none] } }
 exact tail_any (ops:=[.ref s3.heap.objs.size,v]) ht hT hg (by with_unfolding_all rfl)
def cutV (xs:List V) (lo hi:Option Int):List V:=(xs.drop (HT.sIx xs.length 0 lo)).take (HT.sIx xs.length xs.length hi - HT.sIx xs.length 0 lo)
theorem cutV_length (xs:List V) (lo hi:Option Int):(cutV xs lo hi).length≤xs.length:=by
 unfold cutV
 rw [List.length_take,List.length_drop]
 omega
end
end L2
namespace L2
open PySem PySem.Spec PyProof.Rows
def ixN (n:Nat) (i:Int):Option Nat:=if 0≤i then (if i < n then some i.toNat else none) else if -(n:Int)≤i then some (i + n).toNat else none
def atI {α:Type} (xs:List α) (i:Int):Option α:=(ixN xs.length i).bind fun j=>xs[j]?
theorem ixN_seq {n:Nat} {i:Int} {j:Nat} (h:ixN n i=some j):seqIndex? i n=some j∧j < n∧-(n:Int)≤i∧i < n:=by
 unfold ixN at h
 by_cases h0:0≤i
 ·rw [if_pos h0] at h
  by_cases h1:i < n
  ·rw [if_pos h1] at h
   have e:i.toNat=j:=Option.some.inj h
   exact ⟨by rw [seqIndex_of h0 h1,e],by omega,by omega,h1⟩
  ·rw [if_neg h1] at h;cases h
 ·rw [if_neg h0] at h
  by_cases h1:-(n:Int)≤i
  ·rw [if_pos h1] at h
   have e:(i + n).toNat=j:=Option.some.inj h
   exact ⟨by rw [seqIndex_neg (by omega) h1,e],by omega,h1,by omega⟩
  ·rw [if_neg h1] at h;cases h
theorem atI_get {α:Type} {xs:List α} {i:Int} {v:α} (h:atI xs i=some v):∃ j,seqIndex? i xs.length=some j∧xs[j]?=some v∧j < xs.length∧-(xs.length:Int)≤i∧i < xs.length:=by
 unfold atI at h
 cases e:ixN xs.length i with
 | none=>rw [e] at h;cases h
 | some j=>
  rw [e] at h
  obtain ⟨h1,h2,h3,h4⟩:=ixN_seq e
  exact ⟨j,h1,h,h2,h3,h4⟩
theorem atI_nat {α:Type} {xs:List α} {j:Nat} {v:α} (h:xs[j]?=some v):atI xs (j:Int)=some v:=by
 have hj:j < xs.length:=(List.getElem?_eq_some_iff.mp h).1
 have e:ixN xs.length (j:Int)=some j:=by
  unfold ixN
  rw [if_pos (by omega),if_pos (by omega)];simp
 unfold atI;rw [e];exact h
theorem atI_last {α:Type} (xs:List α) (v:α):atI (xs ++ [v]) (-1)=some v:=by
 have hl:(xs ++ [v]).length=xs.length + 1:=by simp
 have e:ixN (xs ++ [v]).length (-1)=some xs.length:=by
  unfold ixN
  rw [hl,if_neg (by decide),if_pos (by omega)]
  congr 1
  omega
 unfold atI
 rw [e]
 show (xs ++ [v])[xs.length]?=some v
 simp
def PlainIx (b:Expr):Prop:=∀ o i,subscripted b false o i=operate [o,i] (getItem o i)
def IxR (X:Cx) (r:R2):Prop:=
 ∀ (value slice:Expr) (pins:List (Addr × Obj)) (s:Shared) (σ:St) (H:Hp) (x y:V) (v u:Value) (Q:VK),Inv X pins σ H s→RelV x v→RelV y u→r x y H Q→
  subscripted slice false v u=operate [v,u] (getItem v u)→wpAny (model X.prog X.w) X.A (subscriptTail value slice v u) (EP X pins σ Q) X.xe s
def MtR (X:Cx) (id:String) (r:V→List V→Hp→VK→Prop):Prop:=
 ∀ (pins:List (Addr × Obj)) (s:Shared) (σ:St) (H:Hp) (x:V) (xs:List V) (v:Value) (us:List Value) (Q:VK),Inv X pins σ H s→RelV x v→Vals xs us→r x xs H Q→
  wpAny (model X.prog X.w) X.A (call (.builtin id) (v :: us)) (EP X pins σ Q) X.xe s
section
variable {X:Cx} {a b:Expr} {ta tb:TE} {pos:Pos}
theorem pe_ix {r:R2} (hr:IxR X r) (ha:PE X a ta) (hb:PE X b tb) (hs:PlainIx b):PE X (.Subscript a b pos) (tOp r ta tb):=by
 intro pins s σ H Q I h
 exact Subscript_ (binT ha hb I h fun v u s2 x y H2 I2 rx ry q=>hr a b pins s2 σ H2 x y v u Q I2 rx ry q (hs _ _))
def rIxL (K:PySem.W.Frag):R2:=fun x y H Q=>∃ p xs i v,x=.ref p∧y=.int i∧SqL K H p xs∧atI xs i=some v∧Q v H
def rIxT (K:PySem.W.Frag):R2:=fun x y H Q=>∃ p xs i v,x=.ref p∧y=.int i∧SqT K H p xs∧atI xs i=some v∧Q v H
def rIxS:R2:=fun x y H Q=>∃ z i c,x=.str z∧y=.int i∧z.length≤sizeLine∧atI z.cps.toList i=some c∧Q (.str ⟨#[c]⟩) H
theorem ix_list:IxR X (rIxL X.K):=by
 intro value slice pins s σ H x y v u Q I rx ry h hs
 obtain ⟨p,xs,i,z,rfl,rfl,hq,he,q⟩:=h
 cases rx
 obtain ⟨t,rfl⟩:=ry
 obtain ⟨its,r,pl,hz⟩:=I.list hq
 obtain ⟨j,h1,h2,h3,h4,h5⟩:=atI_get he
 obtain ⟨w,ew,rw'⟩:=r.get h2
 have hl:=r.length
 have hn:=line63
 have fin:EP X pins σ Q w s:=⟨z,H,I,rw',q⟩
 by_cases h0:0≤i
 ·have hj:i.toNat=j:=by
   rw [seqIndex_of h0 h5] at h1
   exact Option.some.inj h1
  exact item_listR pl.isList h0 (by omega) (by rw [hj];simpa using ew) fin hs
 ·have hj:(i + (its.toArray.size:Int)).toNat=j:=by
   rw [seqIndex_neg (by omega) h4] at h1
   rw [List.size_toArray,← hl]
   exact Option.some.inj h1
  exact subscriptTail_builtinR (x:=w) pl.isList.typeIs slot_list_getitem.lookup
   (wpAny_getItem_list_neg (Q:=fun r s'=>r=w∧EP X pins σ Q r s') pl.isList (by omega) (by rw [List.size_toArray] <;> omega) (by omega) (by rw [hj];simpa using ew) ⟨rfl,fin⟩) hs
theorem ix_tup:IxR X (rIxT X.K):=by
 intro value slice pins s σ H x y v u Q I rx ry h hs
 obtain ⟨p,xs,i,z,rfl,rfl,hq,he,q⟩:=h
 cases rx
 obtain ⟨t,rfl⟩:=ry
 obtain ⟨its,r,pl,hz⟩:=I.tuple hq
 obtain ⟨j,h1,h2,h3,h4,h5⟩:=atI_get he
 obtain ⟨w,ew,rw'⟩:=r.get h2
 have hl:=r.length
 have hn:=line63
 have fin:EP X pins σ Q w s:=⟨z,H,I,rw',q⟩
 exact subscriptTail_builtinR (x:=w) pl.typeIs slot_tuple_getitem.lookup
  (getItem_tuple (j:=j) (Q:=fun r s'=>r=w∧EP X pins σ Q r s') pl (by omega) (by omega) (by rw [List.size_toArray,← hl];exact h1) (by simpa using ew) ⟨rfl,fin⟩) hs
theorem ix_str:IxR X rIxS:=by
 intro value slice pins s σ H x y v u Q I rx ry h hs
 obtain ⟨z,i,c,rfl,rfl,hz,he,q⟩:=h
 obtain ⟨t,rfl⟩:=rx
 obtain ⟨t',rfl⟩:=ry
 obtain ⟨j,h1,h2,h3,h4,h5⟩:=atI_get he
 have hl:z.cps.toList.length=z.length:=by simp [Str.length]
 rw [hl] at h1 h4 h5
 have hn:=line63
 exact tail_any (typeIs_str s z t) slot_str_getitem.lookup (getItem_str (c:=c) (by
  have e1:decide (i < -(2 ^ 63:Int))=false:=decide_eq_false (by omega)
  have e2:decide (i≥2 ^ 63)=false:=decide_eq_false (by omega)
  rw [e1,e2,Bool.or_false]) (by rw [h1];simpa using h2) ⟨.str ⟨#[c]⟩,H,I.tok _,⟨_,rfl⟩,q⟩) hs
theorem mapSeq_set (its:List Value) (n j:Nat) (u:Value):Obj.mapSeq (·.setIfInBounds j u) { cls:=.type "list",data:=.seq its.toArray n }={ cls:=.type "list",data:=.seq (its.set j u).toArray n }:=by
 simp [Obj.mapSeq]
theorem Inv.lst {pins:List (Addr × Obj)} {σ:St} {H:Hp} {s:Shared} {p:Addr} {xs:List V} (I:Inv X pins σ H s) (h:H p=some (.lst xs)) :
  ∃ (its:List Value) (n:Nat),Vals xs its∧s.heap.get? p=some { cls:=.type "list",data:=.seq its.toArray n }∧xs.length≤sizeLine:=by
 obtain ⟨z,its,n,r,e⟩:=I.hok p _ h
 exact ⟨its,n,r,e,z⟩
theorem Inv.lstUpd {pins:List (Addr × Obj)} {σ:St} {H:Hp} {s:Shared} {p:Addr} {xs ys:List V} {its its':List Value} {n n':Nat} {f:Obj→Obj} (I:Inv X pins σ H s) (h:H p=some (.lst xs))
  (ho:s.heap.get? p=some { cls:=.type "list",data:=.seq its.toArray n }) (hf:f { cls:=.type "list",data:=.seq its.toArray n }={ cls:=.type "list",data:=.seq its'.toArray n' }) (r:Vals ys its') (hz:ys.length≤sizeLine) (t:Nat) :
  Inv X pins σ (upd H p (.lst ys)) { s with heap:=s.heap.update p f,toks:=t }:=by
 have e:(s.heap.update p f).get? p=some { cls:=.type "list",data:=.seq its'.toArray n' }:=by
  rw [Heap.get?_update_self f ho (by rw [hf] <;> rfl),hf]
 refine I.write (x:=p) (e:=p) (by rw [h];trivial) (.inl rfl) (fun b u hb q=>(Heap.get?_update_other _ _ (Ne.symm hb)).trans q) ⟨_,e⟩ ?_
 exact ⟨hz,its',n',r,e⟩
def rSetL:V→V→V→Hp→(Hp→Prop)→Prop:=fun o i v H Q=>∃ p xs k j,o=.ref p∧i=.int k∧H p=some (.lst xs)∧ixN xs.length k=some j∧Q (upd H p (.lst (xs.set j v)))
theorem set_list:PSet X rSetL:=by
 intro pins s σ H o i v ov iv u Q I ro ri rv h
 obtain ⟨p,xs,k,j,rfl,rfl,hp,hj,q⟩:=h
 cases ro
 obtain ⟨t,rfl⟩:=ri
 obtain ⟨its,n,r,ho,hz⟩:=I.lst hp
 obtain ⟨h1,h2,h3,h4⟩:=ixN_seq hj
 have hl:=r.length
 have hn:=line63
 have I':Inv X pins σ (upd H p (.lst (xs.set j v))) { s with heap:=s.heap.update p (Obj.mapSeq (·.setIfInBounds j u)) }:=
  I.lstUpd hp ho (mapSeq_set its n j u) (r.set rv j) (by rw [List.length_set];exact hz) s.toks
 by_cases h0:0≤k
 ·have hk:k.toNat=j:=by
   rw [seqIndex_of h0 h4] at h1
   exact Option.some.inj h1
  exact PySem.W.ki_setAt ho h0 (by omega) (by rw [List.size_toArray,← hl];exact h4) (by rw [hk];exact ⟨_,I',q⟩)
 ·have hk:(k + (its.toArray.size:Int)).toNat=j:=by
   rw [seqIndex_neg (by omega) h3] at h1
   rw [List.size_toArray,← hl]
   exact Option.some.inj h1
  exact PySem.W.ki_setBack ho (by omega) (by rw [List.size_toArray,← hl];exact h3) (by omega) (by rw [hk];exact ⟨_,I',q⟩)
theorem slice_bounds (lo hi:Option Int) (n:Nat):(sliceBounds lo hi none n).1=((HT.sIx n 0 lo:Nat):Int)∧(sliceBounds lo hi none n).2.1=((HT.sIx n n hi:Nat):Int)∧(sliceBounds lo hi none n).2.2=1:=by
 refine ⟨?_,?_,rfl⟩
 ·cases lo with
  | none=>simp [sliceBounds,HT.sIx]
  | some i=>
   simp only [sliceBounds,HT.sIx,Option.getD_none,show (1:Int) > 0 by decide,if_true]
   by_cases h:i < 0
   ·simp only [h,if_true] <;> omega
   ·simp only [h,if_false] <;> omega
 ·cases hi with
  | none=>simp [sliceBounds,HT.sIx]
  | some i=>
   simp only [sliceBounds,HT.sIx,Option.getD_none,show (1:Int) > 0 by decide,if_true]
   by_cases h:i < 0
   ·simp only [h,if_true] <;> omega
   ·simp only [h,if_false] <;> omega
theorem slicePick_cut (its:List Value) (lo hi:Option Int):slicePick its.toArray lo hi none=((its.drop (HT.sIx its.length 0 lo)).take (HT.sIx its.length its.length hi - HT.sIx its.length 0 lo)).toArray:=by
 obtain ⟨h1,h2,h3⟩:=slice_bounds lo hi its.toArray.size
 unfold slicePick
 rw [h1,h2,h3]
 simp only [sliceRange_one,pick_run,List.size_toArray] <;> rfl
def rSlL (K:PySem.W.Frag):V→Option Int→Option Int→Hp→VK→Prop:=fun x lo hi H Q=>∃ a xs,x=.ref a∧SqL K H a xs∧∀ p,H p=none→Q (.ref p) (upd H p (.lst (cutV xs lo hi)))
theorem sl_list:SlR X (rSlL X.K):=by
 intro pins s σ H x v vl vu lo hi sl Q I rx hs pl pu h
 obtain ⟨a,xs,rfl,hx,q⟩:=h
 cases rx
 obtain ⟨its,r,ht,hz⟩:=I.list hx
 have hlen:=r.length
 refine ⟨"list",_,slot_list_getitem.lookup,ht.isList.typeIs,?_⟩
 refine wpAny_getItem_list_slice ht.isList hs pl pu .none (by simp) ?_ (by rw [List.size_toArray] <;> omega)
 rw [slicePick_cut,← hlen]
 refine ⟨.ref s.heap.objs.size,_,I.laid (t':=s.toks) (o:=.lst (cutV xs lo hi)) (fun b ob q=>Heap.get?_push_of_some _ q) (Nat.le_refl _) ?_,rfl,q _ (I.hok.fresh (Nat.le_refl _))⟩
 exact ⟨Nat.le_trans (cutV_length xs lo hi) hz,_,0,(r.drop (HT.sIx xs.length 0 lo)).take (HT.sIx xs.length xs.length hi - HT.sIx xs.length 0 lo),Heap.get?_push_size _ rfl⟩
def flatV:V→Bool
 | .non=>true
 | .bl _=>true
 | .int _=>true
 | .str _=>true
 | _=>false
def eqV:V→V→Bool
 | .non,.non=>true
 | .bl a,.bl b=>a == b
 | .bl a,.int b=>(if a then 1 else 0) == b
 | .int a,.bl b=>a == (if b then 1 else 0)
 | .int a,.int b=>a == b
 | .str a,.str b=>a == b
 | _,_=>false
theorem eqAt_V {A:Around} {s:Shared} {y x:V} {u v:Value} (ry:RelV y u) (rx:RelV x v) (fy:flatV y=true) (fx:flatV x=true):SeqAt.EqAt A s u v (eqV y x):=by
 cases y with
 | non=>
  cases ry
  cases x with
  | non=>cases rx;exact SeqAt.EqAt.same _
  | bl b=>cases rx;exact SeqAt.EqAt.none_bool b
  | int b=>obtain ⟨t,rfl⟩:=rx;exact SeqAt.EqAt.none_int b t
  | str b=>obtain ⟨t,rfl⟩:=rx;exact SeqAt.EqAt.none_str b t
  | _=>exact absurd (show false=true from fx) Bool.false_ne_true
 | bl a=>
  cases ry
  cases x with
  | non=>cases rx;exact SeqAt.EqAt.bool_none a
  | bl b=>cases rx;exact SeqAt.EqAt.bool_bool a b
  | int b=>obtain ⟨t,rfl⟩:=rx;exact SeqAt.EqAt.bool_int a b t
  | str b=>obtain ⟨t,rfl⟩:=rx;exact SeqAt.EqAt.bool_str a b t
  | _=>exact absurd (show false=true from fx) Bool.false_ne_true
 | int a=>
  obtain ⟨t',rfl⟩:=ry
  cases x with
  | non=>cases rx;exact SeqAt.EqAt.int_none a t'
  | bl b=>cases rx;exact SeqAt.EqAt.int_bool a t' b
  | int b=>obtain ⟨t,rfl⟩:=rx;exact SeqAt.EqAt.int_int a t' b t
  | str b=>obtain ⟨t,rfl⟩:=rx;exact SeqAt.EqAt.int_str a t' b t
  | _=>exact absurd (show false=true from fx) Bool.false_ne_true
 | str a=>
  obtain ⟨t',rfl⟩:=ry
  cases x with
  | non=>cases rx;exact SeqAt.EqAt.str_none a t'
  | bl b=>cases rx;exact SeqAt.EqAt.str_bool a t' b
  | int b=>obtain ⟨t,rfl⟩:=rx;exact SeqAt.EqAt.str_int a t' b t
  | str b=>obtain ⟨t,rfl⟩:=rx;exact SeqAt.EqAt.str_str a t' b t
  | _=>exact absurd (show false=true from fx) Bool.false_ne_true
 | _=>exact absurd (show false=true from fy) Bool.false_ne_true
def eqU (x:V) (u:Value):Bool:=match u with
 | .none=>eqV .non x
 | .bool b=>eqV (.bl b) x
 | .int i _=>eqV (.int i) x
 | .str z _=>eqV (.str z) x
 | _=>false
theorem eqU_of {x y:V} {u:Value} (r:RelV y u) (f:flatV y=true):eqU x u=eqV y x:=by
 cases y with
 | non=>cases r;rfl
 | bl b=>cases r;rfl
 | int i=>obtain ⟨t,rfl⟩:=r;rfl
 | str z=>obtain ⟨t,rfl⟩:=r;rfl
 | _=>exact absurd (show false=true from f) Bool.false_ne_true
theorem any_eqU {x:V}:∀ {xs:List V} {us:List Value},Vals xs us→xs.all flatV=true→us.any (eqU x)=xs.any fun y=>eqV y x
 | _,_,.nil,_=>rfl
 | y :: xs,u :: us,.cons r t,f=>by
  rw [List.all_cons,Bool.and_eq_true] at f
  rw [List.any_cons,List.any_cons,eqU_of r f.1,any_eqU t f.2]
theorem mem_eqAt {A:Around} {s:Shared} {x:V} {v:Value} (rx:RelV x v) (fx:flatV x=true):∀ {xs:List V} {us:List Value},Vals xs us→xs.all flatV=true→∀ u∈us,SeqAt.EqAt A s u v (eqU x u)
 | _,_,.nil,_=>fun u hu=>by cases hu
 | y :: xs,u :: us,.cons r t,f=>fun u' hu=>by
  rw [List.all_cons,Bool.and_eq_true] at f
  rcases List.mem_cons.mp hu with rfl | hu
  ·rw [eqU_of r f.1];exact eqAt_V r rx f.1 fx
  ·exact mem_eqAt rx fx t f.2 u' hu
def inV (x:V) (xs:List V):Bool:=xs.any fun y=>eqV y x
def rIn (K:PySem.W.Frag) (neg:Bool):R2:=fun x y H Q=>∃ p xs,y=.ref p∧(SqL K H p xs∨SqT K H p xs)∧flatV x=true∧xs.all flatV=true∧Q (.bl (if neg then !inV x xs else inV x xs)) H
theorem op_notIn_seq:OpR X (compareOp .NotIn) (rIn X.K true):=by
 intro pins s σ H x y v u Q I rx ry h
 obtain ⟨p,xs,rfl,hq,fx,fs,q⟩:=h
 cases ry
 rcases hq with hq | hq
 ·obtain ⟨its,r,pl,hz⟩:=I.list hq
  refine SeqAt.notIn_listAt (eqU x) pl.isList (fun w hw=>mem_eqAt rx fx r fs w (by simpa using hw)) ⟨.bl _,H,I,rfl,?_⟩
  rw [show its.toArray.any (eqU x)=its.any (eqU x) by simp,any_eqU r fs]
  exact q
 ·obtain ⟨its,r,pl,hz⟩:=I.tuple hq
  refine SeqAt.notIn_tupleAt (eqU x) pl (fun w hw=>mem_eqAt rx fx r fs w (by simpa using hw)) ⟨.bl _,H,I,rfl,?_⟩
  rw [show its.toArray.any (eqU x)=its.any (eqU x) by simp,any_eqU r fs]
  exact q
theorem call_len_seq:CallR X (.builtin "len") (fun xs H Q=>∃ p ys,xs=[.ref p]∧(SqL X.K H p ys∨SqT X.K H p ys)∧Q (.int ys.length) H):=by
 intro pins s σ H xs us Q I r h
 obtain ⟨p,ys,rfl,hq,q⟩:=h
 obtain ⟨u,rfl,rx⟩:=vals1 r
 cases rx
 have hn:=line63
 rcases hq with hq | hq
 ·obtain ⟨its,r',pl,hz⟩:=I.list hq
  have hlen:=r'.length
  exact Calls.call_len_list pl.isList (by simp only [List.size_toArray] <;> omega) ⟨.int ys.length,H,I.tok _,⟨s.toks + 1,by rw [List.size_toArray,hlen]⟩,q⟩
 ·obtain ⟨its,r',pl,hz⟩:=I.tuple hq
  have hlen:=r'.length
  exact len_tuple pl (by simp only [List.size_toArray] <;> omega) ⟨.int ys.length,H,I.tok _,⟨s.toks + 1,by rw [List.size_toArray,hlen]⟩,q⟩
theorem call_len_str:CallR X (.builtin "len") (fun xs H Q=>∃ z,xs=[.str z]∧z.length≤sizeLine∧Q (.int z.length) H):=by
 intro pins s σ H xs us Q I r h
 obtain ⟨z,rfl,hz,q⟩:=h
 obtain ⟨u,rfl,t,rfl⟩:=vals1 r
 have hn:=line63
 exact len_str (by omega) ⟨.int z.length,H,I.tok _,⟨_,rfl⟩,q⟩
theorem call_tuple_of:CallR X (.type "tuple") (fun xs H Q=>∃ p ys,xs=[.ref p]∧((SqL X.K H p ys∧∀ l,H l=none→Q (.ref l) (upd H l (.tup ys)))∨(SqT X.K H p ys∧Q (.ref p) H))):=by
 intro pins s σ H xs us Q I r h
 obtain ⟨p,ys,rfl,h⟩:=h
 obtain ⟨u,rfl,rx⟩:=vals1 r
 cases rx
 rcases h with ⟨hq,q⟩ | ⟨hq,q⟩
 ·obtain ⟨its,r',pl,hz⟩:=I.list hq
  have hlen:=r'.length
  refine call_tuple_list pl.isList (fun h' kp=>?_) (by simp only [List.size_toArray] <;> omega)
  have I1:Inv X pins σ H { s with heap:=h' }:=I.kept (t':=s.toks) kp
  have I2:Inv X pins σ (upd H h'.objs.size (.tup ys)) { s with heap:=h'.push { cls:=.type "tuple",data:=.seq its.toArray } }:=
   I1.laid (t':=s.toks) (fun b o e=>Heap.get?_push_of_some _ e) (Nat.le_refl _) (show ObjOk X.prog X.w _ _ _ (.tup ys) from ⟨hz,its,r',IsTup.new _ _⟩)
  exact ⟨.ref h'.objs.size,_,I2,rfl,q _ (I1.hok.fresh (Nat.le_refl _))⟩
 ·obtain ⟨its,r',pl,hz⟩:=I.tuple hq
  exact call_tuple_same pl ⟨.ref p,H,I,rfl,q⟩
def tyV (K:PySem.W.Frag) (T:String) (x:V) (H:Hp):Prop:=match x with
 | .str _=>T="str"
 | .int _=>T="int"
 | .ref p=>(T="list"∧∃ xs,SqL K H p xs)∨(T="tuple"∧∃ o,K.lookup p=some o∧o.cls=.type "tuple"∧o.dict=none)∨
   (T="dict"∧((∃ kvs,H p=some (.dK kvs))∨∃ kvs,H p=some (.dT kvs)))∨(T="set"∧∃ S n,H p=some (.set S n))
 | _=>False
theorem tyV_is {pins:List (Addr × Obj)} {σ:St} {H:Hp} {s:Shared} {T:String} {x:V} {v:Value} (I:Inv X pins σ H s) (r:RelV x v) (ty:tyV X.K T x H) :
  s.TypeIs v T∧∀ a,v=.ref a→∃ ob,s.heap.get? a=some ob∧ob.dict=none:=by
 cases x with
 | str z=>
  obtain ⟨t,rfl⟩:=r
  cases (show T="str" from ty)
  exact ⟨typeIs_str s z t,fun _ e=>nomatch e⟩
 | int i=>
  obtain ⟨t,rfl⟩:=r
  cases (show T="int" from ty)
  exact ⟨typeIs_int s i t,fun _ e=>nomatch e⟩
 | ref p=>
  cases r
  rcases ty with ⟨rfl,xs,hq⟩ | ⟨rfl,o,hk,hc,hd⟩ | ⟨rfl,hk⟩ | ⟨rfl,S,n,hk⟩
  ·obtain ⟨its,_,pl,_⟩:=I.list hq
   refine ⟨pl.isList.typeIs,fun a e=>?_⟩
   cases e
   obtain ⟨o,n,e,c,hd,_⟩:=pl
   exact ⟨o,e,hd⟩
  ·refine ⟨⟨o,I.kIn p o hk,hc⟩,fun a e=>?_⟩
   cases e
   exact ⟨o,I.kIn _ o hk,hd⟩
  ·have z:∃ o,s.heap.get? p=some o∧o.ExactDict:=by
    rcases hk with ⟨kvs,hk⟩ | ⟨kvs,hk⟩
    ·obtain ⟨_,_,_,_,o,_,_,e,ex,_⟩:=I.hok p _ hk
     exact ⟨o,e,ex⟩
    ·obtain ⟨_,_,_,_,o,_,_,e,ex,_⟩:=I.hok p _ hk
     exact ⟨o,e,ex⟩
   obtain ⟨o,e,ex⟩:=z
   refine ⟨⟨o,e,ex.1⟩,fun a e2=>?_⟩
   cases e2
   exact ⟨o,e,ex.2.1⟩
  ·obtain ⟨o,_,_,_,e,ex,_⟩:=I.hok p _ hk
   refine ⟨⟨o,e,ex.1⟩,fun a e2=>?_⟩
   cases e2
   exact ⟨o,e,ex.2.1⟩
 | _=>exact False.elim ty
def tBM0 (K:PySem.W.Frag) (T:String) (r:V→List V→Hp→VK→Prop) (to:TE):TE:=fun σ H Q=>to σ H fun x H1=>tyV K T x H1∧r x [] H1 Q
def tBM (K:PySem.W.Frag) (T:String) (r:V→List V→Hp→VK→Prop) (to:TE) (t:TA):TE:=fun σ H Q=>to σ H fun x H1=>tyV K T x H1∧t σ H1 fun xs H2=>r x xs H2 Q
variable {o e:Expr} {es:List Expr} {to:TE} {t:TA} {name:Str} {apos cpos:Pos} {T id:String} {r:V→List V→Hp→VK→Prop}
theorem pe_bm0 (pa:PlainAttrs T) (slot:Slot T name id) (hty:typeOf (.builtin id)=pure (.type "method_descriptor")) (hm:MtR X id r) (ho:PE X o to)
  (hbase:attributeBase o name X.env (eval o X.env)=eval o X.env:=by rfl) (hline:(apos.endLine == cpos.line)=true:=by rfl):PE X (.Call (.Attribute o name apos) [] [] cpos) (tBM0 X.K T r to):=by
 intro pins s σ H Q I h
 refine wpAny_Call_method0_late hbase hline (thn (ho pins s σ H _ I h) fun v s1 ⟨x,H1,I1,r1,ty,q1⟩=>?_)
 obtain ⟨h1,h2⟩:=tyV_is I1 r1 ty
 exact ⟨T,id,pa,slot,hty,h1,h2,Calls.callWith_builtin rfl (PySem.evalArgs_none (hm pins s1 σ H1 x [] v [] Q I1 r1 .nil q1))⟩
theorem pe_bm (pa:PlainAttrs T) (slot:Slot T name id) (hty:typeOf (.builtin id)=pure (.type "method_descriptor")) (hm:MtR X id r) (ho:PE X o to) (ha:PA X (e :: es) t)
  (hbase:attributeBase o name X.env (eval o X.env)=eval o X.env:=by rfl)
  (hfew:((backTo cpos (starEach (e :: es) X.env)).all (fun x=>!x.1) && (backToKw cpos (keywordEach [] X.env)).all (fun x=>x.1.isSome)
   && decide ((e :: es).length + ([]:List Keyword).length + (if ([]:List Keyword).isEmpty then 0 else 1) < 30))=true:=by rfl)
  (hline:(apos.endLine == cpos.line)=true:=by rfl) (hs:starEach (e :: es) X.env=(false,eval e X.env) :: starEach es X.env:=by rfl) (hplain:(backTo cpos (starEach es X.env)).any (·.1)=false:=by rfl) :
  PE X (.Call (.Attribute o name apos) (e :: es) [] cpos) (tBM X.K T r to t):=by
 intro pins s σ H Q I h
 refine wpAny_Call_method_late hbase hfew hline rfl (thn (ho pins s σ H _ I h) fun v s1 ⟨x,H1,I1,r1,ty,q1⟩=>?_)
 obtain ⟨h1,h2⟩:=tyV_is I1 r1 ty
 refine ⟨T,id,pa,slot,hty,h1,h2,?_⟩
 have hA:=ha cpos pins s1 σ H1 _ I1 q1
 rw [hs] at hA ⊢
 refine Calls.callWith_builtin (by show (false || (backTo cpos (starEach es X.env)).any (·.1))=false;rw [hplain] <;> rfl) (Calls.evalArgs_plain ?_)
 exact thn hA fun us s2 ⟨vs,H2,I2,r2,q2⟩=>hm pins s2 σ H2 x vs v us Q I2 r1 r2 q2
end
end L2
namespace L2
open PySem PySem.Spec PyProof.Rows
def MtM (X:Cx) (id:String) (r:V→List V→Hp→VK→Prop):Prop:=
 ∀ (pins:List (Addr × Obj)) (s:Shared) (σ:St) (H:Hp) (x:V) (xs:List V) (v:Value) (us:List Value) (Q:VK),Inv X pins σ H s→RelV x v→Vals xs us→r x xs H Q→
  wpAny (model X.prog X.w) X.A (call (.builtin id) (v :: us)) (EP X pins σ Q) X.xe s
theorem Vals.one:∀ {x:V} {us:List Value},Vals [x] us→∃ u,us=[u]∧RelV x u
 | _,_,.cons r .nil=>⟨_,rfl,r⟩
theorem Vals.zero:∀ {us:List Value},Vals [] us→us=[]
 | _,.nil=>rfl
theorem Vals.eraseIdx:∀ {xs:List V} {us:List Value} (i:Nat),Vals xs us→Vals (xs.eraseIdx i) (us.eraseIdx i)
 | _,_,_,.nil=>.nil
 | _,_,0,.cons _ t=>t
 | _,_,i + 1,.cons r t=>.cons r (Vals.eraseIdx i t)
section
variable {X:Cx} {pins:List (Addr × Obj)} {σ:St} {H:Hp} {s:Shared} {l b:Addr} {xs ys zs:List V}
theorem Inv.lset {its its':List Value} {n:Nat} {f:Array Value→Array Value} {t':Nat} (I:Inv X pins σ H s) (hH:H l=some (.lst xs))
  (e:s.heap.get? l=some { cls:=.type "list",data:=.seq its.toArray n }) (hf:f its.toArray=its'.toArray) (hv:Vals ys its') (hz:ys.length≤sizeLine) :
  Inv X pins σ (upd H l (.lst ys)) { s with heap:=s.heap.update l (Obj.mapSeq f),toks:=t' }:=by
 have q:=PySem.IsL.update e f
 rw [hf] at q
 refine I.write (x:=l) (e:=l) (by rw [hH];exact trivial) (.inl rfl) (fun b' u hb hu=>(Heap.get?_update_other s.heap (Obj.mapSeq f) (Ne.symm hb)).trans hu) ⟨_,q⟩ ?_
 exact ⟨hz,its',_,hv,q⟩
theorem Inv.lnew {its:List Value} {t':Nat} (I:Inv X pins σ H s) (hv:Vals ys its) (hz:ys.length≤sizeLine) :
  Inv X pins σ (upd H s.heap.objs.size (.lst ys)) { s with heap:=s.heap.push { cls:=.type "list",data:=.seq its.toArray },toks:=t' }:=
 I.laid (fun _ _ q=>Heap.get?_push_of_some _ q) (Nat.le_refl _) ⟨hz,its,0,hv,Heap.get?_push_size _ rfl⟩
theorem Inv.fresh (I:Inv X pins σ H s):H s.heap.objs.size=none:=I.hok.fresh (Nat.le_refl _)
theorem Inv.lstM (I:Inv X pins σ H s) (hH:H l=some (.lst xs)):xs.length≤sizeLine∧∃ (its:List Value) (n:Nat),Vals xs its∧xs.length=its.length∧s.heap.get? l=some { cls:=.type "list",data:=.seq its.toArray n }:=by
 obtain ⟨z,its,n,r,e⟩:=I.hok l _ hH
 exact ⟨z,its,n,r,r.length,e⟩
theorem notLongL {n:Nat} (h:n≤sizeLine):Builtin.List.listTooLong n=false:=by
 unfold Builtin.List.listTooLong
 exact decide_eq_false (by omega)
end
section
variable {X:Cx}
def rAppend:V→List V→Hp→VK→Prop:=fun x vs H Q=>∃ l xs y,x=.ref l∧vs=[y]∧H l=some (.lst xs)∧xs.length < sizeLine∧Q .non (upd H l (.lst (xs ++ [y])))
theorem mt_append:MtM X "list.append" rAppend:=by
 intro pins s σ H x vs v us Q I rx rv h
 obtain ⟨l,xs,y,rfl,rfl,hH,hz,q⟩:=h
 cases rx
 obtain ⟨u,rfl,ru⟩:=rv.one
 obtain ⟨z,its,n,r,hl,e⟩:=I.lstM hH
 refine call_meets F.slot_list_append ⟨_,e,rfl⟩ F.entry_list_append (F.args_list_append_2 _ _) (PySem.list_append l its.toArray n u (by rw [List.size_toArray];omega)) ⟨e,?_⟩
 refine ⟨.non,_,I.lset (its':=its ++ [u]) hH e (by simp) (r.append (.cons ru .nil)) ?_,rfl,q⟩
 rw [List.length_append,List.length_singleton]
 omega
def rExtend:V→List V→Hp→VK→Prop:=fun x vs H Q=>∃ l b xs zs,x=.ref l∧vs=[.ref b]∧H l=some (.lst xs)∧H b=some (.lst zs)∧xs.length + zs.length≤sizeLine∧Q .non (upd H l (.lst (xs ++ zs)))
theorem mt_extend:MtM X "list.extend" rExtend:=by
 intro pins s σ H x vs v us Q I rx rv h
 obtain ⟨l,b,xs,zs,rfl,rfl,hH,hB,hz,q⟩:=h
 cases rx
 obtain ⟨u,rfl,ru⟩:=rv.one
 cases ru
 obtain ⟨z,its,n,r,hl,e⟩:=I.lstM hH
 obtain ⟨z2,its2,n2,r2,hl2,e2⟩:=I.lstM hB
 have hsz:its.toArray.size + its2.toArray.size≤sizeLine:=by rw [List.size_toArray,List.size_toArray];omega
 have hlong:¬(!its.toArray.isEmpty && Builtin.List.listTooLong (its.toArray.size + its2.toArray.size))=true:=by
  rw [notLongL hsz,Bool.and_false]
  exact Bool.false_ne_true
 refine call_meets F.slot_list_extend ⟨_,e,rfl⟩ F.entry_list_extend (F.args_list_extend_2 _ _)
  (AutoSeq1.list_extend_list_list_0 l its.toArray n b its2.toArray n2 hlong (by rw [List.size_toArray];omega) (by omega)) ⟨e,e2,?_⟩
 refine ⟨.non,_,I.lset (its':=its ++ its2) hH e (by simp) (r.append r2) ?_,rfl,q⟩
 rw [List.length_append]
 omega
def rCat:R2:=fun x y H Q=>∃ l b xs zs,x=.ref l∧y=.ref b∧H l=some (.lst xs)∧H b=some (.lst zs)∧xs.length + zs.length≤sizeLine∧∀ p,H p=none→Q (.ref p) (upd H p (.lst (xs ++ zs)))
theorem op_cat:OpR X (binaryOp .Add) rCat:=by
 intro pins s σ H x y v u Q I rx ry h
 obtain ⟨l,b,xs,zs,rfl,rfl,hH,hB,hz,q⟩:=h
 cases rx
 cases ry
 obtain ⟨z,its,n,r,hl,e⟩:=I.lstM hH
 obtain ⟨z2,its2,n2,r2,hl2,e2⟩:=I.lstM hB
 refine PySem.P.add_list e e2 ?_ (by rw [List.size_toArray,List.size_toArray];omega)
 have ea:its.toArray ++ its2.toArray=(its ++ its2).toArray:=by simp
 rw [ea]
 exact ⟨.ref _,_,I.lnew (t':=s.toks) (r.append r2) (by rw [List.length_append];omega),rfl,q _ I.fresh⟩
theorem len_rep {α:Type} (xs:List α) (k:Nat):(List.replicate k xs).flatten.length=k * xs.length:=by
 induction k with
 | zero=>simp
 | succ k ih=>rw [List.replicate_succ,List.flatten_cons,List.length_append,ih,Nat.succ_mul,Nat.add_comm]
end
section
variable {prog:Program} {w:World} {A:Around} {E:Value→Shared→Prop} {s:Shared}
end
section
variable {X:Cx}
end
end L2
namespace L2
open PySem PySem.Spec PyProof.Rows
section
variable {κ:Type} [DecidableEq κ]
def valV (kvs:List (κ × V)) (k:κ):Option V:=(kvs.find? fun kv=>decide (kv.1=k)).map (·.2)
def putK (kvs:List (κ × V)) (k:κ) (v:V):List (κ × V):=
 if (kvs.any fun kv=>decide (kv.1=k))=true then kvs.map (fun kv=>if kv.1=k then (kv.1,v) else kv) else kvs ++ [(k,v)]
theorem valV_pos {p:κ × V} {r:List (κ × V)} {k:κ} (e:p.1=k):valV (p :: r) k=some p.2:=by simp [valV,List.find?_cons,e]
theorem valV_neg {p:κ × V} {r:List (κ × V)} {k:κ} (e:¬p.1=k):valV (p :: r) k=valV r k:=by simp [valV,List.find?_cons,e]
theorem valV_any (k:κ):∀ kvs:List (κ × V),(kvs.any fun kv=>decide (kv.1=k))=(valV kvs k).isSome
 | []=>rfl
 | p :: r=>by
  rw [List.any_cons]
  by_cases e:p.1=k
  ·simp only [valV_pos e,decide_eq_true e,Bool.true_or,Option.isSome_some]
  ·rw [valV_neg e,decide_eq_false e,Bool.false_or];exact valV_any k r
theorem length_putK (kvs:List (κ × V)) (k:κ) (v:V):(putK kvs k v).length≤kvs.length + 1:=by
 unfold putK
 split
 ·rw [List.length_map];omega
 ·rw [List.length_append,List.length_cons,List.length_nil];omega
theorem putK_new {kvs:List (κ × V)} {k:κ} (v:V) (h:valV kvs k=none):putK kvs k v=kvs ++ [(k,v)]:=by
 unfold putK
 rw [valV_any,h]
 exact if_neg (by decide)
theorem RelO.isSome_eq {o:Option V} {u:Option Value} (r:RelO o u):o.isSome=u.isSome:=by
 cases o with
 | none=>cases u with
  | none=>rfl
  | some _=>exact (show False from r).elim
 | some _=>cases u with
  | none=>exact (show False from r).elim
  | some _=>rfl
theorem KV.val {kvs:List (κ × V)} {vs:List (κ × Value)} (r:KV kvs vs) (k:κ):RelO (valV kvs k) (valueAt vs k):=by
 unfold KV at r
 induction r with
 | nil=>exact True.intro
 | @cons p q ps qs h t ih=>
  obtain ⟨h1,h2⟩:=h
  by_cases e:p.1=k
  ·have e':q.1=k:=h1.symm.trans e
   have b:valueAt (q :: qs) k=some q.2:=by simp [valueAt,List.find?_cons,e']
   rw [valV_pos e,b];exact h2
  ·have e':¬q.1=k:=fun z=>e (h1.trans z)
   have b:valueAt (q :: qs) k=valueAt qs k:=by simp [valueAt,List.find?_cons,e']
   rw [valV_neg e,b];exact ih
theorem KV.any {kvs:List (κ × V)} {vs:List (κ × Value)} (r:KV kvs vs) (k:κ):(kvs.any fun kv=>decide (kv.1=k))=vs.any fun kv=>decide (kv.1=k):=by
 unfold KV at r
 induction r with
 | nil=>rfl
 | cons h t ih=>rw [List.any_cons,List.any_cons,ih,h.1]
theorem KV.repl {kvs:List (κ × V)} {vs:List (κ × Value)} (r:KV kvs vs) (k:κ) {y:V} {u:Value} (ry:RelV y u) :
  KV (kvs.map fun kv=>if kv.1=k then (kv.1,y) else kv) (vs.map fun kv=>if kv.1=k then (kv.1,u) else kv):=by
 unfold KV at r ⊢
 induction r with
 | nil=>exact .nil
 | @cons p q ps qs h t ih=>
  rw [List.map_cons,List.map_cons]
  refine .cons ?_ ih
  obtain ⟨h1,h2⟩:=h
  by_cases e:p.1=k
  ·rw [if_pos e,if_pos (h1.symm.trans e)];exact ⟨h1,ry⟩
  ·rw [if_neg e,if_neg (fun z=>e (h1.trans z))];exact ⟨h1,h2⟩
theorem KV.put {kvs:List (κ × V)} {vs:List (κ × Value)} (r:KV kvs vs) (k:κ) {y:V} {u:Value} (ry:RelV y u):KV (putK kvs k y) (stored vs k u):=by
 unfold putK stored
 rw [r.any k]
 by_cases e:(vs.any fun kv=>decide (kv.1=k))=true
 ·rw [if_pos e,if_pos e];exact r.repl k ry
 ·rw [if_neg e,if_neg e];exact Paired.snoc r ⟨rfl,ry⟩
theorem KV.length {kvs:List (κ × V)} {vs:List (κ × Value)} (r:KV kvs vs):kvs.length=vs.length:=Paired.length r
end
theorem kV_is {P:Program} {w:World} {k:Key} {u:Value} (r:RelV (kV k) u):(mixKind P w).is k u=true:=by
 cases k with
 | inl i=>obtain ⟨t,e⟩:=(show ∃ t,u=Value.int i t from r);subst e;exact mixKind_int P w i t
 | inr x=>obtain ⟨t,e⟩:=(show ∃ t,u=Value.str x t from r);subst e;exact mixKind_str P w x t
theorem items_are {P:Program} {w:World}:∀ {ks:List Key} {us:List Value},Vals (ks.map kV) us→ItemsAre (mixKind P w) ks us
 | [],_,r=>by rw [List.map_nil] at r;cases r;exact .nil
 | k :: ks,_,r=>by
  rw [List.map_cons] at r
  cases r with
  | cons h t=>exact .cons (kV_is h) (items_are t)
abbrev KT (H:Hp):List (List Key × V)→List (List Key × Addr × Value)→Prop:=Paired fun p q=>p.1=q.1∧H q.2.1=some (.tup (p.1.map kV))∧RelV p.2 q.2.2
theorem KT.val {H:Hp} {kvs:List (List Key × V)} {xs:List (List Key × Addr × Value)} (r:KT H kvs xs) (k:List Key):RelO (valV kvs k) ((atKey xs k).map (·.2)):=by
 induction r with
 | nil=>exact True.intro
 | @cons p q ps qs h t ih=>
  obtain ⟨h1,_,h2⟩:=h
  by_cases e:p.1=k
  ·have e':q.1=k:=h1.symm.trans e
   have b:atKey (q :: qs) k=some q.2:=by simp [atKey,List.find?_cons,e']
   rw [valV_pos e,b];exact h2
  ·have e':¬q.1=k:=fun z=>e (h1.trans z)
   have b:atKey (q :: qs) k=atKey qs k:=by simp [atKey,List.find?_cons,e']
   rw [valV_neg e,b];exact ih
theorem KT.repl {H:Hp} {kvs:List (List Key × V)} {xs:List (List Key × Addr × Value)} (r:KT H kvs xs) (k:List Key) {y:V} {u:Value} (ry:RelV y u) :
  KT H (kvs.map fun kv=>if kv.1=k then (kv.1,y) else kv) (xs.map (putAt k u)):=by
 induction r with
 | nil=>exact .nil
 | @cons p q ps qs h t ih=>
  rw [List.map_cons,List.map_cons]
  refine .cons ?_ ih
  obtain ⟨h1,h2,h3⟩:=h
  unfold putAt
  by_cases e:p.1=k
  ·rw [if_pos e,if_pos (h1.symm.trans e)];exact ⟨h1,h2,ry⟩
  ·rw [if_neg e,if_neg (fun z=>e (h1.trans z))];exact ⟨h1,h2,h3⟩
theorem KT.put {H:Hp} {kvs:List (List Key × V)} {xs:List (List Key × Addr × Value)} (r:KT H kvs xs) (k:List Key) {b:Addr} {y:V} {u:Value} (hb:H b=some (.tup (k.map kV))) (ry:RelV y u) :
  KT H (putK kvs k y) (storedH xs k b u):=by
 have e:(kvs.any fun kv=>decide (kv.1=k))=(atKey xs k).isSome:=by
  rw [valV_any,(r.val k).isSome_eq,Option.isSome_map]
 unfold putK storedH
 rw [e]
 by_cases q:(atKey xs k).isSome=true
 ·rw [if_pos q,if_pos q];exact r.repl k ry
 ·rw [if_neg q,if_neg q];exact Paired.snoc r ⟨rfl,hb,ry⟩
theorem KT.keeps {H H':Hp} {kvs:List (List Key × V)} {xs:List (List Key × Addr × Value)} (r:KT H kvs xs) (ht:∀ b ys,H b=some (.tup ys)→H' b=some (.tup ys)):KT H' kvs xs:=
 Paired.mapP r fun _ _ z=>⟨z.1,ht _ _ z.2.1,z.2.2⟩
section
variable {P:Program} {w:World} {H:Hp} {h:Heap} {a:Addr}
theorem rd_of {u:HO} (ok:HOk P w H h) (e:Rd H a u):ObjOk P w H h a u:=e.ok ok
theorem dk_rd {kvs:List (Key × V)} (ok:HOk P w H h) (e:Rd H a (.dK kvs)):kvs.length≤sizeLine∧(a == sysModules)=false∧∃ vs,KV kvs vs∧h.DictOf (mixKind P w) a vs:=
 show ObjOk P w H h a (.dK kvs) from rd_of ok e
theorem dk_of {kvs:List (Key × V)} (ok:HOk P w H h) (e:H a=some (.dK kvs)):kvs.length≤sizeLine∧(a == sysModules)=false∧∃ vs,KV kvs vs∧h.DictOf (mixKind P w) a vs:=dk_rd ok (.inl e)
theorem key_of {ks:List Key} (ok:HOk P w H h) (e:H a=some (.tup (ks.map kV))):(tupleKind (mixKind P w)).is h ks a:=by
 obtain ⟨_,its,r,o,h1,h2,n,h3⟩:=(show ObjOk P w H h a (.tup (ks.map kV)) from ok a _ e)
 exact ⟨o,its.toArray,n,h1,h2,h3,by simpa using items_are r⟩
theorem dt_rd {kvs:List (List Key × V)} (ok:HOk P w H h) (e:Rd H a (.dT kvs)):kvs.length≤sizeLine∧(a == sysModules)=false∧
  ∃ xs,KT H kvs xs∧h.DictOfH (tupleKind (mixKind P w)) a xs:=by
 obtain ⟨z,y,xs,r,o,es,ep,h1,h2,h3,h4,h5⟩:=(show ObjOk P w H h a (.dT kvs) from rd_of ok e)
 refine ⟨z,y,xs,r,o,es,ep,h1,h2,h3,h4,fun x hx=>?_,h5⟩
 have all:∀ {l:List (List Key × V)} {m:List (List Key × Addr × Value)},KT H l m→∀ x∈m,(tupleKind (mixKind P w)).is h x.1 x.2.1:=by
  intro l m q
  induction q with
  | nil=>intro x hx;exact nomatch hx
  | @cons p q ps qs hq t ih=>
   intro x hx
   rcases List.mem_cons.mp hx with e | hx
   ·subst e
    exact key_of ok (by rw [← hq.1];exact hq.2.1)
   ·exact ih x hx
 exact all r x hx
theorem dt_of {kvs:List (List Key × V)} (ok:HOk P w H h) (e:H a=some (.dT kvs)):kvs.length≤sizeLine∧(a == sysModules)=false∧
  ∃ xs,KT H kvs xs∧h.DictOfH (tupleKind (mixKind P w)) a xs:=dt_rd ok (.inl e)
end
def DGet (H:Hp) (a:Addr) (y:V) (r:Option V):Prop:=
 (∃ kvs k,Rd H a (.dK kvs)∧y=kV k∧r=valV kvs k)∨∃ kvs k b,Rd H a (.dT kvs)∧y=.ref b∧H b=some (.tup (k.map kV))∧r=valV kvs k
def DPut (H:Hp) (a:Addr) (y v:V) (H':Hp):Prop:=
 (∃ kvs k,H a=some (.dK kvs)∧y=kV k∧kvs.length < sizeLine∧H'=upd H a (.dK (putK kvs k v)))∨
 ∃ kvs k b,H a=some (.dT kvs)∧y=.ref b∧H b=some (.tup (k.map kV))∧kvs.length < sizeLine∧H'=upd H a (.dT (putK kvs k v))
theorem DGet.k {H:Hp} {a:Addr} {kvs:List (Key × V)} {k:Key} (e:H a=some (.dK kvs)):DGet H a (kV k) (valV kvs k):=.inl ⟨kvs,k,.inl e,rfl,rfl⟩
theorem DPut.k {H:Hp} {a:Addr} {kvs:List (Key × V)} {k:Key} {v:V} (e:H a=some (.dK kvs)) (hl:kvs.length < sizeLine):DPut H a (kV k) v (upd H a (.dK (putK kvs k v))):=.inl ⟨kvs,k,e,rfl,hl,rfl⟩
section
variable {X:Cx} {pins:List (Addr × Obj)} {σ:St} {H:Hp} {s:Shared} {a:Addr} {y v:V} {u r:Value} {o:Option V} {A:Around} {E:Value→Shared→Prop}
theorem Inv.big (I:Inv X pins σ H s):sysModules < s.heap.objs.size:=by
 have h:mainGlobals < s.heap.objs.size:=(I.mod.glob.keeps I.bk).lt
 exact Nat.lt_trans (by decide) h
theorem d_in {Q:Value→Shared→Prop} (hu:A.units + 1 < cLine) (I:Inv X pins σ H s) (g:DGet H a y o) (ry:RelV y u) (h:∀ s',Inv X pins σ H s'→Q (.bool o.isSome) s') :
  wpAny (model X.prog X.w) A (compareOp .In u (.ref a)) Q E s:=by
 rcases g with ⟨kvs,k,e,ey,l⟩ | ⟨kvs,k,b,e,ey,eb,l⟩
 ·subst ey
  obtain ⟨z,hd,vs,rel,dd⟩:=dk_rd I.hok e
  refine wpAny_in_of (kV_is ry) hd dd.mapOf ?_
  rw [← (rel.val k).isSome_eq,← l]
  exact h _ (I.tok _)
 ·subst ey
  cases (show u=Value.ref b from ry)
  obtain ⟨z,hd,xs,rel,dd⟩:=dt_rd I.hok e
  refine wpAny_in_heap (tupleKind_room_in1 hu) (key_of I.hok eb) hd dd ?_
  have q:=(rel.val k).isSome_eq
  rw [Option.isSome_map] at q
  rw [← q,← l]
  exact h _ (I.tok _)
theorem d_write {h':Heap} {t':Nat} {ob:HO} (I:Inv X pins σ H s) (mu:Mut (H a)) (hs:Heap.SameBut a s.heap h') (he:∃ q,h'.get? a=some q) (new:ObjOk X.prog X.w (upd H a ob) h' a ob) :
  Inv X pins σ (upd H a ob) { s with heap:=h',toks:=t' }:=
 I.write (x:=a) (e:=a) mu (.inl rfl) (fun b q hb z=>(hs.2 b hb).trans z) he new
theorem dk_new {P:Program} {w:World} {H':Hp} {h':Heap} {kvs:List (Key × V)} {vs:List (Key × Value)} (z:kvs.length≤sizeLine) (hd:(a == sysModules)=false) (rel:KV kvs vs) (dd:h'.DictOf (mixKind P w) a vs) :
  ObjOk P w H' h' a (.dK kvs):=⟨z,hd,vs,rel,dd⟩
theorem d_setItem {H':Hp} {Q:Unit→Shared→Prop} (hu:A.units + 1 < cLine) (I:Inv X pins σ H s) (g:DPut H a y v H') (ry:RelV y u) (rv:RelV v r) (h:∀ s',Inv X pins σ H' s'→Q () s') :
  wpAny (model X.prog X.w) A (setItem (.ref a) u r) Q E s:=by
 rcases g with ⟨kvs,k,e,ey,l,eH⟩ | ⟨kvs,k,b,e,ey,eb,l,eH⟩
 ·subst ey eH
  obtain ⟨z,hd,vs,rel,dd⟩:=dk_of I.hok e
  have hz:vs.length≤sizeLine:=by rw [← rel.length];exact z
  have hl:(putK kvs k v).length≤sizeLine:=by have:=length_putK kvs k v;omega
  refine wpAny_setItem_pairs (hsz:=hz) (kV_is ry) dd fun h' dd' hs=>h _ ?_
  have he:∃ q,h'.get? a=some q:=let ⟨q,_,_,hq,_⟩:=dd';⟨q,hq⟩
  exact d_write I (by rw [e];exact True.intro) hs he (dk_new hl hd (rel.put k rv) dd')
 ·subst ey eH
  cases (show u=Value.ref b from ry)
  obtain ⟨z,hd,xs,rel,dd⟩:=dt_of I.hok e
  have hz:xs.length≤sizeLine:=by rw [← Paired.length rel];exact z
  have hl:(putK kvs k v).length≤sizeLine:=by have:=length_putK kvs k v;omega
  refine wpAny_setItem_heap (hsz:=hz) (tupleKind_room_in1 hu) (key_of I.hok eb) dd fun h' dd' hs=>h _ ?_
  obtain ⟨q,es,ep,hq,h2,h3,h4,_,h5⟩:=dd'
  refine d_write I (by rw [e];exact True.intro) hs ⟨q,hq⟩ ⟨hl,hd,_,(rel.put k eb rv).keeps fun c ys ec=>?_,q,es,ep,hq,h2,h3,h4,h5⟩
  rw [upd_ne (ne_of ec e (fun z=>nomatch z))]
  exact ec
end
section
variable {X:Cx} {pins:List (Addr × Obj)} {σ:St} {H:Hp} {s:Shared} {a:Addr} {kvs:List (Key × V)} {k:Key} {u:Value} {A:Around} {E:Value→Shared→Prop}
end
def tDIn (ty td:TE):TE:=fun σ H Q=>ty σ H fun y H1=>td σ H1 fun x H2=>∃ a o,x=.ref a∧DGet H2 a y o∧Q (.bl o.isSome) H2
def sDPut (td ty tv:TE):TS:=fun D σ H=>tv σ H fun v H1=>td σ H1 fun x H2=>ty σ H2 fun y H3=>∃ a H4,x=.ref a∧DPut H3 a y v H4∧D.nx σ H4
section
variable {X:Cx} {o i e value:Expr} {pos pos' tpos:Pos} {td ty tv:TE}
theorem pc_din (hu:X.A.units + 1 < cLine) (hi:PE X i ty) (ho:PE X o td):PC X .In i o (tDIn ty td):=by
 intro pins s σ H Q I h
 refine thn (hi pins s σ H _ I h) fun iv s1 ⟨y,H1,I1,ry,q1⟩=>thn (ho pins s1 σ H1 _ I1 q1) fun u s2 ⟨x,H2,I2,rx,a,ov,ex,g,q2⟩=>?_
 subst ex
 obtain rfl:u=Value.ref a:=rx
 exact d_in hu I2 g ry fun s3 I3=>⟨.bl ov.isSome,H2,I3,rfl,q2⟩
theorem ps_dput (hu:X.A.units + 1 < cLine) (ho:PE X o td) (hi:PE X i ty) (hv:PE X value tv) (hs:swapsWith value (some (.Subscript o i pos')) pos.line X.env=pure false) :
  PS X (.Assign [.Subscript o i pos'] value pos) (sDPut td ty tv):=by
 intro pins s σ H D I h
 refine wpAny_Assign_Subscript (thn (hv pins s σ H _ I h) fun r s1 ⟨v,H1,I1,rv,q1⟩=>thn (ho pins s1 σ H1 _ I1 q1) fun u s2 ⟨x,H2,I2,rx,q2⟩=>thn (hi pins s2 σ H2 _ I2 q2) fun iv s3 ⟨y,H3,I3,ry,a,H4,ex,g,q3⟩=>?_) hs
 subst ex
 obtain rfl:u=Value.ref a:=rx
 exact d_setItem hu I3 g ry rv fun s4 I4=>⟨σ,H4,I4,q3⟩
end
theorem dk_empty {P:Program} {w:World} {H:Hp} (h:Heap) (hb:sysModules < h.objs.size):ObjOk P w H (h.push { cls:=.type "dict",data:=.dict #[] }) h.objs.size (.dK []):=
 ⟨Nat.zero_le _,beq_eq_false_iff_ne.mpr (Ne.symm (Nat.ne_of_lt hb)),[],.nil,Heap.DictOf.new h⟩
def tDNewK:TE:=fun _ H Q=>∀ p,H p=none→Q (.ref p) (upd H p (.dK []))
section
variable {X:Cx} {pos:Pos}
theorem pe_dnewK:PE X (.Dict [] [] pos) tDNewK:=fun pins s σ H Q I h=>
 wpAny_Dict_empty ⟨.ref s.heap.objs.size,_,I.laid (a:=s.heap.objs.size) (o:=.dK []) (t':=s.toks) (fun _ _ q=>Heap.get?_push_of_some _ q) (Nat.le_refl _) (dk_empty s.heap I.big),rfl,h _ (I.hok.fresh (Nat.le_refl _))⟩
end
structure M1 (X:Cx) (o:Expr) (m:Str) (apos:Pos) (e:Expr) (cpos:Pos):Prop where
 base:attributeBase o m X.env (eval o X.env)=eval o X.env
 few:((backTo cpos (starEach [e] X.env)).all (fun x=>!x.1) && (backToKw cpos (keywordEach [] X.env)).all (fun x=>x.1.isSome)
  && decide (([e]:List Expr).length + ([]:List Keyword).length + (if ([]:List Keyword).isEmpty then 0 else 1) < 30))=true
 line:(apos.endLine == cpos.line)=true
 trees:backTo cpos (starEach [e] X.env)=[(false,eval e X.env)]
structure M2 (X:Cx) (o:Expr) (m:Str) (apos:Pos) (e f:Expr) (cpos:Pos):Prop where
 base:attributeBase o m X.env (eval o X.env)=eval o X.env
 few:((backTo cpos (starEach [e,f] X.env)).all (fun x=>!x.1) && (backToKw cpos (keywordEach [] X.env)).all (fun x=>x.1.isSome)
  && decide (([e,f]:List Expr).length + ([]:List Keyword).length + (if ([]:List Keyword).isEmpty then 0 else 1) < 30))=true
 line:(apos.endLine == cpos.line)=true
 trees:backTo cpos (starEach [e,f] X.env)=[(false,eval e X.env),(false,eval f X.env)]
section
variable {X:Cx} {pins:List (Addr × Obj)} {σ:St} {H:Hp} {s:Shared} {a:Addr} {y d:V} {u r:Value} {o:Option V} {A:Around} {E:Value→Shared→Prop}
end
section
variable {X:Cx} {o e f:Expr} {apos cpos:Pos} {td ty tx:TE}
end
section
variable {X:Cx} {pins:List (Addr × Obj)} {σ:St} {H:Hp} {s:Shared} {a:Addr} {kvs:List (Key × V)} {A:Around} {E:Value→Shared→Prop}
end
section
variable {X:Cx} {pins:List (Addr × Obj)} {σ:St} {H:Hp} {s:Shared} {a:Addr} {y:V} {u:Value} {A:Around} {E:Value→Shared→Prop}
end
end L2
namespace Att
open PySem PySem.W PySem.Calls PyProof.Rows
theorem ints_of_wellAll {P:Params} {h:Heap}:∀ (ns:List Int) (vs:List Value),WellAll P h vs (ns.map WData.int)→IntsAre vs ns:=by
 intro ns
 induction ns with
 | nil=>
  intro vs w
  rw [List.map_nil] at w
  cases w
  exact .nil
 | cons n ns ih=>
  intro vs w
  rw [List.map_cons] at w
  cases w with
  | cons a b=>
   cases a
   exact .cons _ _ (ih _ b)
theorem script_of {l:OpenLaw} {n:Nat} (hn:l.most=some n) {P:Params} {h:Heap} {args:List WData} {vals:List Value}
  (hpre:l.row.toRowW.claim.pre args=true) (hwl:WellAll P h vals args) :
  ∃ a vs ns,vals=[Value.ref a]∧args=[WData.list (ns.map WData.int)]∧h.get? a=some { cls:=.type "list",data:=.seq vs.toArray }∧IntsAre vs ns∧ns.length≤n:=by
 have hsh:WShape.hasAll [] args [.list .int]=true:=(pre_splitW hpre).1
 have hc:l.pre.holds [] { args:=args }=true:=(pre_splitW hpre).2
 obtain ⟨d,r,rfl,h1,h2⟩:=hasAllW_cons hsh
 obtain rfl:=hasAllW_nil h2
 obtain ⟨xs,rfl,h3⟩:=hasW_list h1
 obtain ⟨ns,rfl⟩:=items_int h3
 have hlen:ns.length≤n:=by
  unfold OpenLaw.pre at hc
  have h4:(WTm.not (.lt (.lit (.int (n:Int))) (.len (.arg 0)))).holds [] { args:=[.list (ns.map .int)] }=true:=by
   have h4:=(holds_andW hc).1
   rw [hn] at h4
   exact h4
  have h5:=condW_of h4 (w_not (w_lt w_lit (w_len_list (w_arg rfl))))
  rw [List.length_map] at h5
  refine Nat.le_of_not_lt fun q=>?_
  have q':(n:Int) < ((ns.length:Nat):Int):=by omega
  first
   | (rw [decide_eq_true q'] at h5;exact absurd h5 (by decide))
   | (simp at h5;omega)
 cases hwl with
 | cons w1 w2=>
  cases w2
  cases w1 with
  | list ho hall=>exact ⟨_,_,ns,rfl,rfl,ho,ints_of_wellAll ns _ hall,hlen⟩
theorem post_true (l:OpenLaw) (args:List WData):l.row.toRowW.claim.post args (.bool true) args=true:=
 postW_of (r:=l.row.toRowW) (X:=(true == true))
  (show WShape.has [] (.bool true) .bool=true by first | rfl | decide | simp [WShape.has,WShape.arms,WShape.armsAll])
  (show (WTm.eq .res (.lit (.bool true))).value [] { args:=args,res:=some (.bool true),after:=args }=some (.bool (true == true)) from w_eq_bool (w_res rfl) w_lit) rfl
theorem attach_call {l:OpenLaw} {n:Nat} {q:Program} {loose:List Str} {XP:(Str→Option Value)→Heap→Prop} {YP:World→Heap→Prop} {d:DefRec}
  (hn:l.most=some n) (hdf:d.params.defaults=[])
  (call:∀ (w:World) (s₀ s₁:Shared) (mg mb:Str→Option Value) (fa:Addr) (o:Obj) (pm cd doc:Value) (a:Addr) (vs:List Value) (ns:List Int),
   Ground q loose [] XP w s₀ mg mb s₁.heap→YP w s₁.heap→
   s₁.heap.get? fa=some o→o.data=.func (docDef d.name d.params d.body d.scope pm cd doc)→s₁.heap.CodeRec cd d.name→mg d.name=some (.ref fa)→
   s₁.heap.get? a=some { cls:=.type "list",data:=.seq vs.toArray }→IntsAre vs ns→ns.length≤n→s₁.gens=#[]→
   codeAny (model l.prog w) callerA (.call (.ref fa) ⟨[.ref a],[]⟩) (fun r s'=>r=.ok (.ret (.bool true))∧OldK s₁.heap s'.heap∧s'.os=s₁.os∧AllBare s'.gens) s₁) :
  WalkO q loose XP YP l.row.toRowW d [] (fun f vs=>PySem.call f vs):=by
 intro w s₀ s₁ mg mb G Y fa o pm cd doc dV kV ho hd hcd hD hmg hg args vals as hpre hlay hrd hwl hlo
 obtain rfl:dV=.none:=Dflts.none hD hdf
 obtain rfl:kV=.none:=Dflts.noKw hD
 obtain ⟨a,vs,ns,rfl,rfl,hobj,hints,hlen⟩:=script_of hn hpre hwl
 refine enter_call (codeAny_mono (call w s₀ s₁ mg mb fa o pm cd doc a vs ns G Y ho (fd_plain hd) hcd hmg hobj hints hlen hg) fun r s' hq=>?_)
 obtain ⟨rfl,h2,h3,h4⟩:=hq
 exact ⟨.inl ⟨.bool true,.bool true,[],rfl,fun _=>rfl,.bool true,post_true l _,fun _=>⟨List.Pairwise.nil,fun _ hm=>(nomatch hm)⟩⟩,h2,h3,h4⟩
section
variable {prog:Program} {w:World} {A:Around} {E:Value→Shared→Prop} {s:Shared} {K:Frag}
end
end Att
namespace L2
open PySem PySem.Spec PyProof.Rows
theorem vals_ints:∀ {vs:List Value} {ns:List Int},IntsAre vs ns→Vals (ns.map V.int) vs
 | _,_,.nil=>.nil
 | _,_,.cons n t h=>.cons ⟨t,rfl⟩ (vals_ints h)
def Only (H:Hp):Prop:=∀ b,H b=none∨∃ o xs,H b=some (.frz o (.lst xs))
theorem law_call {P:Program} {w:World} {K:PySem.W.Frag} {mg mb:Str→Option Value} {CX:CXT} {k:Nat} {fa a:Addr} {fd:FuncData} {x:Str} {sp:Sp} {s₁:Shared} {vs:List Value} {ns:List Int}
  (KX:K.In s₁.heap) (hns:s₁.heap.Ns mainGlobals mg) (hb:s₁.heap.Ns builtinsNs mb) (hbb:∀ x:Str,x≠"__name__"→mb x=bootBuiltins x) (hlim:s₁.heap.NoLimit) (hg:s₁.gens=#[])
  (ha:s₁.heap.get? a=some { cls:=.type "list",data:=.seq vs.toArray }) (hi:IntsAre vs ns) (hl:ns.length≤sizeLine) (hr:Room k callerA)
  (F:∀ base:Heap,K.In base→base.Ns mainGlobals mg→FnOk P w K mg base CX k fa fd [x] sp) (hbind:∀ (s:Shared) (u:Value),BindsTo s fd ⟨[u],[]⟩ [(x,u)])
  (hsp:∀ H:Hp,Only H→SqL K H a (ns.map V.int)→sp [.ref a] H (fun v _=>v=.bl true) fun _ _ _=>False)
  (hCX:∀ H e s',CX [] H s₁ (fun _ _ _=>False) e s'→False) :
  codeAny (model P w) callerA (.call (.ref fa) ⟨[.ref a],[]⟩) (fun r s'=>r=.ok (.ret (.bool true))∧OldK s₁.heap s'.heap∧s'.os=s₁.os∧AllBare s'.gens) s₁:=by
 have rv:=vals_ints hi
 have lenV:=hi.length
 have core:∀ H:Hp,Only H→SqL K H a (ns.map V.int)→HOk P w H s₁.heap→(∀ b,H b≠none→b=a)→(H a≠none→K.lookup a=none)→
   codeAny (model P w) callerA (.call (.ref fa) ⟨[.ref a],[]⟩) (fun r s'=>r=.ok (.ret (.bool true))∧OldK s₁.heap s'.heap∧s'.os=s₁.os∧AllBare s'.gens) s₁:=by
  intro H hO hS hok hA hK
  have base_of:∀ {b:Addr} {o:Obj},s₁.heap.get? b=some o→H b=none→(hidT s₁.heap H).get? b=some o:=fun e n=>hidT_get e n
  have noA:∀ {b:Addr} {o:Obj} {es:Array DictEntry} {ep:Nat},s₁.heap.get? b=some o→o.data=.dict es ep→H b=none:=fun {b o es ep} e d=>by
   cases q:H b with
   | none=>rfl
   | some u=>
    have e':b=a:=hA b (by rw [q];simp)
    subst e'
    rw [ha] at e;cases e
    have d':Data.seq vs.toArray _=Data.dict es ep:=d
    cases d'
  have nsK:∀ {b:Addr} {m:Str→Option Value},s₁.heap.Ns b m→(hidT s₁.heap H).Ns b m:=fun {b m} ⟨o,es,ep,e,d,r⟩=>⟨o,es,ep,base_of e (noA e d),d,r⟩
  have hKb:K.In (hidT s₁.heap H):=fun b o e=>base_of (KX b o e) (by
   cases q:H b with
   | none=>rfl
   | some u=>
    have e':b=a:=hA b (by rw [q];simp)
    subst e'
    rw [hK (by rw [q];simp)] at e;cases e)
  have hM:Mod K mg (hidT s₁.heap H):=⟨hKb,nsK hns,⟨mb,nsK hb,hbb⟩,let ⟨mc,h1,h2⟩:=hlim;⟨mc,nsK h1,h2⟩⟩
  have e0:Env0 P w K mg (hidT s₁.heap H) callerA [] s₁ H:=⟨rfl,hM,fun b o e=>of_hidT e,Nat.le_of_eq (hidT_size _ _),trivial,fun b hb=>absurd (show b∈([]:List Addr) from hb) (by simp),hok,.of_eq hg⟩
  refine codeAny_mono ((F _ hKb (nsK hns)).run callerA [] s₁ H ⟨[.ref a],[]⟩ [.ref a] [.ref a] _ _ hr e0 (hbind s₁ (.ref a)) (.cons rfl .nil) (hsp H hO hS)) fun r s' h=>?_
  cases r with
  | error e=>exact (hCX H e s' h).elim
  | ok fl=>
   cases fl with
   | next=>exact False.elim h
   | brk=>exact False.elim h
   | cont=>exact False.elim h
   | ret u=>
    obtain ⟨v,H',os,bare,un,hok',r',q⟩:=h
    have q':v=.bl true:=q
    subst q'
    obtain rfl:u=Value.bool true:=r'
    refine ⟨rfl,OldK.of_keep fun b o e=>?_,os,bare⟩
    cases q:H b with
    | none=>exact un.keep b o e q (by intro z;exact absurd (show b∈([]:List Addr) from z) (by simp)) (by simp)
    | some u=>
     rcases hO b with z | ⟨ob,xs,z⟩
     ·rw [q] at z;cases z
     ·have z2:=un.frzs b ob _ z
      obtain ⟨e1,_⟩:=hok b _ z
      obtain ⟨e2,_⟩:=hok' b _ z2
      rw [e] at e1;cases e1
      exact e2
 cases hk:K.lookup a with
 | some o=>
  have e:=KX a o hk
  rw [ha] at e
  cases e
  refine core (fun _=>none) (fun _=>.inl rfl) (.inr ⟨_,vs.toArray,_,hk,rfl,rfl,rfl,by rw [List.size_toArray,lenV];exact hl,by simpa using rv⟩) (fun b u z=>by have z':(none:Option HO)=some u:=z;cases z') (fun b z=>absurd rfl z) fun z=>absurd rfl z
 | none=>
  refine core (fun b=>if b=a then some (.frz { cls:=.type "list",data:=.seq vs.toArray } (.lst (ns.map V.int))) else none) (fun b=>?_) (.inl (.inr ⟨{ cls:=.type "list",data:=.seq vs.toArray },if_pos rfl⟩)) (fun b u z=>?_) (fun b z=>?_) fun _=>hk
  ·by_cases hb:b=a
   ·exact .inr ⟨_,_,if_pos hb⟩
   ·exact .inl (if_neg hb)
  ·by_cases hb:b=a
   ·have z':=(if_pos hb).symm.trans z
    cases z'
    subst hb
    exact ⟨ha,by rw [List.length_map];exact hl,vs,_,rv,ha⟩
   ·have z':=(if_neg hb).symm.trans z
    cases z'
  ·by_cases hb:b=a
   ·exact hb
   ·exact absurd (if_neg hb) z
end L2
namespace L2
open PySem PySem.Spec PyProof.Rows
abbrev KOf {K:PySem.W.Frag} {h:Heap} (_:K.In h):PySem.W.Frag:=K
theorem walk_of {l:PySem.W.OpenLaw} {n k:Nat} {q:Program} {loose:List Str} {XP:(Str→Option Value)→Heap→Prop} {YP:World→Heap→Prop} {d:DefRec} {K:Params→PySem.W.Frag} {CX:World→CXT} {sp:World→Sp} {x:Str}
  (hn:l.most=some n) (hn2:n≤sizeLine) (hdf:d.params.defaults=[]) (hr:Room k callerA)
  (hY:∀ (w:World) (h:Heap),YP w h→(K w.params).In h)
  (F:∀ (w:World) (mg:Str→Option Value) (fa:Addr) (h:Heap),(K w.params).In h→h.Ns mainGlobals mg→mg d.name=some (.ref fa)→
   ∃ fd:FuncData,(∀ (s:Shared) (u:Value),BindsTo s fd ⟨[u],[]⟩ [(x,u)])∧
    ∀ base:Heap,(K w.params).In base→base.Ns mainGlobals mg→FnOk l.prog w (K w.params) mg base (CX w) k fa fd [x] (sp w))
  (hsp:∀ (w:World) (H:Hp) (a:Addr) (ns:List Int),ns.length≤n→Only H→SqL (K w.params) H a (ns.map V.int)→sp w [.ref a] H (fun v _=>v=.bl true) fun _ _ _=>False)
  (hCX:∀ (w:World) (H:Hp) (s:Shared) (e:Value) (s':Shared),CX w [] H s (fun _ _ _=>False) e s'→False) :
  PySem.W.WalkO q loose XP YP l.row.toRowW d [] (fun f vs=>PySem.call f vs):=by
 refine Att.attach_call hn hdf fun w s₀ s₁ mg mb fa o pm cd doc a vs ns G Y ho hd hcd hmg hobj hints hlen hg=>?_
 have KX:=hY w _ Y
 obtain ⟨fd,hb,hF⟩:=F w mg fa _ KX G.T.g hmg
 exact law_call KX G.T.g G.T.b G.T.builtins G.T.nolimit hg hobj hints (Nat.le_trans hlen hn2) hr hF hb (fun H hO hS=>hsp w H a ns hlen hO hS) fun H e s'=>hCX w H s₁ e s'
end L2
namespace L2
open PySem PySem.Spec PyProof.Rows
def inClass (s:Stmt) (j:Nat):Stmt:=match s with
 | .ClassDef _ _ _ body _ _ _ _ _ _ _=>body.getD j (.Pass ⟨0,0,0,0⟩)
 | _=>.Pass ⟨0,0,0,0⟩
def defArgs (s:Stmt):Arguments:=match s with
 | .FunctionDef _ a _ _ _ _ _ _ _ _=>a
 | _=>{ posonlyargs:=[],args:=[],vararg:=none,kwonlyargs:=[],kw_defaults:=[],kwarg:=none,defaults:=[] }
def defBody (s:Stmt):List Stmt:=match s with
 | .FunctionDef _ _ b _ _ _ _ _ _ _=>b
 | _=>[]
def defScope (s:Stmt):Scope:=match s with
 | .FunctionDef _ _ _ _ _ _ sc _ _ _=>sc
 | _=>{ kind:=.function,names:=[],isGenerator:=false,isCoroutine:=false }
abbrev CX0:CXT:=fun _ _ _ _ _ _=>False
abbrev E0:XK:=fun _ _ _=>False
theorem pass0 {X:Cx}:Passes CX0 X E0:=fun _ _ _ _ _ _ _ h=>h.elim
structure Fun (K:PySem.W.Frag) (x qual:Str) (st:Stmt) (f:Addr) (fd:FuncData):Prop where
 ex:∃ (oc:Value) (od:Option Addr) (kV doc pm:Value) (an:Option Addr) (cdv ct:Value) (osl:Array (Option Value)),
  fd=PySem.W.fnOf x qual (defArgs st) (defBody st) (defScope st) .none kV doc pm an cdv ct∧K.lookup f=some ⟨oc,od,.func fd,osl⟩∧PySem.W.codeIn K cdv qual=true
 kp:PySem.W.keepIn K (.ref f)=true
section
variable {P:Program} {w:World} {K:PySem.W.Frag} {mg:Str→Option Value} {base:Heap}
theorem Fun.ok {x qual:Str} {st:Stmt} {f:Addr} {fd:FuncData} {N ps:List Str} {k:Nat} {sp:Sp} (F:Fun K x qual st f fd) (S:FnScope N ps (defScope st)) (len:∀ vs H Q E,sp vs H Q E→vs.length=ps.length)
  (hbody:∀ (cdv:Value) (A:Around) (outer:List Env) (s:Shared) (H:Hp) (vs:List V) (Q:VK) (E:XK),Room k (A.deeper (envOfC qual (defScope st) s.heap.objs.size f cdv))→sp vs H Q E→
   ∃ t,PSs (cxOf CX0 P w K mg base N qual (defScope st) f cdv A outer s H E).nox (defBody st) t∧t { nx:=fun _ H'=>Q .non H',rt:=Q } (start N vs) H):FnOk P w K mg base CX0 (k + 1) f fd ps sp:=by
 obtain ⟨oc,od,kV,doc,pm,an,cdv,ct,osl,rfl,lk,hcd⟩:=F.ex
 refine fn_of lk hcd S len fun A outer s H vs Q E hr hsp=>?_
 obtain ⟨t,h,q⟩:=hbody cdv A outer s H vs Q E hr hsp
 exact ⟨t,h.nox,q⟩
theorem Fun.binds {x qual:Str} {st:Stmt} {f:Addr} {fd:FuncData} {ps:List Str} (F:Fun K x qual st f fd)
  (h:∀ (kV doc pm:Value) (an:Option Addr) (cdv ct:Value) (us:List Value),us.length=ps.length→bindArgs (PySem.W.fnOf x qual (defArgs st) (defBody st) (defScope st) .none kV doc pm an cdv ct) ⟨us,[]⟩=pure (ps.zip us)):Binds K fd ps []:=by
 obtain ⟨oc,od,kV,doc,pm,an,cdv,ct,osl,rfl,lk,hcd⟩:=F.ex
 exact .all (h kV doc pm an cdv ct)
theorem fun_mk {x qual:Str} {st:Stmt} {f:Addr} {oc:Value} {od an:Option Addr} {osl:Array (Option Value)} {kV doc pm cdv ct:Value} (l:K.lookup f=some ⟨oc,od,.func (PySem.W.fnOf x qual (defArgs st) (defBody st) (defScope st) .none kV doc pm an cdv ct),osl⟩)
  (c:PySem.W.codeIn K cdv qual=true) (k:PySem.W.keepIn K (.ref f)=true):Fun K x qual st f (PySem.W.fnOf x qual (defArgs st) (defBody st) (defScope st) .none kV doc pm an cdv ct):=⟨⟨oc,od,kV,doc,pm,an,cdv,ct,osl,rfl,l,c⟩,k⟩
end
theorem hu_of {A:Around} {k:Nat} (hr:Room k A):A.units + 1 < cLine:=Nat.lt_of_le_of_lt (Nat.add_le_add_left (by decide:1≤64) _) hr.units
theorem small1000 {n:Nat} (h:n≤1000):n < sizeLine:=Nat.lt_of_le_of_lt h (by decide)
section
variable {X:Cx}
theorem pv (i:Nat) {x:Str} {pos:Pos} (hN:X.N[i]?=some x:=by rfl) (hv:Vis X.env.scope x:=by first | exact Or.inl rfl | exact Or.inr (Or.inl rfl) | exact Or.inr (Or.inr rfl)) (hd:(x == ("__debug__":Str))=false:=by decide)
  (hcd:(x == ("__classdict__":Str))=false:=by decide):PE X (.Name x pos) (tVar i):=pe_var hN hv hd hcd
end
theorem iteF {A B:Prop} (h:B):if false=true then A else B:=by
 rw [if_neg Bool.false_ne_true]
 exact h
theorem iteT {A B:Prop} (h:A):if true=true then A else B:=by
 rw [if_pos rfl]
 exact h
theorem ite2 {c A B:Prop} [Decidable c] (h1:c→A) (h2:¬c→B):if c then A else B:=by
 by_cases h:c
 ·rw [if_pos h]
  exact h1 h
 ·rw [if_neg h]
  exact h2 h
theorem iteNS {c A B:Prop} [Decidable c] (hc:c) (h:B):if (!decide c)=true then A else B:=by
 rw [decide_eq_true hc]
 exact iteF h
def Same (H H':Hp):Prop:=∀ b o,H b=some o→H' b=some o
theorem Same.refl (H:Hp):Same H H:=fun _ _ h=>h
theorem Same.trans {H H1 H2:Hp} (a:Same H H1) (b:Same H1 H2):Same H H2:=fun c o h=>b c o (a c o h)
theorem Same.free {H H':Hp} (e:Same H H') {l:Addr} (h:H' l=Option.none):H l=Option.none:=by
 cases q:H l with
 | none=>rfl
 | some o=>
  rw [e l o q] at h
  cases h
theorem Same.seq {K:PySem.W.Frag} {H H':Hp} {a:Addr} {xs:List V} (e:Same H H') (h:SqL K H a xs):SqL K H' a xs:=by
 rcases h with (h | ⟨o,h⟩) | h
 ·exact .inl (.inl (e _ _ h))
 ·exact .inl (.inr ⟨o,e _ _ h⟩)
 ·exact .inr h
end L2
namespace L2
open PySem PySem.Spec PyProof.Rows
section
variable {X:Cx}
end
section
variable {κ:Type} [DecidableEq κ]
theorem nd_snoc:∀ {l:List κ} {k:κ},l.Nodup→¬k∈l→(l ++ [k]).Nodup
 | [],k,_,_=>by simp
 | a :: r,k,h,hk=>by
  obtain ⟨h1,h2⟩:=List.nodup_cons.mp h
  show (a :: (r ++ [k])).Nodup
  refine List.nodup_cons.mpr ⟨fun m=>?_,nd_snoc h2 fun m=>hk (List.mem_cons.mpr (Or.inr m))⟩
  rcases List.mem_append.mp m with q | q
  ·exact h1 q
  ·exact hk (List.mem_cons.mpr (Or.inl (List.mem_singleton.mp q).symm))
end
end L2
end
section
set_option Elab.async false
set_option linter.all false
set_option maxRecDepth 100000
namespace L2
open PySem PySem.Spec PyProof.Rows
def blk (X:Cx) (scope:Scope) (cl:List (Str × Addr)) (C:Addr) (x:Str) (s₀:Shared) (H₀:Hp) (fp:List Addr):Cx:=
 { X with N:=x :: X.N,s₀:=s₀,H₀:=H₀,env:=compEnvC scope cl C X.env,outer:=X.stack,ex:=fp,fn:=fun _=>false,pn:=[],xe:=fun _ _=>False }
structure CompOk (X:Cx) (scope:Scope) (x:Str):Prop where
 kind:scope.kind=.function
 ncell:∀ y∈scope.names,y.2≠.cell
 names:∀ y∈scope.names,y.2=.local→scope.names.lookup y.1=some .local
 hx:scope.names.lookup x=some .local
 free:∀ y∈scope.names,y.2=.free→X.env.kindOf y.1=some .cell∨X.env.kindOf y.1=some .free
 out:∀ y∈X.N,scope.names.lookup y≠some .local
 nd:X.N.Nodup
def compChk (sc:Scope) (N:List Str) (scope:Scope) (x:Str):Bool:=
 scope.kind == .function && scope.names.all (fun y=>y.2 != .cell) && scope.names.all (fun y=>y.2 != .local || scope.names.lookup y.1 == some .local) && scope.names.lookup x == some .local &&
 scope.names.all (fun y=>y.2 != .free || sc.names.lookup y.1 == some .cell || sc.names.lookup y.1 == some .free) && N.all (fun y=>scope.names.lookup y != some .local)
theorem CompOk.of {X:Cx} {scope:Scope} {x:Str} (hN:X.N.Nodup) (h:compChk X.env.scope X.N scope x=true):CompOk X scope x:=by
 unfold compChk at h
 simp only [Bool.and_eq_true,List.all_eq_true,Bool.or_eq_true,bne_iff_ne,beq_iff_eq,ne_eq] at h
 obtain ⟨⟨⟨⟨⟨h1,h2⟩,h3⟩,h4⟩,h5⟩,h6⟩:=h
 refine ⟨h1,fun y hy=>h2 y hy,fun y hy e=>(h3 y hy).resolve_left fun z=>z e,h4,fun y hy e=>?_,fun y hy=>h6 y hy,hN⟩
 rcases h5 y hy with (z | z) | z
 ·exact absurd e z
 ·exact .inl z
 ·exact .inr z
theorem lookup_mem' {α:Type}:∀ {l:List (Str × α)} {x:Str} {a:α},l.lookup x=some a→(x,a)∈l
 | [],_,_,h=>by simp at h
 | (y,b) :: r,x,a,h=>by
  rw [List.lookup_cons] at h
  split at h
  ·rename_i e
   have e':x=y:=by simpa using e
   cases h;subst e'
   exact List.mem_cons_self
  ·exact List.mem_cons_of_mem _ (lookup_mem' h)
theorem closure_ok {env:Env}:∀ (names:List (Str × NameKind)),(∀ y∈names,y.2=.free→∃ c,env.cells.lookup y.1=some c)→∀ acc:List (Str × Addr),(∀ n c,acc.lookup n=some c→env.cells.lookup n=some c)→
  ∃ cl,(forIn names acc (fun (p:Str × NameKind) (cs:List (Str × Addr))=>if (p.2 == NameKind.free)=true then (do let a ← cellOf env p.1;pure (ForInStep.yield ((p.1,a) :: cs))) else (pure (ForInStep.yield cs):Sem _)):Sem (List (Str × Addr)))=pure cl∧
   (∀ n c,cl.lookup n=some c→env.cells.lookup n=some c)∧(∀ n,(∃ c,acc.lookup n=some c)→∃ c,cl.lookup n=some c)∧∀ n,(n,NameKind.free)∈names→∃ c,cl.lookup n=some c
 | [],_,acc,ha=>⟨acc,by simp,ha,fun _ h=>h,fun _ h=>by simp at h⟩
 | (n,k) :: r,hf,acc,ha=>by
  have hr:∀ y∈r,y.2=.free→∃ c,env.cells.lookup y.1=some c:=fun y hy=>hf y (List.mem_cons_of_mem _ hy)
  by_cases hk:k=.free
  ·subst hk
   obtain ⟨c,hc⟩:=hf (n,.free) List.mem_cons_self rfl
   obtain ⟨cl,e,h1,h2,h3⟩:=closure_ok r hr ((n,c) :: acc) (fun n' c' h=>by
    rw [List.lookup_cons] at h
    split at h
    ·rename_i q
     have q':n'=n:=by simpa using q
     cases h;subst q';exact hc
    ·exact ha n' c' h)
   refine ⟨cl,?_,h1,fun n' h=>h2 n' ?_,fun n' h=>?_⟩
   ·rw [List.forIn_cons]
    simp only [beq_self_eq_true,if_true]
    have e2:cellOf env n=pure c:=by unfold cellOf;rw [hc]
    rw [e2]
    simp only [pure_bind]
    exact e
   ·obtain ⟨c',hc'⟩:=h
    rw [List.lookup_cons]
    split
    ·exact ⟨c,rfl⟩
    ·exact ⟨c',hc'⟩
   ·rcases List.mem_cons.mp h with q | q
    ·refine h2 n' ⟨c,?_⟩
     cases q
     rw [List.lookup_cons,beq_self_eq_true]
    ·exact h3 n' q
  ·have hb:(k == NameKind.free)=false:=by simpa using hk
   obtain ⟨cl,e,h1,h2,h3⟩:=closure_ok r hr acc ha
   refine ⟨cl,?_,h1,h2,fun n' h=>?_⟩
   ·rw [List.forIn_cons]
    simp only [hb,Bool.false_eq_true,if_false,pure_bind]
    exact e
   ·rcases List.mem_cons.mp h with q | q
    ·cases q;exact absurd rfl hk
    ·exact h3 n' q
theorem lookup_relabel {env:Env}:∀ {names:List (Str × NameKind)} {x:Str} {k:NameKind},
  (names.map fun (n,k)=>if (k == NameKind.free && env.scope.kind == .function && env.kindOf n == some .cell) then (n,NameKind.cell) else (n,k)).lookup x=some k→names.lookup x=some k∨(k=.cell∧names.lookup x=some .free)
 | [],_,_,h=>by simp at h
 | (n,j) :: r,x,k,h=>by
  have ih:=@lookup_relabel env r x k
  have h':List.lookup x ((if (j == NameKind.free && env.scope.kind == .function && env.kindOf n == some .cell)=true then (n,NameKind.cell) else (n,j)) :: _)=some k:=h
  by_cases hc:(j == NameKind.free && env.scope.kind == .function && env.kindOf n == some .cell)=true
  ·rw [if_pos hc] at h'
   cases hx:x == n with
   | true=>
    simp only [List.lookup_cons,hx] at h' ⊢
    cases h'
    have:j=.free:=by simp at hc;exact hc.1.1
    exact .inr ⟨rfl,by rw [this]⟩
   | false=>simp only [List.lookup_cons,hx] at h' ⊢;exact ih h'
  ·rw [if_neg hc] at h'
   cases hx:x == n with
   | true=>simp only [List.lookup_cons,hx] at h' ⊢;exact .inl h'
   | false=>simp only [List.lookup_cons,hx] at h' ⊢;exact ih h'
theorem compLoop_T {prog:Program} {w:World} {A:Around} {R:Result→Shared→Prop} {s:Shared} {elt target iter:Expr} {ifs:List Expr} {scope:Scope} {pos:Pos} {it acc:Value} {env:Env} (I:Nat→Shared→Prop)
  (turn:∀ n s,I n s→wpAny (model prog w) A (pyNext it) (fun r s₁=>match r with
   | none=>R (.ok .next) s₁
   | some v=>wpAny (model prog w) A (letOwnedTupleGo target it v) (fun _ s₀=>wpAny (model prog w) A (assign target env v) (fun _ s₂=>
     wpAny (model prog w) A (forIn ifs true fun c r=>if r=true then do let ok ← isTrue c env (eval c env);pure (ForInStep.yield ok) else pure (ForInStep.yield r)) (fun ok s₃=>
      if ok=true then wpAny (model prog w) A (eval elt env) (fun x s₄=>
       wpAny (model prog w) A (call (.builtin "list.append") [acc,x]) (fun _ s₅=>∃ m,m < n∧I m s₅) (fun _ _=>False) s₄) (fun _ _=>False) s₃
      else ∃ m,m < n∧I m s₃) (fun _ _=>False) s₂) (fun _ _=>False) s₀) (fun _ _=>False) s₁) (fun _ _=>False) s)
  (n:Nat) (h:I n s) :
  codeAny (model prog w) A (.compLoop (.ListComp elt [⟨target,iter,ifs,0⟩] scope pos) 0 it acc env) R s:=by
 refine codeAny_loop rfl I (fun n s hI=>?_) n h
 show wpAny _ A ((compTurn (.ListComp elt [⟨target,iter,ifs,0⟩] scope pos) 0 it acc env).onRaise (fun x=>do noteFrame x env;theTreesLotGoes x)) _ _ s
 refine wpAny_noted ?_
 rw [compTurn_list]
 refine wpAny_bind (wpAny_standAt (wpAny_bind (wpAny_mono (turn n s hI) (fun r s₁ h₁=>?_) fun _ _ h'=>h'.elim)))
 cases r with
 | none=>exact wpAny_pure h₁
 | some v=>
  refine wpAny_bind (wpAny_mono h₁ (fun _ s₀ h₀=>?_) fun _ _ h'=>h'.elim)
  refine wpAny_bind (wpAny_mono h₀ (fun _ s₂ h₂=>wpAny_bind (wpAny_mono h₂ (fun ok s₃ h₃=>?_) fun _ _ h'=>h'.elim)) fun _ _ h'=>h'.elim)
  cases ok with
  | false=>exact wpAny_pure ⟨rfl,h₃⟩
  | true=>
   exact wpAny_bind (wpAny_bind (wpAny_mono h₃ (fun x s₄ h₄=>wpAny_bind (wpAny_mono h₄ (fun _ s₅ h₅=>wpAny_pure (wpAny_pure ⟨rfl,h₅⟩)) fun _ _ h'=>h'.elim)) fun _ _ h'=>h'.elim))
def PTs (X:Cx) (ifs:List Expr) (t:TT):Prop:=
 ∀ (pins:List (Addr × Obj)) (s:Shared) (σ:St) (H:Hp) (Q:Bool→Hp→Prop),Inv X pins σ H s→t σ H Q→
  wpAny (model X.prog X.w) X.A (forIn ifs true fun c r=>if r=true then do let ok ← isTrue c X.env (eval c X.env);pure (ForInStep.yield ok) else pure (ForInStep.yield r)) (TP X pins σ Q) X.xe s
def tYes:TT:=fun _ H Q=>Q true H
theorem pts_nil {X:Cx}:PTs X [] tYes:=fun _ _ _ H _ I h=>wpAny_tests_nil ⟨H,I,h⟩
theorem pts_one {X:Cx} {c:Expr} {t:TT} (h:PT X c t):PTs X [c] t:=fun pins s σ H Q I q=>wpAny_tests_one (h pins s σ H Q I q)
def tComp (wi:TI) (tt:TT) (te:TE):TE:=fun σ H Q=>wi σ H fun J H1=>∀ D,H1 D=none→∃ W:Nat→Nat→List V→Hp→Prop,(∃ m,W 0 m [] (upd H1 D (.lst [])))∧
 ∀ i m ys H,W i m ys H→(J.stop i H∧Q (.ref D) H)∨(J.go i H∧∀ x H',J.yld i H x H'→tt (some x :: σ) H' fun b H2=>
  if b=true then te (some x :: σ) H2 fun y H3=>H3 D=some (.lst ys)∧ys.length < sizeLine∧∃ m',m' < m∧W (i + 1) m' (ys ++ [y]) (upd H3 D (.lst (ys ++ [y])))
  else ∃ m',m' < m∧W (i + 1) m' ys H2)
theorem pe_comp {X:Cx} {elt iter:Expr} {x:Str} {px:Pos} {ifs:List Expr} {scope:Scope} {pos:Pos} {wi:TI} {tt:TT} {te:TE} (hc:X.calm=true) (ok:CompOk X scope x) (hi:PI X (.Name x px) iter wi)
  (ht:∀ cl C s₀ H₀ fp,PTs (blk X scope cl C x s₀ H₀ fp) ifs tt) (he:∀ cl C s₀ H₀ fp,PE (blk X scope cl C x s₀ H₀ fp) elt te)
  (hs:∀ x,foldedSetIterable iter X.env x=pure x:=by intro _;rfl):PE X (.ListComp elt [⟨.Name x px,iter,ifs,0⟩] scope pos) (tComp wi tt te):=by
 intro pins s σ H Q I h
 obtain ⟨cl,hcl,hsub,_,hall⟩:=closure_ok (env:=X.env) scope.names (fun y hy e=>I.ok.has y.1 (ok.free y hy e)) [] (fun _ _ z=>by simp at z)
 have hclos:closureFor scope X.env=pure cl:=by
  unfold closureFor
  simp only [bind_pure]
  exact hcl
 rw [eval_ListComp]
 refine wpAny_comprehension_free (use:=none) (E:=X.xe) (cl:=cl) rfl hs hclos ok.kind ok.names (thn (hi pins s σ H _ I h) fun v s1 h1=>thn h1 fun itv s2 h2=>?_)
 obtain ⟨it,fp,tn,J,H2,e,I2,T,st2,f2,R⟩:=h2
 subst e
 obtain ⟨W,⟨m0,w0⟩,turn⟩:=R s2.heap.objs.size I2.fresh
 refine wpAny_newObj_type (wpAny_newFunctionEnv ok.ncell (by intro y hy;simp at hy) (fun h₁ hns₁ hsb₁=>?_) ok.kind)
 dsimp only at hns₁ hsb₁ ⊢
 have I3:Inv X pins σ (upd H2 s2.heap.objs.size (.lst [])) { s2 with heap:=s2.heap.push { cls:=.type "list",data:=.seq ([]:List Value).toArray } }:=I2.lnew (t':=s2.toks) (ys:=[]) (its:=[]) .nil (Nat.zero_le _)
 generalize hH3:upd H2 s2.heap.objs.size (HO.lst [])=H3 at *
 generalize hs3:s2.heap.push { cls:=.type "list",data:=.seq ([]:List Value).toArray }=hp3 at *
 generalize hD:s2.heap.objs.size=D at *
 generalize hC:hp3.objs.size=C at *
 have hDC:D < C:=by rw [← hC,← hs3,Heap.size_push,hD];exact Nat.lt_succ_self _
 have old:∀ b o,hp3.get? b=some o→h₁.get? b=some o:=fun b o e=>(hsb₁.2 b (by rw [← hC];exact Nat.ne_of_lt (Heap.lt_size e))).trans (Heap.get?_push_of_some _ e)
 have fpl:∀ b∈fp,b < C:=fun b hb=>by
  obtain ⟨o,e,_⟩:=T.obj _ _ st2 b hb
  rw [← hC,← hs3,Heap.size_push]
  exact Nat.lt_succ_of_lt (Heap.lt_size e)
 have f3:∀ b∈fp,FpOk X pins H3 b:=fun b hb=>by
  obtain ⟨o,e,_⟩:=T.obj _ _ st2 b hb
  refine ⟨?_,(f2 b hb).2⟩
  rw [← hH3,upd_ne (by rw [← hD];exact Nat.ne_of_lt (Heap.lt_size e))]
  exact (f2 b hb).1
 have nstk:∀ b∈fp,b∉frs X.stack:=fun b hb z=>by
  obtain ⟨_,g1,g2,_⟩:=f3 b hb
  rcases List.mem_cons.mp (I3.stkSub b z) with q | q
  ·exact g1 q
  ·exact g2 q
 have YOk:(blk X scope cl C x { s2 with heap:=hp3 } H3 fp).Ok:=by
  refine ⟨I.ok.mod,?_,I.ok.glob,I.ok.blt,Nat.le_of_eq hC,?_,?_,?_,I.ok.hd,I.ok.frames,.inl rfl,?_,?_,?_,?_,?_,?_,?_⟩
  ·exact ok.kind
  ·exact fun a b c h1 h2=>I.ok.inj a b c (hsub a c h1) (hsub b c h2)
  ·intro a ha
   refine hall a ?_
   rcases ha with z | z
   ·rcases lookup_relabel (env:=X.env) z with q | ⟨_,q⟩
    ·exact absurd rfl (ok.ncell _ (lookup_mem' q))
    ·exact lookup_mem' q
   ·rcases lookup_relabel (env:=X.env) z with q | ⟨q,_⟩
    ·exact lookup_mem' q
    ·cases q
  ·intro a c hf;cases hf
  ·intro b hb
   refine ⟨Nat.ne_of_lt (fpl b hb),fun a c h1=>(f3 b hb).2.2.2.2.1 a c (hsub a c h1)⟩
  ·exact I3.bs
  ·exact Nat.le_trans I.ok.bsz I3.sz
  ·intro b o e hb
   rcases (f3 b hb).2.2.2.1 with z | z
   ·exact I.ok.noex b o e z
   ·exact absurd (Nat.lt_of_lt_of_le (Heap.lt_size e) (Nat.le_trans I.ok.bsz z)) (Nat.lt_irrefl _)
  ·exact nstk
  ·exact I3.stack
  ·exact I3.stkFree
 have Y0:Inv (blk X scope cl C x { s2 with heap:=hp3 } H3 fp) [] (none :: σ) H3 { s2 with heap:=h₁,toks:=s2.toks + ([]:List (Str × Value)).length }:=by
  refine ⟨YOk,rfl,I3.bare,Un.kept old,⟨_,hns₁,?_⟩,?_,?_,?_,fun p hp=>by simp [blk] at hp,I3.hok.kept old,?_⟩
  ·intro i y v e1 e2 e3
   cases i with
   | zero=>simp at e2
   | succ i=>
    have e1':X.N[i]?=some y:=by simpa [blk] using e1
    have e2':σ[i]?=some (some v):=by simpa using e2
    have hy:y∈X.N:=List.mem_of_getElem? e1'
    have hfree:(y,NameKind.free)∈scope.names:=by
     have key:∀ k,(relabel scope X.env).names.lookup y=some k→k≠.local→k=.cell∨k=.free→(y,NameKind.free)∈scope.names:=fun k q n hk=>by
      rcases lookup_relabel (env:=X.env) q with z | ⟨_,z⟩
      ·rcases hk with rfl | rfl
       ·exact absurd rfl (ok.ncell _ (lookup_mem' z))
       ·exact lookup_mem' z
      ·exact lookup_mem' z
     rcases e3 with z | z | z
     ·rcases lookup_relabel (env:=X.env) z with q | ⟨q,_⟩
      ·exact absurd q (ok.out y hy)
      ·cases q
     ·exact key _ z (by decide) (.inl rfl)
     ·exact key _ z (by decide) (.inr rfl)
    have hk:=ok.free _ hfree rfl
    obtain ⟨m,hn,hl⟩:=I3.loc
    obtain ⟨u,r,q⟩:=hl i y v e1' e2' (by rcases hk with z | z;exact .inr (.inl z);exact .inr (.inr z))
    refine ⟨u,r,.inr ⟨?_,?_⟩⟩
    ·rcases e3 with z | z | z
     ·rcases lookup_relabel (env:=X.env) z with q | ⟨q,_⟩
      ·exact absurd q (ok.out y hy)
      ·cases q
     ·exact .inl z
     ·exact .inr z
    ·rcases q with ⟨z,_⟩ | ⟨_,c,hc',hcell⟩
     ·rcases hk with q | q <;> (rw [z] at q;cases q)
     ·obtain ⟨c',hc2⟩:=hall y hfree
      have:c'=c:=by have:=hsub y c' hc2;rw [hc'] at this;exact (Option.some.inj this).symm
      subst this
      obtain ⟨o,ho,hd⟩:=hcell
      exact ⟨c',hc2,o,old _ _ ho,hd⟩
  ·intro a c h1
   obtain ⟨v,o,ho,hd⟩:=I3.cell a c (hsub a c h1)
   exact ⟨v,o,old _ _ ho,hd⟩
  ·show H3 C=none
   exact I3.hok.fresh (Nat.le_of_eq hC)
  ·exact fun a c h1=>I3.freeC a c (hsub a c h1)
  ·show (none :: σ).length=(x :: X.N).length
   rw [List.length_cons,List.length_cons,I.len]
 have back:∀ (s':Shared) (v:Option V) (H':Hp) (h':Heap),Inv (blk X scope cl C x { s2 with heap:=hp3 } H3 fp) [] (v :: σ) H' s'→Heap.SameBut C s'.heap h'→(∀ b∈fp,H' b=none)→Inv X pins σ H' { s' with heap:=h' }:=by
  intro s' v H' h' I' sb fr
  have neC:∀ b o,hp3.get? b=some o→b≠C:=fun b o e=>by rw [← hC];exact Nat.ne_of_lt (Heap.lt_size e)
  have U:Un (frs X.stack) fp H3 H' hp3 s'.heap:=I'.base
  refine I3.call' (ch:=fp) (H':=H') (s':={ s' with heap:=h' }) I'.os ⟨fun b o e n h1 h2=>(sb.2 b (neC b o e)).trans (U.keep b o e n h1 h2),fun b o e n h1 h2=>?_,U.free,fun b o e h2=>?_,U.tups,U.frzs,U.tbls⟩ (fun b ob e=>?_) I'.bare fun b hb=>?_
  ·obtain ⟨sl,q⟩:=U.slot b o e n h1 h2
   exact ⟨sl,(sb.2 b (neC b o e)).trans q⟩
  ·obtain ⟨o',q⟩:=U.there b o e h2
   exact ⟨o',(sb.2 b (neC b o e)).trans q⟩
  ·have fC:H' C=none:=I'.free
   refine (I'.hok b ob e).stay (fun c w' hc q=>(sb.2 c ?_).trans q) (fun _ q=>q) fun _ _ q=>q
   rintro rfl
   rcases hc with rfl | hc
   ·rw [fC] at e;cases e
   ·rw [fC] at hc;cases hc
  ·obtain ⟨_,g1,_,g3,g4,g5⟩:=f3 b hb
   exact ⟨g3,g1,g4,g5⟩
 have stat:∀ {H':Hp},(∀ b∈fp,H' b=none)→∀ b∈fp,FpOk (blk X scope cl C x { s2 with heap:=hp3 } H3 fp) [] H' b:=fun hn b hb=>
  ⟨hn b hb,Nat.ne_of_lt (fpl b hb),nstk b hb,.inl hb,fun a c h1=>(f3 b hb).2.2.2.2.1 a c (hsub a c h1),fun p hp=>by simp [blk] at hp⟩
 have st₁:tn 0 h₁:=T.keep _ _ _ st2 fun b _ o e=>old b o (by rw [← hs3];exact Heap.get?_push_of_some _ e)
 have loop:codeAny (model X.prog X.w) X.A (.compLoop (.ListComp elt [⟨.Name x px,iter,ifs,0⟩] scope pos) 0 (.ref it) (.ref D) (compEnvC scope cl C X.env)) (compPost (model X.prog X.w) X.A X.xe none (EP X pins σ Q) (.ref D) C)
   { s2 with heap:=h₁,toks:=s2.toks + ([]:List (Str × Value)).length }:=by
  refine compLoop_T (fun n s'=>∃ i v ys H',Inv (blk X scope cl C x { s2 with heap:=hp3 } H3 fp) [] (v :: σ) H' s'∧tn i s'.heap∧(∀ b∈fp,H' b=none)∧W i n ys H') ?_ m0 ⟨0,none,[],H3,Y0,st₁,fun b hb=>(f3 b hb).1,w0⟩
  rintro n s4 ⟨i,v,ys,H4,I4,st4,fr4,w4⟩
  rcases turn i n ys H4 w4 with ⟨stop,qn⟩ | ⟨go,step⟩
  ·refine thn (T.done (blk X scope cl C x { s2 with heap:=hp3 } H3 fp) rfl rfl rfl hc i [] s4 (v :: σ) H4 _ I4 (stat fr4) st4 stop) fun r s5 ⟨hr,I5⟩=>?_
   subst hr
   obtain ⟨m,hn,_⟩:=id I5.loc
   exact ⟨m,hn,fun h' sb=>⟨.ref D,H4,back s5 v H4 h' I5 sb fr4,rfl,qn⟩⟩
  ·refine thn (T.item (blk X scope cl C x { s2 with heap:=hp3 } H3 fp) rfl rfl rfl hc i [] s4 (v :: σ) H4 _ I4 (stat fr4) st4 go) fun r s5 ⟨u,hr,h5⟩=>?_
   subst hr
   refine thn h5 fun _ s6 ⟨y,H6,I6,r6,y6,st6,fr6⟩=>?_
   have I6':=I6.pinned (stat fr6) (T.obj _ _ st6)
   refine wpAny_assign_Name (store_ok (X:=blk X scope cl C x { s2 with heap:=hp3 } H3 fp) (i:=0) I6' ?_ rfl (.inl (lookup_relabel_local ok.hx)) r6 (fun s7 I7=>?_) (.inr (lookup_relabel_local ok.hx)))
   ·show (x :: X.N).Nodup
    exact List.nodup_cons.mpr ⟨fun z=>ok.out x z ok.hx,ok.nd⟩
   have I7':Inv (blk X scope cl C x { s2 with heap:=hp3 } H3 fp) _ (some y :: σ) H6 s7:=I7
   refine thn (ht cl C { s2 with heap:=hp3 } H3 fp _ s7 _ H6 _ I7' (step y H6 y6)) fun b s8 ⟨H8,I8,q8⟩=>?_
   have keepIt:∀ {σ':St} {H':Hp} {s':Shared},Inv (blk X scope cl C x { s2 with heap:=hp3 } H3 fp) ([] ++ pinsAt fp s6.heap) σ' H' s'→tn (i + 1) s'.heap∧∀ b∈fp,H' b=none:=fun {σ' H' s'} I9=>by
    refine ⟨T.keep _ _ _ st6 fun b hb o e=>(I9.pin (b,o) (List.mem_append_right _ (List.mem_append_right _ (mem_pinsAt hb e)))).1,fun b hb=>?_⟩
    obtain ⟨o,e,d⟩:=T.obj _ _ st6 b hb
    exact (I9.pin (b,o) (List.mem_append_right _ (List.mem_append_right _ (mem_pinsAt hb e)))).2.1
   cases b with
   | false=>
    obtain ⟨m',hm,w'⟩:=q8
    obtain ⟨k1,k2⟩:=keepIt I8
    exact ⟨m',hm,i + 1,some y,ys,H8,I8.unpinned,k1,k2,w'⟩
   | true=>
    have q8':te (some y :: σ) H8 _:=q8
    show wpAny _ _ (eval elt _) _ _ _
    refine thn (he cl C { s2 with heap:=hp3 } H3 fp _ s8 _ H8 _ I8 q8') fun z s9 ⟨zv,H9,I9,r9,hD9,hz9,m',hm,w'⟩=>?_
    refine thn (mt_append (X:=blk X scope cl C x { s2 with heap:=hp3 } H3 fp) _ s9 _ H9 (.ref D) [zv] (.ref D) [z] (fun _ H'=>H'=upd H9 D (.lst (ys ++ [zv]))) I9 rfl (.cons r9 .nil) ⟨D,ys,zv,rfl,rfl,hD9,hz9,rfl⟩) fun _ s10 ⟨_,H10,I10,_,e10⟩=>?_
    subst e10
    obtain ⟨k1,k2⟩:=keepIt I10
    exact ⟨m',hm,i + 1,some y,ys ++ [zv],_,I10.unpinned,k1,k2,w'⟩
 exact codeAny_compStart_list loop (T.self X.A 0 _ _ _ st₁ loop)
end L2
namespace L2
open PySem PySem.Spec PyProof.Rows
def Nxt (n i:Nat) (P:Prop):Prop:=∃ m',m' < n - i∧m'=n - (i + 1)∧i + 1≤n∧P
theorem Nxt.mk {n i:Nat} {P:Prop} (h:i < n) (p:P):Nxt n i P:=⟨_,by omega,rfl,h,p⟩
theorem comp_list {K:PySem.W.Frag} {a D:Addr} {xs:List V} {te:TE} {σ:St} {H:Hp} {R:Hp→Prop} (Pv:Nat→List V→Hp→Prop) (h0:Pv 0 [] (upd H D (.lst []))) (hl:∀ i ys H,i≤xs.length→Pv i ys H→SqL K H a xs)
  (hs:∀ i x ys H,xs[i]?=some x→Pv i ys H→te (some x :: σ) H fun y H3=>H3 D=some (.lst ys)∧ys.length < sizeLine∧Nxt xs.length i (Pv (i + 1) (ys ++ [y]) (upd H3 D (.lst (ys ++ [y])))))
  (hd:∀ ys H,Pv xs.length ys H→R H) :
  ∃ W:Nat→Nat→List V→Hp→Prop,(∃ m,W 0 m [] (upd H D (.lst [])))∧
   ∀ i m ys H,W i m ys H→((Itl K a).stop i H∧R H)∨((Itl K a).go i H∧∀ x H',(Itl K a).yld i H x H'→tYes (some x :: σ) H' fun b H2=>
    if b=true then te (some x :: σ) H2 fun y H3=>H3 D=some (.lst ys)∧ys.length < sizeLine∧∃ m',m' < m∧W (i + 1) m' (ys ++ [y]) (upd H3 D (.lst (ys ++ [y])))
    else ∃ m',m' < m∧W (i + 1) m' ys H2):=by
 refine ⟨fun i m ys H=>m=xs.length - i∧i≤xs.length∧Pv i ys H,⟨xs.length,by simp,Nat.zero_le _,h0⟩,?_⟩
 rintro i m ys H ⟨rfl,hi,p⟩
 have q:=hl i ys H hi p
 by_cases hlt:i < xs.length
 ·refine .inr ⟨⟨xs,xs[i],q,by simp [hlt]⟩,fun x H' y=>?_⟩
  obtain ⟨e,y⟩:=y
  subst e
  exact hs i x ys H' (y xs q) p
 ·have e:i=xs.length:=by omega
  subst e
  exact .inl ⟨⟨xs,q,Nat.le_refl _⟩,hd ys H p⟩
theorem comp_range {lo:Int} {n:Nat} {D:Addr} {te:TE} {σ:St} {H:Hp} {R:Hp→Prop} (Pv:Nat→List V→Hp→Prop) (h0:Pv 0 [] (upd H D (.lst [])))
  (hs:∀ i ys H,i < n→Pv i ys H→te (some (.int (lo + i)) :: σ) H fun y H3=>H3 D=some (.lst ys)∧ys.length < sizeLine∧Nxt n i (Pv (i + 1) (ys ++ [y]) (upd H3 D (.lst (ys ++ [y])))))
  (hd:∀ ys H,Pv n ys H→R H) :
  ∃ W:Nat→Nat→List V→Hp→Prop,(∃ m,W 0 m [] (upd H D (.lst [])))∧
   ∀ i m ys H,W i m ys H→((Itr lo n).stop i H∧R H)∨((Itr lo n).go i H∧∀ x H',(Itr lo n).yld i H x H'→tYes (some x :: σ) H' fun b H2=>
    if b=true then te (some x :: σ) H2 fun y H3=>H3 D=some (.lst ys)∧ys.length < sizeLine∧∃ m',m' < m∧W (i + 1) m' (ys ++ [y]) (upd H3 D (.lst (ys ++ [y])))
    else ∃ m',m' < m∧W (i + 1) m' ys H2):=by
 refine ⟨fun i m ys H=>m=n - i∧i≤n∧Pv i ys H,⟨n,by simp,Nat.zero_le _,h0⟩,?_⟩
 rintro i m ys H ⟨rfl,hi,p⟩
 by_cases hlt:i < n
 ·refine .inr ⟨hlt,fun x H' y=>?_⟩
  obtain ⟨e,y⟩:=y
  subst e y
  exact hs i ys H' hlt p
 ·have e:i=n:=by omega
  subst e
  exact .inl ⟨Nat.le_refl _,hd ys H p⟩
end L2
end
section
set_option Elab.async false
set_option linter.all false
set_option maxRecDepth 100000
namespace L2
open PySem PySem.Spec PyProof.Rows
def S (l:List Nat):Str:=⟨l.toArray⟩
theorem S_cps (l:List Nat):(S l).cps.toList=l:=rfl
theorem S_len (l:List Nat):(S l).length=l.length:=rfl
theorem S_inj {a b:List Nat} (h:S a=S b):a=b:=congrArg (fun s:Str=>s.cps.toList) h
theorem S_of (z:Str):S z.cps.toList=z:=by cases z;rfl
theorem S_app (a b:List Nat):S a ++ S b=S (a ++ b):=by
 show (⟨a.toArray ++ b.toArray⟩:Str)=⟨(a ++ b).toArray⟩
 simp
theorem S_dec (a b:List Nat):decide (V.str (S a)=V.str (S b))=decide (a=b):=by
 by_cases e:a=b
 ·subst e;simp
 ·rw [decide_eq_false e,decide_eq_false]
  intro z
  injection z with z
  exact e (S_inj z)
section
variable {X:Cx} {a b c e o:Expr} {ta tb tc te to:TE} {pos:Pos}
theorem pe_strS (l:List Nat) {x:Str} {j pos} (h:x=S l):PE X (.Constant (.str x) j pos) (tC (.str (S l))):=by rw [h];exact pe_str
def rAddS:R2:=fun x y H Q=>∃ i j,x=.str (S i)∧y=.str (S j)∧i.length + j.length≤sizeLine∧Q (.str (S (i ++ j))) H
theorem op_addS:OpR X (binaryOp .Add) rAddS:=by
 intro pins s σ H x y v u Q I rx ry h
 obtain ⟨i,j,rfl,rfl,hz,q⟩:=h
 exact op_add_str pins s σ H _ _ v u Q I rx ry ⟨S i,S j,rfl,rfl,hz,by rw [S_app];exact q⟩
def rIxS':R2:=fun x y H Q=>∃ l i c,x=.str (S l)∧y=.int i∧l.length≤sizeLine∧atI l i=some c∧Q (.str (S [c])) H
theorem ix_S:IxR X rIxS':=by
 intro value slice pins s σ H x y v u Q I rx ry h hs
 obtain ⟨l,i,c,rfl,rfl,hz,hc,q⟩:=h
 exact ix_str value slice pins s σ H _ _ v u Q I rx ry ⟨S l,i,c,rfl,rfl,hz,hc,q⟩ hs
def rLenS:List V→Hp→VK→Prop:=fun xs H Q=>∃ l,xs=[.str (S l)]∧l.length≤sizeLine∧Q (.int l.length) H
theorem call_lenS:CallR X (.builtin "len") rLenS:=by
 intro pins s σ H xs us Q I r h
 obtain ⟨l,rfl,hz,q⟩:=h
 exact call_len_str pins s σ H _ us Q I r ⟨S l,rfl,hz,q⟩
def rEqS:R2:=fun x y H Q=>∃ i j,x=.str (S i)∧y=.str (S j)∧Q (.bl (decide (i=j))) H
theorem op_eqS:OpR X (compareOp .Eq) rEqS:=by
 intro pins s σ H x y v u Q I rx ry h
 obtain ⟨i,j,rfl,rfl,q⟩:=h
 exact op_eq pins s σ H _ _ v u Q I rx ry ⟨rfl,by rw [S_dec];exact q⟩
def rNeS:R2:=fun x y H Q=>∃ i j,x=.str (S i)∧y=.str (S j)∧Q (.bl (!decide (i=j))) H
theorem op_neS:OpR X (compareOp .NotEq) rNeS:=by
 intro pins s σ H x y v u Q I rx ry h
 obtain ⟨i,j,rfl,rfl,q⟩:=h
 exact op_ne pins s σ H _ _ v u Q I rx ry ⟨rfl,by rw [S_dec];exact q⟩
def rInS:R2:=fun x y H Q=>∃ c l,x=.str (S [c])∧y=.str (S l)∧Q (.bl (decide (c∈l))) H
theorem op_inS:OpR X (compareOp .In) rInS:=by
 intro pins s σ H x y v u Q I rx ry h
 obtain ⟨c,l,rfl,rfl,q⟩:=h
 exact op_in_str pins s σ H _ _ v u Q I rx ry ⟨S [c],S l,rfl,rfl,by
  have e:=StrLaws.found_one (S l) c
  rw [S_cps] at e
  rw [show (S [c])=(⟨#[c]⟩:Str) from rfl,e];exact q⟩
def cutN (l:List Nat) (lo hi:Option Int):List Nat:=(l.drop (HT.sIx l.length 0 lo)).take (HT.sIx l.length l.length hi - HT.sIx l.length 0 lo)
theorem idx_gen (lo hi:Option Int) (n:Nat):Builtin.Str.strSliceIndices lo hi 1 n=(List.range (HT.sIx n n hi - HT.sIx n 0 lo)).map (fun k=>HT.sIx n 0 lo + k):=by
 have clip:∀ (v:Int) (d:Nat),max (0:Int) (min (if v < 0 then v + (n:Int) else v) (n:Int))=((HT.sIx n d (some v):Nat):Int):=fun v d=>by
  rw [← HT.clip_eq];split <;> omega
 have key:∀ a b:Nat,sliceRange (a:Int) (b:Int) 1=(List.range (b - a)).map (fun k=>a + k):=fun a b=>by
  simp only [sliceRange,show ((1:Int) > 0)=True from by simp,if_true]
  by_cases hlt:(a:Int) < b
  ·have e3:(((b:Int) - a + 1 - 1) / 1).toNat=b - a:=by first | omega | (simp;done) | (simp;omega)
   simp only [hlt,if_true,e3]
   refine List.map_congr_left fun k _=>?_
   omega
  ·have:b - a=0:=by omega
   simp [hlt,this]
 unfold Builtin.Str.strSliceIndices
 simp only [show ((1:Int) > 0)=True from by simp,if_true]
 cases lo with
 | none=>
  cases hi with
  | none=>exact key 0 n
  | some j=>dsimp only;rw [clip j n];exact key 0 _
 | some i=>
  cases hi with
  | none=>dsimp only;rw [clip i 0];exact key _ n
  | some j=>dsimp only;rw [clip i 0,clip j n];exact key _ _
theorem slice_gen (l:List Nat) (lo hi:Option Int):Txt.slice (S l) lo hi=S (cutN l lo hi):=by
 have hle:HT.sIx l.length l.length hi≤l.length:=HT.sIx_le _ _ (Nat.le_refl _) _
 have key:((Builtin.Str.strSliceIndices lo hi 1 (S l).length).filterMap ((S l).cps[·]?))=cutN l lo hi:=by
  rw [idx_gen]
  have h:=StrLaws.picks l (HT.sIx l.length l.length hi - HT.sIx l.length 0 lo) (HT.sIx l.length 0 lo)
  unfold cutN
  by_cases hc:HT.sIx l.length 0 lo≤HT.sIx l.length l.length hi
  ·have h2:=h (by omega)
   rw [S_len]
   simpa [S] using h2
  ·have e:HT.sIx l.length l.length hi - HT.sIx l.length 0 lo=0:=by omega
   rw [S_len,e];simp
 unfold Txt.slice
 split
 ·rename_i hc
  have hlen:(Builtin.Str.strSliceIndices lo hi 1 (S l).length).length=l.length:=by
   simp at hc
   simpa [S_len] using hc
  have hl2:HT.sIx l.length l.length hi - HT.sIx l.length 0 lo=l.length:=by rw [idx_gen,S_len] at hlen;simpa using hlen
  have h0:HT.sIx l.length 0 lo=0∨l.length=0:=by omega
  have e:cutN l lo hi=l:=by
   unfold cutN
   rw [hl2]
   rcases h0 with z | z
   ·rw [z];simp
   ·have:l=[]:=List.length_eq_zero_iff.mp z
    subst this;simp
  rw [e]
 ·rw [key];rfl
def rSlS:V→Option Int→Option Int→Hp→VK→Prop:=fun x lo hi H Q=>∃ l,x=.str (S l)∧l.length≤sizeLine∧Q (.str (S (cutN l lo hi))) H
theorem part_of {v:Value} {o:Option Int} (p:IsPart v o):∃ l:Option (Int × Tok),v=partValue l∧l.map (·.1)=o:=by
 cases p with
 | none=>exact ⟨none,rfl,rfl⟩
 | int i t=>exact ⟨some (i,t),rfl,rfl⟩
theorem sl_S:SlR X rSlS:=by
 intro pins s σ H x v vl vu lo hi sl Q I rx hs pl pu h
 obtain ⟨l,rfl,hz,q⟩:=h
 obtain ⟨t,rfl⟩:=rx
 obtain ⟨p1,rfl,rfl⟩:=part_of pl
 obtain ⟨p2,rfl,rfl⟩:=part_of pu
 refine ⟨"str",_,F.slot_str_getitem.lookup,typeIs_str _ _ _,?_⟩
 refine wpAny_getItem_str_slice (l:=p1) (u:=p2) (st:=none) hs rfl ?_
 have e:=slice_gen l (p1.map (·.1)) (p2.map (·.1))
 have hle:(Txt.slice (S l) (p1.map (·.1)) (p2.map (·.1))).length≤sizeLine:=Nat.le_trans (Txt.slice_le _ _ _) hz
 refine post_val_or_str ⟨hle,fun t' k=>?_⟩
 have e':(if ((Option.map (fun x:Int × Tok=>x.1) none).getD 1 == 1 && (slicePicked (S l) p1 p2 none).length == (S l).length)=true then S l else ⟨((slicePicked (S l) p1 p2 none).filterMap ((S l).cps[·]?)).toArray⟩)=S (cutN l (p1.map (·.1)) (p2.map (·.1))):=e
 exact ⟨.str (S (cutN l (p1.map (·.1)) (p2.map (·.1)))),H,I.tok _,⟨t',congrArg (fun z=>Value.str z t') e'⟩,q⟩
abbrev Ts (ls:List (List Nat)):List V:=ls.map fun l=>V.str (S l)
def rInst (K:PySem.W.Frag):List V→Hp→VK→Prop:=fun xs H Q=>∃ x n t b,xs=[x,.ty n]∧TyOf K H x t∧PySem.W.kitOne K t (.type n)=some b∧Q (.bl b) H
theorem call_isinst:CallR X (.builtin "isinstance") (rInst X.K):=by
 intro pins s σ H xs us Q I r h
 obtain ⟨x,n,t,b,rfl,ty,k,q⟩:=h
 obtain ⟨u,w',rfl,r1,r2⟩:=vals2 r
 cases r2
 exact isinst_ok I r1 ty k fun tk=>⟨.bl b,H,I.tok tk,rfl,q⟩
def rMulS:R2:=fun x y H Q=>∃ l n,x=.str (S l)∧y=.int (n:Nat)∧1≤n∧n < 1000∧l.length < 1000∧Q (.str (S (List.replicate n l).flatten)) H
theorem rep_fold (l:List Nat):∀ (n:Nat) (acc:Array Nat),((List.replicate n l.toArray).foldl (· ++ ·) acc).toList=acc.toList ++ (List.replicate n l).flatten
 | 0,acc=>by simp
 | n + 1,acc=>by
  rw [List.replicate_succ,List.foldl_cons,rep_fold l n,List.replicate_succ]
  simp
theorem op_mulS:OpR X (binaryOp .Mult) rMulS:=by
 intro pins s σ H x y v u Q I rx ry h
 obtain ⟨l,n,rfl,rfl,h1,h2,h3,q⟩:=h
 obtain ⟨t,rfl⟩:=rx
 obtain ⟨t',rfl⟩:=ry
 have hsmall:l.length * n≤1000 * 1000:=Nat.mul_le_mul (Nat.le_of_lt h3) (Nat.le_of_lt h2)
 have hbig:(1000 * 1000:Nat)≤sizeLine:=by decide
 refine PySem.P.mul_str ?_ ?_ ?_ ?_
 ·rw [decide_eq_false (by omega),decide_eq_false (by omega)];rfl
 ·intro _ _
  have e:(2 ^ 63 - 1:Int) / (n:Int)≥1000:=by
   refine Int.le_ediv_of_mul_le (by omega) ?_
   have:(1000:Int) * (n:Int)≤1000 * 1000:=by omega
   omega
  rw [S_len]
  omega
 ·intro _ _
  show decide (_ > _)=false
  rw [decide_eq_false]
  rw [S_len,Int.toNat_natCast]
  omega
 ·rw [if_neg (by omega)]
  have hres:(⟨(List.replicate (n:Int).toNat (S l).cps).foldl (· ++ ·) #[]⟩:Str)=S (List.replicate n l).flatten:=by
   have e:=rep_fold l n #[]
   rw [Int.toNat_natCast]
   unfold S
   congr 1
   apply Array.toList_inj.mp
   simpa using e
  rw [hres]
  split
  ·rename_i hc
   have e:(List.replicate n l).flatten=l:=by
    simp at hc
    rcases hc with z | z
    ·have:n=1:=by omega
     subst this;simp
    ·have:l=[]:=by simpa [S,Str.length] using z
     subst this;simp
   rw [e] at q
   exact ⟨.str (S l),H,I,⟨t,rfl⟩,q⟩
  ·refine ⟨?_,.str (S (List.replicate n l).flatten),H,I.tok _,⟨_,rfl⟩,q⟩
   rw [S_len,len_rep,Nat.mul_comm]
   omega
theorem joinNil (ls:List (List Nat)):Txt.join (S []) (ls.map S)=S ls.flatten:=by
 unfold Txt.join Builtin.Str.glued
 have key:∀ (ls:List (List Nat)) (acc:Array Nat),((ls.map S).foldl (fun acc p=>acc ++ (S []).cps ++ p.cps) acc).toList=acc.toList ++ ls.flatten:=by
  intro ls
  induction ls with
  | nil=>intro acc;simp
  | cons l r ih=>intro acc;rw [List.map_cons,List.foldl_cons,ih];simp [S]
 unfold S
 congr 1
 apply Array.toList_inj.mp
 cases ls with
 | nil=>rfl
 | cons l r=>
  have:=key r (S l).cps
  have e:(List.map S (l :: r)).drop 1=List.map S r:=rfl
  show (((List.map S (l :: r)).drop 1).foldl _ (S l).cps).toList=_
  rw [e]
  exact this.trans (by simp [S])
def rJoin (K:PySem.W.Frag):V→List V→Hp→VK→Prop:=fun x vs H Q=>∃ p ls,x=.str (S [])∧vs=[.ref p]∧SqL K H p (Ts ls)∧ls.flatten.length≤1000∧Q (.str (S ls.flatten)) H
theorem strs_of:∀ {ls:List (List Nat)} {us:List Value},Vals (Ts ls) us→StrsAre us (ls.map S)
 | [],_,.nil=>.nil
 | l :: r,_,.cons q t=>by
  obtain ⟨t',rfl⟩:=q
  exact .cons (S l) t' (strs_of t)
theorem sum_len (ls:List (List Nat)):((ls.map S).map (·.length)).sum=ls.flatten.length:=by
 induction ls with
 | nil=>rfl
 | cons l r ih=>rw [List.map_cons,List.map_cons,List.sum_cons,ih,List.flatten_cons,List.length_append,S_len]
theorem mt_join:MtR X "str.join" (rJoin X.K):=by
 intro pins s σ H x vs v us Q I rx rv h
 obtain ⟨p,ls,rfl,rfl,hq,hz,q⟩:=h
 obtain ⟨t,rfl⟩:=rx
 obtain ⟨u,rfl,ru⟩:=vals1 rv
 cases ru
 obtain ⟨its,r,pl,_⟩:=I.list hq
 refine join_list pl.isList (ys:=ls.map S) (by simpa using strs_of r) ?_ fun t' k=>?_
 ·rw [sum_len];show _ + _ * 0≤_;omega
 ·exact ⟨.str (S ls.flatten),H,I.tok k,⟨t',congrArg (fun z=>Value.str z t') (joinNil ls)⟩,q⟩
end
end L2
end
section
set_option Elab.async false
set_option linter.all false
set_option maxRecDepth 100000
namespace L2
open PySem PySem.Spec PyProof.Rows
structure DefAt (K:PySem.W.Frag) (mg:Str→Option Value) (name:Str) (st:Stmt) (ps:List Str):Prop where
 ex:∃ f fd,Fun K name name st f fd∧Binds K fd ps []∧mg name=some (.ref f)
structure Def (P:Program) (w:World) (K:PySem.W.Frag) (mg:Str→Option Value) (base:Heap) (name:Str) (k:Nat) (ps:List Str) (sp:Sp):Prop where
 ex:∃ f fd,FnOk P w K mg base CX0 k f fd ps sp∧Binds K fd ps []∧mg name=some (.ref f)∧PySem.W.keepIn K (.ref f)=true
theorem DefAt.ok {P:Program} {w:World} {K:PySem.W.Frag} {mg:Str→Option Value} {base:Heap} {name:Str} {st:Stmt} {N ps:List Str} {k:Nat} {sp:Sp} (D:DefAt K mg name st ps) (S:FnScope N ps (defScope st)) (len:∀ vs H Q E,sp vs H Q E→vs.length=ps.length)
  (hbody:∀ (f:Addr) (cdv:Value) (A:Around) (outer:List Env) (s:Shared) (H:Hp) (vs:List V) (Q:VK) (E:XK),Room k (A.deeper (envOfC name (defScope st) s.heap.objs.size f cdv))→sp vs H Q E→
   ∃ t,PSs (cxOf CX0 P w K mg base N name (defScope st) f cdv A outer s H E).nox (defBody st) t∧t { nx:=fun _ H'=>Q .non H',rt:=Q } (start N vs) H):Def P w K mg base name (k + 1) ps sp:=by
 obtain ⟨f,fd,F,b,g⟩:=D.ex
 exact ⟨f,fd,F.ok S len (hbody f),b,g,F.kp⟩
section
variable {X:Cx} {x:Str} {p pos:Pos} {e:Expr} {es:List Expr} {t:TA}
theorem pe_own {k:Nat} {ps:List Str} {sp:Sp} (D:Def X.prog X.w X.K X.mg X.base x k ps sp) (hr:Room k X.A) (hg:Gl X x) (ha:PA X (e :: es) t) (hdb:(x == ("__debug__":Str))=false:=by decide)
  (hs:starEach (e :: es) X.env=(false,eval e X.env) :: starEach es X.env:=by rfl) (hpl:(backTo pos (starEach es X.env)).any (·.1)=false:=by rfl) :
  PE X (.Call (.Name x p) (e :: es) [] pos) (tCall sp [] E0 t):=by
 obtain ⟨f,fd,G,b,g,kp⟩:=D.ex
 exact pe_call G hr hg g kp b .nil pass0 ha hdb hs hpl
end
theorem Same.upd {H:Hp} {p:Addr} {o:HO} (h:H p=none):Same H (upd H p o):=fun b o' e=>by rw [upd_ne (ne_of_none e h)];exact e
theorem Same.upd' {H H':Hp} {p:Addr} {o:HO} (s:Same H H') (h:H p=none):Same H (L2.upd H' p o):=fun b o' e=>by rw [upd_ne (ne_of_none e h)];exact s b o' e
end L2
namespace L2
open PySem PySem.Spec PyProof.Rows
section
variable {X:Cx} {e:Expr} {es:List Expr} {te:TE} {t:TA}
end
end L2
namespace L2
open PySem PySem.Spec PyProof.Rows
end L2
namespace L2
open PySem PySem.Spec PyProof.Rows
theorem defat_mk {K:PySem.W.Frag} {h:Heap} {mg:Str→Option Value} {name:Str} {st:Stmt} {ps:List Str} {f:Addr} {oc:Value} {od an:Option Addr} {osl:Array (Option Value)} {kV doc pm cdv ct:Value} (X:K.In h) (G:h.Ns mainGlobals mg)
  (a:PySem.W.nsIn K mainGlobals name=some (some (.ref f))) (l:K.lookup f=some ⟨oc,od,.func (PySem.W.fnOf name name (defArgs st) (defBody st) (defScope st) .none kV doc pm an cdv ct),osl⟩)
  (c:PySem.W.codeIn K cdv name=true) (k:PySem.W.keepIn K (.ref f)=true)
  (hb:∀ (kV doc pm:Value) (an:Option Addr) (cdv ct:Value) (us:List Value),us.length=ps.length→bindArgs (PySem.W.fnOf name name (defArgs st) (defBody st) (defScope st) .none kV doc pm an cdv ct) ⟨us,[]⟩=pure (ps.zip us)):DefAt K mg name st ps:=
 ⟨f,_,fun_mk l c k,(fun_mk l c k).binds hb,PySem.W.mg_of X G a⟩
theorem law_at {K:PySem.W.Frag} {h:Heap} {mg:Str→Option Value} {st:Stmt} {x:Str} {f fa:Addr} {oc:Value} {od an:Option Addr} {osl:Array (Option Value)} {kV doc pm cdv ct:Value} (X:K.In h) (G:h.Ns mainGlobals mg) (hfa:mg "law"=some (.ref fa))
  (a:PySem.W.nsIn K mainGlobals "law"=some (some (.ref f))) (l:K.lookup f=some ⟨oc,od,.func (PySem.W.fnOf "law" "law" (defArgs st) (defBody st) (defScope st) .none kV doc pm an cdv ct),osl⟩)
  (c:PySem.W.codeIn K cdv "law"=true) (k:PySem.W.keepIn K (.ref f)=true)
  (hb:∀ (kV doc pm:Value) (an:Option Addr) (cdv ct v:Value),bindArgs (PySem.W.fnOf "law" "law" (defArgs st) (defBody st) (defScope st) .none kV doc pm an cdv ct) ⟨[v],[]⟩=pure [(x,v)]) :
  ∃ fd:FuncData,Fun K "law" "law" st fa fd∧∀ (s:Shared) (v:Value),BindsTo s fd ⟨[v],[]⟩ [(x,v)]:=by
 have e:=hfa.symm.trans (PySem.W.mg_of X G a)
 cases e
 exact ⟨_,fun_mk l c k,fun s v=>.of_eq (hb kV doc pm an cdv ct v)⟩
def spLaw (K:PySem.W.Frag):Sp:=fun vs H Q _=>∃ (a:Addr) (ns:List Int),vs=[.ref a]∧SqL K H a (ns.map V.int)∧ns.length≤63∧∀ H',Q (.bl true) H'
theorem walkLaw {x:Str} {l:PySem.W.OpenLaw} {q:Program} {loose:List Str} {XP:(Str→Option Value)→Heap→Prop} {YP:World→Heap→Prop} {d:DefRec} {K:Params→PySem.W.Frag} (hn:l.most=some 63) (hdf:d.params.defaults=[])
  (hY:∀ (w:World) (h:Heap),YP w h→(K w.params).In h)
  (F:∀ (w:World) (mg:Str→Option Value) (fa:Addr) (h:Heap),(K w.params).In h→h.Ns mainGlobals mg→mg d.name=some (.ref fa)→
   ∃ fd:FuncData,(∀ (s:Shared) (u:Value),BindsTo s fd ⟨[u],[]⟩ [(x,u)])∧∀ base:Heap,(K w.params).In base→base.Ns mainGlobals mg→FnOk l.prog w (K w.params) mg base CX0 20 fa fd [x] (spLaw (K w.params))) :
  PySem.W.WalkO q loose XP YP l.row.toRowW d [] (fun f vs=>PySem.call f vs):=
 L2.walk_of (n:=63) (k:=20) (x:=x) (CX:=fun _=>CX0) (sp:=fun w=>spLaw (K w.params)) hn (by decide) hdf ⟨rfl,by decide,by decide⟩ hY F (fun _ _ a ns hl _ hS=>⟨a,ns,rfl,hS,hl,fun _=>rfl⟩) fun _ _ _ _ _ z=>z
end L2
end
section
set_option Elab.async false
set_option linter.all false
set_option maxRecDepth 100000
namespace L2
open PySem PySem.Spec PyProof.Rows
namespace RV
section
variable {prog:Program} {w:World} {A:Around} {E:Value→Shared→Prop} {s:Shared}
end
end RV
end L2
end
section
set_option Elab.async false
set_option linter.all false
set_option maxRecDepth 100000
namespace L2
open PySem PySem.Spec PyProof.Rows
section
variable {X:Cx} {o e st:Expr} {to te tst:TE} {apos cpos rpos pos p p2:Pos}
theorem fm_map {α β:Type} {f:α→Option β} {g:α→β}:∀ l:List α,(∀ k∈l,f k=some (g k))→l.filterMap f=l.map g
 | [],_=>rfl
 | a :: r,h=>by
  rw [List.filterMap_cons,h a List.mem_cons_self,List.map_cons,fm_map r fun k hk=>h k (List.mem_cons_of_mem _ hk)]
def tRevS (te tst:TE):TE:=fun σ H Q=>te σ H fun x H1=>tst σ H1 fun y H2=>∃ l,x=.str (S l)∧y=.int (-1)∧l.length≤sizeLine∧Q (.str (S l.reverse)) H2
theorem pe_revS (he:PE X e te) (hst:PE X st tst):PE X (.Subscript e (.Slice none none (some st) p2) pos) (tRevS te tst):=by
 intro pins s σ H Q I h
 refine Subscript_ (thn (he pins s σ H _ I h) fun v s1 ⟨x,H1,I1,r1,q1⟩=>?_)
 refine wpAny_Slice ?_
 rw [evalPart_none,evalPart_some]
 refine wpAny_pure (wpAny_pure (thn (hst pins s1 σ H1 _ I1 q1) fun vst s2 ⟨y,H2,I2,r2,l,ex,ey,hz,q⟩=>?_))
 subst ex ey
 obtain ⟨t,rfl⟩:=r1
 obtain ⟨t2,rfl⟩:=r2
 have I4:Inv X pins σ H2 { s2 with heap:=s2.heap.push { cls:=.type "slice",data:=.fields #[.none,.none,.int (-1) t2] } }:=I2.kept (t':=s2.toks) fun b ob z=>Heap.get?_push_of_some _ z
 show wpAny (model X.prog X.w) X.A (subscriptTail e (.Slice none none (some st) p2) (.str (S l) t) (.ref s2.heap.objs.size)) (EP X pins σ Q) X.xe { s2 with heap:=s2.heap.push { cls:=.type "slice",data:=.fields #[.none,.none,.int (-1) t2] } }
 refine tail_any (ops:=[.ref s2.heap.objs.size,.str (S l) t]) (typeIs_str _ _ _) PySem.F.slot_str_getitem.lookup ?_ (by with_unfolding_all rfl)
 refine wpAny_getItem_str_slice (l:=none) (u:=none) (st:=some (-1,t2)) ⟨_,Heap.get?_push_size _ rfl,rfl,rfl⟩ rfl ?_
 have ep:slicePicked (S l) none none (some (-1,t2))=(List.range l.length).map fun k=>l.length - 1 - k:=picked_rev l.length
 have er:((slicePicked (S l) none none (some (-1,t2))).filterMap ((S l).cps[·]?))=l.reverse:=by
  rw [ep]
  refine List.ext_getElem? fun j=>?_
  have hm:((List.range l.length).map fun k=>l.length - 1 - k).filterMap ((S l).cps[·]?)=(List.range l.length).map fun k=>l.getD (l.length - 1 - k) 0:=by
   rw [List.filterMap_map]
   refine fm_map _ fun k hk=>?_
   have hk':=List.mem_range.mp hk
   show (l.toArray)[l.length - 1 - k]?=some (l.getD (l.length - 1 - k) 0)
   simp [List.getD,show l.length - 1 - k < l.length by omega]
  rw [hm,List.getElem?_map]
  by_cases hj:j < l.length
  ·rw [List.getElem?_range hj,List.getElem?_reverse hj]
   simp [List.getD,show l.length - 1 - j < l.length by omega]
  ·rw [List.getElem?_eq_none (by simpa using hj),List.getElem?_eq_none (by simpa using hj)];rfl
 unfold sliceMade
 rw [if_neg (by simp)]
 rw [er]
 refine ⟨?_,.str (S l.reverse),H2,I4.tok _,⟨_,rfl⟩,q⟩
 show l.reverse.toArray.size≤sizeLine
 simpa using hz
end
end L2
end
section
set_option Elab.async false
set_option linter.all false
set_option maxRecDepth 100000
namespace L2
open PySem PySem.Spec PyProof.Rows
structure QE (X:Cx) (e:Expr) (t:TE):Prop where
 out:PE X e t
structure QT (X:Cx) (e:Expr) (t:TT):Prop where
 out:PT X e t
structure QW (X:Cx) (e:Expr) (t:TT):Prop where
 out:PW X e t
structure QA (X:Cx) (es:List Expr) (t:TA):Prop where
 out:PA X es t
structure QS (X:Cx) (st:Stmt) (t:TS):Prop where
 out:PS X st t
structure QSs (X:Cx) (st:List Stmt) (t:TS):Prop where
 out:PSs X st t
structure QG (X:Cx) (e:Expr) (t:TG):Prop where
 out:PG X e t
structure QGs (X:Cx) (es:List Expr) (t:TGs):Prop where
 out:PGs X es t
structure QI (X:Cx) (tg iter:Expr) (wi:TI):Prop where
 out:PI X tg iter wi
structure QO (X:Cx) (e:Option Expr) (t:TO):Prop where
 out:PO X e t
structure QC (X:Cx) (op:CmpOp) (a b:Expr) (t:TE):Prop where
 out:PC X op a b t
structure QTs (X:Cx) (ifs:List Expr) (t:TT):Prop where
 out:PTs X ifs t
theorem QW.qt {X:Cx} {e:Expr} {t:TT} (h:QW X e t):QT X e t:=⟨h.out.pt⟩
section
variable {X:Cx} {st:Stmt} {rest:List Stmt} {t u:TS} {e:Expr} {te:TE} {pos:Pos}
theorem qss_nil  : QSs X [] tNext:=
 ⟨pss_nil⟩
end
section
variable {X:Cx} {st:Stmt} {rest:List Stmt} {t u:TS} {e:Expr} {te:TE} {pos:Pos}
theorem qss_cons (h1:QS X st t) (h2:QSs X rest u):QSs X (st :: rest) (tSeq t u):=
 ⟨pss_cons h1.out h2.out⟩
end
section
variable {X:Cx} {st:Stmt} {rest:List Stmt} {t u:TS} {e:Expr} {te:TE} {pos:Pos}
theorem qss_one (h1:QS X st t):QSs X [st] t:=
 ⟨pss_one h1.out⟩
end
section
variable {X:Cx} {st:Stmt} {rest:List Stmt} {t u:TS} {e:Expr} {te:TE} {pos:Pos}
theorem qs_if {c:Expr} {a b:List Stmt} {tc:TT} (hc:QT X c tc) (ha:QSs X a t) (hb:QSs X b u):QS X (.If c a b pos) (tIfS tc t u):=
 ⟨ps_if hc.out ha.out hb.out⟩
end
section
variable {X:Cx} {st:Stmt} {rest:List Stmt} {t u:TS} {e:Expr} {te:TE} {pos:Pos}
theorem qs_ret (he:QE X e te):QS X (.Return (some e) pos) (tRet te):=
 ⟨ps_ret he.out⟩
end
section
variable {X:Cx} {st:Stmt} {rest:List Stmt} {t u:TS} {e:Expr} {te:TE} {pos:Pos}
end
section
variable {X:Cx} {st:Stmt} {rest:List Stmt} {t u:TS} {e:Expr} {te:TE} {pos:Pos}
theorem qs_expr (he:QE X e te) (hs:swapsWith e none pos.line X.env=pure false:=by rfl):QS X (.Expr e pos) (tDrop te):=
 ⟨ps_expr he.out hs⟩
end
section
variable {X:Cx} {tg:Expr}
theorem qs_for {iter:Expr} {body:List Stmt} {wi:TI} {g:TG} {tb:TS} {pos:Pos} (hp:PassesOwn (model X.prog X.w) X.A X.env X.xe) (hc:X.calm=true) (hi:QI X tg iter wi) (hg:QG X tg g) (hb:QSs X body tb) (hs:∀ x,foldedSetIterable iter X.env x=pure x:=by intro _;rfl):QS X (.For tg iter body [] pos) (tFor wi g tb):=
 ⟨ps_for hp hc hi.out hg.out hb.out hs⟩
end
section
variable {X:Cx} {st:Stmt} {rest:List Stmt} {t u:TS} {e:Expr} {te:TE} {pos:Pos}
theorem qs_while {c:Expr} {body:List Stmt} {tc:TT} {tb:TS} (hp:PassesOwn (model X.prog X.w) X.A X.env X.xe) (hc:QT X c tc) (hb:QSs X body tb):QS X (.While c body [] pos) (tWhile tc tb):=
 ⟨ps_while hp hc.out hb.out⟩
end
section
variable {X:Cx} {pos:Pos}
theorem qs_set {i:Nat} {x:Str} {e:Expr} {te:TE} {pos':Pos} (hN:X.N.Nodup) (hi:X.N[i]?=some x) (hx:Loc X.env.scope x) (he:QE X e te) (hs:swapsWith e (some (.Name x pos')) pos.line X.env=pure false:=by rfl) (hf:X.fn x=true∨X.env.scope.names.lookup x=some .local:=by first | exact .inl rfl | exact .inr rfl | assumption):QS X (.Assign [.Name x pos'] e pos) (tAsg te (gName i)):=
 ⟨ps_set hN hi hx he.out hs hf⟩
end
section
variable {X:Cx} {st:Stmt} {rest:List Stmt} {t u:TS} {e:Expr} {te:TE} {pos:Pos}
end
section
variable {X:Cx} {st:Stmt} {rest:List Stmt} {t u:TS} {e:Expr} {te:TE} {pos:Pos}
theorem qss_never {sts:List Stmt}:QSs X sts tNever:=
 ⟨pss_never⟩
end
section
variable {X:Cx} {st:Stmt} {rest:List Stmt} {t u:TS} {e:Expr} {te:TE} {pos:Pos}
end
section
variable {X:Cx} {o e value:Expr} {f:Str} {pos pos' tpos:Pos} {ta tv:TE}
theorem qs_fld (ha:QE X o ta) (hv:QE X value tv) (hs:swapsWith value (some (.Attribute o f pos')) pos.line X.env=pure false):QS X (.Assign [.Attribute o f pos'] value pos) (sFld X.K ta tv f):=
 ⟨ps_fld ha.out hv.out hs⟩
end
section
variable {X:Cx} {pos:Pos}
theorem qs_asg {tg e:Expr} {te:TE} {g:TG} (he:QE X e te) (hg:QG X tg g) (hs:swapsWithSole [tg] e pos.line X.env=pure false:=by rfl) (hw:swappedStores [tg] e X.env=pure none:=by rfl) (h1:(assignEach [tg] X.env).map (·.2)=[assign tg X.env]:=by rfl):QS X (.Assign [tg] e pos) (tAsg te g):=
 ⟨ps_asg he.out hg.out hs hw h1⟩
end
section
variable {X:Cx} {pos:Pos}
theorem qg_name {i:Nat} {x:Str} (hN:X.N.Nodup) (hi:X.N[i]?=some x) (hx:Loc X.env.scope x) (hf:X.fn x=true∨X.env.scope.names.lookup x=some .local:=by first | exact .inl rfl | exact .inr rfl | assumption):QG X (.Name x pos) (gName i):=
 ⟨pg_name hN hi hx hf⟩
end
section
variable {X:Cx} {pos:Pos}
theorem qg_tup {es:List Expr} {k:Nat} {t:TGs} {n:Nat} (hc:X.calm=true) (h:QGs X es t) (hn:(assignEach es X.env).length=n:=by rfl) (hst:(assignEach es X.env).findIdx? (·.1)=none:=by rfl):QG X (.Tuple es k pos) (gTup X.K n t):=
 ⟨pg_tup hc h.out hn hst⟩
end
section
variable {X:Cx} {pos:Pos}
theorem qgs_nil  : QGs X [] gNil:=
 ⟨pgs_nil⟩
end
section
variable {X:Cx} {pos:Pos}
theorem qgs_cons {e:Expr} {es:List Expr} {t:TG} {u:TGs} (h1:QG X e t) (h2:QGs X es u) (hs:(assignEach (e :: es) X.env).map (·.2)=assign e X.env :: (assignEach es X.env).map (·.2):=by rfl):QGs X (e :: es) (gCons t u):=
 ⟨pgs_cons h1.out h2.out hs⟩
end
section
variable {X:Cx}
theorem qe_int {i j pos}:QE X (.Constant (.int i) j pos) (tC (.int i)):=
 ⟨pe_int⟩
end
section
variable {X:Cx}
theorem qe_bl {b j pos}:QE X (.Constant (.bool b) j pos) (tC (.bl b)):=
 ⟨pe_bl⟩
end
section
variable {X:Cx}
theorem qe_non {j pos}:QE X (.Constant .none j pos) (tC .non):=
 ⟨pe_non⟩
end
section
variable {X:Cx} {a b c:Expr} {ta tb tc:TE} {pos:Pos}
theorem qe_op {op:Operator} {r:R2} (ho:OpR X (binaryOp op) r) (ha:QE X a ta) (hb:QE X b tb):QE X (.BinOp a op b pos) (tOp r ta tb):=
 ⟨pe_op ho ha.out hb.out⟩
end
section
variable {X:Cx} {a b c:Expr} {ta tb tc:TE} {pos:Pos}
theorem qe_un {op:UnaryOp} {r:V→Hp→VK→Prop} (ho:UnR X (unaryOp op) r) (ha:QE X a ta):QE X (.UnaryOp op a pos) (tUn r ta):=
 ⟨pe_un ho ha.out⟩
end
section
variable {X:Cx} {a b c:Expr} {ta tb tc:TE} {pos:Pos}
theorem qe_cmpR {op:CmpOp} {r:R2} (ho:OpR X (compareOp op) r) (ha:QE X a ta) (hb:QE X b tb) (hm:behindInMarks op b=false):QE X (.Compare a [op] [b] pos) (tOp r ta tb):=
 ⟨pe_cmpR ho ha.out hb.out hm⟩
end
section
variable {X:Cx} {a b c:Expr} {ta tb tc:TE} {pos:Pos}
theorem qt_cmpR {op:CmpOp} {r:R2} (ho:OpR X (compareOp op) r) (ha:QE X a ta) (hb:QE X b tb) (hm:behindInMarks op b=false):QT X (.Compare a [op] [b] pos) (tTest (tOp r ta tb)):=
 ⟨pt_cmpR ho ha.out hb.out hm⟩
end
section
variable {X:Cx} {a b c:Expr} {ta tb tc:TE} {pos:Pos}
theorem qe_chain {op op':CmpOp} {r r':R2} (ho:OpR X (compareOp op) r) (ho':OpR X (compareOp op') r') (ha:QE X a ta) (hb:QE X b tb) (hc:QE X c tc) (hm:lastMarks [op,op'] [b,c]=false:=by with_unfolding_all rfl):QE X (.Compare a [op,op'] [b,c] pos) (tChain r r' ta tb tc):=
 ⟨pe_chain ho ho' ha.out hb.out hc.out hm⟩
end
section
variable {X:Cx} {a b c:Expr} {ta tb tc:TE} {pos:Pos}
theorem qt_chain {op op':CmpOp} {r r':R2} (ho:OpR X (compareOp op) r) (ho':OpR X (compareOp op') r') (ha:QE X a ta) (hb:QE X b tb) (hc:QE X c tc) (hm:lastMarks [op,op'] [b,c]=false:=by with_unfolding_all rfl):QT X (.Compare a [op,op'] [b,c] pos) (tTest (tChain r r' ta tb tc)):=
 ⟨pt_chain ho ho' ha.out hb.out hc.out hm⟩
end
section
variable {X:Cx} {a b:Expr} {ta tb:TE} {pos:Pos} {tA tB':TT} {rest:List Expr}
theorem qt_val {e:Expr} {t:TE} (h:QE X e t) (he:∀ whole,isTrue e X.env whole=(do let v ← whole;standAt e.pos;holding [v] (truthy v)):=by intro _;rfl):QT X e (tB t):=
 ⟨pt_val h.out he⟩
end
section
variable {X:Cx} {a b c:Expr} {ta tb tc:TE} {pos:Pos}
end
section
variable {X:Cx} {a b:Expr} {ta tb:TE} {pos:Pos} {tA tB':TT} {rest:List Expr}
theorem qt_not (ha:QT X a tA):QT X (.UnaryOp .Not a pos) (tNot tA):=
 ⟨pt_not ha.out⟩
end
section
variable {X:Cx} {a b:Expr} {ta tb:TE} {pos:Pos} {tA tB':TT} {rest:List Expr}
theorem qw_and (ha:QT X a tA) (hb:QW X (.BoolOp .And (b :: rest) pos) tB'):QW X (.BoolOp .And (a :: b :: rest) pos) (tAnd tA tB'):=
 ⟨pw_and ha.out hb.out⟩
end
section
variable {X:Cx} {a b:Expr} {ta tb:TE} {pos:Pos} {tA tB':TT} {rest:List Expr}
theorem qw_and1 (ha:QT X a tA):QW X (.BoolOp .And [a] pos) tA:=
 ⟨pw_and1 ha.out⟩
end
section
variable {X:Cx} {a b:Expr} {ta tb:TE} {pos:Pos} {tA tB':TT} {rest:List Expr}
theorem qw_or (ha:QT X a tA) (hb:QW X (.BoolOp .Or (b :: rest) pos) tB'):QW X (.BoolOp .Or (a :: b :: rest) pos) (tOr tA tB'):=
 ⟨pw_or ha.out hb.out⟩
end
section
variable {X:Cx} {a b:Expr} {ta tb:TE} {pos:Pos} {tA tB':TT} {rest:List Expr}
theorem qw_or1 (ha:QT X a tA):QW X (.BoolOp .Or [a] pos) tA:=
 ⟨pw_or1 ha.out⟩
end
section
variable {X:Cx} {a b:Expr} {ta tb:TE} {pos:Pos} {tA tB':TT} {rest:List Expr}
theorem qe_and (ha:QE X a ta) (hb:QE X (.BoolOp .And (b :: rest) pos) tb):QE X (.BoolOp .And (a :: b :: rest) pos) (tAndV ta tb):=
 ⟨pe_and ha.out hb.out⟩
end
section
variable {X:Cx} {a b:Expr} {ta tb:TE} {pos:Pos} {tA tB':TT} {rest:List Expr}
theorem qe_or (ha:QE X a ta) (hb:QE X (.BoolOp .Or (b :: rest) pos) tb):QE X (.BoolOp .Or (a :: b :: rest) pos) (tOrV ta tb):=
 ⟨pe_or ha.out hb.out⟩
end
section
variable {X:Cx} {a b:Expr} {ta tb:TE} {pos:Pos} {tA tB':TT} {rest:List Expr}
theorem qe_one {op} {t:TE} (h:QE X a t):QE X (.BoolOp op [a] pos) t:=
 ⟨pe_one h.out⟩
end
section
variable {X:Cx} {a b:Expr} {ta tb:TE} {pos:Pos} {tA tB':TT} {rest:List Expr}
theorem qe_not (ha:QE X a ta):QE X (.UnaryOp .Not a pos) (tNotV ta):=
 ⟨pe_not ha.out⟩
end
section
variable {X:Cx} {a b:Expr} {ta tb:TE} {pos:Pos} {tA tB':TT} {rest:List Expr}
theorem qe_ifExp {c:Expr} (hc:QT X c tA) (ha:QE X a ta) (hb:QE X b tb):QE X (.IfExp c a b pos) (tIf tA ta tb):=
 ⟨pe_ifExp hc.out ha.out hb.out⟩
end
section
variable {X:Cx} {a b c:Expr} {ta tb tc:TE} {pos:Pos}
theorem qe_ix {r:R2} (hr:IxR X r) (ha:QE X a ta) (hb:QE X b tb) (hs:PlainIx b):QE X (.Subscript a b pos) (tOp r ta tb):=
 ⟨pe_ix hr ha.out hb.out hs⟩
end
section
variable {X:Cx} {e:Expr} {te:TE} {lo hi:Option Expr} {tl th:TO} {pos p2:Pos}
theorem qe_slice {r:V→Option Int→Option Int→Hp→VK→Prop} (hr:SlR X r) (he:QE X e te) (hl:QO X lo tl) (hu:QO X hi th):QE X (.Subscript e (.Slice lo hi none p2) pos) (tSl r te tl th):=
 ⟨pe_slice hr he.out hl.out hu.out⟩
end
section
variable {X:Cx} {e:Expr} {te:TE} {lo hi:Option Expr} {tl th:TO} {pos p2:Pos}
theorem qo_none  : QO X none tNoPart:=
 ⟨po_none⟩
end
section
variable {X:Cx} {e:Expr} {te:TE} {lo hi:Option Expr} {tl th:TO} {pos p2:Pos}
theorem qo_some (h:QE X e te):QO X (some e) (tPart te):=
 ⟨po_some h.out⟩
end
section
variable {X:Cx} {e:Expr} {es:List Expr} {te:TE} {t:TA} {pos:Pos}
theorem qe_lst (h:QA X es t):QE X (.List es pos) (tLst t):=
 ⟨pe_lst h.out⟩
end
section
variable {X:Cx} {e:Expr} {es:List Expr} {te:TE} {t:TA} {pos:Pos}
theorem qe_tup {x1} (h:QA X es t):QE X (.Tuple es x1 pos) (tTup t):=
 ⟨pe_tup h.out⟩
end
section
variable {X:Cx} {e:Expr} {es:List Expr} {te:TE} {t:TA} {pos:Pos}
theorem qa_nil  : QA X [] tNil:=
 ⟨pa_nil⟩
end
section
variable {X:Cx} {e:Expr} {es:List Expr} {te:TE} {t:TA} {pos:Pos}
theorem qa_cons (ha:QE X e te) (hr:QA X es t) (hs:starEach (e :: es) X.env=(false,eval e X.env) :: starEach es X.env:=by rfl):QA X (e :: es) (tCons te t):=
 ⟨pa_cons ha.out hr.out hs⟩
end
section
variable {X:Cx} {x:Str} {p pos:Pos} {e:Expr} {es:List Expr} {t:TA} {id T:String} {r:List V→Hp→VK→Prop}
theorem qe_callB (hc:CallR X (.builtin id) r) (hg:Gl X x) (hm:X.mg x=none) (hv:bootBuiltins x=some (.builtin id)) (ha:QA X (e :: es) t) (hn:x≠"__name__":=by decide) (hdb:(x == ("__debug__":Str))=false:=by decide) (he:starEach (e :: es) X.env=(false,eval e X.env) :: starEach es X.env:=by rfl) (hpl:(backTo pos (starEach es X.env)).any (·.1)=false:=by rfl):QE X (.Call (.Name x p) (e :: es) [] pos) (tCB r t):=
 ⟨pe_callB hc hg hm hv ha.out hn hdb he hpl⟩
end
section
variable {X:Cx} {x:Str} {p pos:Pos} {e:Expr} {es:List Expr} {t:TA} {id T:String} {r:List V→Hp→VK→Prop}
theorem qe_callTy (hc:CallR X (.type T) r) (hg:Gl X x) (hm:X.mg x=none) (hv:bootBuiltins x=some (.type T)) (ha:QA X (e :: es) t) (hn:x≠"__name__":=by decide) (hdb:(x == ("__debug__":Str))=false:=by decide) (he:starEach (e :: es) X.env=(false,eval e X.env) :: starEach es X.env:=by rfl) (hpl:(backTo pos (starEach es X.env)).any (·.1)=false:=by rfl):QE X (.Call (.Name x p) (e :: es) [] pos) (tCB r t):=
 ⟨pe_callTy hc hg hm hv ha.out hn hdb he hpl⟩
end
section
variable {X:Cx} {x:Str} {p pos:Pos} {e:Expr} {es:List Expr} {t:TA} {id T:String} {r:List V→Hp→VK→Prop}
end
section
variable {X:Cx} {o e:Expr} {es:List Expr} {to:TE} {t:TA} {name:Str} {apos cpos:Pos} {T id:String} {r:V→List V→Hp→VK→Prop}
theorem qe_bm (pa:PlainAttrs T) (slot:Slot T name id) (hty:typeOf (.builtin id)=pure (.type "method_descriptor")) (hm:MtR X id r) (ho:QE X o to) (ha:QA X (e :: es) t) (hbase:attributeBase o name X.env (eval o X.env)=eval o X.env:=by rfl) (hfew:((backTo cpos (starEach (e :: es) X.env)).all (fun x=>!x.1) && (backToKw cpos (keywordEach [] X.env)).all (fun x=>x.1.isSome)
   && decide ((e :: es).length + ([]:List Keyword).length + (if ([]:List Keyword).isEmpty then 0 else 1) < 30))=true:=by rfl) (hline:(apos.endLine == cpos.line)=true:=by rfl) (hs:starEach (e :: es) X.env=(false,eval e X.env) :: starEach es X.env:=by rfl) (hplain:(backTo cpos (starEach es X.env)).any (·.1)=false:=by rfl):QE X (.Call (.Attribute o name apos) (e :: es) [] cpos) (tBM X.K T r to t):=
 ⟨pe_bm pa slot hty hm ho.out ha.out hbase hfew hline hs hplain⟩
end
section
variable {X:Cx} {o e:Expr} {es:List Expr} {to:TE} {t:TA} {name:Str} {apos cpos:Pos} {T id:String} {r:V→List V→Hp→VK→Prop}
theorem qe_bm0 (pa:PlainAttrs T) (slot:Slot T name id) (hty:typeOf (.builtin id)=pure (.type "method_descriptor")) (hm:MtR X id r) (ho:QE X o to) (hbase:attributeBase o name X.env (eval o X.env)=eval o X.env:=by rfl) (hline:(apos.endLine == cpos.line)=true:=by rfl):QE X (.Call (.Attribute o name apos) [] [] cpos) (tBM0 X.K T r to):=
 ⟨pe_bm0 pa slot hty hm ho.out hbase hline⟩
end
section
variable {X:Cx}
theorem qe_bltn {x:Str} {v:V} {u:Value} {pos:Pos} (hg:Gl X x) (hm:X.mg x=none) (hv:bootBuiltins x=some u) (r:RelV v u) (hn:x≠"__name__":=by decide) (hd:(x == ("__debug__":Str))=false:=by decide):QE X (.Name x pos) (tC v):=
 ⟨pe_bltn hg hm hv r hn hd⟩
end
section
variable {X:Cx}
theorem qe_glob {x:Str} {v:V} {u:Value} {pos:Pos} (hg:Gl X x) (hm:X.mg x=some u) (r:RelV v u) (hd:(x == ("__debug__":Str))=false:=by decide):QE X (.Name x pos) (tC v):=
 ⟨pe_glob hg hm r hd⟩
end
section
variable {X:Cx} {tg:Expr}
theorem qi_list {l:Expr} {tl:TE} (hl:QE X l tl):QI X tg l (iList X.K tl):=
 ⟨pi_list hl.out⟩
end
section
variable {X:Cx} {tg:Expr}
theorem qi_tup {l:Expr} {tl:TE} (hl:QE X l tl):QI X tg l (iTup X.K tl):=
 ⟨pi_tup hl.out⟩
end
section
variable {X:Cx} {tg:Expr}
theorem qi_range1 {a:Expr} {ta:TA} {p pos:Pos} (hg:Gl X "range") (hm:X.mg "range"=none) (ha:QA X [a] ta) (hs:starEach [a] X.env=[(false,eval a X.env)]:=by rfl):QI X tg (.Call (.Name "range" p) [a] [] pos) (iRng1 ta):=
 ⟨pi_range1 hg hm ha.out hs⟩
end
section
variable {X:Cx} {tg:Expr}
theorem qi_range2 {a b:Expr} {ta:TA} {p pos:Pos} (hg:Gl X "range") (hm:X.mg "range"=none) (ha:QA X [a,b] ta) (hs:starEach [a,b] X.env=[(false,eval a X.env),(false,eval b X.env)]:=by rfl) (hs2:starEach [b] X.env=[(false,eval b X.env)]:=by rfl):QI X tg (.Call (.Name "range" p) [a,b] [] pos) (iRng2 ta):=
 ⟨pi_range2 hg hm ha.out hs hs2⟩
end
section
variable {X:Cx} {o e value:Expr} {f:Str} {pos pos' tpos:Pos} {ta tv:TE}
theorem qe_fld (he:QE X e ta) (hb:attributeBase e f X.env (eval e X.env)=eval e X.env):QE X (.Attribute e f pos) (tFld X.K ta f):=
 ⟨pe_fld he.out hb⟩
end
section
variable {X:Cx} {CX:CXT} {k:Nat} {f C:Addr} {fd:FuncData} {ps:List Str} {sp:Sp} {dvs:List V} {ds:List Value} {E:XK} {x m:Str} {p pos apos:Pos} {e o:Expr} {es:List Expr} {ta:TE} {t:TA}
theorem qe_meth {pl:Sem Bool} (he:QE X o ta) (c:Cls X.K C) (hm:Meth X.K C m f) (F:FnOk X.prog X.w X.K X.mg X.base CX k f fd ps sp) (hr:Room k X.A) (hb:Binds X.K fd ps ds) (hd:Vals dvs ds) (hx:Passes CX X E) (ha:QA X (e :: es) t) (hst:starEach (e :: es) X.env=(false,eval e X.env) :: starEach es X.env:=by rfl) (hpl:(backTo pos (starEach es X.env)).any (·.1)=false:=by rfl) (ht:eval (.Call (.Attribute o m apos) (e :: es) [] pos) X.env=(do
   let ov ← eval o X.env
   standAt apos.atName
   let (f,first) ← holding [ov] (getMethod ov m pl)
   callWith pos f first (backTo pos (starEach (e :: es) X.env)) (backToKw pos (keywordEach [] X.env))):=by rfl):QE X (.Call (.Attribute o m apos) (e :: es) [] pos) (tMeth C m sp dvs E ta t):=
 ⟨pe_meth he.out c hm F hr hb hd hx ha.out hst hpl ht⟩
end
section
variable {X:Cx} {CX:CXT} {k:Nat} {f C:Addr} {fd:FuncData} {ps:List Str} {sp:Sp} {dvs:List V} {ds:List Value} {E:XK} {x m:Str} {p pos apos:Pos} {e o:Expr} {es:List Expr} {ta:TE} {t:TA}
theorem qe_meth0 {pl:Sem Bool} (he:QE X o ta) (c:Cls X.K C) (hm:Meth X.K C m f) (F:FnOk X.prog X.w X.K X.mg X.base CX k f fd ps sp) (hr:Room k X.A) (hb:Binds X.K fd ps ds) (hd:Vals dvs ds) (hx:Passes CX X E) (ht:eval (.Call (.Attribute o m apos) [] [] pos) X.env=(do
   let ov ← eval o X.env
   standAt apos.atName
   let (f,first) ← holding [ov] (getMethod ov m pl)
   callWith pos f first (backTo pos (starEach [] X.env)) (backToKw pos (keywordEach [] X.env))):=by rfl):QE X (.Call (.Attribute o m apos) [] [] pos) (tMeth C m sp dvs E ta tNil):=
 ⟨pe_meth0 he.out c hm F hr hb hd hx ht⟩
end
section
variable {X:Cx} {CX:CXT} {k:Nat} {f C:Addr} {fd:FuncData} {ps:List Str} {sp:Sp} {dvs:List V} {ds:List Value} {E:XK} {x m:Str} {p pos apos:Pos} {e o:Expr} {es:List Expr} {ta:TE} {t:TA}
theorem qe_make (M:Mk X.K C f) (F:FnOk X.prog X.w X.K X.mg X.base CX k f fd ps sp) (hr:Room (k + 1) X.A) (hg:Gl X x) (hm:X.mg x=some (.ref C)) (hb:Binds X.K fd ps ds) (hd:Vals dvs ds) (hx:Passes CX X E) (ha:QA X (e :: es) t) (hdb:(x == ("__debug__":Str))=false:=by decide) (he:starEach (e :: es) X.env=(false,eval e X.env) :: starEach es X.env:=by rfl) (hpl:(backTo pos (starEach es X.env)).any (·.1)=false:=by rfl):QE X (.Call (.Name x p) (e :: es) [] pos) (tMake C sp dvs E t):=
 ⟨pe_make M F hr hg hm hb hd hx ha.out hdb he hpl⟩
end
section
variable {X:Cx} {CX:CXT} {k:Nat} {f C:Addr} {fd:FuncData} {ps:List Str} {sp:Sp} {dvs:List V} {ds:List Value} {E:XK} {x m:Str} {p pos apos:Pos} {e o:Expr} {es:List Expr} {ta:TE} {t:TA}
end
section
variable {X:Cx} {o i value:Expr} {td ty tv:TE} {pos pos':Pos}
theorem qe_dnewK  : QE X (.Dict [] [] pos) tDNewK:=
 ⟨pe_dnewK⟩
end
section
variable {X:Cx} {o i value:Expr} {td ty tv:TE} {pos pos':Pos}
theorem qc_din (hu:X.A.units + 1 < cLine) (hi:QE X i ty) (ho:QE X o td):QC X .In i o (tDIn ty td):=
 ⟨pc_din hu hi.out ho.out⟩
end
section
variable {X:Cx} {o i value:Expr} {td ty tv:TE} {pos pos':Pos}
end
section
variable {X:Cx} {o e:Expr} {td ty:TE} {apos cpos:Pos}
end
section
variable {X:Cx} {o i value:Expr} {td ty tv:TE} {pos pos':Pos}
theorem qs_dput (hu:X.A.units + 1 < cLine) (ho:QE X o td) (hi:QE X i ty) (hv:QE X value tv) (hs:swapsWith value (some (.Subscript o i pos')) pos.line X.env=pure false):QS X (.Assign [.Subscript o i pos'] value pos) (sDPut td ty tv):=
 ⟨ps_dput hu ho.out hi.out hv.out hs⟩
end
section
variable {X:Cx} {a b:Expr} {ta tb:TE} {pos:Pos} {tA tB':TT} {rest:List Expr}
theorem qe_cmp {op:CmpOp} {t:TE} (h:QC X op a b t) (h1:behindInMarks op b=false:=by first | exact nobehind _ (by decide) (by decide) | rfl):QE X (.Compare a [op] [b] pos) t:=
 ⟨pe_cmp h.out h1⟩
end
section
variable {X:Cx} {a b:Expr} {ta tb:TE} {pos:Pos} {tA tB':TT} {rest:List Expr}
end
section
variable {X:Cx}
theorem qv (i:Nat) {x:Str} {pos:Pos} (hN:X.N[i]?=some x:=by rfl) (hv:Vis X.env.scope x:=by first | exact Or.inl rfl | exact Or.inr (Or.inl rfl) | exact Or.inr (Or.inr rfl)) (hd:(x == ("__debug__":Str))=false:=by decide) (hcd:(x == ("__classdict__":Str))=false:=by decide):QE X (.Name x pos) (tVar i):=
 ⟨pv i hN hv hd hcd⟩
end
section
variable {X:Cx}
theorem qts_nil {X:Cx}:QTs X [] tYes:=
 ⟨pts_nil⟩
end
section
variable {X:Cx}
theorem qts_one {X:Cx} {c:Expr} {t:TT} (h:QT X c t):QTs X [c] t:=
 ⟨pts_one h.out⟩
end
section
variable {X:Cx}
theorem qe_strS (l:List Nat) {x:Str} {j pos} (h:x=S l):QE X (.Constant (.str x) j pos) (tC (.str (S l))):=
 ⟨pe_strS l h⟩
end
section
variable {X:Cx} {e:Expr} {es:List Expr} {te:TE} {t:TA} {pos:Pos}
end
section
variable {X:Cx} {x:Str} {p pos:Pos} {e:Expr} {es:List Expr} {t:TA}
theorem qe_own {k:Nat} {ps:List Str} {sp:Sp} (D:Def X.prog X.w X.K X.mg X.base x k ps sp) (hr:Room k X.A) (hg:Gl X x) (ha:QA X (e :: es) t) (hdb:(x == ("__debug__":Str))=false:=by decide) (hs:starEach (e :: es) X.env=(false,eval e X.env) :: starEach es X.env:=by rfl) (hpl:(backTo pos (starEach es X.env)).any (·.1)=false:=by rfl):QE X (.Call (.Name x p) (e :: es) [] pos) (tCall sp [] E0 t):=
 ⟨pe_own D hr hg ha.out hdb hs hpl⟩
end
section
variable {X:Cx} {o e st:Expr} {to te tst:TE} {apos cpos rpos pos p p2:Pos}
end
section
variable {X:Cx} {o e st:Expr} {to te tst:TE} {apos cpos rpos pos p p2:Pos}
theorem qe_revS (he:QE X e te) (hst:QE X st tst):QE X (.Subscript e (.Slice none none (some st) p2) pos) (tRevS te tst):=
 ⟨pe_revS he.out hst.out⟩
end
theorem qe_comp {X:Cx} {elt iter:Expr} {x:Str} {px:Pos} {ifs:List Expr} {scope:Scope} {pos:Pos} {wi:TI} {tt:TT} {te:TE} (hc:X.calm=true) (ok:CompOk X scope x) (hi:QI X (.Name x px) iter wi)
  (ht:∀ cl C s₀ H₀ fp,QTs (blk X scope cl C x s₀ H₀ fp) ifs tt) (he:∀ cl C s₀ H₀ fp,QE (blk X scope cl C x s₀ H₀ fp) elt te)
  (hs:∀ x,foldedSetIterable iter X.env x=pure x:=by intro _;rfl):QE X (.ListComp elt [⟨.Name x px,iter,ifs,0⟩] scope pos) (tComp wi tt te):=
 ⟨pe_comp hc ok hi.out (fun cl C s₀ H₀ fp=>(ht cl C s₀ H₀ fp).out) (fun cl C s₀ H₀ fp=>(he cl C s₀ H₀ fp).out) hs⟩
theorem DefAt.qok {P:Program} {w:World} {K:PySem.W.Frag} {mg:Str→Option Value} {base:Heap} {name:Str} {st:Stmt} {N ps:List Str} {k:Nat} {sp:Sp} (D:DefAt K mg name st ps) (S:FnScope N ps (defScope st)) (len:∀ vs H Q E,sp vs H Q E→vs.length=ps.length)
  (hbody:∀ (f:Addr) (cdv:Value) (A:Around) (outer:List Env) (s:Shared) (H:Hp) (vs:List V) (Q:VK) (E:XK),Room k (A.deeper (envOfC name (defScope st) s.heap.objs.size f cdv))→sp vs H Q E→
   ∃ t,QSs (cxOf CX0 P w K mg base N name (defScope st) f cdv A outer s H E).nox (defBody st) t∧t { nx:=fun _ H'=>Q .non H',rt:=Q } (start N vs) H):Def P w K mg base name (k + 1) ps sp:=
 D.ok S len fun f cdv A outer s H vs Q E hr h=>let ⟨t,a,b⟩:=hbody f cdv A outer s H vs Q E hr h;⟨t,a.out,b⟩
theorem Fun.qok {P:Program} {w:World} {K:PySem.W.Frag} {mg:Str→Option Value} {base:Heap} {x qual:Str} {st:Stmt} {f:Addr} {fd:FuncData} {N ps:List Str} {k:Nat} {sp:Sp} (F:Fun K x qual st f fd) (S:FnScope N ps (defScope st)) (len:∀ vs H Q E,sp vs H Q E→vs.length=ps.length)
  (hbody:∀ (cdv:Value) (A:Around) (outer:List Env) (s:Shared) (H:Hp) (vs:List V) (Q:VK) (E:XK),Room k (A.deeper (envOfC qual (defScope st) s.heap.objs.size f cdv))→sp vs H Q E→
   ∃ t,QSs (cxOf CX0 P w K mg base N qual (defScope st) f cdv A outer s H E).nox (defBody st) t∧t { nx:=fun _ H'=>Q .non H',rt:=Q } (start N vs) H):FnOk P w K mg base CX0 (k + 1) f fd ps sp:=
 F.ok S len fun cdv A outer s H vs Q E hr h=>let ⟨t,a,b⟩:=hbody cdv A outer s H vs Q E hr h;⟨t,a.out,b⟩
end L2
end
section
set_option Elab.async false
set_option linter.all false
set_option maxRecDepth 100000
namespace L2
open PySem PySem.Spec PyProof.Rows
section
variable {prog:Program} {w:World} {A:Around} {E:Value→Shared→Prop} {s:Shared}
end
section
variable {X:Cx}
theorem vals_of_strs:∀ {ss:List Str} {us:List Value},StrsAre us ss→Vals (ss.map V.str) us
 | _,_,.nil=>.nil
 | _,_,.cons x t r=>.cons ⟨t,rfl⟩ (vals_of_strs r)
end
end L2
end
section
set_option Elab.async false
set_option linter.all false
set_option maxRecDepth 100000
namespace L2
open PySem PySem.Spec PyProof.Rows
def Its (l:List Nat):It:=⟨fun i _=>i < l.length,fun i H x H'=>H'=H∧∃ c,l[i]?=some c∧x=.str (S [c]),fun i _=>l.length≤i⟩
theorem turn_str {P:Program} {w:World} {K:PySem.W.Frag} {tg:Expr} {ty:String} (hty:ty="str_ascii_iterator"∨ty="str_iterator") (l:List Nat) (t:Tok) (it:Addr) :
  Turn P w K tg (Its l) [it] it (fun i h=>i≤l.length∧h.IsStrIter it ty (S l) t i) where
 mem:=by simp
 obj:=fun i h st b hb=>by
  have e:b=it:=by simpa using hb
  subst e
  obtain ⟨_,o,e,c,d⟩:=st
  exact ⟨o,e,fun v z=>by rw [d] at z;cases z⟩
 keep:=fun i h h' st k=>⟨st.1,let ⟨o,ho,r⟩:=st.2;⟨o,k it (by simp) o ho,r⟩⟩
 item:=by
  intro X hP hw hK hc i pins s σ H E I hf st hg
  subst hP hw hK
  obtain ⟨f0,f1,f2,f3,f4,f5⟩:=hf it (by simp)
  have hg':i < (S l).cps.size:=hg
  have fin:∀ (v:Value) (h':Heap) (tk:Nat),SignAt (S l) i v→h'.IsStrIter it ty (S l) t (i + 1)→(∀ b o,b∉[it]→s.heap.get? b=some o→h'.get? b=some o)→
    ∃ u,some v=some u∧wpAny (model X.prog X.w) X.A (letOwnedTupleGo tg (.ref it) u) (fun _ s2=>∃ x H',Inv X pins σ H' s2∧RelV x u∧(Its l).yld i H x H'∧(i + 1≤l.length∧s2.heap.IsStrIter it ty (S l) t (i + 1))∧∀ b∈[it],H' b=none) E { s with heap:=h',toks:=tk }:=by
   intro v h' tk hv st' kk
   obtain ⟨c,u,hc',rfl⟩:=hv
   have I1:Inv X pins σ H { s with heap:=h',toks:=tk }:=I.turned (fun b o hb e=>kk b o (by simpa using hb) e) f0 f1 f3 f4 f5
   obtain ⟨o,e,c2,d2⟩:=id st'
   refine ⟨_,rfl,go_of (s:={ s with heap:=h',toks:=tk }) e c2 d2 (by rcases hty with rfl | rfl <;> decide) ⟨.str (S [c]),H,I1,⟨u,rfl⟩,⟨rfl,c,by simpa [S] using hc',rfl⟩,⟨hg,st'⟩,fun b hb=>(hf b hb).1⟩⟩
  rcases hty with rfl | rfl
  ·exact (Walks.strAscii (prog:=X.prog) (w:=X.w) (I.ok.hd hc) it (S l) t).item i s _ _ hg' st.2 fun v h' tk hv st' kk=>fin v h' tk hv st' kk
  ·exact (Walks.strWide (prog:=X.prog) (w:=X.w) (I.ok.hd hc) it (S l) t).item i s _ _ hg' st.2 fun v h' tk hv st' kk=>fin v h' tk hv st' kk
 done:=by
  intro X hP hw hK hc i pins s σ H E I hf st hg
  subst hP hw hK
  obtain ⟨f0,f1,f2,f3,f4,f5⟩:=hf it (by simp)
  have hi:i=(S l).cps.size:=Nat.le_antisymm st.1 hg
  have st':=st.2
  rw [hi] at st'
  rcases hty with rfl | rfl
  ·exact (Walks.strAscii (prog:=X.prog) (w:=X.w) (I.ok.hd hc) it (S l) t).done s _ _ st' fun h' tk kk=>⟨rfl,I.turned (fun b o hb e=>kk b o (by simpa using hb) e) f0 f1 f3 f4 f5⟩
  ·exact (Walks.strWide (prog:=X.prog) (w:=X.w) (I.ok.hd hc) it (S l) t).done s _ _ st' fun h' tk kk=>⟨rfl,I.turned (fun b o hb e=>kk b o (by simpa using hb) e) f0 f1 f3 f4 f5⟩
 self:=fun A i s Q E st h=>by
  rcases hty with rfl | rfl
  ·exact wpAny_pyIter_striter_ascii st.2 h
  ·exact wpAny_pyIter_striter_wide st.2 h
theorem nlt_trans {a b c:List Nat} (h1:¬b < a) (h2:¬c < b):¬c < a:=by
 have h1':a≤b:=h1
 have h2':b≤c:=h2
 exact List.le_trans h1' h2'
theorem rising_pw:∀ (r:List Str) (p:Str),risingS p r=true→(∀ x∈r,¬x.cps.toList < p.cps.toList)∧(r.map fun y=>y.cps.toList).Pairwise (fun a b=>decide (b < a)=false)
 | [],_,_=>⟨fun _ h=>by simp at h,List.Pairwise.nil⟩
 | y :: r,p,h=>by
  rw [risingS,Bool.and_eq_true] at h
  have h0:¬y.cps.toList < p.cps.toList:=by
   have:=h.1
   simpa [ltCps_eq] using this
  obtain ⟨h1,h2⟩:=rising_pw r y h.2
  refine ⟨fun x hx=>?_,?_⟩
  ·rcases List.mem_cons.mp hx with e | e
   ·rw [e];exact h0
   ·exact nlt_trans h0 (h1 x e)
  ·rw [List.map_cons]
   refine List.Pairwise.cons (fun b hb=>?_) h2
   obtain ⟨x,hx,rfl⟩:=List.mem_map.mp hb
   exact decide_eq_false (h1 x hx)
theorem sorted_pw (ss:List Str) (h:sortedS ss=true):(ss.map fun y=>y.cps.toList).Pairwise (fun a b=>decide (b < a)=false):=by
 cases ss with
 | nil=>exact List.Pairwise.nil
 | cons x r=>
  obtain ⟨h1,h2⟩:=rising_pw r x h
  rw [List.map_cons]
  refine List.Pairwise.cons (fun b hb=>?_) h2
  obtain ⟨y,hy,rfl⟩:=List.mem_map.mp hb
  exact decide_eq_false (h1 y hy)
section
variable {X:Cx} {tg:Expr}
def iStr (tl:TE):TI:=fun σ H R=>tl σ H fun x H1=>∃ l,x=.str (S l)∧R (Its l) H1
theorem qi_str {l:Expr} {tl:TE} (hl:QE X l tl):QI X tg l (iStr tl):=⟨by
 intro pins s σ H R I h
 refine thn (hl.out pins s σ H _ I h) fun v s1 ⟨x,H1,I1,r1,q1⟩=>?_
 obtain ⟨l,e,q⟩:=q1
 subst e
 obtain ⟨t,rfl⟩:=r1
 refine wpAny_pyIter_strU ?_
 have hty:strIterType (S l)="str_ascii_iterator"∨strIterType (S l)="str_iterator":=by unfold strIterType;split <;> simp
 refine ⟨s1.heap.objs.size,[s1.heap.objs.size],_,_,H1,rfl,I1.kept (t':=s1.toks) fun b o e=>Heap.get?_push_of_some _ e,turn_str hty l t _,⟨Nat.zero_le _,_,Heap.get?_push_size _ rfl,rfl,rfl⟩,fun b hb=>?_,q⟩
 have e:b=s1.heap.objs.size:=by simpa using hb
 subst e
 exact I1.fpOk (Nat.le_refl _) (I1.hok.fresh (Nat.le_refl _))⟩
theorem comp_str {l:List Nat} {D:Addr} {te:TE} {σ:St} {H:Hp} {R:Hp→Prop} (Pv:Nat→List V→Hp→Prop) (h0:Pv 0 [] (upd H D (.lst [])))
  (hs:∀ i c ys H,l[i]?=some c→Pv i ys H→te (some (.str (S [c])) :: σ) H fun y H3=>H3 D=some (.lst ys)∧ys.length < sizeLine∧Nxt l.length i (Pv (i + 1) (ys ++ [y]) (upd H3 D (.lst (ys ++ [y])))))
  (hd:∀ ys H,Pv l.length ys H→R H) :
  ∃ W:Nat→Nat→List V→Hp→Prop,(∃ m,W 0 m [] (upd H D (.lst [])))∧
   ∀ i m ys H,W i m ys H→((Its l).stop i H∧R H)∨((Its l).go i H∧∀ x H',(Its l).yld i H x H'→tYes (some x :: σ) H' fun b H2=>
    if b=true then te (some x :: σ) H2 fun y H3=>H3 D=some (.lst ys)∧ys.length < sizeLine∧∃ m',m' < m∧W (i + 1) m' (ys ++ [y]) (upd H3 D (.lst (ys ++ [y])))
    else ∃ m',m' < m∧W (i + 1) m' ys H2):=by
 refine ⟨fun i m ys H=>m=l.length - i∧i≤l.length∧Pv i ys H,⟨l.length,by simp,Nat.zero_le _,h0⟩,?_⟩
 rintro i m ys H ⟨rfl,hi,p⟩
 by_cases hlt:i < l.length
 ·refine .inr ⟨hlt,fun x H' y=>?_⟩
  obtain ⟨e,c,hc,e2⟩:=y
  subst e e2
  exact hs i c ys H' hc p
 ·have e:i=l.length:=by omega
  subst e
  exact .inl ⟨Nat.le_refl _,hd ys H p⟩
theorem call_all (hc:X.calm=true):CallR X (.builtin "all") (fun xs H Q=>∃ (p:Addr) (bs:List Bool),xs=[.ref p]∧SqL X.K H p (bs.map V.bl)∧Q (.bl (bs.all id)) H):=by
 intro pins s σ H xs us Q I r h
 obtain ⟨p,bs,rfl,hq,q⟩:=h
 obtain ⟨u,rfl,ru⟩:=vals1 r
 cases ru
 obtain ⟨its,rv,pl,hz⟩:=I.list hq
 have hne:p≠s.heap.objs.size:=by
  obtain ⟨o,ho,_⟩:=pl.isList
  exact Nat.ne_of_lt (Heap.lt_size ho)
 have hb:∀ (i:Nat) (v:Value),its[i]?=some v→v=.bool (bs.getD i true):=fun i v hv=>by
  have hlen:=rv.length
  have hi:i < bs.length:=by have:=(List.getElem?_eq_some_iff.mp hv).1;simp at hlen;omega
  obtain ⟨u,hu,ru⟩:=rv.get (i:=i) (x:=.bl bs[i]) (by simp [hi])
  rw [hv] at hu;cases hu
  cases ru
  simp [List.getD,hi]
 refine call_all_walk (wpAny_pyIter_list pl.isList ?_)
 refine ⟨s.heap.objs.size,_,_,_,_,_,fun i=>bs.getD i true,rfl,Walks.list (A:=X.A.in1) (I.ok.hd hc) s.heap.objs.size p hne its.toArray,⟨⟨_,Heap.get?_push_size _ rfl,rfl,rfl⟩,pl.isList.at fun o e=>Heap.get?_push_of_some _ e⟩,?_,fun h' tk kk=>?_⟩
 ·intro i v s' Q' E' hv hq'
  have e:=hb i v (by simpa using hv)
  subst e
  exact wpAny_truthy_bool hq'
 ·have I1:Inv X pins σ H { s with heap:=h',toks:=tk }:=I.kept fun b o e=>kk b o (by
   intro hm
   have:b=s.heap.objs.size:=by simpa using hm
   subst this
   exact absurd (Heap.lt_size e) (Nat.lt_irrefl _)) (Heap.get?_push_of_some _ e)
  refine ⟨.bl (bs.all id),H,I1,?_,q⟩
  show Value.bool _=Value.bool _
  have hlen:its.toArray.size=bs.length:=by have:=rv.length;simp at this;simp [this]
  rw [hlen]
  congr 1
  have key:∀ bs:List Bool,(List.range bs.length).all (fun i=>bs.getD i true)=bs.all id:=fun bs=>by
   rw [Bool.eq_iff_iff,List.all_eq_true,List.all_eq_true]
   constructor
   ·intro h x hx
    obtain ⟨i,hi,rfl⟩:=List.mem_iff_getElem.mp hx
    have:=h i (List.mem_range.mpr hi)
    simpa [List.getD,hi] using this
   ·intro h i hi
    have hi':=List.mem_range.mp hi
    have:=h bs[i] (List.getElem_mem _)
    simpa [List.getD,hi'] using this
  exact key bs
def rLeS:R2:=fun x y H Q=>∃ i j,x=.str (S i)∧y=.str (S j)∧Q (.bl (!decide (j < i))) H
theorem op_leS:OpR X (compareOp .LtE) rLeS:=by
 intro pins s σ H x y v u Q I rx ry h
 obtain ⟨i,j,rfl,rfl,q⟩:=h
 obtain ⟨t,rfl⟩:=rx
 obtain ⟨t',rfl⟩:=ry
 exact PySem.P.le_str ⟨.bl _,H,I,rfl,q⟩
abbrev keyS (l:List Nat):Key:=Sum.inr (S l)
theorem QI.or {iter:Expr} {w1 w2:TI} (h1:QI X tg iter w1) (h2:QI X tg iter w2):QI X tg iter (fun σ H R=>w1 σ H R∨w2 σ H R):=⟨fun pins s σ H R I h=>by
 rcases h with h | h
 ·exact h1.out pins s σ H R I h
 ·exact h2.out pins s σ H R I h⟩
end
theorem SqL.keep {K:PySem.W.Frag} {H H':Hp} {a p:Addr} {xs:List V} (k:∀ b o,H b=some o→b≠p→H' b=some o) (hp:∀ o,H p=some o→(∀ ys,o≠.lst ys)∧∀ u ys,o≠.frz u (.lst ys)) (h:SqL K H a xs):SqL K H' a xs:=by
 rcases h with (h | ⟨o,h⟩) | h
 ·exact .inl (.inl (k _ _ h fun e=>(hp _ (e ▸ h)).1 _ rfl))
 ·exact .inl (.inr ⟨o,k _ _ h fun e=>(hp _ (e ▸ h)).2 _ _ rfl⟩)
 ·exact .inr h
theorem SqT.keep {K:PySem.W.Frag} {H H':Hp} {a p:Addr} {xs:List V} (k:∀ b o,H b=some o→b≠p→H' b=some o) (hp:∀ o,H p=some o→(∀ ys,o≠.tup ys)∧∀ u ys,o≠.frz u (.tup ys)) (h:SqT K H a xs):SqT K H' a xs:=by
 rcases h with (h | ⟨o,h⟩) | h
 ·exact .inl (.inl (k _ _ h fun e=>(hp _ (e ▸ h)).1 _ rfl))
 ·exact .inl (.inr ⟨o,k _ _ h fun e=>(hp _ (e ▸ h)).2 _ _ rfl⟩)
 ·exact .inr h
end L2
end
section
set_option Elab.async false
set_option linter.all false
set_option maxRecDepth 100000
namespace L2
open PySem PySem.Spec PyProof.Rows PySem.SeqAt PySem.MeetsSeq PySem.MeetsSeq3
open AutoSeq1 (wpAny_loadPart')
section
variable {X:Cx}
end
end L2
end
section
set_option Elab.async false
set_option linter.all false
set_option maxRecDepth 100000
namespace L2
open PySem PySem.Spec PyProof.Rows
section
variable {X:Cx}
def CDivB (i j:Int):Prop:=0 < j∧j.natAbs.log2 < 9000
theorem op_fdivB:OpR X (binaryOp .FloorDiv) (rI CDivB fun i j=>.int (i / j)):=opI fun i j _ _ _ _ _ hc q=>by
 have e:i.fdiv j=i / j:=Int.fdiv_eq_ediv_of_nonneg _ (Int.le_of_lt hc.1)
 rw [← e] at q
 exact floordiv_int (Int.ne_of_gt hc.1) q (.inl (PyProof.noPylong_of_log2 hc.2))
def rUpA:V→List V→Hp→VK→Prop:=fun x vs H Q=>∃ l,x=.str (S l)∧vs=[]∧l.length≤1000∧(∀ c∈l,c < 128)∧Q (.str (S (l.map up1))) H
theorem mt_upA:MtR X "str.upper" rUpA:=by
 intro pins s σ H x vs v us Q I rx rv h
 obtain ⟨l,rfl,rfl,hz,ha,q⟩:=h
 obtain ⟨t,rfl⟩:=rx
 have hus:=rv.zero
 subst hus
 have hfit:Builtin.Str.tooLong (Txt.upper (S l)).length=false:=fit_upper (by rw [S_len];omega)
 refine call_gives F.slot_str_upper (typeIs_str s _ t) F.entry_str_upper (F.args_str_upper_1 _) (gives_str_upper (S l) t hfit) ⟨fit_le hfit,?_⟩
 have e:Txt.upper (S l)=S (l.map up1):=by rw [upper_ascii (x:=S l) ha];simp [S]
 exact ⟨.str (S (l.map up1)),H,I.tok _,⟨s.toks,congrArg (fun z=>Value.str z s.toks) e⟩,q⟩
def rLoA:V→List V→Hp→VK→Prop:=fun x vs H Q=>∃ l,x=.str (S l)∧vs=[]∧l.length≤1000∧(∀ c∈l,c < 128)∧Q (.str (S (l.map lo1))) H
theorem mt_loA:MtR X "str.lower" rLoA:=by
 intro pins s σ H x vs v us Q I rx rv h
 obtain ⟨l,rfl,rfl,hz,ha,q⟩:=h
 obtain ⟨t,rfl⟩:=rx
 have hus:=rv.zero
 subst hus
 have hfit:Builtin.Str.tooLong (Txt.lower (S l)).length=false:=fit_lower (by rw [S_len];omega)
 refine call_gives F.slot_str_lower (typeIs_str s _ t) F.entry_str_lower (F.args_str_lower_1 _) (gives_str_lower (S l) t hfit) ⟨fit_le hfit,?_⟩
 have e:Txt.lower (S l)=S (l.map lo1):=by rw [lower_ascii (x:=S l) ha];simp [S]
 exact ⟨.str (S (l.map lo1)),H,I.tok _,⟨s.toks,congrArg (fun z=>Value.str z s.toks) e⟩,q⟩
end
theorem for_str {l:List Nat} {g:TG} {tb:TS} {D:Ends} {σ:St} {H:Hp} (Pv:Nat→St→Hp→Prop) (h0:Pv 0 σ H)
  (hs:∀ i c σ H,l[i]?=some c→Pv i σ H→g (.str (S [c])) σ H fun σ2 H2=>tb { D with nx:=Pv (i + 1),ct:=Pv (i + 1),bk:=D.nx } σ2 H2) (hd:∀ σ H,Pv l.length σ H→D.nx σ H) :
  ∃ W:Nat→Nat→St→Hp→Prop,(∃ m,W 0 m σ H)∧∀ i m σ H,W i m σ H→
   ((Its l).stop i H∧D.nx σ H)∨((Its l).go i H∧∃ N:St→Hp→Prop,(∀ σ' H',N σ' H'→∃ m',m' < m∧W (i + 1) m' σ' H')∧∀ x H',(Its l).yld i H x H'→g x σ H' fun σ2 H2=>tb { D with nx:=N,ct:=N,bk:=D.nx } σ2 H2):=by
 refine ⟨fun i m σ H=>m=l.length - i∧i≤l.length∧Pv i σ H,⟨l.length,by simp,Nat.zero_le _,h0⟩,?_⟩
 rintro i m σ H ⟨rfl,hi,p⟩
 by_cases hlt:i < l.length
 ·refine .inr ⟨hlt,Pv (i + 1),fun σ' H' p'=>⟨l.length - (i + 1),by omega,rfl,hlt,p'⟩,fun x H' y=>?_⟩
  obtain ⟨e,c,hc,e2⟩:=y
  subst e e2
  exact hs i c σ _ hc p
 ·have e:i=l.length:=by omega
  subst e
  exact .inl ⟨Nat.le_refl _,hd σ H p⟩
def AL:List Nat:=(List.range 26).map (97 + ·)
theorem at_modA {α:Type} {xs:List α} {n:Nat} (hn:xs.length=n) (h:0 < n) (c:Int):∃ v,atI xs (c % (n:Int))=some v∧v∈xs:=by
 have h0:0≤c % (n:Int):=Int.emod_nonneg _ (by omega)
 have h1:c % (n:Int) < n:=Int.emod_lt_of_pos _ (by omega)
 obtain ⟨k,hk⟩:∃ k:Nat,c % (n:Int)=(k:Int):=⟨(c % (n:Int)).toNat,by omega⟩
 rw [hk]
 have hl:k < xs.length:=by omega
 exact ⟨xs[k],atI_nat (by simp [hl]),List.getElem_mem _⟩
end L2
end
section
set_option Elab.async false
set_option linter.all false
set_option maxRecDepth 100000
namespace L2
open PySem PySem.Spec PyProof.Rows
inductive Dt where
 | non | int (i:Int) | str (l:List Nat) | tup (ds:List Dt) | lst (ds:List Dt)
mutual
def toP:Dt→PyData
 | .non=>.none
 | .int i=>.int i
 | .str l=>.str (S l)
 | .tup ds=>.tuple (toPs ds)
 | .lst ds=>.list (toPs ds)
def toPs:List Dt→List PyData
 | []=>[]
 | d :: ds=>toP d :: toPs ds
end
mutual
theorem eqv_D:∀ d e:Dt,PyData.eqv (toP d) (toP e)=true↔d=e
 | .non,.non=>by simp [toP,PyData.eqv]
 | .non,.int _=>by simp [toP,PyData.eqv]
 | .non,.str _=>by simp [toP,PyData.eqv]
 | .non,.tup _=>by simp [toP,PyData.eqv]
 | .non,.lst _=>by simp [toP,PyData.eqv]
 | .int _,.non=>by simp [toP,PyData.eqv]
 | .int _,.int _=>by simp [toP,PyData.eqv]
 | .int _,.str _=>by simp [toP,PyData.eqv]
 | .int _,.tup _=>by simp [toP,PyData.eqv]
 | .int _,.lst _=>by simp [toP,PyData.eqv]
 | .str _,.non=>by simp [toP,PyData.eqv]
 | .str _,.int _=>by simp [toP,PyData.eqv]
 | .str a,.str b=>by
  simp only [toP,PyData.eqv,beq_iff_eq,Dt.str.injEq]
  exact ⟨S_inj,fun z=>by rw [z]⟩
 | .str _,.tup _=>by simp [toP,PyData.eqv]
 | .str _,.lst _=>by simp [toP,PyData.eqv]
 | .tup _,.non=>by simp [toP,PyData.eqv]
 | .tup _,.int _=>by simp [toP,PyData.eqv]
 | .tup _,.str _=>by simp [toP,PyData.eqv]
 | .tup ds,.tup es=>by simp only [toP,PyData.eqv,Dt.tup.injEq];exact eqv_Ds ds es
 | .tup _,.lst _=>by simp [toP,PyData.eqv]
 | .lst _,.non=>by simp [toP,PyData.eqv]
 | .lst _,.int _=>by simp [toP,PyData.eqv]
 | .lst _,.str _=>by simp [toP,PyData.eqv]
 | .lst _,.tup _=>by simp [toP,PyData.eqv]
 | .lst ds,.lst es=>by simp only [toP,PyData.eqv,Dt.lst.injEq];exact eqv_Ds ds es
theorem eqv_Ds:∀ ds es:List Dt,PyData.eqvAll (toPs ds) (toPs es)=true↔ds=es
 | [],[]=>by simp [toPs,PyData.eqvAll]
 | [],_ :: _=>by simp [toPs,PyData.eqvAll]
 | _ :: _,[]=>by simp [toPs,PyData.eqvAll]
 | d :: ds,e :: es=>by
  simp only [toPs,PyData.eqvAll,Bool.and_eq_true,List.cons.injEq]
  rw [eqv_D d e,eqv_Ds ds es]
end
open Classical in
theorem eqv_dec (d e:Dt):PyData.eqv (toP d) (toP e)=decide (d=e):=by
 by_cases h:d=e
 ·rw [decide_eq_true h];exact (eqv_D d e).mpr h
 ·rw [decide_eq_false h]
  cases z:PyData.eqv (toP d) (toP e) with
  | false=>rfl
  | true=>exact absurd ((eqv_D d e).mp z) h
mutual
inductive HasD (K:PySem.W.Frag) (H:Hp):Nat→Dt→V→Prop
 | non {n}:HasD K H n .non .non
 | int {n} (i:Int):HasD K H n (.int i) (.int i)
 | str {n} (l:List Nat) (h:∀ c∈l,c < 128):HasD K H n (.str l) (.str (S l))
 | tup {n a ds xs} (h:SqT K H a xs) (hs:HasDs K H n ds xs):HasD K H (n + 1) (.tup ds) (.ref a)
 | lst {n a ds xs} (h:SqL K H a xs) (hs:HasDs K H n ds xs):HasD K H (n + 1) (.lst ds) (.ref a)
inductive HasDs (K:PySem.W.Frag) (H:Hp):Nat→List Dt→List V→Prop
 | nil {n}:HasDs K H n [] []
 | cons {n d ds x xs} (h:HasD K H n d x) (hs:HasDs K H n ds xs):HasDs K H n (d :: ds) (x :: xs)
end
theorem strOk_S {l:List Nat} (h:∀ c∈l,c < 128):PyData.strOk (S l)=true:=by
 unfold PyData.strOk
 show l.toArray.all _=true
 rw [Array.all_eq_true_iff_forall_mem]
 intro x hx
 have:=h x (by simpa using hx)
 exact decide_eq_true (by omega)
mutual
theorem HasD.lay {K:PySem.W.Frag} {H:Hp}:∀ {n:Nat} {d:Dt} {x:V},HasD K H n d x→(toP d).canLay0=true∧(toP d).depth≤n
 | _,_,_,.non=>by simp [toP,PyData.canLay0,PyData.depth]
 | _,_,_,.int _=>by simp [toP,PyData.canLay0,PyData.depth]
 | _,_,_,.str l h=>by simp only [toP,PyData.canLay0,PyData.depth];exact ⟨strOk_S h,Nat.zero_le _⟩
 | _,_,_,.tup _ hs=>by
  simp only [toP,PyData.canLay0,PyData.depth]
  have:=hs.lay
  exact ⟨this.1,Nat.succ_le_succ this.2⟩
 | _,_,_,.lst _ hs=>by
  simp only [toP,PyData.canLay0,PyData.depth]
  have:=hs.lay
  exact ⟨this.1,Nat.succ_le_succ this.2⟩
theorem HasDs.lay {K:PySem.W.Frag} {H:Hp}:∀ {n:Nat} {ds:List Dt} {xs:List V},HasDs K H n ds xs→PyData.canLayAll0 (toPs ds)=true∧PyData.depthAll (toPs ds)≤n
 | _,_,_,.nil=>by simp [toPs,PyData.canLayAll0,PyData.depthAll]
 | _,_,_,.cons h hs=>by
  have a:=h.lay
  have b:=hs.lay
  simp only [toPs,PyData.canLayAll0,PyData.depthAll,Bool.and_eq_true]
  exact ⟨⟨a.1,b.1⟩,Nat.max_le.mpr ⟨a.2,b.2⟩⟩
end
mutual
theorem HasD.same {K:PySem.W.Frag} {H H':Hp} (sm:Same H H') (st:∀ a xs,SqT K H a xs→SqT K H' a xs):∀ {n:Nat} {d:Dt} {x:V},HasD K H n d x→HasD K H' n d x
 | _,_,_,.non=>.non
 | _,_,_,.int i=>.int i
 | _,_,_,.str l h=>.str l h
 | _,_,_,.tup h hs=>.tup (st _ _ h) (hs.same sm st)
 | _,_,_,.lst h hs=>.lst (sm.seq h) (hs.same sm st)
theorem HasDs.same {K:PySem.W.Frag} {H H':Hp} (sm:Same H H') (st:∀ a xs,SqT K H a xs→SqT K H' a xs):∀ {n:Nat} {ds:List Dt} {xs:List V},HasDs K H n ds xs→HasDs K H' n ds xs
 | _,_,_,.nil=>.nil
 | _,_,_,.cons h hs=>.cons (h.same sm st) (hs.same sm st)
end
section
variable {X:Cx}
mutual
theorem HasD.reads {pins:List (Addr × Obj)} {σ:St} {H:Hp} {s:Shared} (I:Inv X pins σ H s):∀ {n:Nat} {d:Dt} {x:V} {u:Value},HasD X.K H n d x→RelV x u→∃ as,Reads s.heap u (toP d) as
 | _,_,_,u,.non,r=>by cases r;exact ⟨[],by rw [toP];exact .none⟩
 | _,_,_,u,.int i,r=>by obtain ⟨t,rfl⟩:=r;exact ⟨[],by rw [toP];exact .int i t⟩
 | _,_,_,u,.str l h,r=>by obtain ⟨t,rfl⟩:=r;exact ⟨[],by rw [toP];exact .str _ t⟩
 | _,_,_,u,.tup h hs,r=>by
  cases r
  obtain ⟨its,rv,pl,_⟩:=I.tuple h
  obtain ⟨as,ra⟩:=hs.reads I rv
  obtain ⟨o,ho,hc,n,hd⟩:=pl
  exact ⟨as,by rw [toP];exact .tuple ho hc hd (by simpa using ra)⟩
 | _,_,_,u,.lst h hs,r=>by
  cases r
  obtain ⟨its,rv,pl,_⟩:=I.list h
  obtain ⟨as,ra⟩:=hs.reads I rv
  obtain ⟨o,ho,hc,n,hd⟩:=pl.isList
  exact ⟨_ :: as,by rw [toP];exact .list ho hc hd (by simpa using ra)⟩
theorem HasDs.reads {pins:List (Addr × Obj)} {σ:St} {H:Hp} {s:Shared} (I:Inv X pins σ H s):∀ {n:Nat} {ds:List Dt} {xs:List V} {us:List Value},HasDs X.K H n ds xs→Vals xs us→∃ as,ReadsAll s.heap us (toPs ds) as
 | _,_,_,us,.nil,r=>by cases r;exact ⟨[],by rw [toPs];exact .nil⟩
 | _,_,_,us,.cons h hs,r=>by
  cases r with
  | cons q t=>
   obtain ⟨as,a⟩:=h.reads I q
   obtain ⟨bs,b⟩:=hs.reads I t
   exact ⟨as ++ bs,by rw [toPs];exact .cons a b⟩
end
theorem HasD.shaped {K:PySem.W.Frag} {H:Hp} {n:Nat} {d:Dt} {x:V} (h:HasD K H n d x) (hn:n≤64):SeqAt.shaped (toP d)=true:=by
 unfold SeqAt.shaped
 rw [h.lay.1,decide_eq_true (Nat.le_trans h.lay.2 hn)]
 rfl
open Classical in
def rEqD (K:PySem.W.Frag) (neg:Bool):R2:=fun x y H Q=>∃ n d e,n≤64∧HasD K H n d x∧HasD K H n e y∧Q (.bl (if neg then !decide (d=e) else decide (d=e))) H
theorem op_eqD (hu:X.A.units + 64 < cLine):OpR X (compareOp .Eq) (rEqD X.K false):=by
 intro pins s σ H x y v u Q I rx ry h
 obtain ⟨n,d,e,hn,hd,he,q⟩:=h
 obtain ⟨as,ra⟩:=hd.reads I rx
 obtain ⟨bs,rb⟩:=he.reads I ry
 refine SeqAt.compareEq_shaped ra rb (hd.shaped hn) (he.shaped hn) hu ⟨.bl _,H,I,rfl,?_⟩
 rw [eqv_dec];exact q
theorem op_neD (hu:X.A.units + 64 < cLine):OpR X (compareOp .NotEq) (rEqD X.K true):=by
 intro pins s σ H x y v u Q I rx ry h
 obtain ⟨n,d,e,hn,hd,he,q⟩:=h
 obtain ⟨as,ra⟩:=hd.reads I rx
 obtain ⟨bs,rb⟩:=he.reads I ry
 refine SeqAt.compareNe_shaped ra rb (hd.shaped hn) (he.shaped hn) hu ⟨.bl _,H,I,rfl,?_⟩
 rw [eqv_dec];exact q
def rJoinT (K:PySem.W.Frag):V→List V→Hp→VK→Prop:=fun x vs H Q=>∃ p ls,x=.str (S [])∧vs=[.ref p]∧SqT K H p (Ts ls)∧ls.flatten.length≤1000∧Q (.str (S ls.flatten)) H
theorem mt_joinT:MtR X "str.join" (rJoinT X.K):=by
 intro pins s σ H x vs v us Q I rx rv h
 obtain ⟨p,ls,rfl,rfl,hq,hz,q⟩:=h
 obtain ⟨t,rfl⟩:=rx
 obtain ⟨u,rfl,ru⟩:=vals1 rv
 cases ru
 obtain ⟨its,r,pl,_⟩:=I.tuple hq
 refine join_tuple pl (ys:=ls.map S) (by simpa using strs_of r) ?_ fun t' k=>?_
 ·rw [sum_len];show _ + _ * 0≤_;omega
 ·exact ⟨.str (S ls.flatten),H,I.tok k,⟨t',congrArg (fun z=>Value.str z t') (joinNil ls)⟩,q⟩
variable {tg:Expr}
end
theorem comp_tup {K:PySem.W.Frag} {a D:Addr} {xs:List V} {te:TE} {σ:St} {H:Hp} {R:Hp→Prop} (Pv:Nat→List V→Hp→Prop) (h0:Pv 0 [] (upd H D (.lst []))) (hl:∀ i ys H,i≤xs.length→Pv i ys H→SqT K H a xs)
  (hs:∀ i x ys H,xs[i]?=some x→Pv i ys H→te (some x :: σ) H fun y H3=>H3 D=some (.lst ys)∧ys.length < sizeLine∧Nxt xs.length i (Pv (i + 1) (ys ++ [y]) (upd H3 D (.lst (ys ++ [y])))))
  (hd:∀ ys H,Pv xs.length ys H→R H) :
  ∃ W:Nat→Nat→List V→Hp→Prop,(∃ m,W 0 m [] (upd H D (.lst [])))∧
   ∀ i m ys H,W i m ys H→((Itt K a).stop i H∧R H)∨((Itt K a).go i H∧∀ x H',(Itt K a).yld i H x H'→tYes (some x :: σ) H' fun b H2=>
    if b=true then te (some x :: σ) H2 fun y H3=>H3 D=some (.lst ys)∧ys.length < sizeLine∧∃ m',m' < m∧W (i + 1) m' (ys ++ [y]) (upd H3 D (.lst (ys ++ [y])))
    else ∃ m',m' < m∧W (i + 1) m' ys H2):=by
 refine ⟨fun i m ys H=>m=xs.length - i∧i≤xs.length∧Pv i ys H,⟨xs.length,by simp,Nat.zero_le _,h0⟩,?_⟩
 rintro i m ys H ⟨rfl,hi,p⟩
 have q:=hl i ys H hi p
 by_cases hlt:i < xs.length
 ·refine .inr ⟨⟨xs,xs[i],q,by simp [hlt]⟩,fun x H' y=>?_⟩
  obtain ⟨e,y⟩:=y
  subst e
  exact hs i x ys H' (y xs q) p
 ·have e:i=xs.length:=by omega
  subst e
  exact .inl ⟨⟨xs,q,Nat.le_refl _⟩,hd ys H p⟩
end L2
namespace L2
open PySem PySem.Spec PyProof.Rows
section
variable {X:Cx} {x:Str} {pos:Pos}
theorem qe_gS {l:List Nat} (hg:Gl X x) (hm:∃ t,X.mg x=some (.str (S l) t)) (hd:(x == ("__debug__":Str))=false:=by decide):QE X (.Name x pos) (tC (.str (S l))):=
 let ⟨t,e⟩:=hm;qe_glob hg e ⟨t,rfl⟩ hd
theorem qe_gI {i:Int} (hg:Gl X x) (hm:∃ t,X.mg x=some (.int i t)) (hd:(x == ("__debug__":Str))=false:=by decide):QE X (.Name x pos) (tC (.int i)):=
 let ⟨t,e⟩:=hm;qe_glob hg e ⟨t,rfl⟩ hd
theorem qg_sub {o i:Expr} {to ti:TE} {t:TSet} (ho:QE X o to) (hi:QE X i ti) (hs:PSet X t)
  (ha:∀ v,assign (.Subscript o i pos) X.env v=(do
   let ov ← holding [v] (eval o X.env)
   let iv ← holding [v,ov] (eval i X.env)
   standAt pos
   holding [v,ov,iv] (setItem ov iv v)
   release [v,ov,iv] []):=by intro _;rfl):QG X (.Subscript o i pos) (gSub to ti t):=⟨pg_sub ho.out hi.out hs ha⟩
end
theorem boot_allX:bootBuiltins "all"=some (.builtin "all"):=by decide +kernel
theorem boot_anyX:bootBuiltins "any"=some (.builtin "any"):=by decide +kernel
theorem glob_str {K:PySem.W.Frag} {h:Heap} {mg:Str→Option Value} {x:Str} {l:List Nat} {t:Tok} (X:K.In h) (G:h.Ns mainGlobals mg) (a:PySem.W.nsIn K mainGlobals x=some (some (.str (S l) t))):∃ t,mg x=some (.str (S l) t):=⟨t,PySem.W.mg_of X G a⟩
theorem glob_int {K:PySem.W.Frag} {h:Heap} {mg:Str→Option Value} {x:Str} {i:Int} {t:Tok} (X:K.In h) (G:h.Ns mainGlobals mg) (a:PySem.W.nsIn K mainGlobals x=some (some (.int i t))):∃ t,mg x=some (.int i t):=⟨t,PySem.W.mg_of X G a⟩
end L2
namespace L2
open PySem PySem.Spec PyProof.Rows
section
variable {X:Cx}
theorem ix_tupK (K:PySem.W.Frag)  (h:X.K=K:=by rfl):IxR X (rIxT K):=by subst h;exact ix_tup
theorem call_isinstK (K:PySem.W.Frag)  (h:X.K=K:=by rfl):CallR X (.builtin "isinstance") (rInst K):=by subst h;exact call_isinst
theorem mt_joinK (K:PySem.W.Frag)  (h:X.K=K:=by rfl):MtR X "str.join" (rJoin K):=by subst h;exact mt_join
theorem qe_bmK  {o e:Expr} {es:List Expr} {to:TE} {t:TA} {name:Str} {apos cpos:Pos} {T id:String} {r:V→List V→Hp→VK→Prop} (K:PySem.W.Frag) (pa:PlainAttrs T) (slot:Slot T name id) (hty:typeOf (.builtin id)=pure (.type "method_descriptor")) (hm:MtR X id r) (ho:QE X o to) (ha:QA X (e :: es) t) (hbase:attributeBase o name X.env (eval o X.env)=eval o X.env:=by rfl) (hfew:((backTo cpos (starEach (e :: es) X.env)).all (fun x=>!x.1) && (backToKw cpos (keywordEach [] X.env)).all (fun x=>x.1.isSome)
   && decide ((e :: es).length + ([]:List Keyword).length + (if ([]:List Keyword).isEmpty then 0 else 1) < 30))=true:=by rfl) (hline:(apos.endLine == cpos.line)=true:=by rfl) (hs:starEach (e :: es) X.env=(false,eval e X.env) :: starEach es X.env:=by rfl) (hplain:(backTo cpos (starEach es X.env)).any (·.1)=false:=by rfl) (h:X.K=K:=by rfl):QE X (.Call (.Attribute o name apos) (e :: es) [] cpos) (tBM K T r to t):=by subst h;exact qe_bm pa slot hty hm ho ha hbase hfew hline hs hplain
end
end L2
end
section
set_option Elab.async false
set_option linter.all false
set_option maxRecDepth 100000
namespace L2
open PySem PySem.Spec PyProof.Rows
def headF (l:List Nat):List Nat:=l.takeWhile fun c=>c != 46
def tailF (l:List Nat):List Nat:=(l.reverse.takeWhile fun c=>c != 46).reverse
theorem headF_at:∀ {l:List Nat} {i:Nat},l[i]?=some 46→(∀ k,k < i→l[k]?≠some 46)→headF l=l.take i
 | [],i,h,_=>by simp at h
 | c :: l,0,h,_=>by
  have:c=46:=by simpa using h
  subst this
  simp [headF]
 | c :: l,i + 1,h,hk=>by
  have hc:c≠46:=fun e=>hk 0 (by omega) (by simp [e])
  have ih:=headF_at (l:=l) (i:=i) (by simpa using h) (fun k hk'=>by have:=hk (k + 1) (by omega);simpa using this)
  unfold headF at ih ⊢
  rw [List.takeWhile_cons_of_pos (by simpa using hc),ih,List.take_succ_cons]
theorem headF_all {l:List Nat} (h:46∉l):headF l=l:=by
 unfold headF
 induction l with
 | nil=>rfl
 | cons c r ih=>
  have hc:c≠46:=fun e=>h (by rw [e];exact List.mem_cons_self)
  rw [List.takeWhile_cons_of_pos (by simpa using hc),ih fun z=>h (List.mem_cons_of_mem _ z)]
theorem tailF_all {l:List Nat} (h:46∉l):tailF l=l:=by
 have:=headF_all (l:=l.reverse) (by simpa using h)
 unfold headF at this
 unfold tailF
 rw [this,List.reverse_reverse]
theorem tailF_at {l:List Nat} {i:Nat} (h:l[i]?=some 46) (hk:∀ k,i < k→l[k]?≠some 46):tailF l=l.drop (i + 1):=by
 have hi:i < l.length:=(List.getElem?_eq_some_iff.mp h).1
 have e:headF l.reverse=l.reverse.take (l.length - (i + 1)):=by
  refine headF_at ?_ fun k hk'=>?_
  ·rw [List.getElem?_reverse (by omega),show l.length - 1 - (l.length - (i + 1))=i by omega];exact h
  ·rw [List.getElem?_reverse (by omega)]
   exact hk _ (by omega)
 unfold headF at e
 unfold tailF
 rw [e,List.take_reverse,List.reverse_reverse,show l.length - (l.length - (i + 1))=i + 1 by omega]
theorem cut_to (l:List Nat) (n:Nat):cutN l none (some (n:Int))=l.take n:=by
 unfold cutN
 rw [HT.sIx_nat]
 show (l.drop 0).take (min n l.length - 0)=_
 rw [List.drop_zero,Nat.sub_zero]
 by_cases h:n≤l.length
 ·rw [Nat.min_eq_left h]
 ·rw [Nat.min_eq_right (by omega),List.take_of_length_le (Nat.le_refl _),List.take_of_length_le (by omega)]
theorem cut_from (l:List Nat) (n:Nat):cutN l (some (n:Int)) none=l.drop n:=by
 unfold cutN
 rw [HT.sIx_nat]
 show (l.drop (min n l.length)).take (l.length - min n l.length)=_
 rw [List.take_of_length_le (by rw [List.length_drop];omega)]
 by_cases h:n≤l.length
 ·rw [Nat.min_eq_left h]
 ·rw [Nat.min_eq_right (by omega),List.drop_of_length_le (Nat.le_refl _),List.drop_of_length_le (by omega)]
theorem sub_S (l:List Nat) (i j:Nat):Builtin.Str.strSub (S l) i j=S ((l.take j).drop i):=by
 unfold Builtin.Str.strSub S
 congr 1
 apply Array.toList_inj.mp
 simp [List.drop_take]
section
variable {X:Cx}
theorem part_head (l:List Nat):(Txt.partition (S l) (S [46])).1=S (headF l):=by
 rcases partition_head (S l) (S [46]) with ⟨e,h⟩ | ⟨i,e,h,hk⟩
 ·rw [e,headF_all fun hm=>?_]
  obtain ⟨i,hi⟩:=List.mem_iff_getElem?.mp hm
  exact h i ((StrLaws.subAt_one (S l) 46 i).mpr hi)
 ·rw [e,sub_S,List.drop_zero,headF_at (l:=l) ((StrLaws.subAt_one (S l) 46 i).mp h) fun k hk' z=>hk k hk' ((StrLaws.subAt_one (S l) 46 k).mpr z)]
theorem rpart_tail (l:List Nat):(Txt.rpartition (S l) (S [46])).2.2=S (tailF l):=by
 unfold Txt.rpartition
 rcases StrLaws.last_spec (S l) (S [46]) with ⟨e,h⟩ | ⟨i,e,h,hk⟩
 ·rw [e]
  show S l=_
  rw [tailF_all fun hm=>?_]
  obtain ⟨i,hi⟩:=List.mem_iff_getElem?.mp hm
  exact h i ((StrLaws.subAt_one (S l) 46 i).mpr hi)
 ·rw [e]
  show Builtin.Str.strSub (S l) (i + 1) l.length=_
  rw [sub_S,List.take_of_length_le (Nat.le_refl _),tailF_at (l:=l) ((StrLaws.subAt_one (S l) 46 i).mp h) fun k hk' z=>hk k hk' ((StrLaws.subAt_one (S l) 46 k).mpr z)]
def rPart:V→List V→Hp→VK→Prop:=fun x vs H Q=>∃ l,x=.str (S l)∧vs=[.str (S [46])]∧l.length≤1000∧∀ (p:Addr) (b c:Str),H p=none→Q (.ref p) (upd H p (.tup [.str (S (headF l)),.str b,.str c]))
theorem mt_part:MtR X "str.partition" rPart:=by
 intro pins s σ H x vs v us Q I rx rv h
 obtain ⟨l,rfl,rfl,hz,q⟩:=h
 obtain ⟨t,rfl⟩:=rx
 obtain ⟨u,rfl,ru⟩:=vals1 rv
 obtain ⟨t2,rfl⟩:=ru
 have hsz:(S l).length≤sizeLine:=Nat.le_of_lt (small1000 hz)
 refine call_meets F.slot_str_partition (typeIs_str _ _ _) F.entry_str_partition (F.args_str_partition_2 _ _) (meets_str_partition (S l) (S [46]) t t2 rfl hsz) ?_
 have e:=part_head l
 have q':=fun b c=>q s.heap.objs.size b c (I.hok.fresh (Nat.le_refl _))
 rw [← e] at q'
 unfold Txt.partition at q'
 revert q'
 cases Builtin.Str.occurrences (S l) (S [46]) 0 (S l).length 1 with
 | nil=>
  intro q'
  refine ⟨.ref s.heap.objs.size,_,I.laid (o:=.tup _) (t':=s.toks + 1) (fun b ob z=>Heap.get?_push_of_some _ z) (Nat.le_refl _) ?_,rfl,q' Str.empty Str.empty⟩
  exact ⟨by show 3≤sizeLine;decide,_,.cons ⟨_,rfl⟩ (.cons ⟨_,rfl⟩ (.cons ⟨_,rfl⟩ .nil)),⟨_,Heap.get?_push_size _ rfl,rfl,0,rfl⟩⟩
 | cons i r=>
  intro q'
  refine ⟨.ref s.heap.objs.size,_,I.laid (o:=.tup _) (t':=s.toks + 1 + 1) (fun b ob z=>Heap.get?_push_of_some _ z) (Nat.le_refl _) ?_,rfl,q' (S [46]) (Builtin.Str.strSub (S l) (i + (S [46]).length) (S l).length)⟩
  exact ⟨by show 3≤sizeLine;decide,_,.cons ⟨_,rfl⟩ (.cons ⟨_,rfl⟩ (.cons ⟨_,rfl⟩ .nil)),⟨_,Heap.get?_push_size _ rfl,rfl,0,rfl⟩⟩
def rRPart:V→List V→Hp→VK→Prop:=fun x vs H Q=>∃ l,x=.str (S l)∧vs=[.str (S [46])]∧l.length≤1000∧∀ (p:Addr) (a b:Str),H p=none→Q (.ref p) (upd H p (.tup [.str a,.str b,.str (S (tailF l))]))
theorem mt_rpart:MtR X "str.rpartition" rRPart:=by
 intro pins s σ H x vs v us Q I rx rv h
 obtain ⟨l,rfl,rfl,hz,q⟩:=h
 obtain ⟨t,rfl⟩:=rx
 obtain ⟨u,rfl,ru⟩:=vals1 rv
 obtain ⟨t2,rfl⟩:=ru
 have hsz:(S l).length≤sizeLine:=Nat.le_of_lt (small1000 hz)
 refine call_meets F.slot_str_rpartition (typeIs_str _ _ _) F.entry_str_rpartition (F.args_str_rpartition_2 _ _) (meets_str_rpartition (S l) (S [46]) t t2 rfl hsz) ?_
 have e:=rpart_tail l
 have q':=fun b c=>q s.heap.objs.size b c (I.hok.fresh (Nat.le_refl _))
 rw [← e] at q'
 unfold Txt.rpartition at q'
 revert q'
 cases Builtin.Str.lastOccurrence (S l) (S [46]) 0 (S l).length with
 | none=>
  intro q'
  refine ⟨.ref s.heap.objs.size,_,I.laid (o:=.tup _) (t':=s.toks + 1) (fun b ob z=>Heap.get?_push_of_some _ z) (Nat.le_refl _) ?_,rfl,q' Str.empty Str.empty⟩
  exact ⟨by show 3≤sizeLine;decide,_,.cons ⟨_,rfl⟩ (.cons ⟨_,rfl⟩ (.cons ⟨_,rfl⟩ .nil)),⟨_,Heap.get?_push_size _ rfl,rfl,0,rfl⟩⟩
 | some i=>
  intro q'
  refine ⟨.ref s.heap.objs.size,_,I.laid (o:=.tup _) (t':=s.toks + 1 + 1) (fun b ob z=>Heap.get?_push_of_some _ z) (Nat.le_refl _) ?_,rfl,q' (Builtin.Str.strSub (S l) 0 i) (S [46])⟩
  exact ⟨by show 3≤sizeLine;decide,_,.cons ⟨_,rfl⟩ (.cons ⟨_,rfl⟩ (.cons ⟨_,rfl⟩ .nil)),⟨_,Heap.get?_push_size _ rfl,rfl,0,rfl⟩⟩
end
end L2
end
section
set_option Elab.async false
set_option linter.all false
set_option maxRecDepth 100000
namespace L2
open PySem PySem.Spec PyProof.Rows
def blkG (X:Cx) (scope:Scope) (cl:List (Str × Addr)) (C:Addr) (N:List Str) (s₀:Shared) (H₀:Hp) (fp:List Addr):Cx:=
 { X with N:=N,s₀:=s₀,H₀:=H₀,env:=compEnvC scope cl C X.env,outer:=X.stack,ex:=fp,fn:=fun _=>false,pn:=[],xe:=fun _ _=>False }
structure CompG (X:Cx) (scope:Scope) (ns N2:List Str) (f:St→St):Prop where
 kind:scope.kind=.function
 ncell:∀ y∈scope.names,y.2≠.cell
 names:∀ y∈scope.names,y.2=.local→scope.names.lookup y.1=some .local
 free:∀ y∈scope.names,y.2=.free→X.env.kindOf y.1=some .cell∨X.env.kindOf y.1=some .free
 lenf:∀ σ:St,(f σ).length=σ.length
 lenN:N2.length=X.N.length
 out:∀ (σ:St) (i:Nat) (y:Str) (v:V),N2[i]?=some y→(f σ)[i]?=some (some v)→X.N[i]?=some y∧σ[i]?=some (some v)∧scope.names.lookup y≠some .local
def PTg (X:Cx) (tg:Expr) (k:Nat) (TP:V→Hp→(St→Prop)→Prop):Prop:=
 ∀ (pins:List (Addr × Obj)) (s:Shared) (pre rest:St) (H:Hp) (v:V) (u:Value) (Q:St→Prop),pre.length=k→Inv X pins (pre ++ rest) H s→RelV v u→TP v H Q→
  wpAny (model X.prog X.w) X.A (assign tg X.env u) (fun _ s'=>∃ pre',pre'.length=k∧Inv X pins (pre' ++ rest) H s'∧Q pre') (fun _ _=>False) s
def tCompG (f:St→St) (k:Nat) (wi:TI) (TP:V→Hp→(St→Prop)→Prop) (tt:TT) (te:TE):TE:=fun σ H Q=>wi σ H fun J H1=>∀ D,H1 D=none→∃ W:Nat→Nat→List V→Hp→Prop,(∃ m,W 0 m [] (upd H1 D (.lst [])))∧
 ∀ i m ys H,W i m ys H→(J.stop i H∧Q (.ref D) H)∨(J.go i H∧∀ x H',J.yld i H x H'→TP x H' fun pre=>tt (pre ++ f σ) H' fun b H2=>
  if b=true then te (pre ++ f σ) H2 fun y H3=>H3 D=some (.lst ys)∧ys.length < sizeLine∧∃ m',m' < m∧W (i + 1) m' (ys ++ [y]) (upd H3 D (.lst (ys ++ [y])))
  else ∃ m',m' < m∧W (i + 1) m' ys H2)
theorem pe_compG {X:Cx} {elt iter tg:Expr} {ns N2:List Str} {f:St→St} {TP:V→Hp→(St→Prop)→Prop} {ifs:List Expr} {scope:Scope} {pos:Pos} {wi:TI} {tt:TT} {te:TE} (hc:X.calm=true) (ok:CompG X scope ns N2 f) (hi:PI X tg iter wi)
  (hg:∀ cl C s₀ H₀ fp,PTg (blkG X scope cl C (ns ++ N2) s₀ H₀ fp) tg ns.length TP)
  (ht:∀ cl C s₀ H₀ fp,PTs (blkG X scope cl C (ns ++ N2) s₀ H₀ fp) ifs tt) (he:∀ cl C s₀ H₀ fp,PE (blkG X scope cl C (ns ++ N2) s₀ H₀ fp) elt te)
  (hs:∀ x,foldedSetIterable iter X.env x=pure x:=by intro _;rfl):PE X (.ListComp elt [⟨tg,iter,ifs,0⟩] scope pos) (tCompG f ns.length wi TP tt te):=by
 intro pins s σ H Q I h
 obtain ⟨cl,hcl,hsub,_,hall⟩:=closure_ok (env:=X.env) scope.names (fun y hy e=>I.ok.has y.1 (ok.free y hy e)) [] (fun _ _ z=>by simp at z)
 have hclos:closureFor scope X.env=pure cl:=by
  unfold closureFor
  simp only [bind_pure]
  exact hcl
 rw [eval_ListComp]
 refine wpAny_comprehension_free (use:=none) (E:=X.xe) (cl:=cl) rfl hs hclos ok.kind ok.names (thn (hi pins s σ H _ I h) fun v s1 h1=>thn h1 fun itv s2 h2=>?_)
 obtain ⟨it,fp,tn,J,H2,e,I2,T,st2,f2,R⟩:=h2
 subst e
 obtain ⟨W,⟨m0,w0⟩,turn⟩:=R s2.heap.objs.size I2.fresh
 refine wpAny_newObj_type (wpAny_newFunctionEnv ok.ncell (by intro y hy;simp at hy) (fun h₁ hns₁ hsb₁=>?_) ok.kind)
 dsimp only at hns₁ hsb₁ ⊢
 have I3:Inv X pins σ (upd H2 s2.heap.objs.size (.lst [])) { s2 with heap:=s2.heap.push { cls:=.type "list",data:=.seq ([]:List Value).toArray } }:=I2.lnew (t':=s2.toks) (ys:=[]) (its:=[]) .nil (Nat.zero_le _)
 generalize hH3:upd H2 s2.heap.objs.size (HO.lst [])=H3 at *
 generalize hs3:s2.heap.push { cls:=.type "list",data:=.seq ([]:List Value).toArray }=hp3 at *
 generalize hD:s2.heap.objs.size=D at *
 generalize hC:hp3.objs.size=C at *
 have hDC:D < C:=by rw [← hC,← hs3,Heap.size_push,hD];exact Nat.lt_succ_self _
 have old:∀ b o,hp3.get? b=some o→h₁.get? b=some o:=fun b o e=>(hsb₁.2 b (by rw [← hC];exact Nat.ne_of_lt (Heap.lt_size e))).trans (Heap.get?_push_of_some _ e)
 have fpl:∀ b∈fp,b < C:=fun b hb=>by
  obtain ⟨o,e,_⟩:=T.obj _ _ st2 b hb
  rw [← hC,← hs3,Heap.size_push]
  exact Nat.lt_succ_of_lt (Heap.lt_size e)
 have f3:∀ b∈fp,FpOk X pins H3 b:=fun b hb=>by
  obtain ⟨o,e,_⟩:=T.obj _ _ st2 b hb
  refine ⟨?_,(f2 b hb).2⟩
  rw [← hH3,upd_ne (by rw [← hD];exact Nat.ne_of_lt (Heap.lt_size e))]
  exact (f2 b hb).1
 have nstk:∀ b∈fp,b∉frs X.stack:=fun b hb z=>by
  obtain ⟨_,g1,g2,_⟩:=f3 b hb
  rcases List.mem_cons.mp (I3.stkSub b z) with q | q
  ·exact g1 q
  ·exact g2 q
 have YOk:(blkG X scope cl C (ns ++ N2) { s2 with heap:=hp3 } H3 fp).Ok:=by
  refine ⟨I.ok.mod,?_,I.ok.glob,I.ok.blt,Nat.le_of_eq hC,?_,?_,?_,I.ok.hd,I.ok.frames,.inl rfl,?_,?_,?_,?_,?_,?_,?_⟩
  ·exact ok.kind
  ·exact fun a b c h1 h2=>I.ok.inj a b c (hsub a c h1) (hsub b c h2)
  ·intro a ha
   refine hall a ?_
   rcases ha with z | z
   ·rcases lookup_relabel (env:=X.env) z with q | ⟨_,q⟩
    ·exact absurd rfl (ok.ncell _ (lookup_mem' q))
    ·exact lookup_mem' q
   ·rcases lookup_relabel (env:=X.env) z with q | ⟨q,_⟩
    ·exact lookup_mem' q
    ·cases q
  ·intro a c hf;cases hf
  ·intro b hb
   refine ⟨Nat.ne_of_lt (fpl b hb),fun a c h1=>(f3 b hb).2.2.2.2.1 a c (hsub a c h1)⟩
  ·exact I3.bs
  ·exact Nat.le_trans I.ok.bsz I3.sz
  ·intro b o e hb
   rcases (f3 b hb).2.2.2.1 with z | z
   ·exact I.ok.noex b o e z
   ·exact absurd (Nat.lt_of_lt_of_le (Heap.lt_size e) (Nat.le_trans I.ok.bsz z)) (Nat.lt_irrefl _)
  ·exact nstk
  ·exact I3.stack
  ·exact I3.stkFree
 have Y0:Inv (blkG X scope cl C (ns ++ N2) { s2 with heap:=hp3 } H3 fp) [] (List.replicate ns.length none ++ f σ) H3 { s2 with heap:=h₁,toks:=s2.toks + ([]:List (Str × Value)).length }:=by
  refine ⟨YOk,rfl,I3.bare,Un.kept old,⟨_,hns₁,?_⟩,?_,?_,?_,fun p hp=>by simp [blkG] at hp,I3.hok.kept old,?_⟩
  ·intro i y v e1 e2 e3
   by_cases hin:i < ns.length
   ·rw [List.getElem?_append_left (by rw [List.length_replicate];exact hin),List.getElem?_replicate,if_pos hin] at e2
    simp at e2
   ·obtain ⟨i,rfl⟩:∃ k,i=ns.length + k:=⟨i - ns.length,by omega⟩
    have e1a:(ns ++ N2)[ns.length + i]?=some y:=e1
    rw [List.getElem?_append_right (by omega),Nat.add_sub_cancel_left] at e1a
    rw [List.getElem?_append_right (by rw [List.length_replicate];omega),List.length_replicate,Nat.add_sub_cancel_left] at e2
    obtain ⟨e1',e2',hout⟩:=ok.out σ i y v e1a e2
    have hfree:(y,NameKind.free)∈scope.names:=by
     have key:∀ k,(relabel scope X.env).names.lookup y=some k→k≠.local→k=.cell∨k=.free→(y,NameKind.free)∈scope.names:=fun k q n hk=>by
      rcases lookup_relabel (env:=X.env) q with z | ⟨_,z⟩
      ·rcases hk with rfl | rfl
       ·exact absurd rfl (ok.ncell _ (lookup_mem' z))
       ·exact lookup_mem' z
      ·exact lookup_mem' z
     rcases e3 with z | z | z
     ·rcases lookup_relabel (env:=X.env) z with q | ⟨q,_⟩
      ·exact absurd q hout
      ·cases q
     ·exact key _ z (by decide) (.inl rfl)
     ·exact key _ z (by decide) (.inr rfl)
    have hk:=ok.free _ hfree rfl
    obtain ⟨m,hn,hl⟩:=I3.loc
    obtain ⟨u,r,q⟩:=hl i y v e1' e2' (by rcases hk with z | z;exact .inr (.inl z);exact .inr (.inr z))
    refine ⟨u,r,.inr ⟨?_,?_⟩⟩
    ·rcases e3 with z | z | z
     ·rcases lookup_relabel (env:=X.env) z with q | ⟨q,_⟩
      ·exact absurd q hout
      ·cases q
     ·exact .inl z
     ·exact .inr z
    ·rcases q with ⟨z,_⟩ | ⟨_,c,hc',hcell⟩
     ·rcases hk with q | q <;> (rw [z] at q;cases q)
     ·obtain ⟨c',hc2⟩:=hall y hfree
      have:c'=c:=by have:=hsub y c' hc2;rw [hc'] at this;exact (Option.some.inj this).symm
      subst this
      obtain ⟨o,ho,hd⟩:=hcell
      exact ⟨c',hc2,o,old _ _ ho,hd⟩
  ·intro a c h1
   obtain ⟨v,o,ho,hd⟩:=I3.cell a c (hsub a c h1)
   exact ⟨v,o,old _ _ ho,hd⟩
  ·show H3 C=none
   exact I3.hok.fresh (Nat.le_of_eq hC)
  ·exact fun a c h1=>I3.freeC a c (hsub a c h1)
  ·show (List.replicate ns.length none ++ f σ).length=(ns ++ N2).length
   rw [List.length_append,List.length_append,List.length_replicate,ok.lenf,I.len,ok.lenN]
 have back:∀ (s':Shared) (v:St) (H':Hp) (h':Heap),Inv (blkG X scope cl C (ns ++ N2) { s2 with heap:=hp3 } H3 fp) [] v H' s'→Heap.SameBut C s'.heap h'→(∀ b∈fp,H' b=none)→Inv X pins σ H' { s' with heap:=h' }:=by
  intro s' v H' h' I' sb fr
  have neC:∀ b o,hp3.get? b=some o→b≠C:=fun b o e=>by rw [← hC];exact Nat.ne_of_lt (Heap.lt_size e)
  have U:Un (frs X.stack) fp H3 H' hp3 s'.heap:=I'.base
  refine I3.call' (ch:=fp) (H':=H') (s':={ s' with heap:=h' }) I'.os ⟨fun b o e n h1 h2=>(sb.2 b (neC b o e)).trans (U.keep b o e n h1 h2),fun b o e n h1 h2=>?_,U.free,fun b o e h2=>?_,U.tups,U.frzs,U.tbls⟩ (fun b ob e=>?_) I'.bare fun b hb=>?_
  ·obtain ⟨sl,q⟩:=U.slot b o e n h1 h2
   exact ⟨sl,(sb.2 b (neC b o e)).trans q⟩
  ·obtain ⟨o',q⟩:=U.there b o e h2
   exact ⟨o',(sb.2 b (neC b o e)).trans q⟩
  ·have fC:H' C=none:=I'.free
   refine (I'.hok b ob e).stay (fun c w' hc q=>(sb.2 c ?_).trans q) (fun _ q=>q) fun _ _ q=>q
   rintro rfl
   rcases hc with rfl | hc
   ·rw [fC] at e;cases e
   ·rw [fC] at hc;cases hc
  ·obtain ⟨_,g1,_,g3,g4,g5⟩:=f3 b hb
   exact ⟨g3,g1,g4,g5⟩
 have stat:∀ {H':Hp},(∀ b∈fp,H' b=none)→∀ b∈fp,FpOk (blkG X scope cl C (ns ++ N2) { s2 with heap:=hp3 } H3 fp) [] H' b:=fun hn b hb=>
  ⟨hn b hb,Nat.ne_of_lt (fpl b hb),nstk b hb,.inl hb,fun a c h1=>(f3 b hb).2.2.2.2.1 a c (hsub a c h1),fun p hp=>by simp [blkG] at hp⟩
 have st₁:tn 0 h₁:=T.keep _ _ _ st2 fun b _ o e=>old b o (by rw [← hs3];exact Heap.get?_push_of_some _ e)
 have loop:codeAny (model X.prog X.w) X.A (.compLoop (.ListComp elt [⟨tg,iter,ifs,0⟩] scope pos) 0 (.ref it) (.ref D) (compEnvC scope cl C X.env)) (compPost (model X.prog X.w) X.A X.xe none (EP X pins σ Q) (.ref D) C)
   { s2 with heap:=h₁,toks:=s2.toks + ([]:List (Str × Value)).length }:=by
  refine compLoop_T (fun n s'=>∃ i v ys H',v.length=ns.length∧Inv (blkG X scope cl C (ns ++ N2) { s2 with heap:=hp3 } H3 fp) [] (v ++ f σ) H' s'∧tn i s'.heap∧(∀ b∈fp,H' b=none)∧W i n ys H') ?_ m0 ⟨0,List.replicate ns.length none,[],H3,List.length_replicate,Y0,st₁,fun b hb=>(f3 b hb).1,w0⟩
  rintro n s4 ⟨i,v,ys,H4,hv4,I4,st4,fr4,w4⟩
  rcases turn i n ys H4 w4 with ⟨stop,qn⟩ | ⟨go,step⟩
  ·refine thn (T.done (blkG X scope cl C (ns ++ N2) { s2 with heap:=hp3 } H3 fp) rfl rfl rfl hc i [] s4 (v ++ f σ) H4 _ I4 (stat fr4) st4 stop) fun r s5 ⟨hr,I5⟩=>?_
   subst hr
   obtain ⟨m,hn,_⟩:=id I5.loc
   exact ⟨m,hn,fun h' sb=>⟨.ref D,H4,back s5 (v ++ f σ) H4 h' I5 sb fr4,rfl,qn⟩⟩
  ·refine thn (T.item (blkG X scope cl C (ns ++ N2) { s2 with heap:=hp3 } H3 fp) rfl rfl rfl hc i [] s4 (v ++ f σ) H4 _ I4 (stat fr4) st4 go) fun r s5 ⟨u,hr,h5⟩=>?_
   subst hr
   refine thn h5 fun _ s6 ⟨y,H6,I6,r6,y6,st6,fr6⟩=>?_
   have I6':=I6.pinned (stat fr6) (T.obj _ _ st6)
   refine thn (hg cl C { s2 with heap:=hp3 } H3 fp _ s6 v (f σ) H6 y u _ hv4 I6' r6 (step y H6 y6)) fun _ s7 ⟨pre,hpre,I7',q7⟩=>?_
   refine thn (ht cl C { s2 with heap:=hp3 } H3 fp _ s7 _ H6 _ I7' q7) fun b s8 ⟨H8,I8,q8⟩=>?_
   have keepIt:∀ {σ':St} {H':Hp} {s':Shared},Inv (blkG X scope cl C (ns ++ N2) { s2 with heap:=hp3 } H3 fp) ([] ++ pinsAt fp s6.heap) σ' H' s'→tn (i + 1) s'.heap∧∀ b∈fp,H' b=none:=fun {σ' H' s'} I9=>by
    refine ⟨T.keep _ _ _ st6 fun b hb o e=>(I9.pin (b,o) (List.mem_append_right _ (List.mem_append_right _ (mem_pinsAt hb e)))).1,fun b hb=>?_⟩
    obtain ⟨o,e,d⟩:=T.obj _ _ st6 b hb
    exact (I9.pin (b,o) (List.mem_append_right _ (List.mem_append_right _ (mem_pinsAt hb e)))).2.1
   cases b with
   | false=>
    obtain ⟨m',hm,w'⟩:=q8
    obtain ⟨k1,k2⟩:=keepIt I8
    exact ⟨m',hm,i + 1,pre,ys,H8,hpre,I8.unpinned,k1,k2,w'⟩
   | true=>
    have q8':te (pre ++ f σ) H8 _:=q8
    show wpAny _ _ (eval elt _) _ _ _
    refine thn (he cl C { s2 with heap:=hp3 } H3 fp _ s8 _ H8 _ I8 q8') fun z s9 ⟨zv,H9,I9,r9,hD9,hz9,m',hm,w'⟩=>?_
    refine thn (mt_append (X:=blkG X scope cl C (ns ++ N2) { s2 with heap:=hp3 } H3 fp) _ s9 _ H9 (.ref D) [zv] (.ref D) [z] (fun _ H'=>H'=upd H9 D (.lst (ys ++ [zv]))) I9 rfl (.cons r9 .nil) ⟨D,ys,zv,rfl,rfl,hD9,hz9,rfl⟩) fun _ s10 ⟨_,H10,I10,_,e10⟩=>?_
    subst e10
    obtain ⟨k1,k2⟩:=keepIt I10
    exact ⟨m',hm,i + 1,pre,ys ++ [zv],_,hpre,I10.unpinned,k1,k2,w'⟩
 exact codeAny_compStart_list loop (T.self X.A 0 _ _ _ st₁ loop)
end L2
namespace L2
open PySem PySem.Spec PyProof.Rows
def hideS (ks:List Nat):Nat→St→St
 | _,[]=>[]
 | i,v :: r=>(if ks.contains i=true then none else v) :: hideS ks (i + 1) r
theorem hideS_len (ks:List Nat):∀ (i:Nat) (σ:St),(hideS ks i σ).length=σ.length
 | _,[]=>rfl
 | i,_ :: r=>by rw [hideS,List.length_cons,List.length_cons,hideS_len ks (i + 1) r]
theorem hideS_get (ks:List Nat):∀ (i:Nat) (σ:St) (j:Nat) (v:V),(hideS ks i σ)[j]?=some (some v)→ks.contains (i + j)=false∧σ[j]?=some (some v)
 | _,[],j,v,h=>by simp [hideS] at h
 | i,x :: r,0,v,h=>by
  rw [hideS] at h
  cases e:ks.contains i with
  | true=>rw [e] at h;simp at h
  | false=>rw [e] at h;exact ⟨by first | rfl | exact e,by simpa using h⟩
 | i,x :: r,j + 1,v,h=>by
  rw [hideS,List.getElem?_cons_succ] at h
  obtain ⟨a,b⟩:=hideS_get ks (i + 1) r j v h
  exact ⟨by rw [show i + (j + 1)=i + 1 + j by omega];exact a,by rw [List.getElem?_cons_succ];exact b⟩
def chkG (sc:Scope) (N:List Str) (scope:Scope) (N2:List Str) (ks:List Nat):Bool:=
 scope.kind == .function && scope.names.all (fun y=>y.2 != .cell) && scope.names.all (fun y=>y.2 != .local || scope.names.lookup y.1 == some .local) &&
 scope.names.all (fun y=>y.2 != .free || sc.names.lookup y.1 == some .cell || sc.names.lookup y.1 == some .free) && N2.length == N.length &&
 (List.range N.length).all (fun i=>ks.contains i || (N2[i]? == N[i]? && (N[i]?.map fun y=>scope.names.lookup y != some .local) == some true))
theorem CompG.of {X:Cx} {scope:Scope} {ns:List Str} (N2:List Str) (ks:List Nat) (h:chkG X.env.scope X.N scope N2 ks=true):CompG X scope ns N2 (hideS ks 0):=by
 unfold chkG at h
 simp only [Bool.and_eq_true,List.all_eq_true,Bool.or_eq_true,bne_iff_ne,beq_iff_eq,ne_eq] at h
 obtain ⟨⟨⟨⟨⟨h1,h2⟩,h3⟩,h5⟩,h6⟩,h7⟩:=h
 refine ⟨h1,fun y hy=>h2 y hy,fun y hy e=>(h3 y hy).resolve_left fun z=>z e,fun y hy e=>?_,hideS_len ks 0,h6,fun σ i y v e1 e2=>?_⟩
 ·rcases h5 y hy with (z | z) | z
  ·exact absurd e z
  ·exact .inl z
  ·exact .inr z
 ·obtain ⟨a,b⟩:=hideS_get ks 0 σ i v e2
  rw [Nat.zero_add] at a
  have hi:i < X.N.length:=by rw [← h6];exact (List.getElem?_eq_some_iff.mp e1).1
  rcases h7 i (List.mem_range.mpr hi) with z | ⟨z1,z2⟩
  ·rw [a] at z;cases z
  ·rw [← z1,e1] at z2
   rw [z1] at e1
   exact ⟨e1,b,by simpa using z2⟩
theorem tg_name {X:Cx} {scope:Scope} {cl:List (Str × Addr)} {C:Addr} {N:List Str} {s₀:Shared} {H₀:Hp} {fp:List Addr} {x:Str} {pos:Pos} (hN:N.Nodup) (h0:N[0]?=some x) (hx:scope.names.lookup x=some .local) :
  PTg (blkG X scope cl C N s₀ H₀ fp) (.Name x pos) 1 (fun v _ Q=>Q [some v]):=by
 intro pins s pre rest H v u Q hp I r q
 obtain ⟨p0,rfl⟩:=List.length_eq_one_iff.mp hp
 refine thn (pg_name (X:=blkG X scope cl C N s₀ H₀ fp) (i:=0) hN h0 (.inl (lookup_relabel_local hx)) (.inr (lookup_relabel_local hx)) pins s _ H v u (fun σ' H'=>H'=H∧σ'=some v :: rest) I r ⟨rfl,rfl⟩) fun _ s' ⟨σ',H',I',e1,e2⟩=>?_
 subst e1 e2
 exact ⟨[some v],rfl,I',q⟩
theorem tg_tup2 {X:Cx} {scope:Scope} {cl:List (Str × Addr)} {C:Addr} {N:List Str} {s₀:Shared} {H₀:Hp} {fp:List Addr} {x y:Str} {px py pos:Pos} {k:Nat} (K:PySem.W.Frag) (hc:X.calm=true) (hN:N.Nodup) (h0:N[0]?=some x) (h1:N[1]?=some y) (hx:scope.names.lookup x=some .local) (hy:scope.names.lookup y=some .local) (hK:X.K=K:=by rfl) :
  PTg (blkG X scope cl C N s₀ H₀ fp) (.Tuple [.Name x px,.Name y py] k pos) 2 (fun v H Q=>∃ a p q,v=.ref a∧SqT K H a [p,q]∧Q [some p,some q]):=by
 subst hK
 intro pins s pre rest H v u Q hp I r q
 obtain ⟨a,p,q',rfl,hq,q⟩:=q
 obtain ⟨p0,p1,rfl⟩:∃ p0 p1,pre=[p0,p1]:=by
  match pre,hp with
  | [p0,p1],_=>exact ⟨p0,p1,rfl⟩
 have P:PG (blkG X scope cl C N s₀ H₀ fp) (.Tuple [.Name x px,.Name y py] k pos) (gTup X.K 2 (gCons (gName 0) (gCons (gName 1) gNil))):=pg_tup (X:=blkG X scope cl C N s₀ H₀ fp) hc (pgs_cons (pg_name (i:=0) hN h0 (.inl (lookup_relabel_local hx)) (.inr (lookup_relabel_local hx))) (pgs_cons (pg_name (i:=1) hN h1 (.inl (lookup_relabel_local hy)) (.inr (lookup_relabel_local hy))) pgs_nil))
 refine thn (P pins s _ H (.ref a) u (fun σ' H'=>H'=H∧σ'=some p :: some q' :: rest) I r
  ⟨a,[p,q'],rfl,hq,rfl,p,[q'],rfl,q',[],rfl,rfl,rfl,rfl⟩) fun _ s' ⟨σ',H',I',e1,e2⟩=>?_
 subst e1 e2
 exact ⟨[some p,some q'],rfl,I',q⟩
theorem tg_tup3 {X:Cx} {scope:Scope} {cl:List (Str × Addr)} {C:Addr} {N:List Str} {s₀:Shared} {H₀:Hp} {fp:List Addr} {x y z:Str} {px py pz pos:Pos} {k:Nat} (K:PySem.W.Frag) (hc:X.calm=true) (hN:N.Nodup) (h0:N[0]?=some x) (h1:N[1]?=some y) (h2:N[2]?=some z) (hx:scope.names.lookup x=some .local) (hy:scope.names.lookup y=some .local) (hz:scope.names.lookup z=some .local) (hK:X.K=K:=by rfl) :
  PTg (blkG X scope cl C N s₀ H₀ fp) (.Tuple [.Name x px,.Name y py,.Name z pz] k pos) 3 (fun v H Q=>∃ a p q r,v=.ref a∧SqT K H a [p,q,r]∧Q [some p,some q,some r]):=by
 subst hK
 intro pins s pre rest H v u Q hp I r q
 obtain ⟨a,p,q',r',rfl,hq,q⟩:=q
 obtain ⟨p0,p1,p2,rfl⟩:∃ p0 p1 p2,pre=[p0,p1,p2]:=by
  match pre,hp with
  | [p0,p1,p2],_=>exact ⟨p0,p1,p2,rfl⟩
 have P:PG (blkG X scope cl C N s₀ H₀ fp) (.Tuple [.Name x px,.Name y py,.Name z pz] k pos) (gTup X.K 3 (gCons (gName 0) (gCons (gName 1) (gCons (gName 2) gNil)))):=pg_tup (X:=blkG X scope cl C N s₀ H₀ fp) hc (pgs_cons (pg_name (i:=0) hN h0 (.inl (lookup_relabel_local hx)) (.inr (lookup_relabel_local hx))) (pgs_cons (pg_name (i:=1) hN h1 (.inl (lookup_relabel_local hy)) (.inr (lookup_relabel_local hy))) (pgs_cons (pg_name (i:=2) hN h2 (.inl (lookup_relabel_local hz)) (.inr (lookup_relabel_local hz))) pgs_nil)))
 refine thn (P pins s _ H (.ref a) u (fun σ' H'=>H'=H∧σ'=some p :: some q' :: some r' :: rest) I r
  ⟨a,[p,q',r'],rfl,hq,rfl,p,[q',r'],rfl,q',[r'],rfl,r',[],rfl,rfl,rfl,rfl⟩) fun _ s' ⟨σ',H',I',e1,e2⟩=>?_
 subst e1 e2
 exact ⟨[some p,some q',some r'],rfl,I',q⟩
theorem qe_compG {X:Cx} {elt iter tg:Expr} {ns N2:List Str} {f:St→St} {TP:V→Hp→(St→Prop)→Prop} {ifs:List Expr} {scope:Scope} {pos:Pos} {wi:TI} {tt:TT} {te:TE} (hc:X.calm=true) (ok:CompG X scope ns N2 f) (hi:QI X tg iter wi)
  (hg:∀ cl C s₀ H₀ fp,PTg (blkG X scope cl C (ns ++ N2) s₀ H₀ fp) tg ns.length TP)
  (ht:∀ cl C s₀ H₀ fp,QTs (blkG X scope cl C (ns ++ N2) s₀ H₀ fp) ifs tt) (he:∀ cl C s₀ H₀ fp,QE (blkG X scope cl C (ns ++ N2) s₀ H₀ fp) elt te)
  (hs:∀ x,foldedSetIterable iter X.env x=pure x:=by intro _;rfl):QE X (.ListComp elt [⟨tg,iter,ifs,0⟩] scope pos) (tCompG f ns.length wi TP tt te):=
 ⟨pe_compG hc ok hi.out hg (fun cl C s₀ H₀ fp=>(ht cl C s₀ H₀ fp).out) (fun cl C s₀ H₀ fp=>(he cl C s₀ H₀ fp).out) hs⟩
def TurnG (n i:Nat) (D:Addr) (TP:V→Hp→(St→Prop)→Prop) (f:St→St) (σ:St) (tt:TT) (te:TE) (x:V) (H:Hp) (ys:List V) (P:List V→Hp→Prop):Prop:=
 TP x H fun pre=>tt (pre ++ f σ) H fun b H2=>if b=true then te (pre ++ f σ) H2 fun y H3=>H3 D=some (.lst ys)∧ys.length < sizeLine∧Nxt n i (P (ys ++ [y]) (upd H3 D (.lst (ys ++ [y])))) else Nxt n i (P ys H2)
theorem compG1_list {K:PySem.W.Frag} {a:Addr} {xs:List V} {D:Addr} {f:St→St} {tt:TT} {te:TE} {σ:St} {H:Hp} {R:Hp→Prop} (Pv:Nat→List V→Hp→Prop) (h0:Pv 0 [] (upd H D (.lst []))) (hl:∀ i ys H,i≤xs.length→Pv i ys H→SqL K H a xs)
  (hs:∀ i x ys H,xs[i]?=some x→Pv i ys H→TurnG xs.length i D (fun v _ Q=>Q [some v]) f σ tt te x H ys (Pv (i + 1)))
  (hd:∀ ys H,Pv xs.length ys H→R H) :
  ∃ W:Nat→Nat→List V→Hp→Prop,(∃ m,W 0 m [] (upd H D (.lst [])))∧
   ∀ i m ys H,W i m ys H→((Itl K a).stop i H∧R H)∨((Itl K a).go i H∧∀ x H',(Itl K a).yld i H x H'→tt ([some x] ++ f σ) H' fun b H2=>
    if b=true then te ([some x] ++ f σ) H2 fun y H3=>H3 D=some (.lst ys)∧ys.length < sizeLine∧∃ m',m' < m∧W (i + 1) m' (ys ++ [y]) (upd H3 D (.lst (ys ++ [y])))
    else ∃ m',m' < m∧W (i + 1) m' ys H2):=by
 refine ⟨fun i m ys H=>m=xs.length - i∧i≤xs.length∧Pv i ys H,⟨xs.length,by simp,Nat.zero_le _,h0⟩,?_⟩
 rintro i m ys H ⟨rfl,hi,p⟩
 have q:=hl i ys H hi p
 by_cases hlt:i < xs.length
 ·refine .inr ⟨⟨xs,xs[i],q,by simp [hlt]⟩,fun x H' y=>?_⟩
  obtain ⟨e,y⟩:=y
  subst e
  exact hs i x ys H' (y xs q) p
 ·have e:i=xs.length:=by omega
  subst e
  exact .inl ⟨⟨xs,q,Nat.le_refl _⟩,hd ys H p⟩
theorem compG1_tup {K:PySem.W.Frag} {a:Addr} {xs:List V} {D:Addr} {f:St→St} {tt:TT} {te:TE} {σ:St} {H:Hp} {R:Hp→Prop} (Pv:Nat→List V→Hp→Prop) (h0:Pv 0 [] (upd H D (.lst []))) (hl:∀ i ys H,i≤xs.length→Pv i ys H→SqT K H a xs)
  (hs:∀ i x ys H,xs[i]?=some x→Pv i ys H→TurnG xs.length i D (fun v _ Q=>Q [some v]) f σ tt te x H ys (Pv (i + 1)))
  (hd:∀ ys H,Pv xs.length ys H→R H) :
  ∃ W:Nat→Nat→List V→Hp→Prop,(∃ m,W 0 m [] (upd H D (.lst [])))∧
   ∀ i m ys H,W i m ys H→((Itt K a).stop i H∧R H)∨((Itt K a).go i H∧∀ x H',(Itt K a).yld i H x H'→tt ([some x] ++ f σ) H' fun b H2=>
    if b=true then te ([some x] ++ f σ) H2 fun y H3=>H3 D=some (.lst ys)∧ys.length < sizeLine∧∃ m',m' < m∧W (i + 1) m' (ys ++ [y]) (upd H3 D (.lst (ys ++ [y])))
    else ∃ m',m' < m∧W (i + 1) m' ys H2):=by
 refine ⟨fun i m ys H=>m=xs.length - i∧i≤xs.length∧Pv i ys H,⟨xs.length,by simp,Nat.zero_le _,h0⟩,?_⟩
 rintro i m ys H ⟨rfl,hi,p⟩
 have q:=hl i ys H hi p
 by_cases hlt:i < xs.length
 ·refine .inr ⟨⟨xs,xs[i],q,by simp [hlt]⟩,fun x H' y=>?_⟩
  obtain ⟨e,y⟩:=y
  subst e
  exact hs i x ys H' (y xs q) p
 ·have e:i=xs.length:=by omega
  subst e
  exact .inl ⟨⟨xs,q,Nat.le_refl _⟩,hd ys H p⟩
theorem compG2_list {K:PySem.W.Frag} {a:Addr} {xs:List V} {D:Addr} {f:St→St} {KT:PySem.W.Frag} {tt:TT} {te:TE} {σ:St} {H:Hp} {R:Hp→Prop} (Pv:Nat→List V→Hp→Prop) (h0:Pv 0 [] (upd H D (.lst []))) (hl:∀ i ys H,i≤xs.length→Pv i ys H→SqL K H a xs)
  (hs:∀ i x ys H,xs[i]?=some x→Pv i ys H→TurnG xs.length i D (fun v H Q=>∃ a p q,v=.ref a∧SqT KT H a [p,q]∧Q [some p,some q]) f σ tt te x H ys (Pv (i + 1)))
  (hd:∀ ys H,Pv xs.length ys H→R H) :
  ∃ W:Nat→Nat→List V→Hp→Prop,(∃ m,W 0 m [] (upd H D (.lst [])))∧
   ∀ i m ys H,W i m ys H→((Itl K a).stop i H∧R H)∨((Itl K a).go i H∧∀ x H',(Itl K a).yld i H x H'→∃ a p q,x=.ref a∧SqT KT H' a [p,q]∧(tt ([some p,some q] ++ f σ) H' fun b H2=>
    if b=true then te ([some p,some q] ++ f σ) H2 fun y H3=>H3 D=some (.lst ys)∧ys.length < sizeLine∧∃ m',m' < m∧W (i + 1) m' (ys ++ [y]) (upd H3 D (.lst (ys ++ [y])))
    else ∃ m',m' < m∧W (i + 1) m' ys H2)):=by
 refine ⟨fun i m ys H=>m=xs.length - i∧i≤xs.length∧Pv i ys H,⟨xs.length,by simp,Nat.zero_le _,h0⟩,?_⟩
 rintro i m ys H ⟨rfl,hi,p⟩
 have q:=hl i ys H hi p
 by_cases hlt:i < xs.length
 ·refine .inr ⟨⟨xs,xs[i],q,by simp [hlt]⟩,fun x H' y=>?_⟩
  obtain ⟨e,y⟩:=y
  subst e
  exact hs i x ys H' (y xs q) p
 ·have e:i=xs.length:=by omega
  subst e
  exact .inl ⟨⟨xs,q,Nat.le_refl _⟩,hd ys H p⟩
theorem compG3_tup {K:PySem.W.Frag} {a:Addr} {xs:List V} {D:Addr} {f:St→St} {KT:PySem.W.Frag} {tt:TT} {te:TE} {σ:St} {H:Hp} {R:Hp→Prop} (Pv:Nat→List V→Hp→Prop) (h0:Pv 0 [] (upd H D (.lst []))) (hl:∀ i ys H,i≤xs.length→Pv i ys H→SqT K H a xs)
  (hs:∀ i x ys H,xs[i]?=some x→Pv i ys H→TurnG xs.length i D (fun v H Q=>∃ a p q r,v=.ref a∧SqT KT H a [p,q,r]∧Q [some p,some q,some r]) f σ tt te x H ys (Pv (i + 1)))
  (hd:∀ ys H,Pv xs.length ys H→R H) :
  ∃ W:Nat→Nat→List V→Hp→Prop,(∃ m,W 0 m [] (upd H D (.lst [])))∧
   ∀ i m ys H,W i m ys H→((Itt K a).stop i H∧R H)∨((Itt K a).go i H∧∀ x H',(Itt K a).yld i H x H'→∃ a p q r,x=.ref a∧SqT KT H' a [p,q,r]∧(tt ([some p,some q,some r] ++ f σ) H' fun b H2=>
    if b=true then te ([some p,some q,some r] ++ f σ) H2 fun y H3=>H3 D=some (.lst ys)∧ys.length < sizeLine∧∃ m',m' < m∧W (i + 1) m' (ys ++ [y]) (upd H3 D (.lst (ys ++ [y])))
    else ∃ m',m' < m∧W (i + 1) m' ys H2)):=by
 refine ⟨fun i m ys H=>m=xs.length - i∧i≤xs.length∧Pv i ys H,⟨xs.length,by simp,Nat.zero_le _,h0⟩,?_⟩
 rintro i m ys H ⟨rfl,hi,p⟩
 have q:=hl i ys H hi p
 by_cases hlt:i < xs.length
 ·refine .inr ⟨⟨xs,xs[i],q,by simp [hlt]⟩,fun x H' y=>?_⟩
  obtain ⟨e,y⟩:=y
  subst e
  exact hs i x ys H' (y xs q) p
 ·have e:i=xs.length:=by omega
  subst e
  exact .inl ⟨⟨xs,q,Nat.le_refl _⟩,hd ys H p⟩
theorem turn1 {n i:Nat} {D:Addr} {f:St→St} {σ:St} {te:TE} {x:V} {H:Hp} {ys:List V} {P:List V→Hp→Prop} (h:te ([some x] ++ f σ) H fun y H3=>H3 D=some (.lst ys)∧ys.length < sizeLine∧Nxt n i (P (ys ++ [y]) (upd H3 D (.lst (ys ++ [y]))))) :
  TurnG n i D (fun v _ Q=>Q [some v]) f σ tYes te x H ys P:=by
 show (if true=true then (te ([some x] ++ f σ) H fun y H3=>H3 D=some (.lst ys)∧ys.length < sizeLine∧Nxt n i (P (ys ++ [y]) (upd H3 D (.lst (ys ++ [y]))))) else Nxt n i (P ys H))
 rw [if_pos rfl]
 exact h
theorem turn2 {KT:PySem.W.Frag} {n i:Nat} {D a:Addr} {p q:V} {f:St→St} {σ:St} {te:TE} {x:V} {H:Hp} {ys:List V} {P:List V→Hp→Prop} (hx:x=.ref a) (hS:SqT KT H a [p,q]) (h:te ([some p,some q] ++ f σ) H fun y H3=>H3 D=some (.lst ys)∧ys.length < sizeLine∧Nxt n i (P (ys ++ [y]) (upd H3 D (.lst (ys ++ [y]))))) :
  TurnG n i D (fun v H Q=>∃ a p q,v=.ref a∧SqT KT H a [p,q]∧Q [some p,some q]) f σ tYes te x H ys P:=by
 refine ⟨a,p,q,hx,hS,?_⟩
 show (if true=true then (te ([some p,some q] ++ f σ) H fun y H3=>H3 D=some (.lst ys)∧ys.length < sizeLine∧Nxt n i (P (ys ++ [y]) (upd H3 D (.lst (ys ++ [y]))))) else Nxt n i (P ys H))
 rw [if_pos rfl]
 exact h
theorem turn3 {KT:PySem.W.Frag} {n i:Nat} {D a:Addr} {p q r:V} {f:St→St} {σ:St} {te:TE} {x:V} {H:Hp} {ys:List V} {P:List V→Hp→Prop} (hx:x=.ref a) (hS:SqT KT H a [p,q,r]) (h:te ([some p,some q,some r] ++ f σ) H fun y H3=>H3 D=some (.lst ys)∧ys.length < sizeLine∧Nxt n i (P (ys ++ [y]) (upd H3 D (.lst (ys ++ [y]))))) :
  TurnG n i D (fun v H Q=>∃ a p q r,v=.ref a∧SqT KT H a [p,q,r]∧Q [some p,some q,some r]) f σ tYes te x H ys P:=by
 refine ⟨a,p,q,r,hx,hS,?_⟩
 show (if true=true then (te ([some p,some q,some r] ++ f σ) H fun y H3=>H3 D=some (.lst ys)∧ys.length < sizeLine∧Nxt n i (P (ys ++ [y]) (upd H3 D (.lst (ys ++ [y]))))) else Nxt n i (P ys H))
 rw [if_pos rfl]
 exact h
end L2
end
section
set_option Elab.async false
set_option linter.all false
set_option maxRecDepth 100000
namespace L2
open PySem PySem.Spec PyProof.Rows
section
variable {X:Cx}
def rRemove:V→List V→Hp→VK→Prop:=fun x vs H Q=>∃ (l:Addr) (us:List (List Nat)) (w:List Nat),x=.ref l∧vs=[.str (S w)]∧H l=some (.lst (Ts us))∧w∈us∧us.length≤1000∧Q .non (upd H l (.lst (Ts (us.erase w))))
def strEq (w:List Nat) (u:Value):Bool:=match u with
 | .str z _=>z.cps.toList == w
 | _=>false
theorem erase_idx {us:List (List Nat)} {w:List Nat}:us.erase w=us.eraseIdx (us.idxOf w):=by
 induction us with
 | nil=>rfl
 | cons a r ih=>
  by_cases h:a=w
  ·subst h;simp
  ·rw [List.erase_cons_tail (by simpa using h),List.idxOf_cons,cond_eq_ite,if_neg (by simpa using h),List.eraseIdx_cons_succ,ih]
theorem mt_remove:MtM X "list.remove" rRemove:=by
 intro pins s σ H x vs v us Q I rx rv h
 obtain ⟨l,ls,w,rfl,rfl,hH,hw,hz,q⟩:=h
 cases rx
 obtain ⟨u,rfl,ru⟩:=rv.one
 obtain ⟨t,rfl⟩:=ru
 obtain ⟨z,its,n,r,hl,e⟩:=I.lstM hH
 have hlen:its.length=ls.length:=by rw [← hl,List.length_map]
 have hj:ls.idxOf w < ls.length:=List.idxOf_lt_length_of_mem hw
 have get:∀ (m:Nat) (hm:m < its.toArray.size),∃ (tk:Tok) (hm':m < ls.length),its.toArray[m]=.str (S ls[m]) tk:=fun m hm=>by
  have hm':m < ls.length:=by simp at hm;omega
  obtain ⟨u1,e1,s1⟩:=r.get (i:=m) (x:=.str (S ls[m])) (by simp [hm'])
  obtain ⟨tk,rfl⟩:=s1
  refine ⟨tk,hm',?_⟩
  rw [List.getElem?_eq_getElem (by omega)] at e1
  simpa using e1
 refine call_meets F.slot_list_remove ⟨_,e,rfl⟩ F.entry_list_remove (F.args_list_remove_2 _ _) (PySem.MeetsSeq.list_remove l its.toArray n (.str (S w) t) (strEq w) (fun y hy=>?_) (ls.idxOf w) (by rw [List.size_toArray];omega) ?_ (fun m hm hm2=>?_) (by rw [List.size_toArray,hlen];exact Nat.le_of_lt (small1000 hz))) ⟨e,?_⟩
 ·obtain ⟨m,hm,rfl⟩:=Array.mem_iff_getElem.mp hy
  obtain ⟨tk,_,e1⟩:=get m hm
  rw [e1]
  exact PySem.SeqRoads2.EqGives.str _ _ _ _
 ·obtain ⟨tk,hm',e1⟩:=get (ls.idxOf w) (by rw [List.size_toArray];omega)
  rw [e1]
  show (ls[ls.idxOf w] == w)=true
  rw [List.getElem_idxOf]
  simp
 ·obtain ⟨tk,hm',e1⟩:=get m hm
  rw [e1]
  show (ls[m] == w)=false
  have:=List.not_of_lt_findIdx (p:=fun a=>a == w) (xs:=ls) (show m < ls.findIdx (fun a=>a == w) from hm2)
  simpa using this
 ·refine ⟨.non,_,I.lset (its':=its.eraseIdx (ls.idxOf w)) hH e ?_ ?_ ?_,rfl,q⟩
  ·rw [Array.eraseIdxIfInBounds,dif_pos (by rw [List.size_toArray];omega)]
   simp
  ·rw [erase_idx]
   have hv:=Vals.eraseIdx (ls.idxOf w) r
   have em:∀ (xs:List (List Nat)) (i:Nat),Ts (xs.eraseIdx i)=(Ts xs).eraseIdx i:=by
    intro xs
    induction xs with
    | nil=>intro i;rfl
    | cons a r ih=>
     intro i
     cases i with
     | zero=>rfl
     | succ i=>rw [List.eraseIdx_cons_succ,Ts,List.map_cons,Ts,List.map_cons,List.eraseIdx_cons_succ];congr 1;exact ih i
   rw [em]
   exact hv
  ·rw [List.length_map]
   exact Nat.le_trans (List.length_erase_le ..) (Nat.le_of_lt (small1000 hz))
def rSortL (K:PySem.W.Frag):List V→Hp→VK→Prop:=fun xs H Q=>∃ (a:Addr) (ws:List (List Nat)),xs=[.ref a]∧SqL K H a (Ts ws)∧ws.length < 64∧∀ (p:Addr) (ws':List (List Nat)),H p=none→ws'.Perm ws→ws'.Pairwise (fun a b=>decide (b < a)=false)→Q (.ref p) (upd H p (.lst (Ts ws')))
theorem call_sortedL:CallR X (.builtin "sorted") (rSortL X.K):=by
 intro pins s σ H xs us Q I r h
 obtain ⟨a,ws,rfl,hS,h64,q⟩:=h
 obtain ⟨u,rfl,ru⟩:=vals1 r
 cases ru
 obtain ⟨its,rv,pl,_⟩:=I.list hS
 have hlen:its.length=ws.length:=by have:=rv.length;simpa using this.symm
 refine sorted_strs pl.isList (strs_of rv) (by omega) fun out ss' a1 a2 a3=>?_
 obtain ⟨e,he⟩:=sortedAll_at s.heap its out
 have pm':(ss'.map fun y=>y.cps.toList).Perm ws:=by
  have:=a2.map fun y:Str=>y.cps.toList
  rw [List.map_map] at this
  have e:((fun y:Str=>y.cps.toList) ∘ S)=id:=rfl
  rw [e,List.map_id] at this
  exact this
 have hv:Vals (Ts (ss'.map fun y=>y.cps.toList)) out.toList:=by
  have:=vals_of_strs a1
  have es:(ss'.map V.str)=Ts (ss'.map fun y=>y.cps.toList):=by
   rw [Ts,List.map_map]
   exact List.map_congr_left fun y _=>by simp [Function.comp_def,S_of]
  rw [es] at this
  exact this
 have hl:(Ts (ss'.map fun y=>y.cps.toList)).length≤sizeLine:=by
  rw [List.length_map,pm'.length_eq];exact Nat.le_of_lt (small1000 (by omega))
 refine ⟨.ref (s.heap.objs.size + 1),_,I.laid (o:=.lst _) (t':=s.toks) (fun b o z=>sortedAll_old z) (Nat.le_succ _) ⟨hl,out.toList,e,hv,by rw [Array.toArray_toList];exact he⟩,rfl,q _ _ (I.hok.fresh (Nat.le_succ _)) pm' (sorted_pw ss' a3)⟩
def tCut (t:TS):TS:=fun D σ H=>∃ Iv:St→Hp→Prop,t { D with nx:=Iv } σ H∧∀ σ' H',Iv σ' H'→D.nx σ' H'
theorem qs_cut {st:Stmt} {t:TS} (h:QS X st t):QS X st (tCut t):=⟨fun pins s σ H D I ⟨Iv,a,b⟩=>by
 refine thn (h.out pins s σ H _ I a) fun f s' q=>?_
 cases f with
 | next=>obtain ⟨σ7,H7,I7,n7⟩:=q;exact ⟨σ7,H7,I7,b _ _ n7⟩
 | cont=>exact q
 | brk=>exact q
 | ret v=>exact q⟩
end
end L2
end
section
set_option Elab.async false
set_option linter.all false
set_option maxRecDepth 100000
namespace L2
open PySem PySem.Spec PyProof.Rows PySem.W
section
variable {n:Nat} {r:Nat→Nat}
structure PermA (n:Nat) (p:Array Nat):Prop where
 sz:p.size=n
 pm:p.toList.Perm (List.range n)
end
end L2
end
section
set_option Elab.async false
set_option linter.all false
set_option maxRecDepth 100000
set_option maxHeartbeats 1000000
namespace L2
open PySem PySem.Spec PyProof.Rows PySem.W
section
variable {prog:Program} {w:World} {A:Around} {E:Value→Shared→Prop} {s:Shared}
end
section
variable {X:Cx}
end
end L2
end
section
set_option Elab.async false
set_option linter.all false
set_option maxRecDepth 100000
set_option maxHeartbeats 1000000
namespace L2
open PySem PySem.Spec PyProof.Rows PySem.W
section
variable {prog:Program} {w:World} {A:Around} {E:Value→Shared→Prop} {s:Shared} {d a:Addr} {g:Array DictEntry} {e i:Nat}
end
section
variable {X:Cx}
open Classical in
theorem any_eqv (d:Dt):∀ es:List Dt,((toPs es).any fun y=>PyData.eqv y (toP d))=decide (d∈es)
 | []=>by simp [toPs]
 | e :: es=>by
  rw [toPs,List.any_cons,any_eqv d es,eqv_dec]
  by_cases z:e=d
  ·subst z;simp
  ·have z':¬d=e:=fun y=>z y.symm
   simp [z,z']
end
section
variable {X:Cx} {pos:Pos}
end
end L2
end
section
set_option Elab.async false
set_option linter.all false
set_option maxRecDepth 100000
set_option maxHeartbeats 1000000
namespace L2
open PySem PySem.Spec PyProof.Rows PySem.W
section
variable {prog:Program} {w:World} {A:Around} {E:Value→Shared→Prop} {s:Shared}
theorem lt_two {a b:Addr} {oa ob:Obj} {na nb:Nat} {x1 y1 x2 y2:Nat} {t1 t2 t3 t4:Tok} {r1 r2:List Value} {Q:Value→Shared→Prop}
  (ha:s.heap.get? a=some oa) (ca:oa.cls=.type "tuple") (da:oa.data=.seq (Value.int x1 t1 :: Value.int y1 t2 :: r1).toArray na)
  (hb:s.heap.get? b=some ob) (cb:ob.cls=.type "tuple") (db:ob.data=.seq (Value.int x2 t3 :: Value.int y2 t4 :: r2).toArray nb) (l1:y1 < 1000) (l2:y2 < 1000) (hu:A.units < cLine) (hne:x1 * 1000 + y1≠x2 * 1000 + y2)
  (q:Q (.bool (decide (x1 * 1000 + y1 < x2 * 1000 + y2))) s):wpAny (model prog w) A (compareOp .Lt (.ref a) (.ref b)) Q E s:=by
 have Ta:s.TypeIs (.ref a) "tuple":=⟨oa,ha,ca⟩
 have Tb:s.TypeIs (.ref b) "tuple":=⟨ob,hb,cb⟩
 show wpAny _ _ (richCompare .Lt (.ref a) (.ref b)) Q E s
 refine wpAny_richCompare_same_room (op:=.Lt) (T:="tuple") Ta Tb F.slot_tuple_lt (wpAny_call_entry F.slot_tuple_lt Ta F.entry_tuple_lt ?_ (F.args_tuple_lt_2 _ _)) hu
 show wpAny _ _ (isInstance (.ref b) (.type "tuple") >>= _) _ _ s
 refine wpAny_bind (wpAny_isInstance Tb isSubtype_tuple_tuple ?_)
 simp only [Bool.not_true,Bool.false_eq_true,if_false]
 refine wpAny_bind (wpAny_tupleItemsOf ha da (wpAny_bind (wpAny_tupleItemsOf hb db (wpAny_bind ?_))))
 rw [show (Value.int (x1:Int) t1 :: Value.int (y1:Int) t2 :: r1).toArray.toList.zip (Value.int (x2:Int) t3 :: Value.int (y2:Int) t4 :: r2).toArray.toList=(Value.int (x1:Int) t1,Value.int (x2:Int) t3) :: (Value.int (y1:Int) t2,Value.int (y2:Int) t4) :: r1.zip r2 from rfl]
 rw [List.forIn_cons]
 refine wpAny_bind ?_
 dsimp only
 refine wpAny_bind (SeqAt.EqAt.int_int _ _ _ _ prog w _ _ ?_)
 by_cases ex:x1=x2
 ·subst ex
  simp only [beq_self_eq_true,Bool.not_true,Bool.false_eq_true,if_false]
  refine wpAny_pure ?_
  dsimp only
  rw [List.forIn_cons]
  refine wpAny_bind ?_
  dsimp only
  refine wpAny_bind (SeqAt.EqAt.int_int _ _ _ _ prog w _ _ ?_)
  have ey:((y1:Int) == (y2:Int))=false:=by
   apply beq_eq_false_iff_ne.mpr;intro z;exact hne (by omega)
  simp only [ey,Bool.not_false,if_true]
  refine wpAny_bind (wpAny_rule (wpAny_bind (lt_int ?_)))
  refine wpAny_bind (wpAny_pure (wpAny_pure (wpAny_pure (wpAny_pure ⟨_,rfl,by simp,?_⟩))))
  rw [show decide ((y1:Int) < (y2:Int))=decide (x1 * 1000 + y1 < x1 * 1000 + y2) by simp]
  exact q
 ·have ey:((x1:Int) == (x2:Int))=false:=by
   apply beq_eq_false_iff_ne.mpr;intro z;exact ex (by omega)
  simp only [ey,Bool.not_false,if_true]
  refine wpAny_bind (wpAny_rule (wpAny_bind (lt_int ?_)))
  refine wpAny_bind (wpAny_pure (wpAny_pure (wpAny_pure (wpAny_pure ⟨_,rfl,by simp,?_⟩))))
  rw [show decide ((x1:Int) < (x2:Int))=decide (x1 * 1000 + y1 < x2 * 1000 + y2) by
    by_cases z:x1 < x2
    ·rw [decide_eq_true (by omega),decide_eq_true (by omega)]
    ·rw [decide_eq_false (by omega),decide_eq_false (by omega)]]
  exact q
end
section
variable {X:Cx}
def rLtC:R2:=fun x y H Q=>∃ (a b:Addr) (x1 y1 x2 y2:Nat) (r1 r2:List V),x=.ref a∧y=.ref b∧H a=some (.tup (.int x1 :: .int y1 :: r1))∧H b=some (.tup (.int x2 :: .int y2 :: r2))∧y1 < 1000∧y2 < 1000∧x1 * 1000 + y1≠x2 * 1000 + y2∧
 Q (.bl (decide (x1 * 1000 + y1 < x2 * 1000 + y2))) H
theorem op_ltC (hu:X.A.units < cLine):OpR X (compareOp .Lt) rLtC:=by
 intro pins s σ H x y v u Q I rx ry h
 obtain ⟨a,b,x1,y1,x2,y2,r1,r2,rfl,rfl,ea,eb,l1,l2,hne,q⟩:=h
 cases rx
 cases ry
 obtain ⟨_,tv,rtv,o,ho,hc,n,hd⟩:=I.hok _ _ ea
 obtain ⟨_,tv',rtv',o',ho',hc',n',hd'⟩:=I.hok _ _ eb
 cases rtv with
 | cons q1 rr=>
  cases rr with
  | cons q2 rr=>
   cases rtv' with
   | cons q3 rr'=>
    cases rr' with
    | cons q4 rr'=>
     obtain ⟨t1,rfl⟩:=q1
     obtain ⟨t2,rfl⟩:=q2
     obtain ⟨t3,rfl⟩:=q3
     obtain ⟨t4,rfl⟩:=q4
     exact lt_two ho hc hd ho' hc' hd' l1 l2 hu hne ⟨.bl _,H,I,rfl,q⟩
end
end L2
end
section
set_option Elab.async false
set_option linter.all false
set_option maxRecDepth 100000
set_option maxHeartbeats 1000000
namespace L2
open PySem PySem.Spec PyProof.Rows PySem.W
section
variable {X:Cx}
structure InstOk (K:PySem.W.Frag) (C:Addr):Prop where
 ha:PySem.W.findIn K (.ref C) "__class__"=some (some (.builtin "object.__class__"))
 hn:PySem.W.specialIn K (.builtin "object.__class__") "__get__"=some (some (.builtin "getset_descriptor.__get__"))
 ht:PySem.W.takesIn K (.builtin "object.__class__")=some true
 hm:PySem.W.mroIn K C (.type "object")=some true
 ki:PySem.W.kitOne K (.ref C) (.ref C)=some true
def rListS:List V→Hp→VK→Prop:=fun xs H Q=>∃ l:List Nat,xs=[.str (S l)]∧l.length≤1000∧∀ p,H p=none→Q (.ref p) (upd H p (.lst (Ts (l.map fun c=>[c]))))
theorem sign_vals:∀ (l:List Nat) (us:List Value),us.length=l.length→(∀ (i c:Nat),l[i]?=some c→∃ t,us[i]?=some (.str (S [c]) t))→Vals (Ts (l.map fun c=>[c])) us
 | [],[],_,_=>.nil
 | [],_ :: _,h,_=>by simp at h
 | _ :: _,[],h,_=>by simp at h
 | c :: l,u :: us,h,k=>by
  obtain ⟨t,e⟩:=k 0 c rfl
  have e:u=.str (S [c]) t:=Option.some.inj e
  exact .cons ⟨t,e⟩ (sign_vals l us (by simpa using h) fun i d hd=>k (i + 1) d hd)
theorem call_listS (hc:X.calm=true):CallR X (.type "list") rListS:=by
 intro pins s σ H xs us Q I r h
 obtain ⟨l,rfl,hl,q⟩:=h
 obtain ⟨u,rfl,ru⟩:=vals1 r
 obtain ⟨t,rfl⟩:=ru
 have hz:l.length≤sizeLine:=Nat.le_of_lt (small1000 (by omega))
 refine call_list_str (I.ok.hd hc) (S l) t (fun h' tk acc c' hk hD hacc=>?_) (by show l.toArray.size≤_;simpa using hz)
 have hsz:acc.size=l.length:=by rw [hacc.1];show l.toArray.size=_;simp
 refine ⟨.ref s.heap.objs.size,_,I.laid (o:=.lst (Ts (l.map fun c=>[c]))) (t':=tk) hk (Nat.le_refl _) ⟨by rw [List.length_map,List.length_map];exact hz,acc.toList,c',?_,by simpa using hD⟩,rfl,q _ (I.hok.fresh (Nat.le_refl _))⟩
 refine sign_vals l acc.toList (by rw [Array.length_toList];exact hsz) fun i c hc=>?_
 have hi:i < acc.size:=by rw [hsz];exact (List.getElem?_eq_some_iff.mp hc).1
 obtain ⟨c2,t2,e1,e2⟩:=hacc.2 i acc[i] (by simp [hi])
 have e1:l.toArray[i]?=some c2:=e1
 rw [List.getElem?_toArray,hc] at e1
 have e1:=Option.some.inj e1
 exact ⟨t2,by rw [Array.getElem?_toList,Array.getElem?_eq_getElem hi,e2,e1];rfl⟩
end
end L2
end
section
set_option Elab.async false
set_option linter.all false
set_option maxRecDepth 100000
set_option maxHeartbeats 1000000
namespace L2
open PySem PySem.Spec PyProof.Rows
theorem ps_setG {X:Cx} {ix:Nat} {xn:Str} {pos0 spos:Pos} {elt iter tg:Expr} {ns N2:List Str} {f:St→St} {TP:V→Hp→(St→Prop)→Prop} {ifs:List Expr} {scope:Scope} {pos:Pos} {wi:TI} {tt:TT} {te:TE} (hN:X.N.Nodup) (hxi:X.N[ix]?=some xn) (hxl:Loc X.env.scope xn) (hc:X.calm=true) (ok:CompG X scope ns N2 f) (hi:PI X tg iter wi)
  (hg:∀ cl C s₀ H₀ fp,PTg (blkG X scope cl C (ns ++ N2) s₀ H₀ fp) tg ns.length TP)
  (ht:∀ cl C s₀ H₀ fp,PTs (blkG X scope cl C (ns ++ N2) s₀ H₀ fp) ifs tt) (he:∀ cl C s₀ H₀ fp,PE (blkG X scope cl C (ns ++ N2) s₀ H₀ fp) elt te)
  (hs:∀ x,foldedSetIterable iter X.env x=pure x:=by intro _;rfl) (hsw:swapsWith (.ListComp elt [⟨tg,iter,ifs,0⟩] scope pos) (some (.Name xn pos0)) spos.line X.env=pure true:=by rfl)
  (hf:X.fn xn=true∨X.env.scope.names.lookup xn=some .local:=by first | exact .inl rfl | exact .inr rfl | assumption) :
  PS X (.Assign [.Name xn pos0] (.ListComp elt [⟨tg,iter,ifs,0⟩] scope pos) spos) (tAsg (tCompG f ns.length wi TP tt te) (gName ix)):=by
 intro pins s σ H De I h
 obtain ⟨cl,hcl,hsub,_,hall⟩:=closure_ok (env:=X.env) scope.names (fun y hy e=>I.ok.has y.1 (ok.free y hy e)) [] (fun _ _ z=>by simp at z)
 have hclos:closureFor scope X.env=pure cl:=by
  unfold closureFor
  simp only [bind_pure]
  exact hcl
 rw [exec_Assign_Name_used _ _ _ _ hsw]
 refine wpAny_bind (wpAny_standAt (wpAny_bind (wpAny_bind ?_)))
 refine thn (Q:=fun _ s'=>∃ σ' H',Inv X pins σ' H' s'∧De.nx σ' H') ?_ fun _ s' hq=>wpAny_pure (wpAny_pure hq)
 refine wpAny_comprehension_free (use:=some (assign (.Name xn pos0) X.env)) (E:=X.xe) (cl:=cl) rfl hs hclos ok.kind ok.names (thn (hi pins s σ H _ I h) fun v s1 h1=>thn h1 fun itv s2 h2=>?_)
 obtain ⟨it,fp,tn,J,H2,e,I2,T,st2,f2,R⟩:=h2
 subst e
 obtain ⟨W,⟨m0,w0⟩,turn⟩:=R s2.heap.objs.size I2.fresh
 refine wpAny_newObj_type (wpAny_newFunctionEnv ok.ncell (by intro y hy;simp at hy) (fun h₁ hns₁ hsb₁=>?_) ok.kind)
 dsimp only at hns₁ hsb₁ ⊢
 have I3:Inv X pins σ (upd H2 s2.heap.objs.size (.lst [])) { s2 with heap:=s2.heap.push { cls:=.type "list",data:=.seq ([]:List Value).toArray } }:=I2.lnew (t':=s2.toks) (ys:=[]) (its:=[]) .nil (Nat.zero_le _)
 generalize hH3:upd H2 s2.heap.objs.size (HO.lst [])=H3 at *
 generalize hs3:s2.heap.push { cls:=.type "list",data:=.seq ([]:List Value).toArray }=hp3 at *
 generalize hD:s2.heap.objs.size=D at *
 generalize hC:hp3.objs.size=C at *
 have hDC:D < C:=by rw [← hC,← hs3,Heap.size_push,hD];exact Nat.lt_succ_self _
 have old:∀ b o,hp3.get? b=some o→h₁.get? b=some o:=fun b o e=>(hsb₁.2 b (by rw [← hC];exact Nat.ne_of_lt (Heap.lt_size e))).trans (Heap.get?_push_of_some _ e)
 have fpl:∀ b∈fp,b < C:=fun b hb=>by
  obtain ⟨o,e,_⟩:=T.obj _ _ st2 b hb
  rw [← hC,← hs3,Heap.size_push]
  exact Nat.lt_succ_of_lt (Heap.lt_size e)
 have f3:∀ b∈fp,FpOk X pins H3 b:=fun b hb=>by
  obtain ⟨o,e,_⟩:=T.obj _ _ st2 b hb
  refine ⟨?_,(f2 b hb).2⟩
  rw [← hH3,upd_ne (by rw [← hD];exact Nat.ne_of_lt (Heap.lt_size e))]
  exact (f2 b hb).1
 have nstk:∀ b∈fp,b∉frs X.stack:=fun b hb z=>by
  obtain ⟨_,g1,g2,_⟩:=f3 b hb
  rcases List.mem_cons.mp (I3.stkSub b z) with q | q
  ·exact g1 q
  ·exact g2 q
 have YOk:(blkG X scope cl C (ns ++ N2) { s2 with heap:=hp3 } H3 fp).Ok:=by
  refine ⟨I.ok.mod,?_,I.ok.glob,I.ok.blt,Nat.le_of_eq hC,?_,?_,?_,I.ok.hd,I.ok.frames,.inl rfl,?_,?_,?_,?_,?_,?_,?_⟩
  ·exact ok.kind
  ·exact fun a b c h1 h2=>I.ok.inj a b c (hsub a c h1) (hsub b c h2)
  ·intro a ha
   refine hall a ?_
   rcases ha with z | z
   ·rcases lookup_relabel (env:=X.env) z with q | ⟨_,q⟩
    ·exact absurd rfl (ok.ncell _ (lookup_mem' q))
    ·exact lookup_mem' q
   ·rcases lookup_relabel (env:=X.env) z with q | ⟨q,_⟩
    ·exact lookup_mem' q
    ·cases q
  ·intro a c hf;cases hf
  ·intro b hb
   refine ⟨Nat.ne_of_lt (fpl b hb),fun a c h1=>(f3 b hb).2.2.2.2.1 a c (hsub a c h1)⟩
  ·exact I3.bs
  ·exact Nat.le_trans I.ok.bsz I3.sz
  ·intro b o e hb
   rcases (f3 b hb).2.2.2.1 with z | z
   ·exact I.ok.noex b o e z
   ·exact absurd (Nat.lt_of_lt_of_le (Heap.lt_size e) (Nat.le_trans I.ok.bsz z)) (Nat.lt_irrefl _)
  ·exact nstk
  ·exact I3.stack
  ·exact I3.stkFree
 have Y0:Inv (blkG X scope cl C (ns ++ N2) { s2 with heap:=hp3 } H3 fp) [] (List.replicate ns.length none ++ f σ) H3 { s2 with heap:=h₁,toks:=s2.toks + ([]:List (Str × Value)).length }:=by
  refine ⟨YOk,rfl,I3.bare,Un.kept old,⟨_,hns₁,?_⟩,?_,?_,?_,fun p hp=>by simp [blkG] at hp,I3.hok.kept old,?_⟩
  ·intro i y v e1 e2 e3
   by_cases hin:i < ns.length
   ·rw [List.getElem?_append_left (by rw [List.length_replicate];exact hin),List.getElem?_replicate,if_pos hin] at e2
    simp at e2
   ·obtain ⟨i,rfl⟩:∃ k,i=ns.length + k:=⟨i - ns.length,by omega⟩
    have e1a:(ns ++ N2)[ns.length + i]?=some y:=e1
    rw [List.getElem?_append_right (by omega),Nat.add_sub_cancel_left] at e1a
    rw [List.getElem?_append_right (by rw [List.length_replicate];omega),List.length_replicate,Nat.add_sub_cancel_left] at e2
    obtain ⟨e1',e2',hout⟩:=ok.out σ i y v e1a e2
    have hfree:(y,NameKind.free)∈scope.names:=by
     have key:∀ k,(relabel scope X.env).names.lookup y=some k→k≠.local→k=.cell∨k=.free→(y,NameKind.free)∈scope.names:=fun k q n hk=>by
      rcases lookup_relabel (env:=X.env) q with z | ⟨_,z⟩
      ·rcases hk with rfl | rfl
       ·exact absurd rfl (ok.ncell _ (lookup_mem' z))
       ·exact lookup_mem' z
      ·exact lookup_mem' z
     rcases e3 with z | z | z
     ·rcases lookup_relabel (env:=X.env) z with q | ⟨q,_⟩
      ·exact absurd q hout
      ·cases q
     ·exact key _ z (by decide) (.inl rfl)
     ·exact key _ z (by decide) (.inr rfl)
    have hk:=ok.free _ hfree rfl
    obtain ⟨m,hn,hl⟩:=I3.loc
    obtain ⟨u,r,q⟩:=hl i y v e1' e2' (by rcases hk with z | z;exact .inr (.inl z);exact .inr (.inr z))
    refine ⟨u,r,.inr ⟨?_,?_⟩⟩
    ·rcases e3 with z | z | z
     ·rcases lookup_relabel (env:=X.env) z with q | ⟨q,_⟩
      ·exact absurd q hout
      ·cases q
     ·exact .inl z
     ·exact .inr z
    ·rcases q with ⟨z,_⟩ | ⟨_,c,hc',hcell⟩
     ·rcases hk with q | q <;> (rw [z] at q;cases q)
     ·obtain ⟨c',hc2⟩:=hall y hfree
      have:c'=c:=by have:=hsub y c' hc2;rw [hc'] at this;exact (Option.some.inj this).symm
      subst this
      obtain ⟨o,ho,hd⟩:=hcell
      exact ⟨c',hc2,o,old _ _ ho,hd⟩
  ·intro a c h1
   obtain ⟨v,o,ho,hd⟩:=I3.cell a c (hsub a c h1)
   exact ⟨v,o,old _ _ ho,hd⟩
  ·show H3 C=none
   exact I3.hok.fresh (Nat.le_of_eq hC)
  ·exact fun a c h1=>I3.freeC a c (hsub a c h1)
  ·show (List.replicate ns.length none ++ f σ).length=(ns ++ N2).length
   rw [List.length_append,List.length_append,List.length_replicate,ok.lenf,I.len,ok.lenN]
 have back:∀ (s':Shared) (v:St) (H':Hp) (h':Heap),Inv (blkG X scope cl C (ns ++ N2) { s2 with heap:=hp3 } H3 fp) [] v H' s'→Heap.SameBut C s'.heap h'→(∀ b∈fp,H' b=none)→Inv X pins σ H' { s' with heap:=h' }:=by
  intro s' v H' h' I' sb fr
  have neC:∀ b o,hp3.get? b=some o→b≠C:=fun b o e=>by rw [← hC];exact Nat.ne_of_lt (Heap.lt_size e)
  have U:Un (frs X.stack) fp H3 H' hp3 s'.heap:=I'.base
  refine I3.call' (ch:=fp) (H':=H') (s':={ s' with heap:=h' }) I'.os ⟨fun b o e n h1 h2=>(sb.2 b (neC b o e)).trans (U.keep b o e n h1 h2),fun b o e n h1 h2=>?_,U.free,fun b o e h2=>?_,U.tups,U.frzs,U.tbls⟩ (fun b ob e=>?_) I'.bare fun b hb=>?_
  ·obtain ⟨sl,q⟩:=U.slot b o e n h1 h2
   exact ⟨sl,(sb.2 b (neC b o e)).trans q⟩
  ·obtain ⟨o',q⟩:=U.there b o e h2
   exact ⟨o',(sb.2 b (neC b o e)).trans q⟩
  ·have fC:H' C=none:=I'.free
   refine (I'.hok b ob e).stay (fun c w' hc q=>(sb.2 c ?_).trans q) (fun _ q=>q) fun _ _ q=>q
   rintro rfl
   rcases hc with rfl | hc
   ·rw [fC] at e;cases e
   ·rw [fC] at hc;cases hc
  ·obtain ⟨_,g1,_,g3,g4,g5⟩:=f3 b hb
   exact ⟨g3,g1,g4,g5⟩
 have stat:∀ {H':Hp},(∀ b∈fp,H' b=none)→∀ b∈fp,FpOk (blkG X scope cl C (ns ++ N2) { s2 with heap:=hp3 } H3 fp) [] H' b:=fun hn b hb=>
  ⟨hn b hb,Nat.ne_of_lt (fpl b hb),nstk b hb,.inl hb,fun a c h1=>(f3 b hb).2.2.2.2.1 a c (hsub a c h1),fun p hp=>by simp [blkG] at hp⟩
 have st₁:tn 0 h₁:=T.keep _ _ _ st2 fun b _ o e=>old b o (by rw [← hs3];exact Heap.get?_push_of_some _ e)
 have loop:codeAny (model X.prog X.w) X.A (.compLoop (.ListComp elt [⟨tg,iter,ifs,0⟩] scope pos) 0 (.ref it) (.ref D) (compEnvC scope cl C X.env)) (compPost (model X.prog X.w) X.A X.xe (some (assign (.Name xn pos0) X.env)) (fun _ s'=>∃ σ' H',Inv X pins σ' H' s'∧De.nx σ' H') (.ref D) C)
   { s2 with heap:=h₁,toks:=s2.toks + ([]:List (Str × Value)).length }:=by
  refine compLoop_T (fun n s'=>∃ i v ys H',v.length=ns.length∧Inv (blkG X scope cl C (ns ++ N2) { s2 with heap:=hp3 } H3 fp) [] (v ++ f σ) H' s'∧tn i s'.heap∧(∀ b∈fp,H' b=none)∧W i n ys H') ?_ m0 ⟨0,List.replicate ns.length none,[],H3,List.length_replicate,Y0,st₁,fun b hb=>(f3 b hb).1,w0⟩
  rintro n s4 ⟨i,v,ys,H4,hv4,I4,st4,fr4,w4⟩
  rcases turn i n ys H4 w4 with ⟨stop,qn⟩ | ⟨go,step⟩
  ·refine thn (T.done (blkG X scope cl C (ns ++ N2) { s2 with heap:=hp3 } H3 fp) rfl rfl rfl hc i [] s4 (v ++ f σ) H4 _ I4 (stat fr4) st4 stop) fun r s5 ⟨hr,I5⟩=>?_
   subst hr
   obtain ⟨m,hn,_⟩:=id I5.loc
   have I5':Inv X pins σ H4 s5:=back s5 (v ++ f σ) H4 s5.heap I5 (Heap.SameBut.refl _ _) fr4
   have fC:FpOk X pins H4 C:=⟨I5.free,(I3.fpOk (H':=H3) (Nat.le_of_eq hC) (I3.hok.fresh (Nat.le_of_eq hC))).2⟩
   refine wpAny_assign_Name (store_ok2 I5' hN hxi hxl (show RelV (.ref D) (.ref D) from rfl) (fun s6 I6 ⟨a,sb6,ha⟩=>?_) hf)
   have nCa:C≠a:=by
    rcases ha with z | z
    ·rw [z];exact fC.2.1
    ·exact fun y=>fC.2.2.2.2.1 _ _ z y.symm
   obtain ⟨o,es,ep,e1,e2⟩:=hn
   refine ⟨m,⟨o,es,ep,(sb6.2 C nCa).trans e1,e2⟩,fun h' sb=>⟨_,H4,I6.turned (t':=s6.toks) (fun b o hb e=>(sb.2 b hb).trans e) fC.1 fC.2.1 fC.2.2.2.1 fC.2.2.2.2.1 fC.2.2.2.2.2,qn⟩⟩
  ·refine thn (T.item (blkG X scope cl C (ns ++ N2) { s2 with heap:=hp3 } H3 fp) rfl rfl rfl hc i [] s4 (v ++ f σ) H4 _ I4 (stat fr4) st4 go) fun r s5 ⟨u,hr,h5⟩=>?_
   subst hr
   refine thn h5 fun _ s6 ⟨y,H6,I6,r6,y6,st6,fr6⟩=>?_
   have I6':=I6.pinned (stat fr6) (T.obj _ _ st6)
   refine thn (hg cl C { s2 with heap:=hp3 } H3 fp _ s6 v (f σ) H6 y u _ hv4 I6' r6 (step y H6 y6)) fun _ s7 ⟨pre,hpre,I7',q7⟩=>?_
   refine thn (ht cl C { s2 with heap:=hp3 } H3 fp _ s7 _ H6 _ I7' q7) fun b s8 ⟨H8,I8,q8⟩=>?_
   have keepIt:∀ {σ':St} {H':Hp} {s':Shared},Inv (blkG X scope cl C (ns ++ N2) { s2 with heap:=hp3 } H3 fp) ([] ++ pinsAt fp s6.heap) σ' H' s'→tn (i + 1) s'.heap∧∀ b∈fp,H' b=none:=fun {σ' H' s'} I9=>by
    refine ⟨T.keep _ _ _ st6 fun b hb o e=>(I9.pin (b,o) (List.mem_append_right _ (List.mem_append_right _ (mem_pinsAt hb e)))).1,fun b hb=>?_⟩
    obtain ⟨o,e,d⟩:=T.obj _ _ st6 b hb
    exact (I9.pin (b,o) (List.mem_append_right _ (List.mem_append_right _ (mem_pinsAt hb e)))).2.1
   cases b with
   | false=>
    obtain ⟨m',hm,w'⟩:=q8
    obtain ⟨k1,k2⟩:=keepIt I8
    exact ⟨m',hm,i + 1,pre,ys,H8,hpre,I8.unpinned,k1,k2,w'⟩
   | true=>
    have q8':te (pre ++ f σ) H8 _:=q8
    show wpAny _ _ (eval elt _) _ _ _
    refine thn (he cl C { s2 with heap:=hp3 } H3 fp _ s8 _ H8 _ I8 q8') fun z s9 ⟨zv,H9,I9,r9,hD9,hz9,m',hm,w'⟩=>?_
    refine thn (mt_append (X:=blkG X scope cl C (ns ++ N2) { s2 with heap:=hp3 } H3 fp) _ s9 _ H9 (.ref D) [zv] (.ref D) [z] (fun _ H'=>H'=upd H9 D (.lst (ys ++ [zv]))) I9 rfl (.cons r9 .nil) ⟨D,ys,zv,rfl,rfl,hD9,hz9,rfl⟩) fun _ s10 ⟨_,H10,I10,_,e10⟩=>?_
    subst e10
    obtain ⟨k1,k2⟩:=keepIt I10
    exact ⟨m',hm,i + 1,pre,ys ++ [zv],_,hpre,I10.unpinned,k1,k2,w'⟩
 exact codeAny_compStart_list loop (T.self X.A 0 _ _ _ st₁ loop)
theorem qs_setG {X:Cx} {ix:Nat} {xn:Str} {pos0 spos:Pos} {elt iter tg:Expr} {ns N2:List Str} {f:St→St} {TP:V→Hp→(St→Prop)→Prop} {ifs:List Expr} {scope:Scope} {pos:Pos} {wi:TI} {tt:TT} {te:TE} (hN:X.N.Nodup) (hxi:X.N[ix]?=some xn) (hxl:Loc X.env.scope xn) (hc:X.calm=true) (ok:CompG X scope ns N2 f) (hi:QI X tg iter wi)
  (hg:∀ cl C s₀ H₀ fp,PTg (blkG X scope cl C (ns ++ N2) s₀ H₀ fp) tg ns.length TP)
  (ht:∀ cl C s₀ H₀ fp,QTs (blkG X scope cl C (ns ++ N2) s₀ H₀ fp) ifs tt) (he:∀ cl C s₀ H₀ fp,QE (blkG X scope cl C (ns ++ N2) s₀ H₀ fp) elt te)
  (hs:∀ x,foldedSetIterable iter X.env x=pure x:=by intro _;rfl) (hsw:swapsWith (.ListComp elt [⟨tg,iter,ifs,0⟩] scope pos) (some (.Name xn pos0)) spos.line X.env=pure true:=by rfl)
  (hf:X.fn xn=true∨X.env.scope.names.lookup xn=some .local:=by first | exact .inl rfl | exact .inr rfl | assumption) :
  QS X (.Assign [.Name xn pos0] (.ListComp elt [⟨tg,iter,ifs,0⟩] scope pos) spos) (tAsg (tCompG f ns.length wi TP tt te) (gName ix)):=
 ⟨ps_setG hN hxi hxl hc ok hi.out hg (fun a b c d e=>(ht a b c d e).out) (fun a b c d e=>(he a b c d e).out) hs hsw hf⟩
end L2
end
section
set_option Elab.async false
set_option linter.all false
set_option maxRecDepth 100000
set_option maxHeartbeats 1000000
namespace L2
open PySem PySem.Spec PyProof.Rows
section
variable {M:Model} {A:Around} {E:Value→Shared→Prop} {s:Shared}
end
structure CompC (X:Cx) (scope:Scope) (xn:Str) (N2:List Str) (f:St→St):Prop where
 kind:scope.kind=.function
 one:∀ y∈scope.names,y.2=.cell→y.1=xn
 cf:∀ k acc,cellsFrom k scope.names acc=(xn,k) :: acc
 pc:∀ h:Heap,pushCells h scope.names=h.push { cls:=.type "cell",data:=.cell none }
 names:∀ y∈scope.names,y.2=.local→scope.names.lookup y.1=some .local
 free:∀ y∈scope.names,y.2=.free→X.env.kindOf y.1=some .cell∨X.env.kindOf y.1=some .free
 lenf:∀ σ:St,(f σ).length=σ.length
 lenN:N2.length=X.N.length
 out:∀ (σ:St) (i:Nat) (y:Str) (v:V),N2[i]?=some y→(f σ)[i]?=some (some v)→X.N[i]?=some y∧σ[i]?=some (some v)∧scope.names.lookup y≠some .local∧y≠xn
end L2
end
section
set_option Elab.async false
set_option linter.all false
set_option maxRecDepth 100000
namespace L2
open PySem PySem.Spec PyProof.Rows
section
variable {X:Cx}
def rCountS:V→List V→Hp→VK→Prop:=fun x vs H Q=>∃ l w,x=.str (S l)∧vs=[.str (S w)]∧∀ n:Nat,Q (.int n) H
theorem mt_countS:MtR X "str.count" rCountS:=by
 intro pins s σ H x vs v us Q I rx rv h
 obtain ⟨l,w,rfl,rfl,q⟩:=h
 obtain ⟨t,rfl⟩:=rx
 obtain ⟨u,rfl,ru⟩:=rv.one
 obtain ⟨t',rfl⟩:=ru
 refine call_gives F.slot_str_count (typeIs_str s _ t) F.entry_str_count (F.args_str_count_2 _ _) (gives_str_count (S l) (S w) t t') ?_
 show EP X pins σ Q _ _
 exact ⟨.int (Builtin.Str.occurrences (S l) (S w) 0 (S l).length ((S l).length + 1)).length,H,I.tok _,⟨s.toks,rfl⟩,q _⟩
end
end L2
end
section
set_option Elab.async false
set_option linter.all false
set_option maxRecDepth 100000
set_option maxHeartbeats 1000000
namespace L2
open PySem PySem.Spec PyProof.Rows PySem.W
section
variable {X:Cx}
end
end L2
end
section
set_option Elab.async false
set_option linter.all false
set_option maxRecDepth 100000
set_option maxHeartbeats 2000000
namespace L2
open PySem PySem.Spec PyProof.Rows PySem.W
open AutoSeq1 (wpAny_loadPart')
section
variable {prog:Program} {w:World} {A:Around} {E:Value→Shared→Prop} {s:Shared}
end
section
variable {X:Cx} {pins:List (Addr × Obj)} {σ:St} {H:Hp} {s:Shared} {h':Heap}
theorem Inv.turnedL {t':Nat} {fp:List Addr} (I:Inv X pins σ H s) (k:∀ b o,b∉fp→s.heap.get? b=some o→h'.get? b=some o) (hf:∀ b∈fp,FpOk X pins H b):Inv X pins σ H { s with heap:=h',toks:=t' }:=by
 have nit:∀ b u,H b=some u→b∉fp:=fun b u e z=>by rw [(hf b z).1] at e;cases e
 refine I.step (g':=s.gens) (d':=s.drawn) (ch:=fp) (fun b hb=>?_) (fun b o _ _ hc e _=>k b o hc e) (fun b o _ _ hc e _=>⟨o.slots,k b o hc e⟩) (fun _ _ _ _ n=>n)
  (fun b o hc e=>⟨o,k b o hc e⟩) (fun _ _ e=>e) (fun _ _ _ e=>e) (fun b ps e=>⟨#[],by rw [e];simp⟩) (fun m hm=>?_) (fun b u e=>?_) I.bare
 ·obtain ⟨f0,f1,f2,f3,f4,f5⟩:=hf b hb
  exact ⟨f3,f1,f4,f5⟩
 ·obtain ⟨o,es,ep,ho,r⟩:=hm
  exact ⟨o,es,ep,k _ o (fun z=>(hf _ z).2.1 rfl) ho,r⟩
 ·refine (I.hok b u e).stay (fun c v hc q=>k c v ?_ q) (fun _ q=>q) fun _ _ q=>q
  rcases hc with z | z
  ·rw [z];exact nit b u e
  ·exact nit c _ z
end
section
variable {X:Cx} {elts:List Expr} {x1:Nat} {tp:Pos}
end
section
variable {X:Cx}
theorem call_any (hc:X.calm=true):CallR X (.builtin "any") (fun xs H Q=>∃ (p:Addr) (bs:List Bool),xs=[.ref p]∧SqL X.K H p (bs.map V.bl)∧Q (.bl (bs.any id)) H):=by
 intro pins s σ H xs us Q I r h
 obtain ⟨p,bs,rfl,hq,q⟩:=h
 obtain ⟨u,rfl,ru⟩:=vals1 r
 cases ru
 obtain ⟨its,rv,pl,hz⟩:=I.list hq
 have hne:p≠s.heap.objs.size:=by
  obtain ⟨o,ho,_⟩:=pl.isList
  exact Nat.ne_of_lt (Heap.lt_size ho)
 have hb:∀ (i:Nat) (v:Value),its[i]?=some v→v=.bool (bs.getD i false):=fun i v hv=>by
  have hlen:=rv.length
  have hi:i < bs.length:=by have:=(List.getElem?_eq_some_iff.mp hv).1;simp at hlen;omega
  obtain ⟨u,hu,ru⟩:=rv.get (i:=i) (x:=.bl bs[i]) (by simp [hi])
  rw [hv] at hu;cases hu
  cases ru
  simp [List.getD,hi]
 refine call_any_walk (wpAny_pyIter_list pl.isList ?_)
 refine ⟨s.heap.objs.size,_,_,_,_,_,fun i=>bs.getD i false,rfl,Walks.list (A:=X.A.in1) (I.ok.hd hc) s.heap.objs.size p hne its.toArray,⟨⟨_,Heap.get?_push_size _ rfl,rfl,rfl⟩,pl.isList.at fun o e=>Heap.get?_push_of_some _ e⟩,?_,fun h' tk kk=>?_⟩
 ·intro i v s' Q' E' hv hq'
  have e:=hb i v (by simpa using hv)
  subst e
  exact wpAny_truthy_bool hq'
 ·have I1:Inv X pins σ H { s with heap:=h',toks:=tk }:=I.kept fun b o e=>kk b o (by
   intro hm
   have:b=s.heap.objs.size:=by simpa using hm
   subst this
   exact absurd (Heap.lt_size e) (Nat.lt_irrefl _)) (Heap.get?_push_of_some _ e)
  refine ⟨.bl (bs.any id),H,I1,?_,q⟩
  show Value.bool _=Value.bool _
  have hlen:its.toArray.size=bs.length:=by have:=rv.length;simp at this;simp [this]
  rw [hlen]
  congr 1
  have key:∀ bs:List Bool,(List.range bs.length).any (fun i=>bs.getD i false)=bs.any id:=fun bs=>by
   rw [Bool.eq_iff_iff,List.any_eq_true,List.any_eq_true]
   constructor
   ·rintro ⟨i,hi,h⟩
    have hi':=List.mem_range.mp hi
    exact ⟨bs[i],List.getElem_mem _,by simpa [List.getD,hi'] using h⟩
   ·rintro ⟨x,hx,h⟩
    obtain ⟨i,hi,rfl⟩:=List.mem_iff_getElem.mp hx
    exact ⟨i,List.mem_range.mpr hi,by simpa [List.getD,hi] using h⟩
  exact key bs
end
end L2
end
section
set_option Elab.async false
set_option linter.all false
set_option maxRecDepth 100000
set_option maxHeartbeats 2000000
namespace L2
open PySem PySem.Spec PyProof.Rows PySem.W
structure ZA (z ti to u v a b:Addr):Prop where
 q1:ti≠z
 q2:to≠z
 q3:u≠z
 q4:v≠z
 q5:ti≠to
 q6:ti≠u
 q7:ti≠v
 q8:to≠u
 q9:to≠v
 p1:u≠v
 p2:a≠z
 p3:a≠to
 p4:a≠u
 p5:a≠v
 p6:b≠z
 p7:b≠to
 p8:b≠u
 p9:b≠v
section
variable {prog:Program} {w:World} {A:Around} {E:Value→Shared→Prop} {s:Shared} {z ti to u v a b:Addr} {i:Nat} {f g:Array Value} {x y m n:Value}
end
section
variable {X:Cx} {pins:List (Addr × Obj)} {σ:St} {H:Hp} {s:Shared}
theorem Inv.pairL {fp:List Addr} {tk:Nat} {x y:V} {p q:Value} {h2:Heap} (I:Inv X pins σ H s) (hf:∀ b∈fp,FpOk X pins H b) (lt:∀ b∈fp,b < s.heap.objs.size) (rx:RelV x p) (ry:RelV y q)
  (hT:h2.get? s.heap.objs.size=some { cls:=.type "tuple",data:=.seq #[p,q] }) (hk:∀ b o,b∉fp→s.heap.get? b=some o→h2.get? b=some o) :
  Inv X pins σ (upd H s.heap.objs.size (.tup [x,y])) { s with heap:=h2,toks:=tk }∧∀ b∈fp,upd H s.heap.objs.size (.tup [x,y]) b=none:=by
 have I2:Inv X pins σ (upd H s.heap.objs.size (.tup [x,y])) { s with heap:=s.heap.push { cls:=.type "tuple",data:=.seq #[p,q] },toks:=tk }:=
  I.laid (fun b v e=>Heap.get?_push_of_some _ e) (Nat.le_refl _) ⟨by show 2≤sizeLine;decide,[p,q],.cons rx (.cons ry .nil),⟨_,Heap.get?_push_size _ rfl,rfl,_,rfl⟩⟩
 have fr:∀ b∈fp,upd H s.heap.objs.size (.tup [x,y]) b=none:=fun b hb=>by rw [upd_ne (Nat.ne_of_lt (lt b hb))];exact (hf b hb).1
 have I3:=Inv.turnedL (s:={ s with heap:=s.heap.push { cls:=.type "tuple",data:=.seq #[p,q] },toks:=tk }) (h':=h2) (fp:=fp) (t':=tk) I2 (fun b o hb g=>?_) fun b hb=>?_
 ·exact ⟨I3,fr⟩
 ·rcases Heap.get?_push_cases g with ⟨z1,z2⟩ | z
  ·rw [z1,z2];exact hT
  ·exact hk b o hb z
 ·obtain ⟨f0,f1,f2,f3,f4,f5⟩:=hf b hb
  exact ⟨fr b hb,f1,f2,f3,f4,f5⟩
end
section
variable {X:Cx} {elts:List Expr} {x1:Nat} {tp:Pos}
theorem boot_zipX:bootBuiltins "zip"=some (.type "zip"):=by decide +kernel
end
end L2
end
section
set_option Elab.async false
set_option linter.all false
set_option maxRecDepth 100000
set_option maxHeartbeats 2000000
namespace L2
open PySem PySem.Spec PyProof.Rows PySem.W
structure Fly (B:Heap) (l:List Env) (e:Addr) (cls:Value) (dd:Option Addr) (fl:Value) (h:Heap):Prop where
 stays:B.StaysIn h
 new:B.get? e=none
 frames:h.FunFrames B l
 tr:∃ oe vs T oT ts,h.get? e=some oe∧oe.cls=cls∧oe.dict=dd∧oe.data=.fields vs∧vs[1]?=some (.ref T)∧vs[2]?=some .none∧B.get? T=none∧T≠e∧h.get? T=some oT∧oT.data=.fields ts∧ts[3]?=some fl
theorem Fly.outer {B h:Heap} {env:Env} {l:List Env} {e:Addr} {cls fl:Value} {dd:Option Addr} (x:Fly B (env :: l) e cls dd fl h):Fly B l e cls dd fl h:=⟨x.stays,x.new,x.frames.2.2,x.tr⟩
theorem dict_mapF (o:Obj) (f):(o.mapFields f).dict=o.dict:=by obtain ⟨c,d,dt,sl⟩:=o;cases dt <;> rfl
section
variable {M:Model} {A:Around} {E:Value→Shared→Prop} {s:Shared} {B:Heap} {env:Env} {outer l:List Env} {L e:Addr} {oe:Obj} {vs:Array Value} {head cls fl:Value} {dd:Option Addr} {hadNext:Bool} {Q:Unit→Shared→Prop}
theorem entry_made (hfr:A.frames=some (env :: outer)) (hl:s.heap.FunFrames B (env :: outer)) (hf:env.frame=some L) (he:s.heap.get? e=some oe) (kb:B.StaysIn s.heap) (en:B.get? e=none) (hd:oe.data=.fields vs) (hz:1 < vs.size) (h2:vs[2]?=some .none)
  (h:∀ h',Fly B (env :: outer) e oe.cls oe.dict (rawInt L) h'→s.heap.UpToSlots h'→Q () { s with heap:=h' }) :
  wpAny M A (do let a ← frameOf env;let pl ← entryPlaceOf L hadNext;let b ← EntryCells.newEntry head a .none (rawInt L) .none pl;setField (.ref e) 1 b) Q E s:=by
 have out:e∉(env :: outer).filterMap (·.frame):=fun z=>by
  obtain ⟨_,u,hu,nf⟩:=hl.mem z
  rw [he] at hu;cases hu;exact nf vs hd
 refine wpAny_bind (wpAny_frameOf_fun hfr hl hf fun g hg=>wpAny_bind (wpAny_entryPlaceOf fun pl hpl=>?_))
 unfold EntryCells.newEntry newFields
 refine wpAny_bind (wpAny_newObj_type ?_ (hpl.sizeOk5 _ _ _ _ _))
 generalize hO:({ cls:=.type "traceback",dict:=none,data:=.fields ([head,.ref L,.none,rawInt L,.none] ++ (if pl.isEmpty then List.replicate 6 Value.none else pl)).toArray }:Obj)=O
 have hOd:∃ ts,O.data=.fields ts∧ts[3]?=some (rawInt L):=⟨_,by rw [← hO],by first | (simp;done) | (rcases hpl with rfl | ⟨_,_,_,_,_,_,_,rfl⟩ <;> simp)⟩
 have ge:g.get? e=some oe:=(hg.2.1 e out).trans he
 have gB:B.StaysIn g:=fun b o q=>(hg.2.1 b fun z=>by rw [(hl.mem z).1] at q;cases q).trans (kb b o q)
 have Te:g.objs.size≠e:=Nat.ne_of_gt (Heap.lt_size ge)
 have pe:(g.push O).get? e=some oe:=Heap.get?_push_of_some O ge
 obtain ⟨ts,hts,h3⟩:=hOd
 have pT:(g.push O).get? g.objs.size=some O:=Heap.get?_push_size g (Obj.isFreed_of_fields hts)
 have mv:∀ b o,b≠e→g.get? b=some o→((g.push O).update e (Obj.mapFields (·.setIfInBounds 1 (Value.ref g.objs.size)))).get? b=some o:=fun b o nb q=>
  (Heap.get?_update_other _ _ (Ne.symm nb)).trans (Heap.get?_push_of_some O q)
 have nr:∀ b o,s.heap.get? b=some o→(∀ vs,o.data≠.fields vs)→b≠e:=fun b o q nf z=>by
  rw [z,he] at q;cases q;exact nf vs hd
 refine wpAny_setField pe hd hz (h _ ⟨fun b o q=>mv b o (fun z=>by rw [z,en] at q;cases q) (gB b o q),en,hl.of_keeps fun b o q nf=>?_,?_⟩ fun b o q nf=>?_)
 ·obtain ⟨sl,z⟩:=hg.2.2 b o q
  exact ⟨_,mv b _ (nr b o q nf) z,rfl⟩
 ·have dd:=Obj.data_mapFields hd (·.setIfInBounds 1 (Value.ref g.objs.size))
  refine ⟨_,_,g.objs.size,O,ts,Heap.get?_update_self _ pe (Obj.isFreed_of_fields dd),Obj.cls_mapFields _ _,dict_mapF _ _,dd,by simp [hz],by rw [Array.getElem?_setIfInBounds_ne (by decide)];exact h2,gB.fresh,Te,(Heap.get?_update_other _ _ (Ne.symm Te)).trans pT,hts,h3⟩
 ·obtain ⟨sl,z⟩:=hg.2.2 b o q
  exact ⟨sl,mv b _ (nr b o q nf) z⟩
theorem flight_off (x:Fly B l e cls dd fl s.heap) (h:∀ h',Fly B l e cls dd .none h'→s.heap.UpToSlots h'→Q () { s with heap:=h' }):wpAny M A (setFlight (.ref e) none) Q E s:=by
 obtain ⟨st,en,fr,oe,vs,T,oT,ts,he,hc,hdd,hd,h1,h2,nT,Te,hT,hdT,h3⟩:=x
 have z3:3 < ts.size:=(Array.getElem?_eq_some_iff.mp h3).1
 have mv:∀ b,b≠T→(s.heap.update T (Obj.mapFields (·.setIfInBounds 3 ((none:Option Addr).elim Value.none fun f=>rawInt f)))).get? b=s.heap.get? b:=fun b nb=>Heap.get?_update_other _ _ (Ne.symm nb)
 have nr:∀ b o,s.heap.get? b=some o→(∀ vs,o.data≠.fields vs)→b≠T:=fun b o q nf z=>by
  rw [z,hT] at q;cases q;exact nf ts hdT
 unfold setFlight
 refine wpAny_bind (wpAny_field he hd h1 ?_)
 rw [if_pos (show (Value.ref T != Value.none)=true by simp)]
 refine wpAny_setField hT hdT z3 (h _ ⟨fun b o q=>(mv b fun z=>by rw [z,nT] at q;cases q).trans (st b o q),en,fr.of_keeps fun b o q nf=>⟨o,(mv b (nr b o q nf)).trans q,rfl⟩,?_⟩ fun b o q nf=>⟨o.slots,(mv b (nr b o q nf)).trans q⟩)
 have d3:=Obj.data_mapFields hdT (·.setIfInBounds 3 ((none:Option Addr).elim Value.none fun f=>rawInt f))
 exact ⟨oe,vs,T,_,_,(mv e (Ne.symm Te)).trans he,hc,hdd,hd,h1,h2,nT,Te,Heap.get?_update_self _ hT (Obj.isFreed_of_fields d3),d3,by simp [z3]⟩
theorem note_new (hfr:A.frames=some (env :: outer)) (hl:s.heap.FunFrames B (env :: outer)) (hf:env.frame=some L) (he:s.heap.get? e=some oe) (kb:B.StaysIn s.heap) (en:B.get? e=none) (hd:oe.data=.fields vs) (h1:vs[1]?=some .none) (h2:vs[2]?=some .none)
  (h:∀ h',Fly B (env :: outer) e oe.cls oe.dict (rawInt L) h'→s.heap.UpToSlots h'→Q () { s with heap:=h' }):wpAny M A (noteFrame (.ref e) env) Q E s:=by
 unfold noteFrame
 simp only [hf]
 refine wpAny_bind (wpAny_field he hd h1 ?_)
 rw [if_neg (by decide)]
 exact entry_made hfr hl hf he kb en hd (Array.getElem?_eq_some_iff.mp h1).1 h2 h
theorem note_on (hfr:A.frames=some (env :: outer)) (hf:env.frame=some L) (x:Fly B (env :: outer) e cls dd .none s.heap) (h:∀ h',Fly B (env :: outer) e cls dd (rawInt L) h'→s.heap.UpToSlots h'→Q () { s with heap:=h' }):wpAny M A (noteFrame (.ref e) env) Q E s:=by
 obtain ⟨st,en,fr,oe,vs,T,oT,ts,he,hc,hdd,hd,h1,h2,nT,Te,hT,hdT,h3⟩:=x
 subst hc hdd
 have mv:∀ b,b≠T→(s.heap.update T (Obj.mapFields (·.setIfInBounds 3 Value.none))).get? b=s.heap.get? b:=fun b nb=>Heap.get?_update_other _ _ (Ne.symm nb)
 have nr:∀ b o,s.heap.get? b=some o→(∀ vs,o.data≠.fields vs)→b≠T:=fun b o q nf z=>by
  rw [z,hT] at q;cases q;exact nf ts hdT
 unfold noteFrame
 simp only [hf]
 refine wpAny_bind (wpAny_field he hd h1 ?_)
 rw [if_pos (show (Value.ref T != Value.none)=true by simp)]
 refine wpAny_bind (wpAny_field hT hdT h3 ?_)
 rw [if_neg (show ¬((Value.none == rawInt L)=true) by simp [rawInt])]
 refine wpAny_bind (wpAny_setField hT hdT (Array.getElem?_eq_some_iff.mp h3).1 ?_)
 refine entry_made hfr (fr.of_keeps fun b o q nf=>⟨o,(mv b (nr b o q nf)).trans q,rfl⟩) hf ((mv e (Ne.symm Te)).trans he) (fun b o q=>(mv b fun z=>by rw [z,nT] at q;cases q).trans (st b o q)) en hd (Array.getElem?_eq_some_iff.mp h1).1 h2
  fun h' y k=>h h' y fun b o q nf=>k b o ((mv b (nr b o q nf)).trans q) nf
theorem leave_new (hfr:A.frames=some (env :: outer)) (hl:s.heap.FunFrames B (env :: outer)) (hf:env.frame=some L) (he:s.heap.get? e=some oe) (kb:B.StaysIn s.heap) (en:B.get? e=none) (hd:oe.data=.fields vs) (h1:vs[1]?=some .none) (h2:vs[2]?=some .none)
  (h:∀ h',Fly B outer e oe.cls oe.dict .none h'→s.heap.UpToSlots h'→Q () { s with heap:=h' }):wpAny M A (leaving env (.ref e)) Q E s:=by
 unfold leaving
 exact wpAny_bind (note_new hfr hl hf he kb en hd h1 h2 fun h1 x k=>flight_off x fun h2 y k2=>h h2 y.outer (k.trans k2))
theorem leave_on (hfr:A.frames=some (env :: outer)) (hf:env.frame=some L) (x:Fly B (env :: outer) e cls dd .none s.heap) (h:∀ h',Fly B outer e cls dd .none h'→s.heap.UpToSlots h'→Q () { s with heap:=h' }):wpAny M A (leaving env (.ref e)) Q E s:=by
 unfold leaving
 exact wpAny_bind (note_on hfr hf x fun h1 x k=>flight_off x fun h2 y k2=>h h2 y.outer (k.trans k2))
end
end L2
end
section
set_option Elab.async false
set_option linter.all false
set_option maxRecDepth 100000
set_option maxHeartbeats 2000000
namespace L2
open PySem PySem.Spec PyProof.Rows PySem.W
theorem ObjOk.there {P:Program} {w:World} {H:Hp} {h:Heap} {a:Addr} {o:HO} (x:ObjOk P w H h a o):∃ u,h.get? a=some u:=by
 cases o with
 | lst xs=>obtain ⟨_,_,_,_,e⟩:=x;exact ⟨_,e⟩
 | tup xs=>obtain ⟨_,_,_,_,e,_⟩:=x;exact ⟨_,e⟩
 | dK kvs=>obtain ⟨_,_,_,_,o,_,_,e,_⟩:=x;exact ⟨_,e⟩
 | dT kvs=>obtain ⟨_,_,_,_,o,_,_,e,_⟩:=x;exact ⟨_,e⟩
 | set S n=>obtain ⟨o,_,_,_,e,_⟩:=x;exact ⟨_,e⟩
 | ins C dx fs=>obtain ⟨_,_,_,e,_⟩:=x;exact ⟨_,e⟩
 | own y=>exact x
 | xd fs=>obtain ⟨_,⟨_,_,_,e,_⟩,_⟩:=x;exact ⟨_,e⟩
 | rng lo hi=>obtain ⟨_,_,_,e⟩:=x;exact ⟨_,e⟩
 | frz ob u=>obtain ⟨e,_⟩:=x;exact ⟨_,e⟩
 | tbl ps=>exact ⟨_,(show h.get? a=some _ from x)⟩
 | met f y=>exact ⟨_,(show h.get? a=some _ from x)⟩
 | ext φ=>obtain ⟨_,e,_⟩:=x;exact e
structure ExB (P:Program) (w:World) (outer:List Env) (H:Hp) (s:Shared) (a:Addr) (cls:Value) (dd:Option Addr) (H':Hp) (s':Shared) (B:Heap):Prop where
 os:s'.os=s.os
 bare:AllBare s'.gens
 un:Un (frs outer) [] H H' s.heap s'.heap
 hok:HOk P w H' s'.heap
 fly:Fly B outer a cls dd .none s'.heap
 na:H' a=none
 trk:∀ b u,H' b=some u→∃ o,B.get? b=some o
 kp:∀ b o,s.heap.get? b=some o→b∉frs outer→H b=none→B.get? b=some o
 th:∀ b o,s.heap.get? b=some o→b∉frs outer→∃ o',B.get? b=some o'
def CXE (P:Program) (w:World):CXT:=fun outer H s E e s'=>∃ (a:Addr) (cls:Value) (dd:Option Addr) (H':Hp) (B:Heap),e=.ref a∧ExB P w outer H s a cls dd H' s' B∧E cls dd H'
section
variable {X:Cx} {pins:List (Addr × Obj)} {σ:St} {H1 H':Hp} {s1 s2:Shared} {e:Addr} {oe:Obj} {vs:Array Value} {Q:Unit→Shared→Prop} {E:Value→Shared→Prop} {cls:Value} {dd:Option Addr} {B:Heap}
theorem Inv.nst (I:Inv X pins σ H1 s1) {b:Addr} {o:Obj} (q:X.s₀.heap.get? b=some o) (nb:b∉frs X.outer):b∉frs X.stack:=fun z=>by
 rcases List.mem_cons.mp (I.stkSub b z) with z | z
 ·exact absurd (Nat.lt_of_lt_of_le (Heap.lt_size q) I.ok.above) (by rw [z];exact Nat.lt_irrefl _)
 ·exact nb z
theorem Inv.osub (I:Inv X pins σ H1 s1) {b:Addr} (z:b∈frs X.outer):b∈frs X.stack:=by
 rcases I.ok.stk with e | ⟨e,hf⟩
 ·rw [e];exact z
 ·rw [e];unfold frs;rw [List.filterMap_cons,hf];exact List.mem_cons_of_mem _ z
theorem Inv.raised (I:Inv X pins σ H1 s1) (hst:X.stack=X.env :: X.outer) (hf:X.env.frame=some X.env.locals) (hex:X.ex=[]) (he:s1.heap.get? e=some oe) (hd:oe.data=.fields vs) (h1:vs[1]?=some .none) (h2:vs[2]?=some .none) (ne:H1 e=none)
  (en:∀ b o,X.s₀.heap.get? b=some o→b≠e) (q:∀ s2 B,ExB X.prog X.w X.outer X.H₀ X.s₀ e oe.cls oe.dict H1 s2 B→Q () s2):wpAny (model X.prog X.w) X.A (leaving X.env (.ref e)) Q E s1:=by
 have hfr:X.A.frames=some (X.env :: X.outer):=by rw [← hst];exact I.ok.frames
 have hl:s1.heap.FunFrames (hideAll s1.heap (e :: frs X.stack)) (X.env :: X.outer):=by
  rw [← hst]
  exact funFrames_hide I.stack fun env he b hb=>List.mem_cons_of_mem _ (List.mem_filterMap.mpr ⟨env,he,hb⟩)
 have nex:∀ b:Addr,b∉X.ex:=fun b=>by rw [hex];simp
 refine leave_new hfr hl hf he (fun b o z=>of_hideAll _ z) (hideAll_none _ (.head _)) hd h1 h2 fun h' x k=>q _ (hideAll s1.heap (e :: frs X.stack)) ?_
 have kB:∀ b o,s1.heap.get? b=some o→b≠e→b∉frs X.stack→(hideAll s1.heap (e :: frs X.stack)).get? b=some o:=fun b o z n1 n2=>hideAll_get _ z fun m=>by
  rcases List.mem_cons.mp m with m | m
  ·exact n1 m
  ·exact n2 m
 have kF:∀ b o,s1.heap.get? b=some o→b∈frs X.stack→∃ sl,h'.get? b=some { o with slots:=sl }:=fun b o z m=>by
  obtain ⟨_,u,hu,nf⟩:=I.stack.mem m
  rw [z] at hu;cases hu
  exact k b _ z nf
 have kT:∀ b u,H1 b=some u→∀ o,s1.heap.get? b=some o→(hideAll s1.heap (e :: frs X.stack)).get? b=some o:=fun b u t o z=>kB b o z (fun m=>by rw [m,ne] at t;cases t) fun m=>by rw [I.stkFree b m] at t;cases t
 refine ⟨I.os,I.bare,⟨fun b o z n hb _=>?_,fun b o z n hb _=>?_,fun b o z n _=>I.base.free b o z n (nex b),fun b o z _=>?_,I.base.tups,I.base.frzs,I.base.tbls⟩,fun b o t=>?_,x,ne,fun b u t=>?_,fun b o z hb n=>?_,fun b o z hb=>?_⟩
 ·exact x.stays b o (kB b o (I.base.keep b o z n hb (nex b)) (en b o z) (I.nst z hb))
 ·obtain ⟨sl,e1⟩:=I.base.slot b o z n hb (nex b)
  obtain ⟨sl2,e2⟩:=kF b _ e1 (I.osub hb)
  exact ⟨sl2,e2⟩
 ·obtain ⟨o1,e1⟩:=I.base.there b o z (nex b)
  by_cases m:b∈frs X.stack
  ·obtain ⟨sl2,e2⟩:=kF b _ e1 m
   exact ⟨_,e2⟩
  ·exact ⟨o1,x.stays b o1 (kB b o1 e1 (en b o z) m)⟩
 ·refine (I.hok b o t).stay (fun c u hc z=>x.stays c u ?_) (fun _ r=>r) fun _ _ r=>r
  rcases hc with rfl | hc
  ·exact kT c _ t u z
  ·exact kT c _ hc u z
 ·obtain ⟨o,z⟩:=(I.hok b u t).there
  exact ⟨o,kT b u t o z⟩
 ·exact kB b o (I.base.keep b o z n hb (nex b)) (en b o z) (I.nst z hb)
 ·obtain ⟨o1,e1⟩:=I.base.there b o z (nex b)
  exact ⟨o1,kB b o1 e1 (en b o z) (I.nst z hb)⟩
theorem Inv.passed (I:Inv X pins σ H1 s1) (hst:X.stack=X.env :: X.outer) (hf:X.env.frame=some X.env.locals) (hex:X.ex=[]) (x:ExB X.prog X.w X.stack H1 s1 e cls dd H' s2 B)
  (q:∀ s3,ExB X.prog X.w X.outer X.H₀ X.s₀ e cls dd H' s3 B→Q () s3):wpAny (model X.prog X.w) X.A (leaving X.env (.ref e)) Q E s2:=by
 have hfr:X.A.frames=some (X.env :: X.outer):=by rw [← hst];exact I.ok.frames
 have nex:∀ b:Addr,b∉X.ex:=fun b=>by rw [hex];simp
 have n0:∀ b:Addr,b∉([]:List Addr):=fun b=>by simp
 refine leave_on hfr hf (by rw [← hst];exact x.fly) fun h' y k=>q _ ?_
 have kp:∀ b o,X.s₀.heap.get? b=some o→b∉frs X.outer→X.H₀ b=none→B.get? b=some o:=fun b o z hb n=>x.kp b o (I.base.keep b o z n hb (nex b)) (I.nst z hb) (I.base.free b o z n (nex b))
 have th:∀ b o,X.s₀.heap.get? b=some o→b∉frs X.outer→∃ o',B.get? b=some o':=fun b o z hb=>by
  obtain ⟨o1,e1⟩:=I.base.there b o z (nex b)
  exact x.th b o1 e1 (I.nst z hb)
 have kF:∀ b o,X.s₀.heap.get? b=some o→b∈frs X.outer→∃ sl,h'.get? b=some { o with slots:=sl }:=fun b o z m=>by
  obtain ⟨sl,e1⟩:=I.base.slot b o z (I.ok.frf b m) m (nex b)
  obtain ⟨sl2,e2⟩:=x.un.slot b _ e1 (I.stkFree b (I.osub m)) (I.osub m) (n0 b)
  obtain ⟨_,u,hu,nf⟩:=I.ok.funs.mem m
  rw [z] at hu;cases hu
  obtain ⟨sl3,e3⟩:=k b _ e2 nf
  exact ⟨sl3,e3⟩
 refine ⟨x.os.trans I.os,x.bare,⟨fun b o z n hb _=>y.stays b o (kp b o z hb n),fun b o z n hb _=>kF b o z hb,fun b o z n _=>?_,fun b o z _=>?_,fun b xs t=>x.un.tups b xs (I.base.tups b xs t),fun b o u t=>x.un.frzs b o u (I.base.frzs b o u t),fun b ps t=>?_⟩,fun b o t=>?_,y,x.na,x.trk,kp,th⟩
 ·obtain ⟨o1,e1⟩:=I.base.there b o z (nex b)
  exact x.un.free b o1 e1 (I.base.free b o z n (nex b)) (n0 b)
 ·by_cases m:b∈frs X.outer
  ·obtain ⟨sl,e3⟩:=kF b o z m
   exact ⟨_,e3⟩
  ·obtain ⟨o',e1⟩:=th b o z m
   exact ⟨o',y.stays b o' e1⟩
 ·obtain ⟨m1,e1⟩:=I.base.tbls b ps t
  obtain ⟨m2,e2⟩:=x.un.tbls b _ e1
  exact ⟨m1 ++ m2,by rw [e2,Array.append_assoc]⟩
 ·refine (x.hok b o t).stay (fun c u hc z=>?_) (fun _ r=>r) fun _ _ r=>r
  have:∃ v,H' c=some v:=by
   rcases hc with rfl | hc
   ·exact ⟨_,t⟩
   ·exact ⟨_,hc⟩
  obtain ⟨v,hv⟩:=this
  obtain ⟨o',hB⟩:=x.trk c v hv
  have:=x.fly.stays c o' hB
  rw [z] at this;cases this
  exact y.stays c u hB
end
end L2
end
section
set_option Elab.async false
set_option linter.all false
set_option maxRecDepth 100000
set_option maxHeartbeats 2000000
namespace L2
open PySem PySem.Spec PyProof.Rows PySem.W
def Lets (X:Cx) (E:XK):Prop:=∀ (pins:List (Addr × Obj)) (σ:St) (H:Hp) (s:Shared) (e:Addr) (oe:Obj) (vs:Array Value),Inv X pins σ H s→s.heap.get? e=some oe→oe.data=.fields vs→vs[1]?=some .none→vs[2]?=some .none→H e=none→
 (∀ b o,X.s₀.heap.get? b=some o→b≠e)→E oe.cls oe.dict H→X.xe (.ref e) s
section
variable {P:Program} {w:World} {K:PySem.W.Frag} {mg:Str→Option Value} {base:Heap} {N:List Str} {qual:Str} {scope:Scope} {f:Addr} {cd:Value} {A:Around} {outer:List Env} {s:Shared} {H:Hp} {E:XK}
theorem lets_cx:Lets (cxOf (CXE P w) P w K mg base N qual scope f cd A outer s H E) E:=fun pins σ H1 s1 e oe vs I he hd h1 h2 ne en q=>
 I.raised rfl rfl rfl he hd h1 h2 ne en fun s2 B x=>⟨e,_,_,_,B,rfl,x,q⟩
theorem pass_cx:Passes (CXE P w) (cxOf (CXE P w) P w K mg base N qual scope f cd A outer s H E) E:=fun pins σ H1 s1 e s2 I ⟨a,cls,dd,H',B,z,x,q⟩=>by
 subst z
 exact I.passed rfl rfl rfl x fun s3 y=>⟨a,cls,dd,H',B,rfl,y,q⟩
end
structure DefX (P:Program) (w:World) (K:PySem.W.Frag) (mg:Str→Option Value) (base:Heap) (name:Str) (k:Nat) (ps:List Str) (sp:Sp):Prop where
 ex:∃ f fd,FnOk P w K mg base (CXE P w) k f fd ps sp∧Binds K fd ps []∧mg name=some (.ref f)∧PySem.W.keepIn K (.ref f)=true
theorem Fun.qokX {P:Program} {w:World} {K:PySem.W.Frag} {mg:Str→Option Value} {base:Heap} {x qual:Str} {st:Stmt} {f:Addr} {fd:FuncData} {N ps:List Str} {k:Nat} {sp:Sp} (F:Fun K x qual st f fd) (S:FnScope N ps (defScope st)) (len:∀ vs H Q E,sp vs H Q E→vs.length=ps.length)
  (hbody:∀ (cdv:Value) (A:Around) (outer:List Env) (s:Shared) (H:Hp) (vs:List V) (Q:VK) (E:XK),Room k (A.deeper (envOfC qual (defScope st) s.heap.objs.size f cdv))→sp vs H Q E→
   ∃ t,QSs (cxOf (CXE P w) P w K mg base N qual (defScope st) f cdv A outer s H E) (defBody st) t∧t { nx:=fun _ H'=>Q .non H',rt:=Q } (start N vs) H):FnOk P w K mg base (CXE P w) (k + 1) f fd ps sp:=by
 obtain ⟨oc,od,kV,doc,pm,an,cdv,ct,osl,rfl,lk,hcd⟩:=F.ex
 refine fn_of lk hcd S len fun A outer s H vs Q E hr hsp=>?_
 obtain ⟨t,h,q⟩:=hbody cdv A outer s H vs Q E hr hsp
 exact ⟨t,h.out,q⟩
theorem DefAt.qokX {P:Program} {w:World} {K:PySem.W.Frag} {mg:Str→Option Value} {base:Heap} {name:Str} {st:Stmt} {N ps:List Str} {k:Nat} {sp:Sp} (D:DefAt K mg name st ps) (S:FnScope N ps (defScope st)) (len:∀ vs H Q E,sp vs H Q E→vs.length=ps.length)
  (hbody:∀ (f:Addr) (cdv:Value) (A:Around) (outer:List Env) (s:Shared) (H:Hp) (vs:List V) (Q:VK) (E:XK),Room k (A.deeper (envOfC name (defScope st) s.heap.objs.size f cdv))→sp vs H Q E→
   ∃ t,QSs (cxOf (CXE P w) P w K mg base N name (defScope st) f cdv A outer s H E) (defBody st) t∧t { nx:=fun _ H'=>Q .non H',rt:=Q } (start N vs) H):DefX P w K mg base name (k + 1) ps sp:=by
 obtain ⟨f,fd,F,b,g⟩:=D.ex
 exact ⟨f,fd,F.qokX S len (hbody f),b,g,F.kp⟩
def PassesS (CX:CXT) (X:Cx) (E:XK) (S:St→Prop):Prop:=∀ (pins:List (Addr × Obj)) (σ:St) (H:Hp) (s:Shared) (e:Value) (s':Shared),Inv X pins σ H s→S σ→CX X.stack H s E e s'→X.xe e s'
theorem Passes.all {CX:CXT} {X:Cx} {E:XK} (h:Passes CX X E):PassesS CX X E fun _=>True:=fun pins σ H s e s' I _ q=>h pins σ H s e s' I q
def tCallS (sp:Sp) (E:XK) (S:St→Prop) (t:TA):TE:=fun σ H Q=>S σ∧t σ H fun vs H1=>sp vs H1 Q E
section
variable {X:Cx} {CX:CXT} {k:Nat} {f C:Addr} {fd:FuncData} {ps:List Str} {sp:Sp} {E:XK} {S:St→Prop} {x:Str} {p pos:Pos} {e:Expr} {es:List Expr} {t:TA}
theorem qe_ownS (D:DefX X.prog X.w X.K X.mg X.base x k ps sp) (hr:Room k X.A) (hg:Gl X x) (hx:PassesS (CXE X.prog X.w) X E S) (ha:QA X (e :: es) t) (hdb:(x == ("__debug__":Str))=false:=by decide)
  (hs:starEach (e :: es) X.env=(false,eval e X.env) :: starEach es X.env:=by rfl) (hpl:(backTo pos (starEach es X.env)).any (·.1)=false:=by rfl) :
  QE X (.Call (.Name x p) (e :: es) [] pos) (tCallS sp E S t):=⟨by
 obtain ⟨f,fd,F,hb,hm,hk⟩:=D.ex
 intro pins s σ H Q I h
 obtain ⟨hS,h⟩:=h
 refine wpAny_Call_Name_kw (ld_glob I hg hm ?_ hdb)
 refine PySem.W.callWith_K (h₀:=X.base) I.ok.mod.kin hk (thn (ha.out pos pins s σ H _ I h) fun us s1 ⟨vs,H1,I1,r,q⟩=>⟨I1.kIn,?_⟩) hs hpl
 have hl:us.length=ps.length:=by rw [← r.length];exact F.len _ _ _ _ q
 have hB:=hb s1 us I1.kIn (by rw [List.append_nil];exact hl)
 rw [List.append_nil] at hB
 refine wpAny_call (codeAny_mono (F.run X.A X.stack s1 H1 ⟨us,[]⟩ us vs Q E hr I1.env0 hB r q) fun r s' hq=>?_)
 cases r with
 | error e=>exact hx pins σ H1 s1 e s' I1 hS hq
 | ok fl=>
  cases fl with
  | ret u=>exact I1.after hq
  | next=>exact False.elim hq
  | brk=>exact False.elim hq
  | cont=>exact False.elim hq⟩
end
theorem exc_obj {K:PySem.W.Frag} {h:Heap} {C:Addr} {bmB:List Value} {newId:String} (X:K.In h) (q:excIn K C bmB newId=true) :
  ∃ bm N nm q bs hdct sn sub ab col dd k0 k1 k2 k3 k5 mN,h.get? C=some (excClassObj nm q C N bs bm hdct sn sub ab col dd k0 k1 k2 k3 k5 newId)∧h.Ns N mN∧mN "__init__"=none∧OwnTail h bmB bm:=by
 unfold excIn at q
 split at q
 ·next dd cd sl ho=>
  split at q
  ·next C' bm k0 k1 k2 k3 n k5 hm hs=>
   simp only [Bool.and_eq_true,beq_iff_eq,Bool.not_eq_true'] at q
   obtain ⟨⟨⟨⟨⟨e1,e2⟩,hdel⟩,ht⟩,hok⟩,hni⟩:=q
   subst e1 e2
   obtain ⟨nm,bs,mro,ns,qn,hd,sn,sub,ab,col,del⟩:=cd
   dsimp only at hm hdel hok hni
   subst hm hdel
   have hsl:sl=#[k0,k1,k2,k3,some (.builtin n),k5]:=by cases sl;simp only at hs;rw [hs]
   subst hsl
   exact ⟨bm,ns,nm,qn,bs,hd,sn,sub,ab,col,dd,k0,k1,k2,k3,k5,_,X _ _ ho,.of_isNs (isNs_of_in X hok),nsMap_none_of_in X hok hni,tail_of_in X ht⟩
  ·cases q
 ·cases q
abbrev vErr:List Value:=[.type "ValueError",.type "Exception",.type "BaseException",.type "object"]
def tRaise (C:Addr) (E:XK) (t:TA):TS:=fun _ σ H=>t σ H fun vs H1=>vs.length≤sizeLine∧E (.ref C) none H1
section
variable {X:Cx} {C:Addr} {E:XK} {x:Str} {np cpos pos:Pos} {e:Expr} {es:List Expr} {t:TA}
theorem qs_raise (hl:Lets X E) (hc:X.calm=true) (hex:X.ex=[]) (hg:Gl X x) (hm:X.mg x=some (.ref C)) (hC:excIn X.K C vErr "ValueError.__new__"=true) (ha:QA X (e :: es) t) (hdb:(x == ("__debug__":Str))=false:=by decide)
  (hs:starEach (e :: es) X.env=(false,eval e X.env) :: starEach es X.env:=by rfl) (hpl:(backTo cpos (starEach es X.env)).any (·.1)=false:=by rfl) :
  QS X (.Raise (some (.Call (.Name x np) (e :: es) [] cpos)) none pos) (tRaise C E t):=⟨by
 intro pins s σ H D I h
 obtain ⟨tl,N,nm,q,bs,hdct,sn,sub,ab,col,dd,k0,k1,k2,k3,k5,mN,cC,cN,cni,T⟩:=exc_obj I.ok.mod.kin hC
 have ar:=ha.out cpos pins s σ H _ I h
 rw [hs] at ar
 refine wpAny_Raise_call_subT (C:=C) (nm:=nm) (q:=q) (N:=N) (bs:=bs) (bm:=tl) (hdct:=hdct) (sn:=sn) (sub:=sub) (ab:=ab) (col:=col) (dd:=dd) (k0:=k0) (k1:=k1) (k2:=k2) (k3:=k3) (k5:=k5) PySem.F.excBase_ValueError (mN:=mN)
  (T.hasType PySem.F.excBase_ValueError.hasBase) (I.ok.hd hc) (by rw [hs];show (false || (backTo cpos (starEach es X.env)).any (·.1))=false;rw [hpl];rfl) cni (ld_glob I hg hm ⟨rfl,?_⟩ hdb)
 rw [hs]
 refine Calls.evalArgs_plain (wpAny_mono ar (fun us s2 z=>?_) fun _ _ y=>y)
 obtain ⟨vs,H1,I1,r,hv,hE⟩:=z
 refine ⟨rfl,by rw [← r.length];exact hv,I1.bk _ _ cC,cN.keeps I1.bk,T.keeps I1.bk,fun h' a hx=>?_⟩
 obtain ⟨tt,ha1,_,_⟩:=hx.there
 refine hl pins σ H1 _ a _ _ (I1.kept (t':=s2.toks) hx.keeps) ha1 rfl rfl rfl ?_ (fun b o z y=>?_) hE
 ·cases z:H1 a with
  | none=>rfl
  | some u=>
   obtain ⟨o,ho⟩:=(I1.hok a u z).there
   rw [hx.new] at ho;cases ho
 ·obtain ⟨o',ho⟩:=I1.base.there b o z (by rw [hex];simp)
  rw [y,hx.new] at ho;cases ho⟩
end
end L2
end
section
set_option Elab.async false
set_option linter.all false
set_option maxRecDepth 100000
set_option maxHeartbeats 2000000
namespace L2
open PySem PySem.Spec PyProof.Rows PySem.W
def ExcO (a:Addr) (cls:Value) (dd:Option Addr):Heap→Prop:=fun h=>∃ oe vs,h.get? a=some oe∧oe.cls=cls∧oe.dict=dd∧oe.data=.fields vs∧vs[2]?=some .none
section
variable {X:Cx} {pins:List (Addr × Obj)} {σ:St} {H H':Hp} {s s':Shared} {a:Addr} {cls fl:Value} {dd:Option Addr} {B h3:Heap}
theorem Inv.caught (I:Inv X pins σ H s) (x:ExB X.prog X.w X.stack H s a cls dd H' s' B) (y:Fly B X.stack a cls dd fl h3) (k:s'.heap.UpToSlots h3):Inv X pins σ (upd H' a (.ext (ExcO a cls dd))) { s' with heap:=h3 }:=by
 have n0:∀ b:Addr,b∉([]:List Addr):=fun b=>by simp
 obtain ⟨oe,vs,T,oT,ts,he,hc,hdd,hd,_,h2,_⟩:=y.tr
 have kF:∀ b o,s.heap.get? b=some o→b∈frs X.stack→(∃ sl,h3.get? b=some { o with slots:=sl })∧∀ vs,o.data≠.fields vs:=fun b o z m=>by
  obtain ⟨_,u,hu,nf⟩:=I.stack.mem m
  rw [z] at hu;cases hu
  obtain ⟨sl2,e2⟩:=x.un.slot b _ z (I.stkFree b m) m (n0 b)
  obtain ⟨sl3,e3⟩:=k b _ e2 nf
  exact ⟨⟨sl3,e3⟩,nf⟩
 have na:∀ b o,s.heap.get? b=some o→b≠a:=fun b o z m=>by
  by_cases hb:b∈frs X.stack
  ·obtain ⟨⟨sl,e3⟩,nf⟩:=kF b o z hb
   rw [m,he] at e3
   cases e3
   exact nf vs hd
  ·obtain ⟨o',e'⟩:=x.th b o z hb
   rw [m,y.new] at e';cases e'
 have nt:∀ b u,H' b=some u→b≠a:=fun b u z m=>by rw [m,x.na] at z;cases z
 have kT:∀ c u v,H' c=some v→s'.heap.get? c=some u→h3.get? c=some u:=fun c u v t z=>by
  obtain ⟨o',hB⟩:=x.trk c v t
  have:=x.fly.stays c o' hB
  rw [z] at this;cases this
  exact y.stays c u hB
 refine I.call' (s':={ s' with heap:=h3 }) (ch:=[]) x.os ⟨fun b o z n hb _=>y.stays b o (x.kp b o z hb n),fun b o z n hb _=>(kF b o z hb).1,fun b o z n _=>?_,fun b o z _=>?_,fun b xs t=>?_,fun b o u t=>?_,fun b ps t=>?_⟩ (fun b o t=>?_) x.bare fun b z=>absurd z (by simp)
 ·rw [upd_ne (na b o z)]
  exact x.un.free b o z n (n0 b)
 ·by_cases m:b∈frs X.stack
  ·obtain ⟨⟨sl,e3⟩,_⟩:=kF b o z m
   exact ⟨_,e3⟩
  ·obtain ⟨o',e1⟩:=x.th b o z m
   exact ⟨o',y.stays b o' e1⟩
 ·have t':=x.un.tups b xs t
  rw [upd_ne (nt b _ t')];exact t'
 ·have t':=x.un.frzs b o u t
  rw [upd_ne (nt b _ t')];exact t'
 ·obtain ⟨more,t'⟩:=x.un.tbls b ps t
  exact ⟨more,by rw [upd_ne (nt b _ t')];exact t'⟩
 ·by_cases hb:b=a
  ·subst hb
   rw [upd_same] at t
   cases t
   exact ⟨⟨oe,vs,he,hc,hdd,hd,h2⟩,⟨oe,he⟩,fun h h' ⟨oe,vs,e1,e2,e3,e4⟩ q=>⟨oe,vs,q oe e1,e2,e3,e4⟩⟩
  ·rw [upd_ne hb] at t
   refine (x.hok b o t).stay (fun c u hc z=>?_) (fun c r=>by rw [upd_ne (nt c _ r)];exact r) fun c xs r=>by rw [upd_ne (nt c _ r)];exact r
   rcases hc with rfl | hc
   ·exact kT c u _ t z
   ·exact kT c u _ hc z
theorem Inv.unbound {i:Nat} {n:Str} {m:Str→Option Value} {v:Option Value} {h':Heap} (I:Inv X pins σ H s) (hN:X.N.Nodup) (hi:X.N[i]?=some n) (hk:X.env.kindOf n=some .local)
  (hm:s.heap.Ns X.env.locals m) (hn:h'.Ns X.env.locals (fun y=>if y=n then v else m y)) (hs:Heap.SameBut X.env.locals s.heap h'):Inv X pins (σ.set i none) H { s with heap:=h',toks:=s.toks + 1 }:=by
 have ab:∀ b o,X.s₀.heap.get? b=some o→b≠X.env.locals:=fun b o e=>Nat.ne_of_lt (Nat.lt_of_lt_of_le (Heap.lt_size e) I.ok.above)
 obtain ⟨m1,hm1,hl⟩:=I.loc
 have em:m1=m:=by
  obtain ⟨o1,es1,ep1,g1,d1,_,f1⟩:=hm1
  obtain ⟨o2,es2,ep2,g2,d2,_,f2⟩:=hm
  rw [g1] at g2;cases g2
  rw [d1] at d2;cases d2
  funext y;rw [← f1 y,← f2 y]
 subst em
 refine ⟨I.ok,I.os,I.bare,⟨fun b o e n hb hx=>(hs.2 b (ab b o e)).trans (I.base.keep b o e n hb hx),fun b o e n hb hx=>?_,I.base.free,fun b o e hx=>?_,I.base.tups,I.base.frzs,I.base.tbls⟩,⟨_,hn,fun j y v' e1 e2 e3=>?_⟩,fun y c e=>?_,I.free,I.freeC,fun p hp=>?_,fun b ob e=>?_,by simpa using I.len⟩
 ·obtain ⟨sl,e1⟩:=I.base.slot b o e n hb hx
  exact ⟨sl,(hs.2 b (ab b o e)).trans e1⟩
 ·obtain ⟨o',e1⟩:=I.base.there b o e hx
  exact ⟨o',(hs.2 b (ab b o e)).trans e1⟩
 ·have hj:j≠i:=fun z=>by
   subst z
   rw [List.getElem?_set] at e2
   simp only [if_true] at e2
   split at e2 <;> simp at e2
  rw [List.getElem?_set_ne (Ne.symm hj)] at e2
  obtain ⟨u,r,l⟩:=hl j y v' e1 e2 e3
  refine ⟨u,r,?_⟩
  have yn:y≠n:=fun z=>hj (nodup_ix hN e1 (z ▸ hi))
  rcases l with ⟨a1,a2⟩ | ⟨a1,c,a2,a3⟩
  ·exact .inl ⟨a1,by simp [yn,a2]⟩
  ·exact .inr ⟨a1,c,a2,a3.sameBut hs (I.cne y c a2)⟩
 ·obtain ⟨w',z⟩:=I.cell y c e
  exact ⟨w',z.sameBut hs (I.cne y c e)⟩
 ·obtain ⟨e,n,ne,nf,d⟩:=I.pin p hp
  exact ⟨(hs.2 p.1 ne).trans e,n,ne,nf,d⟩
 ·refine (I.hok b ob e).stay (fun c w' hc q=>(hs.2 c ?_).trans q) (fun _ q=>q) fun _ _ q=>q
  rintro rfl
  rcases hc with rfl | hc
  ·rw [I.free] at e;cases e
  ·rw [I.free] at hc;cases hc
end
abbrev Cx.tried (X:Cx) (pn:List (Addr × Obj)) (xe:Value→Shared→Prop):Cx:={ X with pn:=pn,xe:=xe }
abbrev Cx.held (X:Cx) (a:Addr):Cx:={ X with A:=X.A.mark (some (.ref a)),calm:=false,xe:=fun _ _=>False }
section
variable {X:Cx} {pins pins' pn:List (Addr × Obj)} {σ:St} {H:Hp} {s:Shared} {xe:Value→Shared→Prop} {a:Addr}
theorem Inv.tried (I:Inv X pins σ H s) (xe:Value→Shared→Prop):Inv (X.tried (X.pn ++ pins) xe) [] σ H s:=
 ⟨⟨I.ok.mod,I.ok.kind,I.ok.glob,I.ok.blt,I.ok.above,I.ok.inj,I.ok.has,I.ok.cab,I.ok.hd,I.ok.frames,I.ok.stk,I.ok.exf,I.ok.bs,I.ok.bsz,I.ok.noex,I.ok.exfs,I.ok.funs,I.ok.frf⟩,I.os,I.bare,I.base,I.loc,I.cell,I.free,I.freeC,fun p hp=>I.pin p (by simpa using hp),I.hok,I.len⟩
theorem Inv.untried (I:Inv (X.tried (X.pn ++ pins) xe) pins' σ H s):Inv X pins σ H s:=
 ⟨⟨I.ok.mod,I.ok.kind,I.ok.glob,I.ok.blt,I.ok.above,I.ok.inj,I.ok.has,I.ok.cab,I.ok.hd,I.ok.frames,I.ok.stk,I.ok.exf,I.ok.bs,I.ok.bsz,I.ok.noex,I.ok.exfs,I.ok.funs,I.ok.frf⟩,I.os,I.bare,I.base,I.loc,I.cell,I.free,I.freeC,fun p hp=>I.pin p (List.mem_append_left _ hp),I.hok,I.len⟩
theorem SP.untried {D:Ends} {f:Flow} (h:SP (X.tried (X.pn ++ pins) xe) pins' D f s):SP X pins D f s:=by
 cases f with
 | next=>obtain ⟨σ',H',I,q⟩:=h;exact ⟨σ',H',I.untried,q⟩
 | brk=>obtain ⟨σ',H',I,q⟩:=h;exact ⟨σ',H',I.untried,q⟩
 | cont=>obtain ⟨σ',H',I,q⟩:=h;exact ⟨σ',H',I.untried,q⟩
 | ret u=>obtain ⟨v,σ',H',I,r,q⟩:=h;exact ⟨v,σ',H',I.untried,r,q⟩
theorem Inv.held (I:Inv X pins σ H s) (a:Addr):Inv (X.held a) pins σ H s:=
 ⟨⟨I.ok.mod,I.ok.kind,I.ok.glob,I.ok.blt,I.ok.above,I.ok.inj,I.ok.has,I.ok.cab,(fun z=>nomatch z),I.ok.frames,I.ok.stk,I.ok.exf,I.ok.bs,I.ok.bsz,I.ok.noex,I.ok.exfs,I.ok.funs,I.ok.frf⟩,I.os,I.bare,I.base,I.loc,I.cell,I.free,I.freeC,I.pin,I.hok,I.len⟩
theorem Inv.unheld (I:Inv (X.held a) pins σ H s) (ok:X.Ok):Inv X pins σ H s:=⟨ok,I.os,I.bare,I.base,I.loc,I.cell,I.free,I.freeC,I.pin,I.hok,I.len⟩
end
def unb (i:Nat) (D:Ends):Ends:={ nx:=fun σ H=>D.nx (σ.set i none) H,rt:=D.rt,bk:=fun σ H=>D.bk (σ.set i none) H,ct:=fun σ H=>D.ct (σ.set i none) H }
def tTry (K:PySem.W.Frag) (C:Addr) (i:Nat) (tb:XK→St→TS) (th:TS):TS:=fun D σ H=>∃ E:XK,tb E σ D σ H∧∀ (a:Addr) (cls:Value) (dd:Option Addr) (H':Hp),E cls dd H'→H' a=none→
 exmOne K cls (.ref C)=some true∧th (unb i D) (σ.set i (some (.ref a))) (upd H' a (.ext (ExcO a cls dd)))
def tTryA (K:PySem.W.Frag) (C:Addr) (i:Nat) (tb:XK→St→TS) (th:Addr→TS):TS:=fun D σ H=>∃ E:XK,tb E σ D σ H∧∀ (a:Addr) (cls:Value) (dd:Option Addr) (H':Hp),E cls dd H'→H' a=none→
 exmOne K cls (.ref C)=some true∧th a (unb i D) (σ.set i (some (.ref a))) (upd H' a (.ext (ExcO a cls dd)))
section
variable {X:Cx} {C:Addr} {x n:Str} {np hpos pos:Pos} {body suite:List Stmt} {b0:Stmt} {i:Nat} {tb:XK→St→TS} {th:TS} {thA:Addr→TS}
theorem qs_tryA (hst:X.stack=X.env :: X.outer) (hf:X.env.frame=some X.env.locals) (hg:Gl X x) (hm:X.mg x=some (.ref C)) (hN:X.N.Nodup) (hi:X.N[i]?=some n) (hk:X.env.scope.names.lookup n=some .local)
  (hb:∀ (pn:List (Addr × Obj)) (xe:Value→Shared→Prop) (E:XK) (σ0:St),PassesOwn (model X.prog X.w) X.A X.env xe→PassesS (CXE X.prog X.w) (X.tried pn xe) E (·=σ0)→QSs (X.tried pn xe) body (tb E σ0))
  (hh:∀ a,QSs (X.held a) (b0 :: suite) (thA a)) (hdb:(x == ("__debug__":Str))=false:=by decide) :
  QS X (.Try body [.ExceptHandler (some (.Name x np)) (some n) (b0 :: suite) hpos] [] [] pos) (tTryA X.K C i tb thA):=⟨by
 intro pins s σ H D I h
 obtain ⟨E,hbody,hcatch⟩:=h
 have hp:PassesOwn (model X.prog X.w) X.A X.env (fun e s₁=>wpAny (model X.prog X.w) X.A (noteFrame e X.env) (fun _ s₂=>wpAny (model X.prog X.w) X.A (setFlight e none) (fun _ s₃=>wpAny (model X.prog X.w) X.A (handleBy e X.env [.ExceptHandler (some (.Name x np)) (some n) (b0 :: suite) hpos]) (SP X pins D) X.xe s₃) X.xe s₂) X.xe s₁):=PassesOwn.looking
 have hP:PassesS (CXE X.prog X.w) (X.tried (X.pn ++ pins) (fun e s₁=>wpAny (model X.prog X.w) X.A (noteFrame e X.env) (fun _ s₂=>wpAny (model X.prog X.w) X.A (setFlight e none) (fun _ s₃=>wpAny (model X.prog X.w) X.A (handleBy e X.env [.ExceptHandler (some (.Name x np)) (some n) (b0 :: suite) hpos]) (SP X pins D) X.xe s₃) X.xe s₂) X.xe s₁)) E (·=σ):=by
  intro pins' σ' H1 s1 e s2 I1 hσ hq
  obtain ⟨a,cls,dd,H',B,ea,ex,q⟩:=hq
  subst ea
  have J:=I1.untried
  have hσ:σ'=σ:=hσ
  subst hσ
  have fl:Fly B (X.env :: X.outer) a cls dd .none s2.heap:=by rw [← hst];exact ex.fly
  have hfr:X.A.frames=some (X.env :: X.outer):=by rw [← hst];exact J.ok.frames
  obtain ⟨hmt,hsu⟩:=hcatch a cls dd H' q ex.na
  refine note_on hfr hf fl fun h1 y1 k1=>flight_off y1 fun h2 y2 k2=>?_
  have I2:=J.caught ex (by rw [hst];exact y2) (k1.trans k2)
  refine wpAny_handleBy_cons (codeAny_handlers_test (ld_glob (X:=X.held a) (I2.held a) hg hm ?_ hdb)) (by intro q;cases q)
  have LT:Looks (model X.prog X.w) h2 (typeOf (.ref a)) cls:=by
   obtain ⟨oe,_,_,_,_,he,hc,_⟩:=y2.tr
   exact hc ▸ (Looks.ld he).andThen .now
  refine (exm_one (K:=X.K) I2.kIn LT hmt).here ?_
  refine codeAny_handlers_suite_as (flight_off y2 fun h3 y3 k3=>?_)
  have I3:=J.caught ex (by rw [hst];exact y3) ((k1.trans k2).trans k3)
  refine store_ok (X:=X.held a) (I3.held a) hN hi (.inl hk) (v:=.ref a) rfl (fun s4 I4=>?_) (.inr hk)
  refine wpAny_mono ((hh a).out pins s4 _ _ (unb i D) I4 hsu) (fun f s5 hs=>?_) fun _ _ z=>z.elim
  have hcls:(X.env.scope.kind == .class || (X.env.scope.kind == .module && X.env.locals != X.env.globals))=false:=by rw [J.ok.kind];rfl
  have fin:∀ {σ5:St} {H5:Hp} {Q:Unit→Shared→Prop},Inv (X.held a) pins σ5 H5 s5→(∀ s6,Inv X pins (σ5.set i none) H5 s6→Q () s6)→wpAny (model X.prog X.w) X.A (do bindName X.env n .none;unbindBehindTheSuite X.env n hpos) Q X.xe s5:=fun I5 hQ=>by
   have I5':=I5.unheld J.ok
   obtain ⟨m,hm5,_⟩:=id I5'.loc
   exact wpAny_nameGoes_keeps hk hm5 hcls fun h' v hn hs=>hQ _ (I5'.unbound hN hi hk hm5 hn hs)
  cases f with
  | next=>obtain ⟨σ5,H5,I5,q5⟩:=hs;exact fin I5 fun s6 I6=>⟨_,_,I6,q5⟩
  | brk=>obtain ⟨σ5,H5,I5,q5⟩:=hs;exact fin I5 fun s6 I6=>⟨_,_,I6,q5⟩
  | cont=>obtain ⟨σ5,H5,I5,q5⟩:=hs;exact fin I5 fun s6 I6=>⟨_,_,I6,q5⟩
  | ret u=>obtain ⟨v,σ5,H5,I5,r5,q5⟩:=hs;exact fin I5 fun s6 I6=>⟨v,_,_,I6,r5,q5⟩
 refine wpAny_Try_except (wpAny_mono ((hb _ _ E σ hp hP).out [] s σ H D (I.tried _) hbody) (fun f s1 hs=>?_) fun e s1 z=>z)
 have hs:=hs.untried
 cases f with
 | next=>
  obtain ⟨σ',H',I',q⟩:=hs
  exact (qss_nil (X:=X)).out pins s1 σ' H' D I' q
 | brk=>exact hs
 | cont=>exact hs
 | ret u=>exact hs⟩
theorem qs_try (hst:X.stack=X.env :: X.outer) (hf:X.env.frame=some X.env.locals) (hg:Gl X x) (hm:X.mg x=some (.ref C)) (hN:X.N.Nodup) (hi:X.N[i]?=some n) (hk:X.env.scope.names.lookup n=some .local)
  (hb:∀ (pn:List (Addr × Obj)) (xe:Value→Shared→Prop) (E:XK) (σ0:St),PassesOwn (model X.prog X.w) X.A X.env xe→PassesS (CXE X.prog X.w) (X.tried pn xe) E (·=σ0)→QSs (X.tried pn xe) body (tb E σ0))
  (hh:∀ a,QSs (X.held a) (b0 :: suite) th) (hdb:(x == ("__debug__":Str))=false:=by decide) :
  QS X (.Try body [.ExceptHandler (some (.Name x np)) (some n) (b0 :: suite) hpos] [] [] pos) (tTry X.K C i tb th):=qs_tryA (thA:=fun _=>th) hst hf hg hm hN hi hk hb hh hdb
end
end L2
end
section
set_option Elab.async false
set_option linter.all false
set_option maxRecDepth 100000
set_option maxHeartbeats 2000000
namespace L2
open PySem PySem.Spec PyProof.Rows PySem.W
structure ExcIs (K:PySem.W.Frag) (C:Addr):Prop where
 cl:(clsIn K C).isSome=true
 ga:findIn K (.ref C) "__getattribute__"=some (some (.builtin "BaseException.__getattribute__"))
 gx:findIn K (.ref C) "__getattr__"=some none
 ha:findIn K (.ref C) "__class__"=some (some (.builtin "object.__class__"))
 hn:specialIn K (.builtin "object.__class__") "__get__"=some (some (.builtin "getset_descriptor.__get__"))
 ht:takesIn K (.builtin "object.__class__")=some true
 hm:mroIn K C (.type "object")=some true
 hb:mroIn K C (.type "BaseException")=some true
section
variable {prog:Program} {w:World} {A:Around} {E:Value→Shared→Prop} {s:Shared} {K:PySem.W.Frag} {x C:Addr} {ox:Obj} {odo:Option Obj}
theorem exc_find (T:ExcIs K C):findObj K C odo "__class__"=some (.bind (.builtin "getset_descriptor.__get__") (.builtin "object.__class__")):=by
 obtain ⟨cd,hc⟩:=Option.isSome_iff_exists.mp T.cl
 unfold findObj
 rw [hc,Option.bind_some,T.ha,Option.bind_some]
 simp [T.hn,T.ht]
theorem exc_entry {tk:Tok} {Q:Fin→Shared→Prop} (T:ExcIs K C) (X:K.In s.heap) (I:InstAt s.heap x ox C odo) (h:Q (.done (.ret (.ref C))) s) :
  wpAny (model prog w) A (Builtin.«object.__getattribute__» ⟨[.ref x,.str "__class__" tk],[]⟩) Q E s:=by
 obtain ⟨hh,g,d,t,os⟩:=s
 have L0:=I.type (M:=model prog w)
 have L1:=looks_find (M:=model prog w) X I (exc_find T)
 unfold Builtin.«object.__getattribute__»
 repeat (first | with_reducible refine wpAny_call (class_get X I T.hm ?_) | lk)
 exact h
theorem exc_class {Q:Option Value→Shared→Prop} (T:ExcIs K C) (X:K.In s.heap) (I:InstAt s.heap x ox C odo) (h:Q (some (.ref C)) { s with toks:=s.toks + 1 }):wpAny (model prog w) A (getAttr? (.ref x) "__class__") Q E s:=by
 obtain ⟨hh,g,d,t,os⟩:=s
 have L0:=I.type (M:=model prog w)
 have L1:=looks_findIn (M:=model prog w) X T.ga
 have L2:=looks_findIn (M:=model prog w) X T.gx
 unfold getAttr? getAttrBy? getAttrBy
 refine wpAny_bind (wpAny_mkText (wpAny_bind (wpAny_attempt (wpAny_holding (wpAny_bind (L0.at (wpAny_bind (L1.at ?_))))))))
 show wpAny _ _ (getAttrByItsOwn _ _ _ _ _ _) _ _ _
 unfold getAttrByItsOwn hookBefore
 rw [if_pos (show onTheHeap (Value.ref C)=true from rfl)]
 refine wpAny_bind (L2.at (wpAny_bind (wpAny_attempt (wpAny_holding ?_))))
 unfold callGetattribute boundAndCalled
 rw [if_neg (by decide)]
 have f3:=PySem.F.excAttr_ValueError.ga.bind (.ref x)
 rw [f3]
 refine wpAny_bind (wpAny_pure ?_)
 refine wpAny_call (codeAny_call_builtin PySem.F.excAttr_ValueError.ga.plain F.entry_bexc_ga ?_)
 have hk:builtinKind "BaseException.__getattribute__"=some .slot:=by decide +kernel
 have hsp:splitId "BaseException.__getattribute__"=some ("BaseException","__getattribute__"):=by decide +kernel
 have Lb:=looks_mroIn (M:=model prog w) X T.hb
 have hargs:=F.args_bexc_ga (.ref x) (.str "__class__" t)
 simp only [checkBuiltinCall,hk,hsp]
 refine wpAny_bind ?_
 unfold isInstance
 refine wpAny_bind (L0.at (Lb.at ?_))
 repeat (first | refine exc_entry (x:=x) T X I ?_ | assumption | wp_step)
theorem kitx_exc {y:Addr} (T:ExcIs K C):KitX K (.ref y) (.ref C) (fun h=>∃ ox odo,InstAt h y ox C odo) where
 ty:=fun _ _ _ ⟨_,_,I⟩=>I.type
 it:=fun _ _ X _=>by
  obtain ⟨cd,hc⟩:=Option.isSome_iff_exists.mp T.cl
  unfold clsIn at hc
  split at hc
  ·next ho=>
   intro A' Q' E' s' k q
   unfold isType loadHead
   exact wpAny_bind (wpAny_loadPart (k _ _ (X _ _ ho)) (wpAny_pure q))
  ·cases hc
 ne:=fun h tp dd its n sl X htp=>by
  refine Bool.eq_false_iff.mpr fun q=>?_
  have e:C=tp:=Value.ref.inj (beq_iff_eq.mp q)
  subst e
  obtain ⟨cd,hc⟩:=Option.isSome_iff_exists.mp T.cl
  unfold clsIn at hc
  split at hc
  ·next ho=>
   have z:=(X _ _ ho).symm.trans htp
   cases z
  ·cases hc
 ca:=fun X ⟨_,_,I⟩ k=>exc_class T X I k
end
def DictKn (H:Hp):Option Addr→Prop
 | none=>True
 | some d=>∃ o,H d=some o
def rInstX (K:PySem.W.Frag):List V→Hp→VK→Prop:=fun xs H Q=>∃ (a C:Addr) (c:V) (u:Value) (dd:Option Addr) (b:Bool),xs=[.ref a,c]∧((∃ D,c=.ref D∧u=.ref D)∨∃ n,c=.ty n∧u=.type n)∧H a=some (.ext (ExcO a (.ref C) dd))∧DictKn H dd∧ExcIs K C∧kitOne K (.ref C) u=some b∧Q (.bl b) H
section
variable {X:Cx}
theorem call_isinstX (hc:True:=True.intro):CallR X (.builtin "isinstance") (rInstX X.K):=by
 intro pins s σ H xs us Q I r h
 obtain ⟨a,C,c,u,dd,b,rfl,ru,ha,hd,T,k,q⟩:=h
 obtain ⟨u1,w',rfl,r1,r2⟩:=vals2 r
 obtain rfl:u1=Value.ref a:=r1
 have eu:w'=u:=by
  rcases ru with ⟨D,rfl,rfl⟩ | ⟨n,rfl,rfl⟩
  ·exact r2
  ·exact r2
 subst eu
 obtain ⟨⟨oe,vs,e1,e2,e3,e4,_⟩,_,_⟩:=(show ObjOk X.prog X.w H s.heap a (.ext (ExcO a (.ref C) dd)) from I.hok a _ ha)
 have hI:∃ ox odo,InstAt s.heap a ox C odo:=by
  cases dd with
  | none=>exact ⟨oe,none,e1,e2,by unfold notCls;rw [e4],by rw [e3];trivial⟩
  | some d=>
   obtain ⟨o1,hfs⟩:=hd
   obtain ⟨o,ho⟩:=(I.hok d _ hfs).there
   exact ⟨oe,some o,e1,e2,by unfold notCls;rw [e4],by rw [e3];exact ho⟩
 exact kia_one (kitx_exc T) I.kIn hI k (fun z=>nomatch z) fun tk=>⟨.bl b,H,I.tok tk,rfl,q⟩
end
end L2
end
section
set_option Elab.async false
set_option linter.all false
set_option maxRecDepth 100000
set_option maxHeartbeats 2000000
namespace L2
open PySem PySem.Spec PyProof.Rows PySem.W
theorem boot_ValueError:bootBuiltins "ValueError"=some (.type "ValueError"):=by decide +kernel
section
variable {X:Cx}
end
end L2
end
section
set_option Elab.async false
set_option linter.all false
set_option maxRecDepth 100000
set_option maxHeartbeats 2000000
namespace HT
open PySem PySem.Spec PyProof.Rows
section
variable {prog:Program} {w:World} {A:Around} {E:Value→Shared→Prop} {s:Shared}
end
end HT
namespace L2
open PySem PySem.Spec PyProof.Rows PySem.W
section
variable {X:Cx}
end
end L2
end
section
set_option Elab.async false
set_option linter.all false
set_option maxRecDepth 100000
set_option maxHeartbeats 2000000
namespace L2
open PySem PySem.Spec PyProof.Rows PySem.W
def iniIn (K:Frag) (C fI:Addr):Bool:=match K.lookup C with
 | some ⟨.type "type",_,.cls cd,sl⟩=>(match cd.mro,sl.toList with
  | .ref D :: tl,[_,_,_,_,some (.builtin n),_]=>(D == C) && (n == "ValueError.__new__") && (!cd.hasDel) && (cd.hasDict && (tailIn K vErr tl && (nsOkIn K cd.ns && (nsIn K cd.ns "__init__" == some (some (.ref fI))))))
  | _,_=>false)
 | _=>false
theorem nsAt {K:Frag} {h:Heap} {N:Addr} {m:Str→Option Value} {n:Str} {v:Value} (X:K.In h) (G:h.Ns N m) (e:nsIn K N n=some (some v)):m n=some v:=by
 obtain ⟨o,es,ep,ho,hd,_,hf⟩:=G
 unfold nsIn at e
 split at e
 ·next c0 d0 es0 n0 sl0 q=>
  have z:=X _ _ q
  rw [ho] at z
  cases z
  cases hd
  split at e
  ·next en he=>
   cases e
   rw [← hf]
   unfold nsFind findBy
   rw [← Array.find?_toList,he]
   rfl
  ·split at e <;> cases e
 ·cases e
theorem ini_obj {K:Frag} {h:Heap} {C fI:Addr} (X:K.In h) (q:iniIn K C fI=true) :
  ∃ bm N nm q bs sn sub ab col dd k0 k1 k2 k3 k5 mN,h.get? C=some (excClassObj nm q C N bs bm true sn sub ab col dd k0 k1 k2 k3 k5 "ValueError.__new__")∧h.Ns N mN∧mN "__init__"=some (.ref fI)∧OwnTail h vErr bm:=by
 unfold iniIn at q
 split at q
 ·next dd cd sl ho=>
  split at q
  ·next D tl k0 k1 k2 k3 n k5 hm hs=>
   rw [Bool.and_eq_true,Bool.and_eq_true,Bool.and_eq_true,Bool.and_eq_true,Bool.and_eq_true,Bool.and_eq_true,beq_iff_eq,beq_iff_eq,beq_iff_eq,Bool.not_eq_true'] at q
   obtain ⟨⟨⟨e1,e2⟩,e3⟩,e4,ht,hok,hi⟩:=q
   subst e1 e2
   obtain ⟨nm,bs,mro,ns,qn,hd,sn,sub,ab,col,del⟩:=cd
   dsimp only at hm e3 e4 hok hi
   subst hm e3 e4
   obtain ⟨sll⟩:=sl
   dsimp only at hs
   subst hs
   exact ⟨tl,ns,nm,qn,bs,sn,sub,ab,col,dd,k0,k1,k2,k3,k5,_,X _ _ ho,.of_isNs (isNs_of_in X hok),nsAt X (.of_isNs (isNs_of_in X hok)) hi,tail_of_in X ht⟩
  ·cases q
 ·cases q
section
variable {prog:Program} {w:World} {A:Around} {E:Value→Shared→Prop} {h:Heap} {g:Array GenState} {d:Drawn} {t:Nat} {os:OsState}
variable {nm q:Str} {C N fI:Addr} {bs bm:List Value} {sn:List Str} {sub:List Value} {ab:Bool} {col:Option Bool} {dd:Option Addr} {k0 k1 k2 k3 k5:Option Value} {oI:Obj} {mN:Str→Option Value} {rest:List Value}
abbrev newArgs (rest:List Value):Obj:={ cls:=.type "tuple",data:=.seq rest.toArray }
abbrev newExc (C a:Addr):Obj:={ cls:=.ref C,data:=.fields #[.ref a,.none,.none,.none,.bool false,.none] }
theorem typecall_ini {Q:Fin→Shared→Prop} (T:OwnTail h vErr bm) (hC:h.get? C=some (excClassObj nm q C N bs bm true sn sub ab col dd k0 k1 k2 k3 k5 "ValueError.__new__")) (hn:h.Ns N mN) (hi:mN "__init__"=some (.ref fI))
  (hf:h.get? fI=some oI) (hfc:oI.cls=.type "function") (hz:rest.length≤sizeLine)
  (hq:wpAny (model prog w) A (call (.ref fI) (.ref (h.objs.size + 1) :: rest)) (fun r s'=>r=.none∧Q (.done (.ret (.ref (h.objs.size + 1)))) s') E ⟨(h.push (newArgs rest)).push (newExc C h.objs.size),g,d,t,os⟩) :
  wpAny (model prog w) A (Builtin.«type.__call__» ⟨.ref C :: rest,[]⟩) Q E ⟨h,g,d,t,os⟩:=by
 have FB:=PySem.F.excBase_ValueError
 repeat (first | with_reducible refine wpAny_loadPart_at hC ?_ | with_reducible refine wpAny_madeBy_exc hC ?_ | wp_step)
 refine codeAny_call_builtin_code (Code.quiet_builtin _ FB.quiet) (wpAny_check_new_subT FB T hC (codeAny_exc_new_subT FB T hC ?_ hz))
 show wpAny _ _ _ _ _ _
 have up:∀ b o,h.get? b=some o→((h.push (newArgs rest)).push (newExc C h.objs.size)).get? b=some o:=fun b o z=>Heap.get?_push_of_some _ (Heap.get?_push_of_some _ z)
 have eC:=up _ _ hC
 have eF:=up _ _ hf
 have eN:=hn.keeps up
 have eT:=T.keeps up
 have eX:((h.push (newArgs rest)).push (newExc C h.objs.size)).get? (h.objs.size + 1)=some (newExc C h.objs.size):=by heap_get
 have inC:(Value.ref C :: bm).contains (.ref C)=true:=by simp
 unfold isInstance
 repeat (first | with_reducible refine wpAny_loadPart_at eX ?_ | (with_reducible refine wpAny_isSubtype_exc eC ?_;rw [inC]) | wp_step)
 show wpAny _ _ (typeLookup (.ref C) "__init__") _ _ _
 refine wpAny_typeLookup_tail eC eN eT FB.mroIs FB.init.lookup ?_
 rw [hi]
 refine wpAny_holding (wpAny_bind ?_)
 unfold bindSpecial
 refine wpAny_bind (wpAny_typeOf (T:="function") ⟨_,eF,hfc⟩ ?_)
 rw [if_pos (by decide)]
 refine wpAny_pure (wpAny_bind (wpAny_mono hq (fun r s' z=>?_) fun _ _ y=>y))
 obtain ⟨rfl,z⟩:=z
 wp_walk
 exact z
theorem call_ini {Q:Value→Shared→Prop} (T:OwnTail h vErr bm) (hC:h.get? C=some (excClassObj nm q C N bs bm true sn sub ab col dd k0 k1 k2 k3 k5 "ValueError.__new__")) (hn:h.Ns N mN) (hi:mN "__init__"=some (.ref fI))
  (hf:h.get? fI=some oI) (hfc:oI.cls=.type "function") (hz:rest.length≤sizeLine)
  (hq:wpAny (model prog w) (A.under (.builtin "type.__call__" ⟨.ref C :: rest,[]⟩)) (call (.ref fI) (.ref (h.objs.size + 1) :: rest)) (fun r s'=>r=.none∧Q (.ref (h.objs.size + 1)) s') E ⟨(h.push (newArgs rest)).push (newExc C h.objs.size),g,d,t,os⟩) :
  wpAny (model prog w) A (call (.ref C) rest) Q E ⟨h,g,d,t,os⟩:=by
 have f1:=tc_lookup
 have f2:=tc_bind (.ref C)
 have tyC:(⟨h,g,d,t,os⟩:Shared).TypeIs (.ref C) "type":=⟨_,hC,rfl⟩
 refine wpAny_call (codeAny_of_tree ?_)
 show wpAny _ _ (callAny (.ref C) _) _ _ _
 repeat (any_goals (first | assumption | with_reducible refine wpAny_loadPart_at hC ?_ | wp_step))
 exact ⟨rfl,codeAny_call_builtin_at (Code.quiet_builtin _ (by decide +kernel)) entry_typeCall (wpAny_check_type_call_sub hC (typecall_ini T hC hn hi hf hfc hz hq))⟩
end
section
variable {M:Model} {A:Around} {E:Value→Shared→Prop} {s:Shared} {env:Env} {x:Sem Value} {Q:Flow→Shared→Prop}
variable {nm q:Str} {C N:Addr} {bs bm:List Value} {hdct:Bool} {sn:List Str} {sub:List Value} {ab:Bool} {col:Option Bool} {dd:Option Addr} {k0 k1 k2 k3 k5:Option Value} {newId:String}
theorem raise_obj (hb:bm.contains (.type "BaseException")=true) (hh:A.handled=none)
  (hx:wpAny M A x (fun v s1=>∃ e oe vs,v=.ref e∧s1.heap.get? C=some (excClassObj nm q C N bs bm hdct sn sub ab col dd k0 k1 k2 k3 k5 newId)∧s1.heap.get? e=some oe∧oe.cls=.ref C∧oe.data=.fields vs∧vs[1]?=some .none∧E (.ref e) s1) E s) :
  wpAny M A (raiseStmt env (some x) none) Q E s:=by
 have inB:(Value.ref C :: bm).contains (.type "BaseException")=true:=by rw [List.contains_cons,hb,Bool.or_true]
 unfold raiseStmt
 refine wpAny_bind (wpAny_mono hx (fun v s1 z=>?_) fun _ _ y=>y)
 obtain ⟨e,oe,vs,rfl,hC,he,hc,hd,h1,hE⟩:=z
 obtain ⟨oc,od,oda,osl⟩:=oe
 dsimp only at hc hd
 subst hc hd
 obtain ⟨hp,g,d,tk,os⟩:=s1
 repeat (first | with_reducible refine wpAny_loadPart_at he ?_ | with_reducible refine wpAny_loadPart_at hC ?_ | (with_reducible refine wpAny_isSubtype_exc hC ?_;rw [inB]) | wp_step)
 rw [h1]
 refine wpAny_pure ?_
 rw [if_neg (by decide)]
 exact wpAny_pure (wpAny_raiseNew_none hh hE)
end
def ExcN (a:Addr) (cls:Value) (dd:Option Addr):Heap→Prop:=fun h=>∃ oe vs,h.get? a=some oe∧oe.cls=cls∧oe.dict=dd∧oe.data=.fields vs∧vs[1]?=some .none∧vs[2]?=some .none∧dd≠some a
theorem ExcN.at {a:Addr} {cls:Value} {dd:Option Addr} {h h':Heap} (x:ExcN a cls dd h) (k:∀ o,h.get? a=some o→h'.get? a=some o):ExcN a cls dd h':=let ⟨oe,vs,e,r⟩:=x;⟨oe,vs,k oe e,r⟩
theorem ExcN.ok {P:Program} {w:World} {H:Hp} {h:Heap} {a:Addr} {cls:Value} {dd:Option Addr} (x:ExcN a cls dd h):ObjOk P w H h a (.ext (ExcN a cls dd)):=⟨x,let ⟨oe,_,e,_⟩:=x;⟨oe,e⟩,fun _ _ y k=>y.at k⟩
def drop (H:Hp) (a:Addr):Hp:=fun b=>if b=a then none else H b
theorem drop_same {H:Hp} {a:Addr}:drop H a a=none:=by unfold drop;rw [if_pos rfl]
theorem drop_ne {H:Hp} {a b:Addr} (h:b≠a):drop H a b=H b:=by unfold drop;rw [if_neg h]
section
variable {X:Cx} {pins:List (Addr × Obj)} {σ:St} {H:Hp} {s:Shared} {a:Addr} {φ:Heap→Prop}
theorem Inv.drop (I:Inv X pins σ H s) (ha:H a=some (.ext φ)) (nst:∀ b o,X.s₀.heap.get? b=some o→b≠a):Inv X pins σ (L2.drop H a) s:=by
 have ne:∀ b u,H b=some u→(∀ φ,u≠.ext φ)→b≠a:=fun b u e n z=>by rw [z,ha] at e;cases e;exact n φ rfl
 refine ⟨I.ok,I.os,I.bare,⟨I.base.keep,I.base.slot,fun b o e n hx=>?_,I.base.there,fun b xs e=>?_,fun b o u e=>?_,fun b ps e=>?_⟩,I.loc,I.cell,?_,fun x c e=>?_,fun p hp=>?_,fun b o e=>?_,I.len⟩
 ·by_cases hb:b=a
  ·rw [hb];exact drop_same
  ·rw [drop_ne hb];exact I.base.free b o e n hx
 ·have z:=I.base.tups b xs e
  rw [drop_ne (ne b _ z fun φ=>by simp)];exact z
 ·have z:=I.base.frzs b o u e
  rw [drop_ne (ne b _ z fun φ=>by simp)];exact z
 ·obtain ⟨more,z⟩:=I.base.tbls b ps e
  exact ⟨more,by rw [drop_ne (ne b _ z fun φ=>by simp)];exact z⟩
 ·by_cases hb:X.env.locals=a
  ·rw [hb];exact drop_same
  ·rw [drop_ne hb];exact I.free
 ·by_cases hb:c=a
  ·rw [hb];exact drop_same
  ·rw [drop_ne hb];exact I.freeC x c e
 ·obtain ⟨e1,e2,e3⟩:=I.pin p hp
  refine ⟨e1,?_,e3⟩
  by_cases hb:p.1=a
  ·rw [hb];exact drop_same
  ·rw [drop_ne hb];exact e2
 ·by_cases hb:b=a
  ·rw [hb,drop_same] at e;cases e
  ·rw [drop_ne hb] at e
   refine (I.hok b o e).stay (fun c u _ z=>z) (fun c r=>?_) fun c xs r=>?_
   ·rw [drop_ne (ne c _ r fun φ=>by simp)];exact r
   ·rw [drop_ne (ne c _ r fun φ=>by simp)];exact r
end
structure MkX (K:Frag) (C f:Addr):Prop where
 ini:iniIn K C f=true
 fn:PySem.W.isFn K (.ref f)=true
 kp:PySem.W.keepIn K (.ref C)=true
def tRaiseI (C:Addr) (sp:Sp) (E:XK) (t:TA):TS:=fun _ σ H=>t σ H fun vs H1=>vs.length≤sizeLine∧∀ a,H1 a=none→sp (.ref a :: vs) (upd H1 a (.ext (ExcN a (.ref C) none))) (fun v H2=>v=.non∧∃ dd,H2 a=some (.ext (ExcN a (.ref C) dd))∧E (.ref C) dd (drop H2 a)) E0
section
variable {X:Cx} {k:Nat} {f C:Addr} {fd:FuncData} {ps:List Str} {sp:Sp} {x:Str} {p pos cpos:Pos} {e:Expr} {es:List Expr} {t:TA} {E:XK}
theorem exc_run {pins:List (Addr × Obj)} {s:Shared} {σ:St} {H:Hp} {G:Addr→Hp→Prop} (M:MkX X.K C f) (F:FnOk X.prog X.w X.K X.mg X.base CX0 k f fd ps sp) (hr:Room (k + 1) X.A) (hg:Gl X x) (hm:X.mg x=some (.ref C)) (hb:Binds X.K fd ps []) (ha:QA X (e :: es) t)
  (I:Inv X pins σ H s) (h:t σ H fun vs H1=>vs.length≤sizeLine∧∀ a,H1 a=none→sp (.ref a :: vs) (upd H1 a (.ext (ExcN a (.ref C) none))) (fun v H2=>v=.non∧G a H2) E0)
  (hdb:(x == ("__debug__":Str))=false) (hs:starEach (e :: es) X.env=(false,eval e X.env) :: starEach es X.env) (hpl:(backTo cpos (starEach es X.env)).any (·.1)=false) :
  wpAny (model X.prog X.w) X.A (eval (.Call (.Name x p) (e :: es) [] cpos) X.env) (fun v s'=>∃ a H2,v=.ref a∧Inv X pins σ H2 s'∧X.s₀.heap.objs.size≤a∧G a H2) X.xe s:=by
 refine wpAny_Call_Name_kw (ld_glob I hg hm ?_ hdb)
 refine PySem.W.callWith_K (h₀:=X.base) I.ok.mod.kin M.kp (thn (ha.out cpos pins s σ H _ I h) fun us s1 ⟨vs,H1,I1,r,hz,q⟩=>⟨I1.kIn,?_⟩) hs hpl
 obtain ⟨bm,N,nm,qn,bs,sn,sub,ab,col,dd,k0,k1,k2,k3,k5,mN,cC,cN,ci,T⟩:=ini_obj I1.kIn M.ini
 obtain ⟨oI,hoI,hcI⟩:∃ oI,s1.heap.get? f=some oI∧oI.cls=.type "function":=by
  have z:(X.K.lookup f).map (·.cls)=some (.type "function"):=beq_iff_eq.mp M.fn
  cases y:X.K.lookup f with
  | none=>rw [y] at z;cases z
  | some of=>rw [y] at z;exact ⟨of,I1.kIn _ _ y,Option.some.inj z⟩
 have hsz0:X.s₀.heap.objs.size≤s1.heap.objs.size + 1:=Nat.le_succ_of_le I1.sz
 obtain ⟨hh,g,d,tk,os⟩:=s1
 have I2:Inv X pins σ H1 ⟨hh.push (newArgs us),g,d,tk,os⟩:=I1.kept (t':=tk) fun b u z=>Heap.get?_push_of_some _ z
 have hsz:(hh.push (newArgs us)).objs.size=hh.objs.size + 1:=Heap.size_push _ _
 have eX:((hh.push (newArgs us)).push (newExc C hh.objs.size)).get? (hh.objs.size + 1)=some (newExc C hh.objs.size):=by heap_get
 have I3:Inv X pins σ (upd H1 (hh.objs.size + 1) (.ext (ExcN (hh.objs.size + 1) (.ref C) none))) ⟨(hh.push (newArgs us)).push (newExc C hh.objs.size),g,d,tk,os⟩:=
  I2.laid (t':=tk) (fun b u z=>Heap.get?_push_of_some _ z) (Nat.le_of_eq hsz) (ExcN.ok ⟨_,_,eX,rfl,rfl,rfl,rfl,rfl,by simp⟩)
 have hq:=q (hh.objs.size + 1) (I2.hok.fresh (Nat.le_of_eq hsz))
 have r2:Vals (V.ref (hh.objs.size + 1) :: vs) (Value.ref (hh.objs.size + 1) :: us):=.cons rfl r
 have hl:(Value.ref (hh.objs.size + 1) :: us).length=ps.length:=by rw [← r2.length];exact F.len _ _ _ _ hq
 have hB:=hb ⟨(hh.push (newArgs us)).push (newExc C hh.objs.size),g,d,tk,os⟩ (Value.ref (hh.objs.size + 1) :: us) I3.kIn (by rw [List.append_nil];exact hl)
 rw [List.append_nil] at hB
 refine call_ini T cC cN ci hoI hcI (by show us.length≤sizeLine;rw [← r.length];exact hz) (wpAny_call (codeAny_mono (F.run _ X.stack _ _ ⟨Value.ref (hh.objs.size + 1) :: us,[]⟩ (Value.ref (hh.objs.size + 1) :: us) _ _ E0 (hr.make C us []) (I3.env0.make C us []) hB r2 hq) fun r s' hq'=>?_))
 cases r with
 | error e=>exact False.elim hq'
 | ok fl=>
  cases fl with
  | ret u=>
   obtain ⟨v,H',I4,rv,ev,q3⟩:=I3.after hq'
   subst ev
   exact ⟨rv,_,H',rfl,I4,hsz0,q3⟩
  | next=>exact False.elim hq'
  | brk=>exact False.elim hq'
  | cont=>exact False.elim hq'
theorem qs_raiseI (hl:Lets X E) (hc:X.calm=true) (M:MkX X.K C f) (F:FnOk X.prog X.w X.K X.mg X.base CX0 k f fd ps sp) (hr:Room (k + 1) X.A) (hg:Gl X x) (hm:X.mg x=some (.ref C)) (hb:Binds X.K fd ps []) (ha:QA X (e :: es) t)
  (hdb:(x == ("__debug__":Str))=false:=by decide) (hs:starEach (e :: es) X.env=(false,eval e X.env) :: starEach es X.env:=by rfl) (hpl:(backTo cpos (starEach es X.env)).any (·.1)=false:=by rfl) :
  QS X (.Raise (some (.Call (.Name x p) (e :: es) [] cpos)) none pos) (tRaiseI C sp E t):=⟨by
 intro pins s σ H D I h
 have run:=exc_run (p:=p) M F hr hg hm hb ha I h hdb hs hpl
 obtain ⟨bm,N,nm,qn,bs,sn,sub,ab,col,dd,k0,k1,k2,k3,k5,mN,cC,cN,ci,T⟩:=ini_obj I.ok.mod.kin M.ini
 rw [arm_exec_Raise]
 refine wpAny_bind (wpAny_standAt (raise_obj (C:=C) (nm:=nm) (q:=qn) (N:=N) (bs:=bs) (bm:=bm) (hdct:=true) (sn:=sn) (sub:=sub) (ab:=ab) (col:=col) (dd:=dd) (k0:=k0) (k1:=k1) (k2:=k2) (k3:=k3) (k5:=k5) (newId:="ValueError.__new__")
  (T.hasType PySem.F.excBase_ValueError.hasBase) (I.ok.hd hc) (wpAny_bind (wpAny_mono run (fun v s1 z=>wpAny_bind (wpAny_standAt (wpAny_pure ?_))) fun _ _ y=>y))))
 obtain ⟨a,H2,rfl,I2,ha2,dd2,hd2,hE⟩:=z
 obtain ⟨⟨oe,vs,he,h1,h2,h3,h4,h42,_⟩,_⟩:=I2.hok a _ hd2
 have nst:∀ b o,X.s₀.heap.get? b=some o→b≠a:=fun b o z y=>absurd (Heap.lt_size z) (by rw [y];exact Nat.not_lt.mpr ha2)
 have I3:=I2.drop hd2 nst
 refine ⟨a,oe,vs,rfl,I2.bk _ _ cC,he,h1,h3,h4,hl pins σ _ _ a oe vs I3 he h3 h4 h42 drop_same nst ?_⟩
 rw [h1,h2];exact hE⟩
end
section
variable {prog:Program} {w:World} {A:Around} {E:Value→Shared→Prop} {h:Heap} {g:Array GenState} {d:Drawn} {t:Nat} {os:OsState}
variable {nm q:Str} {C N a:Addr} {bs bm:List Value} {sn:List Str} {sub:List Value} {ab:Bool} {col:Option Bool} {dd:Option Addr} {k0 k1 k2 k3 k5:Option Value} {mN:Str→Option Value} {rest:List Value} {Q:Value→Shared→Prop} {oe:Obj} {vs:Array Value}
theorem init_call (T:OwnTail h vErr bm) (hC:h.get? C=some (excClassObj nm q C N bs bm true sn sub ab col dd k0 k1 k2 k3 k5 "ValueError.__new__")) (he:h.get? a=some oe) (hc:oe.cls=.ref C) (hd:oe.data=.fields vs) (hz:0 < vs.size) (hr:rest.length≤sizeLine)
  (hq:Q .none ⟨(h.push (newArgs rest)).update a (Obj.mapFields (·.setIfInBounds 0 (.ref h.objs.size))),g,d,t,os⟩) :
  wpAny (model prog w) A (call (.builtin "ValueError.__init__") (.ref a :: rest)) Q E ⟨h,g,d,t,os⟩:=by
 have FB:=PySem.F.excBase_ValueError
 obtain ⟨oc,od,oda,osl⟩:=oe
 dsimp only at hc hd
 subst hc hd
 refine wpAny_call (codeAny_call_builtin FB.init.plain FB.initEntry (wpAny_check_init_subT FB T hC he rfl ?_))
 have he1:(h.push (newArgs rest)).get? a=some ⟨.ref C,od,.fields vs,osl⟩:=Heap.get?_push_of_some _ he
 unfold Builtin.«BaseException.__init__»
 repeat (first | with_reducible refine wpAny_loadPart_at he1 ?_ | wp_step)
 obtain ⟨v0,e0⟩:∃ v0,vs[0]?=some v0:=⟨_,Array.getElem?_eq_getElem hz⟩
 rw [e0]
 refine wpAny_pure (wpAny_bind (wpAny_setField he1 rfl hz ?_))
 cases v0 <;> first | exact wpAny_letGo (wpAny_pure hq) | exact wpAny_pure (wpAny_pure hq)
end
def errLine:List Value→Bool
 | .ref _ :: r=>errLine r
 | l=>l == vErr
theorem errLine_pass (self:Value):∀ {l:List Value},errLine l=true→refuseLoop self "__setattr__" l=pure ()
 | .ref _ :: r,e=>(refuseLoop_ref self "__setattr__" _ r).trans (errLine_pass self (l:=r) e)
 | [],e=>by cases e
 | .type n :: r,e=>by rw [beq_iff_eq.mp (show (Value.type n :: r == vErr)=true from e)];exact PySem.F.store_ValueError.passes self
 | .none :: r,e=>by cases (beq_iff_eq.mp (show (Value.none :: r == vErr)=true from e))
 | .bool b :: r,e=>by cases (beq_iff_eq.mp (show (Value.bool b :: r == vErr)=true from e))
 | .int i t :: r,e=>by cases (beq_iff_eq.mp (show (Value.int i t :: r == vErr)=true from e))
 | .float i t :: r,e=>by cases (beq_iff_eq.mp (show (Value.float i t :: r == vErr)=true from e))
 | .str i t :: r,e=>by cases (beq_iff_eq.mp (show (Value.str i t :: r == vErr)=true from e))
 | .bytes i t :: r,e=>by cases (beq_iff_eq.mp (show (Value.bytes i t :: r == vErr)=true from e))
 | .builtin n :: r,e=>by cases (beq_iff_eq.mp (show (Value.builtin n :: r == vErr)=true from e))
structure ErrCls (K:Frag) (C:Addr):Prop where
 ln:((clsIn K C).any fun cd=>cd.hasDict && errLine cd.mro)=true
 ob:mroIn K C (.type "object")=some true
 sa:findIn K (.ref C) "__setattr__"=some (some (.builtin "object.__setattr__"))
section
open Builtin Builtin.ObjectAttr
variable {prog:Program} {w:World} {A:Around} {E:Value→Shared→Prop} {s:Shared} {K:Frag} {x C:Addr} {ox:Obj} {od:Option Obj} {name:Str} {v:Value}
theorem setX_open {Q:Unit→Shared→Prop} (X:K.In s.heap) (T:ErrCls K C) (hn:findIn K (.ref C) name=some none) (I:InstAt s.heap x ox C od)
  (h:wpAny (model prog w) A.in1 (storeInOwnDict (.ref x) (.ref C) (.str name s.toks) name v false) (fun fin s'=>match fin with | .done (.ret _)=>Q () s' | _=>False) (fun _ _=>False) { s with toks:=s.toks + 1 }) :
  wpAny (model prog w) A (setAttr (.ref x) name v) Q E s:=by
 have SF:=PySem.F.store_ValueError
 obtain ⟨cd,hc,ho⟩:=any_some T.ln
 rw [Bool.and_eq_true] at ho
 have L0:=I.type (M:=model prog w)
 have Lm:Looks (model prog w) s.heap (mroOf (.ref C)) cd.mro:=(looks_clsIn X hc).andThen .now
 have Li:Looks (model prog w) s.heap (isInstance (.ref x) (.type "object")) true:=L0.andThen (looks_mroIn X T.ob)
 have Ln:=looks_findIn (M:=model prog w) X hn
 obtain ⟨hh,g,d,t,os⟩:=s
 unfold setAttr
 refine wpAny_bind (wpAny_mkText (wpAny_bind (wpAny_bind (wpAny_bind (L0.at ((looks_findIn X T.sa).at (wpAny_holding (wpAny_bind ?_))))))))
 rw [SF.slot.bind (.ref x)]
 refine wpAny_pure (wpAny_bind (wpAny_call (codeAny_call_builtin SF.slot.plain SF.entry (@check_slot (model prog w) _ _ _ "object.__setattr__" "object" "__setattr__" (.ref x) [.str name t,v] [] _ SF.kind SF.split Li (SF.args (.ref x) (.str name t) v) ?_))))
 show wpAny (model prog w) A.in1 (Builtin.«object.__setattr__» ⟨[.ref x,.str name t,v],[]⟩) _ _ _
 rw [osa_eq,refuse_eq]
 refine wpAny_bind (wpAny_bind (L0.at (wpAny_bind (Lm.at ?_))))
 rw [errLine_pass _ ho.2]
 refine wpAny_pure (wpAny_bind (L0.at (wpAny_bind (Ln.at (wpAny_bind (wpAny_pure ?_))))))
 refine wpAny_mono h (fun fin s' z=>?_) fun _ _ z=>z.elim
 cases fin with
 | done f=>cases f with
  | ret u=>exact wpAny_pure (wpAny_pure z)
  | next=>exact z.elim
  | brk=>exact z.elim
  | cont=>exact z.elim
 | again c=>exact z.elim
end
section
open Builtin Builtin.ObjectAttr
variable {prog:Program} {w:World} {A:Around} {E:Value→Shared→Prop} {h:Heap} {g:Array GenState} {d:Drawn} {t:Nat} {os:OsState} {K:Frag} {x C dx:Addr} {vs:Array Value} {sl:Array (Option Value)} {name:Str} {v:Value} {Q:Fin→Shared→Prop} {b:Bool} {tk:Tok}
theorem storeX_new (X:K.In h) (T:ErrCls K C) (hx:h.get? x=some ⟨.ref C,none,.fields vs,sl⟩)
  (hq:∀ h' t',h'.Ns1 h.objs.size (fun y=>if y=name then some v else none)→h'.get? x=some ⟨.ref C,some h.objs.size,.fields vs,sl⟩→(∀ c o,c≠x→h.get? c=some o→h'.get? c=some o)→Q (.done (.ret .none)) ⟨h',g,d,t',os⟩) :
  wpAny (model prog w) A (storeInOwnDict (.ref x) (.ref C) (.str name tk) name v b) Q E ⟨h,g,d,t,os⟩:=by
 obtain ⟨cd,hc,ho⟩:=any_some T.ln
 rw [Bool.and_eq_true] at ho
 have xs:x≠h.objs.size:=Nat.ne_of_lt (Heap.lt_size hx)
 refine wpAny_bind (wpAny_pure (wpAny_bind (wpAny_bind (wpAny_loadPart hx (wpAny_bind ((looks_clsIn X hc).here ?_))))))
 rw [ho.1]
 have hx1:(h.push { cls:=.type "dict",data:=.dict #[] }).get? x=some ⟨.ref C,none,.fields vs,sl⟩:=Heap.get?_push_of_some _ hx
 refine wpAny_bind (wpAny_alloc' ?_)
 refine wpAny_bind (wpAny_update' hx1 ?_)
 refine wpAny_pure ?_
 generalize e1:((h.push { cls:=.type "dict",data:=.dict #[] }).update x fun o=>{ cls:=o.cls,dict:=some h.objs.size,data:=o.data,slots:=o.slots })=h1
 have g1:h1.get? h.objs.size=some { cls:=.type "dict",data:=.dict #[] }:=by rw [← e1];exact (Heap.get?_update_ne _ _ _ _ xs.symm).trans (Heap.get?_push_at rfl rfl)
 have g2:h1.get? x=some ⟨.ref C,some h.objs.size,.fields vs,sl⟩:=by rw [← e1];exact Heap.get?_update_self _ hx1 rfl
 have g3:∀ c o,c≠x→h.get? c=some o→h1.get? c=some o:=fun c o n z=>by rw [← e1];exact (Heap.get?_update_ne _ _ _ _ n).trans (Heap.get?_push_of_some _ z)
 have n1:h1.Ns h.objs.size (fun _=>none):=⟨_,#[],_,g1,rfl,(fun e he=>absurd he (by simp)),fun _=>rfl⟩
 show wpAny _ _ (storeInDict h.objs.size (.str name tk) name v) _ _ _
 unfold storeInDict newKeyGuard
 refine wpAny_bind (wpAny_pure (wpAny_bind (wpAny_nsSet1 (Heap.Ns1.of_empty n1) fun h2 n2 k2=>?_)))
 obtain ⟨oD,esD,epD,hoD,hdD,hcD⟩:=n2.count (PySem.Within.cons name v PySem.Within.nil)
 refine wpAny_bind (wpAny_lookBehind hoD (by rw [hdD];exact pastItsLine_dict (Nat.le_trans hcD (by rw [List.length_cons,List.length_nil,sizeLine_eq];omega))) (wpAny_pure ?_))
 exact hq h2 _ n2 ((k2.2 x xs).trans g2) fun c o n z=>(k2.2 c (Nat.ne_of_lt (Heap.lt_size z))).trans (g3 c o n z)
theorem storeX_more {mA:Str→Option Value} {ns:List Str} (X:K.In h) (T:ErrCls K C) (hx:h.get? x=some ⟨.ref C,some dx,.fields vs,sl⟩) (hn:h.Ns1 dx mA) (hw:PySem.Within mA ns) (hl:ns.length≤100)
  (hq:∀ h' t',h'.Ns1 dx (fun y=>if y=name then some v else mA y)→(∀ c o,c≠dx→h.get? c=some o→h'.get? c=some o)→Q (.done (.ret .none)) ⟨h',g,d,t',os⟩) :
  wpAny (model prog w) A (storeInOwnDict (.ref x) (.ref C) (.str name tk) name v b) Q E ⟨h,g,d,t,os⟩:=by
 obtain ⟨cd,hc,ho⟩:=any_some T.ln
 rw [Bool.and_eq_true] at ho
 refine wpAny_bind (wpAny_pure (wpAny_bind (wpAny_bind (wpAny_loadPart hx (wpAny_bind ((looks_clsIn X hc).here ?_))))))
 rw [ho.1]
 refine wpAny_pure ?_
 show wpAny _ _ (storeInDict dx (.str name tk) name v) _ _ _
 unfold storeInDict newKeyGuard
 refine wpAny_bind (wpAny_pure (wpAny_bind (wpAny_nsSet1 hn fun h2 n2 k2=>?_)))
 obtain ⟨oD,esD,epD,hoD,hdD,hcD⟩:=n2.count (PySem.Within.cons name v hw)
 refine wpAny_bind (wpAny_lookBehind hoD (by rw [hdD];exact pastItsLine_dict (Nat.le_trans hcD (by rw [List.length_cons,sizeLine_eq];omega))) (wpAny_pure ?_))
 exact hq h2 _ n2 fun c o n z=>(k2.2 c n).trans z
end
def XD (a:Addr) (fs:List (Str × V)):Heap→Prop:=fun h=>∃ mA,h.Ns1 a mA∧(∀ f,RelO (fs.lookup f) (mA f))∧PySem.Within mA (fs.map (·.1))∧fs.length≤50
theorem XD.at {a:Addr} {fs:List (Str × V)} {h h':Heap} (x:XD a fs h) (k:∀ o,h.get? a=some o→h'.get? a=some o):XD a fs h':=let ⟨mA,n,r⟩:=x;⟨mA,n.at k,r⟩
theorem XD.ok {P:Program} {w:World} {H:Hp} {h:Heap} {a:Addr} {fs:List (Str × V)} (x:XD a fs h):ObjOk P w H h a (.ext (XD a fs)):=⟨x,let ⟨_,⟨o,_,_,e,_⟩,_⟩:=x;⟨o,e⟩,fun _ _ y k=>y.at k⟩
def sFldX (K : Frag) (ta tv : TE) (f : Str) : TS := fun D σ H => tv σ H fun y H1 => ta σ H1 fun x H2 => ∃ a C dd, x = .ref a ∧ H2 a = some (.ext (ExcN a (.ref C) dd)) ∧ ErrCls K C ∧ findIn K (.ref C) f = some none ∧
  ((dd = none ∧ ∀ dx, dx ≠ a → H2 dx = none → D.nx σ (upd (upd H2 dx (.ext (XD dx [(f, y)]))) a (.ext (ExcN a (.ref C) (some dx))))) ∨
   ∃ dx fs, dd = some dx ∧ H2 dx = some (.ext (XD dx fs)) ∧ fs.length < 50 ∧ D.nx σ (upd H2 dx (.ext (XD dx (putF f y fs)))))
section
variable {X:Cx} {o value:Expr} {f:Str} {pos pos':Pos} {ta tv:TE}
theorem qs_fldX (ha:QE X o ta) (hv:QE X value tv) (hs:swapsWith value (some (.Attribute o f pos')) pos.line X.env=pure false):QS X (.Assign [.Attribute o f pos'] value pos) (sFldX X.K ta tv f):=⟨by
 intro pins s σ H D I h
 refine plainObj_wpAny_Assign_Attribute (thn (hv.out pins s σ H _ I h) fun u s1 ⟨y,H1,I1,ry,q⟩=>thn (ha.out pins s1 σ H1 _ I1 q) fun ov s2 ⟨x,H2,I2,rx,a,C,dd,ex,ea,T,hn,q2⟩=>?_) hs
 subst ex
 obtain rfl:ov=Value.ref a:=rx
 obtain ⟨⟨oe,vs,he,h1,h2,h3,h4,h42,h5⟩,_⟩:=I2.hok a _ ea
 obtain ⟨oc,od,oda,osl⟩:=oe
 dsimp only at h1 h2 h3
 subst h1 h2 h3
 have hk:X.K.In s2.heap:=I2.kIn
 obtain ⟨hh,g,d,t,os⟩:=s2
 rcases q2 with ⟨rfl,q2⟩ | ⟨dx,fs,rfl,hdx,hl,q2⟩
 ·refine setX_open hk T hn (od:=none) ⟨he,rfl,rfl,True.intro⟩ (storeX_new hk T he fun h' t' n' e' k'=>?_)
  have xs:a≠hh.objs.size:=Nat.ne_of_lt (Heap.lt_size he)
  have nN:H2 hh.objs.size=none:=I2.hok.fresh (Nat.le_refl _)
  have na:∀ b,H2 b=none→b≠a:=fun b n z=>by rw [z,ea] at n;cases n
  have ne:∀ b w,H2 b=some w→(∀ φ,w≠.ext φ)→b≠a∧b≠hh.objs.size:=fun b w e n=>⟨fun z=>by rw [z,ea] at e;cases e;exact n _ rfl,fun z=>by rw [z,nN] at e;cases e⟩
  have up:∀ b,b≠a→b≠hh.objs.size→upd (upd H2 hh.objs.size (.ext (XD hh.objs.size [(f,y)]))) a (.ext (ExcN a (.ref C) (some hh.objs.size))) b=H2 b:=fun b n1 n2=>by rw [upd_ne n1,upd_ne n2]
  have lt:∀ b o,hh.get? b=some o→b≠hh.objs.size:=fun b o z=>Nat.ne_of_lt (Heap.lt_size z)
  have hD:XD hh.objs.size [(f,y)] h':=⟨_,n',fun g'=>by
    show RelO (List.lookup g' [(f,y)]) (if g'=f then some u else none)
    by_cases q:g'=f
    ·rw [if_pos q,q];simp only [List.lookup,beq_self_eq_true];exact ry
    ·rw [if_neg q]
     have:(g' == f)=false:=beq_false_of_ne q
     simp only [List.lookup,this];trivial,fun g' hg=>by
    by_cases q:g'=f
    ·rw [q];simp
    ·exact absurd (show (if g'=f then some u else none)=none by rw [if_neg q]) hg,by show 1≤50;decide⟩
  have I3:Inv X pins σ (upd (upd H2 hh.objs.size (.ext (XD hh.objs.size [(f,y)]))) a (.ext (ExcN a (.ref C) (some hh.objs.size)))) ⟨h',g,d,t',os⟩:=I2.un (t':=t')
   ⟨fun b o z n _ _=>k' b o (na b n) z,fun b o z n _ _=>⟨o.slots,k' b o (na b n) z⟩,fun b o z n _=>(up b (na b n) (lt b o z)).trans n,fun b o z _=>by
    by_cases hb:b=a
    ·exact ⟨_,by rw [hb];exact e'⟩
    ·exact ⟨o,k' b o hb z⟩,fun b xs e=>by
    obtain ⟨n1,n2⟩:=ne b _ e fun φ=>by simp
    exact (up b n1 n2).trans e,fun b o xs e=>by
    obtain ⟨n1,n2⟩:=ne b _ e fun φ=>by simp
    exact (up b n1 n2).trans e,fun b ps e=>by
    obtain ⟨n1,n2⟩:=ne b _ e fun φ=>by simp
    exact ⟨#[],by rw [up b n1 n2,e];simp⟩⟩ fun b o e=>by
   by_cases hb:b=a
   ·subst hb
    rw [upd_same] at e
    cases e
    exact ExcN.ok ⟨_,_,e',rfl,rfl,rfl,h4,h42,fun z=>xs (Option.some.inj z).symm⟩
   ·rw [upd_ne hb] at e
    by_cases hn:b=hh.objs.size
    ·subst hn
     rw [upd_same] at e
     cases e
     exact hD.ok
    ·rw [upd_ne hn] at e
     refine (I2.hok b o e).stay (fun c w hc z=>k' c w (fun y=>?_) z) (fun c r=>?_) fun c xs r=>?_
     ·rcases hc with hc | hc
      ·exact hb (hc.symm.trans y)
      ·rw [y,ea] at hc;cases hc
     ·obtain ⟨n1,n2⟩:=ne c _ r fun φ=>by simp
      exact (up c n1 n2).trans r
     ·obtain ⟨n1,n2⟩:=ne c _ r fun φ=>by simp
      exact (up c n1 n2).trans r
  exact ⟨σ,_,I3,q2 _ xs.symm nN⟩
 ·obtain ⟨⟨mA,nA,rA,wA,lA⟩,⟨od,hod⟩,_⟩:=I2.hok dx _ hdx
  refine setX_open hk T hn (od:=some od) ⟨he,rfl,rfl,hod⟩ (storeX_more (ns:=fs.map (·.1)) hk T he nA wA (by rw [List.length_map];omega) fun h' t' n' k'=>?_)
  have I3:Inv X pins σ (upd H2 dx (.ext (XD dx (putF f y fs)))) ⟨h',g,d,t',os⟩:=I2.write (t':=t') (e:=dx) (by rw [hdx];trivial) (.inl rfl) (fun b o n z=>k' b o n z) (let ⟨o,_,_,e,_⟩:=n';⟨o,e⟩)
   (XD.ok ⟨_,n',fun g'=>?_,fun g' hg=>?_,?_⟩)
  ·exact ⟨σ,_,I3,q2⟩
  ·show RelO ((putF f y fs).lookup g') (if g'=f then some u else mA g')
   rw [lookup_putF]
   by_cases q:g'=f
   ·rw [if_pos q,if_pos q];exact ry
   ·rw [if_neg q,if_neg q];exact rA g'
  ·by_cases q:g'=f
   ·rw [q];exact (keys_putF f y fs).1
   ·refine (keys_putF f y fs).2 g' (wA g' fun z=>hg ?_)
    show (if g'=f then some u else mA g')=none
    rw [if_neg q];exact z
  ·have:=length_putF f y fs;omega⟩
end
structure InitOf (K:Frag) (R:Addr):Prop where
 ga:specialIn K (.ref R) "__getattribute__"=some (some (.builtin "type.__getattribute__"))
 rd:readsIn K R (.type "type")=true
 fc:findCls K (.ref R) (.type "type") "__init__"=some (.val (.builtin "ValueError.__init__"))
def tExcInit (K:Frag) (t:TA):TE:=fun σ H Q=>t σ H fun vs H1=>∃ a C f dd rest,vs=.ref a :: rest∧H1 a=some (.ext (ExcN a (.ref C) dd))∧iniIn K C f=true∧rest.length≤sizeLine∧Q .non H1
section
variable {X:Cx} {R:Addr} {x:Str} {np apos pos:Pos} {e:Expr} {es:List Expr} {t:TA}
theorem qe_excInit {pl:Sem Bool} (hg:Gl X x) (hm:X.mg x=some (.ref R)) (F:InitOf X.K R) (ha:QA X (e :: es) t) (hdb:(x == ("__debug__":Str))=false:=by decide)
  (hs:starEach (e :: es) X.env=(false,eval e X.env) :: starEach es X.env:=by rfl) (hpl:(backTo pos (starEach es X.env)).any (·.1)=false:=by rfl)
  (ht:eval (.Call (.Attribute (.Name x np) "__init__" apos) (e :: es) [] pos) X.env=(do
   let ov ← eval (.Name x np) X.env
   standAt apos.atName
   let (f,first) ← holding [ov] (getMethod ov "__init__" pl)
   callWith pos f first (backTo pos (starEach (e :: es) X.env)) (backToKw pos (keywordEach [] X.env))):=by rfl) :
  QE X (.Call (.Attribute (.Name x np) "__init__" apos) (e :: es) [] pos) (tExcInit X.K t):=⟨by
 intro pins s σ H Q I h
 refine methodCall_KW (pl:=pl) (ld_glob I hg hm ?_ hdb) ht
 refine method_cls I.kIn F.ga (cls_value I.kIn F.rd F.fc rfl ?_)
 have I0:=I.tok (s.toks + 1)
 refine PyProof.Rows.callWith_builtin1 (thn (ha.out pos pins _ σ H _ I0 h) fun us s1 ⟨vs,H1,I1,r1,a,C,f,dd,rest,ev,hE,hC,hz,q⟩=>?_) hs hpl
 subst ev
 obtain ⟨bm,N,nm,qn,bs,sn,sub,ab,col,dd',k0,k1,k2,k3,k5,mN,cC,cN,ci,T⟩:=ini_obj I1.kIn hC
 obtain ⟨⟨oe,ws,he,h1,h2,h3,h4,h42,h5⟩,_⟩:=I1.hok a _ hE
 obtain ⟨u,us',rfl,ra,rr⟩:∃ u us',us=u :: us'∧RelV (.ref a) u∧Vals rest us':=by
  cases r1 with
  | cons ra rr=>exact ⟨_,_,rfl,ra,rr⟩
 obtain rfl:u=Value.ref a:=ra
 obtain ⟨hh,g,d,tk,os⟩:=s1
 have hsz:0 < ws.size:=Nat.lt_of_le_of_lt (Nat.zero_le 1) (Array.getElem?_eq_some_iff.mp h4).1
 refine init_call T cC he h1 h3 hsz (by rw [← rr.length];exact hz) ?_
 have e1:(hh.push (newArgs us')).get? a=some oe:=Heap.get?_push_of_some _ he
 have I2:Inv X pins σ H1 ⟨hh.push (newArgs us'),g,d,tk,os⟩:=I1.kept (t':=tk) fun b u z=>Heap.get?_push_of_some _ z
 have dd2:=Obj.data_mapFields h3 (·.setIfInBounds 0 (Value.ref hh.objs.size))
 have e2:((hh.push (newArgs us')).update a (Obj.mapFields (·.setIfInBounds 0 (.ref hh.objs.size)))).get? a=some (oe.mapFields (·.setIfInBounds 0 (.ref hh.objs.size))):=Heap.get?_update_self _ e1 (Obj.isFreed_of_fields dd2)
 have I3:Inv X pins σ (upd H1 a (.ext (ExcN a (.ref C) dd))) ⟨(hh.push (newArgs us')).update a (Obj.mapFields (·.setIfInBounds 0 (.ref hh.objs.size))),g,d,tk,os⟩:=I2.write (t':=tk) (e:=a) (by rw [hE];trivial) (.inl rfl)
  (fun b u n z=>(Heap.get?_update_other _ _ (Ne.symm n)).trans z) ⟨_,e2⟩ (ExcN.ok ⟨_,_,e2,(Obj.cls_mapFields _ _).trans h1,(dict_mapF _ _).trans h2,dd2,by rw [Array.getElem?_setIfInBounds_ne (by decide)];exact h4,by rw [Array.getElem?_setIfInBounds_ne (by decide)];exact h42,h5⟩)
 rw [show upd H1 a (.ext (ExcN a (.ref C) dd))=H1 from funext fun b=>by
  by_cases hb:b=a
  ·rw [hb,upd_same,hE]
  ·rw [upd_ne hb]] at I3
 exact ⟨.non,H1,I3,rfl,q⟩⟩
end
def tFldX (K:Frag) (ta:TE) (f:Str):TE:=fun σ H Q=>ta σ H fun x H1=>∃ a C dx fs v,x=.ref a∧H1 a=some (.ext (ExcO a (.ref C) (some dx)))∧H1 dx=some (.ext (XD dx fs))∧ExcIs K C∧hasDictIn K C=true∧findIn K (.ref C) f=some none∧fs.lookup f=some v∧Q v H1
section
variable {prog:Program} {w:World} {A:Around} {E:Value→Shared→Prop} {s:Shared} {K:Frag} {x C:Addr} {ox:Obj} {od:Obj} {name:Str} {v:Value}
theorem getX_entry {tk:Tok} {Q:Fin→Shared→Prop} (X:K.In s.heap) (I:InstAt s.heap x ox C (some od)) (hf:findObj K C (some od) name=some (.value v)) (h:Q (.done (.ret v)) s) :
  wpAny (model prog w) A (Builtin.«object.__getattribute__» ⟨[.ref x,.str name tk],[]⟩) Q E s:=by
 obtain ⟨hh,g,d,t,os⟩:=s
 have L0:=I.type (M:=model prog w)
 have L1:=looks_find (M:=model prog w) X I hf
 unfold Builtin.«object.__getattribute__»
 repeat (first | lk)
 exact h
theorem getX {expr:Bool} {Q:Value→Shared→Prop} (T:ExcIs K C) (X:K.In s.heap) (I:InstAt s.heap x ox C (some od)) (hf:findObj K C (some od) name=some (.value v)) (hv:handedIn v=true) (h:Q v { s with toks:=s.toks + 1 }) :
  wpAny (model prog w) A (getAttr (.ref x) name expr) Q E s:=by
 obtain ⟨hh,g,d,t,os⟩:=s
 have L0:=I.type (M:=model prog w)
 have L1:=looks_findIn (M:=model prog w) X T.ga
 have L2:=looks_findIn (M:=model prog w) X T.gx
 unfold getAttr getAttrBy
 refine wpAny_bind (wpAny_mkText (wpAny_holding (wpAny_bind (L0.at (wpAny_bind (L1.at ?_))))))
 show wpAny _ _ (getAttrByItsOwn _ _ _ _ _ _) _ _ _
 unfold getAttrByItsOwn hookBefore
 rw [if_pos (show onTheHeap (Value.ref C)=true from rfl)]
 refine wpAny_bind (L2.at (wpAny_bind (wpAny_attempt (wpAny_holding ?_))))
 unfold callGetattribute boundAndCalled
 rw [if_neg (by simp [onTheHeap])]
 have f3:=PySem.F.excAttr_ValueError.ga.bind (.ref x)
 rw [f3]
 refine wpAny_bind (wpAny_pure ?_)
 refine wpAny_call (codeAny_call_builtin PySem.F.excAttr_ValueError.ga.plain F.entry_bexc_ga ?_)
 have hk:builtinKind "BaseException.__getattribute__"=some .slot:=by decide +kernel
 have hsp:splitId "BaseException.__getattribute__"=some ("BaseException","__getattribute__"):=by decide +kernel
 have Lb:=looks_mroIn (M:=model prog w) X T.hb
 have hargs:=F.args_bexc_ga (.ref x) (.str name t)
 simp only [checkBuiltinCall,hk,hsp]
 refine wpAny_bind ?_
 unfold isInstance
 refine wpAny_bind (L0.at (Lb.at ?_))
 repeat (first | refine getX_entry (x:=x) X I hf ?_ | assumption | wp_step)
 exact handed_on hv h
end
section
variable {X:Cx} {e:Expr} {f:Str} {pos:Pos} {ta:TE}
theorem qe_fldX (he:QE X e ta) (hb:attributeBase e f X.env (eval e X.env)=eval e X.env):QE X (.Attribute e f pos) (tFldX X.K ta f):=⟨by
 intro pins s σ H Q I h
 refine attr_of hb (thn (he.out pins s σ H _ I h) fun u s1 ⟨x,H1,I1,rx,a,C,dx,fs,v,ex,ea,ed,T,hd,hn,hl,q⟩=>?_)
 subst ex
 obtain rfl:u=Value.ref a:=rx
 obtain ⟨⟨oe,vs,e1,e2,e3,e4,_⟩,_⟩:=I1.hok a _ ea
 obtain ⟨⟨mA,nA,rA,wA,lA⟩,_⟩:=I1.hok dx _ ed
 obtain ⟨od,ho,hlk⟩:=lookIn_ns nA
 obtain ⟨u,hu,ru⟩:=RelO.some_of (v:=v) (o:=mA f) (by rw [← hl];exact rA f)
 have J:InstAt s1.heap a oe C (some od):=⟨e1,e2,by unfold notCls;rw [e4],by rw [e3];exact ho⟩
 exact getX T I1.kIn J (findObj_own hd hn rfl (by rw [hlk,hu])) (handed_of ru) ⟨v,H1,I1.tok _,ru,q⟩⟩
end
section
variable {X:Cx} {e:Expr} {f:Str} {pos:Pos} {ta:TE}
end
theorem drop_new {H:Hp} {a dx:Addr} {o p q:HO} (na:H a=none) (ne:dx≠a) (nd:upd H a o dx=none):Same H (drop (upd (upd (upd H a o) dx p) a q) a)∧drop (upd (upd (upd H a o) dx p) a q) a dx=some p:=by
 rw [upd_ne ne] at nd
 refine ⟨fun b u e=>?_,?_⟩
 ·have h1:b≠a:=ne_of_none e na
  have h2:b≠dx:=ne_of_none e nd
  rw [drop_ne h1,upd_ne h1,upd_ne h2,upd_ne h1];exact e
 ·rw [drop_ne ne,upd_ne ne,upd_same]
structure XCls (K:Frag) (mg:Str→Option Value) (name:Str) (C f:Addr) (fs:List Str):Prop where
 mgC:mg name=some (.ref C)
 M:MkX K C f
 T:ErrCls K C
 is:ExcIs K C
 hd:hasDictIn K C=true
 no:∀ g∈fs,findIn K (.ref C) g=some none
def spIni1 (C:Addr) (nm:Str):Sp:=fun vs H Q _=>∃ (a:Addr) (v:V),vs=[.ref a,v]∧H a=some (.ext (ExcN a (.ref C) none))∧∀ dx,dx≠a→H dx=none→Q .non (upd (upd H dx (.ext (XD dx [(nm,v)]))) a (.ext (ExcN a (.ref C) (some dx))))
def spIni2 (C:Addr) (n1 n2:Str):Sp:=fun vs H Q _=>∃ (a:Addr) (v w:V),vs=[.ref a,v,w]∧H a=some (.ext (ExcN a (.ref C) none))∧∀ dx,dx≠a→H dx=none→Q .non (upd (upd (upd H dx (.ext (XD dx [(n1,v)]))) a (.ext (ExcN a (.ref C) (some dx)))) dx (.ext (XD dx (putF n2 w [(n1,v)]))))
end L2
end
section
set_option Elab.async false
set_option linter.all false
set_option maxRecDepth 100000
set_option maxHeartbeats 2000000
namespace L2
open PySem PySem.Spec PyProof.Rows PySem.W
section
variable {prog:Program} {w:World} {A:Around} {E:Value→Shared→Prop} {s:Shared}
end
section
variable {X:Cx}
end
section
variable {X:Cx}
end
end L2
end
section
set_option Elab.async false
set_option linter.all false
set_option maxRecDepth 100000
set_option maxHeartbeats 2000000
namespace L2
open PySem PySem.Spec PyProof.Rows PySem.W
section
variable {X:Cx} {C f:Addr} {m:Str} {k:Nat} {fd:FuncData} {ps:List Str} {sp:Sp} {E:XK} {S:St→Prop} {o e:Expr} {es:List Expr} {ta:TE} {t:TA} {apos pos:Pos}
end
def isT:Value→Bool
 | .bool b=>b
 | _=>false
section
variable {X:Cx}
theorem isT_vals:∀ {bs:List Bool} {its:List Value},Vals (bs.map V.bl) its→its.map isT=bs
 | [],_,.nil=>rfl
 | b :: bs,_,.cons r t=>by
  cases r
  rw [List.map_cons,isT_vals t];rfl
theorem bool_at {bs:List Bool} {its:List Value} (r:Vals (bs.map V.bl) its) {A:Around} {s:Shared}:∀ y∈its.toArray,SeqAt.EqAt A s y (.bool true) (isT y):=fun y hy=>by
 obtain ⟨m,hm,rfl⟩:=Array.mem_iff_getElem.mp hy
 have hl:=r.length
 have hm':m < bs.length:=by simp at hm hl;omega
 obtain ⟨u1,e1,s1⟩:=r.get (i:=m) (x:=.bl bs[m]) (by simp [hm'])
 cases s1
 have e2:its.toArray[m]=.bool bs[m]:=by
  rw [List.getElem?_eq_getElem (by simpa using hm)] at e1
  simpa using e1
 rw [e2]
 have:=SeqAt.EqAt.bool_bool (A:=A) (s:=s) bs[m] true
 cases z:bs[m] <;> (rw [z] at this;exact this)
def rIndexB:V→List V→Hp→VK→Prop:=fun x vs H Q=>∃ (l:Addr) (bs:List Bool) (j:Nat),x=.ref l∧vs=[.bl true]∧H l=some (.lst (bs.map V.bl))∧bs[j]?=some true∧(∀ m,m < j→bs[m]?=some false)∧bs.length≤1000∧Q (.int j) H
theorem mt_indexB:MtM X "list.index" rIndexB:=by
 intro pins s σ H x vs v us Q I rx rv h
 obtain ⟨l,bs,j,rfl,rfl,hH,hj,hno,hz,q⟩:=h
 cases rx
 obtain ⟨u,rfl,ru⟩:=rv.one
 cases ru
 obtain ⟨z,its,n,r,hl,e⟩:=I.lstM hH
 have em:=isT_vals r
 have hlen:its.length=bs.length:=by rw [← em,List.length_map]
 have hjb:j < bs.length:=(List.getElem?_eq_some_iff.mp hj).1
 have at_:∀ m (hm:m < its.toArray.size),bs[m]?=some (isT its.toArray[m]):=fun m hm=>by
  have hm':m < its.length:=by simpa using hm
  rw [← em,List.getElem?_map,List.getElem?_eq_getElem hm'];simp
 refine call_meets F.slot_list_index ⟨_,e,rfl⟩ F.entry_list_index (F.args_list_index_2 _ _) (SeqAt.list_indexAt l its.toArray n _ _ (.bool true) isT j (by simp;omega) (by omega) ?_ ?_) ⟨e,bool_at r,?_⟩
 ·have:=at_ j (by simp;omega)
  rw [hj] at this
  exact (Option.some.inj this).symm
 ·intro m hm hlt
  have:=at_ m hm
  rw [hno m hlt] at this
  exact (Option.some.inj this).symm
 ·exact ⟨.int j,H,I.tok _,⟨s.toks,rfl⟩,q⟩
end
end L2
end
section
set_option Elab.async false
set_option linter.all false
set_option maxRecDepth 100000
set_option maxHeartbeats 2000000
namespace L2
open PySem PySem.Spec PyProof.Rows PySem.W
section
variable {prog:Program} {w:World} {A:Around} {E:Value→Shared→Prop} {s:Shared} {z ti to u v a b:Addr} {i:Nat} {f g:Array Value} {x y m n:Value}
theorem zipL_item {Q:Value→Shared→Prop} (D:ZA z ti to u v a b) (hz:IsZip s.heap z ti to .none) (hi:IsPair s.heap ti (.ref u) (.ref v)) (ho:IsPair s.heap to m n)
  (hu:s.heap.IsListIter u a i) (hv:s.heap.IsListIter v b i) (ha:s.heap.IsList a f) (hb:s.heap.IsList b g) (hx:f[i]?=some x) (hy:g[i]?=some y)
  (q:∀ h',IsZip h' z ti to (rawInt s.heap.objs.size)→IsPair h' to x y→h'.IsListIter u a (i + 1)→h'.IsListIter v b (i + 1)→IsPair h' s.heap.objs.size x y→
   (∀ c o,c≠z→c≠to→c≠u→c≠v→s.heap.get? c=some o→h'.get? c=some o)→Q (.ref s.heap.objs.size) { s with heap:=h' }) :
  wpAny (model prog w) A (Builtin.«zip.__next__» ⟨[.ref z],[]⟩) (fun fin s'=>∃ r,fin=.done (.ret r)∧Q r s') E s:=by
 show wpAny _ _ (field (.ref z) 2 >>= _) _ _ _
 refine wpAny_bind (wpAny_field hz rfl (x:=.bool false) rfl ?_)
 show wpAny _ _ (field (.ref z) 3 >>= _) _ _ _
 refine wpAny_bind (wpAny_field hz rfl (x:=.ref ti) rfl (wpAny_bind (wpAny_seqItems hi rfl ?_)))
 show wpAny _ _ (Builtin.SmallTypes.ownedTupleIsFree (.ref z) >>= _) _ _ _
 refine wpAny_bind ?_
 unfold Builtin.SmallTypes.ownedTupleIsFree
 refine wpAny_bind (wpAny_field hz rfl (x:=.none) rfl (wpAny_pure ?_))
 simp only [if_true]
 refine wpAny_bind (wpAny_rule (wpAny_bind (wpAny_field hz rfl (x:=.ref to) rfl (wpAny_bind (wpAny_setField_rec hz (by simp) fun g1 z1 k1=>?_)))))
 replace z1:IsZip g1 z ti to .ellipsis:=z1
 refine wpAny_bind ?_
 simp only [List.zipIdx_cons,List.zipIdx_nil,List.forIn_cons,List.forIn_nil]
 refine wpAny_bind (wpAny_bind (wpAny_onRaise ?_))
 show wpAny _ _ (Builtin.SmallTypes.nextOf (.ref u) >>= _) _ _ _
 refine wpAny_bind (wpAny_nextOf_list_item (hu.at fun o e=>k1.extBut _ o D.q3 e) (Heap.IsList.at ha fun o e=>k1.extBut _ o D.p2 e) hx fun g2 u2 k2=>wpAny_pure ?_)
 have o2:IsPair g2 to m n:=k2.extBut _ _ D.q8 (k1.extBut _ _ D.q2 ho)
 refine wpAny_bind (wpAny_seqItems o2 rfl (wpAny_bind (wpAny_updateSeq_pair o2 fun g3 o3 k3=>?_)))
 replace o3:IsPair g3 to x n:=o3
 refine wpAny_bind (wpAny_letGo (wpAny_pure ?_))
 refine wpAny_bind (wpAny_bind (wpAny_onRaise ?_))
 show wpAny _ _ (Builtin.SmallTypes.nextOf (.ref v) >>= _) _ _ _
 refine wpAny_bind (wpAny_nextOf_list_item (hv.at fun o e=>k3.extBut _ o D.q9.symm (k2.extBut _ o D.p1.symm (k1.extBut _ o D.q4 e))) (Heap.IsList.at hb fun o e=>k3.extBut _ o D.p7 (k2.extBut _ o D.p8 (k1.extBut _ o D.p6 e))) hy fun g4 v4 k4=>wpAny_pure ?_)
 have o4:IsPair g4 to x n:=k4.extBut _ _ D.q9 o3
 refine wpAny_bind (wpAny_seqItems o4 rfl (wpAny_bind (wpAny_updateSeq_pair o4 fun g5 o5 k5=>?_)))
 replace o5:IsPair g5 to x y:=o5
 refine wpAny_bind (wpAny_letGo (wpAny_pure (wpAny_pure ?_)))
 refine wpAny_bind (wpAny_seqItems o5 rfl (wpAny_bind (wpAny_newTuple ?_)))
 have sz:g5.objs.size=s.heap.objs.size:=by rw [k5.1,k4.1,k3.1,k2.1,k1.1]
 have z5:IsZip g5 z ti to .ellipsis:=k5.extBut _ _ D.q2.symm (k4.extBut _ _ D.q4.symm (k3.extBut _ _ D.q2.symm (k2.extBut _ _ D.q3.symm z1)))
 have kk:∀ c o,c≠z→c≠to→c≠u→c≠v→s.heap.get? c=some o→g5.get? c=some o:=fun c o c1 c2 c3 c4 e=>k5.extBut _ _ c2 (k4.extBut _ _ c4 (k3.extBut _ _ c2 (k2.extBut _ _ c3 (k1.extBut _ _ c1 e))))
 have u5:g5.IsListIter u a (i + 1):=u2.at fun o e=>k5.extBut _ o D.q8.symm (k4.extBut _ o D.p1 (k3.extBut _ o D.q8.symm e))
 have v5:g5.IsListIter v b (i + 1):=v4.at fun o e=>k5.extBut _ o D.q9.symm e
 have lz:z < g5.objs.size:=Heap.lt_size z5
 show wpAny _ _ (Builtin.SmallTypes.ownedTupleHandOut (.ref z) (.ref g5.objs.size) >>= _) _ _ _
 refine wpAny_bind ?_
 unfold Builtin.SmallTypes.ownedTupleHandOut
 have z6:IsZip (g5.push { cls:=.type "tuple",data:=.seq #[x,y] }) z ti to .ellipsis:=Heap.get?_push_of_some _ z5
 refine wpAny_bind (wpAny_setField_rec z6 (by simp) fun g7 z7 k7=>?_)
 replace z7:IsZip g7 z ti to (rawInt g5.objs.size):=z7
 refine wpAny_setField_rec z7 (by simp) fun g8 z8 k8=>?_
 replace z8:IsZip g8 z ti to (rawInt g5.objs.size):=z8
 have up:∀ c o,c≠z→g5.get? c=some o→g8.get? c=some o:=fun c o c1 e=>k8.extBut _ _ c1 (k7.extBut _ _ c1 (Heap.get?_push_of_some _ e))
 have t8:IsPair g8 g5.objs.size x y:=k8.extBut _ _ (Nat.ne_of_gt lz) (k7.extBut _ _ (Nat.ne_of_gt lz) (Heap.get?_push_size _ rfl))
 rw [sz] at z8 t8
 refine wpAny_pure ⟨_,rfl,?_⟩
 show Q (.ref g5.objs.size) _
 rw [sz]
 exact q g8 z8 (up _ _ D.q2 o5) (u5.at fun o e=>up _ o D.q3 e) (v5.at fun o e=>up _ o D.q4 e) t8 fun c o c1 c2 c3 c4 e=>up c o c1 (kk c o c1 c2 c3 c4 e)
theorem zipL_end {Q:Fin→Shared→Prop} (hh:A.handled=none) (D:ZA z ti to u v a b) (hz:IsZip s.heap z ti to .none) (hi:IsPair s.heap ti (.ref u) (.ref v)) (ho:IsPair s.heap to m n)
  (hu:s.heap.IsListIter u a i) (hv:s.heap.IsListIter v b i) (ha:s.heap.IsList a f) (hb:s.heap.IsList b g) (hx:f[i]?=some x) (hy:g[i]?=none)
  (q:∀ h' e,(∀ c o,c≠z→c≠to→c≠u→c≠v→s.heap.get? c=some o→h'.get? c=some o)→(∃ o,h'.get? e=some o∧o.cls=.type "StopIteration")→E (.ref e) { s with heap:=h' }) :
  wpAny (model prog w) A (Builtin.«zip.__next__» ⟨[.ref z],[]⟩) Q E s:=by
 show wpAny _ _ (field (.ref z) 2 >>= _) _ _ _
 refine wpAny_bind (wpAny_field hz rfl (x:=.bool false) rfl ?_)
 show wpAny _ _ (field (.ref z) 3 >>= _) _ _ _
 refine wpAny_bind (wpAny_field hz rfl (x:=.ref ti) rfl (wpAny_bind (wpAny_seqItems hi rfl ?_)))
 show wpAny _ _ (Builtin.SmallTypes.ownedTupleIsFree (.ref z) >>= _) _ _ _
 refine wpAny_bind ?_
 unfold Builtin.SmallTypes.ownedTupleIsFree
 refine wpAny_bind (wpAny_field hz rfl (x:=.none) rfl (wpAny_pure ?_))
 simp only [if_true]
 refine wpAny_bind (wpAny_rule (wpAny_bind (wpAny_field hz rfl (x:=.ref to) rfl (wpAny_bind (wpAny_setField_rec hz (by simp) fun g1 z1 k1=>?_)))))
 replace z1:IsZip g1 z ti to .ellipsis:=z1
 refine wpAny_bind ?_
 simp only [List.zipIdx_cons,List.zipIdx_nil,List.forIn_cons,List.forIn_nil]
 refine wpAny_bind (wpAny_bind (wpAny_onRaise ?_))
 show wpAny _ _ (Builtin.SmallTypes.nextOf (.ref u) >>= _) _ _ _
 refine wpAny_bind (wpAny_nextOf_list_item (hu.at fun o e=>k1.extBut _ o D.q3 e) (Heap.IsList.at ha fun o e=>k1.extBut _ o D.p2 e) hx fun g2 u2 k2=>wpAny_pure ?_)
 have o2:IsPair g2 to m n:=k2.extBut _ _ D.q8 (k1.extBut _ _ D.q2 ho)
 refine wpAny_bind (wpAny_seqItems o2 rfl (wpAny_bind (wpAny_updateSeq_pair o2 fun g3 o3 k3=>?_)))
 replace o3:IsPair g3 to x n:=o3
 refine wpAny_bind (wpAny_letGo (wpAny_pure ?_))
 refine wpAny_bind (wpAny_bind (wpAny_onRaise ?_))
 show wpAny _ _ (Builtin.SmallTypes.nextOf (.ref v) >>= _) _ _ _
 refine wpAny_bind (wpAny_nextOf_list_end hh (hv.at fun o e=>k3.extBut _ o D.q9.symm (k2.extBut _ o D.p1.symm (k1.extBut _ o D.q4 e))) (Heap.IsList.at hb fun o e=>k3.extBut _ o D.p7 (k2.extBut _ o D.p8 (k1.extBut _ o D.p6 e))) hy fun g4 e k4 he=>?_)
 obtain ⟨oe,e1,e2⟩:=he
 have z2:IsZip g4 z ti to .ellipsis:=k4 _ _ D.q4.symm (k3.extBut _ _ D.q2.symm (k2.extBut _ _ D.q3.symm z1))
 have ez:e≠z:=fun t=>by subst t;rw [z2] at e1;cases e1;simp at e2
 exact wpAny_setField_rec z2 (by simp) fun g5 _ k5=>q g5 e (fun c o c1 c2 c3 c4 t=>k5.extBut _ _ c1 (k4 _ _ c4 (k3.extBut _ _ c2 (k2.extBut _ _ c3 (k1.extBut _ _ c1 t))))) ⟨oe,k5.extBut _ _ ez e1,e2⟩
abbrev zl1 (h:Heap) (a:Addr):Heap:=h.push { cls:=.type "list_iterator",data:=.fields #[.ref a,.int 0 0] }
abbrev zl2 (h:Heap) (a b:Addr):Heap:=(zl1 h a).push { cls:=.type "list_iterator",data:=.fields #[.ref b,.int 0 0] }
abbrev zl3 (h:Heap) (a b:Addr):Heap:=(zl2 h a b).push { cls:=.type "tuple",data:=.seq #[.ref h.objs.size,.ref (zl1 h a).objs.size] }
abbrev zl4 (h:Heap) (a b:Addr):Heap:=(zl3 h a b).push { cls:=.type "tuple",data:=.seq #[.none,.none] }
abbrev zl5 (h:Heap) (a b:Addr):Heap:=(zl4 h a b).push { cls:=.type "zip",data:=.fields #[.none,.bool false,.bool false,.ref (zl2 h a b).objs.size,.ref (zl3 h a b).objs.size] }
theorem zipNewL (a b:Addr) (f g:Array Value):Meets (Builtin.«zip.__new__» ⟨[.type "zip",.ref a,.ref b],[]⟩) (fun _ R s=>s.heap.IsList a f∧s.heap.IsList b g∧R (.ok (.ret (.ref (zl4 s.heap a b).objs.size))) { s with heap:=zl5 s.heap a b }):=
 .of_wp fun prog w A R s h=>by
  obtain ⟨hp,gs,d,tk,os⟩:=s
  obtain ⟨h1,h2,h⟩:=h
  have hsub:=sub_zip
  have j1:Heap.IsList (Shared.heap ⟨hp,gs,d,tk,os⟩) a f:=h1
  have j2:Heap.IsList (Shared.heap ⟨hp.push { cls:=.type "list_iterator",data:=.fields #[.ref a,.int 0 0] },gs,d,tk,os⟩) b g:=Heap.IsList.at h2 fun o e=>Heap.get?_push_of_some _ e
  wp_walk using wpAny_pyIter_list j1,wpAny_pyIter_list j2
  exact ⟨_,rfl,h⟩
theorem zipL {Q:Value→Shared→Prop} (ha:s.heap.IsList a f) (hb:s.heap.IsList b g)
  (q:∀ h',IsZip h' (s.heap.objs.size + 4) (s.heap.objs.size + 2) (s.heap.objs.size + 3) .none→IsPair h' (s.heap.objs.size + 2) (.ref s.heap.objs.size) (.ref (s.heap.objs.size + 1))→IsPair h' (s.heap.objs.size + 3) .none .none→
   h'.IsListIter s.heap.objs.size a 0→h'.IsListIter (s.heap.objs.size + 1) b 0→(∀ c o,s.heap.get? c=some o→h'.get? c=some o)→Q (.ref (s.heap.objs.size + 4)) { s with heap:=h' }) :
  wpAny (model prog w) A (call (.type "zip") [.ref a,.ref b]) Q E s:=by
 refine callType_new F.called_zip (by decide) (F.typeCall_zip_2 _ _) (F.newCall_zip_2 _ _) (fun obj=>F.args_object_init_3 obj _ _) F.entry_zip_new (zipNewL a b f g) ⟨ha,hb,?_⟩
 have n1:(zl1 s.heap a).objs.size=s.heap.objs.size + 1:=Heap.size_push ..
 have n2:(zl2 s.heap a b).objs.size=s.heap.objs.size + 2:=by rw [Heap.size_push,n1]
 have n3:(zl3 s.heap a b).objs.size=s.heap.objs.size + 3:=by rw [Heap.size_push,n2]
 have n4:(zl4 s.heap a b).objs.size=s.heap.objs.size + 4:=by rw [Heap.size_push,n3]
 have e5:(zl5 s.heap a b).get? (zl4 s.heap a b).objs.size=some _:=Heap.get?_push_size _ rfl
 have e4:(zl5 s.heap a b).get? (zl3 s.heap a b).objs.size=some _:=Heap.get?_push_of_some _ (Heap.get?_push_size _ rfl)
 have e3:(zl5 s.heap a b).get? (zl2 s.heap a b).objs.size=some _:=Heap.get?_push_of_some _ (Heap.get?_push_of_some _ (Heap.get?_push_size _ rfl))
 have e2:(zl5 s.heap a b).get? (zl1 s.heap a).objs.size=some _:=Heap.get?_push_of_some _ (Heap.get?_push_of_some _ (Heap.get?_push_of_some _ (Heap.get?_push_size _ rfl)))
 have e1:(zl5 s.heap a b).get? s.heap.objs.size=some _:=Heap.get?_push_of_some _ (Heap.get?_push_of_some _ (Heap.get?_push_of_some _ (Heap.get?_push_of_some _ (Heap.get?_push_size _ rfl))))
 show _∧_
 rw [n2,n3,n4] at e5
 rw [n1,n2] at e3
 rw [n3] at e4
 rw [n1] at e2
 rw [n4]
 exact ⟨⟨_,e5,rfl⟩,q _ e5 e3 e4 ⟨_,e1,rfl,rfl⟩ ⟨_,e2,rfl,rfl⟩ fun c o t=>Heap.get?_push_of_some _ (Heap.get?_push_of_some _ (Heap.get?_push_of_some _ (Heap.get?_push_of_some _ (Heap.get?_push_of_some _ t))))⟩
end
def ItZL (K:PySem.W.Frag) (a b:Addr):It:=
 ⟨fun i H=>∃ xs ys x y,SqL K H a xs∧SqL K H b ys∧xs[i]?=some x∧ys[i]?=some y,fun i H t H'=>∃ T x y,H T=none∧t=.ref T∧(∀ xs,SqL K H a xs→xs[i]?=some x)∧(∀ ys,SqL K H b ys→ys[i]?=some y)∧H'=upd H T (.tup [x,y]),fun i H=>∃ xs ys,SqL K H a xs∧SqL K H b ys∧i < xs.length∧ys.length≤i⟩
theorem turn_zipL {P:Program} {w:World} {K:PySem.W.Frag} {elts:List Expr} {x1:Nat} {pos:Pos} {z ti to u v a b:Addr} (D:ZA z ti to u v a b) :
  Turn P w K (.Tuple elts x1 pos) (ItZL K a b) [z,ti,to,u,v] z (fun i h=>IsZip h z ti to .none∧IsPair h ti (.ref u) (.ref v)∧(∃ m n,IsPair h to m n)∧h.IsListIter u a i∧h.IsListIter v b i) where
 mem:=by simp
 obj:=fun i h st c hc=>by
  obtain ⟨h1,h2,⟨m,n,h3⟩,⟨o4,h4,_,d4⟩,⟨o5,h5,_,d5⟩⟩:=st
  simp only [List.mem_cons,List.not_mem_nil,or_false] at hc
  rcases hc with e | e | e | e | e <;> subst e
  ·exact ⟨_,h1,fun v y=>by cases y⟩
  ·exact ⟨_,h2,fun v y=>by cases y⟩
  ·exact ⟨_,h3,fun v y=>by cases y⟩
  ·exact ⟨o4,h4,fun v y=>by rw [d4] at y;cases y⟩
  ·exact ⟨o5,h5,fun v y=>by rw [d5] at y;cases y⟩
 keep:=fun i h h' st k=>by
  obtain ⟨h1,h2,⟨m,n,h3⟩,h4,h5⟩:=st
  exact ⟨k z (by simp) _ h1,k ti (by simp) _ h2,⟨m,n,k to (by simp) _ h3⟩,h4.at fun o e=>k u (by simp) o e,h5.at fun o e=>k v (by simp) o e⟩
 item:=by
  intro X hP hw hK hc i pins s σ H E I hf st hg
  subst hP hw hK
  obtain ⟨h1,h2,⟨m,n,h3⟩,h4,h5⟩:=st
  obtain ⟨xs,ys,x,y,hxs,hys,hx,hy⟩:=hg
  obtain ⟨fs,rf,pf,_⟩:=I.list hxs
  obtain ⟨gs,rg,pg,_⟩:=I.list hys
  obtain ⟨p,ep,rp⟩:=rf.get hx
  obtain ⟨q,eq,rq⟩:=rg.get hy
  have lt:∀ c∈[z,ti,to,u,v],c < s.heap.objs.size:=fun c hc=>by
   simp only [List.mem_cons,List.not_mem_nil,or_false] at hc
   rcases hc with e | e | e | e | e <;> subst e
   ·exact Heap.lt_size h1
   ·exact Heap.lt_size h2
   ·exact Heap.lt_size h3
   ·obtain ⟨o,e,_⟩:=h4;exact Heap.lt_size e
   ·obtain ⟨o,e,_⟩:=h5;exact Heap.lt_size e
  have hT:s.TypeIs (.ref z) "zip":=⟨_,h1,rfl⟩
  unfold pyNext
  refine wpAny_bind (wpAny_attempt (wpAny_callSpecial?_slot (name:=Str.ofString "__next__") hT F.slot_zip_next (wpAny_call_entry F.slot_zip_next hT F.entry_zip_next ?_ (F.args_zip_next_1 _))))
  refine zipL_item D h1 h2 h3 h4 h5 (show s.heap.IsList a fs.toArray from pf.isList) (show s.heap.IsList b gs.toArray from pg.isList) (x:=p) (y:=q) (by simpa using ep) (by simpa using eq) fun h' k1 k2 k3 k4 k5 k6=>wpAny_pure ?_
  refine ⟨_,rfl,wpAny_letOwnedTupleGo_zip k1 fun h2' e2 sb=>?_⟩
  have up:∀ c o,c∉[z,ti,to,u,v]→s.heap.get? c=some o→h2'.get? c=some o:=fun c o hc e=>by
   simp only [List.mem_cons,List.not_mem_nil,or_false,not_or] at hc
   exact sb.extBut _ _ hc.1 (k6 c o hc.1 hc.2.2.1 hc.2.2.2.1 hc.2.2.2.2 e)
  have nz:s.heap.objs.size≠z:=Nat.ne_of_gt (lt z (by simp))
  obtain ⟨I3,fr⟩:=Inv.pairL (tk:=s.toks) I hf lt rp rq (sb.extBut _ _ nz k5) up
  exact ⟨.ref s.heap.objs.size,_,I3,rfl,⟨s.heap.objs.size,x,y,I.hok.fresh (Nat.le_refl _),rfl,fun zs hz=>by rw [I.list_inj hz hxs];exact hx,fun zs hz=>by rw [I.list_inj hz hys];exact hy,rfl⟩,
   ⟨e2,sb.extBut _ _ D.q1 (k6 _ _ D.q1 D.q5 D.q6 D.q7 h2),⟨_,_,sb.extBut _ _ D.q2 k2⟩,k3.at fun o e=>sb.extBut _ o D.q3 e,k4.at fun o e=>sb.extBut _ o D.q4 e⟩,fr⟩
 done:=by
  intro X hP hw hK hc i pins s σ H E I hf st hg
  subst hP hw hK
  obtain ⟨h1,h2,⟨m,n,h3⟩,h4,h5⟩:=st
  obtain ⟨xs,ys,hxs,hys,hx,hl⟩:=hg
  obtain ⟨fs,rf,pf,_⟩:=I.list hxs
  obtain ⟨gs,rg,pg,_⟩:=I.list hys
  have hlen:=rg.length
  obtain ⟨p,ep,rp⟩:=rf.get (List.getElem?_eq_getElem hx)
  have hh:X.A.in1.handled=none:=by simp [I.ok.hd hc]
  have hT:s.TypeIs (.ref z) "zip":=⟨_,h1,rfl⟩
  unfold pyNext
  refine wpAny_bind (wpAny_attempt (wpAny_callSpecial?_slot (name:=Str.ofString "__next__") hT F.slot_zip_next (wpAny_call_entry F.slot_zip_next hT F.entry_zip_next ?_ (F.args_zip_next_1 _))))
  refine zipL_end hh D h1 h2 h3 h4 h5 (show s.heap.IsList a fs.toArray from pf.isList) (show s.heap.IsList b gs.toArray from pg.isList) (x:=p) (by simpa using ep) (by simp;omega) fun h' e k ⟨o,e1,e2⟩=>?_
  refine wpAny_bind (wpAny_isInstance (T:="StopIteration") (b:=true) ⟨o,e1,e2⟩ isSubtype_stop ?_)
  refine wpAny_pure ⟨rfl,Inv.turnedL (fp:=[z,ti,to,u,v]) (t':=s.toks) I (fun c o hc e=>?_) hf⟩
  simp only [List.mem_cons,List.not_mem_nil,or_false,not_or] at hc
  exact k c o hc.1 hc.2.2.1 hc.2.2.2.1 hc.2.2.2.2 e
 self:=fun A i s Q E st h=>wpAny_pyIter_zip st.1 h
section
variable {X:Cx} {elts:List Expr} {x1:Nat} {tp:Pos}
def iZipL (K:PySem.W.Frag) (ta:TA):TI:=fun σ H R=>ta σ H fun vs H1=>∃ a b,vs=[.ref a,.ref b]∧(∃ xs,SqL K H1 a xs)∧(∃ ys,SqL K H1 b ys)∧R (ItZL K a b) H1
theorem qi_zipL {a b:Expr} {ta:TA} {p pos:Pos} (hg:Gl X "zip") (hm:X.mg "zip"=none) (ha:QA X [a,b] ta) (hs:starEach [a,b] X.env=[(false,eval a X.env),(false,eval b X.env)]:=by rfl) (hs2:starEach [b] X.env=[(false,eval b X.env)]:=by rfl) :
  QI X (.Tuple elts x1 tp) (.Call (.Name "zip" p) [a,b] [] pos) (iZipL X.K ta):=⟨by
 intro pins s σ H R I h
 refine Call_ (ld_blt I hg hm boot_zipX (PyProof.Rows.callWith_type1 (thn (ha.out pos pins s σ H _ I h) fun us s1 ⟨vs,H1,I1,r1,q1⟩=>?_) (by rw [hs,hs2]) (by rw [hs2];rfl)))
 obtain ⟨a,b,e,⟨xs,hxs⟩,⟨ys,hys⟩,q⟩:=q1
 subst e
 cases r1 with
 | cons r rr=>
  cases rr with
  | cons r' rr=>
   cases rr
   cases r
   cases r'
   obtain ⟨fs,rf,pf,_⟩:=I1.list hxs
   obtain ⟨gs,rg,pg,_⟩:=I1.list hys
   have la:a < s1.heap.objs.size:=by
    obtain ⟨o,ho,_⟩:=(show s1.heap.IsList a fs.toArray from pf.isList)
    exact Heap.lt_size ho
   have lb:b < s1.heap.objs.size:=by
    obtain ⟨o,ho,_⟩:=(show s1.heap.IsList b gs.toArray from pg.isList)
    exact Heap.lt_size ho
   refine zipL (show s1.heap.IsList a fs.toArray from pf.isList) (show s1.heap.IsList b gs.toArray from pg.isList) fun h' k1 k2 k3 k4 k5 kk=>wpAny_pyIter_zip k1 ?_
   have D:ZA (s1.heap.objs.size + 4) (s1.heap.objs.size + 2) (s1.heap.objs.size + 3) s1.heap.objs.size (s1.heap.objs.size + 1) a b:=by
    have key:∀ N a b:Nat,a < N→b < N→ZA (N + 4) (N + 2) (N + 3) N (N + 1) a b:=fun N a b la lb=>by constructor <;> (show (_:Nat)≠_) <;> omega
    exact key _ _ _ la lb
   refine ⟨s1.heap.objs.size + 4,[s1.heap.objs.size + 4,s1.heap.objs.size + 2,s1.heap.objs.size + 3,s1.heap.objs.size,s1.heap.objs.size + 1],_,_,H1,rfl,I1.kept (t':=s1.toks) kk,turn_zipL D,⟨k1,k2,⟨_,_,k3⟩,k4,k5⟩,fun c hc=>?_,q⟩
   have hc':s1.heap.objs.size≤c:=by
    simp only [List.mem_cons,List.not_mem_nil,or_false] at hc
    have key:∀ N c:Nat,(c=N + 4∨c=N + 2∨c=N + 3∨c=N∨c=N + 1)→N≤c:=fun N c h=>by omega
    exact key _ _ hc
   exact I1.fpOk hc' (I1.hok.fresh hc')⟩
end
theorem compZL {K:PySem.W.Frag} {a b:Addr} {xs ys:List V} {D:Addr} {f:St→St} {KT:PySem.W.Frag} {tt:TT} {te:TE} {σ:St} {H:Hp} {R:Hp→Prop} (hlen:xs.length=ys.length + 1) (Pv:Nat→List V→Hp→Prop) (h0:Pv 0 [] (upd H D (.lst [])))
  (hl:∀ i zs H,i≤ys.length→Pv i zs H→SqL K H a xs∧SqL K H b ys)
  (hs:∀ i x y zs H T,xs[i]?=some x→ys[i]?=some y→Pv i zs H→H T=none→TurnG ys.length i D (fun v H Q=>∃ a p q,v=.ref a∧SqT KT H a [p,q]∧Q [some p,some q]) f σ tt te (.ref T) (upd H T (.tup [x,y])) zs (Pv (i + 1)))
  (hd:∀ zs H,Pv ys.length zs H→R H) :
  ∃ W:Nat→Nat→List V→Hp→Prop,(∃ m,W 0 m [] (upd H D (.lst [])))∧
   ∀ i m zs H,W i m zs H→((ItZL K a b).stop i H∧R H)∨((ItZL K a b).go i H∧∀ x H',(ItZL K a b).yld i H x H'→∃ a p q,x=.ref a∧SqT KT H' a [p,q]∧(tt ([some p,some q] ++ f σ) H' fun b H2=>
    if b=true then te ([some p,some q] ++ f σ) H2 fun y H3=>H3 D=some (.lst zs)∧zs.length < sizeLine∧∃ m',m' < m∧W (i + 1) m' (zs ++ [y]) (upd H3 D (.lst (zs ++ [y])))
    else ∃ m',m' < m∧W (i + 1) m' zs H2)):=by
 refine ⟨fun i m zs H=>m=ys.length - i∧i≤ys.length∧Pv i zs H,⟨ys.length,by simp,Nat.zero_le _,h0⟩,?_⟩
 rintro i m zs H ⟨rfl,hi,p⟩
 obtain ⟨q1,q2⟩:=hl i zs H hi p
 by_cases hlt:i < ys.length
 ·refine .inr ⟨⟨xs,ys,xs[i],ys[i],q1,q2,by simp [show i < xs.length by omega],by simp [hlt]⟩,fun t H' y=>?_⟩
  obtain ⟨T,x,y,hT,rfl,hx,hy,rfl⟩:=y
  exact hs i x y zs H T (hx xs q1) (hy ys q2) p hT
 ·have e:i=ys.length:=by omega
  subst e
  exact .inl ⟨⟨xs,ys,q1,q2,by omega,Nat.le_refl _⟩,hd zs H p⟩
section
variable {prog:Program} {w:World} {A:Around} {E:Value→Shared→Prop} {s:Shared}
theorem lt_same {a b:Addr} {oa ob:Obj} {na nb:Nat} {x1 y1:Nat} {t1 t2 t3 t4:Tok} {Q:Value→Shared→Prop}
  (ha:s.heap.get? a=some oa) (ca:oa.cls=.type "tuple") (da:oa.data=.seq [Value.int x1 t1,Value.int y1 t2].toArray na)
  (hb:s.heap.get? b=some ob) (cb:ob.cls=.type "tuple") (db:ob.data=.seq [Value.int x1 t3,Value.int y1 t4].toArray nb) (hu:A.units < cLine)
  (q:Q (.bool false) s):wpAny (model prog w) A (compareOp .Lt (.ref a) (.ref b)) Q E s:=by
 have Ta:s.TypeIs (.ref a) "tuple":=⟨oa,ha,ca⟩
 have Tb:s.TypeIs (.ref b) "tuple":=⟨ob,hb,cb⟩
 show wpAny _ _ (richCompare .Lt (.ref a) (.ref b)) Q E s
 refine wpAny_richCompare_same_room (op:=.Lt) (T:="tuple") Ta Tb F.slot_tuple_lt (wpAny_call_entry F.slot_tuple_lt Ta F.entry_tuple_lt ?_ (F.args_tuple_lt_2 _ _)) hu
 show wpAny _ _ (isInstance (.ref b) (.type "tuple") >>= _) _ _ s
 refine wpAny_bind (wpAny_isInstance Tb isSubtype_tuple_tuple ?_)
 simp only [Bool.not_true,Bool.false_eq_true,if_false]
 refine wpAny_bind (wpAny_tupleItemsOf ha da (wpAny_bind (wpAny_tupleItemsOf hb db (wpAny_bind ?_))))
 rw [show [Value.int (x1:Int) t1,Value.int (y1:Int) t2].toArray.toList.zip [Value.int (x1:Int) t3,Value.int (y1:Int) t4].toArray.toList=[(Value.int (x1:Int) t1,Value.int (x1:Int) t3),(Value.int (y1:Int) t2,Value.int (y1:Int) t4)] from rfl]
 rw [List.forIn_cons]
 refine wpAny_bind ?_
 dsimp only
 refine wpAny_bind (SeqAt.EqAt.int_int _ _ _ _ prog w _ _ ?_)
 simp only [beq_self_eq_true,Bool.not_true,Bool.false_eq_true,if_false]
 refine wpAny_pure ?_
 dsimp only
 rw [List.forIn_cons]
 refine wpAny_bind ?_
 dsimp only
 refine wpAny_bind (SeqAt.EqAt.int_int _ _ _ _ prog w _ _ ?_)
 simp only [beq_self_eq_true,Bool.not_true,Bool.false_eq_true,if_false]
 refine wpAny_pure ?_
 dsimp only
 rw [List.forIn_nil]
 refine wpAny_pure ?_
 dsimp only
 exact wpAny_pure ⟨_,rfl,by show Builtin.Tuple.tupleCompareSizes CmpOp.Lt 2 2≠_;decide,q⟩
end
section
variable {X:Cx}
def rLtP:R2:=fun x y H Q=>∃ (a b:Addr) (x1 y1 x2 y2:Nat),x=.ref a∧y=.ref b∧H a=some (.tup [.int x1,.int y1])∧H b=some (.tup [.int x2,.int y2])∧y1 < 1000∧y2 < 1000∧
 Q (.bl (decide (x1 * 1000 + y1 < x2 * 1000 + y2))) H
theorem op_ltP (hu:X.A.units < cLine):OpR X (compareOp .Lt) rLtP:=by
 intro pins s σ H x y v u Q I rx ry h
 obtain ⟨a,b,x1,y1,x2,y2,rfl,rfl,ea,eb,l1,l2,q⟩:=h
 by_cases hne:x1 * 1000 + y1=x2 * 1000 + y2
 ·have e1:x1=x2:=by omega
  have e2:y1=y2:=by omega
  subst e1 e2
  rw [decide_eq_false (Nat.lt_irrefl _)] at q
  cases rx
  cases ry
  obtain ⟨_,tv,rtv,o,ho,hc,n,hd⟩:=I.hok _ _ ea
  obtain ⟨_,tv',rtv',o',ho',hc',n',hd'⟩:=I.hok _ _ eb
  cases rtv with
  | cons q1 rr=>
   cases rr with
   | cons q2 rr=>
    cases rr
    cases rtv' with
    | cons q3 rr'=>
     cases rr' with
     | cons q4 rr'=>
      cases rr'
      obtain ⟨t1,rfl⟩:=q1
      obtain ⟨t2,rfl⟩:=q2
      obtain ⟨t3,rfl⟩:=q3
      obtain ⟨t4,rfl⟩:=q4
      exact lt_same ho hc hd ho' hc' hd' hu ⟨.bl _,H,I,rfl,q⟩
 ·exact op_ltC hu pins s σ H _ _ _ _ Q I rx ry ⟨a,b,x1,y1,x2,y2,[],[],rfl,rfl,ea,eb,l1,l2,hne,q⟩
end
def rInstXT (K:PySem.W.Frag):List V→Hp→VK→Prop:=fun xs H Q=>∃ (a C tp:Addr) (Ds:List Addr) (dd:Option Addr) (b:Bool),xs=[.ref a,.ref tp]∧H a=some (.ext (ExcO a (.ref C) dd))∧DictKn H dd∧ExcIs K C∧H tp=some (.tup (Ds.map V.ref))∧kitAny K (.ref C) (Ds.map Value.ref)=some b∧Q (.bl b) H
theorem vals_refsZ:∀ {Ds:List Addr} {us:List Value},Vals (Ds.map V.ref) us→us=Ds.map Value.ref
 | [],_,.nil=>rfl
 | _ :: _,_,.cons r rr=>by cases r;rw [vals_refsZ rr];rfl
section
variable {X:Cx}
theorem call_isinstXT (hc:True:=True.intro):CallR X (.builtin "isinstance") (rInstXT X.K):=by
 intro pins s σ H xs us Q I r h
 obtain ⟨a,C,tp,Ds,dd,b,rfl,ha,hd,T,ht,k,q⟩:=h
 obtain ⟨u1,w',rfl,r1,r2⟩:=vals2 r
 obtain rfl:u1=Value.ref a:=r1
 obtain rfl:w'=Value.ref tp:=r2
 obtain ⟨⟨oe,vs,e1,e2,e3,e4,_⟩,_,_⟩:=(show ObjOk X.prog X.w H s.heap a (.ext (ExcO a (.ref C) dd)) from I.hok a _ ha)
 have hI:∃ ox odo,InstAt s.heap a ox C odo:=by
  cases dd with
  | none=>exact ⟨oe,none,e1,e2,by unfold notCls;rw [e4],by rw [e3];trivial⟩
  | some d=>
   obtain ⟨o1,hfs⟩:=hd
   obtain ⟨o,ho⟩:=(I.hok d _ hfs).there
   exact ⟨oe,some o,e1,e2,by unfold notCls;rw [e4],by rw [e3];exact ho⟩
 obtain ⟨_,tv,rtv,⟨oc,od,odt,osl⟩,ho,hc,n,hdt⟩:=I.hok _ _ ht
 obtain rfl:=vals_refsZ rtv
 cases hc
 cases hdt
 exact kia_tup (kitx_exc T) I.kIn hI ho k (fun z=>nomatch z) fun tk=>⟨.bl b,H,I.tok tk,rfl,q⟩
open Classical in
def rInDL (K:PySem.W.Frag) (neg:Bool):R2:=fun x y H Q=>∃ n d es,n≤60∧HasD K H n d x∧HasD K H n (.lst es) y∧Q (.bl (if neg then !decide (d∈es) else decide (d∈es))) H
theorem op_inDL (hu:X.A.units + 64 < cLine):OpR X (compareOp .In) (rInDL X.K false):=by
 intro pins s σ H x y v u Q I rx ry h
 obtain ⟨n,d,es,hn,hd,he,q⟩:=h
 obtain ⟨as,ra⟩:=hd.reads I rx
 obtain ⟨bs,rb⟩:=he.reads I ry
 have l1:=hd.lay
 have l2:=he.lay
 rw [toP] at rb
 simp only [toP,PyData.canLay0,PyData.depth] at l2
 refine SeqAt.in_list_reads rb ra l2.1 l1.1 (by have:=Nat.min_le_right (PyData.depthAll (toPs es)) (toP d).depth;omega) ⟨.bl _,H,I,rfl,?_⟩
 rw [any_eqv];exact q
theorem op_notInDL (hu:X.A.units + 64 < cLine):OpR X (compareOp .NotIn) (rInDL X.K true):=by
 intro pins s σ H x y v u Q I rx ry h
 obtain ⟨n,d,es,hn,hd,he,q⟩:=h
 obtain ⟨as,ra⟩:=hd.reads I rx
 obtain ⟨bs,rb⟩:=he.reads I ry
 have l1:=hd.lay
 have l2:=he.lay
 rw [toP] at rb
 simp only [toP,PyData.canLay0,PyData.depth] at l2
 refine SeqAt.notIn_list_reads rb ra l2.1 l1.1 (by have:=Nat.min_le_right (PyData.depthAll (toPs es)) (toP d).depth;omega) ⟨.bl _,H,I,rfl,?_⟩
 rw [any_eqv];exact q
end
end L2
end
section
set_option Elab.async false
set_option linter.all false
set_option maxRecDepth 100000
set_option maxHeartbeats 2000000
namespace L2
open PySem PySem.Spec PyProof.Rows PySem.W
section
variable {X:Cx}
theorem call_minL (hc:X.calm=true):CallR X (.builtin "min") (fun xs H Q=>∃ (p:Addr) (ns:List Int),xs=[.ref p]∧SqL X.K H p (ns.map V.int)∧0 < ns.length∧∀ m∈ns,(∀ x∈ns,m≤x)→Q (.int m) H):=by
 intro pins s σ H xs us Q I r h
 obtain ⟨p,ns,rfl,hq,h0,q⟩:=h
 obtain ⟨u,rfl,ru⟩:=vals1 r
 cases ru
 obtain ⟨its,rv,pl,hz⟩:=I.list hq
 have hlen:=rv.length
 rw [List.length_map] at hlen
 have hne:p≠s.heap.objs.size:=by
  obtain ⟨o,ho,_⟩:=pl.isList
  exact Nat.ne_of_lt (Heap.lt_size ho)
 have hb:∀ (i:Nat) (v:Value),its.toArray[i]?=some v→∃ t,v=.int (ns.getD i 0) t:=fun i v hv=>by
  have hv:its[i]?=some v:=by simpa using hv
  have hi:i < ns.length:=by have:=(List.getElem?_eq_some_iff.mp hv).1;omega
  obtain ⟨u,hu,ru⟩:=rv.get (i:=i) (x:=.int ns[i]) (by simp [hi])
  rw [hv] at hu;cases hu
  obtain ⟨t,e⟩:=ru
  exact ⟨t,by rw [e];simp [List.getD,hi]⟩
 refine call_min_walk (wpAny_pyIter_list pl.isList ?_)
 refine ⟨s.heap.objs.size,_,_,_,_,_,_,rfl,Walks.list (A:=X.A.in1) (I.ok.hd hc) s.heap.objs.size p hne its.toArray,⟨⟨_,Heap.get?_push_size _ rfl,rfl,rfl⟩,pl.isList.at fun o e=>Heap.get?_push_of_some _ e⟩,?_,by simp;omega,CmpOf.ints_lt (fun i=>ns.getD i 0) hb,fun v h' tk hP kk=>?_⟩
 ·intro b hb
  have:b=s.heap.objs.size∨b=p:=by simpa using hb
  rw [Heap.size_push]
  rcases this with e | e
  ·rw [e];exact Nat.lt_succ_self _
  ·rw [e]
   obtain ⟨o,ho,_⟩:=pl.isList
   exact Nat.lt_succ_of_lt (Heap.lt_size ho)
 ·have I1:Inv X pins σ H { s with heap:=h',toks:=tk }:=I.kept fun b o e=>kk b o (by
   intro hm
   have:b=s.heap.objs.size:=by simpa using hm
   subst this
   exact absurd (Heap.lt_size e) (Nat.lt_irrefl _)) (Heap.get?_push_of_some _ e)
  obtain ⟨k1,k2⟩:=argBest_lt (fun i=>ns.getD i 0) (its.toArray.size - 1)
  have hsz:its.toArray.size=ns.length:=by simp [hlen]
  obtain ⟨t,e⟩:=hb _ v hP
  generalize argBest _ _=j at k1 k2 e
  have hj:j < ns.length:=by omega
  refine ⟨.int (ns.getD j 0),H,I1,⟨t,e⟩,q _ (by simp [List.getD,hj]) fun x hx=>?_⟩
  obtain ⟨i,hi,rfl⟩:=List.mem_iff_getElem.mp hx
  have:=k2 i (by omega)
  simpa [List.getD,hi] using this
theorem call_maxL (hc:X.calm=true):CallR X (.builtin "max") (fun xs H Q=>∃ (p:Addr) (ns:List Int),xs=[.ref p]∧SqL X.K H p (ns.map V.int)∧0 < ns.length∧∀ m∈ns,(∀ x∈ns,m≥x)→Q (.int m) H):=by
 intro pins s σ H xs us Q I r h
 obtain ⟨p,ns,rfl,hq,h0,q⟩:=h
 obtain ⟨u,rfl,ru⟩:=vals1 r
 cases ru
 obtain ⟨its,rv,pl,hz⟩:=I.list hq
 have hlen:=rv.length
 rw [List.length_map] at hlen
 have hne:p≠s.heap.objs.size:=by
  obtain ⟨o,ho,_⟩:=pl.isList
  exact Nat.ne_of_lt (Heap.lt_size ho)
 have hb:∀ (i:Nat) (v:Value),its.toArray[i]?=some v→∃ t,v=.int (ns.getD i 0) t:=fun i v hv=>by
  have hv:its[i]?=some v:=by simpa using hv
  have hi:i < ns.length:=by have:=(List.getElem?_eq_some_iff.mp hv).1;omega
  obtain ⟨u,hu,ru⟩:=rv.get (i:=i) (x:=.int ns[i]) (by simp [hi])
  rw [hv] at hu;cases hu
  obtain ⟨t,e⟩:=ru
  exact ⟨t,by rw [e];simp [List.getD,hi]⟩
 refine call_max_walk (wpAny_pyIter_list pl.isList ?_)
 refine ⟨s.heap.objs.size,_,_,_,_,_,_,rfl,Walks.list (A:=X.A.in1) (I.ok.hd hc) s.heap.objs.size p hne its.toArray,⟨⟨_,Heap.get?_push_size _ rfl,rfl,rfl⟩,pl.isList.at fun o e=>Heap.get?_push_of_some _ e⟩,?_,by simp;omega,CmpOf.ints_gt (fun i=>ns.getD i 0) hb,fun v h' tk hP kk=>?_⟩
 ·intro b hb
  have:b=s.heap.objs.size∨b=p:=by simpa using hb
  rw [Heap.size_push]
  rcases this with e | e
  ·rw [e];exact Nat.lt_succ_self _
  ·rw [e]
   obtain ⟨o,ho,_⟩:=pl.isList
   exact Nat.lt_succ_of_lt (Heap.lt_size ho)
 ·have I1:Inv X pins σ H { s with heap:=h',toks:=tk }:=I.kept fun b o e=>kk b o (by
   intro hm
   have:b=s.heap.objs.size:=by simpa using hm
   subst this
   exact absurd (Heap.lt_size e) (Nat.lt_irrefl _)) (Heap.get?_push_of_some _ e)
  obtain ⟨k1,k2⟩:=argBest_gt (fun i=>ns.getD i 0) (its.toArray.size - 1)
  have hsz:its.toArray.size=ns.length:=by simp [hlen]
  obtain ⟨t,e⟩:=hb _ v hP
  generalize argBest _ _=j at k1 k2 e
  have hj:j < ns.length:=by omega
  refine ⟨.int (ns.getD j 0),H,I1,⟨t,e⟩,q _ (by simp [List.getD,hj]) fun x hx=>?_⟩
  obtain ⟨i,hi,rfl⟩:=List.mem_iff_getElem.mp hx
  have:=k2 i (by omega)
  simpa [List.getD,hi] using this
end
end L2
end
section
set_option Elab.async false
set_option linter.all false
set_option maxRecDepth 100000
set_option maxHeartbeats 4000000
namespace My
open PySem L2
def top (i:Nat):Stmt:=PySem.Challenge.pw_letterrack_k23_tiles_that_are_lacking.main.body.getD i (.Pass ⟨0,0,0,0⟩)
abbrev s_NoWord_init:Stmt:=inClass (top 5) 0
theorem sc_NoWord_init:FnScope ["self","word"] ["self","word"] (defScope s_NoWord_init):=⟨rfl,rfl,rfl,by decide +kernel,rfl,by decide +kernel,by decide +kernel⟩
abbrev s_Taken_init:Stmt:=inClass (top 8) 0
theorem sc_Taken_init:FnScope ["self","row","column"] ["self","row","column"] (defScope s_Taken_init):=⟨rfl,rfl,rfl,by decide +kernel,rfl,by decide +kernel,by decide +kernel⟩
abbrev s_Gap_init:Stmt:=inClass (top 10) 0
theorem sc_Gap_init:FnScope ["self","row","column"] ["self","row","column"] (defScope s_Gap_init):=⟨rfl,rfl,rfl,by decide +kernel,rfl,by decide +kernel,by decide +kernel⟩
abbrev s_Lacking_init:Stmt:=inClass (top 12) 0
theorem sc_Lacking_init:FnScope ["self","tile"] ["self","tile"] (defScope s_Lacking_init):=⟨rfl,rfl,rfl,by decide +kernel,rfl,by decide +kernel,by decide +kernel⟩
abbrev s_is_whole:Stmt:=top 19
theorem sc_is_whole:FnScope ["thing"] ["thing"] (defScope s_is_whole):=⟨rfl,rfl,rfl,by decide +kernel,rfl,by decide +kernel,by decide +kernel⟩
abbrev s_is_sign:Stmt:=top 20
theorem sc_is_sign:FnScope ["thing"] ["thing"] (defScope s_is_sign):=⟨rfl,rfl,rfl,by decide +kernel,rfl,by decide +kernel,by decide +kernel⟩
abbrev s_letter_of:Stmt:=top 21
theorem sc_letter_of:FnScope ["sign"] ["sign"] (defScope s_letter_of):=⟨rfl,rfl,rfl,by decide +kernel,rfl,by decide +kernel,by decide +kernel⟩
abbrev s_tile_of:Stmt:=top 22
theorem sc_tile_of:FnScope ["sign"] ["sign"] (defScope s_tile_of):=⟨rfl,rfl,rfl,by decide +kernel,rfl,by decide +kernel,by decide +kernel⟩
abbrev s_left_of:Stmt:=top 23
theorem sc_left_of:FnScope ["rack","signs","tiles","sign","tile"] ["rack","signs"] (defScope s_left_of):=⟨rfl,rfl,rfl,by decide +kernel,rfl,by decide +kernel,by decide +kernel⟩
abbrev s_is_block:Stmt:=top 28
theorem sc_is_block:FnScope ["thing","width"] ["thing"] (defScope s_is_block):=⟨rfl,rfl,rfl,by decide +kernel,rfl,by decide +kernel,by decide +kernel⟩
abbrev s_are_rows:Stmt:=top 29
theorem sc_are_rows:FnScope ["thing"] ["thing"] (defScope s_are_rows):=⟨rfl,rfl,rfl,by decide +kernel,rfl,by decide +kernel,by decide +kernel⟩
abbrev s_are_marks:Stmt:=top 30
theorem sc_are_marks:FnScope ["thing"] ["thing"] (defScope s_are_marks):=⟨rfl,rfl,rfl,by decide +kernel,rfl,by decide +kernel,by decide +kernel⟩
abbrev s_is_cell_of:Stmt:=top 31
theorem sc_is_cell_of:FnScope ["rows","row","column"] ["rows","row","column"] (defScope s_is_cell_of):=⟨rfl,rfl,rfl,by decide +kernel,rfl,by decide +kernel,by decide +kernel⟩
abbrev s_is_begin_of:Stmt:=top 32
theorem sc_is_begin_of:FnScope ["rows","thing"] ["rows","thing"] (defScope s_is_begin_of):=⟨rfl,rfl,rfl,by decide +kernel,rfl,by decide +kernel,by decide +kernel⟩
abbrev s_is_board:Stmt:=top 33
theorem sc_is_board:FnScope ["rows","marks","begin"] ["rows","marks","begin"] (defScope s_is_board):=⟨rfl,rfl,rfl,by decide +kernel,rfl,by decide +kernel,by decide +kernel⟩
abbrev s_column_text:Stmt:=top 34
theorem sc_column_text:FnScope ["rows","column"] ["rows","column"] (defScope s_column_text):=⟨rfl,rfl,rfl,by decide +kernel,rfl,by decide +kernel,by decide +kernel⟩
abbrev s_Board_init:Stmt:=inClass (top 35) 0
theorem sc_Board_init:FnScope ["self","rows","marks","begin"] ["self","rows","marks","begin"] (defScope s_Board_init):=⟨rfl,rfl,rfl,by decide +kernel,rfl,by decide +kernel,by decide +kernel⟩
abbrev s_Board_at:Stmt:=inClass (top 35) 1
theorem sc_Board_at:FnScope ["self","row","column"] ["self","row","column"] (defScope s_Board_at):=⟨rfl,rfl,rfl,by decide +kernel,rfl,by decide +kernel,by decide +kernel⟩
abbrev s_Board_is_free:Stmt:=inClass (top 35) 2
theorem sc_Board_is_free:FnScope ["self"] ["self"] (defScope s_Board_is_free):=⟨rfl,rfl,rfl,by decide +kernel,rfl,by decide +kernel,by decide +kernel⟩
abbrev s_Board_run:Stmt:=inClass (top 35) 3
theorem sc_Board_run:FnScope ["self","row","column","way","line","place","ahead","signs","first"] ["self","row","column","way"] (defScope s_Board_run):=⟨rfl,rfl,rfl,by decide +kernel,rfl,by decide +kernel,by decide +kernel⟩
abbrev s_Board_laid:Stmt:=inClass (top 35) 5
theorem sc_Board_laid:FnScope ["self","laying","lines","row","column","sign"] ["self","laying"] (defScope s_Board_laid):=⟨rfl,rfl,rfl,by decide +kernel,rfl,by decide +kernel,by decide +kernel⟩
abbrev s_is_triple:Stmt:=top 38
theorem sc_is_triple:FnScope ["board","thing"] ["board","thing"] (defScope s_is_triple):=⟨rfl,rfl,rfl,by decide +kernel,rfl,by decide +kernel,by decide +kernel⟩
abbrev s_is_laying:Stmt:=top 39
theorem sc_is_laying:FnScope ["board","thing","cells"] ["board","thing"] (defScope s_is_laying):=⟨rfl,rfl,rfl,by decide +kernel,rfl,by decide +kernel,by decide +kernel⟩
abbrev s_cells_of:Stmt:=top 40
theorem sc_cells_of:FnScope ["laying"] ["laying"] (defScope s_cells_of):=⟨rfl,rfl,rfl,by decide +kernel,rfl,by decide +kernel,by decide +kernel⟩
abbrev s_is_across:Stmt:=top 41
theorem sc_is_across:FnScope ["laying"] ["laying"] (defScope s_is_across):=⟨rfl,rfl,rfl,by decide +kernel,rfl,by decide +kernel,by decide +kernel⟩
abbrev s_is_down:Stmt:=top 42
theorem sc_is_down:FnScope ["laying"] ["laying"] (defScope s_is_down):=⟨rfl,rfl,rfl,by decide +kernel,rfl,by decide +kernel,by decide +kernel⟩
abbrev s_is_next_to_taken:Stmt:=top 43
theorem sc_is_next_to_taken:FnScope ["board","row","column","around"] ["board","row","column"] (defScope s_is_next_to_taken):=⟨rfl,rfl,rfl,by decide +kernel,rfl,by decide +kernel,by decide +kernel⟩
abbrev s_formed:Stmt:=top 44
theorem sc_formed:FnScope ["board","laying","after","way","asked","row","column","words","along","run"] ["board","laying"] (defScope s_formed):=⟨rfl,rfl,rfl,by decide +kernel,rfl,by decide +kernel,by decide +kernel⟩
abbrev s_check_free:Stmt:=top 45
theorem sc_check_free:FnScope ["board","laying","row","column","sign"] ["board","laying"] (defScope s_check_free):=⟨rfl,rfl,rfl,by decide +kernel,rfl,by decide +kernel,by decide +kernel⟩
abbrev s_check_straight:Stmt:=top 46
theorem sc_check_straight:FnScope ["laying"] ["laying"] (defScope s_check_straight):=⟨rfl,rfl,rfl,by decide +kernel,rfl,by decide +kernel,by decide +kernel⟩
abbrev s_check_gaps:Stmt:=top 47
theorem sc_check_gaps:FnScope ["board","laying","after","row","column"] ["board","laying"] (defScope s_check_gaps):=⟨rfl,rfl,rfl,by decide +kernel,rfl,by decide +kernel,by decide +kernel⟩
abbrev s_check_joined:Stmt:=top 48
theorem sc_check_joined:FnScope ["board","laying","joined"] ["board","laying"] (defScope s_check_joined):=⟨rfl,rfl,rfl,by decide +kernel,rfl,by decide +kernel,by decide +kernel⟩
abbrev s_check_words:Stmt:=top 49
theorem sc_check_words:FnScope ["board","book","laying","words","row","column","way","signs","word"] ["board","book","laying"] (defScope s_check_words):=⟨rfl,rfl,rfl,by decide +kernel,rfl,by decide +kernel,by decide +kernel⟩
abbrev s_check_laying:Stmt:=top 50
theorem sc_check_laying:FnScope ["board","book","rack","laying"] ["board","book","rack","laying"] (defScope s_check_laying):=⟨rfl,rfl,rfl,by decide +kernel,rfl,by decide +kernel,by decide +kernel⟩
abbrev s_is_word:Stmt:=top 52
theorem sc_is_word:FnScope ["text"] ["text"] (defScope s_is_word):=⟨rfl,rfl,rfl,by decide +kernel,rfl,by decide +kernel,by decide +kernel⟩
abbrev s_check_word:Stmt:=top 53
theorem sc_check_word:FnScope ["text"] ["text"] (defScope s_check_word):=⟨rfl,rfl,rfl,by decide +kernel,rfl,by decide +kernel,by decide +kernel⟩
abbrev s_Book_init:Stmt:=inClass (top 54) 0
theorem sc_Book_init:FnScope ["self","words","word"] ["self","words"] (defScope s_Book_init):=⟨rfl,rfl,rfl,by decide +kernel,rfl,by decide +kernel,by decide +kernel⟩
abbrev s_Book_has:Stmt:=inClass (top 54) 2
theorem sc_Book_has:FnScope ["self","text"] ["self","text"] (defScope s_Book_has):=⟨rfl,rfl,rfl,by decide +kernel,rfl,by decide +kernel,by decide +kernel⟩
abbrev s_cell_at:Stmt:=top 56
theorem sc_cell_at:FnScope ["_law_script","_law_k"] ["_law_script","_law_k"] (defScope s_cell_at):=⟨rfl,rfl,rfl,by decide +kernel,rfl,by decide +kernel,by decide +kernel⟩
abbrev s_draw:Stmt:=top 57
theorem sc_draw:FnScope ["_law_cell","_law_j","_law_number"] ["_law_cell","_law_j"] (defScope s_draw):=⟨rfl,rfl,rfl,by decide +kernel,rfl,by decide +kernel,by decide +kernel⟩
abbrev s_letters:Stmt:=top 58
theorem sc_letters:FnScope ["_law_cell","_law_every","_law_step"] ["_law_cell"] (defScope s_letters):=⟨rfl,rfl,rfl,by decide +kernel,rfl,by decide +kernel,by decide +kernel⟩
abbrev s_sign:Stmt:=top 59
theorem sc_sign:FnScope ["_law_cell","_law_letters_here","_law_letter"] ["_law_cell","_law_letters_here"] (defScope s_sign):=⟨rfl,rfl,rfl,by decide +kernel,rfl,by decide +kernel,by decide +kernel⟩
abbrev s_rows:Stmt:=top 60
theorem sc_rows:FnScope ["_law_script","_law_letters_here","_law_cell","_law_tall","_law_wide","_law_lies","_law_full","_law_rest","_law_rows_here","_law_row","_law_text","_law_column","_law_number","_law_free","_law_line","_law_spot"] ["_law_script","_law_letters_here"] (defScope s_rows):=⟨rfl,rfl,rfl,by decide +kernel,rfl,by decide +kernel,by decide +kernel⟩
abbrev s_marks:Stmt:=top 61
theorem sc_marks:FnScope ["_law_rows_here","_law_cell","_law_found","_law_row","_law_text","_law_column","_law_number"] ["_law_rows_here","_law_cell"] (defScope s_marks):=⟨rfl,rfl,rfl,by decide +kernel,rfl,by decide +kernel,by decide +kernel⟩
abbrev s_is_near:Stmt:=top 65
theorem sc_is_near:FnScope ["_law_rows_here","_law_row","_law_column","_law_there"] ["_law_rows_here","_law_row","_law_column"] (defScope s_is_near):=⟨rfl,rfl,rfl,by decide +kernel,rfl,by decide +kernel,by decide +kernel⟩
abbrev s_starts:Stmt:=top 66
theorem sc_starts:FnScope ["_law_rows_here","_law_cell","_law_free","_law_near","_law_row","_law_column"] ["_law_rows_here","_law_cell"] (defScope s_starts):=⟨rfl,rfl,rfl,by decide +kernel,rfl,by decide +kernel,by decide +kernel⟩
abbrev s_straight:Stmt:=top 67
theorem sc_straight:FnScope ["_law_rows_here","_law_cell","_law_letters_here","_law_many","_law_way","_law_row","_law_column","_law_found","_law_blanks","_law_rest","_law_number","_law_sign_here"] ["_law_rows_here","_law_cell","_law_letters_here","_law_many"] (defScope s_straight):=⟨rfl,rfl,rfl,by decide +kernel,rfl,by decide +kernel,by decide +kernel⟩
abbrev s_joined:Stmt:=top 68
theorem sc_joined:FnScope ["_law_rows_here","_law_begin","_law_cells"] ["_law_rows_here","_law_begin","_law_cells"] (defScope s_joined):=⟨rfl,rfl,rfl,by decide +kernel,rfl,by decide +kernel,by decide +kernel⟩
abbrev s_cells_due:Stmt:=top 69
theorem sc_cells_due:FnScope ["_law_rows_here","_law_begin","_law_laying","_law_cells","_law_row","_law_column"] ["_law_rows_here","_law_begin","_law_laying"] (defScope s_cells_due):=⟨rfl,rfl,rfl,by decide +kernel,rfl,by decide +kernel,by decide +kernel⟩
abbrev s_lacking:Stmt:=top 70
theorem sc_lacking:FnScope ["_law_rack_here","_law_laying","_law_left","_law_row","_law_column","_law_sign_here","_law_tile"] ["_law_rack_here","_law_laying"] (defScope s_lacking):=⟨rfl,rfl,rfl,by decide +kernel,rfl,by decide +kernel,by decide +kernel⟩
abbrev s_class:Stmt:=top 72
theorem sc_class:FnScope ["_law_error","_law_some"] ["_law_error"] (defScope s_class):=⟨rfl,rfl,rfl,by decide +kernel,rfl,by decide +kernel,by decide +kernel⟩
abbrev s_caught:Stmt:=top 73
theorem sc_caught:FnScope ["_law_board","_law_book","_law_rack_here","_law_laying","_law_caught_here","e"] ["_law_board","_law_book","_law_rack_here","_law_laying"] (defScope s_caught):=⟨rfl,rfl,rfl,by decide +kernel,rfl,by decide +kernel,by decide +kernel⟩
abbrev s_rack:Stmt:=top 74
theorem sc_rack:FnScope ["_law_laying","_law_cell","_law_letters_here","_law_tiles","_law_row","_law_column","_law_sign_here","_law_some","_law_found","_law_k","_law_tile"] ["_law_laying","_law_cell","_law_letters_here"] (defScope s_rack):=⟨rfl,rfl,rfl,by decide +kernel,rfl,by decide +kernel,by decide +kernel⟩
abbrev s_law:Stmt:=top 75
theorem sc_law:FnScope ["_law_script","_law_letters_here","_law_rows_here","_law_board","_law_book","_law_cell","_law_laying","_law_rack_here","_law_due","_law_some","_law_caught_here"] ["_law_script"] (defScope s_law):=⟨rfl,rfl,rfl,by decide +kernel,rfl,by decide +kernel,by decide +kernel⟩
section
variable {P:Program} {w:World} {K:PySem.W.Frag} {mg:Str→Option Value} {base:Heap}
def azB (c:Nat):Bool:=decide (97≤c) && decide (c≤122)
def upB (c:Nat):Bool:=decide (65≤c) && decide (c≤90)
def sgB (l:List Nat):Bool:=match l with | [c]=>azB c || upB c | _=>false
theorem lt1 (a b:Nat):([a] < [b])↔a < b:=by simp [List.cons_lt_cons_iff]
theorem dlt1 (a b:Nat):(!decide ([a] < [b]))=decide (b≤a):=by
 by_cases h:a < b
 ·rw [decide_eq_true ((lt1 a b).mpr h),decide_eq_false (by omega)];rfl
 ·rw [decide_eq_false (fun z=>h ((lt1 a b).mp z)),decide_eq_true (by omega)];rfl
def NoStr (K:PySem.W.Frag) (H:Hp) (x:V):Prop:=∃ t,TyOf K H x t∧PySem.W.kitOne K t (.type "str")=some false
def spSign (K:PySem.W.Frag):Sp:=fun vs H Q _=>(∃ x,vs=[x]∧NoStr K H x∧Q (.bl false) H)∨(∃ l,vs=[.str (S l)]∧l.length≤1000∧Q (.bl (sgB l)) H)
theorem ok_is_sign (D:DefAt K mg "is_sign" s_is_sign ["thing"]) (hlen:mg "len"=none) (hstr:mg "str"=none) (hisi:mg "isinstance"=none):Def P w K mg base "is_sign" 1 ["thing"] (spSign K):=by
 refine D.qok sc_is_sign (fun vs H Q E h=>?_) (fun f cdv A outer s H vs Q E hr h=>?_)
 ·rcases h with ⟨x,rfl,_⟩ | ⟨x,rfl,_⟩ <;> rfl
 ·refine ⟨_,qss_cons (qs_if (QW.qt (qw_or (qt_not (qt_val (qe_callB call_isinst (by rfl) hisi PyProof.Rows.boot_isinstance (qa_cons (qv 0) (qa_cons (qe_bltn (v:=.ty "str") (by rfl) hstr PyProof.Rows.boot_str rfl) qa_nil)))))
     (qw_or1 (qt_cmpR op_ne (qe_callB call_lenS (by rfl) hlen PySem.boot_len (qa_cons (qv 0) qa_nil)) qe_int (nomark _))))) (qss_one (qs_ret qe_bl)) qss_nil)
   (qss_one (qs_ret (qe_or (qe_chain op_leS op_leS (qe_strS [97] (by decide +kernel)) (qv 0) (qe_strS [122] (by decide +kernel)))
    (qe_one (qe_chain op_leS op_leS (qe_strS [65] (by decide +kernel)) (qv 0) (qe_strS [90] (by decide +kernel))))))),?_⟩
  rcases h with ⟨x,rfl,⟨t,ty,hk⟩,q⟩ | ⟨l,rfl,hl,q⟩
  ·exact ⟨_,rfl,_,_,_,false,rfl,ty,hk,_,rfl,iteT (iteT q)⟩
  ·have hz:l.length≤sizeLine:=Nat.le_of_lt (small1000 (by omega))
   refine ⟨_,rfl,_,_,_,true,rfl,.str _,(by kernel_rfl),_,rfl,iteF ⟨_,rfl,l,rfl,hz,rfl,_,rfl,?_⟩⟩
   by_cases h1:l.length=1
   ·obtain ⟨c,rfl⟩:=List.length_eq_one_iff.mp h1
    refine iteNS rfl ?_
    refine ⟨_,rfl,[97],[c],rfl,rfl,decide (97≤c),by rw [dlt1],?_⟩
    have q':Q (.bl (azB c || upB c)) H:=q
    have tail:(upB c=(azB c || upB c))→tChain rLeS rLeS (tC (.str (S [65]))) (tVar 0) (tC (.str (S [90]))) [some (.str (S [c]))] H Q:=fun e=>by
     refine ⟨_,rfl,[65],[c],rfl,rfl,decide (65≤c),by rw [dlt1],?_⟩
     rw [← e] at q'
     by_cases h2:65≤c
     ·rw [decide_eq_true h2]
      refine iteT ⟨[c],[90],rfl,rfl,?_⟩
      rw [dlt1]
      simpa [upB,h2] using q'
     ·rw [decide_eq_false h2]
      refine iteF ?_
      simpa [upB,h2] using q'
    by_cases h2:97≤c
    ·rw [decide_eq_true h2]
     refine iteT ⟨[c],[122],rfl,rfl,_,rfl,?_⟩
     rw [dlt1]
     by_cases h3:c≤122
     ·rw [decide_eq_true h3]
      refine iteT ?_
      simpa [azB,h2,h3] using q'
     ·rw [decide_eq_false h3]
      exact iteF (tail (by simp [azB,h2,h3]))
    ·rw [decide_eq_false h2]
     exact iteF ⟨_,rfl,iteF (tail (by simp [azB,h2]))⟩
   ·have e:(!decide (V.int (l.length:Int)=V.int 1))=true:=by
     rw [decide_eq_false];rfl
     intro z;injection z with z;omega
    rw [e]
    have e2:sgB l=false:=by
     match l,h1 with
     | [],_=>rfl
     | [c],h=>exact absurd rfl h
     | _ :: _ :: _,_=>rfl
    rw [e2] at q
    exact iteT q
def spCell (K:PySem.W.Frag):Sp:=fun vs H Q _=>∃ (a:Addr) (ns:List Int) (k:Nat),vs=[.ref a,.int k]∧SqL K H a (ns.map V.int)∧∀ v:Int,Q (.int v) H
def isLet (c:Nat):Prop:=97≤c∧c≤122
structure Alph (ls:List Nat):Prop where
 lo:2≤ls.length
 hi:ls.length≤26
 az:∀ c∈ls,isLet c
theorem ok_cell_at (D:DefAt K mg "_law_cell_at" s_cell_at ["_law_script","_law_k"]) (hlen:mg "len"=none):Def P w K mg base "_law_cell_at" 1 ["_law_script","_law_k"] (spCell K):=by
 refine D.qok sc_cell_at (fun vs H Q E h=>?_) (fun f cdv A outer s H vs Q E hr h=>?_)
 ·obtain ⟨a,ns,k,rfl,_⟩:=h
  rfl
 ·obtain ⟨a,ns,k,rfl,hS,q⟩:=h
  refine ⟨_,qss_cons (qs_if (qt_cmpR op_lt (qv 1) (qe_callB call_len_seq (by rfl) hlen PySem.boot_len (qa_cons (qv 0) qa_nil)) (nomark _)) (qss_one (qs_ret (qe_ix ix_list (qv 0) (qv 1) (fun _ _=>rfl)))) qss_nil) (qss_one (qs_ret qe_int)),?_⟩
  refine ⟨_,rfl,_,rfl,a,_,rfl,.inl hS,_,_,rfl,rfl,_,rfl,?_⟩
  refine ite2 (fun hc=>?_) (fun _=>?_)
  ·have hk:k < ns.length:=by
    have:=of_decide_eq_true hc
    rw [List.length_map] at this
    omega
   exact ⟨_,rfl,_,rfl,a,_,_,.int ns[k],rfl,rfl,hS,atI_nat (by simp [hk]),q _⟩
  ·exact q _
theorem flat1 (l:List Nat):(l.map fun c=>[c]).flatten=l:=by
 induction l with
 | nil=>rfl
 | cons c r ih=>rw [List.map_cons,List.flatten_cons,ih];rfl
theorem AL_az:∀ c∈AL,isLet c:=fun c hc=>by
 obtain ⟨k,hk,rfl⟩:=List.mem_map.mp hc
 have:=List.mem_range.mp hk
 exact ⟨by omega,by omega⟩
def sgC (c:Nat):Prop:=sgB [c]=true
theorem sgC.lt {c:Nat} (h:sgC c):c < 128:=by
 unfold sgC sgB azB upB at h
 simp at h
 omega
theorem sgC_az {c:Nat} (h:isLet c):sgC c:=by simp [sgC,sgB,azB,h.1,h.2]
theorem sgC_up {c:Nat} (h:isLet c):sgC (c - 32):=by
 have h1:=h.1
 have h2:=h.2
 simp [sgC,sgB,azB,upB]
 omega
abbrev ones (cs:List Nat):List (List Nat):=cs.map fun c=>[c]
structure Blk (r w:Nat) (ls:List (List Nat)):Prop where
 len:ls.length=r
 wid:∀ l∈ls,l.length=w
def MK:List Nat:=[46,50,51,52,98,99,100]
def roC (c:Nat):Prop:=c=46∨sgC c
def mkC (c:Nat):Prop:=c∈MK
structure Brd (r w:Nat) (rows marks:List (List Nat)) (i j:Nat):Prop where
 r1:1≤r
 r9:r≤9
 w1:1≤w
 w9:w≤9
 br:Blk r w rows
 bm:Blk r w marks
 cr:∀ l∈rows,∀ c∈l,roC c
 cm:∀ l∈marks,∀ c∈l,mkC c
 bi:i < r
 bj:j < w
theorem Ts_snoc (ls:List (List Nat)) (l:List Nat):Ts ls ++ [V.str (S l)]=Ts (ls ++ [l]):=by simp [Ts]
theorem ones_snoc (cs:List Nat) (c:Nat):ones cs ++ [[c]]=ones (cs ++ [c]):=by simp [ones]
def cell (R:List (List Nat)) (i j:Nat):Nat:=(R.getD i []).getD j 0
theorem cell_eq {R:List (List Nat)} {i j:Nat} (hi:i < R.length) (hj:j < R[i].length):cell R i j=R[i][j]:=by
 unfold cell
 rw [List.getD_eq_getElem?_getD (l:=R),List.getElem?_eq_getElem hi]
 show (R[i]).getD j 0=_
 rw [List.getD_eq_getElem?_getD,List.getElem?_eq_getElem hj]
 rfl
end
end My
end
section
set_option Elab.async false
set_option linter.all false
set_option maxRecDepth 100000
set_option maxHeartbeats 2000000
namespace My
open PySem L2
section
variable {P:Program} {w:World} {K:PySem.W.Frag} {mg:Str→Option Value} {base:Heap}
def spWhole:Sp:=fun vs H Q _=>∃ i:Int,vs=[.int i]∧Q (.bl true) H
theorem ok_is_whole (D:DefAt K mg "is_whole" s_is_whole ["thing"]) (n_int:mg "int"=none) (n_bool:mg "bool"=none) (n_isinstance:mg "isinstance"=none):Def P w K mg base "is_whole" 1 ["thing"] spWhole:=by
 refine D.qok sc_is_whole (fun vs H Q E h=>?_) (fun f cdv A outer s H vs Q E hr h=>?_)
 ·obtain ⟨i,rfl,_⟩:=h
  rfl
 ·obtain ⟨i,rfl,q⟩:=h
  refine ⟨_,(qss_one (qs_ret (qe_and (qe_callB call_isinst (by rfl) n_isinstance PyProof.Rows.boot_isinstance (qa_cons (qv 0) (qa_cons (qe_bltn (v:=.ty "int") (by rfl) n_int PyProof.Rows.boot_int rfl) qa_nil))) (qe_one (qe_not (qe_callB call_isinst (by rfl) n_isinstance PyProof.Rows.boot_isinstance (qa_cons (qv 0) (qa_cons (qe_bltn (v:=.ty "bool") (by rfl) n_bool PyProof.Rows.boot_bool rfl) qa_nil)))))))),?_⟩
  exact ⟨_,rfl,_,_,_,true,rfl,.int _,(by kernel_rfl),true,rfl,iteT ⟨_,rfl,_,_,_,false,rfl,.int _,(by kernel_rfl),false,rfl,q⟩⟩
theorem Ts_at {ls:List (List Nat)} {i:Nat} {l:List Nat} (h:ls[i]?=some l):(Ts ls)[i]?=some (.str (S l)):=by simp [Ts,h]
theorem Ts_get {ls:List (List Nat)} {i:Nat} {x:V} (h:(Ts ls)[i]?=some x):∃ l,ls[i]?=some l∧x=.str (S l):=by
 rw [List.getElem?_map] at h
 obtain ⟨l,h1,h2⟩:=Option.map_eq_some_iff.mp h
 exact ⟨l,h1,h2.symm⟩
theorem all_rep (n:Nat):((List.replicate n true).all id)=true:=by simp
theorem snoc_rep (n:Nat):(List.replicate n true).map V.bl ++ [V.bl true]=(List.replicate (n + 1) true).map V.bl:=by rw [List.replicate_succ',List.map_append];rfl
def spBlock:Sp:=fun vs H Q _=>∃ (p:Addr) (ls:List (List Nat)) (r w:Nat),vs=[.ref p]∧H p=some (.tup (Ts ls))∧Blk r w ls∧1≤r∧r≤9∧1≤w∧w≤9∧∀ H',Same H H'→Q (.bl true) H'
theorem ok_is_block (D:DefAt K mg "is_block" s_is_block ["thing"]) (n_len:mg "len"=none) (n_tuple:mg "tuple"=none) (n_str:mg "str"=none) (n_all:mg "all"=none) (n_isinstance:mg "isinstance"=none) (g_MOST:∃ t,mg "MOST"=some (.int 9 t)):Def P w K mg base "is_block" 1 ["thing"] spBlock:=by
 refine D.qok sc_is_block (fun vs H Q E h=>?_) (fun f cdv A outer s H vs Q E hr h=>?_)
 ·obtain ⟨p,ls,r,w,rfl,_⟩:=h
  rfl
 ·obtain ⟨p,ls,r,w,rfl,hp,hb,r1,r9,w1,w9,q⟩:=h
  have hln:(Ts ls).length=r:=by rw [List.length_map,hb.len]
  have h0:0 < ls.length:=by rw [hb.len];omega
  refine ⟨_,(qss_cons (qs_if (QW.qt (qw_or (qt_not (qt_val (qe_callB call_isinst (by rfl) n_isinstance PyProof.Rows.boot_isinstance (qa_cons (qv 0) (qa_cons (qe_bltn (v:=.ty "tuple") (by rfl) n_tuple PyProof.Rows.boot_tuple rfl) qa_nil))))) (qw_or1 (qt_not (qt_chain op_le op_le qe_int (qe_callB call_len_seq (by rfl) n_len PySem.boot_len (qa_cons (qv 0) qa_nil)) (qe_gI (by rfl) g_MOST)))))) (qss_one (qs_ret qe_bl)) qss_nil) (qss_cons (qs_if (qt_not (qt_val (qe_callB (call_all rfl) (by rfl) n_all boot_allX (qa_cons (qe_comp rfl (CompOk.of sc_is_block.nd (by kernel_rfl)) (qi_tup (qv 0)) (fun _ _ _ _ _=>qts_nil) (fun _ _ _ _ _=>(qe_callB (call_isinstK K) (by rfl) n_isinstance PyProof.Rows.boot_isinstance (qa_cons (qv 0) (qa_cons (qe_bltn (v:=.ty "str") (by rfl) n_str PyProof.Rows.boot_str rfl) qa_nil))))) qa_nil)))) (qss_one (qs_ret qe_bl)) qss_nil) (qss_cons (qs_set (i:=1) sc_is_block.nd rfl (Or.inr rfl) (qe_callB call_lenS (by rfl) n_len PySem.boot_len (qa_cons (qe_ix ix_tup (qv 0) qe_int (fun _ _=>rfl)) qa_nil))) (qss_one (qs_ret (qe_and (qe_chain op_le op_le qe_int (qv 1) (qe_gI (by rfl) g_MOST)) (qe_one (qe_callB (call_all rfl) (by rfl) n_all boot_allX (qa_cons (qe_comp rfl (CompOk.of sc_is_block.nd (by kernel_rfl)) (qi_tup (qv 0)) (fun _ _ _ _ _=>qts_nil) (fun _ _ _ _ _=>(qe_cmpR op_eq (qe_callB call_lenS (by rfl) n_len PySem.boot_len (qa_cons (qv 0) qa_nil)) (qv 2) (nomark _)))) qa_nil))))))))),?_⟩
  refine ⟨_,rfl,_,_,_,true,rfl,.tup hp,(by kernel_rfl),_,rfl,iteF ?_⟩
  refine ⟨_,rfl,p,_,rfl,.inr (SqT.of hp),_,_,rfl,rfl,true,by rw [hln];simp;omega,iteT ⟨_,_,rfl,rfl,true,by rw [hln];simp;omega,iteF ?_⟩⟩
  refine ⟨_,rfl,p,rfl,⟨_,SqT.of hp⟩,fun L hL=>comp_tup (xs:=Ts ls) (fun i ys H2=>ys=(List.replicate i true).map V.bl∧H2 L=some (.lst ys)∧Same H H2) ⟨rfl,upd_same,Same.upd hL⟩ (fun i ys H2 _ h=>SqT.of (h.2.2 _ _ hp)) ?_ ?_⟩
  ·rintro i x ys H2 hi ⟨rfl,hL2,sm⟩
   obtain ⟨l,hl,rfl⟩:=Ts_get hi
   have hil:i < (Ts ls).length:=(List.getElem?_eq_some_iff.mp hi).1
   refine ⟨_,rfl,_,_,_,true,rfl,.str _,(by kernel_rfl),hL2,by rw [List.length_map,List.length_replicate];exact small1000 (by omega),Nxt.mk hil ⟨snoc_rep i,upd_same,sm.upd' hL⟩⟩
  ·rintro ys H2 ⟨rfl,hL2,sm⟩
   refine ⟨L,_,rfl,SqL.of hL2,?_⟩
   rw [all_rep]
   refine ⟨_,rfl,iteF ?_⟩
   have hw0:ls[0].length=w:=hb.wid _ (List.getElem_mem _)
   have hz:ls[0].length≤sizeLine:=Nat.le_of_lt (small1000 (by omega))
   refine ⟨_,rfl,p,_,_,.str (S ls[0]),rfl,rfl,SqT.of (sm _ _ hp),atI_nat (j:=0) (Ts_at (by simp [h0])),_,rfl,hz,?_⟩
   refine ⟨_,rfl,_,_,rfl,rfl,true,by rw [hw0];simp;omega,iteT ⟨_,_,rfl,rfl,true,by rw [hw0];simp;omega,iteT ?_⟩⟩
   refine ⟨_,rfl,p,rfl,⟨_,SqT.of (sm _ _ hp)⟩,fun L2 hL3=>comp_tup (xs:=Ts ls) (fun i ys H3=>ys=(List.replicate i true).map V.bl∧H3 L2=some (.lst ys)∧Same H H3) ⟨rfl,upd_same,sm.upd' (sm.free hL3)⟩ (fun i ys H2 _ h=>SqT.of (h.2.2 _ _ hp)) ?_ ?_⟩
   ·rintro i x ys H3 hi ⟨rfl,hL4,sm3⟩
    obtain ⟨l,hl,rfl⟩:=Ts_get hi
    have hil:i < (Ts ls).length:=(List.getElem?_eq_some_iff.mp hi).1
    have hlw:l.length=w:=hb.wid _ (List.mem_of_getElem? hl)
    refine ⟨_,rfl,_,rfl,Nat.le_of_lt (small1000 (by omega)),_,rfl,rfl,hL4,by rw [List.length_map,List.length_replicate];exact small1000 (by omega),Nxt.mk hil ⟨?_,upd_same,sm3.upd' (sm.free hL3)⟩⟩
    rw [hlw,hw0,decide_eq_true rfl]
    exact snoc_rep i
   ·rintro ys H3 ⟨rfl,hL4,sm3⟩
    refine ⟨L2,_,rfl,SqL.of hL4,?_⟩
    rw [all_rep]
    exact q H3 sm3
theorem flat_len {r w:Nat} {ls:List (List Nat)} (h:Blk r w ls):ls.flatten.length=r * w:=by
 rw [List.length_flatten]
 have:ls.map List.length=List.replicate r w:=by
  rw [← h.len,List.eq_replicate_iff]
  exact ⟨by simp,fun b hb=>by obtain ⟨l,hl,rfl⟩:=List.mem_map.mp hb;exact h.wid l hl⟩
 rw [this,List.sum_replicate_nat]
def spRows:Sp:=fun vs H Q _=>∃ (p:Addr) (ls:List (List Nat)) (r w:Nat),vs=[.ref p]∧H p=some (.tup (Ts ls))∧Blk r w ls∧1≤r∧r≤9∧1≤w∧w≤9∧(∀ l∈ls,∀ c∈l,roC c)∧∀ H',Same H H'→Q (.bl true) H'
theorem ok_are_rows (D:DefAt K mg "are_rows" s_are_rows ["thing"]) (n_all:mg "all"=none) (g_FREE:∃ t,mg "FREE"=some (.str (S [46]) t)) (D_is_block:Def P w K mg base "is_block" 1 ["thing"] spBlock) (D_is_sign:Def P w K mg base "is_sign" 1 ["thing"] (spSign K)):Def P w K mg base "are_rows" 2 ["thing"] spRows:=by
 refine D.qok sc_are_rows (fun vs H Q E h=>?_) (fun f cdv A outer s H vs Q E hr h=>?_)
 ·obtain ⟨p,ls,r,w,rfl,_⟩:=h
  rfl
 ·obtain ⟨p,ls,r,w,rfl,hp,hb,r1,r9,w1,w9,hc,q⟩:=h
  have hrw:r * w≤81:=Nat.mul_le_mul r9 w9
  have hfl:=flat_len hb
  refine ⟨_,(qss_one (qs_ret (qe_and (qe_own D_is_block (hr.mono (by decide)) rfl (qa_cons (qv 0) qa_nil)) (qe_one (qe_callB (call_all rfl) (by rfl) n_all boot_allX (qa_cons (qe_comp rfl (CompOk.of sc_are_rows.nd (by kernel_rfl)) (qi_str (qe_bm PySem.F.plainAttrs_str PySem.F.slot_str_join PySem.F.type_str_join mt_joinT (qe_strS [] (by decide +kernel)) (qa_cons (qv 0) qa_nil))) (fun _ _ _ _ _=>qts_nil) (fun _ _ _ _ _=>(qe_or (qe_cmpR op_eqS (qv 0) (qe_gS (by rfl) g_FREE) (nomark _)) (qe_one (qe_own D_is_sign (hr.mono (by decide)) rfl (qa_cons (qv 0) qa_nil)))))) qa_nil)))))),?_⟩
  refine ⟨_,rfl,p,ls,r,w,rfl,hp,hb,r1,r9,w1,w9,fun H1 s1=>⟨true,rfl,iteT ?_⟩⟩
  refine ⟨rfl,_,rfl,p,ls,rfl,rfl,SqT.of (s1 _ _ hp),by omega,_,rfl,fun L hL=>?_⟩
  refine comp_str (fun i ys H2=>ys=(List.replicate i true).map V.bl∧H2 L=some (.lst ys)∧Same H H2) ⟨rfl,upd_same,s1.upd' (s1.free hL)⟩ ?_ ?_
  ·rintro i c ys H2 hi ⟨rfl,hL2,sm⟩
   have hil:i < ls.flatten.length:=(List.getElem?_eq_some_iff.mp hi).1
   obtain ⟨l,hl,hcl⟩:=List.mem_flatten.mp (List.mem_of_getElem? hi)
   have fin:H2 L=some (.lst ((List.replicate i true).map V.bl))∧((List.replicate i true).map V.bl).length < sizeLine∧Nxt ls.flatten.length i ((List.replicate i true).map V.bl ++ [V.bl true]=(List.replicate (i + 1) true).map V.bl∧upd H2 L (.lst ((List.replicate i true).map V.bl ++ [V.bl true])) L=some (.lst ((List.replicate i true).map V.bl ++ [V.bl true]))∧Same H (upd H2 L (.lst ((List.replicate i true).map V.bl ++ [V.bl true])))):=
    ⟨hL2,by rw [List.length_map,List.length_replicate];exact small1000 (by omega),Nxt.mk hil ⟨snoc_rep i,upd_same,sm.upd' (s1.free hL)⟩⟩
   refine ⟨_,rfl,[c],[46],rfl,rfl,_,rfl,?_⟩
   rcases hc l hl c hcl with e | e
   ·subst e
    rw [decide_eq_true rfl]
    exact iteT fin
   ·by_cases h46:[c]=[46]
    ·rw [decide_eq_true h46];exact iteT fin
    ·rw [decide_eq_false h46]
     refine iteF ⟨_,rfl,.inr ⟨[c],rfl,by show 1≤1000;decide,?_⟩⟩
     rw [show sgB [c]=true from e]
     exact fin
  ·rintro ys H2 ⟨rfl,hL2,sm⟩
   refine ⟨L,_,rfl,SqL.of hL2,?_⟩
   rw [all_rep]
   exact q H2 sm
def spMarks:Sp:=fun vs H Q _=>∃ (p:Addr) (ls:List (List Nat)) (r w:Nat),vs=[.ref p]∧H p=some (.tup (Ts ls))∧Blk r w ls∧1≤r∧r≤9∧1≤w∧w≤9∧(∀ l∈ls,∀ c∈l,mkC c)∧∀ H',Same H H'→Q (.bl true) H'
theorem ok_are_marks (D:DefAt K mg "are_marks" s_are_marks ["thing"]) (n_all:mg "all"=none) (g_MARKS:∃ t,mg "MARKS"=some (.str (S MK) t)) (D_is_block:Def P w K mg base "is_block" 1 ["thing"] spBlock):Def P w K mg base "are_marks" 2 ["thing"] spMarks:=by
 refine D.qok sc_are_marks (fun vs H Q E h=>?_) (fun f cdv A outer s H vs Q E hr h=>?_)
 ·obtain ⟨p,ls,r,w,rfl,_⟩:=h
  rfl
 ·obtain ⟨p,ls,r,w,rfl,hp,hb,r1,r9,w1,w9,hc,q⟩:=h
  have hrw:r * w≤81:=Nat.mul_le_mul r9 w9
  have hfl:=flat_len hb
  refine ⟨_,(qss_one (qs_ret (qe_and (qe_own D_is_block (hr.mono (by decide)) rfl (qa_cons (qv 0) qa_nil)) (qe_one (qe_callB (call_all rfl) (by rfl) n_all boot_allX (qa_cons (qe_comp rfl (CompOk.of sc_are_marks.nd (by kernel_rfl)) (qi_str (qe_bm PySem.F.plainAttrs_str PySem.F.slot_str_join PySem.F.type_str_join mt_joinT (qe_strS [] (by decide +kernel)) (qa_cons (qv 0) qa_nil))) (fun _ _ _ _ _=>qts_nil) (fun _ _ _ _ _=>(qe_cmpR op_inS (qv 0) (qe_gS (by rfl) g_MARKS) rfl))) qa_nil)))))),?_⟩
  refine ⟨_,rfl,p,ls,r,w,rfl,hp,hb,r1,r9,w1,w9,fun H1 s1=>⟨true,rfl,iteT ?_⟩⟩
  refine ⟨rfl,_,rfl,p,ls,rfl,rfl,SqT.of (s1 _ _ hp),by omega,_,rfl,fun L hL=>?_⟩
  refine comp_str (fun i ys H2=>ys=(List.replicate i true).map V.bl∧H2 L=some (.lst ys)∧Same H H2) ⟨rfl,upd_same,s1.upd' (s1.free hL)⟩ ?_ ?_
  ·rintro i c ys H2 hi ⟨rfl,hL2,sm⟩
   have hil:i < ls.flatten.length:=(List.getElem?_eq_some_iff.mp hi).1
   obtain ⟨l,hl,hcl⟩:=List.mem_flatten.mp (List.mem_of_getElem? hi)
   refine ⟨_,rfl,c,MK,rfl,rfl,hL2,by rw [List.length_map,List.length_replicate];exact small1000 (by omega),Nxt.mk hil ⟨?_,upd_same,sm.upd' (s1.free hL)⟩⟩
   rw [decide_eq_true (show c∈MK from hc l hl c hcl)]
   exact snoc_rep i
  ·rintro ys H2 ⟨rfl,hL2,sm⟩
   refine ⟨L,_,rfl,SqL.of hL2,?_⟩
   rw [all_rep]
   exact q H2 sm
def spCellOf (K:PySem.W.Frag):Sp:=fun vs H Q _=>∃ (p:Addr) (ls:List (List Nat)) (r w:Nat) (i j:Int),vs=[.ref p,.int i,.int j]∧SqT K H p (Ts ls)∧Blk r w ls∧1≤r∧r≤9∧w≤9∧Q (.bl (decide (0≤i∧i < r∧0≤j∧j < w))) H
theorem ok_is_cell_of (D:DefAt K mg "is_cell_of" s_is_cell_of ["rows","row","column"]) (n_len:mg "len"=none) (D_is_whole:Def P w K mg base "is_whole" 1 ["thing"] spWhole):Def P w K mg base "is_cell_of" 2 ["rows","row","column"] (spCellOf K):=by
 refine D.qok sc_is_cell_of (fun vs H Q E h=>?_) (fun f cdv A outer s H vs Q E hr h=>?_)
 ·obtain ⟨p,ls,r,w,i,j,rfl,_⟩:=h
  rfl
 ·obtain ⟨p,ls,r,w,i,j,rfl,hp,hb,r1,r9,w9,q⟩:=h
  have hln:(Ts ls).length=r:=by rw [List.length_map,hb.len]
  have h0:0 < ls.length:=by rw [hb.len];omega
  have hw0:ls[0].length=w:=hb.wid _ (List.getElem_mem _)
  refine ⟨_,(qss_cons (qs_if (QW.qt (qw_or (qt_not (qt_val (qe_own D_is_whole (hr.mono (by decide)) rfl (qa_cons (qv 1) qa_nil)))) (qw_or1 (qt_not (qt_val (qe_own D_is_whole (hr.mono (by decide)) rfl (qa_cons (qv 2) qa_nil))))))) (qss_one (qs_ret qe_bl)) qss_nil) (qss_one (qs_ret (qe_and (qe_chain op_le op_lt qe_int (qv 1) (qe_callB call_len_seq (by rfl) n_len PySem.boot_len (qa_cons (qv 0) qa_nil))) (qe_one (qe_chain op_le op_lt qe_int (qv 2) (qe_callB call_lenS (by rfl) n_len PySem.boot_len (qa_cons (qe_ix ix_tup (qv 0) qe_int (fun _ _=>rfl)) qa_nil)))))))),?_⟩
  refine ⟨_,rfl,i,rfl,_,rfl,iteF ⟨_,rfl,j,rfl,_,rfl,iteF ?_⟩⟩
  refine ⟨_,rfl,_,_,rfl,rfl,_,rfl,?_⟩
  by_cases h1:0≤i
  ·rw [decide_eq_true h1]
   refine iteT ⟨_,rfl,p,_,rfl,.inr hp,_,_,rfl,rfl,_,rfl,?_⟩
   rw [hln]
   by_cases h2:i < (r:Int)
   ·rw [decide_eq_true h2]
    refine iteT ⟨_,rfl,_,_,rfl,rfl,_,rfl,?_⟩
    by_cases h3:0≤j
    ·rw [decide_eq_true h3]
     refine iteT ⟨_,rfl,p,_,_,.str (S ls[0]),rfl,rfl,hp,atI_nat (j:=0) (Ts_at (by simp [h0])),_,rfl,Nat.le_of_lt (small1000 (by omega)),_,_,rfl,rfl,?_⟩
     rw [hw0]
     simpa [h1,h2,h3] using q
    ·rw [decide_eq_false h3]
     refine iteF ?_
     simpa [h1,h2,h3] using q
   ·rw [decide_eq_false h2]
    refine iteF ?_
    simpa [h1,h2] using q
  ·rw [decide_eq_false h1]
   refine iteF ⟨_,rfl,iteF ?_⟩
   simpa [h1] using q
def spBegin (K:PySem.W.Frag):Sp:=fun vs H Q _=>∃ (p b:Addr) (ls:List (List Nat)) (r w:Nat) (i j:Nat),vs=[.ref p,.ref b]∧H p=some (.tup (Ts ls))∧H b=some (.tup [.int i,.int j])∧Blk r w ls∧1≤r∧r≤9∧w≤9∧i < r∧j < w∧Q (.bl true) H
theorem ok_is_begin_of (D:DefAt K mg "is_begin_of" s_is_begin_of ["rows","thing"]) (n_len:mg "len"=none) (n_tuple:mg "tuple"=none) (n_isinstance:mg "isinstance"=none) (D_is_cell_of:Def P w K mg base "is_cell_of" 2 ["rows","row","column"] (spCellOf K)):Def P w K mg base "is_begin_of" 3 ["rows","thing"] (spBegin K):=by
 refine D.qok sc_is_begin_of (fun vs H Q E h=>?_) (fun f cdv A outer s H vs Q E hr h=>?_)
 ·obtain ⟨p,b,ls,r,w,i,j,rfl,_⟩:=h
  rfl
 ·obtain ⟨p,b,ls,r,w,i,j,rfl,hp,hb,hB,r1,r9,w9,hi,hj,q⟩:=h
  refine ⟨_,(qss_one (qs_ret (qe_and (qe_callB call_isinst (by rfl) n_isinstance PyProof.Rows.boot_isinstance (qa_cons (qv 1) (qa_cons (qe_bltn (v:=.ty "tuple") (by rfl) n_tuple PyProof.Rows.boot_tuple rfl) qa_nil))) (qe_and (qe_cmpR op_eq (qe_callB call_len_seq (by rfl) n_len PySem.boot_len (qa_cons (qv 1) qa_nil)) qe_int (nomark _)) (qe_one (qe_own D_is_cell_of (hr.mono (by decide)) rfl (qa_cons (qv 0) (qa_cons (qe_ix ix_tup (qv 1) qe_int (fun _ _=>rfl)) (qa_cons (qe_ix ix_tup (qv 1) qe_int (fun _ _=>rfl)) qa_nil))))))))),?_⟩
  refine ⟨_,rfl,_,_,_,true,rfl,.tup hb,(by kernel_rfl),true,rfl,iteT ?_⟩
  refine ⟨_,rfl,b,_,rfl,.inr (SqT.of hb),rfl,true,rfl,iteT ?_⟩
  refine ⟨_,rfl,_,rfl,b,_,_,.int i,rfl,rfl,SqT.of hb,atI_nat (j:=0) rfl,_,rfl,b,_,_,.int j,rfl,rfl,SqT.of hb,atI_nat (j:=1) rfl,?_⟩
  refine ⟨p,ls,r,w,i,j,rfl,SqT.of hp,hB,r1,r9,w9,?_⟩
  rw [decide_eq_true ⟨by omega,by omega,by omega,by omega⟩]
  exact q
def spBoard:Sp:=fun vs H Q _=>∃ (pr pm pb:Addr) (r w:Nat) (rows marks:List (List Nat)) (i j:Nat),vs=[.ref pr,.ref pm,.ref pb]∧H pr=some (.tup (Ts rows))∧H pm=some (.tup (Ts marks))∧H pb=some (.tup [.int i,.int j])∧Brd r w rows marks i j∧∀ H',Same H H'→Q (.bl true) H'
theorem ok_is_board (D:DefAt K mg "is_board" s_is_board ["rows","marks","begin"]) (n_len:mg "len"=none) (D_are_rows:Def P w K mg base "are_rows" 2 ["thing"] spRows) (D_are_marks:Def P w K mg base "are_marks" 2 ["thing"] spMarks) (D_is_begin_of:Def P w K mg base "is_begin_of" 3 ["rows","thing"] (spBegin K)) :
  Def P w K mg base "is_board" 4 ["rows","marks","begin"] spBoard:=by
 refine D.qok sc_is_board (fun vs H Q E h=>?_) (fun f cdv A outer s H vs Q E hr h=>?_)
 ·obtain ⟨pr,pm,pb,r,w,rows,marks,i,j,rfl,_⟩:=h
  rfl
 ·obtain ⟨pr,pm,pb,r,w,rows,marks,i,j,rfl,hr',hm,hb,B,q⟩:=h
  have l1:(Ts rows).length=r:=by rw [List.length_map,B.br.len]
  have l2:(Ts marks).length=r:=by rw [List.length_map,B.bm.len]
  have h0:0 < rows.length:=by rw [B.br.len];exact B.r1
  have h0':0 < marks.length:=by rw [B.bm.len];exact B.r1
  have w0:rows[0].length=w:=B.br.wid _ (List.getElem_mem _)
  have w0':marks[0].length=w:=B.bm.wid _ (List.getElem_mem _)
  have w9:=B.w9
  refine ⟨_,(qss_cons (qs_if (QW.qt (qw_or (qt_not (qt_val (qe_own D_are_rows (hr.mono (by decide)) rfl (qa_cons (qv 0) qa_nil)))) (qw_or1 (qt_not (qt_val (qe_own D_are_marks (hr.mono (by decide)) rfl (qa_cons (qv 1) qa_nil))))))) (qss_one (qs_ret qe_bl)) qss_nil) (qss_cons (qs_if (QW.qt (qw_or (qt_cmpR op_ne (qe_callB call_len_seq (by rfl) n_len PySem.boot_len (qa_cons (qv 1) qa_nil)) (qe_callB call_len_seq (by rfl) n_len PySem.boot_len (qa_cons (qv 0) qa_nil)) (nomark _)) (qw_or1 (qt_cmpR op_ne (qe_callB call_lenS (by rfl) n_len PySem.boot_len (qa_cons (qe_ix ix_tup (qv 1) qe_int (fun _ _=>rfl)) qa_nil)) (qe_callB call_lenS (by rfl) n_len PySem.boot_len (qa_cons (qe_ix ix_tup (qv 0) qe_int (fun _ _=>rfl)) qa_nil)) (nomark _))))) (qss_one (qs_ret qe_bl)) qss_nil) (qss_one (qs_ret (qe_own D_is_begin_of (hr.mono (by decide)) rfl (qa_cons (qv 0) (qa_cons (qv 2) qa_nil))))))),?_⟩
  refine ⟨_,rfl,pr,rows,r,w,rfl,hr',B.br,B.r1,B.r9,B.w1,B.w9,B.cr,fun H1 s1=>⟨_,rfl,iteF ?_⟩⟩
  refine ⟨_,rfl,pm,marks,r,w,rfl,s1 _ _ hm,B.bm,B.r1,B.r9,B.w1,B.w9,B.cm,fun H2 s2=>⟨_,rfl,iteF ?_⟩⟩
  have s12:=s1.trans s2
  refine ⟨_,rfl,pm,_,rfl,.inr (SqT.of (s12 _ _ hm)),_,rfl,pr,_,rfl,.inr (SqT.of (s12 _ _ hr')),rfl,_,rfl,?_⟩
  refine iteNS (by rw [l1,l2]) ?_
  refine ⟨_,rfl,pm,_,_,.str (S marks[0]),rfl,rfl,SqT.of (s12 _ _ hm),atI_nat (j:=0) (Ts_at (by simp [h0'])),_,rfl,Nat.le_of_lt (small1000 (by omega)),_,rfl,pr,_,_,.str (S rows[0]),rfl,rfl,SqT.of (s12 _ _ hr'),atI_nat (j:=0) (Ts_at (by simp [h0])),_,rfl,Nat.le_of_lt (small1000 (by omega)),rfl,_,rfl,?_⟩
  refine iteNS (by rw [w0,w0']) ?_
  refine ⟨_,rfl,_,rfl,pr,pb,rows,r,w,i,j,rfl,s12 _ _ hr',s12 _ _ hb,B.br,B.r1,B.r9,B.w9,B.bi,B.bj,?_⟩
  exact q H2 s12
structure BoardCls (K:PySem.W.Frag) (C:Addr):Prop where
 cl:Cls K C
 nr:NoAttr K C "rows"
 nm:NoAttr K C "marks"
 nb:NoAttr K C "begin"
structure BoardAt (C:Addr) (H:Hp) (p:Addr) (r w:Nat) (rows marks:List (List Nat)) (i j:Nat):Prop where
 ex:∃ dx pr pm pb,H p=some (.ins C dx [("rows",.ref pr),("marks",.ref pm),("begin",.ref pb)])∧H pr=some (.tup (Ts rows))∧H pm=some (.tup (Ts marks))∧H pb=some (.tup [.int i,.int j])
 ok:Brd r w rows marks i j
theorem BoardAt.mv {C:Addr} {H H':Hp} {p:Addr} {r w:Nat} {rows marks:List (List Nat)} {i j:Nat} (B:BoardAt C H p r w rows marks i j) (s:Same H H'):BoardAt C H' p r w rows marks i j:=by
 obtain ⟨⟨dx,pr,pm,pb,a,b,c,d⟩,o⟩:=B
 exact ⟨⟨dx,pr,pm,pb,s _ _ a,s _ _ b,s _ _ c,s _ _ d⟩,o⟩
def spBInit (C:Addr):Sp:=fun vs H Q _=>∃ (p dx pr pm pb:Addr) (r w:Nat) (rows marks:List (List Nat)) (i j:Nat),vs=[.ref p,.ref pr,.ref pm,.ref pb]∧H p=some (.ins C dx [])∧H pr=some (.tup (Ts rows))∧H pm=some (.tup (Ts marks))∧H pb=some (.tup [.int i,.int j])∧Brd r w rows marks i j∧
 ∀ H',(∀ b o,H b=some o→b≠p→H' b=some o)→H' p=some (.ins C dx [("rows",.ref pr),("marks",.ref pm),("begin",.ref pb)])→Q .non H'
theorem ok_board_init {f C:Addr} {fd:FuncData} (F:Fun K "__init__" "Board.__init__" s_Board_init f fd) (T:BoardCls K C) (D_is_board:Def P w K mg base "is_board" 4 ["rows","marks","begin"] spBoard):FnOk P w K mg base CX0 5 f fd ["self","rows","marks","begin"] (spBInit C):=by
 refine F.qok sc_Board_init (fun vs H Q E h=>?_) (fun cdv A outer s H vs Q E hr h=>?_)
 ·obtain ⟨p,dx,pr,pm,pb,r,w,rows,marks,i,j,rfl,_⟩:=h
  rfl
 ·obtain ⟨p,dx,pr,pm,pb,r,w,rows,marks,i,j,rfl,hp,hr',hm,hb,B,q⟩:=h
  refine ⟨_,(qss_cons (qs_if (qt_not (qt_val (qe_own D_is_board (hr.mono (by decide)) rfl (qa_cons (qv 1) (qa_cons (qv 2) (qa_cons (qv 3) qa_nil)))))) qss_never qss_nil) (qss_cons (qs_fld (qv 0) (qv 1) rfl) (qss_cons (qs_fld (qv 0) (qv 2) rfl) (qss_one (qs_fld (qv 0) (qv 3) rfl))))),?_⟩
  refine ⟨_,rfl,_,rfl,_,rfl,pr,pm,pb,r,w,rows,marks,i,j,rfl,hr',hm,hb,B,fun H1 s1=>⟨_,rfl,iteF ?_⟩⟩
  refine ⟨_,rfl,_,rfl,p,C,dx,_,rfl,s1 _ _ hp,T.cl,T.nr,by show 0 < 1000;decide,?_⟩
  refine ⟨_,rfl,_,rfl,p,C,dx,_,rfl,upd_same,T.cl,T.nm,by show 1 < 1000;decide,?_⟩
  refine ⟨_,rfl,_,rfl,p,C,dx,_,rfl,upd_same,T.cl,T.nb,by show 2 < 1000;decide,?_⟩
  refine q _ (fun b o e hne=>?_) ?_
  ·rw [upd_ne hne,upd_ne hne,upd_ne hne];exact s1 _ _ e
  ·exact upd_same
end
end My
end
section
set_option Elab.async false
set_option linter.all false
set_option maxRecDepth 100000
set_option maxHeartbeats 2000000
namespace My
open PySem L2
section
variable {P:Program} {w:World} {K:PySem.W.Frag} {mg:Str→Option Value} {base:Heap}
def spDraw:Sp:=fun vs H Q _=>∃ (c:Int) (j:Nat),vs=[.int c,.int j]∧j≤1000∧∀ v:Int,Q (.int v) H
theorem ok_draw (D:DefAt K mg "_law_draw" s_draw ["_law_cell","_law_j"]):Def P w K mg base "_law_draw" 1 ["_law_cell","_law_j"] spDraw:=by
 refine D.qok sc_draw (fun vs H Q E h=>?_) (fun f cdv A outer s H vs Q E hr h=>?_)
 ·obtain ⟨c,j,rfl,_⟩:=h
  rfl
 ·obtain ⟨c,j,rfl,hj,q⟩:=h
  refine ⟨_,(qss_cons (qs_set (i:=2) sc_draw.nd rfl (Or.inl rfl) (qe_op op_mod (qe_op op_add (qe_op op_add (qe_op op_add (qe_op op_mul (qe_op op_mod (qv 0) qe_int) qe_int) (qe_op op_mul (qe_op op_mul qe_int (qv 1)) (qv 1))) (qe_op op_mul qe_int (qv 1))) qe_int) qe_int)) (qss_cons (qs_set (i:=2) sc_draw.nd rfl (Or.inl rfl) (qe_op op_mod (qe_op op_add (qe_op op_mul (qv 2) qe_int) (qe_op op_mul qe_int (qv 1))) qe_int)) (qss_one (qs_ret (qe_op op_add (qv 2) (qe_op op_mul qe_int (qe_op op_mod (qe_op op_fdivB (qv 0) (qe_op op_add (qv 1) qe_int)) (qe_op op_pow qe_int qe_int)))))))),?_⟩
  refine ⟨_,rfl,_,_,rfl,rfl,(by show (0:Int) < 2147483647;decide),_,_,rfl,rfl,.inr ⟨by decide,by decide⟩,_,rfl,_,_,rfl,rfl,.inl ⟨by decide,by decide⟩,_,rfl,_,_,rfl,rfl,.inr ⟨by omega,by omega⟩,_,_,rfl,rfl,_,rfl,_,_,rfl,rfl,.inl ⟨by decide,by decide⟩,_,_,rfl,rfl,_,_,rfl,rfl,_,_,rfl,rfl,(by show (0:Int) < 2147483629;decide),?_⟩
  refine ⟨_,rfl,_,_,rfl,rfl,.inr ⟨by decide,by decide⟩,_,rfl,_,_,rfl,rfl,.inl ⟨by decide,by decide⟩,_,_,rfl,rfl,_,_,rfl,rfl,(by show (0:Int) < 2147483587;decide),?_⟩
  exact ⟨_,rfl,_,rfl,_,rfl,_,_,rfl,rfl,_,_,rfl,rfl,⟨by show (0:Int) < (j:Int) + 2;omega,Nat.lt_of_le_of_lt (Nat.log2_le_self _) (by show ((j:Int) + 2).natAbs < 9000;omega)⟩,_,_,rfl,rfl,⟨by decide,by decide,by decide⟩,_,_,rfl,rfl,(by show (0:Int) < 10 ^ (61:Int).toNat;decide +kernel),_,_,rfl,rfl,.inl ⟨by decide,by decide⟩,_,_,rfl,rfl,q _⟩
def spLetC:Sp:=fun vs H Q _=>∃ c:Int,vs=[.int c]∧∀ (ls:List Nat) (H':Hp),Same H H'→Alph ls→Q (.str (S ls)) H'
theorem six_at (x:Int):∃ n:Nat,atI [V.int 1,V.int 3,V.int 5,V.int 7,V.int 9,V.int 11] (x % 6)=some (.int (n:Int))∧n≤11:=by
 obtain ⟨v,hv,hm⟩:=at_modA (xs:=[V.int 1,V.int 3,V.int 5,V.int 7,V.int 9,V.int 11]) (n:=6) rfl (by decide) x
 simp only [List.mem_cons,List.not_mem_nil,or_false] at hm
 rcases hm with e | e | e | e | e | e
 ·exact ⟨1,e ▸ hv,by decide⟩
 ·exact ⟨3,e ▸ hv,by decide⟩
 ·exact ⟨5,e ▸ hv,by decide⟩
 ·exact ⟨7,e ▸ hv,by decide⟩
 ·exact ⟨9,e ▸ hv,by decide⟩
 ·exact ⟨11,e ▸ hv,by decide⟩
theorem ok_letters (D:DefAt K mg "_law_letters" s_letters ["_law_cell"]) (n_range:mg "range"=none):Def P w K mg base "_law_letters" 1 ["_law_cell"] spLetC:=by
 refine D.qok sc_letters (fun vs H Q E h=>?_) (fun f cdv A outer s H vs Q E hr h=>?_)
 ·obtain ⟨c,rfl,_⟩:=h
  rfl
 ·obtain ⟨c,rfl,q⟩:=h
  refine ⟨_,(qss_cons (qs_set (i:=1) sc_letters.nd rfl (Or.inr rfl) (qe_strS AL (by decide +kernel))) (qss_cons (qs_if (qt_cmpR op_eq (qe_op op_mod (qv 0) qe_int) qe_int (nomark _)) (qss_one (qs_ret (qv 1))) qss_nil) (qss_cons (qs_set (i:=2) sc_letters.nd rfl (Or.inr rfl) (qe_ix ix_list (qe_lst (qa_cons qe_int (qa_cons qe_int (qa_cons qe_int (qa_cons qe_int (qa_cons qe_int (qa_cons qe_int qa_nil))))))) (qe_op op_mod (qe_op op_fdiv (qv 0) qe_int) qe_int) (fun _ _=>rfl))) (qss_one (qs_ret (qe_bm PySem.F.plainAttrs_str PySem.F.slot_str_join PySem.F.type_str_join mt_join (qe_strS [] (by decide +kernel)) (qa_cons (qe_comp rfl (CompOk.of sc_letters.nd (by kernel_rfl)) (qi_range1 (by rfl) n_range (qa_cons (qe_op op_add qe_int (qe_op op_mod (qe_op op_fdiv (qv 0) qe_int) qe_int)) qa_nil)) (fun _ _ _ _ _=>qts_nil) (fun _ _ _ _ _=>(qe_ix ix_S (qv 2) (qe_op op_mod (qe_op op_add (qe_op op_fdiv (qv 1) qe_int) (qe_op op_mul (qv 0) (qv 3))) qe_int) (fun _ _=>rfl)))) qa_nil))))))),?_⟩
  refine ⟨_,rfl,_,_,rfl,rfl,(by show (0:Int) < 8;decide),rfl,_,rfl,ite2 (fun _=>⟨_,rfl,q AL H (Same.refl _) ⟨by decide,by decide,AL_az⟩⟩) (fun _=>?_)⟩
  refine ⟨by show 6≤sizeLine;decide,fun t ht=>?_⟩
  obtain ⟨n,hn,hn11⟩:=six_at (c / 8)
  refine ⟨_,rfl,_,_,rfl,rfl,⟨by decide,by decide⟩,_,_,rfl,rfl,(by show (0:Int) < 6;decide),t,_,_,_,rfl,rfl,SqL.of upd_same,hn,?_⟩
  have s1:Same H (upd H t (HO.lst [V.int 1,V.int 3,V.int 5,V.int 7,V.int 9,V.int 11])):=Same.upd ht
  generalize upd H t (HO.lst [V.int 1,V.int 3,V.int 5,V.int 7,V.int 9,V.int 11])=H1 at s1 ⊢
  obtain ⟨m,em,hm⟩:∃ m:Nat,2 + c / 7 % 3=(m:Int)∧2≤m∧m≤4:=⟨(2 + c / 7 % 3).toNat,by omega,by omega,by omega⟩
  refine ⟨rfl,_,rfl,_,_,rfl,rfl,⟨by decide,by decide⟩,_,_,rfl,rfl,(by show (0:Int) < 3;decide),_,_,rfl,rfl,_,rfl,by omega,by omega,?_⟩
  intro M hM
  rw [em,Int.toNat_natCast]
  refine comp_range (lo:=0) (n:=m) (fun i ys H2=>∃ cs:List Nat,ys=Ts (ones cs)∧cs.length=i∧(∀ c∈cs,isLet c)∧H2 M=some (.lst ys)∧Same H1 H2) ⟨[],rfl,rfl,fun c h=>by simp at h,upd_same,Same.upd hM⟩ ?_ ?_
  ·rintro i ys H2 hi ⟨cs,rfl,lc,okc,hM2,sm⟩
   obtain ⟨x,hx,hxm⟩:=at_modA (xs:=AL) (n:=26) (by decide) (by decide) (c / 48 + (0 + (i:Int)) * (n:Int))
   refine ⟨_,rfl,_,rfl,_,_,rfl,rfl,⟨by decide,by decide⟩,_,rfl,_,rfl,_,_,rfl,rfl,.inr ⟨by omega,by omega⟩,_,_,rfl,rfl,_,_,rfl,rfl,(by show (0:Int) < 26;decide),AL,_,x,rfl,rfl,by decide,hx,hM2,?_,Nxt.mk hi ⟨cs ++ [x],by rw [Ts_snoc,ones_snoc],by simp [lc],fun y hy=>?_,upd_same,sm.upd' hM⟩⟩
   ·rw [List.length_map,List.length_map,lc];exact small1000 (by omega)
   ·rcases List.mem_append.mp hy with k | k
    ·exact okc y k
    ·rw [List.mem_singleton.mp k];exact AL_az x hxm
  ·rintro ys H2 ⟨cs,rfl,lc,okc,hM2,sm⟩
   refine ⟨M,ones cs,rfl,rfl,SqL.of hM2,by rw [flat1];omega,?_⟩
   rw [flat1]
   exact q cs H2 (s1.trans sm) ⟨by omega,by omega,okc⟩
def spSgn:Sp:=fun vs H Q _=>∃ (n:Int) (ls:List Nat),vs=[.int n,.str (S ls)]∧Alph ls∧∀ c:Nat,sgC c→Q (.str (S [c])) H
theorem ok_sign (D:DefAt K mg "_law_sign" s_sign ["_law_cell","_law_letters_here"]) (n_len:mg "len"=none):Def P w K mg base "_law_sign" 1 ["_law_cell","_law_letters_here"] spSgn:=by
 refine D.qok sc_sign (fun vs H Q E h=>?_) (fun f cdv A outer s H vs Q E hr h=>?_)
 ·obtain ⟨c,ls,rfl,_⟩:=h
  rfl
 ·obtain ⟨n,ls,rfl,hA,q⟩:=h
  have hl1:=hA.lo
  have hl2:=hA.hi
  have hz:ls.length≤sizeLine:=Nat.le_of_lt (small1000 (by omega))
  refine ⟨_,(qss_cons (qs_set (i:=2) sc_sign.nd rfl (Or.inl rfl) (qe_ix ix_S (qv 1) (qe_op op_mod (qv 0) (qe_callB call_lenS (by rfl) n_len PySem.boot_len (qa_cons (qv 1) qa_nil))) (fun _ _=>rfl))) (qss_cons (qs_if (qt_cmpR op_eq (qe_op op_mod (qe_op op_fdiv (qv 0) qe_int) qe_int) qe_int (nomark _)) (qss_one (qs_ret (qe_bm0 PySem.F.plainAttrs_str PySem.F.slot_str_upper PySem.F.type_str_upper mt_upA (qv 2)))) qss_nil) (qss_one (qs_ret (qv 2))))),?_⟩
  obtain ⟨x,hx,hm⟩:=at_modA (xs:=ls) (n:=ls.length) rfl (by omega) n
  have hx':=hA.az x hm
  refine ⟨_,rfl,_,rfl,_,rfl,ls,rfl,hz,_,_,rfl,rfl,(by show (0:Int) < (ls.length:Int);omega),ls,_,x,rfl,rfl,hz,hx,?_⟩
  refine ⟨_,rfl,_,_,rfl,rfl,⟨by decide,by decide⟩,_,_,rfl,rfl,(by show (0:Int) < 5;decide),rfl,_,rfl,?_⟩
  refine ite2 (fun _=>?_) (fun _=>?_)
  ·refine ⟨_,rfl,rfl,[x],rfl,rfl,by show 1≤1000;decide,fun d hd=>by rw [List.mem_singleton.mp hd];have:=hx'.2;omega,?_⟩
   have eu:[x].map PyProof.Rows.up1=[x - 32]:=by
    rw [List.map_singleton];unfold PyProof.Rows.up1;rw [if_pos (show 97≤x∧x≤122 from hx')]
   rw [eu]
   exact q _ (sgC_up hx')
  ·exact ⟨_,rfl,q x (sgC_az hx')⟩
theorem eight_at (x:Int):∃ n:Int,atI [V.int 0,V.int 1,V.int 1,V.int 2,V.int 2,V.int 3,V.int 4,V.int 1] (x % 8)=some (.int n):=by
 obtain ⟨v,hv,hm⟩:=at_modA (xs:=[V.int 0,V.int 1,V.int 1,V.int 2,V.int 2,V.int 3,V.int 4,V.int 1]) (n:=8) rfl (by decide) x
 simp only [List.mem_cons,List.not_mem_nil,or_false] at hm
 rcases hm with e | e | e | e | e | e | e | e <;> exact ⟨_,e ▸ hv⟩
theorem cut_dot {l:List Nat} {k:Nat} (h:k < l.length):l.take k ++ [46] ++ l.drop (k + 1)=l.set k 46:=by
 rw [List.set_eq_take_append_cons_drop,if_pos h,List.append_assoc];rfl
theorem set_list_mem {R:List (List Nat)} {i:Nat} {x l:List Nat} (h:l∈R.set i x):l∈R∨l=x:=List.mem_or_eq_of_mem_set h
def spRowsK (K:PySem.W.Frag):Sp:=fun vs H Q _=>∃ (a:Addr) (ns:List Int) (ls:List Nat),vs=[.ref a,.str (S ls)]∧SqL K H a (ns.map V.int)∧Alph ls∧
 ∀ (p:Addr) (rows:List (List Nat)) (r w:Nat) (H':Hp),Same H H'→H' p=some (.tup (Ts rows))→Blk r w rows→1≤r→r≤9→1≤w→w≤9→(∀ l∈rows,∀ c∈l,roC c)→(∃ i j,i < r∧j < w∧cell rows i j=46)→Q (.ref p) H'
theorem ok_law_rows (D:DefAt K mg "_law_rows" s_rows ["_law_script","_law_letters_here"]) (n_range:mg "range"=none) (n_tuple:mg "tuple"=none) (D_cell_at:Def P w K mg base "_law_cell_at" 1 ["_law_script","_law_k"] (spCell K)) (D_draw:Def P w K mg base "_law_draw" 1 ["_law_cell","_law_j"] spDraw) (D_sign:Def P w K mg base "_law_sign" 1 ["_law_cell","_law_letters_here"] spSgn):Def P w K mg base "_law_rows" 2 ["_law_script","_law_letters_here"] (spRowsK K):=by
 refine D.qok sc_rows (fun vs H Q E h=>?_) (fun f cdv A outer s H vs Q E hr h=>?_)
 ·obtain ⟨a,ns,ls,rfl,_⟩:=h
  rfl
 ·obtain ⟨a,ns,ls,rfl,hS,hA,q⟩:=h
  refine ⟨_,(qss_cons (qs_set (i:=2) sc_rows.nd rfl (Or.inl rfl) (qe_own D_cell_at (hr.mono (by decide)) rfl (qa_cons (qv 0) (qa_cons qe_int qa_nil)))) (qss_cons (qs_set (i:=3) sc_rows.nd rfl (Or.inl rfl) (qe_op op_add qe_int (qe_op op_mod (qv 2) qe_int))) (qss_cons (qs_set (i:=4) sc_rows.nd rfl (Or.inl rfl) (qe_op op_add qe_int (qe_op op_mod (qe_op op_fdiv (qv 2) qe_int) qe_int))) (qss_cons (qs_cut (qs_if (qt_cmpR op_eq (qe_op op_mod (qe_op op_fdiv (qv 2) qe_int) qe_int) qe_int (nomark _)) (qss_cons (qs_set (i:=3) sc_rows.nd rfl (Or.inl rfl) (qe_op op_add qe_int (qe_op op_mod (qe_op op_fdiv (qv 2) qe_int) qe_int))) (qss_one (qs_set (i:=4) sc_rows.nd rfl (Or.inl rfl) (qe_op op_add qe_int (qe_op op_mod (qe_op op_fdiv (qv 2) qe_int) qe_int))))) qss_nil)) (qss_cons (qs_set (i:=5) sc_rows.nd rfl (Or.inl rfl) (qe_own D_cell_at (hr.mono (by decide)) rfl (qa_cons (qv 0) (qa_cons qe_int qa_nil)))) (qss_cons (qs_set (i:=6) sc_rows.nd rfl (Or.inl rfl) (qe_ix ix_list (qe_lst (qa_cons qe_int (qa_cons qe_int (qa_cons qe_int (qa_cons qe_int (qa_cons qe_int (qa_cons qe_int (qa_cons qe_int (qa_cons qe_int qa_nil))))))))) (qe_op op_mod (qv 5) qe_int) (fun _ _=>rfl))) (qss_cons (qs_set (i:=7) sc_rows.nd rfl (Or.inl rfl) (qe_op op_fdiv (qv 5) qe_int)) (qss_cons (qs_set (i:=8) sc_rows.nd rfl (Or.inl rfl) (qe_lst qa_nil)) (qss_cons (qs_for PassesOwn.never rfl (qi_range1 (by rfl) n_range (qa_cons (qv 3) qa_nil)) (qg_name (i:=9) sc_rows.nd rfl (Or.inl rfl)) (qss_cons (qs_set (i:=10) sc_rows.nd rfl (Or.inl rfl) (qe_strS [] (by decide +kernel))) (qss_cons (qs_for PassesOwn.never rfl (qi_range1 (by rfl) n_range (qa_cons (qv 4) qa_nil)) (qg_name (i:=11) sc_rows.nd rfl (Or.inl rfl)) (qss_cons (qs_set (i:=12) sc_rows.nd rfl (Or.inl rfl) (qe_own D_draw (hr.mono (by decide)) rfl (qa_cons (qv 5) (qa_cons (qe_op op_add (qe_op op_add qe_int (qe_op op_mul qe_int (qv 9))) (qv 11)) qa_nil)))) (qss_cons (qs_cut (qs_if (qt_cmpR op_eq (qe_op op_mod (qe_op op_fdiv (qv 5) qe_int) qe_int) qe_int (nomark _)) (qss_cons (qs_set (i:=12) sc_rows.nd rfl (Or.inl rfl) (qe_op op_mod (qv 7) qe_int)) (qss_one (qs_set (i:=7) sc_rows.nd rfl (Or.inl rfl) (qe_op op_fdiv (qv 7) qe_int)))) qss_nil)) (qss_one (qs_cut (qs_if (qt_cmpR op_lt (qe_op op_mod (qv 12) qe_int) (qv 6) (nomark _)) (qss_one (qs_set (i:=10) sc_rows.nd rfl (Or.inl rfl) (qe_op op_addS (qv 10) (qe_own D_sign (hr.mono (by decide)) rfl (qa_cons (qe_op op_fdiv (qv 12) qe_int) (qa_cons (qv 1) qa_nil)))))) (qss_one (qs_set (i:=10) sc_rows.nd rfl (Or.inl rfl) (qe_op op_addS (qv 10) (qe_strS [46] (by decide +kernel))))))))))) (qss_one (qs_expr (qe_bm PySem.F.plainAttrs_list PySem.F.slot_list_append PySem.F.type_list_append mt_append (qv 8) (qa_cons (qv 10) qa_nil))))))) (qss_cons (qs_set (i:=13) sc_rows.nd rfl (Or.inl rfl) (qe_op op_mod (qe_op op_fdiv (qv 2) qe_int) (qe_op op_mul (qv 3) (qv 4)))) (qss_cons (qs_set (i:=9) sc_rows.nd rfl (Or.inl rfl) (qe_op op_fdiv (qv 13) (qv 4))) (qss_cons (qs_set (i:=14) sc_rows.nd rfl (Or.inl rfl) (qe_ix ix_list (qv 8) (qv 9) (fun _ _=>rfl))) (qss_cons (qs_set (i:=15) sc_rows.nd rfl (Or.inl rfl) (qe_op op_mod (qv 13) (qv 4))) (qss_cons (qs_asg (qe_op op_addS (qe_op op_addS (qe_slice sl_S (qv 14) qo_none (qo_some (qv 15))) (qe_strS [46] (by decide +kernel))) (qe_slice sl_S (qv 14) (qo_some (qe_op op_add (qv 15) qe_int)) qo_none)) (qg_sub (qv 8) (qv 9) set_list)) (qss_one (qs_ret (qe_callTy call_tuple_of (by rfl) n_tuple PyProof.Rows.boot_tuple (qa_cons (qv 8) qa_nil)))))))))))))))))),?_⟩
  refine ⟨_,rfl,a,ns,1,rfl,hS,fun c=>?_⟩
  refine ⟨_,rfl,_,_,rfl,rfl,(by show (0:Int) < 6;decide),_,_,rfl,rfl,?_⟩
  refine ⟨_,rfl,_,_,rfl,rfl,⟨by decide,by decide⟩,_,_,rfl,rfl,(by show (0:Int) < 6;decide),_,_,rfl,rfl,?_⟩
  have key:∀ x y:Int,0≤x→x < 9→0≤y→y < 9→H=H∧∃ r w:Nat,1≤r∧r≤9∧1≤w∧w≤9∧([some (.ref a),some (.str (S ls)),some (.int c),some (.int (1 + x)),some (.int (1 + y)),none,none,none,none,none,none,none,none,none,none,none]:St)=[some (.ref a),some (.str (S ls)),some (.int c),some (.int r),some (.int w),none,none,none,none,none,none,none,none,none,none,none]:=fun x y x0 x1 y0 y1=>
   ⟨rfl,(1 + x).toNat,(1 + y).toNat,by omega,by omega,by omega,by omega,by rw [show ((1 + x).toNat:Int)=1 + x by omega,show ((1 + y).toNat:Int)=1 + y by omega]⟩
  refine ⟨fun σ' H'=>H'=H∧∃ r w:Nat,1≤r∧r≤9∧1≤w∧w≤9∧σ'=[some (.ref a),some (.str (S ls)),some (.int c),some (.int r),some (.int w),none,none,none,none,none,none,none,none,none,none,none],?_,?_⟩
  ·refine ⟨_,rfl,_,_,rfl,rfl,⟨by decide,by decide⟩,_,_,rfl,rfl,(by show (0:Int) < 8;decide),rfl,_,rfl,ite2 (fun _=>?_) (fun _=>?_)⟩
   ·refine ⟨_,rfl,_,_,rfl,rfl,⟨by decide,by decide⟩,_,_,rfl,rfl,(by show (0:Int) < 9;decide),_,_,rfl,rfl,?_⟩
    refine ⟨_,rfl,_,_,rfl,rfl,⟨by decide,by decide⟩,_,_,rfl,rfl,(by show (0:Int) < 9;decide),_,_,rfl,rfl,?_⟩
    exact key _ _ (Int.emod_nonneg _ (by decide)) (Int.emod_lt_of_pos _ (by decide)) (Int.emod_nonneg _ (by decide)) (Int.emod_lt_of_pos _ (by decide))
   ·exact key _ _ (Int.emod_nonneg _ (by decide)) (Int.lt_trans (Int.emod_lt_of_pos _ (by decide)) (by decide)) (Int.emod_nonneg _ (by decide)) (Int.lt_trans (Int.emod_lt_of_pos _ (by decide)) (by decide))
  rintro σ' H' ⟨rfl,r,w,r1,r9,w1,w9,rfl⟩
  refine ⟨_,rfl,a,ns,2,rfl,hS,fun li=>?_⟩
  refine ⟨by show 8≤sizeLine;decide,fun t ht=>?_⟩
  obtain ⟨fu,hfu⟩:=eight_at li
  refine ⟨_,rfl,_,_,rfl,rfl,(by show (0:Int) < 8;decide),t,_,_,_,rfl,rfl,SqL.of upd_same,hfu,?_⟩
  have s1:Same H' (upd H' t (HO.lst [V.int 0,V.int 1,V.int 1,V.int 2,V.int 2,V.int 3,V.int 4,V.int 1])):=Same.upd ht
  generalize upd H' t (HO.lst [V.int 0,V.int 1,V.int 1,V.int 2,V.int 2,V.int 3,V.int 4,V.int 1])=H1 at s1 ⊢
  refine ⟨_,rfl,_,_,rfl,rfl,⟨by decide,by decide⟩,?_⟩
  refine ⟨by show 0≤sizeLine;decide,fun R hR=>?_⟩
  have hR0:=s1.free hR
  refine ⟨_,rfl,_,rfl,by omega,by omega,?_⟩
  rw [Int.toNat_natCast]
  refine for_range (lo:=0) (n:=r) (fun i σ H2=>∃ (re:Int) (v9 v10 v11 v12:Option V) (rows:List (List Nat)),σ=[some (.ref a),some (.str (S ls)),some (.int c),some (.int r),some (.int w),some (.int li),some (.int fu),some (.int re),some (.ref R),v9,v10,v11,v12,none,none,none]∧Same H' H2∧H2 R=some (.lst (Ts rows))∧rows.length=i∧∀ l∈rows,l.length=w∧∀ c∈l,roC c)
   ⟨_,none,none,none,none,[],rfl,s1.upd' hR0,upd_same,rfl,fun l h=>by simp at h⟩ ?_ ?_
  ·rintro i σ H2 hi ⟨re,v9,v10,v11,v12,rows,rfl,sm,hR2,lr,okr⟩
   refine ⟨_,rfl,_,rfl,by omega,by omega,?_⟩
   rw [Int.toNat_natCast]
   refine for_range (lo:=0) (n:=w) (fun j σ H3=>H3=H2∧∃ (re:Int) (v11 v12:Option V) (cs:List Nat),σ=[some (.ref a),some (.str (S ls)),some (.int c),some (.int r),some (.int w),some (.int li),some (.int fu),some (.int re),some (.ref R),some (.int (0 + (i:Int))),some (.str (S cs)),v11,v12,none,none,none]∧cs.length=j∧∀ c∈cs,roC c)
    ⟨rfl,re,v11,v12,[],rfl,rfl,fun c h=>by simp at h⟩ ?_ ?_
   ·rintro j σ H3 hj ⟨rfl,re,v11,v12,cs,rfl,lc,okc⟩
    have e0:(10:Int) + 9 * (0 + (i:Int)) + (0 + (j:Int))=((10 + 9 * i + j:Nat):Int):=by omega
    refine ⟨_,rfl,_,rfl,_,_,rfl,rfl,.inl ⟨by decide,by decide⟩,_,_,rfl,rfl,_,rfl,_,_,rfl,rfl,li,10 + 9 * i + j,by show [V.int li,V.int (10 + 9 * (0 + (i:Int)) + (0 + (j:Int)))]=_;rw [e0],by omega,fun nu=>?_⟩
    refine ⟨fun σ' H'=>H'=H3∧∃ nu re:Int,σ'=[some (.ref a),some (.str (S ls)),some (.int c),some (.int r),some (.int w),some (.int li),some (.int fu),some (.int re),some (.ref R),some (.int (0 + (i:Int))),some (.str (S cs)),some (.int (0 + (j:Int))),some (.int nu),none,none,none],?_,?_⟩
    ·exact ⟨_,rfl,_,_,rfl,rfl,⟨by decide,by decide⟩,_,_,rfl,rfl,(by show (0:Int) < 2;decide),rfl,_,rfl,ite2 (fun _=>⟨_,rfl,_,_,rfl,rfl,(by show (0:Int) < 2000;decide),_,rfl,_,_,rfl,rfl,⟨by decide,by decide⟩,rfl,_,_,rfl⟩) (fun _=>⟨rfl,_,_,rfl⟩)⟩
    ·rintro σ' H' ⟨rfl,nu,re,rfl⟩
     refine ⟨_,?_,fun σ' H' h=>h⟩
     refine ⟨_,rfl,_,_,rfl,rfl,(by show (0:Int) < 6;decide),_,rfl,_,_,rfl,rfl,_,rfl,ite2 (fun _=>?_) (fun _=>?_)⟩
     ·refine ⟨_,rfl,_,rfl,_,_,rfl,rfl,⟨by decide,by decide⟩,_,rfl,_,ls,rfl,hA,fun z hz=>?_⟩
      refine ⟨cs,_,rfl,rfl,by rw [lc];exact Nat.le_of_lt (small1000 (by simp;omega)),?_⟩
      refine ⟨rfl,re,_,_,cs ++ [z],rfl,by simp [lc],fun e he=>?_⟩
      rcases List.mem_append.mp he with k | k
      ·exact okc e k
      ·rw [List.mem_singleton.mp k];exact .inr hz
     ·refine ⟨_,rfl,cs,_,rfl,rfl,by rw [lc];exact Nat.le_of_lt (small1000 (by simp;omega)),?_⟩
      refine ⟨rfl,re,_,_,cs ++ [46],rfl,by simp [lc],fun e he=>?_⟩
      rcases List.mem_append.mp he with k | k
      ·exact okc e k
      ·rw [List.mem_singleton.mp k];exact .inl rfl
   ·rintro σ H3 ⟨rfl,re,v11,v12,cs,rfl,lc,okc⟩
    refine ⟨_,rfl,.inl ⟨rfl,_,SqL.of hR2⟩,_,rfl,R,_,_,rfl,rfl,hR2,by rw [List.length_map];exact small1000 (by omega),?_⟩
    refine ⟨re,_,_,_,_,rows ++ [cs],rfl,sm.upd' hR0,by rw [upd_same,Ts_snoc],by simp [lr],fun l hl=>?_⟩
    rcases List.mem_append.mp hl with k | k
    ·exact okr l k
    ·rw [List.mem_singleton.mp k];exact ⟨lc,okc⟩
  ·rintro σ H2 ⟨re,v9,v10,v11,v12,rows,rfl,sm,hR2,lr,okr⟩
   have hrw:1≤r * w:=Nat.mul_pos r1 w1
   have emul:(r:Int) * (w:Int)=((r * w:Nat):Int):=by push_cast;rfl
   refine ⟨_,rfl,_,_,rfl,rfl,⟨by decide,by decide⟩,_,rfl,_,rfl,_,_,rfl,rfl,.inl ⟨by omega,by omega⟩,_,_,rfl,rfl,(by show (0:Int) < (r:Int) * (w:Int);rw [emul];omega),?_⟩
   obtain ⟨fr,efr,hfr⟩:∃ fr:Nat,c / 7 % ((r:Int) * (w:Int))=(fr:Int)∧fr < r * w:=by
    rw [emul]
    have h0:=Int.emod_nonneg (c / 7) (show ((r * w:Nat):Int)≠0 by omega)
    have h1:=Int.emod_lt_of_pos (c / 7) (show (0:Int) < ((r * w:Nat):Int) by omega)
    exact ⟨(c / 7 % ((r * w:Nat):Int)).toNat,by omega,by omega⟩
   obtain ⟨ri,eri⟩:∃ ri,ri=fr / w:=⟨_,rfl⟩
   obtain ⟨sp,esp⟩:∃ sp,sp=fr % w:=⟨_,rfl⟩
   have hir:ri < r:=by rw [eri];exact Nat.div_lt_of_lt_mul (by rw [Nat.mul_comm];exact hfr)
   have hjw:sp < w:=by rw [esp];exact Nat.mod_lt _ w1
   have hirl:ri < rows.length:=by rw [lr];exact hir
   have hlw:rows[ri].length=w:=(okr _ (List.getElem_mem _)).1
   have ediv:(fr:Int) / (w:Int)=(ri:Int):=by rw [eri];push_cast;rfl
   have emod:(fr:Int) % (w:Int)=(sp:Int):=by rw [esp];push_cast;rfl
   have hz:∀ n,n≤100→n≤sizeLine:=fun n h=>Nat.le_of_lt (small1000 (by omega))
   dsimp only
   rw [efr]
   refine ⟨_,rfl,_,rfl,_,_,rfl,rfl,⟨by omega,by omega⟩,?_⟩
   dsimp only
   rw [ediv]
   refine ⟨_,rfl,_,rfl,R,_,_,.str (S rows[ri]),rfl,rfl,SqL.of hR2,atI_nat (Ts_at (by simp [hirl])),?_⟩
   refine ⟨_,rfl,_,rfl,_,_,rfl,rfl,(by show (0:Int) < (w:Int);omega),?_⟩
   dsimp only
   rw [emod]
   generalize hl:rows[ri]=l at hlw
   have e1:(sp:Int) + 1=((sp + 1:Nat):Int):=by omega
   refine ⟨_,rfl,_,rfl,_,rfl,l,rfl,hz _ (by omega),?_⟩
   rw [cut_to]
   refine ⟨l.take (sp),[46],rfl,rfl,hz _ (by rw [List.length_take];simp;omega),?_⟩
   refine ⟨_,rfl,_,rfl,_,_,rfl,rfl,_,rfl,l,rfl,hz _ (by omega),?_⟩
   rw [e1,cut_from]
   refine ⟨_,_,rfl,rfl,hz _ (by rw [List.length_append,List.length_take,List.length_drop];simp;omega),?_⟩
   rw [cut_dot (by omega)]
   refine ⟨_,rfl,_,rfl,R,_,_,ri,rfl,rfl,hR2,?_,?_⟩
   ·unfold ixN
    rw [List.length_map,lr,if_pos (by omega),if_pos (by omega)]
    congr 1
   ·have eset:(Ts rows).set (ri) (.str (S (l.set (sp) 46)))=Ts (rows.set (ri) (l.set (sp) 46)):=by unfold Ts;rw [List.map_set]
    rw [eset]
    have hbl:Blk r w (rows.set (ri) (l.set (sp) 46)):=⟨by rw [List.length_set,lr],fun x hx=>by
     rcases set_list_mem hx with k | k
     ·exact (okr x k).1
     ·rw [k,List.length_set];exact hlw⟩
    refine ⟨_,rfl,R,_,rfl,.inl ⟨SqL.of upd_same,fun T hT=>?_⟩⟩
    have s3:=sm.upd' (o:=HO.lst (Ts (rows.set (ri) (l.set (sp) 46)))) hR0
    refine q T _ r w _ (s3.upd' (s3.free hT)) upd_same hbl r1 r9 w1 w9 (fun x hx y hy=>?_) ⟨ri,sp,hir,hjw,?_⟩
    ·rcases set_list_mem hx with k | k
     ·exact (okr x k).2 y hy
     ·rw [k] at hy
      rcases List.mem_or_eq_of_mem_set hy with z | z
      ·exact (okr l (hl ▸ List.getElem_mem _)).2 y z
      ·rw [z];exact .inl rfl
    ·have h1:ri < (rows.set (ri) (l.set (sp) 46)).length:=by rw [List.length_set];exact hirl
     have h2:(rows.set (ri) (l.set (sp) 46))[ri]=l.set (sp) 46:=List.getElem_set_self h1
     rw [cell_eq h1 (by rw [h2,List.length_set];omega)]
     simp [h2]
def MKS2:List Nat:=[50,51,52,98,99,100] ++ (List.replicate 12 [46]).flatten
def spMarksD:Sp:=fun vs H Q _=>∃ (p:Addr) (rows:List (List Nat)) (r w:Nat) (c:Int),vs=[.ref p,.int c]∧H p=some (.tup (Ts rows))∧Blk r w rows∧1≤r∧r≤9∧w≤9∧
 ∀ (t:Addr) (marks:List (List Nat)) (H':Hp),Same H H'→H' t=some (.tup (Ts marks))→Blk r w marks→(∀ l∈marks,∀ c∈l,mkC c)→Q (.ref t) H'
theorem ok_law_marks (D:DefAt K mg "_law_marks" s_marks ["_law_rows_here","_law_cell"]) (n_len:mg "len"=none) (n_range:mg "range"=none) (n_tuple:mg "tuple"=none) (D_draw:Def P w K mg base "_law_draw" 1 ["_law_cell","_law_j"] spDraw):Def P w K mg base "_law_marks" 2 ["_law_rows_here","_law_cell"] spMarksD:=by
 refine D.qok sc_marks (fun vs H Q E h=>?_) (fun f cdv A outer s H vs Q E hr h=>?_)
 ·obtain ⟨p,rows,r,w,c,rfl,_⟩:=h
  rfl
 ·obtain ⟨p,rows,r,w,c,rfl,hp,hb,r1,r9,w9,q⟩:=h
  have hln:(Ts rows).length=r:=by rw [List.length_map,hb.len]
  have h0:0 < rows.length:=by rw [hb.len];omega
  have hw0:rows[0].length=w:=hb.wid _ (List.getElem_mem _)
  refine ⟨_,(qss_cons (qs_set (i:=2) sc_marks.nd rfl (Or.inl rfl) (qe_lst qa_nil)) (qss_cons (qs_for PassesOwn.never rfl (qi_range1 (by rfl) n_range (qa_cons (qe_callB call_len_seq (by rfl) n_len PySem.boot_len (qa_cons (qv 0) qa_nil)) qa_nil)) (qg_name (i:=3) sc_marks.nd rfl (Or.inl rfl)) (qss_cons (qs_set (i:=4) sc_marks.nd rfl (Or.inl rfl) (qe_strS [] (by decide +kernel))) (qss_cons (qs_for PassesOwn.never rfl (qi_range1 (by rfl) n_range (qa_cons (qe_callB call_lenS (by rfl) n_len PySem.boot_len (qa_cons (qe_ix ix_tup (qv 0) qe_int (fun _ _=>rfl)) qa_nil)) qa_nil)) (qg_name (i:=5) sc_marks.nd rfl (Or.inl rfl)) (qss_cons (qs_set (i:=6) sc_marks.nd rfl (Or.inl rfl) (qe_own D_draw (hr.mono (by decide)) rfl (qa_cons (qv 1) (qa_cons (qe_op op_add (qe_op op_add qe_int (qe_op op_mul qe_int (qv 3))) (qv 5)) qa_nil)))) (qss_one (qs_set (i:=4) sc_marks.nd rfl (Or.inl rfl) (qe_op op_addS (qv 4) (qe_ix ix_S (qe_op op_addS (qe_strS [50,51,52,98,99,100] (by decide +kernel)) (qe_op op_mulS (qe_strS [46] (by decide +kernel)) qe_int)) (qe_op op_mod (qv 6) qe_int) (fun _ _=>rfl))))))) (qss_one (qs_expr (qe_bm PySem.F.plainAttrs_list PySem.F.slot_list_append PySem.F.type_list_append mt_append (qv 2) (qa_cons (qv 4) qa_nil))))))) (qss_one (qs_ret (qe_callTy call_tuple_of (by rfl) n_tuple PyProof.Rows.boot_tuple (qa_cons (qv 2) qa_nil)))))),?_⟩
  refine ⟨by show 0≤sizeLine;decide,fun R hR=>?_⟩
  have s0:Same H (upd H R (HO.lst [])):=Same.upd hR
  refine ⟨_,rfl,p,_,rfl,.inr (SqT.of (s0 _ _ hp)),_,rfl,by rw [hln];omega,by rw [hln];omega,?_⟩
  rw [hln,Int.toNat_natCast]
  refine for_range (lo:=0) (n:=r) (fun i σ H2=>∃ (v3 v4 v5 v6:Option V) (rows:List (List Nat)),σ=[some (.ref p),some (.int c),some (.ref R),v3,v4,v5,v6]∧Same H H2∧H2 R=some (.lst (Ts rows))∧rows.length=i∧∀ l∈rows,l.length=w∧∀ c∈l,mkC c)
   ⟨none,none,none,none,[],rfl,s0,upd_same,rfl,fun l h=>by simp at h⟩ ?_ ?_
  ·rintro i σ H2 hi ⟨v3,v4,v5,v6,ms,rfl,sm,hR2,lr,okr⟩
   refine ⟨_,rfl,p,_,_,.str (S rows[0]),rfl,rfl,SqT.of (sm _ _ hp),atI_nat (j:=0) (Ts_at (by simp [h0])),_,rfl,Nat.le_of_lt (small1000 (by omega)),_,rfl,by rw [hw0];omega,by rw [hw0];omega,?_⟩
   rw [hw0,Int.toNat_natCast]
   refine for_range (lo:=0) (n:=w) (fun j σ H3=>H3=H2∧∃ (v5 v6:Option V) (cs:List Nat),σ=[some (.ref p),some (.int c),some (.ref R),some (.int (0 + (i:Int))),some (.str (S cs)),v5,v6]∧cs.length=j∧∀ c∈cs,mkC c)
    ⟨rfl,v5,v6,[],rfl,rfl,fun c h=>by simp at h⟩ ?_ ?_
   ·rintro j σ H3 hj ⟨rfl,v5,v6,cs,rfl,lc,okc⟩
    have e0:(100:Int) + 9 * (0 + (i:Int)) + (0 + (j:Int))=((100 + 9 * i + j:Nat):Int):=by omega
    refine ⟨_,rfl,_,rfl,_,_,rfl,rfl,.inl ⟨by decide,by decide⟩,_,_,rfl,rfl,_,rfl,_,_,rfl,rfl,c,100 + 9 * i + j,by show [V.int c,V.int (100 + 9 * (0 + (i:Int)) + (0 + (j:Int)))]=_;rw [e0],by omega,fun nu=>?_⟩
    obtain ⟨x,hx,hxm⟩:=at_modA (xs:=MKS2) (n:=18) (by decide) (by decide) nu
    have hmk:mkC x:=by
     have:∀ x∈MKS2,x∈MK:=by decide
     exact this x hxm
    refine ⟨_,rfl,[46],12,rfl,rfl,by decide,by decide,by decide,[50,51,52,98,99,100],_,rfl,rfl,by decide,_,rfl,_,_,rfl,rfl,(by show (0:Int) < 18;decide),MKS2,_,x,rfl,rfl,by decide,hx,cs,_,rfl,rfl,by rw [lc];exact Nat.le_of_lt (small1000 (by simp;omega)),?_⟩
    refine ⟨rfl,_,_,cs ++ [x],rfl,by simp [lc],fun e he=>?_⟩
    rcases List.mem_append.mp he with k | k
    ·exact okc e k
    ·rw [List.mem_singleton.mp k];exact hmk
   ·rintro σ H3 ⟨rfl,v5,v6,cs,rfl,lc,okc⟩
    refine ⟨_,rfl,.inl ⟨rfl,_,SqL.of hR2⟩,_,rfl,R,_,_,rfl,rfl,hR2,by rw [List.length_map];exact small1000 (by omega),?_⟩
    refine ⟨_,_,_,_,ms ++ [cs],rfl,sm.upd' hR,by rw [upd_same,Ts_snoc],by simp [lr],fun l hl=>?_⟩
    rcases List.mem_append.mp hl with k | k
    ·exact okr l k
    ·rw [List.mem_singleton.mp k];exact ⟨lc,okc⟩
  ·rintro σ H2 ⟨v3,v4,v5,v6,ms,rfl,sm,hR2,lr,okr⟩
   refine ⟨_,rfl,R,_,rfl,.inl ⟨SqL.of hR2,fun T hT=>?_⟩⟩
   exact q T ms _ (sm.upd' (sm.free hT)) upd_same ⟨lr,fun l h=>(okr l h).1⟩ fun l h=>(okr l h).2
end
end My
end
section
set_option Elab.async false
set_option linter.all false
set_option maxRecDepth 100000
set_option maxHeartbeats 2000000
namespace My
open PySem L2
section
variable {P:Program} {w:World} {K:PySem.W.Frag} {mg:Str→Option Value} {base:Heap}
def atC (rows:List (List Nat)) (r w:Nat) (i j:Int):Nat:=if 0≤i∧i < r∧0≤j∧j < w then (rows.getD i.toNat []).getD j.toNat 0 else 46
def spAt (C:Addr):Sp:=fun vs H Q _=>∃ (p:Addr) (r w:Nat) (rows marks:List (List Nat)) (bi bj:Nat) (i j:Int),vs=[.ref p,.int i,.int j]∧BoardAt C H p r w rows marks bi bj∧Q (.str (S [atC rows r w i j])) H
theorem ok_at {f C:Addr} {fd:FuncData} (F:Fun K "at" "Board.at" s_Board_at f fd) (T:BoardCls K C) (g_FREE:∃ t,mg "FREE"=some (.str (S [46]) t)) (D_is_cell_of:Def P w K mg base "is_cell_of" 2 ["rows","row","column"] (spCellOf K)):FnOk P w K mg base CX0 3 f fd ["self","row","column"] (spAt C):=by
 refine F.qok sc_Board_at (fun vs H Q E h=>?_) (fun cdv A outer s H vs Q E hr h=>?_)
 ·obtain ⟨p,r,w,rows,marks,bi,bj,i,j,rfl,_⟩:=h
  rfl
 ·obtain ⟨p,r,w,rows,marks,bi,bj,i,j,rfl,B,q⟩:=h
  obtain ⟨⟨dx,pr,pm,pb,hp,hr',hm,hb⟩,O⟩:=B
  have w9:=O.w9
  refine ⟨_,(qss_one (qs_ret (qe_ifExp (qt_val (qe_own D_is_cell_of (hr.mono (by decide)) rfl (qa_cons (qe_fld (qv 0) rfl) (qa_cons (qv 1) (qa_cons (qv 2) qa_nil))))) (qe_ix ix_S (qe_ix ix_tup (qe_fld (qv 0) rfl) (qv 1) (fun _ _=>rfl)) (qv 2) (fun _ _=>rfl)) (qe_gS (by rfl) g_FREE)))),?_⟩
  refine ⟨_,rfl,p,C,dx,_,_,rfl,hp,T.cl,T.nr,rfl,_,rfl,_,rfl,pr,rows,r,w,i,j,rfl,SqT.of hr',O.br,O.r1,O.r9,O.w9,_,rfl,?_⟩
  by_cases h:0≤i∧i < r∧0≤j∧j < w
  ·rw [decide_eq_true h]
   have e:atC rows r w i j=(rows.getD i.toNat []).getD j.toNat 0:=if_pos h
   rw [e] at q
   obtain ⟨i,rfl⟩:∃ k:Nat,i=k:=⟨i.toNat,by omega⟩
   obtain ⟨j,rfl⟩:∃ k:Nat,j=k:=⟨j.toNat,by omega⟩
   rw [Int.toNat_natCast,Int.toNat_natCast] at q
   have hi:i < rows.length:=by rw [O.br.len];omega
   have hgi:rows[i]?=some (rows.getD i []):=by rw [List.getD_eq_getElem?_getD,List.getElem?_eq_getElem hi];rfl
   have hw:(rows.getD i []).length=w:=O.br.wid _ (List.mem_of_getElem? hgi)
   have hgj:(rows.getD i [])[j]?=some ((rows.getD i []).getD j 0):=by rw [List.getD_eq_getElem?_getD (l:=rows.getD i []),List.getElem?_eq_getElem (by omega)];rfl
   refine iteT ⟨_,rfl,p,C,dx,_,_,rfl,hp,T.cl,T.nr,rfl,_,rfl,pr,_,_,_,rfl,rfl,SqT.of hr',atI_nat (Ts_at hgi),_,rfl,_,_,_,rfl,rfl,Nat.le_of_lt (small1000 (by omega)),atI_nat hgj,q⟩
  ·rw [decide_eq_false h]
   have e:atC rows r w i j=46:=if_neg h
   rw [e] at q
   exact iteF q
def isFree (rows:List (List Nat)):Bool:=rows.flatten.all fun c=>decide ([c]=[46])
def spFree (C:Addr):Sp:=fun vs H Q _=>∃ (p:Addr) (r w:Nat) (rows marks:List (List Nat)) (bi bj:Nat),vs=[.ref p]∧BoardAt C H p r w rows marks bi bj∧∀ H',Same H H'→Q (.bl (isFree rows)) H'
theorem ok_is_free {f C:Addr} {fd:FuncData} (F:Fun K "is_free" "Board.is_free" s_Board_is_free f fd) (T:BoardCls K C) (n_all:mg "all"=none) (g_FREE:∃ t,mg "FREE"=some (.str (S [46]) t)):FnOk P w K mg base CX0 1 f fd ["self"] (spFree C):=by
 refine F.qok sc_Board_is_free (fun vs H Q E h=>?_) (fun cdv A outer s H vs Q E hr h=>?_)
 ·obtain ⟨p,r,w,rows,marks,bi,bj,rfl,_⟩:=h
  rfl
 ·obtain ⟨p,r,w,rows,marks,bi,bj,rfl,B,q⟩:=h
  obtain ⟨⟨dx,pr,pm,pb,hp,hr',hm,hb⟩,O⟩:=B
  have hrw:r * w≤81:=Nat.mul_le_mul O.r9 O.w9
  have hfl:=flat_len O.br
  refine ⟨_,(qss_one (qs_ret (qe_callB (call_all rfl) (by rfl) n_all boot_allX (qa_cons (qe_comp rfl (CompOk.of sc_Board_is_free.nd (by kernel_rfl)) (qi_str (qe_bm PySem.F.plainAttrs_str PySem.F.slot_str_join PySem.F.type_str_join mt_joinT (qe_strS [] (by decide +kernel)) (qa_cons (qe_fld (qv 0) rfl) qa_nil))) (fun _ _ _ _ _=>qts_nil) (fun _ _ _ _ _=>(qe_cmpR op_eqS (qv 0) (qe_gS (by rfl) g_FREE) (nomark _)))) qa_nil)))),?_⟩
  refine ⟨rfl,_,rfl,p,C,dx,_,_,rfl,hp,T.cl,T.nr,rfl,pr,rows,rfl,rfl,SqT.of hr',by omega,_,rfl,fun L hL=>?_⟩
  refine comp_str (fun i ys H2=>ys=((rows.flatten.take i).map fun c=>decide ([c]=[46])).map V.bl∧H2 L=some (.lst ys)∧Same H H2) ⟨rfl,upd_same,Same.upd hL⟩ ?_ ?_
  ·rintro i c ys H2 hi ⟨rfl,hL2,sm⟩
   have hil:i < rows.flatten.length:=(List.getElem?_eq_some_iff.mp hi).1
   refine ⟨_,rfl,[c],[46],rfl,rfl,hL2,?_,Nxt.mk hil ⟨?_,upd_same,sm.upd' hL⟩⟩
   ·rw [List.length_map,List.length_map,List.length_take];exact small1000 (by omega)
   ·rw [List.take_add_one,hi];simp
  ·rintro ys H2 ⟨rfl,hL2,sm⟩
   rw [List.take_length] at hL2
   refine ⟨L,_,rfl,SqL.of hL2,?_⟩
   have e:((rows.flatten.map fun c=>decide ([c]=[46])).all id)=isFree rows:=by
    unfold isFree
    rw [List.all_map]
    rfl
   rw [e]
   exact q H2 sm
def colOf (rows:List (List Nat)) (j:Nat):List Nat:=rows.map fun l=>l.getD j 0
def lineOf (rows:List (List Nat)) (i j:Nat) (way:Int):List Nat:=if way=0 then rows.getD i [] else colOf rows j
def placeOf (i j:Nat) (way:Int):Nat:=if way=0 then j else i
def spCol:Sp:=fun vs H Q _=>∃ (p:Addr) (rows:List (List Nat)) (r w j:Nat),vs=[.ref p,.int j]∧H p=some (.tup (Ts rows))∧Blk r w rows∧r≤9∧w≤9∧j < w∧∀ H',Same H H'→Q (.str (S (colOf rows j))) H'
theorem ok_column_text (D:DefAt K mg "column_text" s_column_text ["rows","column"]):Def P w K mg base "column_text" 1 ["rows","column"] spCol:=by
 refine D.qok sc_column_text (fun vs H Q E h=>?_) (fun f cdv A outer s H vs Q E hr h=>?_)
 ·obtain ⟨p,rows,r,w,j,rfl,_⟩:=h
  rfl
 ·obtain ⟨p,rows,r,w,j,rfl,hp,hb,r9,w9,hj,q⟩:=h
  refine ⟨_,(qss_one (qs_ret (qe_bm PySem.F.plainAttrs_str PySem.F.slot_str_join PySem.F.type_str_join mt_join (qe_strS [] (by decide +kernel)) (qa_cons (qe_comp rfl (CompOk.of sc_column_text.nd (by kernel_rfl)) (qi_tup (qv 0)) (fun _ _ _ _ _=>qts_nil) (fun _ _ _ _ _=>(qe_ix ix_S (qv 0) (qv 2) (fun _ _=>rfl)))) qa_nil)))),?_⟩
  have hln:(Ts rows).length=r:=by rw [List.length_map,hb.len]
  refine ⟨rfl,_,rfl,p,rfl,⟨_,SqT.of hp⟩,fun L hL=>comp_tup (xs:=Ts rows) (fun i ys H2=>ys=Ts (ones ((rows.take i).map fun l=>l.getD j 0))∧H2 L=some (.lst ys)∧Same H H2) ⟨rfl,upd_same,Same.upd hL⟩ (fun i ys H2 _ h=>SqT.of (h.2.2 _ _ hp)) ?_ ?_⟩
  ·rintro i x ys H2 hi ⟨rfl,hL2,sm⟩
   obtain ⟨l,hl,rfl⟩:=Ts_get hi
   have hil:i < (Ts rows).length:=(List.getElem?_eq_some_iff.mp hi).1
   have hlw:l.length=w:=hb.wid _ (List.mem_of_getElem? hl)
   refine ⟨_,rfl,_,rfl,l,_,l.getD j 0,rfl,rfl,Nat.le_of_lt (small1000 (by omega)),?_,hL2,?_,Nxt.mk hil ⟨?_,upd_same,sm.upd' hL⟩⟩
   ·exact atI_nat (by rw [List.getD_eq_getElem?_getD,List.getElem?_eq_getElem (by omega)];rfl)
   ·rw [List.length_map,List.length_map,List.length_map,List.length_take];exact small1000 (by omega)
   ·rw [Ts_snoc,ones_snoc,List.take_add_one,hl]
    simp
  ·rintro ys H2 ⟨rfl,hL2,sm⟩
   rw [hln,← hb.len,List.take_length] at hL2
   refine ⟨L,_,rfl,rfl,SqL.of hL2,?_,?_⟩
   ·rw [flat1,List.length_map,hb.len];omega
   ·rw [flat1];exact q H2 sm
theorem lineOf_len {r w:Nat} {rows:List (List Nat)} (hb:Blk r w rows) {i j:Nat} (hi:i < r) {way:Int}:(lineOf rows i j way).length=if way=0 then w else r:=by
 unfold lineOf
 by_cases h:way=0
 ·rw [if_pos h,if_pos h,List.getD_eq_getElem?_getD,List.getElem?_eq_getElem (by rw [hb.len];exact hi)]
  exact hb.wid _ (List.getElem_mem _)
 ·rw [if_neg h,if_neg h];unfold colOf;rw [List.length_map,hb.len]
structure Run (l:List Nat) (k:Nat) where
 ahead:List Nat
 signs:List Nat
theorem tailF_len (l:List Nat):(tailF l).length≤l.length:=by
 unfold tailF
 rw [List.length_reverse]
 exact Nat.le_trans (List.takeWhile_prefix _).length_le (by rw [List.length_reverse];exact Nat.le_refl _)
theorem headF_len (l:List Nat):(headF l).length≤l.length:=(List.takeWhile_prefix _).length_le
def runV (i j:Nat) (way:Int) (l:List Nat):List V:=
 if way=0 then [.int i,.int ((j:Int) - (tailF (l.take j)).length),.str (S (tailF (l.take j) ++ headF (l.drop j)))] else [.int ((i:Int) - (tailF (l.take i)).length),.int j,.str (S (tailF (l.take i) ++ headF (l.drop i)))]
def spRun (C:Addr):Sp:=fun vs H Q _=>∃ (p:Addr) (r w:Nat) (rows marks:List (List Nat)) (bi bj i j:Nat) (way:Int),vs=[.ref p,.int i,.int j,.int way]∧BoardAt C H p r w rows marks bi bj∧i < r∧j < w∧(way=0∨way=1)∧
 ∀ (t:Addr) (H':Hp),Same H H'→H t=none→H' t=some (.tup (runV i j way (lineOf rows i j way)))→Q (.ref t) H'
theorem ok_run {f C:Addr} {fd:FuncData} (F:Fun K "run" "Board.run" s_Board_run f fd) (T:BoardCls K C) (n_len:mg "len"=none) (g_FREE:∃ t,mg "FREE"=some (.str (S [46]) t)) (D_column_text:Def P w K mg base "column_text" 1 ["rows","column"] spCol):FnOk P w K mg base CX0 2 f fd ["self","row","column","way"] (spRun C):=by
 refine F.qok sc_Board_run (fun vs H Q E h=>?_) (fun cdv A outer s H vs Q E hr h=>?_)
 ·obtain ⟨p,r,w,rows,marks,bi,bj,i,j,way,rfl,_⟩:=h
  rfl
 ·obtain ⟨p,r,w,rows,marks,bi,bj,i,j,way,rfl,B,hi,hj,hway,q⟩:=h
  obtain ⟨⟨dx,pr,pm,pb,hp,hr',hm,hb⟩,O⟩:=B
  have r9:=O.r9
  have w9:=O.w9
  refine ⟨_,(qss_cons (qs_set (i:=4) sc_Board_run.nd rfl (Or.inl rfl) (qe_ifExp (qt_cmpR op_eq (qv 3) qe_int (nomark _)) (qe_ix ix_tup (qe_fld (qv 0) rfl) (qv 1) (fun _ _=>rfl)) (qe_own D_column_text (hr.mono (by decide)) rfl (qa_cons (qe_fld (qv 0) rfl) (qa_cons (qv 2) qa_nil))))) (qss_cons (qs_set (i:=5) sc_Board_run.nd rfl (Or.inl rfl) (qe_ifExp (qt_cmpR op_eq (qv 3) qe_int (nomark _)) (qv 2) (qv 1))) (qss_cons (qs_set (i:=6) sc_Board_run.nd rfl (Or.inl rfl) (qe_ix ix_tup (qe_bm PySem.F.plainAttrs_str PySem.F.slot_str_rpartition PySem.F.type_str_rpartition mt_rpart (qe_slice sl_S (qv 4) qo_none (qo_some (qv 5))) (qa_cons (qe_gS (by rfl) g_FREE) qa_nil)) qe_int (fun _ _=>rfl))) (qss_cons (qs_set (i:=7) sc_Board_run.nd rfl (Or.inl rfl) (qe_op op_addS (qv 6) (qe_ix ix_tup (qe_bm PySem.F.plainAttrs_str PySem.F.slot_str_partition PySem.F.type_str_partition mt_part (qe_slice sl_S (qv 4) (qo_some (qv 5)) qo_none) (qa_cons (qe_gS (by rfl) g_FREE) qa_nil)) qe_int (fun _ _=>rfl)))) (qss_cons (qs_set (i:=8) sc_Board_run.nd rfl (Or.inl rfl) (qe_op op_sub (qv 5) (qe_callB call_lenS (by rfl) n_len PySem.boot_len (qa_cons (qv 6) qa_nil)))) (qss_one (qs_ret (qe_ifExp (qt_cmpR op_eq (qv 3) qe_int (nomark _)) (qe_tup (qa_cons (qv 1) (qa_cons (qv 8) (qa_cons (qv 7) qa_nil)))) (qe_tup (qa_cons (qv 8) (qa_cons (qv 2) (qa_cons (qv 7) qa_nil)))))))))))),?_⟩
  have hgi:rows[i]?=some (rows.getD i []):=by rw [List.getD_eq_getElem?_getD,List.getElem?_eq_getElem (by rw [O.br.len];exact hi)];rfl
  rcases hway with rfl | rfl
  ·have hll:(lineOf rows i j 0).length=w:=lineOf_len O.br hi
   have el:rows.getD i []=lineOf rows i j 0:=rfl
   rw [el] at hgi
   have hz:∀ l:List Nat,l.length≤100→l.length≤sizeLine:=fun l h=>Nat.le_of_lt (small1000 (by omega))
   refine ⟨_,rfl,rfl,_,rfl,iteT ?_⟩
   refine ⟨_,rfl,p,C,dx,_,_,rfl,hp,T.cl,T.nr,rfl,_,rfl,pr,_,_,_,rfl,rfl,SqT.of hr',atI_nat (Ts_at hgi),?_⟩
   generalize hL:lineOf rows i j 0=l at hll hgi ⊢
   refine ⟨_,rfl,rfl,_,rfl,iteT ⟨_,rfl,?_⟩⟩
   refine ⟨_,rfl,_,rfl,_,rfl,l,rfl,hz _ (by omega),rfl,?_⟩
   rw [cut_to]
   refine ⟨_,rfl,rfl,by rw [List.length_take];omega,fun p1 a1 b1 hp1=>?_⟩
   refine ⟨p1,_,_,_,rfl,rfl,SqT.of upd_same,atI_nat (j:=2) rfl,?_⟩
   have s1:Same H (upd H p1 (.tup [.str a1,.str b1,.str (S (tailF (l.take j)))])):=Same.upd hp1
   generalize upd H p1 (.tup [.str a1,.str b1,.str (S (tailF (l.take j)))])=H1 at s1 ⊢
   have t1:=tailF_len (l.take j)
   have t2:=headF_len (l.drop j)
   rw [List.length_take] at t1
   rw [List.length_drop] at t2
   refine ⟨_,rfl,_,rfl,_,rfl,_,rfl,l,rfl,hz _ (by omega),rfl,?_⟩
   rw [cut_from]
   refine ⟨_,rfl,rfl,by rw [List.length_drop];omega,fun p2 b2 c2 hp2=>?_⟩
   refine ⟨p2,_,_,_,rfl,rfl,SqT.of upd_same,atI_nat (j:=0) rfl,_,_,rfl,rfl,Nat.le_of_lt (small1000 (by omega)),?_⟩
   have s2:=s1.upd' (o:=HO.tup [.str (S (headF (l.drop j))),.str b2,.str c2]) (s1.free hp2)
   generalize upd H1 p2 (HO.tup [.str (S (headF (l.drop j))),.str b2,.str c2])=H2 at s2 ⊢
   refine ⟨_,rfl,_,rfl,_,rfl,hz _ (by omega),_,_,rfl,rfl,?_⟩
   refine ⟨_,rfl,rfl,_,rfl,iteT ?_⟩
   refine ⟨_,rfl,_,rfl,_,rfl,by show 3≤sizeLine;decide,fun t ht=>?_⟩
   exact q t _ (s2.upd' (s2.free ht)) (s2.free ht) (by rw [upd_same,hL];rfl)
  ·have hll:(lineOf rows i j 1).length=r:=lineOf_len O.br hi
   have el:colOf rows j=lineOf rows i j 1:=rfl
   have hz:∀ l:List Nat,l.length≤100→l.length≤sizeLine:=fun l h=>Nat.le_of_lt (small1000 (by omega))
   refine ⟨_,rfl,rfl,_,rfl,iteF ?_⟩
   refine ⟨_,rfl,p,C,dx,_,_,rfl,hp,T.cl,T.nr,rfl,_,rfl,pr,rows,r,w,j,rfl,hr',O.br,r9,w9,hj,fun H0 s0=>?_⟩
   rw [el]
   generalize hL:lineOf rows i j 1=l at hll ⊢
   refine ⟨_,rfl,rfl,_,rfl,iteF ⟨_,rfl,?_⟩⟩
   refine ⟨_,rfl,_,rfl,_,rfl,l,rfl,hz _ (by omega),rfl,?_⟩
   rw [cut_to]
   refine ⟨_,rfl,rfl,by rw [List.length_take];omega,fun p1 a1 b1 hp1=>?_⟩
   refine ⟨p1,_,_,_,rfl,rfl,SqT.of upd_same,atI_nat (j:=2) rfl,?_⟩
   have s1:Same H (upd H0 p1 (.tup [.str a1,.str b1,.str (S (tailF (l.take i)))])):=s0.upd' (s0.free hp1)
   generalize upd H0 p1 (.tup [.str a1,.str b1,.str (S (tailF (l.take i)))])=H1 at s1 ⊢
   have t1:=tailF_len (l.take i)
   have t2:=headF_len (l.drop i)
   rw [List.length_take] at t1
   rw [List.length_drop] at t2
   refine ⟨_,rfl,_,rfl,_,rfl,_,rfl,l,rfl,hz _ (by omega),rfl,?_⟩
   rw [cut_from]
   refine ⟨_,rfl,rfl,by rw [List.length_drop];omega,fun p2 b2 c2 hp2=>?_⟩
   refine ⟨p2,_,_,_,rfl,rfl,SqT.of upd_same,atI_nat (j:=0) rfl,_,_,rfl,rfl,Nat.le_of_lt (small1000 (by omega)),?_⟩
   have s2:=s1.upd' (o:=HO.tup [.str (S (headF (l.drop i))),.str b2,.str c2]) (s1.free hp2)
   generalize upd H1 p2 (HO.tup [.str (S (headF (l.drop i))),.str b2,.str c2])=H2 at s2 ⊢
   refine ⟨_,rfl,_,rfl,_,rfl,hz _ (by omega),_,_,rfl,rfl,?_⟩
   refine ⟨_,rfl,rfl,_,rfl,iteF ?_⟩
   refine ⟨_,rfl,_,rfl,_,rfl,by show 3≤sizeLine;decide,fun t ht=>?_⟩
   exact q t _ (s2.upd' (s2.free ht)) (s2.free ht) (by rw [upd_same,hL];rfl)
abbrev Trip:=Nat × Nat × Nat
def TripAt (H:Hp) (a:Addr) (t:Trip):Prop:=H a=some (.tup [.int t.1,.int t.2.1,.str (S [t.2.2])])
def tO (H:Hp) (a:Addr):Trip:=match H a with
 | some (.tup [.int x,.int y,.str z])=>(x.toNat,y.toNat,z.cps.toList.headD 0)
 | _=>(0,0,0)
theorem tO_of {H:Hp} {a:Addr} {t:Trip} (h:TripAt H a t):tO H a=t:=by
 unfold tO
 rw [show H a=_ from h]
 rfl
structure LayL (H:Hp) (as:List Addr) (ts:List Trip):Prop where
 at_:∀ a∈as,TripAt H a (tO H a)
 eq:as.map (tO H)=ts
theorem LayL.mvT {H H':Hp} {as:List Addr} {ts:List Trip} (k:∀ a xs,H a=some (.tup xs)→H' a=some (.tup xs)) (h:LayL H as ts):LayL H' as ts:=by
 have e:∀ a∈as,tO H' a=tO H a:=fun a ha=>tO_of (k a _ (h.at_ a ha))
 exact ⟨fun a ha=>by rw [e a ha];exact k a _ (h.at_ a ha),by rw [← h.eq];exact List.map_congr_left e⟩
theorem LayL.mv {H H':Hp} {as:List Addr} {ts:List Trip} (k:Same H H') (h:LayL H as ts):LayL H' as ts:=h.mvT fun a xs e=>k a _ e
theorem LayL.snoc {H:Hp} {as:List Addr} {ts:List Trip} {a:Addr} {t:Trip} (h:LayL H as ts) (ha:TripAt H a t):LayL H (as ++ [a]) (ts ++ [t]):=by
 refine ⟨fun b hb=>?_,by rw [List.map_append,h.eq,List.map_singleton,tO_of ha]⟩
 rcases List.mem_append.mp hb with z | z
 ·exact h.at_ b z
 ·rw [List.mem_singleton.mp z,tO_of ha];exact ha
theorem LayL.nil {H:Hp}:LayL H [] []:=⟨fun a h=>by simp at h,rfl⟩
theorem LayL.len {H:Hp} {as:List Addr} {ts:List Trip} (h:LayL H as ts):as.length=ts.length:=by rw [← h.eq,List.length_map]
theorem LayL.get {H:Hp} {as:List Addr} {ts:List Trip} (h:LayL H as ts) {i:Nat} (hi:i < as.length):∃ t,ts[i]?=some t∧TripAt H as[i] t:=
 ⟨tO H as[i],by rw [← h.eq];simp [hi],h.at_ _ (List.getElem_mem _)⟩
def setAt (R:List (List Nat)) (i j z:Nat):List (List Nat):=R.set i ((R.getD i []).set j z)
def laidF (R:List (List Nat)) (ts:List Trip):List (List Nat):=ts.foldl (fun R t=>setAt R t.1 t.2.1 t.2.2) R
theorem set_blk {r w:Nat} {R:List (List Nat)} (h:Blk r w R) {i j z:Nat} (hi:i < r):Blk r w (setAt R i j z):=by
 refine ⟨by unfold setAt;rw [List.length_set,h.len],fun l hl=>?_⟩
 rcases List.mem_or_eq_of_mem_set hl with y | y
 ·exact h.wid l y
 ·rw [y,List.length_set,List.getD_eq_getElem?_getD,List.getElem?_eq_getElem (by rw [h.len];exact hi)]
  exact h.wid _ (List.getElem_mem _)
theorem set_mem {r w:Nat} {R:List (List Nat)} (h:Blk r w R) {i j z:Nat} (hi:i < r) {Pc:Nat→Prop} (hp:∀ l∈R,∀ c∈l,Pc c) (hz:Pc z):∀ l∈setAt R i j z,∀ c∈l,Pc c:=fun l hl c hc=>by
 rcases List.mem_or_eq_of_mem_set hl with y | y
 ·exact hp l y c hc
 ·rw [y] at hc
  rcases List.mem_or_eq_of_mem_set hc with u | u
  ·rw [List.getD_eq_getElem?_getD,List.getElem?_eq_getElem (by rw [h.len];exact hi)] at u
   exact hp _ (List.getElem_mem _) c u
  ·rw [u];exact hz
def inB (r w:Nat) (t:Trip):Prop:=t.1 < r∧t.2.1 < w∧sgC t.2.2
theorem laid_blk {r w:Nat}:∀ {ts:List Trip} {R:List (List Nat)},Blk r w R→(∀ t∈ts,inB r w t)→Blk r w (laidF R ts)
 | [],_,h,_=>h
 | t :: ts,_,h,k=>laid_blk (ts:=ts) (set_blk h (k t List.mem_cons_self).1) fun x hx=>k x (List.mem_cons_of_mem _ hx)
theorem laid_mem {r w:Nat}:∀ {ts:List Trip} {R:List (List Nat)},Blk r w R→(∀ t∈ts,inB r w t)→(∀ l∈R,∀ c∈l,roC c)→∀ l∈laidF R ts,∀ c∈l,roC c
 | [],_,_,_,g=>g
 | t :: ts,_,h,k,g=>laid_mem (ts:=ts) (set_blk h (k t List.mem_cons_self).1) (fun x hx=>k x (List.mem_cons_of_mem _ hx)) (set_mem h (k t List.mem_cons_self).1 g (.inr (k t List.mem_cons_self).2.2))
theorem brd_laid {r w:Nat} {rows marks:List (List Nat)} {bi bj:Nat} (B:Brd r w rows marks bi bj) {ts:List Trip} (k:∀ t∈ts,inB r w t):Brd r w (laidF rows ts) marks bi bj:=
 ⟨B.r1,B.r9,B.w1,B.w9,laid_blk B.br k,B.bm,laid_mem B.br k B.cr,B.cm,B.bi,B.bj⟩
theorem laid_snoc (R:List (List Nat)) (ts:List Trip) (t:Trip):laidF R (ts ++ [t])=setAt (laidF R ts) t.1 t.2.1 t.2.2:=by unfold laidF;rw [List.foldl_append];rfl
structure LinesAt (H0 H:Hp) (ps:List Addr) (R:List (List Nat)):Prop where
 len:ps.length=R.length
 nd:ps.Nodup
 fr:∀ p∈ps,H0 p=none
 at_:∀ (i:Nat) (h:i < ps.length),H ps[i]=some (.lst (Ts (ones (R.getD i []))))
theorem LinesAt.mv {H0 H H':Hp} {ps:List Addr} {R:List (List Nat)} (h:LinesAt H0 H ps R) (k:∀ p∈ps,H' p=H p):LinesAt H0 H' ps R:=
 ⟨h.len,h.nd,h.fr,fun i hi=>by rw [k _ (List.getElem_mem _)];exact h.at_ i hi⟩
theorem LinesAt.mvS {H0 H H':Hp} {ps:List Addr} {R:List (List Nat)} (h:LinesAt H0 H ps R) (k:Same H H'):LinesAt H0 H' ps R:=
 ⟨h.len,h.nd,h.fr,fun i hi=>k _ _ (h.at_ i hi)⟩
theorem LinesAt.snoc {H0 H:Hp} {ps:List Addr} {R:List (List Nat)} (h:LinesAt H0 H ps R) {p:Addr} {l:List Nat} (hn:p∉ps) (h0:H0 p=none) (hp:H p=some (.lst (Ts (ones l)))):LinesAt H0 H (ps ++ [p]) (R ++ [l]):=by
 refine ⟨by simp [h.len],?_,fun x hx=>?_,fun i hi=>?_⟩
 ·rw [List.nodup_append]
  refine ⟨h.nd,by simp,fun a ha b hb=>?_⟩
  rw [List.mem_singleton.mp hb]
  exact fun z=>hn (z ▸ ha)
 ·rcases List.mem_append.mp hx with z | z
  ·exact h.fr x z
  ·rw [List.mem_singleton.mp z];exact h0
 ·by_cases c:i < ps.length
  ·rw [List.getElem_append_left c,h.at_ i c,List.getD_eq_getElem?_getD,List.getD_eq_getElem?_getD,List.getElem?_append_left (by rw [← h.len];exact c)]
  ·have e:i=ps.length:=by simp at hi;omega
   subst e
   rw [List.getElem_append_right (Nat.le_refl _)]
   simp only [Nat.sub_self,List.getElem_singleton]
   rw [hp,List.getD_eq_getElem?_getD,List.getElem?_append_right (by rw [h.len];exact Nat.le_refl _),h.len]
   simp
theorem LinesAt.set {H0 H:Hp} {ps:List Addr} {R:List (List Nat)} (h:LinesAt H0 H ps R) {i j z:Nat} (hi:i < ps.length):LinesAt H0 (upd H ps[i] (.lst ((Ts (ones (R.getD i []))).set j (.str (S [z]))))) ps (setAt R i j z):=by
 have e:(Ts (ones (R.getD i []))).set j (.str (S [z]))=Ts (ones ((R.getD i []).set j z)):=by
  show List.set (((R.getD i []).map fun c=>[c]).map fun l=>V.str (S l)) j (V.str (S [z]))=((List.set (R.getD i []) j z).map fun c=>[c]).map fun l=>V.str (S l)
  rw [List.map_set,List.map_set]
 rw [e]
 refine ⟨by unfold setAt;rw [List.length_set];exact h.len,h.nd,h.fr,fun k hk=>?_⟩
 by_cases c:k=i
 ·subst c
  rw [upd_same]
  unfold setAt
  rw [List.getD_eq_getElem?_getD (l:=R.set _ _),List.getElem?_set_self (by rw [← h.len];exact hi)]
  rfl
 ·rw [upd_ne (fun z=>c ((List.getElem_inj h.nd).mp z)),h.at_ k hk]
  unfold setAt
  rw [List.getD_eq_getElem?_getD (l:=R.set _ _),List.getElem?_set_ne (fun z=>c z.symm),← List.getD_eq_getElem?_getD]
def spLaid (C:Addr):Sp:=fun vs H Q _=>∃ (p t:Addr) (as:List Addr) (ts:List Trip) (r w:Nat) (rows marks:List (List Nat)) (bi bj:Nat),vs=[.ref p,.ref t]∧BoardAt C H p r w rows marks bi bj∧H t=some (.tup (as.map V.ref))∧LayL H as ts∧(∀ t∈ts,inB r w t)∧
 ∀ (p':Addr) (H':Hp),Same H H'→BoardAt C H' p' r w (laidF rows ts) marks bi bj→Q (.ref p') H'
theorem ok_laid {f C f0:Addr} {fd fd0:FuncData} (F:Fun K "laid" "Board.laid" s_Board_laid f fd) (T:BoardCls K C) (n_list:mg "list"=none) (n_tuple:mg "tuple"=none) (mg_Board:mg "Board"=some (.ref C)) (M_Board:Mk K C f0) (G_Board:FnOk P w K mg base CX0 5 f0 fd0 ["self","rows","marks","begin"] (spBInit C)) (b_Board:Binds K fd0 ["self","rows","marks","begin"] []) :
  FnOk P w K mg base CX0 8 f fd ["self","laying"] (spLaid C):=by
 refine F.qok sc_Board_laid (fun vs H Q E h=>?_) (fun cdv A outer s H vs Q E hr h=>?_)
 ·obtain ⟨p,t,as,ts,r,w,rows,marks,bi,bj,rfl,_⟩:=h
  rfl
 ·obtain ⟨p,t,as,ts,r,w,rows,marks,bi,bj,rfl,BA,ht,hL,hin,q⟩:=h
  obtain ⟨⟨dx,pr,pm,pb,hx,hpr,hpm,hpb⟩,B⟩:=BA
  have r9:=B.r9
  have w9:=B.w9
  have hbr:=B.br
  refine ⟨_,(qss_cons (qs_setG (ix:=2) (ns:=["row"]) sc_Board_laid.nd rfl (Or.inl rfl) rfl (CompG.of ["self","laying","lines",".3","column","sign"] [3] (by kernel_rfl)) (qi_tup (qe_fld (qv 0) rfl)) (fun _ _ _ _ _=>(tg_name (show (["row","self","laying","lines",".3","column","sign"]:List Str).Nodup by decide +kernel) rfl (by rfl))) (fun _ _ _ _ _=>qts_nil) (fun _ _ _ _ _=>(qe_callTy (call_listS rfl) (by rfl) n_list PyProof.Rows.boot_list (qa_cons (qv 0) qa_nil)))) (qss_cons (qs_for PassesOwn.never rfl (qi_tup (qv 1)) (qg_tup rfl (qgs_cons (qg_name (i:=3) sc_Board_laid.nd rfl (Or.inl rfl)) (qgs_cons (qg_name (i:=4) sc_Board_laid.nd rfl (Or.inl rfl)) (qgs_cons (qg_name (i:=5) sc_Board_laid.nd rfl (Or.inl rfl)) qgs_nil)))) (qss_one (qs_asg (qv 5) (qg_sub (qe_ix ix_list (qv 2) (qv 3) (fun _ _=>rfl)) (qv 4) set_list)))) (qss_one (qs_ret (qe_make M_Board G_Board (hr.mono (by decide)) rfl mg_Board b_Board .nil pass0 (qa_cons (qe_callTy call_tuple_of (by rfl) n_tuple PyProof.Rows.boot_tuple (qa_cons (qe_comp rfl (CompOk.of sc_Board_laid.nd (by kernel_rfl)) (qi_list (qv 2)) (fun _ _ _ _ _=>qts_nil) (fun _ _ _ _ _=>(qe_bmK K PySem.F.plainAttrs_str PySem.F.slot_str_join PySem.F.type_str_join (mt_joinK K) (qe_strS [] (by decide +kernel)) (qa_cons (qv 0) qa_nil)))) qa_nil)) (qa_cons (qe_fld (qv 0) rfl) (qa_cons (qe_fld (qv 0) rfl) qa_nil)))))))),?_⟩
  refine ⟨_,rfl,p,C,dx,_,_,rfl,hx,T.cl,T.nr,rfl,pr,rfl,⟨_,SqT.of hpr⟩,fun M hM=>compG1_tup (f:=hideS [3] 0) (tt:=tYes) (xs:=Ts rows) (fun i ys H2=>∃ ps:List Addr,ys=ps.map V.ref∧H2 M=some (.lst ys)∧Same H H2∧LinesAt H H2 ps (rows.take i)∧M∉ps)
   ⟨[],rfl,upd_same,Same.upd hM,⟨by simp,List.nodup_nil,fun p h=>by simp at h,fun i h=>by simp at h⟩,by simp⟩ (fun i ys H2 _ h=>by obtain ⟨_,_,_,sm,_⟩:=h;exact SqT.of (sm _ _ hpr)) ?_ ?_⟩
  ·rintro i x ys H2 hi ⟨ps,rfl,hM2,sm,hLn,nM⟩
   obtain ⟨l,hl,rfl⟩:=Ts_get hi
   have hil:i < (Ts rows).length:=(List.getElem?_eq_some_iff.mp hi).1
   have hlw:l.length=w:=hbr.wid _ (List.mem_of_getElem? hl)
   have hln:(Ts rows).length=r:=by rw [List.length_map,hbr.len]
   have hpl:ps.length≤9:=by rw [hLn.len,List.length_take,hbr.len];omega
   refine turn1 ⟨_,rfl,l,rfl,by omega,fun c hc=>?_⟩
   have ncM:M≠c:=fun z=>by rw [← z,hM2] at hc;cases hc
   have ncp:c∉ps:=fun z=>by
    obtain ⟨k,hk,e⟩:=List.mem_iff_getElem.mp z
    have:=hLn.at_ k hk
    rw [e,hc] at this
    cases this
   refine ⟨by rw [upd_ne ncM];exact hM2,by rw [List.length_map];exact small1000 (by omega),Nxt.mk hil ⟨ps ++ [c],by simp,upd_same,(sm.upd' (sm.free hc)).upd' hM,?_,?_⟩⟩
   ·rw [show rows.take (i + 1)=rows.take i ++ [l] by rw [List.take_add_one,hl];rfl]
    refine LinesAt.mv ((hLn.mvS (Same.upd hc)).snoc ncp (sm.free hc) upd_same) fun y hy=>upd_ne fun z=>?_
    rcases List.mem_append.mp hy with u | u
    ·exact nM (z ▸ u)
    ·exact ncM (z.symm.trans (List.mem_singleton.mp u))
   ·intro z
    rcases List.mem_append.mp z with u | u
    ·exact nM u
    ·exact ncM (List.mem_singleton.mp u)
  ·rintro ys H2 ⟨ps,rfl,hM2,sm,hLn,nM⟩
   rw [List.take_of_length_le (by rw [List.length_map];exact Nat.le_refl _)] at hLn
   refine ⟨_,rfl,t,rfl,⟨_,SqT.of (sm _ _ ht)⟩,for_tup (K:=K) (a:=t) (xs:=as.map V.ref) (fun i σ H3=>∃ v3 v4 v5:Option V,σ=[some (.ref p),some (.ref t),some (.ref M),v3,v4,v5]∧Same H H3∧H3 M=some (.lst (ps.map V.ref))∧LinesAt H H3 ps (laidF rows (ts.take i)))
    ⟨none,none,none,rfl,sm,hM2,hLn⟩ (fun i σ H3 _ h=>by obtain ⟨_,_,_,_,sm,_⟩:=h;exact SqT.of (sm _ _ ht)) ?_ ?_⟩
   ·rintro i x σ H3 hx' ⟨v3,v4,v5,rfl,sm3,hM3,hLn3⟩
    rw [List.getElem?_map] at hx'
    have hi:i < as.length:=by
     rcases Nat.lt_or_ge i as.length with z | z
     ·exact z
     ·rw [List.getElem?_eq_none z] at hx';cases hx'
    rw [List.getElem?_eq_getElem hi] at hx'
    have hx':V.ref as[i]=x:=Option.some.inj hx'
    subst hx'
    obtain ⟨u,eu,hU⟩:=hL.get hi
    have hum:=List.mem_of_getElem? eu
    obtain ⟨u1,u2,u3⟩:=hin u hum
    have hb3:Blk r w (laidF rows (ts.take i)):=laid_blk hbr fun y hy=>hin y (List.mem_of_mem_take hy)
    have hpl:ps.length=r:=by rw [hLn3.len,hb3.len]
    have hps:u.1 < ps.length:=by omega
    refine ⟨as[i],_,rfl,SqT.of (sm3 _ _ hU),rfl,_,_,rfl,_,_,rfl,_,_,rfl,rfl,?_⟩
    refine ⟨_,rfl,_,rfl,_,rfl,M,_,_,.ref ps[u.1],rfl,rfl,SqL.of hM3,atI_nat (by simp [hps]),_,rfl,ps[u.1],_,_,u.2.1,rfl,rfl,hLn3.at_ u.1 hps,?_,?_⟩
    ·have:((laidF rows (ts.take i)).getD u.1 []).length=w:=by
      rw [List.getD_eq_getElem?_getD,List.getElem?_eq_getElem (by rw [hb3.len];exact u1)]
      exact hb3.wid _ (List.getElem_mem _)
     unfold ixN
     rw [List.length_map,List.length_map,this,if_pos (by omega),if_pos (by omega)]
     congr 1
    ·refine ⟨_,_,_,rfl,sm3.upd' (hLn3.fr _ (List.getElem_mem _)),?_,?_⟩
     ·have ne:M≠ps[u.1]:=fun z=>nM (by rw [z];exact List.getElem_mem _)
      rw [upd_ne ne];exact hM3
     ·rw [show laidF rows (ts.take (i + 1))=setAt (laidF rows (ts.take i)) u.1 u.2.1 u.2.2 by rw [List.take_add_one,eu];exact laid_snoc _ _ _]
      exact hLn3.set hps
   ·rintro σ H3 ⟨v3,v4,v5,rfl,sm3,hM3,hLn3⟩
    rw [List.take_of_length_le (by rw [List.length_map,hL.len];exact Nat.le_refl _)] at hLn3
    have B':=brd_laid B hin
    have hpl:ps.length=r:=by rw [hLn3.len,B'.br.len]
    refine ⟨_,rfl,M,rfl,⟨_,SqL.of hM3⟩,fun N hN=>comp_list (xs:=ps.map V.ref) (fun i ys H4=>ys=Ts ((laidF rows ts).take i)∧H4 N=some (.lst ys)∧Same H3 H4) ⟨rfl,upd_same,Same.upd hN⟩ (fun i ys H4 _ h=>SqL.of (h.2.2 _ _ hM3)) ?_ ?_⟩
    ·rintro i x ys H4 hi ⟨rfl,hN4,sm4⟩
     rw [List.getElem?_map] at hi
     have hi':i < ps.length:=by
      rcases Nat.lt_or_ge i ps.length with z | z
      ·exact z
      ·rw [List.getElem?_eq_none z] at hi;cases hi
     rw [List.getElem?_eq_getElem hi'] at hi
     have hi:V.ref ps[i]=x:=Option.some.inj hi
     subst hi
     have hri:i < (laidF rows ts).length:=by rw [← hLn3.len];exact hi'
     have hg:(laidF rows ts).getD i []=(laidF rows ts)[i]:=by rw [List.getD_eq_getElem?_getD,List.getElem?_eq_getElem hri];rfl
     have hw:(laidF rows ts)[i].length=w:=B'.br.wid _ (List.getElem_mem _)
     have hat:=hLn3.at_ i hi'
     rw [hg] at hat
     refine ⟨rfl,_,rfl,ps[i],ones (laidF rows ts)[i],rfl,rfl,SqL.of (sm4 _ _ hat),by rw [flat1,hw];omega,hN4,?_,Nxt.mk (by rw [List.length_map];exact hi') ⟨?_,upd_same,sm4.upd' hN⟩⟩
     ·rw [List.length_map,List.length_take];exact small1000 (by omega)
     ·rw [flat1,Ts_snoc,List.take_add_one,List.getElem?_eq_getElem hri];rfl
    ·rintro ys H4 ⟨rfl,hN4,sm4⟩
     rw [List.take_of_length_le (by rw [List.length_map,hLn3.len];exact Nat.le_refl _)] at hN4
     refine ⟨N,_,rfl,.inl ⟨SqL.of hN4,fun l hl=>?_⟩⟩
     have s5:=(sm3.trans sm4).upd' (o:=.tup (Ts (laidF rows ts))) ((sm3.trans sm4).free hl)
     refine ⟨_,rfl,p,C,dx,_,_,rfl,s5 _ _ hx,T.cl,T.nm,rfl,_,rfl,p,C,dx,_,_,rfl,s5 _ _ hx,T.cl,T.nb,rfl,fun x dy nx ndx nex=>?_⟩
     have s6:Same (upd H4 l (.tup (Ts (laidF rows ts)))) (upd (upd (upd H4 l (.tup (Ts (laidF rows ts)))) dy (HO.own x)) x (HO.ins C dy [])):=fun b o e=>by rw [upd_ne (ne_of_none e nx),upd_ne (ne_of_none e ndx)];exact e
     refine ⟨x,dy,l,pm,pb,r,w,laidF rows ts,marks,bi,bj,rfl,upd_same,s6 _ _ upd_same,s6 _ _ (s5 _ _ hpm),s6 _ _ (s5 _ _ hpb),B',fun H5 kp hx5=>⟨rfl,?_⟩⟩
     have s7:Same (upd H4 l (.tup (Ts (laidF rows ts)))) H5:=fun b o e=>kp b o (s6 b o e) (ne_of_none e nx)
     exact q x H5 (s5.trans s7) ⟨⟨dy,l,pm,pb,hx5,s7 _ _ upd_same,s7 _ _ (s5 _ _ hpm),s7 _ _ (s5 _ _ hpb)⟩,B'⟩
end
end My
end
section
set_option Elab.async false
set_option linter.all false
set_option maxRecDepth 100000
set_option maxHeartbeats 2000000
namespace My
open PySem L2
section
variable {P:Program} {w:World} {K:PySem.W.Frag} {mg:Str→Option Value} {base:Heap}
def spNearW:Sp:=fun vs H Q _=>∃ (p:Addr) (rows:List (List Nat)) (r w:Nat) (i j:Int),vs=[.ref p,.int i,.int j]∧H p=some (.tup (Ts rows))∧Blk r w rows∧1≤r∧r≤9∧w≤9∧∀ (b:Bool) (H':Hp),Same H H'→Q (.bl b) H'
theorem four_any {t1 t2 t3 t4:Addr} {a1 b1 a2 b2 a3 b3 a4 b4:Int} {H:Hp} (h1:H t1=some (.tup [.int a1,.int b1])) (h2:H t2=some (.tup [.int a2,.int b2])) (h3:H t3=some (.tup [.int a3,.int b3])) (h4:H t4=some (.tup [.int a4,.int b4]))
  {n:Nat} {x:V} (h:([V.ref t1,V.ref t2,V.ref t3,V.ref t4]:List V)[n]?=some x):∃ (t:Addr) (u v:Int),x=.ref t∧H t=some (.tup [.int u,.int v]):=by
 match n,h with
 | 0,h=>exact ⟨t1,_,_,(Option.some.inj h).symm,h1⟩
 | 1,h=>exact ⟨t2,_,_,(Option.some.inj h).symm,h2⟩
 | 2,h=>exact ⟨t3,_,_,(Option.some.inj h).symm,h3⟩
 | 3,h=>exact ⟨t4,_,_,(Option.some.inj h).symm,h4⟩
 | n + 4,h=>exact absurd h (by simp)
theorem ok_is_near (D:DefAt K mg "_law_is_near" s_is_near ["_law_rows_here","_law_row","_law_column"]) (n_len:mg "len"=none):Def P w K mg base "_law_is_near" 1 ["_law_rows_here","_law_row","_law_column"] spNearW:=by
 refine D.qok sc_is_near (fun vs H Q E h=>?_) (fun f cdv A outer s H vs Q E hr h=>?_)
 ·obtain ⟨p,rows,r,w,i,j,rfl,_⟩:=h
  rfl
 ·obtain ⟨pr,rows,r,w,i,j,rfl,hp0,hb,r1,r9,w9,q⟩:=h
  refine ⟨_,(qss_cons (qs_for PassesOwn.never rfl (qi_list (qe_lst (qa_cons (qe_tup (qa_cons (qe_op op_sub (qv 1) qe_int) (qa_cons (qv 2) qa_nil))) (qa_cons (qe_tup (qa_cons (qv 1) (qa_cons (qe_op op_sub (qv 2) qe_int) qa_nil))) (qa_cons (qe_tup (qa_cons (qv 1) (qa_cons (qe_op op_add (qv 2) qe_int) qa_nil))) (qa_cons (qe_tup (qa_cons (qe_op op_add (qv 1) qe_int) (qa_cons (qv 2) qa_nil))) qa_nil)))))) (qg_name (i:=3) sc_is_near.nd rfl (Or.inl rfl)) (qss_one (qs_if (QW.qt (qw_and (qt_chain op_le op_lt qe_int (qe_ix ix_tup (qv 3) qe_int (fun _ _=>rfl)) (qe_callB call_len_seq (by rfl) n_len PySem.boot_len (qa_cons (qv 0) qa_nil))) (qw_and (qt_chain op_le op_lt qe_int (qe_ix ix_tup (qv 3) qe_int (fun _ _=>rfl)) (qe_callB call_lenS (by rfl) n_len PySem.boot_len (qa_cons (qe_ix ix_tup (qv 0) qe_int (fun _ _=>rfl)) qa_nil))) (qw_and1 (qt_cmpR op_neS (qe_ix ix_S (qe_ix ix_tup (qv 0) (qe_ix ix_tup (qv 3) qe_int (fun _ _=>rfl)) (fun _ _=>rfl)) (qe_ix ix_tup (qv 3) qe_int (fun _ _=>rfl)) (fun _ _=>rfl)) (qe_strS [46] (by decide +kernel)) (nomark _)))))) (qss_one (qs_ret qe_bl)) qss_nil))) (qss_one (qs_ret qe_bl))),?_⟩
  refine ⟨_,rfl,_,_,rfl,rfl,_,rfl,by show 2≤sizeLine;decide,fun t1 h1=>⟨_,rfl,_,rfl,_,_,rfl,rfl,by show 2≤sizeLine;decide,fun t2 h2=>⟨_,rfl,_,rfl,_,_,rfl,rfl,by show 2≤sizeLine;decide,fun t3 h3=>⟨_,rfl,_,_,rfl,rfl,_,rfl,by show 2≤sizeLine;decide,fun t4 h4=>⟨by show 4≤sizeLine;decide,fun T hT=>?_⟩⟩⟩⟩⟩
  have s1:Same H (upd H t1 (HO.tup [.int (i - 1),.int j])):=Same.upd h1
  have s2:=s1.upd' (o:=HO.tup [.int i,.int (j - 1)]) (s1.free h2)
  have s3:=s2.upd' (o:=HO.tup [.int i,.int (j + 1)]) (s2.free h3)
  have s4:=s3.upd' (o:=HO.tup [.int (i + 1),.int j]) (s3.free h4)
  have s5:=s4.upd' (o:=HO.lst [.ref t1,.ref t2,.ref t3,.ref t4]) (s4.free hT)
  have k5:Same _ _:=Same.upd (o:=HO.lst [.ref t1,.ref t2,.ref t3,.ref t4]) hT
  have k4:Same _ _:=Same.upd (o:=HO.tup [.int (i + 1),.int j]) h4
  have k3:Same _ _:=Same.upd (o:=HO.tup [.int i,.int (j + 1)]) h3
  have k2:Same _ _:=Same.upd (o:=HO.tup [.int i,.int (j - 1)]) h2
  have e1:=k5 _ _ (k4 _ _ (k3 _ _ (k2 _ _ (upd_same (H:=H) (a:=t1) (o:=HO.tup [.int (i - 1),.int j])))))
  have e2:=k5 _ _ (k4 _ _ (k3 _ _ (upd_same (a:=t2) (o:=HO.tup [.int i,.int (j - 1)]))))
  have e3:=k5 _ _ (k4 _ _ (upd_same (a:=t3) (o:=HO.tup [.int i,.int (j + 1)])))
  have e4:=k5 _ _ (upd_same (a:=t4) (o:=HO.tup [.int (i + 1),.int j]))
  have e5:upd (upd (upd (upd (upd H t1 (HO.tup [.int (i - 1),.int j])) t2 (HO.tup [.int i,.int (j - 1)])) t3 (HO.tup [.int i,.int (j + 1)])) t4 (HO.tup [.int (i + 1),.int j])) T (HO.lst [.ref t1,.ref t2,.ref t3,.ref t4]) T=some (.lst [.ref t1,.ref t2,.ref t3,.ref t4]):=upd_same
  generalize upd (upd (upd (upd (upd H t1 (HO.tup [.int (i - 1),.int j])) t2 (HO.tup [.int i,.int (j - 1)])) t3 (HO.tup [.int i,.int (j + 1)])) t4 (HO.tup [.int (i + 1),.int j])) T (HO.lst [.ref t1,.ref t2,.ref t3,.ref t4])=H5 at s5 e1 e2 e3 e4 e5 ⊢
  have hp:=SqT.of (K:=K) (s5 _ _ hp0)
  have hln:(Ts rows).length=r:=by rw [List.length_map,hb.len]
  have h0:0 < rows.length:=by rw [hb.len];omega
  have hw0:rows[0].length=w:=hb.wid _ (List.getElem_mem _)
  refine ⟨T,rfl,⟨_,SqL.of e5⟩,for_list (K:=K) (a:=T) (xs:=[V.ref t1,V.ref t2,V.ref t3,V.ref t4]) (fun n σ H6=>H6=H5∧∃ v3:Option V,σ=[some (.ref pr),some (.int i),some (.int j),v3])
   ⟨rfl,none,rfl⟩ (fun n σ H6 _ h=>by rw [h.1];exact SqL.of e5) ?_ ?_⟩
  ·rintro n x σ H6 hx ⟨rfl,v3,rfl⟩
   obtain ⟨t,u,v,rfl,ht⟩:=four_any e1 e2 e3 e4 hx
   have hS:=SqT.of (K:=K) ht
   have nx:H6=H6∧∃ v3:Option V,([some (.ref pr),some (.int i),some (.int j),some (.ref t)]:St)=[some (.ref pr),some (.int i),some (.int j),v3]:=⟨rfl,_,rfl⟩
   refine ⟨_,rfl,t,_,_,_,rfl,rfl,hS,atI_nat (j:=0) rfl,_,_,rfl,rfl,_,rfl,?_⟩
   by_cases c1:0≤u
   ·rw [decide_eq_true c1]
    refine iteT ⟨_,rfl,pr,_,rfl,.inr hp,_,_,rfl,rfl,_,rfl,?_⟩
    rw [hln]
    by_cases c2:u < (r:Int)
    ·rw [decide_eq_true c2]
     refine iteT ⟨_,rfl,t,_,_,_,rfl,rfl,hS,atI_nat (j:=1) rfl,_,_,rfl,rfl,_,rfl,?_⟩
     by_cases c3:0≤v
     ·rw [decide_eq_true c3]
      refine iteT ⟨_,rfl,pr,_,_,.str (S rows[0]),rfl,rfl,hp,atI_nat (j:=0) (Ts_at (by simp [h0])),_,rfl,Nat.le_of_lt (small1000 (by omega)),_,_,rfl,rfl,_,rfl,?_⟩
      rw [hw0]
      by_cases c4:v < (w:Int)
      ·rw [decide_eq_true c4]
       obtain ⟨u,rfl⟩:∃ k:Nat,u=k:=⟨u.toNat,by omega⟩
       obtain ⟨v,rfl⟩:∃ k:Nat,v=k:=⟨v.toNat,by omega⟩
       have hi:u < rows.length:=by rw [hb.len];omega
       have hgi:rows[u]?=some (rows.getD u []):=by rw [List.getD_eq_getElem?_getD,List.getElem?_eq_getElem hi];rfl
       have hw:(rows.getD u []).length=w:=hb.wid _ (List.mem_of_getElem? hgi)
       have hgj:(rows.getD u [])[v]?=some ((rows.getD u []).getD v 0):=by rw [List.getD_eq_getElem?_getD (l:=rows.getD u []),List.getElem?_eq_getElem (by omega)];rfl
       refine iteT ⟨_,rfl,_,rfl,t,_,_,_,rfl,rfl,hS,atI_nat (j:=0) rfl,pr,_,_,_,rfl,rfl,hp,atI_nat (Ts_at hgi),_,rfl,t,_,_,_,rfl,rfl,hS,atI_nat (j:=1) rfl,_,_,_,rfl,rfl,Nat.le_of_lt (small1000 (by omega)),atI_nat hgj,_,_,rfl,rfl,_,rfl,?_⟩
       exact ite2 (fun _=>q true H6 s5) (fun _=>nx)
      ·rw [decide_eq_false c4]
       exact iteF (iteF nx)
     ·rw [decide_eq_false c3]
      exact iteF ⟨_,rfl,iteF (iteF nx)⟩
    ·rw [decide_eq_false c2]
     exact iteF (iteF nx)
   ·rw [decide_eq_false c1]
    exact iteF ⟨_,rfl,iteF (iteF nx)⟩
  ·rintro σ H6 ⟨rfl,v3,rfl⟩
   exact q false H6 s5
def PairF (rows:List (List Nat)) (r w:Nat) (H:Hp) (a:Addr):Prop:=∃ i j:Nat,H a=some (.tup [.int i,.int j])∧i < r∧j < w∧cell rows i j=46
theorem PairF.mvT {rows:List (List Nat)} {r w:Nat} {H H':Hp} {a:Addr} (h:PairF rows r w H a) (k:∀ a xs,H a=some (.tup xs)→H' a=some (.tup xs)):PairF rows r w H' a:=by
 obtain ⟨i,j,e,b⟩:=h
 exact ⟨i,j,k _ _ e,b⟩
theorem pairF_has {rows:List (List Nat)} {H:Hp} {r w:Nat}:∀ {fs:List Addr},(∀ a∈fs,PairF rows r w H a)→∃ ds,HasDs K H 1 ds (fs.map V.ref)∧ds.length=fs.length
 | [],_=>⟨[],.nil,rfl⟩
 | a :: fs,h=>by
  obtain ⟨ds,h1,h2⟩:=pairF_has (fs:=fs) fun x hx=>h x (List.mem_cons_of_mem _ hx)
  obtain ⟨i,j,e,_,_⟩:=h a List.mem_cons_self
  exact ⟨.tup [.int i,.int j] :: ds,.cons (.tup (SqT.of e) (.cons (.int _) (.cons (.int _) .nil))) h1,by simp [h2]⟩
def spStarts:Sp:=fun vs H Q _=>∃ (p:Addr) (rows:List (List Nat)) (r w:Nat) (c:Int),vs=[.ref p,.int c]∧H p=some (.tup (Ts rows))∧Blk r w rows∧1≤r∧r≤9∧1≤w∧w≤9∧(∃ i j,i < r∧j < w∧cell rows i j=46)∧
 ∀ (t:Addr) (i j:Nat) (H':Hp),Same H H'→H' t=some (.tup [.int i,.int j])→i < r→j < w→cell rows i j=46→Q (.ref t) H'
theorem tupL {H:Hp} {M:Addr} {ys zs:List V} (hM:H M=some (.lst ys)):∀ a xs,H a=some (.tup xs)→upd H M (.lst zs) a=some (.tup xs):=fun a xs e=>by
 have ne:a≠M:=fun z=>by rw [z,hM] at e;cases e
 rw [upd_ne ne];exact e
theorem ok_starts (D:DefAt K mg "_law_starts" s_starts ["_law_rows_here","_law_cell"]) (n_len:mg "len"=none) (n_range:mg "range"=none) (D_is_near:Def P w K mg base "_law_is_near" 1 ["_law_rows_here","_law_row","_law_column"] spNearW):Def P w K mg base "_law_starts" 2 ["_law_rows_here","_law_cell"] spStarts:=by
 refine D.qok sc_starts (fun vs H Q E h=>?_) (fun f cdv A outer s H vs Q E hr h=>?_)
 ·obtain ⟨p,rows,r,w,c,rfl,_⟩:=h
  rfl
 ·obtain ⟨p,rows,r,w,c,rfl,hp,hb,r1,r9,w1,w9,hfree,q⟩:=h
  have hln:(Ts rows).length=r:=by rw [List.length_map,hb.len]
  have h0:0 < rows.length:=by rw [hb.len];omega
  have hw0:rows[0].length=w:=hb.wid _ (List.getElem_mem _)
  refine ⟨_,(qss_cons (qs_set (i:=2) sc_starts.nd rfl (Or.inl rfl) (qe_lst qa_nil)) (qss_cons (qs_set (i:=3) sc_starts.nd rfl (Or.inl rfl) (qe_lst qa_nil)) (qss_cons (qs_for PassesOwn.never rfl (qi_range1 (by rfl) n_range (qa_cons (qe_callB call_len_seq (by rfl) n_len PySem.boot_len (qa_cons (qv 0) qa_nil)) qa_nil)) (qg_name (i:=4) sc_starts.nd rfl (Or.inl rfl)) (qss_one (qs_for PassesOwn.never rfl (qi_range1 (by rfl) n_range (qa_cons (qe_callB call_lenS (by rfl) n_len PySem.boot_len (qa_cons (qe_ix ix_tup (qv 0) qe_int (fun _ _=>rfl)) qa_nil)) qa_nil)) (qg_name (i:=5) sc_starts.nd rfl (Or.inl rfl)) (qss_one (qs_if (qt_cmpR op_eqS (qe_ix ix_S (qe_ix ix_tup (qv 0) (qv 4) (fun _ _=>rfl)) (qv 5) (fun _ _=>rfl)) (qe_strS [46] (by decide +kernel)) (nomark _)) (qss_cons (qs_expr (qe_bm PySem.F.plainAttrs_list PySem.F.slot_list_append PySem.F.type_list_append mt_append (qv 2) (qa_cons (qe_tup (qa_cons (qv 4) (qa_cons (qv 5) qa_nil))) qa_nil))) (qss_one (qs_if (qt_val (qe_own D_is_near (hr.mono (by decide)) rfl (qa_cons (qv 0) (qa_cons (qv 4) (qa_cons (qv 5) qa_nil))))) (qss_one (qs_expr (qe_bm PySem.F.plainAttrs_list PySem.F.slot_list_append PySem.F.type_list_append mt_append (qv 3) (qa_cons (qe_tup (qa_cons (qv 4) (qa_cons (qv 5) qa_nil))) qa_nil)))) qss_nil))) qss_nil))))) (qss_cons (qs_if (QW.qt (qw_and (qt_cmpR (op_neD hr.units) (qv 3) (qe_lst qa_nil) (nomark _)) (qw_and1 (qt_cmpR op_gt (qe_op op_mod (qv 1) qe_int) qe_int (nomark _))))) (qss_one (qs_ret (qe_ix ix_list (qv 3) (qe_op op_mod (qe_op op_fdiv (qv 1) qe_int) (qe_callB call_len_seq (by rfl) n_len PySem.boot_len (qa_cons (qv 3) qa_nil))) (fun _ _=>rfl)))) qss_nil) (qss_one (qs_ret (qe_ix ix_list (qv 2) (qe_op op_mod (qe_op op_fdiv (qv 1) qe_int) (qe_callB call_len_seq (by rfl) n_len PySem.boot_len (qa_cons (qv 2) qa_nil))) (fun _ _=>rfl)))))))),?_⟩
  refine ⟨by show 0≤sizeLine;decide,fun F hF=>⟨by show 0≤sizeLine;decide,fun G hG=>?_⟩⟩
  have sF:Same H (upd H F (HO.lst [])):=Same.upd hF
  have hG0:=sF.free hG
  have nFG:F≠G:=fun z=>by rw [← z,upd_same] at hG;cases hG
  have sG:=sF.upd' (o:=HO.lst []) hG0
  refine ⟨_,rfl,p,_,rfl,.inr (SqT.of (sG _ _ hp)),_,rfl,by rw [hln];omega,by rw [hln];omega,?_⟩
  rw [hln,Int.toNat_natCast]
  refine for_range (lo:=0) (n:=r) (fun i σ H2=>∃ (v4 v5:Option V) (fs gs:List Addr),σ=[some (.ref p),some (.int c),some (.ref F),some (.ref G),v4,v5]∧Same H H2∧H2 F=some (.lst (fs.map V.ref))∧H2 G=some (.lst (gs.map V.ref))∧(∀ a∈fs,PairF rows r w H2 a)∧(∀ a∈gs,PairF rows r w H2 a)∧fs.length≤i * 9∧gs.length≤i * 9∧∀ i' j',i' < i→j' < w→cell rows i' j'=46→fs≠[])
   ⟨none,none,[],[],rfl,sG,by rw [upd_ne nFG,upd_same];rfl,upd_same,fun a h=>by simp at h,fun a h=>by simp at h,Nat.zero_le _,Nat.zero_le _,fun i' j' h=>by omega⟩ ?_ ?_
  ·rintro i σ H2 hi ⟨v4,v5,fs,gs,rfl,sm,hF2,hG2,okf,okg,lf,lg,hsome⟩
   refine ⟨_,rfl,p,_,_,.str (S rows[0]),rfl,rfl,SqT.of (sm _ _ hp),atI_nat (j:=0) (Ts_at (by simp [h0])),_,rfl,Nat.le_of_lt (small1000 (by omega)),_,rfl,by rw [hw0];omega,by rw [hw0];omega,?_⟩
   rw [hw0,Int.toNat_natCast]
   refine for_range (lo:=0) (n:=w) (fun j σ H3=>∃ (v5:Option V) (fs gs:List Addr),σ=[some (.ref p),some (.int c),some (.ref F),some (.ref G),some (.int (0 + (i:Int))),v5]∧Same H H3∧H3 F=some (.lst (fs.map V.ref))∧H3 G=some (.lst (gs.map V.ref))∧(∀ a∈fs,PairF rows r w H3 a)∧(∀ a∈gs,PairF rows r w H3 a)∧fs.length≤i * 9 + j∧gs.length≤i * 9 + j∧∀ i' j',(i' < i∨(i'=i∧j' < j))→j' < w→cell rows i' j'=46→fs≠[])
    ⟨v5,fs,gs,rfl,sm,hF2,hG2,okf,okg,lf,lg,fun i' j' h h1 h2=>hsome i' j' (by omega) h1 h2⟩ ?_ ?_
   ·rintro j σ H3 hj ⟨v5,fs,gs,rfl,s3,hF3,hG3,okf3,okg3,lf3,lg3,hsome3⟩
    have g1:i < rows.length:=by rw [hb.len];exact hi
    have hwi:rows[i].length=w:=hb.wid _ (List.getElem_mem _)
    have g2:j < rows[i].length:=by omega
    have hce:=cell_eq g1 g2
    refine ⟨_,rfl,_,rfl,p,_,_,.str (S rows[i]),rfl,rfl,SqT.of (s3 _ _ hp),by rw [Int.zero_add];exact atI_nat (Ts_at (by simp [g1])),_,rfl,rows[i],_,rows[i][j],rfl,rfl,Nat.le_of_lt (small1000 (by omega)),by rw [Int.zero_add];exact atI_nat (by simp [g2]),[rows[i][j]],[46],rfl,rfl,_,rfl,?_⟩
    rw [← hce]
    by_cases hc:cell rows i j=46
    ·rw [decide_eq_true (show [cell rows i j]=[46] by rw [hc])]
     refine iteT ⟨_,rfl,.inl ⟨rfl,_,SqL.of hF3⟩,_,rfl,_,rfl,by show 2≤sizeLine;decide,fun b hbn=>?_⟩
     have k4:Same H3 (upd H3 b (HO.tup [.int (0 + (i:Int)),.int (0 + (j:Int))])):=Same.upd hbn
     have hF4:=k4 _ _ hF3
     refine ⟨F,_,_,rfl,rfl,hF4,by rw [List.length_map];exact small1000 (by omega),?_⟩
     have hPb:PairF rows r w (upd (upd H3 b (HO.tup [.int (0 + (i:Int)),.int (0 + (j:Int))])) F (HO.lst (fs.map V.ref ++ [V.ref b]))) b:=⟨i,j,tupL hF4 _ _ (by rw [upd_same,Int.zero_add,Int.zero_add]),hi,hj,hc⟩
     have okf5:∀ a∈fs ++ [b],PairF rows r w (upd (upd H3 b (HO.tup [.int (0 + (i:Int)),.int (0 + (j:Int))])) F (HO.lst (fs.map V.ref ++ [V.ref b]))) a:=fun a ha=>by
      rcases List.mem_append.mp ha with z | z
      ·exact ((okf3 a z).mvT fun a xs e=>k4 a _ e).mvT (tupL hF4)
      ·rw [List.mem_singleton.mp z];exact hPb
     have okg5:∀ a∈gs,PairF rows r w (upd (upd H3 b (HO.tup [.int (0 + (i:Int)),.int (0 + (j:Int))])) F (HO.lst (fs.map V.ref ++ [V.ref b]))) a:=fun a ha=>((okg3 a ha).mvT fun a xs e=>k4 a _ e).mvT (tupL hF4)
     have hF5:upd (upd H3 b (HO.tup [.int (0 + (i:Int)),.int (0 + (j:Int))])) F (HO.lst (fs.map V.ref ++ [V.ref b])) F=some (.lst ((fs ++ [b]).map V.ref)):=by rw [upd_same];simp
     have hG5:upd (upd H3 b (HO.tup [.int (0 + (i:Int)),.int (0 + (j:Int))])) F (HO.lst (fs.map V.ref ++ [V.ref b])) G=some (.lst (gs.map V.ref)):=by rw [upd_ne nFG.symm];exact k4 _ _ hG3
     have s5:Same H (upd (upd H3 b (HO.tup [.int (0 + (i:Int)),.int (0 + (j:Int))])) F (HO.lst (fs.map V.ref ++ [V.ref b]))):=(s3.trans k4).upd' hF
     generalize upd (upd H3 b (HO.tup [.int (0 + (i:Int)),.int (0 + (j:Int))])) F (HO.lst (fs.map V.ref ++ [V.ref b]))=H5 at okf5 okg5 hF5 hG5 s5 ⊢
     refine ⟨_,rfl,_,rfl,_,rfl,p,rows,r,w,(i:Int),(j:Int),by show [V.ref p,V.int (0 + (i:Int)),V.int (0 + (j:Int))]=_;rw [Int.zero_add,Int.zero_add],s5 _ _ hp,hb,r1,r9,w9,fun bb H6 s6=>⟨_,rfl,?_⟩⟩
     refine ite2 (fun _=>?_) (fun _=>?_)
     ·have hG6:=s6 _ _ hG5
      refine ⟨_,rfl,.inl ⟨rfl,_,SqL.of hG6⟩,_,rfl,_,rfl,by show 2≤sizeLine;decide,fun b2 hb2=>?_⟩
      have k7:Same H6 (upd H6 b2 (HO.tup [.int (0 + (i:Int)),.int (0 + (j:Int))])):=Same.upd hb2
      have hG7:=k7 _ _ hG6
      refine ⟨G,_,_,rfl,rfl,hG7,by rw [List.length_map];exact small1000 (by omega),?_⟩
      refine ⟨_,fs ++ [b],gs ++ [b2],rfl,((s5.trans s6).trans k7).upd' hG0,by rw [upd_ne nFG];exact k7 _ _ (s6 _ _ hF5),by rw [upd_same];simp,fun a ha=>?_,fun a ha=>?_,by simp;omega,by simp;omega,fun _ _ _ _ _=>by simp⟩
      ·exact (((okf5 a ha).mvT fun a xs e=>s6 a _ e).mvT fun a xs e=>k7 a _ e).mvT (tupL hG7)
      ·rcases List.mem_append.mp ha with z | z
       ·exact (((okg5 a z).mvT fun a xs e=>s6 a _ e).mvT fun a xs e=>k7 a _ e).mvT (tupL hG7)
       ·rw [List.mem_singleton.mp z]
        exact ⟨i,j,tupL hG7 _ _ (by rw [upd_same,Int.zero_add,Int.zero_add]),hi,hj,hc⟩
     ·exact ⟨_,fs ++ [b],gs,rfl,s5.trans s6,s6 _ _ hF5,s6 _ _ hG5,fun a ha=>(okf5 a ha).mvT fun a xs e=>s6 a _ e,fun a ha=>(okg5 a ha).mvT fun a xs e=>s6 a _ e,by simp;omega,by omega,fun _ _ _ _ _=>by simp⟩
    ·rw [decide_eq_false (show ¬[cell rows i j]=[46] from fun z=>hc (by injection z))]
     refine iteF ⟨_,fs,gs,rfl,s3,hF3,hG3,okf3,okg3,by omega,by omega,fun i' j' h h1 h2=>?_⟩
     by_cases he:i'=i∧j'=j
     ·rw [he.1,he.2] at h2;exact absurd h2 hc
     ·exact hsome3 i' j' (by omega) h1 h2
   ·rintro σ H3 ⟨v5,fs,gs,rfl,s3,hF3,hG3,okf3,okg3,lf3,lg3,hsome3⟩
    exact ⟨_,_,fs,gs,rfl,s3,hF3,hG3,okf3,okg3,by omega,by omega,fun i' j' h h1 h2=>hsome3 i' j' (by omega) h1 h2⟩
  ·rintro σ H2 ⟨v4,v5,fs,gs,rfl,sm,hF2,hG2,okf,okg,lf,lg,hsome⟩
   have hfne:fs≠[]:=by
    obtain ⟨i,j,hi,hj,hc⟩:=hfree
    exact hsome i j hi hj hc
   have pick:∀ (H3:Hp) (hs:List Addr) (G':Addr),hs≠[]→Same H H3→H3 G'=some (.lst (hs.map V.ref))→(∀ a∈hs,PairF rows r w H3 a)→∃ a,atI (hs.map V.ref) (c / 4 % ((hs.map V.ref).length:Int))=some (.ref a)∧(0:Int) < ((hs.map V.ref).length:Int)∧Q (.ref a) H3:=fun H3 hs G' hne sm3 hG3 ok=>by
    have hl0:0 < hs.length:=List.length_pos_iff.mpr hne
    obtain ⟨x,hx,hm⟩:=at_modA (xs:=hs.map V.ref) (n:=(hs.map V.ref).length) rfl (by rw [List.length_map];exact hl0) (c / 4)
    obtain ⟨a,ha,rfl⟩:=List.mem_map.mp hm
    obtain ⟨i,j,e,hi,hj,hc⟩:=ok a ha
    exact ⟨a,hx,by rw [List.length_map];omega,q a i j H3 sm3 e hi hj hc⟩
   refine ⟨_,rfl,by show 0≤sizeLine;decide,fun e he=>?_⟩
   have k3:Same H2 (upd H2 e (HO.lst [])):=Same.upd he
   have okf3:∀ a∈fs,PairF rows r w (upd H2 e (HO.lst [])) a:=fun a ha=>(okf a ha).mvT fun a xs z=>k3 a _ z
   have okg3:∀ a∈gs,PairF rows r w (upd H2 e (HO.lst [])) a:=fun a ha=>(okg a ha).mvT fun a xs z=>k3 a _ z
   obtain ⟨es,hes,hel⟩:=pairF_has (K:=K) okg3
   have he3:upd H2 e (HO.lst []) e=some (.lst []):=upd_same
   have hF3:=k3 _ _ hF2
   have hG3:=k3 _ _ hG2
   have s3:=sm.trans k3
   generalize upd H2 e (HO.lst [])=H3 at k3 okf3 okg3 hes he3 hF3 hG3 s3 ⊢
   refine ⟨2,.lst es,.lst [],by decide,.lst (SqL.of hG3) hes,.lst (SqL.of he3) .nil,_,rfl,?_⟩
   obtain ⟨af,hf1,hf2,hf3⟩:=pick H3 fs F hfne s3 hF3 okf3
   have last:tRet (tOp (rIxL K) (tVar 2) (tOp (rI (fun _ j=>0 < j) fun i j=>.int (i % j)) (tOp (rI CDiv fun i j=>.int (i / j)) (tVar 1) (tC (.int 4))) (tCB (fun xs H Q=>∃ p ys,xs=[.ref p]∧(SqL K H p ys∨SqT K H p ys)∧Q (.int ys.length) H) (tCons (tVar 2) tNil)))) { nx:=fun x H'=>Q V.non H',rt:=Q } [some (.ref p),some (.int c),some (.ref F),some (.ref G),v4,v5] H3:=
    ⟨_,rfl,_,rfl,_,_,rfl,rfl,⟨by decide,by decide⟩,_,rfl,F,_,rfl,.inl (SqL.of hF3),_,_,rfl,rfl,hf2,F,_,_,_,rfl,rfl,SqL.of hF3,hf1,hf3⟩
   by_cases hz:gs=[]
   ·have ez:es=[]:=List.eq_nil_of_length_eq_zero (by rw [hel,hz];rfl)
    subst ez
    simp only [if_true,decide_true,Bool.not_true]
    exact iteF (iteF last)
   ·have ez:¬Dt.lst es=Dt.lst []:=fun y=>hz (by
     injection y with y
     rw [y] at hel
     exact List.eq_nil_of_length_eq_zero hel.symm)
    simp only [if_true,ez,decide_false,Bool.not_false]
    obtain ⟨ag,hg1,hg2,hg3⟩:=pick H3 gs G hz s3 hG3 okg3
    refine ⟨_,rfl,_,_,rfl,rfl,(by show (0:Int) < 4;decide),_,_,rfl,rfl,_,rfl,ite2 (fun _=>?_) (fun _=>last)⟩
    exact ⟨_,rfl,_,rfl,_,_,rfl,rfl,⟨by decide,by decide⟩,_,rfl,G,_,rfl,.inl (SqL.of hG3),_,_,rfl,rfl,hg2,G,_,_,_,rfl,rfl,SqL.of hG3,hg1,hg3⟩
end
end My
end
section
set_option Elab.async false
set_option linter.all false
set_option maxRecDepth 100000
set_option maxHeartbeats 2000000
namespace My
open PySem L2
section
variable {P:Program} {w:World} {K:PySem.W.Frag} {mg:Str→Option Value} {base:Heap}
theorem sgC_lo {c:Nat} (h:sgC c):sgC (PyProof.Rows.lo1 c):=by
 unfold PyProof.Rows.lo1
 split
 ·rename_i h2
  exact sgC_az ⟨by omega,by omega⟩
 ·exact h
theorem pw_eq {i:Nat}:∀ {ts:List Trip},(∀ t∈ts,t.1=i)→ts.Pairwise (fun a b=>a.1=b.1)
 | [],_=>.nil
 | t :: ts,h=>.cons (fun b hb=>by rw [h t List.mem_cons_self,h b (List.mem_cons_of_mem _ hb)]) (pw_eq fun b hb=>h b (List.mem_cons_of_mem _ hb))
def Line1 (ts:List Trip):Prop:=ts.Pairwise (fun a b=>a.1=b.1)∨ts.Pairwise (fun a b=>a.1 < b.1)
def RiseL (ts:List Trip):Prop:=ts.Pairwise (fun a b=>a.1=b.1∧a.2.1 < b.2.1)∨ts.Pairwise (fun a b=>a.1 < b.1)
def spStraight:Sp:=fun vs H Q _=>∃ (p:Addr) (rows:List (List Nat)) (r w:Nat) (c:Int) (ls:List Nat) (m:Nat),vs=[.ref p,.int c,.str (S ls),.int m]∧H p=some (.tup (Ts rows))∧Blk r w rows∧1≤r∧r≤9∧1≤w∧w≤9∧(∃ i j,i < r∧j < w∧cell rows i j=46)∧Alph ls∧1≤m∧m≤7∧
 ∀ (t:Addr) (as:List Addr) (ts:List Trip) (H':Hp),Same H H'→H' t=some (.tup (as.map V.ref))→LayL H' as ts→(∀ t∈ts,inB r w t)→ts≠[]→ts.length≤7→RiseL ts→Q (.ref t) H'
theorem ok_straight (D:DefAt K mg "_law_straight" s_straight ["_law_rows_here","_law_cell","_law_letters_here","_law_many"]) (n_len:mg "len"=none) (n_int:mg "int"=none) (n_tuple:mg "tuple"=none) (D_starts:Def P w K mg base "_law_starts" 2 ["_law_rows_here","_law_cell"] spStarts) (D_draw:Def P w K mg base "_law_draw" 1 ["_law_cell","_law_j"] spDraw) (D_sign:Def P w K mg base "_law_sign" 1 ["_law_cell","_law_letters_here"] spSgn):Def P w K mg base "_law_straight" 3 ["_law_rows_here","_law_cell","_law_letters_here","_law_many"] spStraight:=by
 refine D.qok sc_straight (fun vs H Q E h=>?_) (fun f cdv A outer s H vs Q E hr h=>?_)
 ·obtain ⟨p,rows,r,w,c,ls,m,rfl,_⟩:=h
  rfl
 ·obtain ⟨p,rows,r,w,c,ls,m,rfl,hp,hb,r1,r9,w1,w9,hfree,hA,m1,m7,q⟩:=h
  have hln:(Ts rows).length=r:=by rw [List.length_map,hb.len]
  have h0:0 < rows.length:=by rw [hb.len];omega
  have hw0:rows[0].length=w:=hb.wid _ (List.getElem_mem _)
  refine ⟨_,(qss_cons (qs_set (i:=4) sc_straight.nd rfl (Or.inl rfl) (qe_op op_mod (qv 1) qe_int)) (qss_cons (qs_asg (qe_own D_starts (hr.mono (by decide)) rfl (qa_cons (qv 0) (qa_cons (qe_op op_fdiv (qv 1) qe_int) qa_nil))) (qg_tup rfl (qgs_cons (qg_name (i:=5) sc_straight.nd rfl (Or.inl rfl)) (qgs_cons (qg_name (i:=6) sc_straight.nd rfl (Or.inl rfl)) qgs_nil)))) (qss_cons (qs_set (i:=7) sc_straight.nd rfl (Or.inl rfl) (qe_lst qa_nil)) (qss_cons (qs_set (i:=8) sc_straight.nd rfl (Or.inl rfl) qe_int) (qss_cons (qs_set (i:=9) sc_straight.nd rfl (Or.inl rfl) (qe_op op_fdiv (qv 1) qe_int)) (qss_cons (qs_cut (qs_while PassesOwn.never (QW.qt (qw_and (qt_cmpR op_lt (qv 5) (qe_callB call_len_seq (by rfl) n_len PySem.boot_len (qa_cons (qv 0) qa_nil)) (nomark _)) (qw_and (qt_cmpR op_lt (qv 6) (qe_callB call_lenS (by rfl) n_len PySem.boot_len (qa_cons (qe_ix ix_tup (qv 0) qe_int (fun _ _=>rfl)) qa_nil)) (nomark _)) (qw_and1 (qt_cmpR op_lt (qe_callB call_len_seq (by rfl) n_len PySem.boot_len (qa_cons (qv 7) qa_nil)) (qv 3) (nomark _)))))) (qss_cons (qs_cut (qs_if (qt_cmpR op_eqS (qe_ix ix_S (qe_ix ix_tup (qv 0) (qv 5) (fun _ _=>rfl)) (qv 6) (fun _ _=>rfl)) (qe_strS [46] (by decide +kernel)) (nomark _)) (qss_cons (qs_set (i:=10) sc_straight.nd rfl (Or.inl rfl) (qe_own D_draw (hr.mono (by decide)) rfl (qa_cons (qv 1) (qa_cons (qe_op op_add (qe_callB call_len_seq (by rfl) n_len PySem.boot_len (qa_cons (qv 7) qa_nil)) qe_int) qa_nil)))) (qss_cons (qs_cut (qs_if (qt_cmpR op_eq (qe_op op_mod (qe_op op_fdiv (qv 1) qe_int) qe_int) qe_int (nomark _)) (qss_cons (qs_set (i:=10) sc_straight.nd rfl (Or.inl rfl) (qe_op op_mod (qv 9) qe_int)) (qss_one (qs_set (i:=9) sc_straight.nd rfl (Or.inl rfl) (qe_op op_fdiv (qv 9) qe_int)))) qss_nil)) (qss_cons (qs_set (i:=11) sc_straight.nd rfl (Or.inl rfl) (qe_own D_sign (hr.mono (by decide)) rfl (qa_cons (qv 10) (qa_cons (qv 2) qa_nil)))) (qss_cons (qs_cut (qs_if (qt_cmpR op_eq (qv 8) qe_int (nomark _)) (qss_one (qs_set (i:=11) sc_straight.nd rfl (Or.inl rfl) (qe_bm0 PySem.F.plainAttrs_str PySem.F.slot_str_lower PySem.F.type_str_lower mt_loA (qv 11)))) qss_nil)) (qss_cons (qs_set (i:=8) sc_straight.nd rfl (Or.inl rfl) (qe_op op_add (qv 8) (qe_callTy call_int1 (by rfl) n_int PyProof.Rows.boot_int (qa_cons (qe_cmpR op_neS (qv 11) (qe_bm0 PySem.F.plainAttrs_str PySem.F.slot_str_lower PySem.F.type_str_lower mt_loA (qv 11)) (nomark _)) qa_nil)))) (qss_one (qs_expr (qe_bm PySem.F.plainAttrs_list PySem.F.slot_list_append PySem.F.type_list_append mt_append (qv 7) (qa_cons (qe_tup (qa_cons (qv 5) (qa_cons (qv 6) (qa_cons (qv 11) qa_nil)))) qa_nil))))))))) qss_nil)) (qss_cons (qs_set (i:=5) sc_straight.nd rfl (Or.inl rfl) (qe_op op_add (qv 5) (qv 4))) (qss_one (qs_set (i:=6) sc_straight.nd rfl (Or.inl rfl) (qe_op op_sub (qe_op op_add (qv 6) qe_int) (qv 4)))))))) (qss_one (qs_ret (qe_callTy call_tuple_of (by rfl) n_tuple PyProof.Rows.boot_tuple (qa_cons (qv 7) qa_nil)))))))))),?_⟩
  refine ⟨_,rfl,_,_,rfl,rfl,(by show (0:Int) < 2;decide),?_⟩
  obtain ⟨wy,ewy,hwy⟩:∃ wy:Nat,c % 2=(wy:Int)∧wy≤1:=⟨(c % 2).toNat,by omega,by omega⟩
  dsimp only
  rw [ewy]
  refine ⟨_,rfl,_,rfl,_,_,rfl,rfl,⟨by decide,by decide⟩,p,rows,r,w,_,rfl,hp,hb,r1,r9,w1,w9,hfree,fun t0 i0 j0 H1 s1 ht0 hi0 hj0 hc0=>?_⟩
  refine ⟨t0,_,rfl,SqT.of ht0,rfl,_,_,rfl,_,_,rfl,rfl,?_⟩
  refine ⟨by show 0≤sizeLine;decide,fun F hF=>?_⟩
  have hF0:=s1.free hF
  refine ⟨_,rfl,_,_,rfl,rfl,⟨by decide,by decide⟩,?_⟩
  refine ⟨fun σ' H'=>∃ (v5 v6 v8 v9 v10 v11:Option V) (as:List Addr) (ts:List Trip),σ'=[some (.ref p),some (.int c),some (.str (S ls)),some (.int m),some (.int wy),v5,v6,some (.ref F),v8,v9,v10,v11]∧Same H H'∧H' F=some (.lst (as.map V.ref))∧LayL H' as ts∧(∀ t∈ts,inB r w t)∧ts≠[]∧ts.length≤7∧RiseL ts,?_,?_⟩
  ·refine ⟨fun mm σ H'=>∃ (i j:Nat) (bl re:Int) (v10 v11:Option V) (as:List Addr) (ts:List Trip),σ=[some (.ref p),some (.int c),some (.str (S ls)),some (.int m),some (.int wy),some (.int i),some (.int j),some (.ref F),some (.int bl),some (.int re),v10,v11]∧Same H H'∧H' F=some (.lst (as.map V.ref))∧LayL H' as ts∧(∀ t∈ts,inB r w t)∧ts.length≤m∧(wy=0→ts.Pairwise (fun a b=>a.2.1 < b.2.1)∧∀ t∈ts,t.1=i∧t.2.1 < j)∧(wy=1→ts.Pairwise (fun a b=>a.1 < b.1)∧∀ t∈ts,t.1 < i)∧((i=i0∧j=j0∧ts=[])∨ts≠[])∧i≤r∧j≤w∧mm=(r + w) - (i + j),
    ⟨_,i0,j0,_,_,none,none,[],[],rfl,s1.upd' hF0,upd_same,LayL.nil,fun t h=>by simp at h,Nat.zero_le _,fun _=>⟨.nil,fun t h=>by simp at h⟩,fun _=>⟨.nil,fun t h=>by simp at h⟩,.inl ⟨rfl,rfl,rfl⟩,by omega,by omega,rfl⟩,?_⟩
   rintro mm σ H2 ⟨i,j,bl,re,v10,v11,as,ts,rfl,sm,hF2,hL,hin,hlen,hl0,hl1,hst,hir,hjw,rfl⟩
   have hpS:=SqT.of (K:=K) (sm _ _ hp)
   have hal:=hL.len
   have ex:ts≠[]→∃ (v5 v6 v8 v9 w10 w11:Option V) (as:List Addr) (ts:List Trip),([some (.ref p),some (.int c),some (.str (S ls)),some (.int m),some (.int wy),some (.int i),some (.int j),some (.ref F),some (.int bl),some (.int re),v10,v11]:St)=[some (.ref p),some (.int c),some (.str (S ls)),some (.int m),some (.int wy),v5,v6,some (.ref F),v8,v9,w10,w11]∧Same H H2∧H2 F=some (.lst (as.map V.ref))∧LayL H2 as ts∧(∀ t∈ts,inB r w t)∧ts≠[]∧ts.length≤7∧RiseL ts:=fun hne=>by
    refine ⟨_,_,_,_,_,_,as,ts,rfl,sm,hF2,hL,hin,hne,by omega,?_⟩
    by_cases z:wy=0
    ·exact .inl ((pw_eq fun t ht=>((hl0 z).2 t ht).1).and (hl0 z).1)
    ·exact .inr (hl1 (by omega)).1
   refine ⟨_,rfl,_,rfl,p,_,rfl,.inr hpS,_,_,rfl,rfl,_,rfl,?_⟩
   rw [hln]
   by_cases c1:(i:Int) < (r:Int)
   ·rw [decide_eq_true c1]
    refine iteT ⟨_,rfl,_,rfl,p,_,_,.str (S rows[0]),rfl,rfl,hpS,atI_nat (j:=0) (Ts_at (by simp [h0])),_,rfl,Nat.le_of_lt (small1000 (by omega)),_,_,rfl,rfl,_,rfl,?_⟩
    rw [hw0]
    by_cases c2:(j:Int) < (w:Int)
    ·rw [decide_eq_true c2]
     refine iteT ⟨_,rfl,F,_,rfl,.inl (SqL.of hF2),_,rfl,_,_,rfl,rfl,_,rfl,?_⟩
     rw [List.length_map]
     by_cases c3:(as.length:Int) < (m:Int)
     ·rw [decide_eq_true c3]
      have g1:i < rows.length:=by rw [hb.len];omega
      have hwi:rows[i].length=w:=hb.wid _ (List.getElem_mem _)
      have g2:j < rows[i].length:=by omega
      have hce:=cell_eq g1 g2
      refine iteT ⟨fun σ' H'=>∃ (bl re:Int) (v10 v11:Option V) (as:List Addr) (ts:List Trip),σ'=[some (.ref p),some (.int c),some (.str (S ls)),some (.int m),some (.int wy),some (.int ((i + wy:Nat):Int)),some (.int ((j + 1 - wy:Nat):Int)),some (.ref F),some (.int bl),some (.int re),v10,v11]∧Same H H'∧H' F=some (.lst (as.map V.ref))∧LayL H' as ts∧(∀ t∈ts,inB r w t)∧ts.length≤m∧(wy=0→ts.Pairwise (fun a b=>a.2.1 < b.2.1)∧∀ t∈ts,t.1=i∧t.2.1≤j)∧(wy=1→ts.Pairwise (fun a b=>a.1 < b.1)∧∀ t∈ts,t.1≤i)∧ts≠[],?_,?_⟩
      ·rintro σ' H' ⟨bl,re,v10,v11,as,ts,rfl,sm',hF',hL',hin',hlen',hl0',hl1',hne⟩
       refine ⟨(r + w) - (i + wy + (j + 1 - wy)),by omega,i + wy,j + 1 - wy,bl,re,v10,v11,as,ts,rfl,sm',hF',hL',hin',hlen',fun z=>⟨(hl0' z).1,fun t ht=>?_⟩,fun z=>⟨(hl1' z).1,fun t ht=>?_⟩,.inr hne,by omega,by omega,rfl⟩
       ·have:=(hl0' z).2 t ht;omega
       ·have:=(hl1' z).2 t ht;omega
      refine ⟨fun σ' H'=>∃ (bl re:Int) (v10 v11:Option V) (as:List Addr) (ts:List Trip),σ'=[some (.ref p),some (.int c),some (.str (S ls)),some (.int m),some (.int wy),some (.int i),some (.int j),some (.ref F),some (.int bl),some (.int re),v10,v11]∧Same H H'∧H' F=some (.lst (as.map V.ref))∧LayL H' as ts∧(∀ t∈ts,inB r w t)∧ts.length≤m∧(wy=0→ts.Pairwise (fun a b=>a.2.1 < b.2.1)∧∀ t∈ts,t.1=i∧t.2.1≤j)∧(wy=1→ts.Pairwise (fun a b=>a.1 < b.1)∧∀ t∈ts,t.1≤i)∧ts≠[],?_,?_⟩
      ·refine ⟨_,rfl,_,rfl,p,_,_,.str (S rows[i]),rfl,rfl,hpS,atI_nat (Ts_at (by simp [g1])),_,rfl,rows[i],_,rows[i][j],rfl,rfl,Nat.le_of_lt (small1000 (by omega)),atI_nat (by simp [g2]),[rows[i][j]],[46],rfl,rfl,_,rfl,?_⟩
       rw [← hce]
       by_cases hc:cell rows i j=46
       ·rw [decide_eq_true (show [cell rows i j]=[46] by rw [hc])]
        have e3:(((as.map V.ref).length:Nat):Int) + 3=((as.length + 3:Nat):Int):=by rw [List.length_map];omega
        refine iteT ⟨_,rfl,_,rfl,F,_,rfl,.inl (SqL.of hF2),_,_,rfl,rfl,c,as.length + 3,by show [V.int c,V.int ((((as.map V.ref).length:Nat):Int) + 3)]=_;rw [e3],by omega,fun nu=>?_⟩
        refine ⟨fun σ' H'=>H'=H2∧∃ nu re:Int,σ'=[some (.ref p),some (.int c),some (.str (S ls)),some (.int m),some (.int wy),some (.int i),some (.int j),some (.ref F),some (.int bl),some (.int re),some (.int nu),v11],?_,?_⟩
        ·exact ⟨_,rfl,_,_,rfl,rfl,⟨by decide,by decide⟩,_,_,rfl,rfl,(by show (0:Int) < 2;decide),rfl,_,rfl,ite2 (fun _=>⟨_,rfl,_,_,rfl,rfl,(by show (0:Int) < 2000;decide),_,rfl,_,_,rfl,rfl,⟨by decide,by decide⟩,rfl,_,_,rfl⟩) (fun _=>⟨rfl,_,_,rfl⟩)⟩
        rintro σ' H' ⟨rfl,nu,re,rfl⟩
        refine ⟨_,rfl,_,rfl,_,ls,rfl,hA,fun z hz=>?_⟩
        refine ⟨fun σ' H''=>H''=H'∧∃ z:Nat,sgC z∧σ'=[some (.ref p),some (.int c),some (.str (S ls)),some (.int m),some (.int wy),some (.int i),some (.int j),some (.ref F),some (.int bl),some (.int re),some (.int nu),some (.str (S [z]))],?_,?_⟩
        ·exact ⟨_,rfl,rfl,_,rfl,ite2 (fun _=>⟨_,rfl,rfl,[z],rfl,rfl,by show 1≤1000;decide,fun d hd=>by rw [List.mem_singleton.mp hd];exact hz.lt,rfl,_,sgC_lo hz,rfl⟩) (fun _=>⟨rfl,z,hz,rfl⟩)⟩
        rintro σ' H'' ⟨rfl,z,hz,rfl⟩
        refine ⟨_,rfl,_,rfl,_,rfl,rfl,[z],rfl,rfl,by show 1≤1000;decide,fun d hd=>by rw [List.mem_singleton.mp hd];exact hz.lt,_,_,rfl,rfl,.inr ⟨_,rfl,_,_,rfl,rfl,?_⟩⟩
        refine ⟨_,rfl,.inl ⟨rfl,_,SqL.of hF2⟩,_,rfl,_,rfl,_,rfl,by show 3≤sizeLine;decide,fun b hbn=>?_⟩
        have k5:Same H'' (upd H'' b (HO.tup [.int i,.int j,.str (S [z])])):=Same.upd hbn
        have hF5:=k5 _ _ hF2
        refine ⟨F,_,_,rfl,rfl,hF5,by rw [List.length_map];exact small1000 (by omega),?_⟩
        refine ⟨_,re,_,_,as ++ [b],ts ++ [(i,j,z)],rfl,(sm.trans k5).upd' hF0,by rw [upd_same];simp,?_,fun t ht=>?_,by rw [List.length_append];simp;omega,fun y=>⟨?_,fun t ht=>?_⟩,fun y=>⟨?_,fun t ht=>?_⟩,by simp⟩
        ·exact ((hL.mv k5).snoc (t:=(i,j,z)) upd_same).mvT (tupL hF5)
        ·rcases List.mem_append.mp ht with y | y
         ·exact hin t y
         ·rw [List.mem_singleton.mp y];exact ⟨by show i < r;omega,by show j < w;omega,hz⟩
        ·rw [List.pairwise_append]
         refine ⟨(hl0 y).1,List.pairwise_singleton _ _,fun a ha b' hb'=>?_⟩
         rw [List.mem_singleton.mp hb']
         exact ((hl0 y).2 a ha).2
        ·rcases List.mem_append.mp ht with x | x
         ·have:=(hl0 y).2 t x;exact ⟨this.1,Nat.le_of_lt this.2⟩
         ·rw [List.mem_singleton.mp x];exact ⟨rfl,Nat.le_refl _⟩
        ·rw [List.pairwise_append]
         refine ⟨(hl1 y).1,List.pairwise_singleton _ _,fun a ha b' hb'=>?_⟩
         rw [List.mem_singleton.mp hb']
         exact (hl1 y).2 a ha
        ·rcases List.mem_append.mp ht with x | x
         ·have:=(hl1 y).2 t x;omega
         ·rw [List.mem_singleton.mp x];exact Nat.le_refl _
       ·rw [decide_eq_false (show ¬[cell rows i j]=[46] from fun z=>hc (by injection z))]
        refine iteF ⟨bl,re,v10,v11,as,ts,rfl,sm,hF2,hL,hin,hlen,fun y=>⟨(hl0 y).1,fun t ht=>⟨((hl0 y).2 t ht).1,Nat.le_of_lt ((hl0 y).2 t ht).2⟩⟩,fun y=>⟨(hl1 y).1,fun t ht=>Nat.le_of_lt ((hl1 y).2 t ht)⟩,?_⟩
        rcases hst with ⟨z1,z2,_⟩ | z
        ·rw [z1,z2] at hc;exact absurd hc0 hc
        ·exact z
      ·rintro σ' H' ⟨bl,re,v10,v11,as,ts,rfl,sm',hF',hL',hin',hlen',hl0',hl1',hne⟩
       refine ⟨_,rfl,_,rfl,_,_,rfl,rfl,?_⟩
       refine ⟨_,rfl,_,_,rfl,rfl,_,rfl,_,_,rfl,rfl,?_⟩
       refine ⟨bl,re,v10,v11,as,ts,?_,sm',hF',hL',hin',hlen',hl0',hl1',hne⟩
       rw [show ((i + wy:Nat):Int)=(i:Int) + (wy:Int) by omega,show ((j + 1 - wy:Nat):Int)=(j:Int) + 1 - (wy:Int) by omega]
       rfl
     ·rw [decide_eq_false c3]
      refine iteF (ex ?_)
      rcases hst with ⟨_,_,z⟩ | z
      ·rw [z] at hal
       have:as.length=0:=hal
       omega
      ·exact z
    ·rw [decide_eq_false c2]
     refine iteF (iteF (ex ?_))
     rcases hst with ⟨_,z,_⟩ | z
     ·omega
     ·exact z
   ·rw [decide_eq_false c1]
    refine iteF (iteF (ex ?_))
    rcases hst with ⟨z,_,_⟩ | z
    ·omega
    ·exact z
  ·rintro σ' H' ⟨v5,v6,v8,v9,v10,v11,as,ts,rfl,sm,hF2,hL,hin,hne,h7,hline⟩
   refine ⟨_,rfl,F,_,rfl,.inl ⟨SqL.of hF2,fun T hT=>?_⟩⟩
   have k:Same H' (upd H' T (HO.tup (as.map V.ref))):=Same.upd hT
   exact q T as ts _ (sm.trans k) upd_same (hL.mv k) hin hne h7 hline
end
end My
end
section
set_option Elab.async false
set_option linter.all false
set_option maxRecDepth 100000
set_option maxHeartbeats 2000000
namespace My
open PySem L2
section
variable {P:Program} {w:World} {K:PySem.W.Frag} {mg:Str→Option Value} {base:Heap}
abbrev Quad:=Nat × Nat × Nat × List Nat
def quad (R:List (List Nat)) (i j wy:Nat):Quad:=
 (if wy=0 then i else i - (tailF ((lineOf R i j (wy:Int)).take i)).length,if wy=0 then j - (tailF ((lineOf R i j (wy:Int)).take j)).length else j,wy,tailF ((lineOf R i j (wy:Int)).take (placeOf i j (wy:Int))) ++ headF ((lineOf R i j (wy:Int)).drop (placeOf i j (wy:Int))))
end
end My
end
section
set_option Elab.async false
set_option linter.all false
set_option maxRecDepth 100000
set_option maxHeartbeats 2000000
namespace My
open PySem L2
section
variable {P:Program} {w:World} {K:PySem.W.Frag} {mg:Str→Option Value} {base:Heap}
structure ObjL {α:Type} (enc:α→List V) (H:Hp) (as:List Addr) (xs:List α):Prop where
 len:as.length=xs.length
 at_:∀ (i:Nat) (a:Addr) (x:α),as[i]?=some a→xs[i]?=some x→H a=some (.tup (enc x))
theorem ObjL.mvT {α:Type} {enc:α→List V} {H H':Hp} {as:List Addr} {xs:List α} (k:∀ a ys,H a=some (.tup ys)→H' a=some (.tup ys)) (h:ObjL enc H as xs):ObjL enc H' as xs:=⟨h.len,fun i a x h1 h2=>k _ _ (h.at_ i a x h1 h2)⟩
theorem ObjL.mv {α:Type} {enc:α→List V} {H H':Hp} {as:List Addr} {xs:List α} (k:Same H H') (h:ObjL enc H as xs):ObjL enc H' as xs:=h.mvT fun a ys e=>k a _ e
theorem ObjL.nil {α:Type} {enc:α→List V} {H:Hp}:ObjL enc H [] []:=⟨rfl,fun i a x h=>by simp at h⟩
theorem ObjL.one {α:Type} {enc:α→List V} {H:Hp} {a:Addr} {x:α} (h:H a=some (.tup (enc x))):ObjL enc H [a] [x]:=⟨rfl,fun i b y h1 h2=>by
 match i,h1,h2 with
 | 0,h1,h2=>
  have e1:a=b:=Option.some.inj h1
  have e2:x=y:=Option.some.inj h2
  rw [← e1,← e2];exact h
 | n + 1,h1,h2=>exact absurd h1 (by simp)⟩
theorem ObjL.app {α:Type} {enc:α→List V} {H:Hp} {as bs:List Addr} {xs ys:List α} (h:ObjL enc H as xs) (g:ObjL enc H bs ys):ObjL enc H (as ++ bs) (xs ++ ys):=by
 refine ⟨by rw [List.length_append,List.length_append,h.len,g.len],fun i a x h1 h2=>?_⟩
 by_cases c:i < as.length
 ·rw [List.getElem?_append_left c] at h1
  rw [List.getElem?_append_left (by rw [← h.len];exact c)] at h2
  exact h.at_ i a x h1 h2
 ·rw [List.getElem?_append_right (by omega)] at h1
  rw [List.getElem?_append_right (by rw [← h.len];omega),← h.len] at h2
  exact g.at_ _ a x h1 h2
theorem ObjL.get {α:Type} {enc:α→List V} {H:Hp} {as:List Addr} {xs:List α} (h:ObjL enc H as xs) {i:Nat} (hi:i < as.length):∃ x,xs[i]?=some x∧H as[i]=some (.tup (enc x)):=by
 have hx:i < xs.length:=by rw [← h.len];exact hi
 exact ⟨xs[i],List.getElem?_eq_getElem hx,h.at_ i _ _ (List.getElem?_eq_getElem hi) (List.getElem?_eq_getElem hx)⟩
abbrev QL:=ObjL (fun q:Quad=>[V.int q.1,V.int q.2.1,V.int q.2.2.1,V.str (S q.2.2.2)])
abbrev AL3:=ObjL (fun q:Nat × Nat × Nat=>[V.int q.1,V.int q.2.1,V.int q.2.2])
def lnB (ts:List Trip):Nat:=if ts.head?.map (·.1)=ts.getLast?.map (·.1) then 0 else 1
def askL (ts:List Trip):List (Nat × Nat × Nat):=(ts.take 1).map (fun t=>(t.1,t.2.1,lnB ts)) ++ ts.map fun t=>(t.1,t.2.1,1 - lnB ts)
def qd (R:List (List Nat)) (a:Nat × Nat × Nat):Quad:=quad R a.1 a.2.1 a.2.2
def longQ (q:Quad):Bool:=decide (1 < q.2.2.2.length)
def wordsF (rows:List (List Nat)) (ts:List Trip):List Quad:=((askL ts).map (qd (laidF rows ts))).filter longQ
theorem lnB_le (ts:List Trip):lnB ts≤1:=by unfold lnB;split <;> decide
theorem quad_len {r w:Nat} {R:List (List Nat)} (hb:Blk r w R) (r9:r≤9) (w9:w≤9) {i j wy:Nat} (hi:i < r):(quad R i j wy).2.2.2.length≤20:=by
 have hll:=lineOf_len hb hi (j:=j) (way:=(wy:Int))
 have h9:(lineOf R i j (wy:Int)).length≤9:=by rw [hll];split <;> assumption
 show (tailF _ ++ headF _).length≤20
 have a1:=tailF_len ((lineOf R i j (wy:Int)).take (placeOf i j (wy:Int)))
 have a2:=headF_len ((lineOf R i j (wy:Int)).drop (placeOf i j (wy:Int)))
 rw [List.length_take] at a1
 rw [List.length_drop] at a2
 rw [List.length_append]
 omega
theorem head_last {ts:List Trip} (h:0 < ts.length):lnB ts=if ts[0].1=ts[ts.length - 1].1 then 0 else 1:=by
 unfold lnB
 rw [List.head?_eq_getElem?,List.getLast?_eq_getElem?,List.getElem?_eq_getElem h,List.getElem?_eq_getElem (by omega)]
 simp only [Option.map_some,Option.some.injEq]
theorem lay_at {H:Hp} {as:List Addr} {ts:List Trip} (hL:LayL H as ts) {i:Nat} (hi:i < ts.length):∃ (h:i < as.length),H as[i]=some (.tup [.int ts[i].1,.int ts[i].2.1,.str (S [ts[i].2.2])]):=by
 have h:i < as.length:=by rw [hL.len];exact hi
 obtain ⟨t,e,ht⟩:=hL.get h
 rw [List.getElem?_eq_getElem hi] at e
 have e:=Option.some.inj e
 rw [← e] at ht
 exact ⟨h,ht⟩
theorem last_at {as:List Addr} (h:0 < as.length):atI (as.map V.ref) (-1)=some (.ref as[as.length - 1]):=by
 have e:as.map V.ref=(as.take (as.length - 1)).map V.ref ++ [V.ref as[as.length - 1]]:=by
  rw [← List.map_singleton,← List.map_append]
  congr 1
  have:=List.take_append_drop (as.length - 1) as
  rw [List.drop_eq_getElem_cons (by omega),show as.length - 1 + 1=as.length by omega,List.drop_length] at this
  exact this.symm
 rw [e]
 exact atI_last _ _
theorem across_eq {ts:List Trip} (hl:Line1 ts) (h0:0 < ts.length):((ts.map fun t=>decide (V.int (t.1:Int)=V.int (ts[0].1:Int))).all id)=decide (lnB ts=0):=by
 have hd:∀ a b:Nat,decide (V.int (a:Int)=V.int (b:Int))=decide (a=b):=fun a b=>by
  by_cases h:a=b
  ·subst h;simp
  ·have:¬V.int (a:Int)=V.int (b:Int):=fun z=>h (by injection z with z;exact Int.ofNat.inj z)
   simp [h,this]
 have key:(∀ t∈ts,t.1=ts[0].1)↔ts[0].1=ts[ts.length - 1].1:=by
  constructor
  ·intro h
   exact (h _ (List.getElem_mem _)).symm
  ·intro h t ht
   obtain ⟨i,hi,rfl⟩:=List.mem_iff_getElem.mp ht
   rcases hl with hl | hl
   ·rw [List.pairwise_iff_getElem] at hl
    rcases Nat.eq_zero_or_pos i with z | z
    ·subst z;rfl
    ·exact (hl 0 i h0 hi z).symm
   ·rw [List.pairwise_iff_getElem] at hl
    rcases Nat.eq_zero_or_pos (ts.length - 1) with z | z
    ·have:i=0:=by omega
     subst this;rfl
    ·have:=hl 0 (ts.length - 1) h0 (by omega) z
     omega
 rw [head_last h0,Bool.eq_iff_iff,List.all_eq_true,decide_eq_true_iff]
 constructor
 ·intro h
  rw [if_pos]
  refine key.mp fun t ht=>?_
  have:=h _ (List.mem_map.mpr ⟨t,ht,rfl⟩)
  rw [hd] at this
  exact of_decide_eq_true this
 ·intro h x hx
  obtain ⟨t,ht,rfl⟩:=List.mem_map.mp hx
  have he:ts[0].1=ts[ts.length - 1].1:=by
   by_cases z:ts[0].1=ts[ts.length - 1].1
   ·exact z
   ·rw [if_neg z] at h;cases h
  rw [hd]
  exact decide_eq_true (key.mpr he t ht)
def spAcross:Sp:=fun vs H Q _=>∃ (t:Addr) (as:List Addr) (ts:List Trip),vs=[.ref t]∧H t=some (.tup (as.map V.ref))∧LayL H as ts∧0 < ts.length∧ts.length≤7∧Line1 ts∧∀ H',Same H H'→Q (.bl (decide (lnB ts=0))) H'
theorem ok_is_across (D:DefAt K mg "is_across" s_is_across ["laying"]) (n_all:mg "all"=none):Def P w K mg base "is_across" 1 ["laying"] spAcross:=by
 refine D.qok sc_is_across (fun vs H Q E h=>?_) (fun f cdv A outer s H vs Q E hr h=>?_)
 ·obtain ⟨t,as,ts,rfl,_⟩:=h
  rfl
 ·obtain ⟨t,as,ts,rfl,ht,hL,h0,h7,hl,q⟩:=h
  have hal:=hL.len
  refine ⟨_,(qss_one (qs_ret (qe_callB (call_all rfl) (by rfl) n_all boot_allX (qa_cons (qe_compG (ns:=["row","column","sign"]) rfl (CompG.of ["laying"] [] (by kernel_rfl)) (qi_tup (qv 0)) (fun _ _ _ _ _=>(tg_tup3 K rfl (show (["row","column","sign","laying"]:List Str).Nodup by decide +kernel) rfl rfl rfl (by rfl) (by rfl) (by rfl))) (fun _ _ _ _ _=>qts_nil) (fun _ _ _ _ _=>(qe_cmpR op_eq (qv 0) (qe_ix (ix_tupK K) (qe_ix (ix_tupK K) (qv 3) qe_int (fun _ _=>rfl)) qe_int (fun _ _=>rfl)) (nomark _)))) qa_nil)))),?_⟩
  refine ⟨_,rfl,t,rfl,⟨_,SqT.of ht⟩,fun N hN=>compG3_tup (K:=K) (KT:=K) (a:=t) (f:=hideS [] 0) (tt:=tYes) (xs:=as.map V.ref) (fun n ys H3=>ys=((ts.take n).map fun t=>decide (V.int (t.1:Int)=V.int (ts[0].1:Int))).map V.bl∧H3 N=some (.lst ys)∧Same H H3)
   ⟨rfl,upd_same,Same.upd hN⟩ (fun n ys H3 _ h=>SqT.of (h.2.2 _ _ ht)) ?_ ?_⟩
  ·rintro n x ys H3 hx ⟨rfl,hN3,sm3⟩
   have hn:n < as.length:=by have:=(List.getElem?_eq_some_iff.mp hx).1;simpa using this
   have hnt:n < ts.length:=by omega
   rw [List.getElem?_map,List.getElem?_eq_getElem hn] at hx
   have hx:V.ref as[n]=x:=Option.some.inj hx
   obtain ⟨_,en⟩:=lay_at (hL.mv sm3) hnt
   obtain ⟨g0,e0⟩:=lay_at (hL.mv sm3) h0
   refine turn3 hx.symm (SqT.of en) ?_
   refine ⟨_,rfl,_,rfl,t,_,_,.ref as[0],rfl,rfl,SqT.of (sm3 _ _ ht),atI_nat (j:=0) (by simp [g0]),as[0],_,_,_,rfl,rfl,SqT.of e0,atI_nat (j:=0) rfl,rfl,hN3,?_,Nxt.mk (by rw [List.length_map];exact hn) ⟨?_,upd_same,sm3.upd' hN⟩⟩
   ·rw [List.length_map,List.length_map,List.length_take];exact small1000 (by omega)
   ·rw [show ts.take (n + 1)=ts.take n ++ (some ts[n]).toList by rw [List.take_add_one,List.getElem?_eq_getElem hnt],List.map_append,List.map_append]
    rfl
  ·rintro ys H3 ⟨rfl,hN3,sm3⟩
   refine ⟨N,_,rfl,SqL.of hN3,?_⟩
   rw [List.length_map,hal,List.take_length,across_eq hl h0]
   exact q H3 sm3
theorem runV_quad {r w:Nat} {R:List (List Nat)} {i j wy:Nat} (hwy:wy≤1):runV i j (wy:Int) (lineOf R i j (wy:Int))=[.int (quad R i j wy).1,.int (quad R i j wy).2.1,.str (S (quad R i j wy).2.2.2)]:=by
 unfold runV quad placeOf
 by_cases z:wy=0
 ·subst z
  have a1:=tailF_len ((lineOf R i j ((0:Nat):Int)).take j)
  rw [List.length_take] at a1
  rw [if_pos rfl]
  show [V.int (i:Int),V.int ((j:Int) - _),_]=[V.int (i:Int),V.int ((j - _:Nat):Int),_]
  rw [Int.ofNat_sub (by omega)]
  rfl
 ·have:wy=1:=by omega
  subst this
  have a1:=tailF_len ((lineOf R i j ((1:Nat):Int)).take i)
  rw [List.length_take] at a1
  rw [if_neg (by decide)]
  show [V.int ((i:Int) - _),V.int (j:Int),_]=[V.int ((i - _:Nat):Int),V.int (j:Int),_]
  rw [Int.ofNat_sub (by omega)]
  rfl
def spFormed (C:Addr):Sp:=fun vs H Q _=>∃ (b t:Addr) (as:List Addr) (ts:List Trip) (r w:Nat) (rows marks:List (List Nat)) (bi bj:Nat),vs=[.ref b,.ref t]∧BoardAt C H b r w rows marks bi bj∧H t=some (.tup (as.map V.ref))∧LayL H as ts∧(∀ t∈ts,inB r w t)∧0 < ts.length∧ts.length≤7∧Line1 ts∧
 ∀ (T:Addr) (bs:List Addr) (H':Hp),Same H H'→H' T=some (.tup (bs.map V.ref))→QL H' bs (wordsF rows ts)→Q (.ref T) H'
theorem ok_formed {C f1 f2:Addr} {fd1 fd2:FuncData} (D:DefAt K mg "formed" s_formed ["board","laying"]) (n_len:mg "len"=none) (n_tuple:mg "tuple"=none) (T_Board:BoardCls K C) (m_Board_laid:Meth K C "laid" f1) (G_Board_laid:FnOk P w K mg base CX0 8 f1 fd1 ["self","laying"] (spLaid C)) (b_Board_laid:Binds K fd1 ["self","laying"] [])
  (m_Board_run:Meth K C "run" f2) (G_Board_run:FnOk P w K mg base CX0 2 f2 fd2 ["self","row","column","way"] (spRun C)) (b_Board_run:Binds K fd2 ["self","row","column","way"] []) (D_is_across:Def P w K mg base "is_across" 1 ["laying"] spAcross):Def P w K mg base "formed" 10 ["board","laying"] (spFormed C):=by
 refine D.qok sc_formed (fun vs H Q E h=>?_) (fun f cdv A outer s H vs Q E hr h=>?_)
 ·obtain ⟨b,t,as,ts,r,w,rows,marks,bi,bj,rfl,_⟩:=h
  rfl
 ·obtain ⟨b,t,as,ts,r,w,rows,marks,bi,bj,rfl,BA,ht,hL,hin,h0,h7,hl,q⟩:=h
  obtain ⟨dx,_,_,_,ex,_⟩:=id BA.ex
  have r9:=BA.ok.r9
  have w9:=BA.ok.w9
  have hal:=hL.len
  have hln:=lnB_le ts
  refine ⟨_,(qss_cons (qs_set (i:=2) sc_formed.nd rfl (Or.inl rfl) (qe_meth (qv 0) T_Board.cl m_Board_laid G_Board_laid (hr.mono (by decide)) b_Board_laid .nil pass0 (qa_cons (qv 1) qa_nil))) (qss_cons (qs_cut (qs_set (i:=3) sc_formed.nd rfl (Or.inr rfl) (qe_ifExp (qt_val (qe_own D_is_across (hr.mono (by decide)) rfl (qa_cons (qv 1) qa_nil))) qe_int qe_int))) (qss_cons (qs_set (i:=4) sc_formed.nd rfl (Or.inl rfl) (qe_lst (qa_cons (qe_tup (qa_cons (qe_ix ix_tup (qe_ix ix_tup (qv 1) qe_int (fun _ _=>rfl)) qe_int (fun _ _=>rfl)) (qa_cons (qe_ix ix_tup (qe_ix ix_tup (qv 1) qe_int (fun _ _=>rfl)) qe_int (fun _ _=>rfl)) (qa_cons (qv 3) qa_nil)))) qa_nil))) (qss_cons (qs_expr (qe_bm PySem.F.plainAttrs_list PySem.F.slot_list_extend PySem.F.type_list_extend mt_extend (qv 4) (qa_cons (qe_compG (ns:=["row","column","sign"]) rfl (CompG.of ["board","laying","after","way","asked",".5",".6","words","along","run"] [5,6] (by kernel_rfl)) (qi_tup (qv 1)) (fun _ _ _ _ _=>(tg_tup3 K rfl (show (["row","column","sign","board","laying","after","way","asked",".5",".6","words","along","run"]:List Str).Nodup by decide +kernel) rfl rfl rfl (by rfl) (by rfl) (by rfl))) (fun _ _ _ _ _=>qts_nil) (fun _ _ _ _ _=>(qe_tup (qa_cons (qv 0) (qa_cons (qv 1) (qa_cons (qe_op op_sub qe_int (qv 6)) qa_nil)))))) qa_nil))) (qss_cons (qs_set (i:=7) sc_formed.nd rfl (Or.inl rfl) (qe_lst qa_nil)) (qss_cons (qs_for PassesOwn.never rfl (qi_list (qv 4)) (qg_tup rfl (qgs_cons (qg_name (i:=5) sc_formed.nd rfl (Or.inl rfl)) (qgs_cons (qg_name (i:=6) sc_formed.nd rfl (Or.inl rfl)) (qgs_cons (qg_name (i:=8) sc_formed.nd rfl (Or.inl rfl)) qgs_nil)))) (qss_cons (qs_set (i:=9) sc_formed.nd rfl (Or.inl rfl) (qe_meth (qv 2) T_Board.cl m_Board_run G_Board_run (hr.mono (by decide)) b_Board_run .nil pass0 (qa_cons (qv 5) (qa_cons (qv 6) (qa_cons (qv 8) qa_nil))))) (qss_one (qs_if (qt_cmpR op_ge (qe_callB call_lenS (by rfl) n_len PySem.boot_len (qa_cons (qe_ix ix_tup (qv 9) qe_int (fun _ _=>rfl)) qa_nil)) qe_int (nomark _)) (qss_one (qs_expr (qe_bm PySem.F.plainAttrs_list PySem.F.slot_list_append PySem.F.type_list_append mt_append (qv 7) (qa_cons (qe_tup (qa_cons (qe_ix ix_tup (qv 9) qe_int (fun _ _=>rfl)) (qa_cons (qe_ix ix_tup (qv 9) qe_int (fun _ _=>rfl)) (qa_cons (qv 8) (qa_cons (qe_ix ix_tup (qv 9) qe_int (fun _ _=>rfl)) qa_nil))))) qa_nil)))) qss_nil)))) (qss_one (qs_ret (qe_callTy call_tuple_of (by rfl) n_tuple PyProof.Rows.boot_tuple (qa_cons (qv 7) qa_nil)))))))))),?_⟩
  refine ⟨_,rfl,b,dx,_,rfl,ex,rfl,_,rfl,b,t,as,ts,r,w,rows,marks,bi,bj,rfl,BA,ht,hL,hin,fun x1 H1 s1 B1=>?_⟩
  have hb':=laid_blk BA.ok.br hin
  generalize hR:laidF rows ts=R at B1 hb'
  refine ⟨fun σ H'=>Same H1 H'∧σ=[some (.ref b),some (.ref t),some (.ref x1),some (.int (lnB ts)),none,none,none,none,none,none],?_,?_⟩
  ·refine ⟨_,rfl,t,as,ts,rfl,s1 _ _ ht,hL.mv s1,h0,h7,hl,fun H2 s2=>⟨_,rfl,?_⟩⟩
   by_cases z:lnB ts=0
   ·rw [decide_eq_true z]
    refine iteT ⟨s2,?_⟩
    rw [z];rfl
   ·rw [decide_eq_false z]
    refine iteF ⟨s2,?_⟩
    rw [show lnB ts=1 by omega];rfl
  rintro σ H2 ⟨s2,rfl⟩
  have s12:=s1.trans s2
  have hL2:=hL.mv s12
  have ht2:=s12 _ _ ht
  obtain ⟨g0,e0⟩:=lay_at hL2 h0
  refine ⟨_,rfl,t,_,_,.ref as[0],rfl,rfl,SqT.of ht2,atI_nat (j:=0) (by simp [g0]),as[0],_,_,_,rfl,rfl,SqT.of e0,atI_nat (j:=0) rfl,_,rfl,t,_,_,.ref as[0],rfl,rfl,SqT.of ht2,atI_nat (j:=0) (by simp [g0]),as[0],_,_,_,rfl,rfl,SqT.of e0,atI_nat (j:=1) rfl,_,rfl,by show 3≤sizeLine;decide,fun t1 ht1=>⟨by show 1≤sizeLine;decide,fun A0 hA0=>?_⟩⟩
  have k3:Same H2 (upd H2 t1 (HO.tup [.int ts[0].1,.int ts[0].2.1,.int (lnB ts)])):=Same.upd ht1
  have k4:=k3.upd' (o:=HO.lst [.ref t1]) (k3.free hA0)
  have hA0':=k3.free hA0
  have n1A:t1≠A0:=fun z=>by rw [← z,upd_same] at hA0;cases hA0
  have e1:upd (upd H2 t1 (HO.tup [.int ts[0].1,.int ts[0].2.1,.int (lnB ts)])) A0 (HO.lst [.ref t1]) t1=some (.tup [.int ts[0].1,.int ts[0].2.1,.int (lnB ts)]):=by rw [upd_ne n1A,upd_same]
  have eA:upd (upd H2 t1 (HO.tup [.int ts[0].1,.int ts[0].2.1,.int (lnB ts)])) A0 (HO.lst [.ref t1]) A0=some (.lst [.ref t1]):=upd_same
  generalize upd (upd H2 t1 (HO.tup [.int ts[0].1,.int ts[0].2.1,.int (lnB ts)])) A0 (HO.lst [.ref t1])=H4 at k4 e1 eA ⊢
  have ht4:=k4 _ _ ht2
  have hL4:=hL2.mv k4
  have e1l:(1:Int) - (lnB ts:Int)=((1 - lnB ts:Nat):Int):=by omega
  refine ⟨_,rfl,.inl ⟨rfl,_,SqL.of eA⟩,_,rfl,t,rfl,⟨_,SqT.of ht4⟩,fun N hN=>compG3_tup (K:=K) (KT:=K) (a:=t) (f:=hideS [5,6] 0) (tt:=tYes) (xs:=as.map V.ref) (fun n ys H5=>∃ cs:List Addr,ys=cs.map V.ref∧cs.length=n∧H5 N=some (.lst ys)∧Same H4 H5∧AL3 H5 cs ((ts.take n).map fun t=>(t.1,t.2.1,1 - lnB ts)))
   ⟨[],rfl,rfl,upd_same,Same.upd hN,ObjL.nil⟩ (fun n ys H5 _ h=>by obtain ⟨_,_,_,_,sm,_⟩:=h;exact SqT.of (sm _ _ ht4)) ?_ ?_⟩
  ·rintro n x ys H5 hx ⟨cs,rfl,hcl,hN5,sm5,hA5⟩
   have hn:n < as.length:=by have:=(List.getElem?_eq_some_iff.mp hx).1;simpa using this
   have hnt:n < ts.length:=by omega
   rw [List.getElem?_map,List.getElem?_eq_getElem hn] at hx
   have hx:V.ref as[n]=x:=Option.some.inj hx
   obtain ⟨_,en⟩:=lay_at (hL4.mv sm5) hnt
   refine turn3 hx.symm (SqT.of en) ?_
   refine ⟨_,rfl,_,rfl,_,rfl,_,_,rfl,rfl,by show 3≤sizeLine;decide,fun g hg=>?_⟩
   have kg:Same H5 (upd H5 g (HO.tup [.int ts[n].1,.int ts[n].2.1,.int (1 - (lnB ts:Int))])):=Same.upd hg
   have hNg:=kg _ _ hN5
   refine ⟨hNg,by rw [List.length_map];exact small1000 (by omega),Nxt.mk (by rw [List.length_map];exact hn) ⟨cs ++ [g],by simp,by simp [hcl],by rw [upd_same],(sm5.trans kg).upd' hN,?_⟩⟩
   rw [show ts.take (n + 1)=ts.take n ++ [ts[n]] by rw [List.take_add_one,List.getElem?_eq_getElem hnt];rfl,List.map_append]
   refine ((hA5.mv kg).app (ObjL.one (x:=(ts[n].1,ts[n].2.1,1 - lnB ts)) ?_)).mvT (tupL hNg)
   rw [upd_same,e1l]
  rintro ys H5 ⟨cs,rfl,hcl,hN5,sm5,hA5⟩
  rw [List.length_map] at hcl
  rw [List.length_map,hal,List.take_length] at hA5
  have eA5:=sm5 _ _ eA
  refine ⟨A0,N,_,_,rfl,rfl,eA5,hN5,by rw [List.length_map,hcl];exact Nat.le_of_lt (small1000 (by simp;omega)),?_⟩
  have hask:AL3 (upd H5 A0 (HO.lst ([V.ref t1] ++ cs.map V.ref))) ([t1] ++ cs) (askL ts):=by
   have hone:AL3 H5 [t1] ((ts.take 1).map fun t=>(t.1,t.2.1,lnB ts)):=by
    rw [List.take_one,List.head?_eq_getElem?,List.getElem?_eq_getElem h0]
    exact ObjL.one (x:=(ts[0].1,ts[0].2.1,lnB ts)) (sm5 _ _ e1)
   exact (hone.app hA5).mvT (tupL eA5)
  have sH6:Same H1 (upd H5 A0 (HO.lst ([V.ref t1] ++ cs.map V.ref))):=fun a o e=>by
   have:=(k4.trans sm5) _ _ (s2 _ _ e)
   rw [upd_ne (fun z=>by rw [z] at e;have:=s2 _ _ e;rw [hA0'] at this;cases this)]
   exact this
  have eA6:upd H5 A0 (HO.lst ([V.ref t1] ++ cs.map V.ref)) A0=some (.lst (([t1] ++ cs).map V.ref)):=by rw [upd_same];simp
  generalize upd H5 A0 (HO.lst ([V.ref t1] ++ cs.map V.ref))=H6 at hask sH6 eA6 ⊢
  have hasl:=hask.len
  have hak:(askL ts).length=1 + ts.length:=by
   unfold askL
   rw [List.length_append,List.length_map,List.length_map,List.length_take]
   omega
  have hain:∀ n (a:Nat × Nat × Nat),(askL ts)[n]?=some a→a.1 < r∧a.2.1 < w∧a.2.2≤1:=fun n a ha=>by
   rcases List.mem_append.mp (List.mem_of_getElem? ha) with z | z
   ·obtain ⟨u,hu,rfl⟩:=List.mem_map.mp z
    have:=hin u (List.mem_of_mem_take hu)
    exact ⟨this.1,this.2.1,hln⟩
   ·obtain ⟨u,hu,rfl⟩:=List.mem_map.mp z
    have:=hin u hu
    exact ⟨this.1,this.2.1,by show 1 - lnB ts≤1;omega⟩
  refine ⟨by show 0≤sizeLine;decide,fun W hW=>?_⟩
  have hW0:=sH6.free hW
  have nWA:A0≠W:=fun z=>by rw [← z,eA6] at hW;cases hW
  have kW:Same H6 (upd H6 W (HO.lst [])):=Same.upd hW
  refine ⟨_,rfl,A0,rfl,⟨_,SqL.of (kW _ _ eA6)⟩,for_list (K:=K) (a:=A0) (xs:=([t1] ++ cs).map V.ref) (fun n σ H'=>∃ (v6 v7 v8 v9:Option V) (bs:List Addr),σ=[some (.ref b),some (.ref t),some (.ref x1),some (.int (lnB ts)),some (.ref A0),v6,v7,some (.ref W),v8,v9]∧Same H6 H'∧H' W=some (.lst (bs.map V.ref))∧bs.length≤n∧QL H' bs ((((askL ts).take n).map (qd R)).filter longQ))
   ⟨none,none,none,none,[],rfl,kW,upd_same,Nat.le_refl _,ObjL.nil⟩ (fun n σ H' _ h=>by obtain ⟨_,_,_,_,_,_,sm,_⟩:=h;exact SqL.of (sm _ _ eA6)) ?_ ?_⟩
  ·rintro n x σ H' hx ⟨v6,v7,v8,v9,bs,rfl,sm,hWb,hbl,hQ⟩
   have hn:n < ([t1] ++ cs).length:=by have:=(List.getElem?_eq_some_iff.mp hx).1;simpa using this
   rw [List.getElem?_map,List.getElem?_eq_getElem hn] at hx
   have hx:V.ref ([t1] ++ cs)[n]=x:=Option.some.inj hx
   subst hx
   obtain ⟨a,ea,hat⟩:=(hask.mv sm).get hn
   obtain ⟨c1,c2,c3⟩:=hain n a ea
   have hn9:n < 9:=by rw [hasl,hak] at hn;omega
   refine ⟨([t1] ++ cs)[n],_,rfl,SqT.of hat,rfl,_,_,rfl,_,_,rfl,_,_,rfl,rfl,?_⟩
   have B2:=B1.mv (sH6.trans sm)
   obtain ⟨dx1,_,_,_,ex1,_⟩:=id B2.ex
   refine ⟨_,rfl,x1,dx1,_,rfl,ex1,rfl,_,rfl,_,rfl,_,rfl,x1,r,w,R,marks,bi,bj,a.1,a.2.1,(a.2.2:Int),rfl,B2,c1,c2,by omega,fun t2 H7 s7 _ ht7=>?_⟩
   rw [runV_quad (r:=r) (w:=w) c3] at ht7
   have hlen:=quad_len hb' r9 w9 c1 (j:=a.2.1) (wy:=a.2.2)
   have hS7:=SqT.of (K:=K) ht7
   have hWb7:=s7 _ _ hWb
   refine ⟨_,rfl,t2,_,_,_,rfl,rfl,hS7,atI_nat (j:=2) rfl,_,rfl,Nat.le_of_lt (small1000 (by omega)),_,_,rfl,rfl,_,rfl,?_⟩
   have etake:(askL ts).take (n + 1)=(askL ts).take n ++ [a]:=by rw [List.take_add_one,ea];rfl
   by_cases hc:longQ (qd R a)=true
   ·have:decide ((2:Int)≤((quad R a.1 a.2.1 a.2.2).2.2.2.length:Int))=true:=decide_eq_true (by have:=of_decide_eq_true hc;show (2:Int)≤((qd R a).2.2.2.length:Int);omega)
    rw [this]
    refine iteT ⟨_,rfl,.inl ⟨rfl,_,SqL.of hWb7⟩,_,rfl,t2,_,_,_,rfl,rfl,hS7,atI_nat (j:=0) rfl,_,rfl,t2,_,_,_,rfl,rfl,hS7,atI_nat (j:=1) rfl,_,rfl,_,rfl,t2,_,_,_,rfl,rfl,hS7,atI_nat (j:=2) rfl,by show 4≤sizeLine;decide,fun g hg=>?_⟩
    have kg:Same H7 (upd H7 g (HO.tup [.int (quad R a.1 a.2.1 a.2.2).1,.int (quad R a.1 a.2.1 a.2.2).2.1,.int a.2.2,.str (S (quad R a.1 a.2.1 a.2.2).2.2.2)])):=Same.upd hg
    have hWg:=kg _ _ hWb7
    refine ⟨W,_,_,rfl,rfl,hWg,by rw [List.length_map];exact small1000 (by omega),?_⟩
    refine ⟨_,_,_,_,bs ++ [g],rfl,((sm.trans s7).trans kg).upd' hW,by rw [upd_same];simp,by simp;omega,?_⟩
    rw [etake,List.map_append,List.filter_append]
    have e2:([a].map (qd R)).filter longQ=[qd R a]:=by simp [hc]
    rw [e2]
    exact (((hQ.mv s7).mv kg).app (ObjL.one (x:=qd R a) upd_same)).mvT (tupL hWg)
   ·have:decide ((2:Int)≤((quad R a.1 a.2.1 a.2.2).2.2.2.length:Int))=false:=decide_eq_false (fun z=>hc (decide_eq_true (by have z:(2:Int)≤((qd R a).2.2.2.length:Int):=z;omega)))
    rw [this]
    refine iteF ⟨_,_,_,_,bs,rfl,sm.trans s7,hWb7,by omega,?_⟩
    rw [etake,List.map_append,List.filter_append]
    have e2:([a].map (qd R)).filter longQ=[]:=by simp [hc]
    rw [e2,List.append_nil]
    exact hQ.mv s7
  ·rintro σ H' ⟨v6,v7,v8,v9,bs,rfl,sm,hWb,hbl,hQ⟩
   rw [List.length_map,hasl,List.take_length] at hQ
   refine ⟨_,rfl,W,_,rfl,.inl ⟨SqL.of hWb,fun T hT=>?_⟩⟩
   have k:Same H' (upd H' T (HO.tup (bs.map V.ref))):=Same.upd hT
   refine q T bs _ (((s1.trans sH6).trans sm).trans k) upd_same ?_
   unfold wordsF
   rw [hR]
   exact hQ.mv k
end
end My
end
section
set_option Elab.async false
set_option linter.all false
set_option maxRecDepth 100000
set_option maxHeartbeats 2000000
namespace My
open PySem L2
section
variable {P:Program} {w:World} {K:PySem.W.Frag} {mg:Str→Option Value} {base:Heap}
def NoTy (K:PySem.W.Frag) (T:String) (H:Hp) (x:V):Prop:=∃ t,TyOf K H x t∧PySem.W.kitOne K t (.type T)=some false
theorem TyOf.mv {K:PySem.W.Frag} {H H':Hp} {x:V} {t:Value} (h:TyOf K H x t) (s:Same H H'):TyOf K H' x t:=by
 cases h with
 | non=>exact .non
 | bl b=>exact .bl b
 | int i=>exact .int i
 | str x=>exact .str x
 | flt x=>exact .flt x
 | lst e=>exact .lst (s _ _ e)
 | frz e=>exact .frz (s _ _ e)
 | tup e=>exact .tup (s _ _ e)
 | dK e=>exact .dK (s _ _ e)
 | dT e=>exact .dT (s _ _ e)
 | ins e a b c d f=>exact .ins (s _ _ e) a b c d f
theorem NoTy.mv {K:PySem.W.Frag} {T:String} {H H':Hp} {x:V} (h:NoTy K T H x) (s:Same H H'):NoTy K T H' x:=let ⟨t,a,b⟩:=h;⟨t,TyOf.mv a s,b⟩
def spWholeG (K:PySem.W.Frag):Sp:=fun vs H Q _=>(∃ i:Int,vs=[.int i]∧Q (.bl true) H)∨(∃ b:Bool,vs=[.bl b]∧Q (.bl false) H)∨∃ x,vs=[x]∧NoTy K "int" H x∧Q (.bl false) H
theorem ok_is_wholeG (D:DefAt K mg "is_whole" s_is_whole ["thing"]) (n_int:mg "int"=none) (n_bool:mg "bool"=none) (n_isinstance:mg "isinstance"=none):Def P w K mg base "is_whole" 1 ["thing"] (spWholeG K):=by
 refine D.qok sc_is_whole (fun vs H Q E h=>?_) (fun f cdv A outer s H vs Q E hr h=>?_)
 ·rcases h with ⟨i,rfl,_⟩ | ⟨i,rfl,_⟩ | ⟨i,rfl,_⟩ <;> rfl
 ·refine ⟨_,(qss_one (qs_ret (qe_and (qe_callB call_isinst (by rfl) n_isinstance PyProof.Rows.boot_isinstance (qa_cons (qv 0) (qa_cons (qe_bltn (v:=.ty "int") (by rfl) n_int PyProof.Rows.boot_int rfl) qa_nil))) (qe_one (qe_not (qe_callB call_isinst (by rfl) n_isinstance PyProof.Rows.boot_isinstance (qa_cons (qv 0) (qa_cons (qe_bltn (v:=.ty "bool") (by rfl) n_bool PyProof.Rows.boot_bool rfl) qa_nil)))))))),?_⟩
  rcases h with ⟨i,rfl,q⟩ | ⟨b,rfl,q⟩ | ⟨x,rfl,⟨t,ty,k⟩,q⟩
  ·exact ⟨_,rfl,_,_,_,true,rfl,.int _,(by kernel_rfl),true,rfl,iteT ⟨_,rfl,_,_,_,false,rfl,.int _,(by kernel_rfl),false,rfl,q⟩⟩
  ·exact ⟨_,rfl,_,_,_,true,rfl,.bl _,(by kernel_rfl),true,rfl,iteT ⟨_,rfl,_,_,_,true,rfl,.bl _,(by kernel_rfl),true,rfl,q⟩⟩
  ·exact ⟨_,rfl,_,_,_,false,rfl,ty,k,false,rfl,iteF q⟩
theorem all_map {α:Type} (l:List α) (f:α→Bool):((l.map f).all id)=l.all f:=by induction l with | nil=>rfl | cons a l ih=>simp [ih]
theorem take_snoc {α β:Type} {l:List α} {i:Nat} {a:α} (h:l[i]?=some a) (f:α→β):(l.take (i + 1)).map f=(l.take i).map f ++ [f a]:=by
 rw [List.take_add_one,h,List.map_append];rfl
inductive WhD (K:PySem.W.Frag) (H:Hp):V→Option Int→Prop
 | int (i:Int):WhD K H (.int i) (some i)
 | bl (b:Bool):WhD K H (.bl b) none
 | no {x:V} (h:NoTy K "int" H x):WhD K H x none
theorem WhD.mv {H H':Hp} {x:V} {o:Option Int} (h:WhD K H x o) (s:Same H H'):WhD K H' x o:=by
 cases h with
 | int i=>exact .int i
 | bl b=>exact .bl b
 | no h=>exact .no (h.mv s)
def cellB (r w:Nat) (oi oj:Option Int):Bool:=match oi,oj with | some i,some j=>decide (0≤i∧i < r∧0≤j∧j < w) | _,_=>false
def spCellG (K:PySem.W.Frag):Sp:=fun vs H Q _=>∃ (p:Addr) (ls:List (List Nat)) (r w:Nat) (x y:V) (oi oj:Option Int),vs=[.ref p,x,y]∧H p=some (.tup (Ts ls))∧Blk r w ls∧1≤r∧r≤9∧w≤9∧WhD K H x oi∧WhD K H y oj∧Q (.bl (cellB r w oi oj)) H
theorem WhD.sp {H:Hp} {x:V} {o:Option Int} {Q:VK} {E:XK} (h:WhD K H x o) (q:Q (.bl o.isSome) H):spWholeG K [x] H Q E:=by
 cases h with
 | int i=>exact .inl ⟨i,rfl,q⟩
 | bl b=>exact .inr (.inl ⟨b,rfl,q⟩)
 | no h=>exact .inr (.inr ⟨x,rfl,h,q⟩)
theorem ok_is_cell_ofG (D:DefAt K mg "is_cell_of" s_is_cell_of ["rows","row","column"]) (n_len:mg "len"=none) (D_is_whole:Def P w K mg base "is_whole" 1 ["thing"] (spWholeG K)):Def P w K mg base "is_cell_of" 2 ["rows","row","column"] (spCellG K):=by
 refine D.qok sc_is_cell_of (fun vs H Q E h=>?_) (fun f cdv A outer s H vs Q E hr h=>?_)
 ·obtain ⟨p,ls,r,w,x,y,oi,oj,rfl,_⟩:=h
  rfl
 ·obtain ⟨p,ls,r,w,x,y,oi,oj,rfl,hp,hb,r1,r9,w9,hx,hy,q⟩:=h
  have hln:(Ts ls).length=r:=by rw [List.length_map,hb.len]
  have h0:0 < ls.length:=by rw [hb.len];omega
  have hw0:ls[0].length=w:=hb.wid _ (List.getElem_mem _)
  refine ⟨_,(qss_cons (qs_if (QW.qt (qw_or (qt_not (qt_val (qe_own D_is_whole (hr.mono (by decide)) rfl (qa_cons (qv 1) qa_nil)))) (qw_or1 (qt_not (qt_val (qe_own D_is_whole (hr.mono (by decide)) rfl (qa_cons (qv 2) qa_nil))))))) (qss_one (qs_ret qe_bl)) qss_nil) (qss_one (qs_ret (qe_and (qe_chain op_le op_lt qe_int (qv 1) (qe_callB call_len_seq (by rfl) n_len PySem.boot_len (qa_cons (qv 0) qa_nil))) (qe_one (qe_chain op_le op_lt qe_int (qv 2) (qe_callB call_lenS (by rfl) n_len PySem.boot_len (qa_cons (qe_ix ix_tup (qv 0) qe_int (fun _ _=>rfl)) qa_nil)))))))),?_⟩
  refine ⟨_,rfl,?_⟩
  dsimp only [tNil,tCons]
  refine WhD.sp hx ⟨_,rfl,?_⟩
  cases hx with
  | bl b=>exact iteT q
  | no h=>exact iteT q
  | int i=>
   refine iteF ⟨_,rfl,?_⟩
   dsimp only [tNil,tCons]
   refine WhD.sp hy ⟨_,rfl,?_⟩
   cases hy with
   | bl b=>exact iteT q
   | no h=>exact iteT q
   | int j=>
    refine iteF ?_
    have q:Q (.bl (decide (0≤i∧i < (r:Int)∧0≤j∧j < (w:Int)))) H:=q
    refine ⟨_,rfl,_,_,rfl,rfl,_,rfl,?_⟩
    by_cases h1:0≤i
    ·rw [decide_eq_true h1]
     refine iteT ⟨_,rfl,p,_,rfl,.inr (SqT.of hp),_,_,rfl,rfl,_,rfl,?_⟩
     rw [hln]
     by_cases h2:i < (r:Int)
     ·rw [decide_eq_true h2]
      refine iteT ⟨_,rfl,_,_,rfl,rfl,_,rfl,?_⟩
      by_cases h3:0≤j
      ·rw [decide_eq_true h3]
       refine iteT ⟨_,rfl,p,_,_,.str (S ls[0]),rfl,rfl,SqT.of hp,atI_nat (j:=0) (Ts_at (by simp [h0])),_,rfl,Nat.le_of_lt (small1000 (by omega)),_,_,rfl,rfl,?_⟩
       rw [hw0]
       simpa [h1,h2,h3] using q
      ·rw [decide_eq_false h3]
       refine iteF ?_
       simpa [h1,h2,h3] using q
     ·rw [decide_eq_false h2]
      refine iteF ?_
      simpa [h1,h2] using q
    ·rw [decide_eq_false h1]
     refine iteF ⟨_,rfl,iteF ?_⟩
     simpa [h1] using q
inductive SgD (K:PySem.W.Frag) (H:Hp):V→Option (List Nat)→Prop
 | no {x:V} (h:NoStr K H x):SgD K H x none
 | str (l:List Nat) (h:l.length≤1000):SgD K H (.str (S l)) (some l)
theorem SgD.mv {H H':Hp} {x:V} {o:Option (List Nat)} (h:SgD K H x o) (s:Same H H'):SgD K H' x o:=by
 cases h with
 | no h=>exact .no (let ⟨t,a,b⟩:=h;⟨t,TyOf.mv a s,b⟩)
 | str l h=>exact .str l h
abbrev TrO:=Option (Option Int × Option Int × Option (List Nat))
inductive TrD (K:PySem.W.Frag) (H:Hp):V→TrO→Prop
 | no {x:V} (h:NoTy K "tuple" H x):TrD K H x none
 | bad {b:Addr} {xs:List V} (h:H b=some (.tup xs)) (hl:xs.length≠3):TrD K H (.ref b) none
 | tri {b:Addr} {x y z:V} {oi oj:Option Int} {ol:Option (List Nat)} (h:H b=some (.tup [x,y,z])) (hx:WhD K H x oi) (hy:WhD K H y oj) (hz:SgD K H z ol):TrD K H (.ref b) (some (oi,oj,ol))
theorem TrD.mv {H H':Hp} {x:V} {o:TrO} (h:TrD K H x o) (s:Same H H'):TrD K H' x o:=by
 cases h with
 | no h=>exact .no (h.mv s)
 | bad h hl=>exact .bad (s _ _ h) hl
 | tri h hx hy hz=>exact .tri (s _ _ h) (hx.mv s) (hy.mv s) (hz.mv s)
def sgO (ol:Option (List Nat)):Bool:=match ol with | none=>false | some l=>sgB l
def tripB (r w:Nat) (o:TrO):Bool:=match o with | none=>false | some (oi,oj,ol)=>cellB r w oi oj && sgO ol
def spTripleG (K:PySem.W.Frag) (C:Addr):Sp:=fun vs H Q _=>∃ (b:Addr) (x:V) (o:TrO) (r w:Nat) (rows marks:List (List Nat)) (bi bj:Nat),vs=[.ref b,x]∧BoardAt C H b r w rows marks bi bj∧TrD K H x o∧Q (.bl (tripB r w o)) H
theorem ok_is_triple {C:Addr} (D:DefAt K mg "is_triple" s_is_triple ["board","thing"]) (n_len:mg "len"=none) (n_tuple:mg "tuple"=none) (n_isinstance:mg "isinstance"=none) (T:BoardCls K C)
  (D_is_cell_of:Def P w K mg base "is_cell_of" 2 ["rows","row","column"] (spCellG K)) (D_is_sign:Def P w K mg base "is_sign" 1 ["thing"] (spSign K)):Def P w K mg base "is_triple" 3 ["board","thing"] (spTripleG K C):=by
 refine D.qok sc_is_triple (fun vs H Q E h=>?_) (fun f cdv A outer s H vs Q E hr h=>?_)
 ·obtain ⟨b,x,o,r,w,rows,marks,bi,bj,rfl,_⟩:=h
  rfl
 ·obtain ⟨b,x,o,r,w,rows,marks,bi,bj,rfl,BA,hT,q⟩:=h
  obtain ⟨⟨dx,pr,pm,pb,hb,hpr,hpm,hpb⟩,B⟩:=BA
  refine ⟨_,(qss_cons (qs_if (QW.qt (qw_or (qt_not (qt_val (qe_callB call_isinst (by rfl) n_isinstance PyProof.Rows.boot_isinstance (qa_cons (qv 1) (qa_cons (qe_bltn (v:=.ty "tuple") (by rfl) n_tuple PyProof.Rows.boot_tuple rfl) qa_nil))))) (qw_or1 (qt_cmpR op_ne (qe_callB call_len_seq (by rfl) n_len PySem.boot_len (qa_cons (qv 1) qa_nil)) qe_int (nomark _))))) (qss_one (qs_ret qe_bl)) qss_nil) (qss_one (qs_ret (qe_and (qe_own D_is_cell_of (hr.mono (by decide)) rfl (qa_cons (qe_fld (qv 0) rfl) (qa_cons (qe_ix ix_tup (qv 1) qe_int (fun _ _=>rfl)) (qa_cons (qe_ix ix_tup (qv 1) qe_int (fun _ _=>rfl)) qa_nil)))) (qe_one (qe_own D_is_sign (hr.mono (by decide)) rfl (qa_cons (qe_ix ix_tup (qv 1) qe_int (fun _ _=>rfl)) qa_nil))))))),?_⟩
  cases hT with
  | no h=>
   obtain ⟨t,ty,k⟩:=h
   exact ⟨_,rfl,_,_,_,false,rfl,ty,k,_,rfl,iteT (iteT q)⟩
  | @bad a xs h hl=>
   refine ⟨_,rfl,_,_,_,true,rfl,.tup h,(by kernel_rfl),_,rfl,iteF ⟨_,rfl,a,_,rfl,.inr (SqT.of h),rfl,_,rfl,?_⟩⟩
   rw [decide_eq_false (show ¬V.int (xs.length:Nat)=V.int 3 from fun z=>hl (by injection z with z;omega))]
   exact iteT q
  | @tri a x y z oi oj ol h hx hy hz=>
   refine ⟨_,rfl,_,_,_,true,rfl,.tup h,(by kernel_rfl),_,rfl,iteF ⟨_,rfl,a,_,rfl,.inr (SqT.of h),rfl,_,rfl,iteNS rfl ?_⟩⟩
   refine ⟨_,rfl,b,C,dx,_,_,rfl,hb,T.cl,T.nr,rfl,_,rfl,a,_,_,x,rfl,rfl,SqT.of h,atI_nat (j:=0) rfl,_,rfl,a,_,_,y,rfl,rfl,SqT.of h,atI_nat (j:=1) rfl,pr,rows,r,w,x,y,oi,oj,rfl,hpr,B.br,B.r1,B.r9,B.w9,hx,hy,_,rfl,?_⟩
   have q:Q (.bl (cellB r w oi oj && sgO ol)) H:=q
   cases hc:cellB r w oi oj with
   | false=>rw [hc] at q;exact iteF q
   | true=>
    rw [hc] at q
    refine iteT ⟨_,rfl,a,_,_,z,rfl,rfl,SqT.of h,atI_nat (j:=2) rfl,?_⟩
    dsimp only [tNil,tCons]
    cases hz with
    | no h=>exact .inl ⟨z,rfl,h,q⟩
    | str l hl=>exact .inr ⟨l,rfl,hl,q⟩
abbrev PL2:=ObjL (fun q:Nat × Nat=>[V.int q.1,V.int q.2])
def spCellsOf:Sp:=fun vs H Q _=>∃ (t:Addr) (as:List Addr) (ts:List Trip),vs=[.ref t]∧H t=some (.tup (as.map V.ref))∧LayL H as ts∧ts.length≤100∧
 ∀ (L:Addr) (cs:List Addr) (H':Hp),Same H H'→H' L=some (.lst (cs.map V.ref))→PL2 H' cs (ts.map fun t=>(t.1,t.2.1))→Q (.ref L) H'
theorem ok_cells_of (D:DefAt K mg "cells_of" s_cells_of ["laying"]):Def P w K mg base "cells_of" 1 ["laying"] spCellsOf:=by
 refine D.qok sc_cells_of (fun vs H Q E h=>?_) (fun f cdv A outer s H vs Q E hr h=>?_)
 ·obtain ⟨t,as,ts,rfl,_⟩:=h
  rfl
 ·obtain ⟨t,as,ts,rfl,ht,hL,h7,q⟩:=h
  have hal:=hL.len
  refine ⟨_,(qss_one (qs_ret (qe_compG (ns:=["row","column","sign"]) rfl (CompG.of ["laying"] [] (by kernel_rfl)) (qi_tup (qv 0)) (fun _ _ _ _ _=>(tg_tup3 K rfl (show (["row","column","sign","laying"]:List Str).Nodup by decide +kernel) rfl rfl rfl (by rfl) (by rfl) (by rfl))) (fun _ _ _ _ _=>qts_nil) (fun _ _ _ _ _=>(qe_tup (qa_cons (qv 0) (qa_cons (qv 1) qa_nil))))))),?_⟩
  refine ⟨_,rfl,t,rfl,⟨_,SqT.of ht⟩,fun N hN=>compG3_tup (K:=K) (KT:=K) (a:=t) (f:=hideS [] 0) (tt:=tYes) (xs:=as.map V.ref) (fun n ys H5=>∃ cs:List Addr,ys=cs.map V.ref∧cs.length=n∧H5 N=some (.lst ys)∧Same H H5∧PL2 H5 cs ((ts.take n).map fun t=>(t.1,t.2.1)))
   ⟨[],rfl,rfl,upd_same,Same.upd hN,ObjL.nil⟩ (fun n ys H5 _ h=>by obtain ⟨_,_,_,_,sm,_⟩:=h;exact SqT.of (sm _ _ ht)) ?_ ?_⟩
  ·rintro n x ys H5 hx ⟨cs,rfl,hcl,hN5,sm5,hA5⟩
   have hn:n < as.length:=by have:=(List.getElem?_eq_some_iff.mp hx).1;simpa using this
   have hnt:n < ts.length:=by omega
   rw [List.getElem?_map,List.getElem?_eq_getElem hn] at hx
   have hx:V.ref as[n]=x:=Option.some.inj hx
   obtain ⟨_,en⟩:=lay_at (hL.mv sm5) hnt
   refine turn3 hx.symm (SqT.of en) ?_
   refine ⟨_,rfl,_,rfl,by show 2≤sizeLine;decide,fun g hg=>?_⟩
   have kg:Same H5 (upd H5 g (HO.tup [.int ts[n].1,.int ts[n].2.1])):=Same.upd hg
   have hNg:=kg _ _ hN5
   refine ⟨hNg,by rw [List.length_map];exact small1000 (by omega),Nxt.mk (by rw [List.length_map];exact hn) ⟨cs ++ [g],by simp,by simp [hcl],by rw [upd_same],(sm5.trans kg).upd' hN,?_⟩⟩
   rw [show ts.take (n + 1)=ts.take n ++ [ts[n]] by rw [List.take_add_one,List.getElem?_eq_getElem hnt];rfl,List.map_append]
   exact ((hA5.mv kg).app (ObjL.one (x:=(ts[n].1,ts[n].2.1)) upd_same)).mvT (tupL hNg)
  ·rintro ys H5 ⟨cs,rfl,hcl,hN5,sm5,hA5⟩
   rw [List.length_map,hal,List.take_length] at hA5
   exact q N cs H5 sm5 hN5 hA5
end
end My
end
section
set_option Elab.async false
set_option linter.all false
set_option maxRecDepth 100000
set_option maxHeartbeats 2000000
namespace My
open PySem L2
section
variable {P:Program} {w:World} {K:PySem.W.Frag} {mg:Str→Option Value} {base:Heap}
structure Prts (K:PySem.W.Frag) (H:Hp) (xs:List V) (os:List TrO):Prop where
 len:xs.length=os.length
 at_:∀ (i:Nat) (x:V) (o:TrO),xs[i]?=some x→os[i]?=some o→TrD K H x o
inductive LyD (K:PySem.W.Frag) (H:Hp):V→Option (List TrO)→Prop
 | no {x:V} (h:NoTy K "tuple" H x):LyD K H x none
 | tup {p:Addr} {xs:List V} {os:List TrO} (h:H p=some (.tup xs)) (hp:Prts K H xs os) (h1:os.length≤100):LyD K H (.ref p) (some os)
def mkT (t:Trip):TrO:=some (some (t.1:Int),some (t.2.1:Int),some [t.2.2])
def cellO (o:TrO):Nat × Nat:=match o with | some (some i,some j,_)=>(i.toNat,j.toNat) | _=>(0,0)
def ltQ (p:(Nat × Nat) × (Nat × Nat)):Bool:=decide (p.1.1 * 1000 + p.1.2 < p.2.1 * 1000 + p.2.2)
def riseC (cs:List (Nat × Nat)):Bool:=(cs.zip (cs.drop 1)).all ltQ
def layB (r w:Nat) (o:Option (List TrO)):Bool:=match o with | none=>false | some os=>decide (1≤os.length∧os.length≤7) && os.all (tripB r w) && riseC (os.map cellO)
theorem cellO_mk (ts:List Trip):(ts.map mkT).map cellO=ts.map fun t=>(t.1,t.2.1):=by
 rw [List.map_map]
 exact List.map_congr_left fun t _=>rfl
theorem tripB_mk {r w:Nat} {o:TrO} (h:tripB r w o=true):∃ t:Trip,o=mkT t∧inB r w t:=by
 match o with
 | none=>cases h
 | some (oi,oj,ol)=>
  unfold tripB at h
  simp only [Bool.and_eq_true] at h
  obtain ⟨h1,h2⟩:=h
  match oi,oj,ol with
  | none,_,_=>cases h1
  | some i,none,_=>cases h1
  | some i,some j,none=>cases h2
  | some i,some j,some l=>
   have h1:=of_decide_eq_true h1
   have h2:sgB l=true:=h2
   match l with
   | []=>cases h2
   | [c]=>
    refine ⟨(i.toNat,j.toNat,c),?_,⟨by show i.toNat < r;omega,by show j.toNat < w;omega,h2⟩⟩
    show some (some i,some j,some [c])=some (some ((i.toNat:Nat):Int),some ((j.toNat:Nat):Int),some [c])
    rw [Int.toNat_of_nonneg h1.1,Int.toNat_of_nonneg h1.2.2.1]
   | _ :: _ :: _=>cases h2
theorem tripB_of {r w:Nat} {t:Trip} (h:inB r w t):tripB r w (mkT t)=true:=by
 unfold tripB mkT cellB sgO
 have h1:=h.1
 have h2:=h.2.1
 simp only [Bool.and_eq_true]
 exact ⟨decide_eq_true (by omega),h.2.2⟩
theorem all_trips {r w:Nat}:∀ {os:List TrO},os.all (tripB r w)=true→∃ ts:List Trip,os=ts.map mkT∧∀ t∈ts,inB r w t
 | [],_=>⟨[],rfl,fun t h=>by simp at h⟩
 | o :: os,h=>by
  rw [List.all_cons,Bool.and_eq_true] at h
  obtain ⟨ts,e,k⟩:=all_trips h.2
  obtain ⟨t,e2,k2⟩:=tripB_mk h.1
  exact ⟨t :: ts,by rw [e,e2];rfl,fun u hu=>by
   rcases List.mem_cons.mp hu with z | z
   ·rw [z];exact k2
   ·exact k u z⟩
theorem TrD.of_mk {H:Hp} {x:V} {t:Trip} (h:TrD K H x (mkT t)):∃ b,x=.ref b∧TripAt H b t:=by
 generalize ho:mkT t=o at h
 cases h with
 | no _=>cases ho
 | bad _ _=>cases ho
 | @tri b x y z oi oj ol h hx hy hz=>
  have ho:=Option.some.inj ho
  injection ho with e1 e2
  injection e2 with e2 e3
  subst e1 e2 e3
  cases hx
  cases hy
  cases hz
  exact ⟨b,rfl,h⟩
theorem Prts.lay {H:Hp}:∀ {ts:List Trip} {xs:List V},Prts K H xs (ts.map mkT)→∃ as:List Addr,xs=as.map V.ref∧LayL H as ts
 | [],[],_=>⟨[],rfl,LayL.nil⟩
 | [],_ :: _,h=>by have:=h.len;simp at this
 | _ :: _,[],h=>by have:=h.len;simp at this
 | t :: ts,x :: xs,h=>by
  obtain ⟨b,rfl,hb⟩:=(h.at_ 0 x (mkT t) rfl rfl).of_mk
  obtain ⟨as,e,hL⟩:=Prts.lay (ts:=ts) (xs:=xs) ⟨by have:=h.len;simpa using this,fun i x o a c=>h.at_ (i + 1) x o a c⟩
  refine ⟨b :: as,by rw [e];rfl,⟨fun a ha=>?_,?_⟩⟩
  ·rcases List.mem_cons.mp ha with z | z
   ·rw [z,tO_of hb];exact hb
   ·exact hL.at_ a z
  ·rw [List.map_cons,hL.eq,tO_of hb]
theorem TrD.mk {H:Hp} {b:Addr} {t:Trip} (h:TripAt H b t):TrD K H (.ref b) (mkT t):=.tri h (.int _) (.int _) (.str _ (by show 1≤1000;decide))
theorem Prts.of_lay {H:Hp} {as:List Addr} {ts:List Trip} (h:LayL H as ts):Prts K H (as.map V.ref) (ts.map mkT):=by
 refine ⟨by rw [List.length_map,List.length_map,h.len],fun i x o hx ho=>?_⟩
 rw [List.getElem?_map] at hx ho
 obtain ⟨a,ha,rfl⟩:=Option.map_eq_some_iff.mp hx
 obtain ⟨t,ht,rfl⟩:=Option.map_eq_some_iff.mp ho
 have hi:i < as.length:=(List.getElem?_eq_some_iff.mp ha).1
 obtain ⟨u,hu,hU⟩:=h.get hi
 rw [ht] at hu
 rw [Option.some.inj hu]
 rw [List.getElem?_eq_getElem hi] at ha
 rw [← Option.some.inj ha]
 exact TrD.mk hU
def spLayG (K:PySem.W.Frag) (C:Addr):Sp:=fun vs H Q _=>∃ (b:Addr) (x:V) (o:Option (List TrO)) (r w:Nat) (rows marks:List (List Nat)) (bi bj:Nat),vs=[.ref b,x]∧BoardAt C H b r w rows marks bi bj∧LyD K H x o∧∀ H',Same H H'→Q (.bl (layB r w o)) H'
theorem ok_is_laying {C:Addr} (D:DefAt K mg "is_laying" s_is_laying ["board","thing"]) (n_len:mg "len"=none) (n_tuple:mg "tuple"=none) (n_isinstance:mg "isinstance"=none) (n_all:mg "all"=none) (n_zip:mg "zip"=none) (g_MOST_TILES:∃ t,mg "MOST_TILES"=some (.int 7 t))
  (D_is_triple:Def P w K mg base "is_triple" 3 ["board","thing"] (spTripleG K C)) (D_cells_of:Def P w K mg base "cells_of" 1 ["laying"] spCellsOf):Def P w K mg base "is_laying" 4 ["board","thing"] (spLayG K C):=by
 refine D.qok sc_is_laying (fun vs H Q E h=>?_) (fun f cdv A outer s H vs Q E hr h=>?_)
 ·obtain ⟨b,x,o,r,w,rows,marks,bi,bj,rfl,_⟩:=h
  rfl
 ·obtain ⟨b,x,o,r,w,rows,marks,bi,bj,rfl,BA,hT,q⟩:=h
  have w9:=BA.ok.w9
  refine ⟨_,(qss_cons (qs_if (QW.qt (qw_or (qt_not (qt_val (qe_callB call_isinst (by rfl) n_isinstance PyProof.Rows.boot_isinstance (qa_cons (qv 1) (qa_cons (qe_bltn (v:=.ty "tuple") (by rfl) n_tuple PyProof.Rows.boot_tuple rfl) qa_nil))))) (qw_or1 (qt_not (qt_chain op_le op_le qe_int (qe_callB call_len_seq (by rfl) n_len PySem.boot_len (qa_cons (qv 1) qa_nil)) (qe_gI (by rfl) g_MOST_TILES)))))) (qss_one (qs_ret qe_bl)) qss_nil) (qss_cons (qs_if (qt_not (qt_val (qe_callB (call_all rfl) (by rfl) n_all boot_allX (qa_cons (qe_comp rfl (CompOk.of sc_is_laying.nd (by kernel_rfl)) (qi_tup (qv 1)) (fun _ _ _ _ _=>qts_nil) (fun _ _ _ _ _=>(qe_own D_is_triple (hr.mono (by decide)) rfl (qa_cons (qv 1) (qa_cons (qv 0) qa_nil))))) qa_nil)))) (qss_one (qs_ret qe_bl)) qss_nil) (qss_cons (qs_set (i:=2) sc_is_laying.nd rfl (Or.inl rfl) (qe_own D_cells_of (hr.mono (by decide)) rfl (qa_cons (qv 1) qa_nil))) (qss_one (qs_ret (qe_callB (call_all rfl) (by rfl) n_all boot_allX (qa_cons (qe_compG (ns:=["cell","later"]) rfl (CompG.of ["board","thing","cells"] [] (by kernel_rfl)) (qi_zipL (by rfl) n_zip (qa_cons (qv 2) (qa_cons (qe_slice sl_list (qv 2) (qo_some qe_int) qo_none) qa_nil))) (fun _ _ _ _ _=>(tg_tup2 K rfl (show (["cell","later","board","thing","cells"]:List Str).Nodup by decide +kernel) rfl rfl (by rfl) (by rfl))) (fun _ _ _ _ _=>qts_nil) (fun _ _ _ _ _=>(qe_cmpR (op_ltP hr.units0) (qv 0) (qv 1) (nomark _)))) qa_nil))))))),?_⟩
  cases hT with
  | no h=>
   obtain ⟨t,ty,k⟩:=h
   exact ⟨_,rfl,_,_,_,false,rfl,ty,k,_,rfl,iteT (iteT (q H (Same.refl _)))⟩
  | @tup p xs os hp hP h100=>
   have hlen:=hP.len
   refine ⟨_,rfl,_,_,_,true,rfl,.tup hp,(by kernel_rfl),_,rfl,iteF ?_⟩
   have F:¬layB r w (some os)=true→∀ H',Same H H'→Q (.bl false) H':=fun z H' s'=>by
    have:=q H' s'
    rw [Bool.not_eq_true _ |>.mp z] at this;exact this
   refine ⟨_,rfl,p,_,rfl,.inr (SqT.of hp),_,_,rfl,rfl,?_⟩
   rw [hlen]
   by_cases h1:1≤os.length
   ·refine ⟨true,by simp;omega,iteT ⟨_,_,rfl,rfl,?_⟩⟩
    by_cases h7:os.length≤7
    ·refine ⟨true,by simp;omega,iteF ?_⟩
     refine ⟨_,rfl,p,rfl,⟨_,SqT.of hp⟩,fun L hL=>comp_tup (xs:=xs) (fun i ys H2=>ys=((os.take i).map (tripB r w)).map V.bl∧H2 L=some (.lst ys)∧Same H H2) ⟨rfl,upd_same,Same.upd hL⟩ (fun i ys H2 _ h=>SqT.of (h.2.2 _ _ hp)) ?_ ?_⟩
     ·rintro i x ys H2 hi ⟨rfl,hL2,sm⟩
      have hil:i < xs.length:=(List.getElem?_eq_some_iff.mp hi).1
      have hio:i < os.length:=by omega
      have ho:=List.getElem?_eq_getElem hio
      refine ⟨_,rfl,_,rfl,b,x,os[i],r,w,rows,marks,bi,bj,rfl,BA.mv sm,(hP.at_ i x _ hi ho).mv sm,hL2,?_,Nxt.mk hil ⟨?_,upd_same,sm.upd' hL⟩⟩
      ·rw [List.length_map,List.length_map,List.length_take];exact small1000 (by omega)
      ·rw [take_snoc ho,List.map_append];rfl
     ·rintro ys H2 ⟨rfl,hL2,sm⟩
      refine ⟨L,_,rfl,SqL.of hL2,?_⟩
      rw [hlen,List.take_length,all_map]
      refine ⟨_,rfl,?_⟩
      cases ha:os.all (tripB r w) with
      | false=>exact iteT (F (by unfold layB;simp only;rw [ha];simp) H2 sm)
      | true=>
       refine iteF ?_
       obtain ⟨ts,rfl,hin⟩:=all_trips ha
       obtain ⟨as,rfl,hLy⟩:=hP.lay
       rw [List.length_map] at h1 h7
       refine ⟨_,rfl,p,as,ts,rfl,sm _ _ hp,hLy.mv sm,by omega,fun Lc cs H3 s3 hLc hcs=>?_⟩
       have s03:=sm.trans s3
       refine ⟨_,rfl,_,rfl,_,rfl,Lc,_,rfl,SqL.of hLc,fun M hM=>?_⟩
       have hcl:=hcs.len
       rw [List.length_map] at hcl
       have eM:cutV (cs.map V.ref) (some 1) none=(cs.drop 1).map V.ref:=by
        unfold cutV
        rw [show (some (1:Int))=some (((1:Nat):Int)) from rfl,HT.sIx_nat,HT.sIx_none,List.length_map,Nat.min_eq_left (show 1≤cs.length by omega),List.take_of_length_le (by rw [List.length_drop,List.length_map];omega),List.map_drop]
       rw [eM]
       have sM:Same H3 (upd H3 M (HO.lst ((cs.drop 1).map V.ref))):=Same.upd hM
       have hM4:upd H3 M (HO.lst ((cs.drop 1).map V.ref)) M=some (.lst ((cs.drop 1).map V.ref)):=upd_same
       have hLc4:=sM _ _ hLc
       have hcs4:=hcs.mv sM
       have s04:=s03.trans sM
       generalize upd H3 M (HO.lst ((cs.drop 1).map V.ref))=H4 at sM hM4 hLc4 hcs4 s04 ⊢
       generalize hcc:(ts.map fun t=>(t.1,t.2.1))=cc at hcs4
       have hccl:cc.length=cs.length:=by rw [← hcc,List.length_map,hcl]
       have hw9:∀ u∈cc,u.2 < 1000:=fun u hu=>by
        rw [← hcc] at hu
        obtain ⟨t,ht,rfl⟩:=List.mem_map.mp hu
        have:=(hin t ht).2.1
        show t.2.1 < 1000;omega
       have hzl:(cc.zip (cc.drop 1)).length=cs.length - 1:=by rw [List.length_zip,List.length_drop,hccl];omega
       refine ⟨Lc,M,rfl,⟨_,SqL.of hLc4⟩,⟨_,SqL.of hM4⟩,fun N hN=>compZL (f:=hideS [] 0) (K:=K) (KT:=K) (a:=Lc) (b:=M) (tt:=tYes) (xs:=cs.map V.ref) (ys:=(cs.drop 1).map V.ref) (by rw [List.length_map,List.length_map,List.length_drop];omega)
        (fun n zs H5=>zs=(((cc.zip (cc.drop 1)).take n).map ltQ).map V.bl∧H5 N=some (.lst zs)∧Same H4 H5)
        ⟨rfl,upd_same,Same.upd hN⟩ (fun n zs H5 _ h=>⟨SqL.of (h.2.2 _ _ hLc4),SqL.of (h.2.2 _ _ hM4)⟩) ?_ ?_⟩
       ·rintro n x y zs H5 T hx hy ⟨rfl,hN5,sm5⟩ hT
        have kT:Same H5 (upd H5 T (HO.tup [x,y])):=Same.upd hT
        rw [List.getElem?_map] at hx hy
        obtain ⟨a1,ha1,rfl⟩:=Option.map_eq_some_iff.mp hx
        obtain ⟨a2,ha2,rfl⟩:=Option.map_eq_some_iff.mp hy
        rw [List.getElem?_drop] at ha2
        have n1:n < cs.length:=(List.getElem?_eq_some_iff.mp ha1).1
        have n2:1 + n < cs.length:=(List.getElem?_eq_some_iff.mp ha2).1
        have c1:cc[n]?=some cc[n]:=List.getElem?_eq_getElem (by omega)
        have c2:cc[1 + n]?=some cc[1 + n]:=List.getElem?_eq_getElem (by omega)
        have e1:=kT _ _ (sm5 _ _ (hcs4.at_ n a1 _ ha1 c1))
        have e2:=kT _ _ (sm5 _ _ (hcs4.at_ (1 + n) a2 _ ha2 c2))
        refine turn2 rfl (SqT.of upd_same) ?_
        refine ⟨_,rfl,_,rfl,a1,a2,_,_,_,_,rfl,rfl,e1,e2,hw9 _ (List.getElem_mem _),hw9 _ (List.getElem_mem _),kT _ _ hN5,?_,Nxt.mk (by rw [List.length_map,List.length_drop];omega) ⟨?_,upd_same,(sm5.trans kT).upd' hN⟩⟩
        ·rw [List.length_map,List.length_map,List.length_take];exact small1000 (by omega)
        ·have ez:(cc.zip (cc.drop 1))[n]?=some (cc[n],cc[1 + n]):=by
          rw [List.getElem?_zip_eq_some]
          exact ⟨c1,by rw [List.getElem?_drop];exact c2⟩
         rw [take_snoc ez,List.map_append];rfl
       ·rintro zs H5 ⟨rfl,hN5,sm5⟩
        refine ⟨N,_,rfl,SqL.of hN5,?_⟩
        rw [List.take_of_length_le (by rw [List.length_map,List.length_drop,hzl];omega),all_map]
        have:=q H5 (s04.trans sm5)
        have e:layB r w (some (ts.map mkT))=riseC cc:=by
         unfold layB
         simp only
         rw [ha,cellO_mk,hcc,List.length_map,decide_eq_true (show 1≤ts.length∧ts.length≤7 from ⟨h1,h7⟩)];rfl
        rw [e] at this
        exact this
    ·refine ⟨false,by simp;omega,iteT ?_⟩
     exact F (by unfold layB;simp;omega) H (Same.refl _)
   ·refine ⟨false,by simp;omega,iteF ⟨_,rfl,iteT ?_⟩⟩
    exact F (by unfold layB;simp;omega) H (Same.refl _)
end
end My
end
section
set_option Elab.async false
set_option linter.all false
set_option maxRecDepth 100000
set_option maxHeartbeats 2000000
namespace My
open PySem L2
section
variable {P:Program} {w:World} {K:PySem.W.Frag} {mg:Str→Option Value} {base:Heap}
theorem ok_ini2 {f C R:Addr} {fd:FuncData} (F:Fun K "__init__" "Taken.__init__" s_Taken_init f fd) (mg_RackError:mg "RackError"=some (.ref R)) (I_RackError:InitOf K R) (T:XCls K mg "Taken" C f ["row","column"]):FnOk P w K mg base CX0 1 f fd ["self","row","column"] (spIni2 C "row" "column"):=by
 refine F.qok sc_Taken_init (fun vs H Q E h=>?_) (fun cdv A outer s H vs Q E hr h=>?_)
 ·obtain ⟨a,v,u,rfl,_⟩:=h
  rfl
 ·obtain ⟨a,v,u,rfl,ha,q⟩:=h
  refine ⟨_,(qss_cons (qs_expr (qe_excInit (by rfl) mg_RackError I_RackError (qa_cons (qv 0) (qa_cons (qv 1) (qa_cons (qv 2) qa_nil))))) (qss_cons (qs_fldX (qv 0) (qv 1) rfl) (qss_one (qs_fldX (qv 0) (qv 2) rfl)))),?_⟩
  refine ⟨_,rfl,_,rfl,_,rfl,a,C,f,none,[v,u],rfl,ha,T.M.ini,by show 2≤sizeLine;decide,?_⟩
  exact ⟨_,rfl,_,rfl,a,C,none,rfl,ha,T.T,T.no _ (by simp),.inl ⟨rfl,fun dx ne nd=>⟨_,rfl,_,rfl,a,C,some dx,rfl,upd_same,T.T,T.no _ (by simp),.inr ⟨dx,_,rfl,by rw [upd_ne ne,upd_same],by show 1 < 50;decide,q dx ne nd⟩⟩⟩⟩
theorem ok_gap {f C R:Addr} {fd:FuncData} (F:Fun K "__init__" "Gap.__init__" s_Gap_init f fd) (mg_RackError:mg "RackError"=some (.ref R)) (I_RackError:InitOf K R) (T:XCls K mg "Gap" C f ["row","column"]):FnOk P w K mg base CX0 1 f fd ["self","row","column"] (spIni2 C "row" "column"):=by
 refine F.qok sc_Gap_init (fun vs H Q E h=>?_) (fun cdv A outer s H vs Q E hr h=>?_)
 ·obtain ⟨a,v,u,rfl,_⟩:=h
  rfl
 ·obtain ⟨a,v,u,rfl,ha,q⟩:=h
  refine ⟨_,(qss_cons (qs_expr (qe_excInit (by rfl) mg_RackError I_RackError (qa_cons (qv 0) (qa_cons (qv 1) (qa_cons (qv 2) qa_nil))))) (qss_cons (qs_fldX (qv 0) (qv 1) rfl) (qss_one (qs_fldX (qv 0) (qv 2) rfl)))),?_⟩
  refine ⟨_,rfl,_,rfl,_,rfl,a,C,f,none,[v,u],rfl,ha,T.M.ini,by show 2≤sizeLine;decide,?_⟩
  exact ⟨_,rfl,_,rfl,a,C,none,rfl,ha,T.T,T.no _ (by simp),.inl ⟨rfl,fun dx ne nd=>⟨_,rfl,_,rfl,a,C,some dx,rfl,upd_same,T.T,T.no _ (by simp),.inr ⟨dx,_,rfl,by rw [upd_ne ne,upd_same],by show 1 < 50;decide,q dx ne nd⟩⟩⟩⟩
theorem drop_new2 {H:Hp} {a dx:Addr} {o p q p2:HO} (na:H a=none) (ne:dx≠a) (nd:upd H a o dx=none):upd (upd (upd (upd H a o) dx p) a q) dx p2 a=some q∧Same H (drop (upd (upd (upd (upd H a o) dx p) a q) dx p2) a)∧drop (upd (upd (upd (upd H a o) dx p) a q) dx p2) a dx=some p2:=by
 rw [upd_ne ne] at nd
 refine ⟨by rw [upd_ne ne.symm,upd_same],fun b u e=>?_,?_⟩
 ·have h1:b≠a:=ne_of_none e na
  have h2:b≠dx:=ne_of_none e nd
  rw [drop_ne h1,upd_ne h2,upd_ne h1,upd_ne h2,upd_ne h1];exact e
 ·rw [drop_ne ne,upd_same]
abbrev rcF (i j:Nat):List (Str × V):=putF "column" (.int j) [("row",.int i)]
theorem find_at {α:Type} {p:α→Bool} {l:List α} {n:Nat} (hn:n < l.length) (h0:∀ x∈l.take n,p x=false) (h1:p l[n]=true):l.find? p=some l[n]:=by
 have e:l=l.take n ++ l[n] :: l.drop (n + 1):=by rw [← List.drop_eq_getElem_cons hn,List.take_append_drop]
 have e2:(l.take n ++ l[n] :: l.drop (n + 1)).find? p=some l[n]:=by
  rw [List.find?_append,List.find?_eq_none.mpr fun x hx=>by rw [h0 x hx];decide,Option.none_or,List.find?_cons_of_pos h1]
 rw [← e] at e2
 exact e2
theorem find_no {α:Type} {p:α→Bool} {l:List α} (h0:∀ x∈l,p x=false):l.find? p=none:=List.find?_eq_none.mpr fun x hx=>by rw [h0 x hx];decide
theorem dInt (a b:Nat):decide (V.int (a:Int)=V.int (b:Int))=decide (a=b):=by
 by_cases h:a=b
 ·subst h;simp
 ·have:¬V.int (a:Int)=V.int (b:Int):=fun z=>h (by injection z with z;exact Int.ofNat.inj z)
  simp [h,this]
def acrB (ts:List Trip):Bool:=ts.all fun t=>decide (t.1=(ts.headD (0,0,0)).1)
def dwnB (ts:List Trip):Bool:=ts.all fun t=>decide (t.2.1=(ts.headD (0,0,0)).2.1)
theorem headD_at {ts:List Trip} (h:0 < ts.length):ts.headD (0,0,0)=ts[0]:=by
 cases ts with
 | nil=>simp at h
 | cons a b=>rfl
def spAcrossG:Sp:=fun vs H Q _=>∃ (t:Addr) (as:List Addr) (ts:List Trip),vs=[.ref t]∧H t=some (.tup (as.map V.ref))∧LayL H as ts∧0 < ts.length∧ts.length≤7∧∀ H',Same H H'→Q (.bl (acrB ts)) H'
def spDownG:Sp:=fun vs H Q _=>∃ (t:Addr) (as:List Addr) (ts:List Trip),vs=[.ref t]∧H t=some (.tup (as.map V.ref))∧LayL H as ts∧0 < ts.length∧ts.length≤7∧∀ H',Same H H'→Q (.bl (dwnB ts)) H'
theorem ok_is_acrossG (D:DefAt K mg "is_across" s_is_across ["laying"]) (n_all:mg "all"=none):Def P w K mg base "is_across" 1 ["laying"] spAcrossG:=by
 refine D.qok sc_is_across (fun vs H Q E h=>?_) (fun f cdv A outer s H vs Q E hr h=>?_)
 ·obtain ⟨t,as,ts,rfl,_⟩:=h
  rfl
 ·obtain ⟨t,as,ts,rfl,ht,hL,h0,h7,q⟩:=h
  have hal:=hL.len
  have hh:=headD_at h0
  refine ⟨_,(qss_one (qs_ret (qe_callB (call_all rfl) (by rfl) n_all boot_allX (qa_cons (qe_compG (ns:=["row","column","sign"]) rfl (CompG.of ["laying"] [] (by kernel_rfl)) (qi_tup (qv 0)) (fun _ _ _ _ _=>(tg_tup3 K rfl (show (["row","column","sign","laying"]:List Str).Nodup by decide +kernel) rfl rfl rfl (by rfl) (by rfl) (by rfl))) (fun _ _ _ _ _=>qts_nil) (fun _ _ _ _ _=>(qe_cmpR op_eq (qv 0) (qe_ix (ix_tupK K) (qe_ix (ix_tupK K) (qv 3) qe_int (fun _ _=>rfl)) qe_int (fun _ _=>rfl)) (nomark _)))) qa_nil)))),?_⟩
  refine ⟨_,rfl,t,rfl,⟨_,SqT.of ht⟩,fun N hN=>compG3_tup (K:=K) (KT:=K) (a:=t) (f:=hideS [] 0) (tt:=tYes) (xs:=as.map V.ref) (fun n ys H3=>ys=((ts.take n).map fun t=>decide (t.1=(ts.headD (0,0,0)).1)).map V.bl∧H3 N=some (.lst ys)∧Same H H3)
   ⟨rfl,upd_same,Same.upd hN⟩ (fun n ys H3 _ h=>SqT.of (h.2.2 _ _ ht)) ?_ ?_⟩
  ·rintro n x ys H3 hx ⟨rfl,hN3,sm3⟩
   have hn:n < as.length:=by have:=(List.getElem?_eq_some_iff.mp hx).1;simpa using this
   have hnt:n < ts.length:=by omega
   rw [List.getElem?_map,List.getElem?_eq_getElem hn] at hx
   have hx:V.ref as[n]=x:=Option.some.inj hx
   obtain ⟨_,en⟩:=lay_at (hL.mv sm3) hnt
   obtain ⟨g0,e0⟩:=lay_at (hL.mv sm3) h0
   refine turn3 hx.symm (SqT.of en) ?_
   refine ⟨_,rfl,_,rfl,t,_,_,.ref as[0],rfl,rfl,SqT.of (sm3 _ _ ht),atI_nat (j:=0) (by simp [g0]),as[0],_,_,_,rfl,rfl,SqT.of e0,atI_nat (j:=0) rfl,rfl,hN3,?_,Nxt.mk (by rw [List.length_map];exact hn) ⟨?_,upd_same,sm3.upd' hN⟩⟩
   ·rw [List.length_map,List.length_map,List.length_take];exact small1000 (by omega)
   ·rw [take_snoc (List.getElem?_eq_getElem hnt),List.map_append,hh,dInt]
    rfl
  ·rintro ys H3 ⟨rfl,hN3,sm3⟩
   refine ⟨N,_,rfl,SqL.of hN3,?_⟩
   rw [List.length_map,hal,List.take_length,all_map]
   exact q H3 sm3
theorem ok_is_down (D:DefAt K mg "is_down" s_is_down ["laying"]) (n_all:mg "all"=none):Def P w K mg base "is_down" 1 ["laying"] spDownG:=by
 refine D.qok sc_is_down (fun vs H Q E h=>?_) (fun f cdv A outer s H vs Q E hr h=>?_)
 ·obtain ⟨t,as,ts,rfl,_⟩:=h
  rfl
 ·obtain ⟨t,as,ts,rfl,ht,hL,h0,h7,q⟩:=h
  have hal:=hL.len
  have hh:=headD_at h0
  refine ⟨_,(qss_one (qs_ret (qe_callB (call_all rfl) (by rfl) n_all boot_allX (qa_cons (qe_compG (ns:=["row","column","sign"]) rfl (CompG.of ["laying"] [] (by kernel_rfl)) (qi_tup (qv 0)) (fun _ _ _ _ _=>(tg_tup3 K rfl (show (["row","column","sign","laying"]:List Str).Nodup by decide +kernel) rfl rfl rfl (by rfl) (by rfl) (by rfl))) (fun _ _ _ _ _=>qts_nil) (fun _ _ _ _ _=>(qe_cmpR op_eq (qv 1) (qe_ix (ix_tupK K) (qe_ix (ix_tupK K) (qv 3) qe_int (fun _ _=>rfl)) qe_int (fun _ _=>rfl)) (nomark _)))) qa_nil)))),?_⟩
  refine ⟨_,rfl,t,rfl,⟨_,SqT.of ht⟩,fun N hN=>compG3_tup (K:=K) (KT:=K) (a:=t) (f:=hideS [] 0) (tt:=tYes) (xs:=as.map V.ref) (fun n ys H3=>ys=((ts.take n).map fun t=>decide (t.2.1=(ts.headD (0,0,0)).2.1)).map V.bl∧H3 N=some (.lst ys)∧Same H H3)
   ⟨rfl,upd_same,Same.upd hN⟩ (fun n ys H3 _ h=>SqT.of (h.2.2 _ _ ht)) ?_ ?_⟩
  ·rintro n x ys H3 hx ⟨rfl,hN3,sm3⟩
   have hn:n < as.length:=by have:=(List.getElem?_eq_some_iff.mp hx).1;simpa using this
   have hnt:n < ts.length:=by omega
   rw [List.getElem?_map,List.getElem?_eq_getElem hn] at hx
   have hx:V.ref as[n]=x:=Option.some.inj hx
   obtain ⟨_,en⟩:=lay_at (hL.mv sm3) hnt
   obtain ⟨g0,e0⟩:=lay_at (hL.mv sm3) h0
   refine turn3 hx.symm (SqT.of en) ?_
   refine ⟨_,rfl,_,rfl,t,_,_,.ref as[0],rfl,rfl,SqT.of (sm3 _ _ ht),atI_nat (j:=0) (by simp [g0]),as[0],_,_,_,rfl,rfl,SqT.of e0,atI_nat (j:=1) rfl,rfl,hN3,?_,Nxt.mk (by rw [List.length_map];exact hn) ⟨?_,upd_same,sm3.upd' hN⟩⟩
   ·rw [List.length_map,List.length_map,List.length_take];exact small1000 (by omega)
   ·rw [take_snoc (List.getElem?_eq_getElem hnt),List.map_append,hh,dInt]
    rfl
  ·rintro ys H3 ⟨rfl,hN3,sm3⟩
   refine ⟨N,_,rfl,SqL.of hN3,?_⟩
   rw [List.length_map,hal,List.take_length,all_map]
   exact q H3 sm3
abbrev IL2:=ObjL (fun q:Int × Int=>[V.int q.1,V.int q.2])
def around (i j:Int):List (Int × Int):=[(i - 1,j),(i + 1,j),(i,j - 1),(i,j + 1)]
def tkC (rows:List (List Nat)) (r w:Nat) (p:Int × Int):Bool:=!decide ([atC rows r w p.1 p.2]=[46])
def nearB (rows:List (List Nat)) (r w:Nat) (i j:Int):Bool:=(around i j).any (tkC rows r w)
theorem any_map {α:Type} (l:List α) (f:α→Bool):((l.map f).any id)=l.any f:=by induction l with | nil=>rfl | cons a l ih=>simp [ih]
def spNextTo (C:Addr):Sp:=fun vs H Q _=>∃ (b:Addr) (r w:Nat) (rows marks:List (List Nat)) (bi bj:Nat) (i j:Int),vs=[.ref b,.int i,.int j]∧BoardAt C H b r w rows marks bi bj∧∀ H',Same H H'→Q (.bl (nearB rows r w i j)) H'
theorem ok_is_next_to {C f1:Addr} {fd1:FuncData} (D:DefAt K mg "is_next_to_taken" s_is_next_to_taken ["board","row","column"]) (n_any:mg "any"=none) (g_FREE:∃ t,mg "FREE"=some (.str (S [46]) t)) (T_Board:BoardCls K C) (m_Board_at:Meth K C "at" f1) (G_Board_at:FnOk P w K mg base CX0 3 f1 fd1 ["self","row","column"] (spAt C)) (b_Board_at:Binds K fd1 ["self","row","column"] []) :
  Def P w K mg base "is_next_to_taken" 5 ["board","row","column"] (spNextTo C):=by
 refine D.qok sc_is_next_to_taken (fun vs H Q E h=>?_) (fun f cdv A outer s H vs Q E hr h=>?_)
 ·obtain ⟨b,r,w,rows,marks,bi,bj,i,j,rfl,_⟩:=h
  rfl
 ·obtain ⟨b,r,w,rows,marks,bi,bj,i,j,rfl,BA,q⟩:=h
  refine ⟨_,(qss_cons (qs_set (i:=3) sc_is_next_to_taken.nd rfl (Or.inl rfl) (qe_tup (qa_cons (qe_tup (qa_cons (qe_op op_sub (qv 1) qe_int) (qa_cons (qv 2) qa_nil))) (qa_cons (qe_tup (qa_cons (qe_op op_add (qv 1) qe_int) (qa_cons (qv 2) qa_nil))) (qa_cons (qe_tup (qa_cons (qv 1) (qa_cons (qe_op op_sub (qv 2) qe_int) qa_nil))) (qa_cons (qe_tup (qa_cons (qv 1) (qa_cons (qe_op op_add (qv 2) qe_int) qa_nil))) qa_nil)))))) (qss_one (qs_ret (qe_callB (call_any rfl) (by rfl) n_any boot_anyX (qa_cons (qe_comp rfl (CompOk.of sc_is_next_to_taken.nd (by kernel_rfl)) (qi_tup (qv 3)) (fun _ _ _ _ _=>qts_nil) (fun _ _ _ _ _=>(qe_cmpR op_neS (qe_meth (qv 1) T_Board.cl m_Board_at G_Board_at (hr.mono (by decide)) b_Board_at .nil pass0 (qa_cons (qe_ix (ix_tupK K) (qv 0) qe_int (fun _ _=>rfl)) (qa_cons (qe_ix (ix_tupK K) (qv 0) qe_int (fun _ _=>rfl)) qa_nil))) (qe_gS (by rfl) g_FREE) (nomark _)))) qa_nil))))),?_⟩
  refine ⟨_,rfl,_,_,rfl,rfl,_,rfl,by show 2≤sizeLine;decide,fun g1 h1=>⟨_,rfl,_,_,rfl,rfl,_,rfl,by show 2≤sizeLine;decide,fun g2 h2=>⟨_,rfl,_,rfl,_,_,rfl,rfl,by show 2≤sizeLine;decide,fun g3 h3=>⟨_,rfl,_,rfl,_,_,rfl,rfl,by show 2≤sizeLine;decide,fun g4 h4=>⟨by show 4≤sizeLine;decide,fun A hA=>?_⟩⟩⟩⟩⟩
  dsimp only at h1 h2 h3 h4 hA ⊢
  have k1:Same H (upd H g1 (HO.tup [.int (i - 1),.int j])):=Same.upd h1
  have e1:upd H g1 (HO.tup [.int (i - 1),.int j]) g1=some (.tup [.int (i - 1),.int j]):=upd_same
  generalize upd H g1 (HO.tup [.int (i - 1),.int j])=H1 at k1 e1 h2 h3 h4 hA ⊢
  have k2:Same H1 (upd H1 g2 (HO.tup [.int (i + 1),.int j])):=Same.upd h2
  have e2:upd H1 g2 (HO.tup [.int (i + 1),.int j]) g2=some (.tup [.int (i + 1),.int j]):=upd_same
  generalize upd H1 g2 (HO.tup [.int (i + 1),.int j])=H2 at k2 e2 h3 h4 hA ⊢
  have k3:Same H2 (upd H2 g3 (HO.tup [.int i,.int (j - 1)])):=Same.upd h3
  have e3:upd H2 g3 (HO.tup [.int i,.int (j - 1)]) g3=some (.tup [.int i,.int (j - 1)]):=upd_same
  generalize upd H2 g3 (HO.tup [.int i,.int (j - 1)])=H3 at k3 e3 h4 hA ⊢
  have k4:Same H3 (upd H3 g4 (HO.tup [.int i,.int (j + 1)])):=Same.upd h4
  have e4:upd H3 g4 (HO.tup [.int i,.int (j + 1)]) g4=some (.tup [.int i,.int (j + 1)]):=upd_same
  generalize upd H3 g4 (HO.tup [.int i,.int (j + 1)])=H4 at k4 e4 hA ⊢
  have k5:Same H4 (upd H4 A (HO.tup [.ref g1,.ref g2,.ref g3,.ref g4])):=Same.upd hA
  have e5:upd H4 A (HO.tup [.ref g1,.ref g2,.ref g3,.ref g4]) A=some (.tup ([g1,g2,g3,g4].map V.ref)):=upd_same
  have il:IL2 H4 [g1,g2,g3,g4] (around i j):=((ObjL.one (x:=(i - 1,j)) (k4 _ _ (k3 _ _ (k2 _ _ e1)))).app (ObjL.one (x:=(i + 1,j)) (k4 _ _ (k3 _ _ e2)))).app ((ObjL.one (x:=(i,j - 1)) (k4 _ _ e3)).app (ObjL.one (x:=(i,j + 1)) e4))
  have s5:=(((k1.trans k2).trans k3).trans k4).trans k5
  have il5:=il.mv k5
  generalize upd H4 A (HO.tup [.ref g1,.ref g2,.ref g3,.ref g4])=H5 at k5 e5 s5 il5 ⊢
  have BA5:=BA.mv s5
  refine ⟨_,rfl,A,rfl,⟨_,SqT.of e5⟩,fun N hN=>comp_tup (xs:=[g1,g2,g3,g4].map V.ref) (fun n ys H6=>ys=(((around i j).take n).map (tkC rows r w)).map V.bl∧H6 N=some (.lst ys)∧Same H5 H6)
   ⟨rfl,upd_same,Same.upd hN⟩ (fun n ys H6 _ h=>SqT.of (h.2.2 _ _ e5)) ?_ ?_⟩
  ·rintro n x ys H6 hx ⟨rfl,hN6,sm6⟩
   have hn:n < [g1,g2,g3,g4].length:=by have:=(List.getElem?_eq_some_iff.mp hx).1;simpa using this
   have hn4:n < 4:=hn
   rw [List.getElem?_map,List.getElem?_eq_getElem hn] at hx
   have hx:V.ref [g1,g2,g3,g4][n]=x:=Option.some.inj hx
   subst hx
   obtain ⟨u,eu,hu⟩:=(il5.mv sm6).get hn
   have BA6:=BA5.mv sm6
   obtain ⟨dx,_,_,_,ex,_⟩:=id BA6.ex
   refine ⟨_,rfl,b,dx,_,rfl,ex,rfl,_,rfl,_,_,_,_,rfl,rfl,SqT.of hu,atI_nat (j:=0) rfl,_,rfl,_,_,_,_,rfl,rfl,SqT.of hu,atI_nat (j:=1) rfl,b,r,w,rows,marks,bi,bj,u.1,u.2,rfl,BA6,[_],[46],rfl,rfl,hN6,?_,Nxt.mk (by rw [List.length_map];exact hn) ⟨?_,upd_same,sm6.upd' hN⟩⟩
   ·rw [List.length_map,List.length_map,List.length_take];exact small1000 (by omega)
   ·rw [take_snoc eu,List.map_append];rfl
  ·rintro ys H6 ⟨rfl,hN6,sm6⟩
   refine ⟨N,_,rfl,SqL.of hN6,?_⟩
   rw [List.take_of_length_le (by show 4≤4;decide),any_map]
   exact q H6 (s5.trans sm6)
def spLetterOf:Sp:=fun vs H Q _=>∃ c:Nat,vs=[.str (S [c])]∧c < 128∧Q (.str (S ([c].map PyProof.Rows.lo1))) H
theorem ok_letter_of (D:DefAt K mg "letter_of" s_letter_of ["sign"]):Def P w K mg base "letter_of" 1 ["sign"] spLetterOf:=by
 refine D.qok sc_letter_of (fun vs H Q E h=>?_) (fun f cdv A outer s H vs Q E hr h=>?_)
 ·obtain ⟨c,rfl,_⟩:=h
  rfl
 ·obtain ⟨c,rfl,hc,q⟩:=h
  refine ⟨_,(qss_one (qs_ret (qe_bm0 PySem.F.plainAttrs_str PySem.F.slot_str_lower PySem.F.type_str_lower mt_loA (qv 0)))),?_⟩
  exact ⟨_,rfl,rfl,[c],rfl,rfl,by show 1≤1000;decide,fun d hd=>by rw [List.mem_singleton.mp hd];exact hc,q⟩
end
end My
end
section
set_option Elab.async false
set_option linter.all false
set_option maxRecDepth 100000
set_option maxHeartbeats 2000000
namespace My
open PySem L2
section
variable {P:Program} {w:World} {K:PySem.W.Frag} {mg:Str→Option Value} {base:Heap}
theorem atC_cell {rows:List (List Nat)} {r w i j:Nat} (hi:i < r) (hj:j < w):atC rows r w (i:Int) (j:Int)=cell rows i j:=by
 unfold atC cell
 rw [if_pos ⟨by omega,by omega,by omega,by omega⟩,Int.toNat_natCast,Int.toNat_natCast]
def tkT (rows:List (List Nat)) (t:Trip):Bool:=!decide ([cell rows t.1 t.2.1]=[46])
def takF (rows:List (List Nat)) (ts:List Trip):Option Trip:=ts.find? (tkT rows)
def spCkFree (C CT:Addr):Sp:=fun vs H Q E=>∃ (b t:Addr) (as:List Addr) (ts:List Trip) (r w:Nat) (rows marks:List (List Nat)) (bi bj:Nat),vs=[.ref b,.ref t]∧BoardAt C H b r w rows marks bi bj∧H t=some (.tup (as.map V.ref))∧LayL H as ts∧(∀ t∈ts,inB r w t)∧
 (∀ u,takF rows ts=some u→∀ (dx:Addr) (H':Hp),Same H H'→H' dx=some (.ext (XD dx (rcF u.1 u.2.1)))→E (.ref CT) (some dx) H')∧
 (takF rows ts=none→∀ H',Same H H'→Q .non H')
theorem ok_check_free {C CT f0 f1:Addr} {fd0 fd1:FuncData} (D:DefAt K mg "check_free" s_check_free ["board","laying"]) (g_FREE:∃ t,mg "FREE"=some (.str (S [46]) t)) (T_Board:BoardCls K C) (m_Board_at:Meth K C "at" f1) (G_Board_at:FnOk P w K mg base CX0 3 f1 fd1 ["self","row","column"] (spAt C)) (b_Board_at:Binds K fd1 ["self","row","column"] [])
  (T:XCls K mg "Taken" CT f0 ["row","column"]) (G_Taken:FnOk P w K mg base CX0 1 f0 fd0 ["self","row","column"] (spIni2 CT "row" "column")) (b_Taken:Binds K fd0 ["self","row","column"] []):DefX P w K mg base "check_free" 5 ["board","laying"] (spCkFree C CT):=by
 refine D.qokX sc_check_free (fun vs H Q E h=>?_) (fun f cdv A outer s H vs Q E hr h=>?_)
 ·obtain ⟨b,t,as,ts,r,w,rows,marks,bi,bj,rfl,_⟩:=h
  rfl
 ·obtain ⟨b,t,as,ts,r,w,rows,marks,bi,bj,rfl,BA,ht,hL,hin,qE,q⟩:=h
  have M_Taken:=T.M
  have mg_Taken:=T.mgC
  have hal:=hL.len
  refine ⟨_,(qss_one (qs_for PassesOwn.leaving rfl (qi_tup (qv 1)) (qg_tup rfl (qgs_cons (qg_name (i:=2) sc_check_free.nd rfl (Or.inl rfl)) (qgs_cons (qg_name (i:=3) sc_check_free.nd rfl (Or.inl rfl)) (qgs_cons (qg_name (i:=4) sc_check_free.nd rfl (Or.inl rfl)) qgs_nil)))) (qss_one (qs_if (qt_cmpR op_neS (qe_meth (qv 0) T_Board.cl m_Board_at G_Board_at (hr.mono (by decide)) b_Board_at .nil pass0 (qa_cons (qv 2) (qa_cons (qv 3) qa_nil))) (qe_gS (by rfl) g_FREE) (nomark _)) (qss_one (qs_raiseI lets_cx rfl M_Taken G_Taken (hr.mono (by decide)) (by rfl) mg_Taken b_Taken (qa_cons (qv 2) (qa_cons (qv 3) qa_nil)))) qss_nil)))),?_⟩
  refine ⟨_,rfl,t,rfl,⟨_,SqT.of ht⟩,for_tup (K:=K) (a:=t) (xs:=as.map V.ref) (fun n σ H'=>∃ v2 v3 v4:Option V,σ=[some (.ref b),some (.ref t),v2,v3,v4]∧Same H H'∧∀ x∈ts.take n,tkT rows x=false)
   ⟨none,none,none,rfl,Same.refl _,fun x hx=>by simp at hx⟩ (fun n σ H' _ h=>by obtain ⟨_,_,_,_,sm,_⟩:=h;exact SqT.of (sm _ _ ht)) ?_ ?_⟩
  ·rintro n x σ H' hx ⟨v2,v3,v4,rfl,sm,hfr⟩
   have hn:n < as.length:=by have:=(List.getElem?_eq_some_iff.mp hx).1;simpa using this
   have hnt:n < ts.length:=by omega
   rw [List.getElem?_map,List.getElem?_eq_getElem hn] at hx
   have hx:V.ref as[n]=x:=Option.some.inj hx
   subst hx
   obtain ⟨_,en⟩:=lay_at (hL.mv sm) hnt
   obtain ⟨c1,c2,_⟩:=hin _ (List.getElem_mem hnt)
   have BA':=BA.mv sm
   obtain ⟨dx0,_,_,_,ex,_⟩:=id BA'.ex
   refine ⟨as[n],_,rfl,SqT.of en,rfl,_,_,rfl,_,_,rfl,_,_,rfl,rfl,?_⟩
   refine ⟨_,rfl,b,dx0,_,rfl,ex,rfl,_,rfl,_,rfl,b,r,w,rows,marks,bi,bj,_,_,rfl,BA',[_],[46],rfl,rfl,_,rfl,?_⟩
   rw [atC_cell c1 c2]
   cases ht0:tkT rows ts[n] with
   | true=>
    rw [show (!decide ([cell rows ts[n].1 ts[n].2.1]=[46]))=true from ht0]
    refine iteT ⟨_,rfl,_,rfl,by show 2≤sizeLine;decide,fun a na=>⟨a,_,_,rfl,upd_same,fun dx ne nd=>?_⟩⟩
    obtain ⟨k0,k1,k2⟩:=drop_new2 (q:=.ext (ExcN a (.ref CT) (some dx))) (p:=.ext (XD dx [("row",.int ts[n].1)])) (p2:=.ext (XD dx (rcF ts[n].1 ts[n].2.1))) na ne nd
    exact ⟨rfl,some dx,k0,qE ts[n] (find_at hnt hfr ht0) dx _ (sm.trans k1) k2⟩
   | false=>
    rw [show (!decide ([cell rows ts[n].1 ts[n].2.1]=[46]))=false from ht0]
    refine iteF ⟨_,_,_,rfl,sm,fun x hx=>?_⟩
    rw [List.take_add_one,List.getElem?_eq_getElem hnt] at hx
    rcases List.mem_append.mp hx with z | z
    ·exact hfr x z
    ·rw [List.mem_singleton.mp z];exact ht0
  ·rintro σ H' ⟨v2,v3,v4,rfl,sm,hfr⟩
   rw [List.length_map,hal,List.take_length] at hfr
   exact q (find_no hfr) H' sm
def spCkStr (CC:Addr):Sp:=fun vs H Q E=>∃ (t:Addr) (as:List Addr) (ts:List Trip),vs=[.ref t]∧H t=some (.tup (as.map V.ref))∧LayL H as ts∧0 < ts.length∧ts.length≤7∧
 ((acrB ts || dwnB ts)=false→∀ H',Same H H'→E (.ref CC) none H')∧((acrB ts || dwnB ts)=true→∀ H',Same H H'→Q .non H')
theorem ok_check_straight {CC:Addr} (D:DefAt K mg "check_straight" s_check_straight ["laying"]) (mg_Crooked:mg "Crooked"=some (.ref CC)) (X_Crooked:PySem.W.excIn K CC vErr "ValueError.__new__"=true)
  (D_is_across:Def P w K mg base "is_across" 1 ["laying"] spAcrossG) (D_is_down:Def P w K mg base "is_down" 1 ["laying"] spDownG):DefX P w K mg base "check_straight" 3 ["laying"] (spCkStr CC):=by
 refine D.qokX sc_check_straight (fun vs H Q E h=>?_) (fun f cdv A outer s H vs Q E hr h=>?_)
 ·obtain ⟨t,as,ts,rfl,_⟩:=h
  rfl
 ·obtain ⟨t,as,ts,rfl,ht,hL,h0,h7,qE,q⟩:=h
  refine ⟨_,(qss_one (qs_if (QW.qt (qw_and (qt_not (qt_val (qe_own D_is_across (hr.mono (by decide)) rfl (qa_cons (qv 0) qa_nil)))) (qw_and1 (qt_not (qt_val (qe_own D_is_down (hr.mono (by decide)) rfl (qa_cons (qv 0) qa_nil))))))) (qss_one (qs_raise lets_cx rfl rfl (by rfl) mg_Crooked X_Crooked (qa_cons (qe_strS [116,104,101,32,99,101,108,108,115,32,97,114,101,32,110,111,116,32,105,110,32,111,110,101,32,108,105,110,101] (by decide +kernel)) qa_nil))) qss_nil)),?_⟩
  refine ⟨_,rfl,t,as,ts,rfl,ht,hL,h0,h7,fun H1 s1=>⟨_,rfl,?_⟩⟩
  cases ha:acrB ts with
  | true=>exact iteF (iteF (q (by rw [ha];rfl) H1 s1))
  | false=>
   refine iteT ⟨_,rfl,t,as,ts,rfl,s1 _ _ ht,hL.mv s1,h0,h7,fun H2 s2=>⟨_,rfl,?_⟩⟩
   cases hd:dwnB ts with
   | true=>exact iteF (q (by rw [ha,hd];rfl) H2 (s1.trans s2))
   | false=>exact iteT ⟨by show 1≤sizeLine;decide,qE (by rw [ha,hd];rfl) H2 (s1.trans s2)⟩
structure GapAt (R:List (List Nat)) (a b c d i j:Nat):Prop where
 i1:a≤i
 i2:i≤b
 j1:c≤j
 j2:j≤d
 fr:cell R i j=46
 up:∀ i' j',a≤i'→i' < i→c≤j'→j'≤d→cell R i' j'≠46
 le:∀ j',c≤j'→j' < j→cell R i j'≠46
def NoGap (R:List (List Nat)) (a b c d:Nat):Prop:=∀ i j,a≤i→i≤b→c≤j→j≤d→cell R i j≠46
def lastT (ts:List Trip):Trip:=ts.getLastD (0,0,0)
def fstT (ts:List Trip):Trip:=ts.headD (0,0,0)
theorem lastT_at {ts:List Trip} (h:0 < ts.length):lastT ts=ts[ts.length - 1]:=by
 unfold lastT
 rw [List.getLastD_eq_getLast?,List.getLast?_eq_getElem?,List.getElem?_eq_getElem (by omega)]
 rfl
def spCkGaps (C CG:Addr):Sp:=fun vs H Q E=>∃ (b t:Addr) (as:List Addr) (ts:List Trip) (r w:Nat) (rows marks:List (List Nat)) (bi bj:Nat),vs=[.ref b,.ref t]∧BoardAt C H b r w rows marks bi bj∧H t=some (.tup (as.map V.ref))∧LayL H as ts∧(∀ t∈ts,inB r w t)∧0 < ts.length∧
 (∀ i j,GapAt (laidF rows ts) (fstT ts).1 (lastT ts).1 (fstT ts).2.1 (lastT ts).2.1 i j→∀ (dx:Addr) (H':Hp),Same H H'→H' dx=some (.ext (XD dx (rcF i j)))→E (.ref CG) (some dx) H')∧
 (NoGap (laidF rows ts) (fstT ts).1 (lastT ts).1 (fstT ts).2.1 (lastT ts).2.1→∀ H',Same H H'→Q .non H')
theorem ok_check_gaps {C CG f0 f1 f2:Addr} {fd0 fd1 fd2:FuncData} (D:DefAt K mg "check_gaps" s_check_gaps ["board","laying"]) (n_range:mg "range"=none) (g_FREE:∃ t,mg "FREE"=some (.str (S [46]) t)) (T_Board:BoardCls K C) (m_Board_at:Meth K C "at" f1) (G_Board_at:FnOk P w K mg base CX0 3 f1 fd1 ["self","row","column"] (spAt C)) (b_Board_at:Binds K fd1 ["self","row","column"] [])
  (m_Board_laid:Meth K C "laid" f2) (G_Board_laid:FnOk P w K mg base CX0 8 f2 fd2 ["self","laying"] (spLaid C)) (b_Board_laid:Binds K fd2 ["self","laying"] [])
  (T:XCls K mg "Gap" CG f0 ["row","column"]) (G_Gap:FnOk P w K mg base CX0 1 f0 fd0 ["self","row","column"] (spIni2 CG "row" "column")) (b_Gap:Binds K fd0 ["self","row","column"] []):DefX P w K mg base "check_gaps" 10 ["board","laying"] (spCkGaps C CG):=by
 refine D.qokX sc_check_gaps (fun vs H Q E h=>?_) (fun f cdv A outer s H vs Q E hr h=>?_)
 ·obtain ⟨b,t,as,ts,r,w,rows,marks,bi,bj,rfl,_⟩:=h
  rfl
 ·obtain ⟨b,t,as,ts,r,w,rows,marks,bi,bj,rfl,BA,ht,hL,hin,h0,qE,q⟩:=h
  have M_Gap:=T.M
  have mg_Gap:=T.mgC
  have hal:=hL.len
  have r9:=BA.ok.r9
  have w9:=BA.ok.w9
  obtain ⟨dx,_,_,_,ex,_⟩:=id BA.ex
  refine ⟨_,(qss_cons (qs_set (i:=2) sc_check_gaps.nd rfl (Or.inl rfl) (qe_meth (qv 0) T_Board.cl m_Board_laid G_Board_laid (hr.mono (by decide)) b_Board_laid .nil pass0 (qa_cons (qv 1) qa_nil))) (qss_one (qs_for PassesOwn.leaving rfl (qi_range2 (by rfl) n_range (qa_cons (qe_ix ix_tup (qe_ix ix_tup (qv 1) qe_int (fun _ _=>rfl)) qe_int (fun _ _=>rfl)) (qa_cons (qe_op op_add (qe_ix ix_tup (qe_ix ix_tup (qv 1) (qe_un un_neg qe_int) (fun _ _=>rfl)) qe_int (fun _ _=>rfl)) qe_int) qa_nil))) (qg_name (i:=3) sc_check_gaps.nd rfl (Or.inl rfl)) (qss_one (qs_for PassesOwn.leaving rfl (qi_range2 (by rfl) n_range (qa_cons (qe_ix ix_tup (qe_ix ix_tup (qv 1) qe_int (fun _ _=>rfl)) qe_int (fun _ _=>rfl)) (qa_cons (qe_op op_add (qe_ix ix_tup (qe_ix ix_tup (qv 1) (qe_un un_neg qe_int) (fun _ _=>rfl)) qe_int (fun _ _=>rfl)) qe_int) qa_nil))) (qg_name (i:=4) sc_check_gaps.nd rfl (Or.inl rfl)) (qss_one (qs_if (qt_cmpR op_eqS (qe_meth (qv 2) T_Board.cl m_Board_at G_Board_at (hr.mono (by decide)) b_Board_at .nil pass0 (qa_cons (qv 3) (qa_cons (qv 4) qa_nil))) (qe_gS (by rfl) g_FREE) (nomark _)) (qss_one (qs_raiseI lets_cx rfl M_Gap G_Gap (hr.mono (by decide)) (by rfl) mg_Gap b_Gap (qa_cons (qv 3) (qa_cons (qv 4) qa_nil)))) qss_nil))))))),?_⟩
  refine ⟨_,rfl,b,dx,_,rfl,ex,rfl,_,rfl,b,t,as,ts,r,w,rows,marks,bi,bj,rfl,BA,ht,hL,hin,fun x1 H1 s1 B1=>?_⟩
  rw [show fstT ts=ts[0] from headD_at h0,lastT_at h0] at qE q
  obtain ⟨a1,a2,_⟩:=hin _ (List.getElem_mem h0)
  obtain ⟨l1,l2,_⟩:=hin _ (List.getElem_mem (show ts.length - 1 < ts.length by omega))
  have hL1:=hL.mv s1
  have ht1:=s1 _ _ ht
  obtain ⟨g0,e0⟩:=lay_at hL1 h0
  obtain ⟨gl,el⟩:=lay_at hL1 (show ts.length - 1 < ts.length by omega)
  have eal:as.length - 1=ts.length - 1:=by omega
  have hlast:atI (as.map V.ref) (-1)=some (.ref as[ts.length - 1]):=by
   rw [last_at (show 0 < as.length by omega)]
   simp only [eal]
  generalize hR:laidF rows ts=R at B1 qE q
  generalize ef:ts[0]=ff at e0 qE q a1 a2
  generalize eg:ts[ts.length - 1]=ll at el qE q l1 l2
  refine ⟨_,rfl,t,_,_,.ref as[0],rfl,rfl,SqT.of ht1,atI_nat (j:=0) (by simp [g0]),as[0],_,_,_,rfl,rfl,SqT.of e0,atI_nat (j:=0) rfl,_,rfl,_,rfl,t,_,_,.ref as[ts.length - 1],rfl,rfl,SqT.of ht1,hlast,as[ts.length - 1],_,_,_,rfl,rfl,SqT.of el,atI_nat (j:=0) rfl,_,_,rfl,rfl,(ff.1:Int),(ll.1:Int) + 1,rfl,⟨by omega,by omega,by omega,by omega⟩,?_⟩
  refine for_range (lo:=(ff.1:Int)) (fun n σ H'=>∃ v3 v4:Option V,σ=[some (.ref b),some (.ref t),some (.ref x1),v3,v4]∧Same H1 H'∧∀ i j,ff.1≤i→i < ff.1 + n→ff.2.1≤j→j≤ll.2.1→cell R i j≠46)
   ⟨none,none,rfl,Same.refl _,fun i j z1 z2=>by omega⟩ ?_ ?_
  ·rintro n σ H' hn ⟨v3,v4,rfl,sm,hup⟩
   have hn2:ff.1 + n≤ll.1:=by omega
   have en:(ff.1:Int) + (n:Int)=((ff.1 + n:Nat):Int):=by omega
   rw [en]
   have ht2:=sm _ _ ht1
   have e02:=sm _ _ e0
   have el2:=sm _ _ el
   refine ⟨_,rfl,t,_,_,.ref as[0],rfl,rfl,SqT.of ht2,atI_nat (j:=0) (by simp [g0]),as[0],_,_,_,rfl,rfl,SqT.of e02,atI_nat (j:=1) rfl,_,rfl,_,rfl,t,_,_,.ref as[ts.length - 1],rfl,rfl,SqT.of ht2,hlast,as[ts.length - 1],_,_,_,rfl,rfl,SqT.of el2,atI_nat (j:=1) rfl,_,_,rfl,rfl,(ff.2.1:Int),(ll.2.1:Int) + 1,rfl,⟨by omega,by omega,by omega,by omega⟩,?_⟩
   refine for_range (lo:=(ff.2.1:Int)) (fun m σ H2=>∃ v4:Option V,σ=[some (.ref b),some (.ref t),some (.ref x1),some (.int ((ff.1 + n:Nat):Int)),v4]∧Same H1 H2∧∀ j,ff.2.1≤j→j < ff.2.1 + m→cell R (ff.1 + n) j≠46)
    ⟨_,rfl,sm,fun j z1 z2=>by omega⟩ ?_ ?_
   ·rintro m σ H2 hm ⟨v4,rfl,sm2,hle⟩
    have hm2:ff.2.1 + m≤ll.2.1:=by omega
    have em:(ff.2.1:Int) + (m:Int)=((ff.2.1 + m:Nat):Int):=by omega
    rw [em]
    have B2:=B1.mv sm2
    obtain ⟨dx1,_,_,_,ex1,_⟩:=id B2.ex
    refine ⟨_,rfl,x1,dx1,_,rfl,ex1,rfl,_,rfl,_,rfl,x1,r,w,R,marks,bi,bj,_,_,rfl,B2,[_],[46],rfl,rfl,_,rfl,?_⟩
    rw [atC_cell (show ff.1 + n < r by omega) (show ff.2.1 + m < w by omega)]
    by_cases hc:cell R (ff.1 + n) (ff.2.1 + m)=46
    ·rw [decide_eq_true (show [cell R (ff.1 + n) (ff.2.1 + m)]=[46] by rw [hc])]
     refine iteT ⟨_,rfl,_,rfl,by show 2≤sizeLine;decide,fun a na=>⟨a,_,_,rfl,upd_same,fun dx ne nd=>?_⟩⟩
     obtain ⟨k0,k1,k2⟩:=drop_new2 (q:=.ext (ExcN a (.ref CG) (some dx))) (p:=.ext (XD dx [("row",.int (ff.1 + n:Nat))])) (p2:=.ext (XD dx (rcF (ff.1 + n) (ff.2.1 + m)))) na ne nd
     exact ⟨rfl,some dx,k0,qE _ _ ⟨by omega,hn2,by omega,hm2,hc,hup,hle⟩ dx _ ((s1.trans sm2).trans k1) k2⟩
    ·rw [decide_eq_false (show ¬[cell R (ff.1 + n) (ff.2.1 + m)]=[46] from fun z=>hc (by injection z))]
     refine iteF ⟨_,rfl,sm2,fun j z1 z2=>?_⟩
     by_cases z:j=ff.2.1 + m
     ·rw [z];exact hc
     ·exact hle j z1 (by omega)
   ·rintro σ H2 ⟨v4,rfl,sm2,hle⟩
    refine ⟨_,_,rfl,sm2,fun i j z1 z2 z3 z4=>?_⟩
    by_cases z:i=ff.1 + n
    ·rw [z];exact hle j z3 (by omega)
    ·exact hup i j z1 (by omega) z3 z4
  ·rintro σ H' ⟨v3,v4,rfl,sm,hup⟩
   exact q (fun i j z1 z2 z3 z4=>hup i j z1 (by omega) z3 z4) H' (s1.trans sm)
def cellT (t:Trip):Nat × Nat:=(t.1,t.2.1)
def jnB (rows:List (List Nat)) (r w bi bj:Nat) (ts:List Trip):Bool:=if isFree rows=true then decide ((bi,bj)∈ts.map cellT) else ts.any fun t=>nearB rows r w t.1 t.2.1
theorem HasDs.ofP {H:Hp}:∀ {cs:List Addr} {cc:List (Nat × Nat)},PL2 H cs cc→HasDs K H 1 (cc.map fun c=>Dt.tup [.int c.1,.int c.2]) (cs.map V.ref)
 | [],[],_=>.nil
 | [],_ :: _,h=>by have:=h.len;simp at this
 | _ :: _,[],h=>by have:=h.len;simp at this
 | a :: cs,c :: cc,h=>.cons (.tup (SqT.of (h.at_ 0 a c rfl rfl)) (.cons (.int _) (.cons (.int _) .nil))) (HasDs.ofP ⟨by have:=h.len;simpa using this,fun i a x h1 h2=>h.at_ (i + 1) a x h1 h2⟩)
theorem mem_dt {c:Nat × Nat} {cc:List (Nat × Nat)}:Dt.tup [.int c.1,.int c.2]∈(cc.map fun c=>Dt.tup [.int (c.1:Int),.int (c.2:Int)])↔c∈cc:=by
 constructor
 ·intro h
  obtain ⟨d,hd,e⟩:=List.mem_map.mp h
  injection e with e
  injection e with e1 e2
  injection e1 with e1
  injection e2 with e2
  injection e2 with e2
  have:d=c:=Prod.ext (Int.ofNat.inj e1) (Int.ofNat.inj e2)
  rw [← this];exact hd
 ·intro h
  exact List.mem_map.mpr ⟨c,h,rfl⟩
def spCkJoin (C CA:Addr):Sp:=fun vs H Q E=>∃ (b t:Addr) (as:List Addr) (ts:List Trip) (r w:Nat) (rows marks:List (List Nat)) (bi bj:Nat),vs=[.ref b,.ref t]∧BoardAt C H b r w rows marks bi bj∧H t=some (.tup (as.map V.ref))∧LayL H as ts∧ts.length≤7∧
 (jnB rows r w bi bj ts=false→∀ H',Same H H'→E (.ref CA) none H')∧(jnB rows r w bi bj ts=true→∀ H',Same H H'→Q .non H')
open Classical in
theorem ok_check_joined {C CA f1:Addr} {fd1:FuncData} (D:DefAt K mg "check_joined" s_check_joined ["board","laying"]) (n_any:mg "any"=none) (T_Board:BoardCls K C) (m_Board_is_free:Meth K C "is_free" f1) (G_Board_is_free:FnOk P w K mg base CX0 1 f1 fd1 ["self"] (spFree C)) (b_Board_is_free:Binds K fd1 ["self"] [])
  (mg_Apart:mg "Apart"=some (.ref CA)) (X_Apart:PySem.W.excIn K CA vErr "ValueError.__new__"=true) (D_cells_of:Def P w K mg base "cells_of" 1 ["laying"] spCellsOf) (D_is_next_to_taken:Def P w K mg base "is_next_to_taken" 5 ["board","row","column"] (spNextTo C)):DefX P w K mg base "check_joined" 7 ["board","laying"] (spCkJoin C CA):=by
 refine D.qokX sc_check_joined (fun vs H Q E h=>?_) (fun f cdv A outer s H vs Q E hr h=>?_)
 ·obtain ⟨b,t,as,ts,r,w,rows,marks,bi,bj,rfl,_⟩:=h
  rfl
 ·obtain ⟨b,t,as,ts,r,w,rows,marks,bi,bj,rfl,BA,ht,hL,h7,qE,q⟩:=h
  have hal:=hL.len
  obtain ⟨dx,pr,pm,pb,ex,_,_,hpb⟩:=id BA.ex
  refine ⟨_,(qss_cons (qs_cut (qs_if (qt_val (qe_meth0 (qv 0) T_Board.cl m_Board_is_free G_Board_is_free (hr.mono (by decide)) b_Board_is_free .nil pass0)) (qss_one (qs_set (i:=2) sc_check_joined.nd rfl (Or.inl rfl) (qe_cmpR (op_inDL hr.units) (qe_fld (qv 0) rfl) (qe_own D_cells_of (hr.mono (by decide)) rfl (qa_cons (qv 1) qa_nil)) rfl))) (qss_one (qs_set (i:=2) sc_check_joined.nd rfl (Or.inl rfl) (qe_callB (call_any rfl) (by rfl) n_any boot_anyX (qa_cons (qe_compG (ns:=["row","column","sign"]) rfl (CompG.of ["board","laying","joined"] [] (by kernel_rfl)) (qi_tup (qv 1)) (fun _ _ _ _ _=>(tg_tup3 K rfl (show (["row","column","sign","board","laying","joined"]:List Str).Nodup by decide +kernel) rfl rfl rfl (by rfl) (by rfl) (by rfl))) (fun _ _ _ _ _=>qts_nil) (fun _ _ _ _ _=>(qe_own D_is_next_to_taken (hr.mono (by decide)) rfl (qa_cons (qv 3) (qa_cons (qv 0) (qa_cons (qv 1) qa_nil)))))) qa_nil)))))) (qss_one (qs_if (qt_not (qt_val (qv 2))) (qss_one (qs_raise lets_cx rfl rfl (by rfl) mg_Apart X_Apart (qa_cons (qe_strS [116,104,101,32,108,97,121,105,110,103,32,105,115,32,106,111,105,110,101,100,32,116,111,32,110,111,116,104,105,110,103] (by decide +kernel)) qa_nil))) qss_nil))),?_⟩
  refine ⟨fun σ H'=>Same H H'∧σ=[some (.ref b),some (.ref t),some (.bl (jnB rows r w bi bj ts))],?_,?_⟩
  ·refine ⟨_,rfl,b,dx,_,rfl,ex,rfl,b,r,w,rows,marks,bi,bj,rfl,BA,fun H1 s1=>⟨_,rfl,?_⟩⟩
   cases hf:isFree rows with
   | true=>
    refine iteT ⟨_,rfl,b,C,dx,_,_,rfl,s1 _ _ ex,T_Board.cl,T_Board.nb,rfl,_,rfl,t,as,ts,rfl,s1 _ _ ht,hL.mv s1,by omega,fun Lc cs H2 s2 hLc hcs=>?_⟩
    have hpb2:=s2 _ _ (s1 _ _ hpb)
    refine ⟨2,.tup [.int bi,.int bj],(ts.map cellT).map fun c=>Dt.tup [.int c.1,.int c.2],by decide,.tup (SqT.of hpb2) (.cons (.int _) (.cons (.int _) .nil)),.lst (SqL.of hLc) (HasDs.ofP hcs),?_⟩
    refine ⟨s1.trans s2,?_⟩
    have e:jnB rows r w bi bj ts=decide ((bi,bj)∈ts.map cellT):=by unfold jnB;rw [if_pos hf]
    rw [e]
    simp only [Bool.false_eq_true,if_false]
    by_cases hm:(bi,bj)∈ts.map cellT
    ·rw [decide_eq_true hm,decide_eq_true (mem_dt (c:=(bi,bj)).mpr hm)];rfl
    ·rw [decide_eq_false hm,decide_eq_false (fun z=>hm (mem_dt (c:=(bi,bj)).mp z))];rfl
   | false=>
    refine iteF ⟨_,rfl,t,rfl,⟨_,SqT.of (s1 _ _ ht)⟩,fun N hN=>compG3_tup (K:=K) (KT:=K) (a:=t) (f:=hideS [] 0) (tt:=tYes) (xs:=as.map V.ref) (fun n ys H3=>ys=((ts.take n).map fun t=>nearB rows r w t.1 t.2.1).map V.bl∧H3 N=some (.lst ys)∧Same H1 H3)
     ⟨rfl,upd_same,Same.upd hN⟩ (fun n ys H3 _ h=>SqT.of (h.2.2 _ _ (s1 _ _ ht))) ?_ ?_⟩
    ·rintro n x ys H3 hx ⟨rfl,hN3,sm3⟩
     have hn:n < as.length:=by have:=(List.getElem?_eq_some_iff.mp hx).1;simpa using this
     have hnt:n < ts.length:=by omega
     rw [List.getElem?_map,List.getElem?_eq_getElem hn] at hx
     have hx:V.ref as[n]=x:=Option.some.inj hx
     have s03:=s1.trans sm3
     obtain ⟨_,en⟩:=lay_at (hL.mv s03) hnt
     refine turn3 hx.symm (SqT.of en) ?_
     refine ⟨_,rfl,_,rfl,_,rfl,b,r,w,rows,marks,bi,bj,_,_,rfl,BA.mv s03,fun H4 s4=>⟨s4 _ _ hN3,?_,Nxt.mk (by rw [List.length_map];exact hn) ⟨?_,upd_same,(sm3.trans s4).upd' hN⟩⟩⟩
     ·rw [List.length_map,List.length_map,List.length_take];exact small1000 (by omega)
     ·rw [take_snoc (List.getElem?_eq_getElem hnt),List.map_append];rfl
    ·rintro ys H3 ⟨rfl,hN3,sm3⟩
     refine ⟨N,_,rfl,SqL.of hN3,s1.trans sm3,?_⟩
     rw [List.length_map,hal,List.take_length,any_map]
     have e:jnB rows r w bi bj ts=ts.any fun t=>nearB rows r w t.1 t.2.1:=by unfold jnB;rw [if_neg (by rw [hf];decide)]
     rw [e];rfl
  ·rintro σ H' ⟨sm,rfl⟩
   refine ⟨_,rfl,_,rfl,?_⟩
   cases hj:jnB rows r w bi bj ts with
   | true=>exact iteF (q hj H' sm)
   | false=>exact iteT ⟨by show 1≤sizeLine;decide,qE hj H' sm⟩
end
end My
end
section
set_option Elab.async false
set_option linter.all false
set_option maxRecDepth 100000
set_option maxHeartbeats 2000000
namespace My
open PySem L2
section
variable {P:Program} {w:World} {K:PySem.W.Frag} {mg:Str→Option Value} {base:Heap}
structure Word (w:List Nat):Prop where
 lo:2≤w.length
 hi:w.length≤9
 az:∀ c∈w,isLet c
def spIsWord:Sp:=fun vs H Q _=>∃ l:List Nat,vs=[.str (S l)]∧Word l∧∀ H',Same H H'→Q (.bl true) H'
theorem az_dec {c:Nat} (h:isLet c):decide ([c] < [97])=false∧decide ([122] < [c])=false:=by
 have hlt:∀ a b:Nat,([a] < [b])↔a < b:=fun a b=>by simp [List.cons_lt_cons_iff]
 constructor
 ·rw [decide_eq_false];rw [hlt];have:=h.1;omega
 ·rw [decide_eq_false];rw [hlt];have:=h.2;omega
theorem ok_is_word (D:DefAt K mg "is_word" s_is_word ["text"]) (hlen:mg "len"=none) (hall:mg "all"=none):Def P w K mg base "is_word" 1 ["text"] spIsWord:=by
 refine D.qok sc_is_word (fun vs H Q E h=>?_) (fun f cdv A outer s H vs Q E hr h=>?_)
 ·obtain ⟨l,rfl,_⟩:=h
  rfl
 ·obtain ⟨l,rfl,hw,q⟩:=h
  have h1:=hw.lo
  have h2:=hw.hi
  have hz:l.length≤sizeLine:=Nat.le_of_lt (small1000 (by omega))
  refine ⟨_,qss_one (qs_ret (qe_and (qe_chain op_le op_le qe_int (qe_callB call_lenS (by rfl) hlen PySem.boot_len (qa_cons (qv 0) qa_nil)) qe_int)
   (qe_one (qe_callB (call_all rfl) (by rfl) hall (by decide +kernel) (qa_cons (qe_comp rfl (CompOk.of sc_is_word.nd (by kernel_rfl)) (qi_str (qv 0)) (fun _ _ _ _ _=>qts_nil)
    (fun _ _ _ _ _=>qe_chain op_leS op_leS (qe_strS [97] (by decide +kernel)) (qv 0) (qe_strS [122] (by decide +kernel)))) qa_nil))))),?_⟩
  refine ⟨_,rfl,l,rfl,hz,_,_,rfl,rfl,true,(by simp;omega),?_⟩
  refine iteT ⟨_,_,rfl,rfl,true,(by simp;omega),?_⟩
  refine iteT ?_
  refine ⟨_,rfl,l,rfl,fun L hL=>comp_str (fun i ys H2=>ys=(List.replicate i true).map V.bl∧H2 L=some (.lst ys)∧Same H H2) ⟨rfl,upd_same,Same.upd hL⟩ ?_ ?_⟩
  ·rintro i c ys H2 hi ⟨rfl,hL2,sm⟩
   have hil:i < l.length:=(List.getElem?_eq_some_iff.mp hi).1
   obtain ⟨a1,a2⟩:=az_dec (hw.az c (List.mem_of_getElem? hi))
   refine ⟨_,rfl,[97],[c],rfl,rfl,true,by rw [a1];rfl,iteT ⟨[c],[122],rfl,rfl,hL2,?_,Nxt.mk hil ⟨?_,upd_same,sm.upd' hL⟩⟩⟩
   ·rw [List.length_map,List.length_replicate];exact small1000 (by omega)
   ·rw [a2,List.replicate_succ',List.map_append];rfl
  ·rintro ys H2 ⟨rfl,hL2,sm⟩
   refine ⟨L,List.replicate l.length true,rfl,SqL.of hL2,?_⟩
   have e:(List.replicate l.length true).all id=true:=by simp
   rw [e]
   exact q H2 sm
def spCheck:Sp:=fun vs H Q _=>∃ l:List Nat,vs=[.str (S l)]∧Word l∧∀ H',Same H H'→Q .non H'
theorem ok_check_word (D:DefAt K mg "check_word" s_check_word ["text"]) (D1:Def P w K mg base "is_word" 1 ["text"] spIsWord):Def P w K mg base "check_word" 2 ["text"] spCheck:=by
 refine D.qok sc_check_word (fun vs H Q E h=>?_) (fun f cdv A outer s H vs Q E hr h=>?_)
 ·obtain ⟨l,rfl,_⟩:=h
  rfl
 ·obtain ⟨l,rfl,hw,q⟩:=h
  refine ⟨_,qss_one (qs_if (qt_not (qt_val (qe_own D1 hr rfl (qa_cons (qv 0) qa_nil)))) qss_never qss_nil),?_⟩
  refine ⟨_,rfl,l,rfl,hw,fun H1 s1=>⟨true,rfl,?_⟩⟩
  exact iteF (q H1 s1)
structure BookCls (K:PySem.W.Frag) (C:Addr):Prop where
 cl:Cls K C
 nh:NoAttr K C "held"
def wKv (ws:List (List Nat)):List (Key × V):=ws.map fun l=>(keyS l,V.bl true)
theorem keyS_inj {a b:List Nat} (h:keyS a=keyS b):a=b:=S_inj (Sum.inr.inj h)
theorem bval_in (ws:List (List Nat)) (l:List Nat):valV (wKv ws) (keyS l)=if l∈ws then some (.bl true) else none:=by
 induction ws with
 | nil=>simp [wKv,valV]
 | cons a r ih=>
  by_cases e:a=l
  ·subst e
   have:valV (wKv (a :: r)) (keyS a)=some (.bl true):=valV_pos (p:=(keyS a,V.bl true)) rfl
   rw [this];simp
  ·have:valV (wKv (a :: r)) (keyS l)=valV (wKv r) (keyS l):=valV_neg (p:=(keyS a,V.bl true)) fun z=>e (keyS_inj z)
   rw [this,ih]
   have e':¬l=a:=fun z=>e z.symm
   simp [e']
theorem put_old {ws:List (List Nat)} {l:List Nat} (h:l∈ws):putK (wKv ws) (keyS l) (.bl true)=wKv ws:=by
 have hany:((wKv ws).any fun kv=>decide (kv.1=keyS l))=true:=by rw [valV_any,bval_in,if_pos h];rfl
 unfold putK
 rw [if_pos hany]
 refine (List.map_congr_left fun kv hkv=>?_).trans (List.map_id _)
 obtain ⟨a,_,rfl⟩:=List.mem_map.mp hkv
 by_cases e:keyS a=keyS l
 ·simp [e]
 ·simp [e]
theorem put_new {ws:List (List Nat)} {l:List Nat} (h:l∉ws):putK (wKv ws) (keyS l) (.bl true)=wKv (ws ++ [l]):=by
 rw [putK_new _ (by rw [bval_in,if_neg h])]
 simp [wKv]
structure BookAt (C:Addr) (H:Hp) (p d:Addr) (ws:List (List Nat)):Prop where
 ob:∃ dx,H p=some (.ins C dx [("held",.ref d)])
 dc:H d=some (.dK (wKv ws))
 nd:ws.Nodup
 az:∀ l∈ws,Word l
def insW (ws:List (List Nat)) (l:List Nat):List (List Nat):=if l∈ws then ws else ws ++ [l]
theorem insW_put (ws:List (List Nat)) (l:List Nat):putK (wKv ws) (keyS l) (.bl true)=wKv (insW ws l):=by
 unfold insW
 split
 ·rename_i h;exact put_old h
 ·rename_i h;exact put_new h
theorem insW_nd {ws:List (List Nat)} {l:List Nat} (h:ws.Nodup):(insW ws l).Nodup:=by
 unfold insW
 split
 ·exact h
 ·rename_i hl;exact nd_snoc h hl
theorem insW_mem {ws:List (List Nat)} {l x:List Nat}:x∈insW ws l↔x∈ws∨x=l:=by
 unfold insW
 split
 ·rename_i h;exact ⟨.inl,fun z=>z.elim id fun e=>e ▸ h⟩
 ·simp
theorem insW_len (ws:List (List Nat)) (l:List Nat):(insW ws l).length≤ws.length + 1:=by
 unfold insW
 split
 ·omega
 ·simp
def seqAt (K:PySem.W.Frag) (H:Hp) (a:Addr) (ls:List (List Nat)):Prop:=SqL K H a (Ts ls)∨SqT K H a (Ts ls)
def spInit (K:PySem.W.Frag) (C:Addr):Sp:=fun vs H Q _=>∃ (p dx a:Addr) (ls:List (List Nat)),vs=[.ref p,.ref a]∧H p=some (.ins C dx [])∧seqAt K H a ls∧(∀ l∈ls,Word l)∧ls.length≤200∧
 ∀ (d:Addr) (ws:List (List Nat)) (H':Hp),H d=none→BookAt C H' p d ws→(∀ x,x∈ws↔x∈ls)→ws.length≤ls.length→(∀ b o,H b=some o→b≠p→H' b=some o)→Q .non H'
theorem ok_init {f C:Addr} {fd:FuncData} (F:Fun K "__init__" "Book.__init__" s_Book_init f fd) (T:BookCls K C) (D1:Def P w K mg base "check_word" 2 ["text"] spCheck):FnOk P w K mg base CX0 3 f fd ["self","words"] (spInit K C):=by
 refine F.qok sc_Book_init (fun vs H Q E h=>?_) (fun cdv A outer s H vs Q E hr h=>?_)
 ·obtain ⟨p,dx,a,ls,rfl,_⟩:=h
  rfl
 ·obtain ⟨p,dx,a,ls,rfl,hp,hS,hW,hn,k⟩:=h
  have hu:=hu_of hr
  have nd:=sc_Book_init.nd
  refine ⟨_,qss_cons (qs_fld (qv 0) qe_dnewK rfl) (qss_one (qs_for PassesOwn.never rfl ((qi_list (qv 1)).or (qi_tup (qv 1))) (qg_name (i:=2) nd rfl (Or.inl rfl))
   (qss_cons (qs_expr (qe_own D1 hr rfl (qa_cons (qv 2) qa_nil))) (qss_one (qs_dput hu (qe_fld (qv 0) rfl) (qv 2) qe_bl rfl))))),?_⟩
  intro d hd
  have npd:p≠d:=ne_of_none hp hd
  refine ⟨_,rfl,p,C,dx,[],rfl,(by rw [upd_ne npd];exact hp),T.cl,T.nh,(by show 0 < 1000;decide),?_⟩
  have hP1:upd (upd H d (HO.dK [])) p (HO.ins C dx (putF "held" (V.ref d) [])) p=some (.ins C dx [("held",.ref d)]):=upd_same
  have hD1:upd (upd H d (HO.dK [])) p (HO.ins C dx (putF "held" (V.ref d) [])) d=some (.dK (wKv [])):=by rw [upd_ne npd.symm,upd_same];rfl
  have kp1:∀ b o,H b=some o→b≠p→upd (upd H d (HO.dK [])) p (HO.ins C dx (putF "held" (V.ref d) [])) b=some o:=fun b o e hb=>by rw [upd_ne hb,upd_ne (ne_of_none e hd)];exact e
  generalize upd (upd H d (HO.dK [])) p (HO.ins C dx (putF "held" (V.ref d) []))=H1 at hP1 hD1 kp1 ⊢
  have npl:∀ o,H p=some o→(∀ ys,o≠.lst ys)∧∀ u ys,o≠.frz u (.lst ys):=fun o e=>by
   rw [hp] at e;cases e
   exact ⟨fun _ z=>(nomatch z),fun _ _ z=>(nomatch z)⟩
  have npt:∀ o,H p=some o→(∀ ys,o≠.tup ys)∧∀ u ys,o≠.frz u (.tup ys):=fun o e=>by
   rw [hp] at e;cases e
   exact ⟨fun _ z=>(nomatch z),fun _ _ z=>(nomatch z)⟩
  rcases hS with hS | hS
  ·refine .inl ⟨_,rfl,a,rfl,⟨_,hS.keep kp1 npl⟩,for_list (K:=K) (a:=a) (xs:=Ts ls) (fun i σ H2=>∃ (v2:Option V) (ws:List (List Nat)),σ=[some (.ref p),some (.ref a),v2]∧H2 p=some (.ins C dx [("held",.ref d)])∧H2 d=some (.dK (wKv ws))∧ws.Nodup∧
    (∀ x,x∈ws↔x∈ls.take i)∧ws.length≤i∧∀ b o,H b=some o→b≠p→H2 b=some o) ⟨none,[],rfl,hP1,hD1,List.nodup_nil,fun x=>by simp,Nat.le_refl _,kp1⟩ (fun i σ H2 _ ⟨_,_,_,_,_,_,_,_,kp⟩=>hS.keep kp npl) ?_ ?_⟩
   ·rintro i y σ H2 hi ⟨v2,ws,rfl,hp2,hd2,hnd,hm,hl,kp⟩
    rw [List.getElem?_map] at hi
    obtain ⟨l,hl2,e⟩:=Option.map_eq_some_iff.mp hi
    subst e
    have hil:i < ls.length:=(List.getElem?_eq_some_iff.mp hl2).1
    refine ⟨_,rfl,l,rfl,hW l (List.mem_of_getElem? hl2),fun H3 s3=>?_⟩
    have hd3:=s3 _ _ hd2
    refine ⟨_,rfl,p,C,dx,_,_,rfl,s3 _ _ hp2,T.cl,T.nh,rfl,_,rfl,d,_,rfl,DPut.k (k:=keyS l) hd3 (by rw [wKv,List.length_map];exact small1000 (by omega)),?_⟩
    refine ⟨_,insW ws l,rfl,by rw [upd_ne npd];exact s3 _ _ hp2,by rw [upd_same,insW_put],insW_nd hnd,fun x=>?_,Nat.le_trans (insW_len _ _) (by omega),fun b o e hb=>?_⟩
    ·rw [insW_mem,hm,List.take_add_one,hl2];simp
    ·rw [upd_ne (ne_of_none e hd)];exact s3 _ _ (kp b o e hb)
   ·rintro σ H2 ⟨v2,ws,rfl,hp2,hd2,hnd,hm,hl,kp⟩
    rw [List.length_map] at hm hl
    rw [List.take_length] at hm
    exact k d ws H2 hd ⟨⟨dx,hp2⟩,hd2,hnd,fun l hl=>hW l ((hm l).mp hl)⟩ hm hl kp
  ·refine .inr ⟨_,rfl,a,rfl,⟨_,hS.keep kp1 npt⟩,for_tup (K:=K) (a:=a) (xs:=Ts ls) (fun i σ H2=>∃ (v2:Option V) (ws:List (List Nat)),σ=[some (.ref p),some (.ref a),v2]∧H2 p=some (.ins C dx [("held",.ref d)])∧H2 d=some (.dK (wKv ws))∧ws.Nodup∧
    (∀ x,x∈ws↔x∈ls.take i)∧ws.length≤i∧∀ b o,H b=some o→b≠p→H2 b=some o) ⟨none,[],rfl,hP1,hD1,List.nodup_nil,fun x=>by simp,Nat.le_refl _,kp1⟩ (fun i σ H2 _ ⟨_,_,_,_,_,_,_,_,kp⟩=>hS.keep kp npt) ?_ ?_⟩
   ·rintro i y σ H2 hi ⟨v2,ws,rfl,hp2,hd2,hnd,hm,hl,kp⟩
    rw [List.getElem?_map] at hi
    obtain ⟨l,hl2,e⟩:=Option.map_eq_some_iff.mp hi
    subst e
    have hil:i < ls.length:=(List.getElem?_eq_some_iff.mp hl2).1
    refine ⟨_,rfl,l,rfl,hW l (List.mem_of_getElem? hl2),fun H3 s3=>?_⟩
    have hd3:=s3 _ _ hd2
    refine ⟨_,rfl,p,C,dx,_,_,rfl,s3 _ _ hp2,T.cl,T.nh,rfl,_,rfl,d,_,rfl,DPut.k (k:=keyS l) hd3 (by rw [wKv,List.length_map];exact small1000 (by omega)),?_⟩
    refine ⟨_,insW ws l,rfl,by rw [upd_ne npd];exact s3 _ _ hp2,by rw [upd_same,insW_put],insW_nd hnd,fun x=>?_,Nat.le_trans (insW_len _ _) (by omega),fun b o e hb=>?_⟩
    ·rw [insW_mem,hm,List.take_add_one,hl2];simp
    ·rw [upd_ne (ne_of_none e hd)];exact s3 _ _ (kp b o e hb)
   ·rintro σ H2 ⟨v2,ws,rfl,hp2,hd2,hnd,hm,hl,kp⟩
    rw [List.length_map] at hm hl
    rw [List.take_length] at hm
    exact k d ws H2 hd ⟨⟨dx,hp2⟩,hd2,hnd,fun l hl=>hW l ((hm l).mp hl)⟩ hm hl kp
def spHas (C:Addr):Sp:=fun vs H Q _=>∃ (p d:Addr) (ws:List (List Nat)) (l:List Nat),vs=[.ref p,.str (S l)]∧BookAt C H p d ws∧Q (.bl (decide (l∈ws))) H
theorem ok_has {f C:Addr} {fd:FuncData} (F:Fun K "has" "Book.has" s_Book_has f fd) (T:BookCls K C):FnOk P w K mg base CX0 1 f fd ["self","text"] (spHas C):=by
 refine F.qok sc_Book_has (fun vs H Q E h=>?_) (fun cdv A outer s H vs Q E hr h=>?_)
 ·obtain ⟨p,d,ws,l,rfl,_⟩:=h
  rfl
 ·obtain ⟨p,d,ws,l,rfl,B,q⟩:=h
  have hu:=hu_of hr
  obtain ⟨⟨dx,hp⟩,hd,_,_⟩:=id B
  refine ⟨_,qss_one (qs_ret (qe_cmp (qc_din hu (qv 1) (qe_fld (qv 0) rfl)))),?_⟩
  refine ⟨_,rfl,_,rfl,p,C,dx,_,_,rfl,hp,T.cl,T.nh,rfl,d,_,rfl,DGet.k (k:=keyS l) hd,?_⟩
  rw [bval_in]
  by_cases h:l∈ws
  ·rw [if_pos h];simpa [h] using q
  ·rw [if_neg h];simpa [h] using q
def tileF (c:Nat):Nat:=if 65≤c∧c≤90 then 63 else c
def sgN (c:Nat):Prop:=isLet c∨(65≤c∧c≤90)
theorem sgN.lt {c:Nat} (h:sgN c):c < 128:=by
 rcases h with h | h
 ·have:=h.2;omega
 ·omega
def goF (left:List (List Nat)):List Nat→Sum Nat (List (List Nat))
 | []=>.inr left
 | c :: cs=>if [tileF c]∈left then goF (left.erase [tileF c]) cs else .inl (tileF c)
theorem one_len:∀ {us:List (List Nat)},(∀ l∈us,l.length=1)→us.flatten.length=us.length
 | [],_=>rfl
 | u :: us,h=>by
  rw [List.flatten_cons,List.length_append,one_len fun l hl=>h l (List.mem_cons_of_mem _ hl),h u List.mem_cons_self,List.length_cons]
  omega
def spTile:Sp:=fun vs H Q _=>∃ c:Nat,vs=[.str (S [c])]∧c < 128∧Q (.str (S [tileF c])) H
theorem le1 (a b:Nat):(!decide ([b] < [a]))=decide (a≤b):=by
 by_cases h:a≤b
 ·rw [decide_eq_true h,decide_eq_false (by simp [List.cons_lt_cons_iff];omega)];rfl
 ·rw [decide_eq_false h,decide_eq_true (by simp [List.cons_lt_cons_iff];omega)];rfl
theorem ok_tile_of (D:DefAt K mg "tile_of" s_tile_of ["sign"]):Def P w K mg base "tile_of" 1 ["sign"] spTile:=by
 refine D.qok sc_tile_of (fun vs H Q E h=>?_) (fun f cdv A outer s H vs Q E hr h=>?_)
 ·obtain ⟨c,rfl,_⟩:=h
  rfl
 ·obtain ⟨c,rfl,hc,q⟩:=h
  refine ⟨_,(qss_one (qs_ret (qe_ifExp (qt_chain op_leS op_leS (qe_strS [65] (by decide +kernel)) (qv 0) (qe_strS [90] (by decide +kernel))) (qe_strS [63] (by decide +kernel)) (qv 0)))),?_⟩
  refine ⟨_,rfl,[65],[c],rfl,rfl,?_⟩
  rw [le1]
  unfold tileF at q
  by_cases h1:65≤c
  ·rw [decide_eq_true h1]
   refine ⟨_,rfl,iteT ⟨[c],[90],rfl,rfl,?_⟩⟩
   rw [le1]
   by_cases h2:c≤90
   ·rw [if_pos ⟨h1,h2⟩] at q
    rw [decide_eq_true h2]
    exact ⟨_,rfl,iteT q⟩
   ·rw [if_neg fun z=>h2 z.2] at q
    rw [decide_eq_false h2]
    exact ⟨_,rfl,iteF ⟨_,rfl,q⟩⟩
  ·rw [if_neg fun z=>h1 z.1] at q
   rw [decide_eq_false h1]
   exact ⟨_,rfl,iteF ⟨_,rfl,iteF ⟨_,rfl,q⟩⟩⟩
theorem inV_ts (x:List Nat) (ws:List (List Nat)):inV (.str (S x)) (Ts ws)=decide (x∈ws):=by
 unfold inV
 induction ws with
 | nil=>simp [Ts]
 | cons y ws ih=>
  have e:eqV (.str (S y)) (.str (S x))=decide (y=x):=by
   show decide (S y=S x)=_
   by_cases h:y=x
   ·rw [h];simp
   ·have h2:S y≠S x:=fun e=>h (S_inj e)
    simp [h,h2]
  show (eqV (.str (S y)) (.str (S x)) || (Ts ws).any _)=_
  rw [e,ih]
  by_cases h:y=x
  ·simp [h]
  ·have h2:¬x=y:=fun e=>h e.symm
   simp [h,h2]
theorem flat_ts (ws:List (List Nat)):(Ts ws).all flatV=true:=by rw [List.all_eq_true];intro x hx;obtain ⟨l,_,rfl⟩:=List.mem_map.mp hx;rfl
theorem ok_lacking {f C R:Addr} {fd:FuncData} (F:Fun K "__init__" "Lacking.__init__" s_Lacking_init f fd) (mg_RackError:mg "RackError"=some (.ref R)) (I_RackError:InitOf K R) (T:XCls K mg "Lacking" C f ["tile"]):FnOk P w K mg base CX0 1 f fd ["self","tile"] (spIni1 C "tile"):=by
 refine F.qok sc_Lacking_init (fun vs H Q E h=>?_) (fun cdv A outer s H vs Q E hr h=>?_)
 ·obtain ⟨a,v,rfl,_⟩:=h
  rfl
 ·obtain ⟨a,v,rfl,ha,q⟩:=h
  refine ⟨_,(qss_cons (qs_expr (qe_excInit (by rfl) mg_RackError I_RackError (qa_cons (qv 0) (qa_cons (qv 1) qa_nil)))) (qss_one (qs_fldX (qv 0) (qv 1) rfl))),?_⟩
  refine ⟨_,rfl,_,rfl,a,C,f,none,[v],rfl,ha,T.M.ini,by show 1≤sizeLine;decide,?_⟩
  exact ⟨_,rfl,_,rfl,a,C,none,rfl,ha,T.T,T.no _ (by simp),.inl ⟨rfl,fun dx ne nd=>q dx ne nd⟩⟩
def spLeft (C:Addr):Sp:=fun vs H Q E=>∃ (rack signs:List Nat),vs=[.str (S rack),.str (S signs)]∧rack.length≤63∧signs.length≤63∧(∀ c∈signs,sgN c)∧
 (∀ t,goF (rack.map fun c=>[c]) signs=.inl t→∀ (dx:Addr) (H':Hp),Same H H'→H' dx=some (.ext (XD dx [("tile",.str (S [t]))]))→E (.ref C) (some dx) H')∧
 (∀ left,goF (rack.map fun c=>[c]) signs=.inr left→∀ (ws:List (List Nat)) (H':Hp),Same H H'→ws.Perm left→ws.Pairwise (fun a b=>decide (b < a)=false)→Q (.str (S ws.flatten)) H')
theorem ok_left_of {C f0:Addr} {fd0:FuncData} (D:DefAt K mg "left_of" s_left_of ["rack","signs"]) (n_list:mg "list"=none) (n_sorted:mg "sorted"=none) (T:XCls K mg "Lacking" C f0 ["tile"]) (G_Lacking:FnOk P w K mg base CX0 1 f0 fd0 ["self","tile"] (spIni1 C "tile")) (b_Lacking:Binds K fd0 ["self","tile"] [])
  (D_tile_of:Def P w K mg base "tile_of" 1 ["sign"] spTile):DefX P w K mg base "left_of" 3 ["rack","signs"] (spLeft C):=by
 refine D.qokX sc_left_of (fun vs H Q E h=>?_) (fun f cdv A outer s H vs Q E hr h=>?_)
 ·obtain ⟨rack,signs,rfl,_⟩:=h
  rfl
 ·obtain ⟨rack,signs,rfl,hr63,hs63,hsg,qE,q⟩:=h
  have M_Lacking:=T.M
  have mg_Lacking:=T.mgC
  refine ⟨_,(qss_cons (qs_set (i:=2) sc_left_of.nd rfl (Or.inl rfl) (qe_callTy (call_listS rfl) (by rfl) n_list PyProof.Rows.boot_list (qa_cons (qv 0) qa_nil))) (qss_cons (qs_for PassesOwn.leaving rfl (qi_str (qv 1)) (qg_name (i:=3) sc_left_of.nd rfl (Or.inl rfl)) (qss_cons (qs_set (i:=4) sc_left_of.nd rfl (Or.inl rfl) (qe_own D_tile_of (hr.mono (by decide)) rfl (qa_cons (qv 3) qa_nil))) (qss_cons (qs_if (qt_cmpR op_notIn_seq (qv 4) (qv 2) rfl) (qss_one (qs_raiseI lets_cx rfl M_Lacking G_Lacking (hr.mono (by decide)) (by rfl) mg_Lacking b_Lacking (qa_cons (qv 4) qa_nil))) qss_nil) (qss_one (qs_expr (qe_bm PySem.F.plainAttrs_list PySem.F.slot_list_remove PySem.F.type_list_remove mt_remove (qv 2) (qa_cons (qv 4) qa_nil))))))) (qss_one (qs_ret (qe_bm PySem.F.plainAttrs_str PySem.F.slot_str_join PySem.F.type_str_join mt_join (qe_strS [] (by decide +kernel)) (qa_cons (qe_callB call_sortedL (by rfl) n_sorted PyProof.Rows.boot_sorted (qa_cons (qv 2) qa_nil)) qa_nil)))))),?_⟩
  refine ⟨_,rfl,rack,rfl,by omega,fun L hL=>?_⟩
  have s1:Same H (upd H L (.lst (Ts (rack.map fun c=>[c])))):=Same.upd hL
  refine ⟨_,rfl,signs,rfl,?_⟩
  refine for_str (fun i σ H2=>∃ (v3 v4:Option V) (us:List (List Nat)),σ=[some (.str (S rack)),some (.str (S signs)),some (.ref L),v3,v4]∧Same H H2∧H2 L=some (.lst (Ts us))∧us.length≤63∧(∀ l∈us,l.length=1)∧goF (rack.map fun c=>[c]) signs=goF us (signs.drop i))
   ⟨none,none,rack.map fun c=>[c],rfl,s1,upd_same,by rw [List.length_map];exact hr63,fun l hl=>by obtain ⟨c,_,rfl⟩:=List.mem_map.mp hl;rfl,by rw [List.drop_zero]⟩ ?_ ?_
  ·rintro i c σ H2 hc ⟨v3,v4,us,rfl,sm,hL2,hul,hu1,hgo⟩
   have hcs:=hsg c (List.mem_of_getElem? hc)
   have hi:i < signs.length:=(List.getElem?_eq_some_iff.mp hc).1
   have hdrop:signs.drop i=c :: signs.drop (i + 1):=by
    rw [List.drop_eq_getElem_cons hi]
    rw [List.getElem?_eq_getElem hi] at hc
    rw [Option.some.inj hc]
   rw [hdrop] at hgo
   refine ⟨_,rfl,c,rfl,hcs.lt,?_⟩
   refine ⟨_,rfl,_,rfl,L,Ts us,rfl,.inl (SqL.of hL2),rfl,flat_ts us,?_⟩
   rw [inV_ts]
   by_cases hm:[tileF c]∈us
   ·rw [decide_eq_true hm]
    refine ⟨_,rfl,iteF ⟨_,rfl,.inl ⟨rfl,_,SqL.of hL2⟩,_,rfl,L,us,[tileF c],rfl,rfl,hL2,hm,by omega,?_⟩⟩
    refine ⟨_,_,us.erase [tileF c],rfl,sm.upd' hL,upd_same,?_,fun l hl=>hu1 l (List.mem_of_mem_erase hl),?_⟩
    ·have:=(List.erase_sublist (a:=[tileF c]) (l:=us)).length_le;omega
    ·rw [hgo];show (if _ then _ else _)=_;rw [if_pos hm]
   ·rw [decide_eq_false hm]
    have e:goF (rack.map fun c=>[c]) signs=.inl (tileF c):=by rw [hgo];show (if _ then _ else _)=_;rw [if_neg hm]
    refine ⟨_,rfl,iteT ⟨_,rfl,by show 1≤sizeLine;decide,fun a na=>⟨a,_,rfl,upd_same,fun dx ne nd=>⟨rfl,some dx,upd_same,?_⟩⟩⟩⟩
    obtain ⟨k1,k2⟩:=drop_new (q:=.ext (ExcN a (.ref C) (some dx))) (p:=.ext (XD dx [("tile",.str (S [tileF c]))])) na ne nd
    exact qE _ e dx _ (sm.trans k1) k2
  ·rintro σ H2 ⟨v3,v4,us,rfl,sm,hL2,hul,hu1,hgo⟩
   rw [List.drop_length] at hgo
   refine ⟨rfl,_,rfl,L,us,rfl,SqL.of hL2,by omega,fun p ws hp pm pw=>?_⟩
   refine ⟨p,ws,rfl,rfl,SqL.of upd_same,?_,?_⟩
   ·rw [one_len fun l hl=>hu1 l (pm.mem_iff.mp hl),pm.length_eq];omega
   ·exact q us hgo ws _ (sm.upd' (sm.free hp)) pm pw
theorem ok_noword {f C R:Addr} {fd:FuncData} (F:Fun K "__init__" "NoWord.__init__" s_NoWord_init f fd) (mg_RackError:mg "RackError"=some (.ref R)) (I_RackError:InitOf K R) (T:XCls K mg "NoWord" C f ["word"]):FnOk P w K mg base CX0 1 f fd ["self","word"] (spIni1 C "word"):=by
 refine F.qok sc_NoWord_init (fun vs H Q E h=>?_) (fun cdv A outer s H vs Q E hr h=>?_)
 ·obtain ⟨a,v,rfl,_⟩:=h
  rfl
 ·obtain ⟨a,v,rfl,ha,q⟩:=h
  refine ⟨_,(qss_cons (qs_expr (qe_excInit (by rfl) mg_RackError I_RackError (qa_cons (qv 0) (qa_cons (qv 1) qa_nil)))) (qss_one (qs_fldX (qv 0) (qv 1) rfl))),?_⟩
  refine ⟨_,rfl,_,rfl,a,C,f,none,[v],rfl,ha,T.M.ini,by show 1≤sizeLine;decide,?_⟩
  exact ⟨_,rfl,_,rfl,a,C,none,rfl,ha,T.T,T.no _ (by simp),.inl ⟨rfl,fun dx ne nd=>q dx ne nd⟩⟩
end
end My
end
section
set_option Elab.async false
set_option linter.all false
set_option maxRecDepth 100000
set_option maxHeartbeats 2000000
namespace My
open PySem L2
section
variable {P:Program} {w:World} {K:PySem.W.Frag} {mg:Str→Option Value} {base:Heap}
theorem takeW_mem {p:Nat→Bool}:∀ {l:List Nat} {c:Nat},c∈l.takeWhile p→c∈l∧p c=true
 | [],c,h=>by simp at h
 | a :: l,c,h=>by
  rw [List.takeWhile_cons] at h
  by_cases z:p a=true
  ·rw [if_pos z] at h
   rcases List.mem_cons.mp h with e | e
   ·rw [e];exact ⟨List.mem_cons_self,z⟩
   ·have:=takeW_mem e;exact ⟨List.mem_cons_of_mem _ this.1,this.2⟩
  ·rw [if_neg z] at h;simp at h
theorem line_mem {r w:Nat} {R:List (List Nat)} (hb:Blk r w R) (hp:∀ l∈R,∀ c∈l,roC c) {i j wy:Nat} (hi:i < r) (hj:j < w):∀ c∈lineOf R i j (wy:Int),roC c:=fun c hc=>by
 unfold lineOf at hc
 split at hc
 ·rw [List.getD_eq_getElem?_getD,List.getElem?_eq_getElem (by rw [hb.len];exact hi)] at hc
  exact hp _ (List.getElem_mem _) c hc
 ·obtain ⟨l,hl,e⟩:=List.mem_map.mp hc
  have hw:=hb.wid l hl
  have e2:l.getD j 0=l[j]:=by rw [List.getD_eq_getElem?_getD,List.getElem?_eq_getElem (show j < l.length by omega)];rfl
  rw [← e,e2]
  exact hp l hl _ (List.getElem_mem _)
theorem quad_sg {r w:Nat} {R:List (List Nat)} (hb:Blk r w R) (hp:∀ l∈R,∀ c∈l,roC c) {i j wy:Nat} (hi:i < r) (hj:j < w):∀ c∈(quad R i j wy).2.2.2,sgC c:=fun c hc=>by
 have key:∀ c,c∈lineOf R i j (wy:Int)→(c != 46)=true→sgC c:=fun c h1 h2=>by
  rcases line_mem hb hp hi hj c h1 with z | z
  ·rw [z] at h2;cases h2
  ·exact z
 rcases List.mem_append.mp (show c∈tailF _ ++ headF _ from hc) with z | z
 ·unfold tailF at z
  have:=takeW_mem (List.mem_reverse.mp z)
  exact key c (List.mem_of_mem_take (List.mem_reverse.mp this.1)) this.2
 ·have:=takeW_mem z
  exact key c (List.mem_of_mem_drop this.1) this.2
theorem words_sg {r w:Nat} {rows:List (List Nat)} {ts:List Trip} (hb:Blk r w (laidF rows ts)) (hp:∀ l∈laidF rows ts,∀ c∈l,roC c) (hin:∀ t∈ts,inB r w t):∀ q∈wordsF rows ts,∀ c∈q.2.2.2,sgC c:=fun q hq=>by
 obtain ⟨a,ha,rfl⟩:=List.mem_map.mp (List.mem_filter.mp hq).1
 have hi:a.1 < r∧a.2.1 < w:=by
  rcases List.mem_append.mp ha with z | z
  ·obtain ⟨u,hu,rfl⟩:=List.mem_map.mp z
   have:=hin u (List.mem_of_mem_take hu)
   exact ⟨this.1,this.2.1⟩
  ·obtain ⟨u,hu,rfl⟩:=List.mem_map.mp z
   have:=hin u hu
   exact ⟨this.1,this.2.1⟩
 exact quad_sg hb hp hi.1 hi.2
theorem words_len20 {r w:Nat} {rows:List (List Nat)} {ts:List Trip} (hb:Blk r w (laidF rows ts)) (r9:r≤9) (w9:w≤9) (hin:∀ t∈ts,inB r w t):∀ q∈wordsF rows ts,q.2.2.2.length≤20:=fun q hq=>by
 obtain ⟨a,ha,rfl⟩:=List.mem_map.mp (List.mem_filter.mp hq).1
 have hi:a.1 < r:=by
  rcases List.mem_append.mp ha with z | z
  ·obtain ⟨u,hu,rfl⟩:=List.mem_map.mp z
   exact (hin u (List.mem_of_mem_take hu)).1
  ·obtain ⟨u,hu,rfl⟩:=List.mem_map.mp z
   exact (hin u hu).1
 exact quad_len hb r9 w9 hi
def dQ (q:Quad):Dt:=.tup [.int q.1,.int q.2.1,.int q.2.2.1,.str q.2.2.2]
theorem HasDs.ofQ {H:Hp}:∀ {bs:List Addr} {qs:List Quad},QL H bs qs→(∀ q∈qs,∀ c∈q.2.2.2,c < 128)→HasDs K H 1 (qs.map dQ) (bs.map V.ref)
 | [],[],_,_=>.nil
 | [],_ :: _,h,_=>by have:=h.len;simp at this
 | _ :: _,[],h,_=>by have:=h.len;simp at this
 | a :: bs,q :: qs,h,k=>.cons (.tup (SqT.of (h.at_ 0 a q rfl rfl)) (.cons (.int _) (.cons (.int _) (.cons (.int _) (.cons (.str _ (k q List.mem_cons_self)) .nil))))) (HasDs.ofQ ⟨by have:=h.len;simpa using this,fun i a x h1 h2=>h.at_ (i + 1) a x h1 h2⟩ fun q' hq'=>k q' (List.mem_cons_of_mem _ hq'))
def lowQ (q:Quad):List Nat:=q.2.2.2.map PyProof.Rows.lo1
def misQ (ws:List (List Nat)) (q:Quad):Bool:=!decide (lowQ q∈ws)
def mwF (rows:List (List Nat)) (ws:List (List Nat)) (ts:List Trip):Option (List Nat):=if wordsF rows ts=[] then some ([(fstT ts).2.2].map PyProof.Rows.lo1) else ((wordsF rows ts).find? (misQ ws)).map lowQ
def spCkWords (C CB CW:Addr):Sp:=fun vs H Q E=>∃ (b k d t:Addr) (ws:List (List Nat)) (as:List Addr) (ts:List Trip) (r w:Nat) (rows marks:List (List Nat)) (bi bj:Nat),vs=[.ref b,.ref k,.ref t]∧BoardAt C H b r w rows marks bi bj∧BookAt CB H k d ws∧H t=some (.tup (as.map V.ref))∧LayL H as ts∧(∀ t∈ts,inB r w t)∧0 < ts.length∧ts.length≤7∧Line1 ts∧
 (∀ l,mwF rows ws ts=some l→∀ (dx:Addr) (H':Hp),Same H H'→H' dx=some (.ext (XD dx [("word",.str (S l))]))→E (.ref CW) (some dx) H')∧(mwF rows ws ts=none→∀ H',Same H H'→Q .non H')
theorem BookAt.mv {C:Addr} {H H':Hp} {p d:Addr} {ws:List (List Nat)} (B:BookAt C H p d ws) (s:Same H H'):BookAt C H' p d ws:=⟨let ⟨dx,e⟩:=B.ob;⟨dx,s _ _ e⟩,s _ _ B.dc,B.nd,B.az⟩
theorem wordsF_len {rows:List (List Nat)} {ts:List Trip} (h:ts.length≤7):(wordsF rows ts).length≤100:=by
 refine Nat.le_trans (List.length_filter_le _ _) ?_
 rw [List.length_map]
 unfold askL
 rw [List.length_append,List.length_map,List.length_map,List.length_take]
 omega
open Classical in
theorem ok_check_words {C CB CW f0 f1:Addr} {fd0 fd1:FuncData} (D:DefAt K mg "check_words" s_check_words ["board","book","laying"]) (T_Book:BookCls K CB) (m_Book_has:Meth K CB "has" f1) (G_Book_has:FnOk P w K mg base CX0 1 f1 fd1 ["self","text"] (spHas CB)) (b_Book_has:Binds K fd1 ["self","text"] [])
  (T:XCls K mg "NoWord" CW f0 ["word"]) (G_NoWord:FnOk P w K mg base CX0 1 f0 fd0 ["self","word"] (spIni1 CW "word")) (b_NoWord:Binds K fd0 ["self","word"] []) (D_formed:Def P w K mg base "formed" 10 ["board","laying"] (spFormed C)) (D_letter_of:Def P w K mg base "letter_of" 1 ["sign"] spLetterOf):DefX P w K mg base "check_words" 12 ["board","book","laying"] (spCkWords C CB CW):=by
 refine D.qokX sc_check_words (fun vs H Q E h=>?_) (fun f cdv A outer s H vs Q E hr h=>?_)
 ·obtain ⟨b,k,d,t,ws,as,ts,r,w,rows,marks,bi,bj,rfl,_⟩:=h
  rfl
 ·obtain ⟨b,k,d,t,ws,as,ts,r,w,rows,marks,bi,bj,rfl,BA,BK,ht,hL,hin,h0,h7,hl1,qE,q⟩:=h
  have M_NoWord:=T.M
  have mg_NoWord:=T.mgC
  have hb':=laid_blk BA.ok.br hin
  have hp':=laid_mem BA.ok.br hin BA.ok.cr
  have hsg:=words_sg hb' hp' hin
  have h20:=words_len20 hb' BA.ok.r9 BA.ok.w9 hin
  have hwl:=wordsF_len (rows:=rows) h7
  have hlt:∀ q∈wordsF rows ts,∀ c∈q.2.2.2,c < 128:=fun q hq c hc=>(hsg q hq c hc).lt
  refine ⟨_,(qss_cons (qs_set (i:=3) sc_check_words.nd rfl (Or.inl rfl) (qe_own D_formed (hr.mono (by decide)) rfl (qa_cons (qv 0) (qa_cons (qv 2) qa_nil)))) (qss_cons (qs_if (qt_cmpR (op_eqD hr.units) (qv 3) (qe_tup qa_nil) (nomark _)) (qss_one (qs_raiseI lets_cx rfl M_NoWord G_NoWord (hr.mono (by decide)) (by rfl) mg_NoWord b_NoWord (qa_cons (qe_own D_letter_of (hr.mono (by decide)) rfl (qa_cons (qe_ix ix_tup (qe_ix ix_tup (qv 2) qe_int (fun _ _=>rfl)) qe_int (fun _ _=>rfl)) qa_nil)) qa_nil))) qss_nil) (qss_one (qs_for PassesOwn.leaving rfl (qi_tup (qv 3)) (qg_tup rfl (qgs_cons (qg_name (i:=4) sc_check_words.nd rfl (Or.inl rfl)) (qgs_cons (qg_name (i:=5) sc_check_words.nd rfl (Or.inl rfl)) (qgs_cons (qg_name (i:=6) sc_check_words.nd rfl (Or.inl rfl)) (qgs_cons (qg_name (i:=7) sc_check_words.nd rfl (Or.inl rfl)) qgs_nil))))) (qss_cons (qs_set (i:=8) sc_check_words.nd rfl (Or.inl rfl) (qe_bm0 PySem.F.plainAttrs_str PySem.F.slot_str_lower PySem.F.type_str_lower mt_loA (qv 7))) (qss_one (qs_if (qt_not (qt_val (qe_meth (qv 1) T_Book.cl m_Book_has G_Book_has (hr.mono (by decide)) b_Book_has .nil pass0 (qa_cons (qv 8) qa_nil)))) (qss_one (qs_raiseI lets_cx rfl M_NoWord G_NoWord (hr.mono (by decide)) (by rfl) mg_NoWord b_NoWord (qa_cons (qv 8) qa_nil))) qss_nil))))))),?_⟩
  refine ⟨_,rfl,_,rfl,b,t,as,ts,r,w,rows,marks,bi,bj,rfl,BA,ht,hL,hin,h0,h7,hl1,fun T1 b1 H1 s1 hT1 hQ1=>?_⟩
  generalize hW:wordsF rows ts=W at hsg h20 hwl hlt hQ1
  refine ⟨_,rfl,by show 0≤sizeLine;decide,fun Z hZ=>?_⟩
  have sZ:Same H1 (upd H1 Z (HO.tup [])):=Same.upd hZ
  have eZ:upd H1 Z (HO.tup []) Z=some (.tup []):=upd_same
  have hT2:=sZ _ _ hT1
  have hQ2:=hQ1.mv sZ
  have s02:=s1.trans sZ
  generalize upd H1 Z (HO.tup [])=H2 at sZ eZ hT2 hQ2 s02 ⊢
  refine ⟨2,.tup (W.map dQ),.tup [],by decide,.tup (SqT.of hT2) (HasDs.ofQ hQ2 hlt),.tup (SqT.of eZ) .nil,_,rfl,?_⟩
  have hbl:=hQ2.len
  cases hWe:W with
  | nil=>
   simp only [List.map_nil,decide_true]
   obtain ⟨g0,e0⟩:=lay_at (hL.mv s02) h0
   have hh:fstT ts=ts[0]:=headD_at h0
   have hs0:=(hin _ (List.getElem_mem h0)).2.2
   refine iteT ⟨_,rfl,t,_,_,.ref as[0],rfl,rfl,SqT.of (s02 _ _ ht),atI_nat (j:=0) (by simp [g0]),as[0],_,_,_,rfl,rfl,SqT.of e0,atI_nat (j:=2) rfl,ts[0].2.2,rfl,hs0.lt,by show 1≤sizeLine;decide,fun a na=>⟨a,_,rfl,upd_same,fun dx ne nd=>⟨rfl,some dx,upd_same,?_⟩⟩⟩
   obtain ⟨k1,k2⟩:=drop_new (q:=.ext (ExcN a (.ref CW) (some dx))) (p:=.ext (XD dx [("word",.str (S ([ts[0].2.2].map PyProof.Rows.lo1)))])) na ne nd
   refine qE _ ?_ dx _ (s02.trans k1) k2
   unfold mwF
   rw [if_pos (hW.trans hWe),hh]
  | cons q0 Wr=>
   have hne:¬(Dt.tup (W.map dQ)=Dt.tup []):=fun z=>by rw [hWe] at z;injection z with z;cases z
   have hmw:mwF rows ws ts=(W.find? (misQ ws)).map lowQ:=by
    unfold mwF
    rw [if_neg (by rw [hW,hWe];simp),hW]
   rw [← hWe]
   rw [decide_eq_false hne]
   refine iteF ⟨_,rfl,T1,rfl,⟨_,SqT.of hT2⟩,for_tup (K:=K) (a:=T1) (xs:=b1.map V.ref) (fun n σ H'=>∃ v4 v5 v6 v7 v8:Option V,σ=[some (.ref b),some (.ref k),some (.ref t),some (.ref T1),v4,v5,v6,v7,v8]∧Same H2 H'∧∀ x∈W.take n,misQ ws x=false)
    ⟨none,none,none,none,none,rfl,Same.refl _,fun x hx=>by simp at hx⟩ (fun n σ H' _ h=>by obtain ⟨_,_,_,_,_,_,sm,_⟩:=h;exact SqT.of (sm _ _ hT2)) ?_ ?_⟩
   ·rintro n x σ H' hx ⟨v4,v5,v6,v7,v8,rfl,sm,hfr⟩
    have hn:n < b1.length:=by have:=(List.getElem?_eq_some_iff.mp hx).1;simpa using this
    have hnW:n < W.length:=by omega
    rw [List.getElem?_map,List.getElem?_eq_getElem hn] at hx
    have hx:V.ref b1[n]=x:=Option.some.inj hx
    subst hx
    have en:=(hQ2.mv sm).at_ n _ _ (List.getElem?_eq_getElem hn) (List.getElem?_eq_getElem hnW)
    have hm:=List.getElem_mem hnW
    have h20n:=h20 _ hm
    refine ⟨b1[n],_,rfl,SqT.of en,rfl,_,_,rfl,_,_,rfl,_,_,rfl,_,_,rfl,rfl,?_⟩
    refine ⟨_,rfl,rfl,W[n].2.2.2,rfl,rfl,by omega,hlt _ hm,?_⟩
    have BK':=BK.mv (s02.trans sm)
    obtain ⟨dk,ek⟩:=BK'.ob
    refine ⟨_,rfl,k,dk,_,rfl,ek,rfl,_,rfl,k,d,ws,_,rfl,BK',_,rfl,?_⟩
    cases hq0:misQ ws W[n] with
    | true=>
     rw [show (!decide (W[n].2.2.2.map PyProof.Rows.lo1∈ws))=true from hq0]
     refine iteT ⟨_,rfl,by show 1≤sizeLine;decide,fun a na=>⟨a,_,rfl,upd_same,fun dx ne nd=>⟨rfl,some dx,upd_same,?_⟩⟩⟩
     obtain ⟨k1,k2⟩:=drop_new (q:=.ext (ExcN a (.ref CW) (some dx))) (p:=.ext (XD dx [("word",.str (S (lowQ W[n])))])) na ne nd
     refine qE _ ?_ dx _ ((s02.trans sm).trans k1) k2
     rw [hmw,find_at hnW hfr hq0];rfl
    | false=>
     rw [show (!decide (W[n].2.2.2.map PyProof.Rows.lo1∈ws))=false from hq0]
     refine iteF ⟨_,_,_,_,_,rfl,sm,fun x hx=>?_⟩
     rw [List.take_add_one,List.getElem?_eq_getElem hnW] at hx
     rcases List.mem_append.mp hx with z | z
     ·exact hfr x z
     ·rw [List.mem_singleton.mp z];exact hq0
   ·rintro σ H' ⟨v4,v5,v6,v7,v8,rfl,sm,hfr⟩
    rw [List.length_map,hbl,List.take_length] at hfr
    exact q (by rw [hmw,find_no hfr];rfl) H' (s02.trans sm)
inductive Vd
 | ok | tak (i j:Nat) | crk | gap (i j:Nat) | apt | lck (t:Nat) | nw (l:List Nat)
inductive VdR (rows:List (List Nat)) (r w bi bj:Nat) (ws:List (List Nat)) (rack:List Nat) (ts:List Trip):Vd→Prop
 | tak {u:Trip} (h:takF rows ts=some u):VdR rows r w bi bj ws rack ts (.tak u.1 u.2.1)
 | crk (h1:takF rows ts=none) (h:(acrB ts || dwnB ts)=false):VdR rows r w bi bj ws rack ts .crk
 | gap {i j:Nat} (h1:takF rows ts=none) (h2:(acrB ts || dwnB ts)=true) (h:GapAt (laidF rows ts) (fstT ts).1 (lastT ts).1 (fstT ts).2.1 (lastT ts).2.1 i j):VdR rows r w bi bj ws rack ts (.gap i j)
 | apt (h1:takF rows ts=none) (h2:(acrB ts || dwnB ts)=true) (h3:NoGap (laidF rows ts) (fstT ts).1 (lastT ts).1 (fstT ts).2.1 (lastT ts).2.1) (h:jnB rows r w bi bj ts=false):VdR rows r w bi bj ws rack ts .apt
 | lck {t:Nat} (h1:takF rows ts=none) (h2:(acrB ts || dwnB ts)=true) (h3:NoGap (laidF rows ts) (fstT ts).1 (lastT ts).1 (fstT ts).2.1 (lastT ts).2.1) (h4:jnB rows r w bi bj ts=true) (h:goF (rack.map fun c=>[c]) (ts.map (·.2.2))=.inl t):VdR rows r w bi bj ws rack ts (.lck t)
 | nw {l:List Nat} (h1:takF rows ts=none) (h2:(acrB ts || dwnB ts)=true) (h3:NoGap (laidF rows ts) (fstT ts).1 (lastT ts).1 (fstT ts).2.1 (lastT ts).2.1) (h4:jnB rows r w bi bj ts=true) (h5:∃ left,goF (rack.map fun c=>[c]) (ts.map (·.2.2))=.inr left) (h:mwF rows ws ts=some l):VdR rows r w bi bj ws rack ts (.nw l)
 | ok (h1:takF rows ts=none) (h2:(acrB ts || dwnB ts)=true) (h3:NoGap (laidF rows ts) (fstT ts).1 (lastT ts).1 (fstT ts).2.1 (lastT ts).2.1) (h4:jnB rows r w bi bj ts=true) (h5:∃ left,goF (rack.map fun c=>[c]) (ts.map (·.2.2))=.inr left) (h:mwF rows ws ts=none):VdR rows r w bi bj ws rack ts .ok
structure VdC where
 lay:Addr
 tak:Addr
 crk:Addr
 gap:Addr
 apt:Addr
 lck:Addr
 nw:Addr
def VdX (c:VdC) (H:Hp) (cls:Value) (dd:Option Addr):Vd→Prop
 | .ok=>False
 | .tak i j=>cls=.ref c.tak∧∃ dx,dd=some dx∧H dx=some (.ext (XD dx (rcF i j)))
 | .crk=>cls=.ref c.crk∧dd=none
 | .gap i j=>cls=.ref c.gap∧∃ dx,dd=some dx∧H dx=some (.ext (XD dx (rcF i j)))
 | .apt=>cls=.ref c.apt∧dd=none
 | .lck t=>cls=.ref c.lck∧∃ dx,dd=some dx∧H dx=some (.ext (XD dx [("tile",.str (S [t]))]))
 | .nw l=>cls=.ref c.nw∧∃ dx,dd=some dx∧H dx=some (.ext (XD dx [("word",.str (S l))]))
theorem rise_pw {cs:List (Nat × Nat)} (h:riseC cs=true):∀ n,(hn:n + 1 < cs.length)→cs[n].1 * 1000 + cs[n].2 < cs[n + 1].1 * 1000 + cs[n + 1].2:=fun n hn=>by
 unfold riseC at h
 rw [List.all_eq_true] at h
 have:=h (cs[n],cs[n + 1]) (by
  refine List.mem_of_getElem? (i:=n) ?_
  rw [List.getElem?_zip_eq_some]
  exact ⟨List.getElem?_eq_getElem (by omega),by rw [List.getElem?_drop,Nat.add_comm 1 n];exact List.getElem?_eq_getElem hn⟩)
 exact of_decide_eq_true this
theorem rise_all {cs:List (Nat × Nat)} (h:riseC cs=true):∀ k n,(hn:n + k + 1 < cs.length)→cs[n].1 * 1000 + cs[n].2 < cs[n + k + 1].1 * 1000 + cs[n + k + 1].2
 | 0,n,hn=>rise_pw h n hn
 | k + 1,n,hn=>Nat.lt_trans (rise_all h k n (by omega)) (rise_pw h (n + k + 1) hn)
theorem line_of {ts:List Trip} {r w:Nat} (w9:w≤9) (hin:∀ t∈ts,inB r w t) (h0:0 < ts.length) (hr:riseC (ts.map cellT)=true) (hs:(acrB ts || dwnB ts)=true):Line1 ts:=by
 have hh:=headD_at h0
 rw [Bool.or_eq_true] at hs
 rcases hs with hs | hs
 ·refine .inl ?_
  unfold acrB at hs
  rw [List.all_eq_true] at hs
  rw [List.pairwise_iff_getElem]
  intro i j hi hj _
  rw [of_decide_eq_true (hs _ (List.getElem_mem hi)),of_decide_eq_true (hs _ (List.getElem_mem hj))]
 ·refine .inr ?_
  unfold dwnB at hs
  rw [List.all_eq_true] at hs
  rw [List.pairwise_iff_getElem]
  intro i j hi hj hij
  have e1:=of_decide_eq_true (hs _ (List.getElem_mem hi))
  have e2:=of_decide_eq_true (hs _ (List.getElem_mem hj))
  have:=rise_all hr (j - i - 1) i (by rw [List.length_map];omega)
  simp only [show i + (j - i - 1) + 1=j by omega,List.getElem_map] at this
  have this:ts[i].1 * 1000 + ts[i].2.1 < ts[j].1 * 1000 + ts[j].2.1:=this
  omega
theorem sgN_of {c:Nat} (h:sgC c):sgN c:=by
 unfold sgC sgB azB upB at h
 simp at h
 exact h
def spCkLay (K : PySem.W.Frag) (C CB : Addr) (c : VdC) : Sp := fun vs H Q E => ∃ (b k d : Addr) (ws : List (List Nat)) (rack : List Nat) (x : V) (r w : Nat) (rows marks : List (List Nat)) (bi bj : Nat), vs = [.ref b, .ref k, .str (S rack), x] ∧ BoardAt C H b r w rows marks bi bj ∧ BookAt CB H k d ws ∧ rack.length ≤ 63 ∧
  ((∃ o, LyD K H x o ∧ layB r w o = false ∧ ∀ H', Same H H' → E (.ref c.lay) none H') ∨
   (∃ (t : Addr) (as : List Addr) (ts : List Trip), x = .ref t ∧ H t = some (.tup (as.map V.ref)) ∧ LayL H as ts ∧ (∀ t ∈ ts, inB r w t) ∧ 0 < ts.length ∧ ts.length ≤ 7 ∧ riseC (ts.map cellT) = true ∧
     (∀ v cls dd H', VdR rows r w bi bj ws rack ts v → VdX c H' cls dd v → Same H H' → E cls dd H') ∧ (VdR rows r w bi bj ws rack ts .ok → ∀ H', Same H H' → Q .non H')))
theorem ok_check_laying {C CB:Addr} {c:VdC} (D:DefAt K mg "check_laying" s_check_laying ["board","book","rack","laying"]) (mg_NoLaying:mg "NoLaying"=some (.ref c.lay)) (X_NoLaying:PySem.W.excIn K c.lay vErr "ValueError.__new__"=true)
  (D_is_laying:Def P w K mg base "is_laying" 4 ["board","thing"] (spLayG K C)) (D_check_free:DefX P w K mg base "check_free" 5 ["board","laying"] (spCkFree C c.tak)) (D_check_straight:DefX P w K mg base "check_straight" 3 ["laying"] (spCkStr c.crk)) (D_check_gaps:DefX P w K mg base "check_gaps" 10 ["board","laying"] (spCkGaps C c.gap))
  (D_check_joined:DefX P w K mg base "check_joined" 7 ["board","laying"] (spCkJoin C c.apt)) (D_left_of:DefX P w K mg base "left_of" 3 ["rack","signs"] (spLeft c.lck)) (D_check_words:DefX P w K mg base "check_words" 12 ["board","book","laying"] (spCkWords C CB c.nw)):DefX P w K mg base "check_laying" 14 ["board","book","rack","laying"] (spCkLay K C CB c):=by
 refine D.qokX sc_check_laying (fun vs H Q E h=>?_) (fun f cdv A outer s H vs Q E hr h=>?_)
 ·obtain ⟨b,k,d,ws,rack,x,r,w,rows,marks,bi,bj,rfl,_⟩:=h
  rfl
 ·obtain ⟨b,k,d,ws,rack,x,r,w,rows,marks,bi,bj,rfl,BA,BK,h63,h⟩:=h
  refine ⟨_,(qss_cons (qs_if (qt_not (qt_val (qe_own D_is_laying (hr.mono (by decide)) rfl (qa_cons (qv 0) (qa_cons (qv 3) qa_nil))))) (qss_one (qs_raise lets_cx rfl rfl (by rfl) mg_NoLaying X_NoLaying (qa_cons (qe_strS [110,111,32,108,97,121,105,110,103,32,102,111,114,32,116,104,105,115,32,98,111,97,114,100] (by decide +kernel)) qa_nil))) qss_nil) (qss_cons (qs_expr (qe_ownS D_check_free (hr.mono (by decide)) rfl pass_cx.all (qa_cons (qv 0) (qa_cons (qv 3) qa_nil)))) (qss_cons (qs_expr (qe_ownS D_check_straight (hr.mono (by decide)) rfl pass_cx.all (qa_cons (qv 3) qa_nil))) (qss_cons (qs_expr (qe_ownS D_check_gaps (hr.mono (by decide)) rfl pass_cx.all (qa_cons (qv 0) (qa_cons (qv 3) qa_nil)))) (qss_cons (qs_expr (qe_ownS D_check_joined (hr.mono (by decide)) rfl pass_cx.all (qa_cons (qv 0) (qa_cons (qv 3) qa_nil)))) (qss_cons (qs_expr (qe_ownS D_left_of (hr.mono (by decide)) rfl pass_cx.all (qa_cons (qv 2) (qa_cons (qe_bm PySem.F.plainAttrs_str PySem.F.slot_str_join PySem.F.type_str_join mt_join (qe_strS [] (by decide +kernel)) (qa_cons (qe_compG (ns:=["row","column","sign"]) rfl (CompG.of ["board","book","rack","laying"] [] (by kernel_rfl)) (qi_tup (qv 3)) (fun _ _ _ _ _=>(tg_tup3 K rfl (show (["row","column","sign","board","book","rack","laying"]:List Str).Nodup by decide +kernel) rfl rfl rfl (by rfl) (by rfl) (by rfl))) (fun _ _ _ _ _=>qts_nil) (fun _ _ _ _ _=>(qv 2))) qa_nil)) qa_nil)))) (qss_one (qs_expr (qe_ownS D_check_words (hr.mono (by decide)) rfl pass_cx.all (qa_cons (qv 0) (qa_cons (qv 1) (qa_cons (qv 3) qa_nil)))))))))))),?_⟩
  rcases h with ⟨o,hD,hB,qE⟩ | ⟨t,as,ts,rfl,ht,hL,hin,h0,h7,hri,qE,q⟩
  ·refine ⟨_,rfl,_,rfl,b,x,o,r,w,rows,marks,bi,bj,rfl,BA,hD,fun H1 s1=>⟨_,rfl,?_⟩⟩
   rw [hB]
   exact iteT ⟨by show 1≤sizeLine;decide,qE H1 s1⟩
  ·have hal:=hL.len
   have hB:layB r w (some (ts.map mkT))=true:=by
    unfold layB
    simp only
    rw [cellO_mk,List.length_map,decide_eq_true (show 1≤ts.length∧ts.length≤7 by omega),show riseC (ts.map fun t=>(t.1,t.2.1))=true from hri,List.all_map]
    have:ts.all (tripB r w ∘ mkT)=true:=List.all_eq_true.mpr fun t ht=>tripB_of (hin t ht)
    rw [this];rfl
   refine ⟨_,rfl,_,rfl,b,.ref t,some (ts.map mkT),r,w,rows,marks,bi,bj,rfl,BA,.tup ht (Prts.of_lay hL) (by rw [List.length_map];omega),fun H1 s1=>⟨_,rfl,?_⟩⟩
   rw [hB]
   refine iteF ⟨True.intro,_,rfl,_,rfl,b,t,as,ts,r,w,rows,marks,bi,bj,rfl,BA.mv s1,s1 _ _ ht,hL.mv s1,hin,fun u hu dx H' s' hd=>qE _ _ _ H' (.tak hu) ⟨rfl,dx,rfl,hd⟩ (s1.trans s'),fun v1 H2 s2=>?_⟩
   have s02:=s1.trans s2
   refine ⟨True.intro,_,rfl,t,as,ts,rfl,s02 _ _ ht,hL.mv s02,h0,h7,fun e H' s'=>qE _ _ _ H' (.crk v1 e) ⟨rfl,rfl⟩ (s02.trans s'),fun v2 H3 s3=>?_⟩
   have s03:=s02.trans s3
   refine ⟨True.intro,_,rfl,_,rfl,b,t,as,ts,r,w,rows,marks,bi,bj,rfl,BA.mv s03,s03 _ _ ht,hL.mv s03,hin,h0,fun i j e dx H' s' hd=>qE _ _ _ H' (.gap v1 v2 e) ⟨rfl,dx,rfl,hd⟩ (s03.trans s'),fun v3 H4 s4=>?_⟩
   have s04:=s03.trans s4
   refine ⟨True.intro,_,rfl,_,rfl,b,t,as,ts,r,w,rows,marks,bi,bj,rfl,BA.mv s04,s04 _ _ ht,hL.mv s04,h7,fun e H' s'=>qE _ _ _ H' (.apt v1 v2 v3 e) ⟨rfl,rfl⟩ (s04.trans s'),fun v4 H5 s5=>?_⟩
   have s05:=s04.trans s5
   have ht5:=s05 _ _ ht
   refine ⟨True.intro,_,rfl,rfl,_,rfl,t,rfl,⟨_,SqT.of ht5⟩,fun N hN=>compG3_tup (K:=K) (KT:=K) (a:=t) (f:=hideS [] 0) (tt:=tYes) (xs:=as.map V.ref) (fun n ys H6=>ys=Ts (ones ((ts.take n).map (·.2.2)))∧H6 N=some (.lst ys)∧Same H5 H6)
    ⟨rfl,upd_same,Same.upd hN⟩ (fun n ys H6 _ h=>SqT.of (h.2.2 _ _ ht5)) ?_ ?_⟩
   ·rintro n x ys H6 hx ⟨rfl,hN6,sm6⟩
    have hn:n < as.length:=by have:=(List.getElem?_eq_some_iff.mp hx).1;simpa using this
    have hnt:n < ts.length:=by omega
    rw [List.getElem?_map,List.getElem?_eq_getElem hn] at hx
    have hx:V.ref as[n]=x:=Option.some.inj hx
    obtain ⟨_,en⟩:=lay_at (hL.mv (s05.trans sm6)) hnt
    refine turn3 hx.symm (SqT.of en) ?_
    refine ⟨_,rfl,hN6,?_,Nxt.mk (by rw [List.length_map];exact hn) ⟨?_,upd_same,sm6.upd' hN⟩⟩
    ·rw [List.length_map,List.length_map,List.length_map,List.length_take];exact small1000 (by omega)
    ·rw [take_snoc (List.getElem?_eq_getElem hnt)]
     simp [Ts,ones]
   ·rintro ys H6 ⟨rfl,hN6,sm6⟩
    rw [List.length_map,hal,List.take_length] at hN6
    have s06:=s05.trans sm6
    refine ⟨N,ones (ts.map (·.2.2)),rfl,rfl,SqL.of hN6,by rw [flat1,List.length_map];omega,?_⟩
    rw [flat1]
    refine ⟨rack,ts.map (·.2.2),rfl,h63,by rw [List.length_map];omega,fun c hc=>?_,fun tl e dx H' s' hd=>qE _ _ _ H' (.lck v1 v2 v3 v4 e) ⟨rfl,dx,rfl,hd⟩ (s06.trans s'),fun left v5 ws' H7 s7 _ _=>?_⟩
    ·obtain ⟨u,hu,rfl⟩:=List.mem_map.mp hc
     exact sgN_of (hin u hu).2.2
    have s07:=s06.trans s7
    refine ⟨True.intro,_,rfl,_,rfl,_,rfl,b,k,d,t,ws,as,ts,r,w,rows,marks,bi,bj,rfl,BA.mv s07,BK.mv s07,s07 _ _ ht,hL.mv s07,hin,h0,h7,line_of BA.ok.w9 hin h0 hri v2,fun l e dx H' s' hd=>qE _ _ _ H' (.nw v1 v2 v3 v4 ⟨left,v5⟩ e) ⟨rfl,dx,rfl,hd⟩ (s07.trans s'),fun v6 H8 s8=>?_⟩
    exact q (.ok v1 v2 v3 v4 ⟨left,v5⟩ v6) H8 (s07.trans s8)
end
end My
end
section
set_option Elab.async false
set_option linter.all false
set_option maxRecDepth 100000
set_option maxHeartbeats 2000000
namespace My
open PySem L2
section
variable {P:Program} {w:World} {K:PySem.W.Frag} {mg:Str→Option Value} {base:Heap}
theorem DictKn.mv {H H':Hp} {dd:Option Addr} (h:DictKn H dd) (s:Same H H'):DictKn H' dd:=by
 cases dd with
 | none=>trivial
 | some d=>obtain ⟨o,e⟩:=h;exact ⟨o,s _ _ e⟩
structure ClsIx (K:PySem.W.Frag) (cs os:List Addr) (C:Addr) (i:Nat):Prop where
 is:ExcIs K C
 val:PySem.W.kitOne K (.ref C) (.type "ValueError")=some true
 ix:∀ j D,cs[j]?=some D→PySem.W.kitOne K (.ref C) (.ref D)=some (decide (j=i))
 no:PySem.W.kitAny K (.ref C) (os.map Value.ref)=some false
 lt:i < 7
def bits (j:Nat):List Bool:=[decide (0=j),decide (1=j),decide (2=j),decide (3=j),decide (4=j),decide (5=j),decide (6=j)]
theorem bits_count:∀ j,j < 7→((bits j).filter id).length=1:=by decide
theorem bits_at:∀ j,j < 7→(bits j)[j]?=some true∧∀ m,m < j→(bits j)[m]?=some false:=by
 intro j hj
 have h1:∀ j,j < 7→(bits j)[j]?=some true:=by decide
 have h2:∀ j,j < 7→∀ m,m < 7→m < j→(bits j)[m]?=some false:=by decide
 exact ⟨h1 j hj,fun m hm=>h2 j hj m (by omega) hm⟩
def spClass (K:PySem.W.Frag) (cs os:List Addr):Sp:=fun vs H Q _=>∃ (a C:Addr) (dd:Option Addr) (j:Nat),vs=[.ref a]∧H a=some (.ext (ExcO a (.ref C) dd))∧DictKn H dd∧ClsIx K cs os C j∧∀ H',Same H H'→Q (.int j) H'
theorem ok_class {C_NoLaying C_Taken C_Crooked C_Gap C_Apart C_Lacking C_NoWord C_NoBack C_NoBoard C_NoDeed C_NoRow C_NoText C_Over C_TooFew C_Twice:Addr} (D:DefAt K mg "_law_class" s_class ["_law_error"]) (n_len:mg "len"=none) (n_isinstance:mg "isinstance"=none) (n_ValueError:mg "ValueError"=none) (mg_NoLaying:mg "NoLaying"=some (.ref C_NoLaying)) (mg_Taken:mg "Taken"=some (.ref C_Taken)) (mg_Crooked:mg "Crooked"=some (.ref C_Crooked)) (mg_Gap:mg "Gap"=some (.ref C_Gap)) (mg_Apart:mg "Apart"=some (.ref C_Apart)) (mg_Lacking:mg "Lacking"=some (.ref C_Lacking)) (mg_NoWord:mg "NoWord"=some (.ref C_NoWord)) (mg_NoBack:mg "NoBack"=some (.ref C_NoBack)) (mg_NoBoard:mg "NoBoard"=some (.ref C_NoBoard)) (mg_NoDeed:mg "NoDeed"=some (.ref C_NoDeed)) (mg_NoRow:mg "NoRow"=some (.ref C_NoRow)) (mg_NoText:mg "NoText"=some (.ref C_NoText)) (mg_Over:mg "Over"=some (.ref C_Over)) (mg_TooFew:mg "TooFew"=some (.ref C_TooFew)) (mg_Twice:mg "Twice"=some (.ref C_Twice)):Def P w K mg base "_law_class" 1 ["_law_error"] (spClass K [C_NoLaying,C_Taken,C_Crooked,C_Gap,C_Apart,C_Lacking,C_NoWord] [C_NoBack,C_NoBoard,C_NoDeed,C_NoRow,C_NoText,C_Over,C_TooFew,C_Twice]):=by
 refine D.qok sc_class (fun vs H Q E h=>?_) (fun f cdv A outer s H vs Q E hr h=>?_)
 ·obtain ⟨a,C,dd,j,rfl,_⟩:=h
  rfl
 ·obtain ⟨a,C,dd,j,rfl,ha,hdk,cx,q⟩:=h
  have is:=cx.is
  have hj:=cx.lt
  have k_NoLaying:=cx.ix 0 C_NoLaying rfl
  have k_Taken:=cx.ix 1 C_Taken rfl
  have k_Crooked:=cx.ix 2 C_Crooked rfl
  have k_Gap:=cx.ix 3 C_Gap rfl
  have k_Apart:=cx.ix 4 C_Apart rfl
  have k_Lacking:=cx.ix 5 C_Lacking rfl
  have k_NoWord:=cx.ix 6 C_NoWord rfl
  refine ⟨_,(qss_cons (qs_set (i:=1) sc_class.nd rfl (Or.inl rfl) (qe_lst (qa_cons (qe_callB call_isinstX (by rfl) n_isinstance PyProof.Rows.boot_isinstance (qa_cons (qv 0) (qa_cons (qe_glob (v:=.ref _) (by rfl) mg_NoLaying rfl) qa_nil))) (qa_cons (qe_callB call_isinstX (by rfl) n_isinstance PyProof.Rows.boot_isinstance (qa_cons (qv 0) (qa_cons (qe_glob (v:=.ref _) (by rfl) mg_Taken rfl) qa_nil))) (qa_cons (qe_callB call_isinstX (by rfl) n_isinstance PyProof.Rows.boot_isinstance (qa_cons (qv 0) (qa_cons (qe_glob (v:=.ref _) (by rfl) mg_Crooked rfl) qa_nil))) qa_nil))))) (qss_cons (qs_set (i:=1) sc_class.nd rfl (Or.inl rfl) (qe_op op_cat (qv 1) (qe_lst (qa_cons (qe_callB call_isinstX (by rfl) n_isinstance PyProof.Rows.boot_isinstance (qa_cons (qv 0) (qa_cons (qe_glob (v:=.ref _) (by rfl) mg_Gap rfl) qa_nil))) (qa_cons (qe_callB call_isinstX (by rfl) n_isinstance PyProof.Rows.boot_isinstance (qa_cons (qv 0) (qa_cons (qe_glob (v:=.ref _) (by rfl) mg_Apart rfl) qa_nil))) (qa_cons (qe_callB call_isinstX (by rfl) n_isinstance PyProof.Rows.boot_isinstance (qa_cons (qv 0) (qa_cons (qe_glob (v:=.ref _) (by rfl) mg_Lacking rfl) qa_nil))) qa_nil)))))) (qss_cons (qs_set (i:=1) sc_class.nd rfl (Or.inl rfl) (qe_op op_cat (qv 1) (qe_lst (qa_cons (qe_callB call_isinstX (by rfl) n_isinstance PyProof.Rows.boot_isinstance (qa_cons (qv 0) (qa_cons (qe_glob (v:=.ref _) (by rfl) mg_NoWord rfl) qa_nil))) qa_nil)))) (qss_cons (qs_if (qt_val (qe_callB call_isinstXT (by rfl) n_isinstance PyProof.Rows.boot_isinstance (qa_cons (qv 0) (qa_cons (qe_tup (qa_cons (qe_glob (v:=.ref _) (by rfl) mg_NoBack rfl) (qa_cons (qe_glob (v:=.ref _) (by rfl) mg_NoBoard rfl) (qa_cons (qe_glob (v:=.ref _) (by rfl) mg_NoDeed rfl) (qa_cons (qe_glob (v:=.ref _) (by rfl) mg_NoRow rfl) (qa_cons (qe_glob (v:=.ref _) (by rfl) mg_NoText rfl) (qa_cons (qe_glob (v:=.ref _) (by rfl) mg_Over rfl) (qa_cons (qe_glob (v:=.ref _) (by rfl) mg_TooFew rfl) (qa_cons (qe_glob (v:=.ref _) (by rfl) mg_Twice rfl) qa_nil))))))))) qa_nil)))) (qss_one (qs_ret (qe_un un_neg qe_int))) qss_nil) (qss_cons (qs_if (QW.qt (qw_or (qt_not (qt_val (qe_callB call_isinstX (by rfl) n_isinstance PyProof.Rows.boot_isinstance (qa_cons (qv 0) (qa_cons (qe_bltn (v:=.ty "ValueError") (by rfl) n_ValueError boot_ValueError rfl) qa_nil))))) (qw_or1 (qt_cmpR op_ne (qe_callB call_len_seq (by rfl) n_len PySem.boot_len (qa_cons (qe_compG (ns:=["_law_one"]) rfl (CompG.of ["_law_error","_law_some"] [] (by kernel_rfl)) (qi_list (qv 1)) (fun _ _ _ _ _=>(tg_name (show (["_law_one","_law_error","_law_some"]:List Str).Nodup by decide +kernel) rfl (by rfl))) (fun _ _ _ _ _=>(qts_one (qt_val (qv 0)))) (fun _ _ _ _ _=>(qv 0))) qa_nil)) qe_int (nomark _))))) (qss_one (qs_ret (qe_un un_neg qe_int))) qss_nil) (qss_one (qs_ret (qe_bm PySem.F.plainAttrs_list PySem.F.slot_list_index PySem.F.type_list_index mt_indexB (qv 1) (qa_cons qe_bl qa_nil))))))))),?_⟩
  refine ⟨_,rfl,a,C,.ref C_NoLaying,.ref C_NoLaying,dd,_,rfl,.inl ⟨C_NoLaying,rfl,rfl⟩,ha,hdk,is,k_NoLaying,_,rfl,a,C,.ref C_Taken,.ref C_Taken,dd,_,rfl,.inl ⟨C_Taken,rfl,rfl⟩,ha,hdk,is,k_Taken,_,rfl,a,C,.ref C_Crooked,.ref C_Crooked,dd,_,rfl,.inl ⟨C_Crooked,rfl,rfl⟩,ha,hdk,is,k_Crooked,by show 3≤sizeLine;decide,fun M0 hM0=>?_⟩
  have t0:Same H (upd H M0 (HO.lst [V.bl (decide (0=j)),V.bl (decide (1=j)),V.bl (decide (2=j))])):=Same.upd hM0
  have f0:upd H M0 (HO.lst [V.bl (decide (0=j)),V.bl (decide (1=j)),V.bl (decide (2=j))]) M0=some (.lst [V.bl (decide (0=j)),V.bl (decide (1=j)),V.bl (decide (2=j))]):=upd_same
  have s0:=t0
  generalize upd H M0 (HO.lst [V.bl (decide (0=j)),V.bl (decide (1=j)),V.bl (decide (2=j))])=G0 at t0 f0 s0 ⊢
  refine ⟨_,rfl,_,rfl,a,C,.ref C_Gap,.ref C_Gap,dd,_,rfl,.inl ⟨C_Gap,rfl,rfl⟩,(s0 _ _ ha),(DictKn.mv hdk s0),is,k_Gap,_,rfl,a,C,.ref C_Apart,.ref C_Apart,dd,_,rfl,.inl ⟨C_Apart,rfl,rfl⟩,(s0 _ _ ha),(DictKn.mv hdk s0),is,k_Apart,_,rfl,a,C,.ref C_Lacking,.ref C_Lacking,dd,_,rfl,.inl ⟨C_Lacking,rfl,rfl⟩,(s0 _ _ ha),(DictKn.mv hdk s0),is,k_Lacking,by show 3≤sizeLine;decide,fun M1 hM1=>?_⟩
  have t1:Same G0 (upd G0 M1 (HO.lst [V.bl (decide (3=j)),V.bl (decide (4=j)),V.bl (decide (5=j))])):=Same.upd hM1
  have f1:upd G0 M1 (HO.lst [V.bl (decide (3=j)),V.bl (decide (4=j)),V.bl (decide (5=j))]) M1=some (.lst [V.bl (decide (3=j)),V.bl (decide (4=j)),V.bl (decide (5=j))]):=upd_same
  have u1:=t1 _ _ f0
  have s1a:=s0.trans t1
  generalize upd G0 M1 (HO.lst [V.bl (decide (3=j)),V.bl (decide (4=j)),V.bl (decide (5=j))])=G1 at t1 f1 u1 s1a ⊢
  refine ⟨M0,M1,_,_,rfl,rfl,u1,f1,by show 3 + 3≤sizeLine;decide,fun L1 hL1=>?_⟩
  have v1:Same G1 (upd G1 L1 (HO.lst ([V.bl (decide (0=j)),V.bl (decide (1=j)),V.bl (decide (2=j))] ++ [V.bl (decide (3=j)),V.bl (decide (4=j)),V.bl (decide (5=j))]))):=Same.upd hL1
  have e1:upd G1 L1 (HO.lst ([V.bl (decide (0=j)),V.bl (decide (1=j)),V.bl (decide (2=j))] ++ [V.bl (decide (3=j)),V.bl (decide (4=j)),V.bl (decide (5=j))])) L1=some (.lst ([V.bl (decide (0=j)),V.bl (decide (1=j)),V.bl (decide (2=j))] ++ [V.bl (decide (3=j)),V.bl (decide (4=j)),V.bl (decide (5=j))])):=upd_same
  have s1:=s1a.trans v1
  generalize upd G1 L1 (HO.lst ([V.bl (decide (0=j)),V.bl (decide (1=j)),V.bl (decide (2=j))] ++ [V.bl (decide (3=j)),V.bl (decide (4=j)),V.bl (decide (5=j))]))=K1 at v1 e1 s1 ⊢
  refine ⟨_,rfl,_,rfl,a,C,.ref C_NoWord,.ref C_NoWord,dd,_,rfl,.inl ⟨C_NoWord,rfl,rfl⟩,(s1 _ _ ha),(DictKn.mv hdk s1),is,k_NoWord,by show 1≤sizeLine;decide,fun M2 hM2=>?_⟩
  have t2:Same K1 (upd K1 M2 (HO.lst [V.bl (decide (6=j))])):=Same.upd hM2
  have f2:upd K1 M2 (HO.lst [V.bl (decide (6=j))]) M2=some (.lst [V.bl (decide (6=j))]):=upd_same
  have u2:=t2 _ _ e1
  have s2a:=s1.trans t2
  generalize upd K1 M2 (HO.lst [V.bl (decide (6=j))])=G2 at t2 f2 u2 s2a ⊢
  refine ⟨L1,M2,_,_,rfl,rfl,u2,f2,by show 6 + 1≤sizeLine;decide,fun L2 hL2=>?_⟩
  have v2:Same G2 (upd G2 L2 (HO.lst (([V.bl (decide (0=j)),V.bl (decide (1=j)),V.bl (decide (2=j))] ++ [V.bl (decide (3=j)),V.bl (decide (4=j)),V.bl (decide (5=j))]) ++ [V.bl (decide (6=j))]))):=Same.upd hL2
  have e2:upd G2 L2 (HO.lst (([V.bl (decide (0=j)),V.bl (decide (1=j)),V.bl (decide (2=j))] ++ [V.bl (decide (3=j)),V.bl (decide (4=j)),V.bl (decide (5=j))]) ++ [V.bl (decide (6=j))])) L2=some (.lst (([V.bl (decide (0=j)),V.bl (decide (1=j)),V.bl (decide (2=j))] ++ [V.bl (decide (3=j)),V.bl (decide (4=j)),V.bl (decide (5=j))]) ++ [V.bl (decide (6=j))])):=upd_same
  have s2:=s2a.trans v2
  generalize upd G2 L2 (HO.lst (([V.bl (decide (0=j)),V.bl (decide (1=j)),V.bl (decide (2=j))] ++ [V.bl (decide (3=j)),V.bl (decide (4=j)),V.bl (decide (5=j))]) ++ [V.bl (decide (6=j))]))=K2 at v2 e2 s2 ⊢
  have eb:K2 L2=some (.lst ((bits j).map V.bl)):=e2
  refine ⟨_,rfl,by show 8≤sizeLine;decide,fun TP hTP=>?_⟩
  have v3:Same K2 (upd K2 TP (HO.tup [V.ref C_NoBack,V.ref C_NoBoard,V.ref C_NoDeed,V.ref C_NoRow,V.ref C_NoText,V.ref C_Over,V.ref C_TooFew,V.ref C_Twice])):=Same.upd hTP
  have e3:upd K2 TP (HO.tup [V.ref C_NoBack,V.ref C_NoBoard,V.ref C_NoDeed,V.ref C_NoRow,V.ref C_NoText,V.ref C_Over,V.ref C_TooFew,V.ref C_Twice]) TP=some (.tup ([C_NoBack,C_NoBoard,C_NoDeed,C_NoRow,C_NoText,C_Over,C_TooFew,C_Twice].map V.ref)):=upd_same
  have s3:=s2.trans v3
  have eb3:=v3 _ _ eb
  generalize upd K2 TP (HO.tup [V.ref C_NoBack,V.ref C_NoBoard,V.ref C_NoDeed,V.ref C_NoRow,V.ref C_NoText,V.ref C_Over,V.ref C_TooFew,V.ref C_Twice])=K3 at v3 e3 s3 eb3 ⊢
  refine ⟨a,C,TP,_,dd,false,rfl,s3 _ _ ha,DictKn.mv hdk s3,is,e3,cx.no,_,rfl,iteF ?_⟩
  refine ⟨_,rfl,a,C,.ty "ValueError",.type "ValueError",dd,true,rfl,.inr ⟨_,rfl,rfl⟩,s3 _ _ ha,DictKn.mv hdk s3,is,cx.val,_,rfl,iteF ?_⟩
  refine ⟨_,rfl,L2,rfl,⟨_,SqL.of eb3⟩,fun N hN=>compG1_list (K:=K) (a:=L2) (f:=hideS [] 0) (tt:=tB (tVar 0)) (te:=tVar 0) (xs:=(bits j).map V.bl) (fun n ys H5=>ys=(((bits j).take n).filter id).map V.bl∧H5 N=some (.lst ys)∧Same K3 H5)
   ⟨rfl,upd_same,Same.upd hN⟩ (fun n ys H5 _ h=>SqL.of (h.2.2 _ _ eb3)) ?_ ?_⟩
  ·rintro n x ys H5 hx ⟨rfl,hN5,sm5⟩
   have hn:n < ((bits j).map V.bl).length:=(List.getElem?_eq_some_iff.mp hx).1
   rw [List.getElem?_map] at hx
   obtain ⟨b,hb,rfl⟩:=Option.map_eq_some_iff.mp hx
   have hn7:n < 7:=hn
   refine ⟨_,rfl,_,rfl,?_⟩
   have et:(((bits j).take (n + 1)).filter id).map V.bl=(((bits j).take n).filter id).map V.bl ++ ([b].filter id).map V.bl:=by rw [List.take_add_one,hb,List.filter_append,List.map_append];rfl
   cases b with
   | true=>
    refine iteT ⟨_,rfl,hN5,?_,Nxt.mk hn ⟨et.symm,upd_same,sm5.upd' hN⟩⟩
    rw [List.length_map]
    exact small1000 (Nat.le_trans (List.length_filter_le _ _) (by rw [List.length_take];omega))
   | false=>
    refine iteF (Nxt.mk hn ⟨?_,hN5,sm5⟩)
    rw [et];simp
  ·rintro ys H5 ⟨rfl,hN5,sm5⟩
   rw [List.length_map,List.take_length] at hN5
   refine ⟨N,_,rfl,.inl (SqL.of hN5),rfl,_,rfl,?_⟩
   rw [List.length_map]
   obtain ⟨b1,b2⟩:=bits_at j hj
   refine iteNS (by rw [bits_count j hj];rfl) ?_
   have eb5:=sm5 _ _ eb3
   exact ⟨_,rfl,.inl ⟨rfl,_,SqL.of eb5⟩,L2,bits j,j,rfl,rfl,eb5,b1,b2,by show 7≤1000;decide,q _ (s3.trans sm5)⟩
theorem VdX.mvS {c:VdC} {H H':Hp} {cls:Value} {dd:Option Addr} {v:Vd} (h:VdX c H cls dd v) (s:Same H H'):VdX c H' cls dd v:=by
 cases v with
 | ok=>exact h
 | tak i j=>exact ⟨h.1,let ⟨dx,e,k⟩:=h.2;⟨dx,e,s _ _ k⟩⟩
 | crk=>exact h
 | gap i j=>exact ⟨h.1,let ⟨dx,e,k⟩:=h.2;⟨dx,e,s _ _ k⟩⟩
 | apt=>exact h
 | lck t=>exact ⟨h.1,let ⟨dx,e,k⟩:=h.2;⟨dx,e,s _ _ k⟩⟩
 | nw l=>exact ⟨h.1,let ⟨dx,e,k⟩:=h.2;⟨dx,e,s _ _ k⟩⟩
structure VdM (K:PySem.W.Frag) (c:VdC) (CR:Addr):Prop where
 lay:PySem.W.exmOne K (.ref c.lay) (.ref CR)=some true
 tak:PySem.W.exmOne K (.ref c.tak) (.ref CR)=some true
 crk:PySem.W.exmOne K (.ref c.crk) (.ref CR)=some true
 gap:PySem.W.exmOne K (.ref c.gap) (.ref CR)=some true
 apt:PySem.W.exmOne K (.ref c.apt) (.ref CR)=some true
 lck:PySem.W.exmOne K (.ref c.lck) (.ref CR)=some true
 nw:PySem.W.exmOne K (.ref c.nw) (.ref CR)=some true
theorem VdX.match_ {c:VdC} {CR:Addr} (M:VdM K c CR) {H:Hp} {cls:Value} {dd:Option Addr} {v:Vd} (h:VdX c H cls dd v):PySem.W.exmOne K cls (.ref CR)=some true:=by
 cases v with
 | ok=>exact h.elim
 | tak i j=>rw [h.1];exact M.tak
 | crk=>rw [h.1];exact M.crk
 | gap i j=>rw [h.1];exact M.gap
 | apt=>rw [h.1];exact M.apt
 | lck t=>rw [h.1];exact M.lck
 | nw l=>rw [h.1];exact M.nw
def spCaught (K : PySem.W.Frag) (C CB : Addr) (c : VdC) : Sp := fun vs H Q _ => ∃ (b k d : Addr) (ws : List (List Nat)) (rack : List Nat) (x : V) (r w : Nat) (rows marks : List (List Nat)) (bi bj : Nat), vs = [.ref b, .ref k, .str (S rack), x] ∧ BoardAt C H b r w rows marks bi bj ∧ BookAt CB H k d ws ∧ rack.length ≤ 63 ∧
  ((∃ o, LyD K H x o ∧ layB r w o = false ∧ ∀ (a : Addr) (H' : Hp), Same H H' → H' a = some (.ext (ExcO a (.ref c.lay) none)) → Q (.ref a) H') ∨
   (∃ (t : Addr) (as : List Addr) (ts : List Trip), x = .ref t ∧ H t = some (.tup (as.map V.ref)) ∧ LayL H as ts ∧ (∀ t ∈ ts, inB r w t) ∧ 0 < ts.length ∧ ts.length ≤ 7 ∧ riseC (ts.map cellT) = true ∧
     (∀ v cls dd a H', VdR rows r w bi bj ws rack ts v → VdX c H' cls dd v → Same H H' → H' a = some (.ext (ExcO a cls dd)) → Q (.ref a) H') ∧ (VdR rows r w bi bj ws rack ts .ok → ∀ H', Same H H' → Q .non H')))
theorem ok_caught {C CB CR:Addr} {c:VdC} (D:DefAt K mg "_law_caught" s_caught ["_law_board","_law_book","_law_rack_here","_law_laying"]) (mg_RackError:mg "RackError"=some (.ref CR)) (M:VdM K c CR) (D_check_laying:DefX P w K mg base "check_laying" 14 ["board","book","rack","laying"] (spCkLay K C CB c)) :
  Def P w K mg base "_law_caught" 16 ["_law_board","_law_book","_law_rack_here","_law_laying"] (spCaught K C CB c):=by
 refine D.qok sc_caught (fun vs H Q E h=>?_) (fun f cdv A outer s H vs Q E hr h=>?_)
 ·obtain ⟨b,k,d,ws,rack,x,r,w,rows,marks,bi,bj,rfl,_⟩:=h
  rfl
 ·obtain ⟨b,k,d,ws,rack,x,r,w,rows,marks,bi,bj,rfl,BA,BK,h63,h⟩:=h
  refine ⟨_,(qss_cons (qs_set (i:=4) sc_caught.nd rfl (Or.inl rfl) qe_non) (qss_cons (qs_try rfl rfl (by rfl) mg_RackError sc_caught.nd (i:=5) rfl (by rfl) (fun pn xe E0 σ0 hp hx=>(qss_one (qs_set (i:=4) sc_caught.nd rfl (Or.inl rfl) (qe_ownS D_check_laying (hr.mono (by decide)) rfl hx (qa_cons (qv 0) (qa_cons (qv 1) (qa_cons (qv 2) (qa_cons (qv 3) qa_nil)))))))) (fun _=>(qss_one (qs_set (i:=4) sc_caught.nd rfl (Or.inl rfl) (qv 5))))) (qss_one (qs_ret (qv 4))))),?_⟩
  rcases h with ⟨o,hD,hB,q⟩ | ⟨t,as,ts,rfl,ht,hL,hin,h0,h7,hri,qE,q⟩
  ·refine ⟨fun cls dd H'=>cls=.ref c.lay∧dd=none∧Same H H',?_,?_⟩
   ·exact ⟨rfl,_,rfl,_,rfl,_,rfl,_,rfl,b,k,d,ws,rack,x,r,w,rows,marks,bi,bj,rfl,BA,BK,h63,.inl ⟨o,hD,hB,fun H' s'=>⟨rfl,rfl,s'⟩⟩⟩
   ·rintro a cls dd H' ⟨rfl,rfl,s3⟩ na
    exact ⟨M.lay,_,rfl,_,rfl,q a _ (s3.trans (Same.upd na)) upd_same⟩
  ·refine ⟨fun cls dd H'=>∃ v,VdR rows r w bi bj ws rack ts v∧VdX c H' cls dd v∧Same H H',?_,?_⟩
   ·refine ⟨rfl,_,rfl,_,rfl,_,rfl,_,rfl,b,k,d,ws,rack,.ref t,r,w,rows,marks,bi,bj,rfl,BA,BK,h63,.inr ⟨t,as,ts,rfl,ht,hL,hin,h0,h7,hri,fun v cls dd H' h1 h2 h3=>⟨v,h1,h2,h3⟩,fun h1 H' s'=>?_⟩⟩
    exact ⟨_,rfl,q h1 H' s'⟩
   ·rintro a cls dd H' ⟨v,h1,h2,s3⟩ na
    exact ⟨h2.match_ M,_,rfl,_,rfl,qE v cls dd a _ h1 (h2.mvS (Same.upd na)) (s3.trans (Same.upd na)) upd_same⟩
end
end My
end
section
set_option Elab.async false
set_option linter.all false
set_option maxRecDepth 100000
set_option maxHeartbeats 2000000
namespace My
open PySem L2
section
variable {P:Program} {w:World} {K:PySem.W.Frag} {mg:Str→Option Value} {base:Heap}
def around4 (i j:Int):List (Int × Int):=[(i - 1,j),(i,j - 1),(i,j + 1),(i + 1,j)]
theorem near_eq (rows:List (List Nat)) (r w:Nat) (i j:Int):(around4 i j).any (tkC rows r w)=nearB rows r w i j:=by
 unfold nearB around4 around
 simp only [List.any_cons,List.any_nil,Bool.or_false]
 cases tkC rows r w (i - 1,j) <;> cases tkC rows r w (i,j - 1) <;> cases tkC rows r w (i,j + 1) <;> cases tkC rows r w (i + 1,j) <;> rfl
def spNearS:Sp:=fun vs H Q _=>∃ (p:Addr) (rows:List (List Nat)) (r w:Nat) (i j:Int),vs=[.ref p,.int i,.int j]∧H p=some (.tup (Ts rows))∧Blk r w rows∧1≤r∧r≤9∧w≤9∧∀ (H':Hp),Same H H'→Q (.bl (nearB rows r w i j)) H'
theorem tkC_out {rows:List (List Nat)} {r w:Nat} {u v:Int} (h:¬(0≤u∧u < (r:Int)∧0≤v∧v < (w:Int))):tkC rows r w (u,v)=false:=by
 unfold tkC atC
 simp only
 rw [if_neg h];rfl
theorem ok_is_nearS (D:DefAt K mg "_law_is_near" s_is_near ["_law_rows_here","_law_row","_law_column"]) (n_len:mg "len"=none):Def P w K mg base "_law_is_near" 1 ["_law_rows_here","_law_row","_law_column"] spNearS:=by
 refine D.qok sc_is_near (fun vs H Q E h=>?_) (fun f cdv A outer s H vs Q E hr h=>?_)
 ·obtain ⟨p,rows,r,w,i,j,rfl,_⟩:=h
  rfl
 ·obtain ⟨pr,rows,r,w,i,j,rfl,hp0,hb,r1,r9,w9,q⟩:=h
  refine ⟨_,(qss_cons (qs_for PassesOwn.never rfl (qi_list (qe_lst (qa_cons (qe_tup (qa_cons (qe_op op_sub (qv 1) qe_int) (qa_cons (qv 2) qa_nil))) (qa_cons (qe_tup (qa_cons (qv 1) (qa_cons (qe_op op_sub (qv 2) qe_int) qa_nil))) (qa_cons (qe_tup (qa_cons (qv 1) (qa_cons (qe_op op_add (qv 2) qe_int) qa_nil))) (qa_cons (qe_tup (qa_cons (qe_op op_add (qv 1) qe_int) (qa_cons (qv 2) qa_nil))) qa_nil)))))) (qg_name (i:=3) sc_is_near.nd rfl (Or.inl rfl)) (qss_one (qs_if (QW.qt (qw_and (qt_chain op_le op_lt qe_int (qe_ix ix_tup (qv 3) qe_int (fun _ _=>rfl)) (qe_callB call_len_seq (by rfl) n_len PySem.boot_len (qa_cons (qv 0) qa_nil))) (qw_and (qt_chain op_le op_lt qe_int (qe_ix ix_tup (qv 3) qe_int (fun _ _=>rfl)) (qe_callB call_lenS (by rfl) n_len PySem.boot_len (qa_cons (qe_ix ix_tup (qv 0) qe_int (fun _ _=>rfl)) qa_nil))) (qw_and1 (qt_cmpR op_neS (qe_ix ix_S (qe_ix ix_tup (qv 0) (qe_ix ix_tup (qv 3) qe_int (fun _ _=>rfl)) (fun _ _=>rfl)) (qe_ix ix_tup (qv 3) qe_int (fun _ _=>rfl)) (fun _ _=>rfl)) (qe_strS [46] (by decide +kernel)) (nomark _)))))) (qss_one (qs_ret qe_bl)) qss_nil))) (qss_one (qs_ret qe_bl))),?_⟩
  refine ⟨_,rfl,_,_,rfl,rfl,_,rfl,by show 2≤sizeLine;decide,fun t1 h1=>⟨_,rfl,_,rfl,_,_,rfl,rfl,by show 2≤sizeLine;decide,fun t2 h2=>⟨_,rfl,_,rfl,_,_,rfl,rfl,by show 2≤sizeLine;decide,fun t3 h3=>⟨_,rfl,_,_,rfl,rfl,_,rfl,by show 2≤sizeLine;decide,fun t4 h4=>⟨by show 4≤sizeLine;decide,fun T hT=>?_⟩⟩⟩⟩⟩
  have s1:Same H (upd H t1 (HO.tup [.int (i - 1),.int j])):=Same.upd h1
  have s2:=s1.upd' (o:=HO.tup [.int i,.int (j - 1)]) (s1.free h2)
  have s3:=s2.upd' (o:=HO.tup [.int i,.int (j + 1)]) (s2.free h3)
  have s4:=s3.upd' (o:=HO.tup [.int (i + 1),.int j]) (s3.free h4)
  have s5:=s4.upd' (o:=HO.lst [.ref t1,.ref t2,.ref t3,.ref t4]) (s4.free hT)
  have k5:Same _ _:=Same.upd (o:=HO.lst [.ref t1,.ref t2,.ref t3,.ref t4]) hT
  have k4:Same _ _:=Same.upd (o:=HO.tup [.int (i + 1),.int j]) h4
  have k3:Same _ _:=Same.upd (o:=HO.tup [.int i,.int (j + 1)]) h3
  have k2:Same _ _:=Same.upd (o:=HO.tup [.int i,.int (j - 1)]) h2
  have e1:=k5 _ _ (k4 _ _ (k3 _ _ (k2 _ _ (upd_same (H:=H) (a:=t1) (o:=HO.tup [.int (i - 1),.int j])))))
  have e2:=k5 _ _ (k4 _ _ (k3 _ _ (upd_same (a:=t2) (o:=HO.tup [.int i,.int (j - 1)]))))
  have e3:=k5 _ _ (k4 _ _ (upd_same (a:=t3) (o:=HO.tup [.int i,.int (j + 1)])))
  have e4:=k5 _ _ (upd_same (a:=t4) (o:=HO.tup [.int (i + 1),.int j]))
  have e5:upd (upd (upd (upd (upd H t1 (HO.tup [.int (i - 1),.int j])) t2 (HO.tup [.int i,.int (j - 1)])) t3 (HO.tup [.int i,.int (j + 1)])) t4 (HO.tup [.int (i + 1),.int j])) T (HO.lst [.ref t1,.ref t2,.ref t3,.ref t4]) T=some (.lst ([t1,t2,t3,t4].map V.ref)):=upd_same
  generalize upd (upd (upd (upd (upd H t1 (HO.tup [.int (i - 1),.int j])) t2 (HO.tup [.int i,.int (j - 1)])) t3 (HO.tup [.int i,.int (j + 1)])) t4 (HO.tup [.int (i + 1),.int j])) T (HO.lst [.ref t1,.ref t2,.ref t3,.ref t4])=H5 at s5 e1 e2 e3 e4 e5 ⊢
  have il5:IL2 H5 [t1,t2,t3,t4] (around4 i j):=((ObjL.one (x:=(i - 1,j)) e1).app (ObjL.one (x:=(i,j - 1)) e2)).app ((ObjL.one (x:=(i,j + 1)) e3).app (ObjL.one (x:=(i + 1,j)) e4))
  have hp:=SqT.of (K:=K) (s5 _ _ hp0)
  have hln:(Ts rows).length=r:=by rw [List.length_map,hb.len]
  have h0:0 < rows.length:=by rw [hb.len];omega
  have hw0:rows[0].length=w:=hb.wid _ (List.getElem_mem _)
  rw [← near_eq] at q
  refine ⟨T,rfl,⟨_,SqL.of e5⟩,for_list (K:=K) (a:=T) (xs:=[t1,t2,t3,t4].map V.ref) (fun n σ H6=>H6=H5∧∃ v3:Option V,σ=[some (.ref pr),some (.int i),some (.int j),v3]∧∀ p∈(around4 i j).take n,tkC rows r w p=false)
   ⟨rfl,none,rfl,fun p hp=>by simp at hp⟩ (fun n σ H6 _ h=>by rw [h.1];exact SqL.of e5) ?_ ?_⟩
  ·rintro n x σ H6 hx ⟨rfl,v3,rfl,hfr⟩
   have hn:n < [t1,t2,t3,t4].length:=by have:=(List.getElem?_eq_some_iff.mp hx).1;simpa using this
   rw [List.getElem?_map,List.getElem?_eq_getElem hn] at hx
   have hx:V.ref [t1,t2,t3,t4][n]=x:=Option.some.inj hx
   subst hx
   obtain ⟨⟨u,v⟩,eu,ht⟩:=il5.get hn
   generalize [t1,t2,t3,t4][n]=t at ht ⊢
   have hS:=SqT.of (K:=K) ht
   have nx:tkC rows r w (u,v)=false→H6=H6∧∃ v3:Option V,([some (.ref pr),some (.int i),some (.int j),some (.ref t)]:St)=[some (.ref pr),some (.int i),some (.int j),v3]∧∀ p∈(around4 i j).take (n + 1),tkC rows r w p=false:=fun z=>⟨rfl,_,rfl,fun p hp=>by
    rw [List.take_add_one,eu] at hp
    rcases List.mem_append.mp hp with y | y
    ·exact hfr p y
    ·rw [List.mem_singleton.mp y];exact z⟩
   refine ⟨_,rfl,t,_,_,_,rfl,rfl,hS,atI_nat (j:=0) rfl,_,_,rfl,rfl,_,rfl,?_⟩
   by_cases c1:0≤u
   ·rw [decide_eq_true c1]
    refine iteT ⟨_,rfl,pr,_,rfl,.inr hp,_,_,rfl,rfl,_,rfl,?_⟩
    rw [hln]
    by_cases c2:u < (r:Int)
    ·rw [decide_eq_true c2]
     refine iteT ⟨_,rfl,t,_,_,_,rfl,rfl,hS,atI_nat (j:=1) rfl,_,_,rfl,rfl,_,rfl,?_⟩
     by_cases c3:0≤v
     ·rw [decide_eq_true c3]
      refine iteT ⟨_,rfl,pr,_,_,.str (S rows[0]),rfl,rfl,hp,atI_nat (j:=0) (Ts_at (by simp [h0])),_,rfl,Nat.le_of_lt (small1000 (by omega)),_,_,rfl,rfl,_,rfl,?_⟩
      rw [hw0]
      by_cases c4:v < (w:Int)
      ·rw [decide_eq_true c4]
       obtain ⟨u,rfl⟩:∃ k:Nat,u=k:=⟨u.toNat,by omega⟩
       obtain ⟨v,rfl⟩:∃ k:Nat,v=k:=⟨v.toNat,by omega⟩
       have hi:u < rows.length:=by rw [hb.len];omega
       have hgi:rows[u]?=some (rows.getD u []):=by rw [List.getD_eq_getElem?_getD,List.getElem?_eq_getElem hi];rfl
       have hw:(rows.getD u []).length=w:=hb.wid _ (List.mem_of_getElem? hgi)
       have hgj:(rows.getD u [])[v]?=some ((rows.getD u []).getD v 0):=by rw [List.getD_eq_getElem?_getD (l:=rows.getD u []),List.getElem?_eq_getElem (by omega)];rfl
       have hat:atC rows r w (u:Int) (v:Int)=(rows.getD u []).getD v 0:=atC_cell (by omega) (by omega)
       refine iteT ⟨_,rfl,_,rfl,t,_,_,_,rfl,rfl,hS,atI_nat (j:=0) rfl,pr,_,_,_,rfl,rfl,hp,atI_nat (Ts_at hgi),_,rfl,t,_,_,_,rfl,rfl,hS,atI_nat (j:=1) rfl,_,_,_,rfl,rfl,Nat.le_of_lt (small1000 (by omega)),atI_nat hgj,_,_,rfl,rfl,_,rfl,?_⟩
       rw [← hat]
       cases ht0:tkC rows r w ((u:Int),(v:Int)) with
       | true=>
        rw [show (!decide ([atC rows r w (u:Int) (v:Int)]=[46]))=true from ht0]
        have hq:=q H6 s5
        rw [List.any_eq_true.mpr ⟨_,List.mem_of_getElem? eu,ht0⟩] at hq
        exact iteT hq
       | false=>
        rw [show (!decide ([atC rows r w (u:Int) (v:Int)]=[46]))=false from ht0]
        exact iteF (nx ht0)
      ·rw [decide_eq_false c4]
       exact iteF (iteF (nx (tkC_out fun z=>c4 z.2.2.2)))
     ·rw [decide_eq_false c3]
      exact iteF ⟨_,rfl,iteF (iteF (nx (tkC_out fun z=>c3 z.2.2.1)))⟩
    ·rw [decide_eq_false c2]
     exact iteF (iteF (nx (tkC_out fun z=>c2 z.2.1)))
   ·rw [decide_eq_false c1]
    exact iteF ⟨_,rfl,iteF (iteF (nx (tkC_out fun z=>c1 z.1)))⟩
  ·rintro σ H6 ⟨rfl,v3,rfl,hfr⟩
   have hq:=q H6 s5
   have:(around4 i j).any (tkC rows r w)=false:=by
    rw [List.any_eq_false]
    intro p hp
    rw [hfr p (by rw [List.take_of_length_le (by show 4≤4;decide)];exact hp)];decide
   rw [this] at hq
   exact hq
theorem cell_set {r w:Nat} {R:List (List Nat)} (hb:Blk r w R) {a b z i j:Nat} (ha:a < r) (hbw:b < w) (hi:i < r) (hj:j < w):cell (setAt R a b z) i j=if i=a∧j=b then z else cell R i j:=by
 have la:a < R.length:=by rw [hb.len];exact ha
 have li:i < R.length:=by rw [hb.len];exact hi
 have ga:R.getD a []=R[a]:=by rw [List.getD_eq_getElem?_getD,List.getElem?_eq_getElem la];rfl
 have gi:R.getD i []=R[i]:=by rw [List.getD_eq_getElem?_getD,List.getElem?_eq_getElem li];rfl
 have wa:R[a].length=w:=hb.wid _ (List.getElem_mem _)
 unfold cell setAt
 rw [List.getD_eq_getElem?_getD (l:=R.set a _)]
 by_cases e:i=a
 ·subst e
  rw [List.getElem?_set_self li,ga]
  show (R[i].set b z).getD j 0=_
  rw [List.getD_eq_getElem?_getD]
  by_cases e2:j=b
  ·subst e2
   rw [List.getElem?_set_self (by omega),if_pos ⟨rfl,rfl⟩];rfl
  ·rw [List.getElem?_set_ne (fun z=>e2 z.symm),if_neg (fun z=>e2 z.2),List.getD_eq_getElem?_getD]
 ·rw [List.getElem?_set_ne (fun z=>e z.symm),if_neg (fun z=>e z.1),← List.getD_eq_getElem?_getD]
theorem laid_cell {r w i j:Nat} (hi:i < r) (hj:j < w):∀ {ts:List Trip} {R:List (List Nat)},Blk r w R→(∀ t∈ts,inB r w t)→((i,j)∉ts.map cellT→cell (laidF R ts) i j=cell R i j)∧((i,j)∈ts.map cellT→sgC (cell (laidF R ts) i j))
 | [],R,_,_=>⟨fun _=>rfl,fun h=>by simp at h⟩
 | t :: ts,R,hb,hin=>by
  obtain ⟨t1,t2,t3⟩:=hin t List.mem_cons_self
  have hb2:=set_blk hb t1 (j:=t.2.1) (z:=t.2.2)
  obtain ⟨k1,k2⟩:=laid_cell hi hj (ts:=ts) hb2 fun u hu=>hin u (List.mem_cons_of_mem _ hu)
  have e:laidF R (t :: ts)=laidF (setAt R t.1 t.2.1 t.2.2) ts:=rfl
  rw [e]
  have hc:=cell_set hb t1 t2 hi hj (z:=t.2.2)
  constructor
  ·intro h
   rw [List.map_cons,List.mem_cons,not_or] at h
   rw [k1 h.2,hc,if_neg]
   intro z
   exact h.1 (by show (i,j)=(t.1,t.2.1);rw [z.1,z.2])
  ·intro h
   by_cases hm:(i,j)∈ts.map cellT
   ·exact k2 hm
   ·rw [k1 hm,hc]
    rw [List.map_cons,List.mem_cons] at h
    rcases h with z | z
    ·have z:(i,j)=(t.1,t.2.1):=z
     injection z with z1 z2
     rw [if_pos ⟨z1,z2⟩];exact t3
    ·exact absurd z hm
theorem laid_free {r w i j:Nat} (hi:i < r) (hj:j < w) {ts:List Trip} {R:List (List Nat)} (hb:Blk r w R) (hin:∀ t∈ts,inB r w t):cell (laidF R ts) i j=46↔cell R i j=46∧(i,j)∉ts.map cellT:=by
 obtain ⟨k1,k2⟩:=laid_cell hi hj hb hin
 constructor
 ·intro h
  by_cases hm:(i,j)∈ts.map cellT
  ·have:=k2 hm
   rw [h] at this
   cases this
  ·exact ⟨(k1 hm).symm.trans h,hm⟩
 ·intro h
  rw [k1 h.2];exact h.1
end
end My
end
section
set_option Elab.async false
set_option linter.all false
set_option maxRecDepth 100000
set_option maxHeartbeats 2000000
namespace My
open PySem L2
section
variable {P:Program} {w:World} {K:PySem.W.Frag} {mg:Str→Option Value} {base:Heap}
def jnC (rows:List (List Nat)) (r w bi bj:Nat) (cc:List (Nat × Nat)):Bool:=if isFree rows=true then decide ((bi,bj)∈cc) else cc.any fun c=>nearB rows r w c.1 c.2
theorem jnC_eq (rows:List (List Nat)) (r w bi bj:Nat) (ts:List Trip):jnC rows r w bi bj (ts.map cellT)=jnB rows r w bi bj ts:=by
 unfold jnC jnB
 rw [List.any_map];rfl
def fullR (l:List Nat):Bool:=!decide (l=(List.replicate l.length [46]).flatten)
theorem rep_flat (n:Nat):(List.replicate n [46]).flatten=List.replicate n 46:=by
 induction n with
 | zero=>rfl
 | succ n ih=>rw [List.replicate_succ,List.flatten_cons,ih,List.replicate_succ];rfl
theorem fullR_no {l:List Nat}:fullR l=false↔∀ c∈l,c=46:=by
 unfold fullR
 rw [rep_flat]
 constructor
 ·intro h
  have:l=List.replicate l.length 46:=by simpa using h
  exact (List.eq_replicate_iff.mp this).2
 ·intro h
  have:l=List.replicate l.length 46:=List.eq_replicate_iff.mpr ⟨rfl,h⟩
  rw [decide_eq_true this];rfl
theorem free_iff {rows:List (List Nat)}:isFree rows=true↔rows.filter fullR=[]:=by
 unfold isFree
 rw [List.all_eq_true,List.filter_eq_nil_iff]
 constructor
 ·intro h l hl
  have:fullR l=false:=fullR_no.mpr fun c hc=>by
   have:=of_decide_eq_true (h c (List.mem_flatten.mpr ⟨l,hl,hc⟩))
   injection this
  rw [this];decide
 ·intro h c hc
  obtain ⟨l,hl,hcl⟩:=List.mem_flatten.mp hc
  have:fullR l=false:=by
   cases e:fullR l with
   | false=>rfl
   | true=>exact absurd e (h l hl)
  rw [fullR_no.mp this c hcl];rfl
theorem HasDs.of128 {H:Hp}:∀ {ls:List (List Nat)},(∀ l∈ls,∀ c∈l,c < 128)→HasDs K H 1 (ls.map Dt.str) (Ts ls)
 | [],_=>.nil
 | l :: ls,h=>.cons (.str l (h l List.mem_cons_self)) (HasDs.of128 fun l' hl'=>h l' (List.mem_cons_of_mem _ hl'))
def spJoined:Sp:=fun vs H Q _=>∃ (pr pb Lc:Addr) (rows:List (List Nat)) (r w bi bj:Nat) (cs:List Addr) (cc:List (Nat × Nat)),vs=[.ref pr,.ref pb,.ref Lc]∧H pr=some (.tup (Ts rows))∧Blk r w rows∧1≤r∧r≤9∧1≤w∧w≤9∧(∀ l∈rows,∀ c∈l,roC c)∧H pb=some (.tup [.int bi,.int bj])∧H Lc=some (.lst (cs.map V.ref))∧PL2 H cs cc∧cc.length≤7∧
 ∀ H',Same H H'→Q (.bl (jnC rows r w bi bj cc)) H'
open Classical in
theorem ok_joined (D:DefAt K mg "_law_joined" s_joined ["_law_rows_here","_law_begin","_law_cells"]) (n_len:mg "len"=none) (D_is_near:Def P w K mg base "_law_is_near" 1 ["_law_rows_here","_law_row","_law_column"] spNearS):Def P w K mg base "_law_joined" 2 ["_law_rows_here","_law_begin","_law_cells"] spJoined:=by
 refine D.qok sc_joined (fun vs H Q E h=>?_) (fun f cdv A outer s H vs Q E hr h=>?_)
 ·obtain ⟨pr,pb,Lc,rows,r,w,bi,bj,cs,cc,rfl,_⟩:=h
  rfl
 ·obtain ⟨pr,pb,Lc,rows,r,w,bi,bj,cs,cc,rfl,hpr,hb,r1,r9,w1,w9,hro,hpb,hLc,hcs,h7,q⟩:=h
  have hln:(Ts rows).length=r:=by rw [List.length_map,hb.len]
  have hcl:=hcs.len
  refine ⟨_,(qss_cons (qs_if (qt_cmpR (op_eqD hr.units) (qe_compG (ns:=["_law_text"]) rfl (CompG.of ["_law_rows_here","_law_begin","_law_cells"] [] (by kernel_rfl)) (qi_tup (qv 0)) (fun _ _ _ _ _=>(tg_name (show (["_law_text","_law_rows_here","_law_begin","_law_cells"]:List Str).Nodup by decide +kernel) rfl (by rfl))) (fun _ _ _ _ _=>(qts_one (qt_cmpR op_neS (qv 0) (qe_op op_mulS (qe_strS [46] (by decide +kernel)) (qe_callB call_lenS (by rfl) n_len PySem.boot_len (qa_cons (qv 0) qa_nil))) (nomark _)))) (fun _ _ _ _ _=>(qv 0))) (qe_lst qa_nil) (nomark _)) (qss_one (qs_ret (qe_cmpR (op_inDL hr.units) (qv 1) (qv 2) rfl))) qss_nil) (qss_one (qs_ret (qe_cmpR (op_neD hr.units) (qe_compG (ns:=["_law_cell"]) rfl (CompG.of ["_law_rows_here","_law_begin","_law_cells"] [] (by kernel_rfl)) (qi_list (qv 2)) (fun _ _ _ _ _=>(tg_name (show (["_law_cell","_law_rows_here","_law_begin","_law_cells"]:List Str).Nodup by decide +kernel) rfl (by rfl))) (fun _ _ _ _ _=>(qts_one (qt_val (qe_own D_is_near (hr.mono (by decide)) rfl (qa_cons (qv 1) (qa_cons (qe_ix (ix_tupK K) (qv 0) qe_int (fun _ _=>rfl)) (qa_cons (qe_ix (ix_tupK K) (qv 0) qe_int (fun _ _=>rfl)) qa_nil))))))) (fun _ _ _ _ _=>(qv 0))) (qe_lst qa_nil) (nomark _))))),?_⟩
  refine ⟨_,rfl,pr,rfl,⟨_,SqT.of hpr⟩,fun N hN=>compG1_tup (K:=K) (a:=pr) (f:=hideS [] 0) (tt:=tTest (tOp rNeS (tVar 0) (tOp rMulS (tC (V.str (S [46]))) (tCB rLenS (tCons (tVar 0) tNil))))) (te:=tVar 0) (xs:=Ts rows) (fun n ys H2=>ys=Ts ((rows.take n).filter fullR)∧H2 N=some (.lst ys)∧Same H H2)
   ⟨rfl,upd_same,Same.upd hN⟩ (fun n ys H2 _ h=>SqT.of (h.2.2 _ _ hpr)) ?_ ?_⟩
  ·rintro n x ys H2 hx ⟨rfl,hN2,sm⟩
   obtain ⟨l,hl,rfl⟩:=Ts_get hx
   have hn:n < (Ts rows).length:=(List.getElem?_eq_some_iff.mp hx).1
   have hlw:l.length=w:=hb.wid _ (List.mem_of_getElem? hl)
   refine ⟨_,rfl,_,rfl,l,rfl,Nat.le_of_lt (small1000 (by omega)),[46],l.length,rfl,rfl,by omega,by omega,by decide,l,_,rfl,rfl,_,rfl,?_⟩
   have et:(rows.take (n + 1)).filter fullR=(rows.take n).filter fullR ++ [l].filter fullR:=by rw [List.take_add_one,hl,List.filter_append];rfl
   cases hf:fullR l with
   | true=>
    rw [show (!decide (l=(List.replicate l.length [46]).flatten))=true from hf]
    refine iteT ⟨_,rfl,hN2,?_,Nxt.mk hn ⟨?_,upd_same,sm.upd' hN⟩⟩
    ·rw [List.length_map]
     exact small1000 (Nat.le_trans (List.length_filter_le _ _) (by rw [List.length_take];omega))
    ·rw [et,Ts_snoc];simp [hf]
   | false=>
    rw [show (!decide (l=(List.replicate l.length [46]).flatten))=false from hf]
    refine iteF (Nxt.mk hn ⟨?_,hN2,sm⟩)
    rw [et];simp [hf]
  ·rintro ys H2 ⟨rfl,hN2,sm⟩
   rw [List.length_map,List.take_length] at hN2
   refine ⟨by show 0≤sizeLine;decide,fun Z hZ=>?_⟩
   have sZ:Same H2 (upd H2 Z (HO.lst [])):=Same.upd hZ
   have eZ:upd H2 Z (HO.lst []) Z=some (.lst []):=upd_same
   have hN3:=sZ _ _ hN2
   have s3:=sm.trans sZ
   generalize upd H2 Z (HO.lst [])=H3 at sZ eZ hN3 s3 ⊢
   have h128:∀ l∈rows.filter fullR,∀ c∈l,c < 128:=fun l hl c hc=>by
    rcases hro l (List.mem_filter.mp hl).1 c hc with e | e
    ·omega
    ·exact e.lt
   refine ⟨2,.lst ((rows.filter fullR).map Dt.str),.lst [],by decide,.lst (SqL.of hN3) (HasDs.of128 h128),.lst (SqL.of eZ) .nil,_,rfl,?_⟩
   simp only [Bool.false_eq_true,if_false]
   by_cases hf:isFree rows=true
   ·have he:Dt.lst ((rows.filter fullR).map Dt.str)=Dt.lst []:=by rw [free_iff.mp hf];rfl
    rw [decide_eq_true he]
    refine iteT ⟨_,rfl,_,rfl,2,.tup [.int bi,.int bj],cc.map fun c=>Dt.tup [.int c.1,.int c.2],by decide,.tup (SqT.of (s3 _ _ hpb)) (.cons (.int _) (.cons (.int _) .nil)),.lst (SqL.of (s3 _ _ hLc)) (HasDs.ofP (hcs.mv s3)),?_⟩
    have hq:=q H3 s3
    have e:jnC rows r w bi bj cc=decide ((bi,bj)∈cc):=by unfold jnC;rw [if_pos hf]
    rw [e] at hq
    simp only [Bool.false_eq_true,if_false]
    by_cases hm:(bi,bj)∈cc
    ·rw [decide_eq_true hm] at hq
     rw [decide_eq_true (mem_dt (c:=(bi,bj)).mpr hm)];exact hq
    ·rw [decide_eq_false hm] at hq
     rw [decide_eq_false (fun z=>hm (mem_dt (c:=(bi,bj)).mp z))];exact hq
   ·have he:¬Dt.lst ((rows.filter fullR).map Dt.str)=Dt.lst []:=fun z=>by
     injection z with z
     exact hf (free_iff.mpr (List.map_eq_nil_iff.mp z))
    rw [decide_eq_false he]
    refine iteF ⟨_,rfl,Lc,rfl,⟨_,SqL.of (s3 _ _ hLc)⟩,fun M hM=>compG1_list (K:=K) (a:=Lc) (f:=hideS [] 0) (tt:=tB (tCall spNearS [] E0 (tCons (tVar 1) (tCons (tOp (rIxT K) (tVar 0) (tC (V.int 0))) (tCons (tOp (rIxT K) (tVar 0) (tC (V.int 1))) tNil))))) (te:=tVar 0) (xs:=cs.map V.ref) (fun n ys H4=>∃ ds:List Addr,ys=ds.map V.ref∧ds.length≤n∧H4 M=some (.lst ys)∧Same H3 H4∧PL2 H4 ds ((cc.take n).filter fun c=>nearB rows r w c.1 c.2))
     ⟨[],rfl,Nat.le_refl _,upd_same,Same.upd hM,ObjL.nil⟩ (fun n ys H4 _ h=>by obtain ⟨_,_,_,_,sm,_⟩:=h;exact SqL.of (sm _ _ (s3 _ _ hLc))) ?_ ?_⟩
    ·rintro n x ys H4 hx ⟨ds,rfl,hdl,hM4,sm4,hP4⟩
     have hn:n < cs.length:=by have:=(List.getElem?_eq_some_iff.mp hx).1;simpa using this
     rw [List.getElem?_map,List.getElem?_eq_getElem hn] at hx
     have hx:V.ref cs[n]=x:=Option.some.inj hx
     subst hx
     have s04:=s3.trans sm4
     obtain ⟨u,eu,hu⟩:=(hcs.mv s04).get hn
     refine ⟨_,rfl,_,rfl,cs[n],_,_,_,rfl,rfl,SqT.of hu,atI_nat (j:=0) rfl,_,rfl,cs[n],_,_,_,rfl,rfl,SqT.of hu,atI_nat (j:=1) rfl,pr,rows,r,w,_,_,rfl,s04 _ _ hpr,hb,r1,r9,w9,fun H5 s5=>⟨_,rfl,?_⟩⟩
     have et:(cc.take (n + 1)).filter (fun c=>nearB rows r w c.1 c.2)=(cc.take n).filter (fun c=>nearB rows r w c.1 c.2) ++ [u].filter (fun c=>nearB rows r w c.1 c.2):=by rw [List.take_add_one,eu,List.filter_append];rfl
     cases hf2:nearB rows r w u.1 u.2 with
     | true=>
      have hM5:=s5 _ _ hM4
      refine iteT ⟨_,rfl,hM5,by rw [List.length_map];exact small1000 (by omega),Nxt.mk (by rw [List.length_map];exact hn) ⟨ds ++ [cs[n]],by simp,by simp;omega,by rw [upd_same],(sm4.trans s5).upd' hM,?_⟩⟩
      rw [et]
      have e2:[u].filter (fun c=>nearB rows r w c.1 c.2)=[u]:=by simp [hf2]
      rw [e2]
      exact ((hP4.mv s5).app (ObjL.one (s5 _ _ hu))).mvT (tupL hM5)
     | false=>
      refine iteF (Nxt.mk (by rw [List.length_map];exact hn) ⟨ds,rfl,by omega,s5 _ _ hM4,sm4.trans s5,?_⟩)
      rw [et]
      have e2:[u].filter (fun c=>nearB rows r w c.1 c.2)=[]:=by simp [hf2]
      rw [e2,List.append_nil]
      exact hP4.mv s5
    ·rintro ys H4 ⟨ds,rfl,hdl,hM4,sm4,hP4⟩
     rw [List.length_map,hcl,List.take_length] at hP4
     refine ⟨by show 0≤sizeLine;decide,fun Z2 hZ2=>?_⟩
     have sZ2:Same H4 (upd H4 Z2 (HO.lst [])):=Same.upd hZ2
     have eZ2:upd H4 Z2 (HO.lst []) Z2=some (.lst []):=upd_same
     have hM5:=sZ2 _ _ hM4
     have hP5:=hP4.mv sZ2
     generalize upd H4 Z2 (HO.lst [])=H5 at sZ2 eZ2 hM5 hP5 ⊢
     refine ⟨2,.lst _,.lst [],by decide,.lst (SqL.of hM5) (HasDs.ofP hP5),.lst (SqL.of eZ2) .nil,?_⟩
     have hq:=q H5 (s3.trans (sm4.trans sZ2))
     have e:jnC rows r w bi bj cc=cc.any fun c=>nearB rows r w c.1 c.2:=by unfold jnC;rw [if_neg hf]
     rw [e] at hq
     simp only [if_true]
     cases ha:(cc.any fun c=>nearB rows r w c.1 c.2) with
     | true=>
      rw [ha] at hq
      have:¬(Dt.lst (((cc.filter fun c=>nearB rows r w c.1 c.2)).map fun c=>Dt.tup [.int c.1,.int c.2])=Dt.lst []):=fun z=>by
       injection z with z
       have z:=List.map_eq_nil_iff.mp z
       obtain ⟨c,hc1,hc2⟩:=List.any_eq_true.mp ha
       exact absurd hc2 (List.filter_eq_nil_iff.mp z c hc1)
      rw [decide_eq_false this]
      exact hq
     | false=>
      rw [ha] at hq
      have:Dt.lst (((cc.filter fun c=>nearB rows r w c.1 c.2)).map fun c=>Dt.tup [.int c.1,.int c.2])=Dt.lst []:=by
       rw [List.filter_eq_nil_iff.mpr fun c hc=>by have:=List.any_eq_false.mp ha c hc;exact this];rfl
      rw [decide_eq_true this]
      exact hq
end
end My
end
section
set_option Elab.async false
set_option linter.all false
set_option maxRecDepth 100000
set_option maxHeartbeats 2000000
namespace My
open PySem L2
section
variable {P:Program} {w:World} {K:PySem.W.Frag} {mg:Str→Option Value} {base:Heap}
inductive DueR (rows:List (List Nat)) (r w bi bj:Nat) (ts:List Trip):Nat→Nat→Nat→Prop
 | tak {u:Trip} (h:takF rows ts=some u):DueR rows r w bi bj ts 1 u.1 u.2.1
 | crk (h1:takF rows ts=none) (h:(acrB ts || dwnB ts)=false):DueR rows r w bi bj ts 2 0 0
 | gap {i j:Nat} (h1:takF rows ts=none) (h2:(acrB ts || dwnB ts)=true) (h:GapAt (laidF rows ts) (fstT ts).1 (lastT ts).1 (fstT ts).2.1 (lastT ts).2.1 i j):DueR rows r w bi bj ts 3 i j
 | apt (h1:takF rows ts=none) (h2:(acrB ts || dwnB ts)=true) (h3:NoGap (laidF rows ts) (fstT ts).1 (lastT ts).1 (fstT ts).2.1 (lastT ts).2.1) (h:jnB rows r w bi bj ts=false):DueR rows r w bi bj ts 4 0 0
 | ok (h1:takF rows ts=none) (h2:(acrB ts || dwnB ts)=true) (h3:NoGap (laidF rows ts) (fstT ts).1 (lastT ts).1 (fstT ts).2.1 (lastT ts).2.1) (h:jnB rows r w bi bj ts=true):DueR rows r w bi bj ts 9 0 0
theorem mm_acr {ts:List Trip} (h0:0 < ts.length) {g:Trip→Nat} {m M:Int} (hm:m∈ts.map fun t=>(g t:Int)) (h1:∀ x∈ts.map (fun t=>(g t:Int)),m≤x) (hM:M∈ts.map fun t=>(g t:Int)) (h2:∀ x∈ts.map (fun t=>(g t:Int)),M≥x) :
  decide (V.int m=V.int M)=ts.all fun t=>decide (g t=g (ts.headD (0,0,0))):=by
 rw [headD_at h0]
 cases e:(ts.all fun t=>decide (g t=g ts[0])) with
 | true=>
  rw [List.all_eq_true] at e
  have key:∀ x∈ts.map (fun t=>(g t:Int)),x=(g ts[0]:Int):=fun x hx=>by
   obtain ⟨t,ht,rfl⟩:=List.mem_map.mp hx
   have:=of_decide_eq_true (e t ht)
   rw [this]
  rw [key m hm,key M hM];simp
 | false=>
  refine decide_eq_false fun z=>?_
  injection z with z
  have:(ts.all fun t=>decide (g t=g ts[0]))=true:=List.all_eq_true.mpr fun t ht=>by
   have a1:=h1 _ (List.mem_map.mpr ⟨t,ht,rfl⟩)
   have a2:=h2 _ (List.mem_map.mpr ⟨t,ht,rfl⟩)
   have b1:=h1 _ (List.mem_map.mpr ⟨ts[0],List.getElem_mem h0,rfl⟩)
   have b2:=h2 _ (List.mem_map.mpr ⟨ts[0],List.getElem_mem h0,rfl⟩)
   exact decide_eq_true (by omega)
  rw [this] at e;cases e
theorem two_turn {f:St→St} {σ:St} (ix:Nat) {Hs H':Hp} {cs:List Addr} {cc:List (Nat × Nat)} {n:Nat} {x:V} {ys:List V} {N:Addr} (hx:(cs.map V.ref)[n]?=some x)
  (hh:ys=((cc.take n).map fun c=>(((if ix=0 then c.1 else c.2:Nat)):Int)).map V.int∧H' N=some (.lst ys)∧Same Hs H') (hcs:PL2 Hs cs cc) (h7:cc.length≤7) (hN:Hs N=none) (hix:ix=0∨ix=1) :
  TurnG (cs.map V.ref).length n N (fun v H Q=>∃ a p q,v=.ref a∧SqT K H a [p,q]∧Q [some p,some q]) f σ tYes (tVar ix) x H' ys (fun ys H'=>ys=((cc.take (n + 1)).map fun c=>(((if ix=0 then c.1 else c.2:Nat)):Int)).map V.int∧H' N=some (.lst ys)∧Same Hs H'):=by
 obtain ⟨rfl,hN',sm⟩:=hh
 have hn:n < cs.length:=by have:=(List.getElem?_eq_some_iff.mp hx).1;simpa using this
 have hcl:=hcs.len
 rw [List.getElem?_map,List.getElem?_eq_getElem hn] at hx
 have hx:V.ref cs[n]=x:=Option.some.inj hx
 obtain ⟨u,eu,hu⟩:=(hcs.mv sm).get hn
 refine turn2 hx.symm (SqT.of hu) ?_
 have hz:(((cc.take n).map fun c=>(((if ix=0 then c.1 else c.2:Nat)):Int)).map V.int).length < sizeLine:=by rw [List.length_map,List.length_map,List.length_take];exact small1000 (by omega)
 rcases hix with rfl | rfl
 ·refine ⟨_,rfl,hN',hz,Nxt.mk (by rw [List.length_map];exact hn) ⟨?_,upd_same,sm.upd' hN⟩⟩
  rw [take_snoc eu,List.map_append];rfl
 ·refine ⟨_,rfl,hN',hz,Nxt.mk (by rw [List.length_map];exact hn) ⟨?_,upd_same,sm.upd' hN⟩⟩
  rw [take_snoc eu,List.map_append];rfl
def spCDue:Sp:=fun vs H Q _=>∃ (pr pb t:Addr) (rows:List (List Nat)) (r w bi bj:Nat) (as:List Addr) (ts:List Trip),vs=[.ref pr,.ref pb,.ref t]∧H pr=some (.tup (Ts rows))∧Blk r w rows∧1≤r∧r≤9∧1≤w∧w≤9∧(∀ l∈rows,∀ c∈l,roC c)∧H pb=some (.tup [.int bi,.int bj])∧H t=some (.tup (as.map V.ref))∧LayL H as ts∧(∀ t∈ts,inB r w t)∧0 < ts.length∧ts.length≤7∧
 ∀ (T:Addr) (d x y:Nat) (H':Hp),Same H H'→DueR rows r w bi bj ts d x y→H' T=some (.tup [.int d,.int x,.int y])→Q (.ref T) H'
open Classical in
theorem ok_cells_due (D:DefAt K mg "_law_cells_due" s_cells_due ["_law_rows_here","_law_begin","_law_laying"]) (n_range:mg "range"=none) (n_min:mg "min"=none) (n_max:mg "max"=none) (D_joined:Def P w K mg base "_law_joined" 2 ["_law_rows_here","_law_begin","_law_cells"] spJoined):Def P w K mg base "_law_cells_due" 3 ["_law_rows_here","_law_begin","_law_laying"] spCDue:=by
 refine D.qok sc_cells_due (fun vs H Q E h=>?_) (fun f cdv A outer s H vs Q E hr h=>?_)
 ·obtain ⟨pr,pb,t,rows,r,w,bi,bj,as,ts,rfl,_⟩:=h
  rfl
 ·obtain ⟨pr,pb,t,rows,r,w,bi,bj,as,ts,rfl,hpr,hb,r1,r9,w1,w9,hro,hpb,ht,hL,hin,h0,h7,q⟩:=h
  have hal:=hL.len
  refine ⟨_,(qss_cons (qs_setG (ix:=3) (ns:=["_law_row","_law_column","_law_sign_here"]) sc_cells_due.nd rfl (Or.inl rfl) rfl (CompG.of ["_law_rows_here","_law_begin","_law_laying","_law_cells",".4",".5"] [4,5] (by kernel_rfl)) (qi_tup (qv 2)) (fun _ _ _ _ _=>(tg_tup3 K rfl (show (["_law_row","_law_column","_law_sign_here","_law_rows_here","_law_begin","_law_laying","_law_cells",".4",".5"]:List Str).Nodup by decide +kernel) rfl rfl rfl (by rfl) (by rfl) (by rfl))) (fun _ _ _ _ _=>qts_nil) (fun _ _ _ _ _=>(qe_tup (qa_cons (qv 0) (qa_cons (qv 1) qa_nil))))) (qss_cons (qs_for PassesOwn.never rfl (qi_list (qv 3)) (qg_tup rfl (qgs_cons (qg_name (i:=4) sc_cells_due.nd rfl (Or.inl rfl)) (qgs_cons (qg_name (i:=5) sc_cells_due.nd rfl (Or.inl rfl)) qgs_nil))) (qss_one (qs_if (qt_cmpR op_neS (qe_ix ix_S (qe_ix ix_tup (qv 0) (qv 4) (fun _ _=>rfl)) (qv 5) (fun _ _=>rfl)) (qe_strS [46] (by decide +kernel)) (nomark _)) (qss_one (qs_ret (qe_tup (qa_cons qe_int (qa_cons (qv 4) (qa_cons (qv 5) qa_nil)))))) qss_nil))) (qss_cons (qs_cut (qs_if (qt_cmpR op_ne (qe_callB (call_minL rfl) (by rfl) n_min PyProof.Rows.boot_min (qa_cons (qe_compG (ns:=["_law_row","_law_column"]) rfl (CompG.of ["_law_rows_here","_law_begin","_law_laying","_law_cells",".4",".5"] [4,5] (by kernel_rfl)) (qi_list (qv 3)) (fun _ _ _ _ _=>(tg_tup2 K rfl (show (["_law_row","_law_column","_law_rows_here","_law_begin","_law_laying","_law_cells",".4",".5"]:List Str).Nodup by decide +kernel) rfl rfl (by rfl) (by rfl))) (fun _ _ _ _ _=>qts_nil) (fun _ _ _ _ _=>(qv 0))) qa_nil)) (qe_callB (call_maxL rfl) (by rfl) n_max PyProof.Rows.boot_max (qa_cons (qe_compG (ns:=["_law_row","_law_column"]) rfl (CompG.of ["_law_rows_here","_law_begin","_law_laying","_law_cells",".4",".5"] [4,5] (by kernel_rfl)) (qi_list (qv 3)) (fun _ _ _ _ _=>(tg_tup2 K rfl (show (["_law_row","_law_column","_law_rows_here","_law_begin","_law_laying","_law_cells",".4",".5"]:List Str).Nodup by decide +kernel) rfl rfl (by rfl) (by rfl))) (fun _ _ _ _ _=>qts_nil) (fun _ _ _ _ _=>(qv 0))) qa_nil)) (nomark _)) (qss_one (qs_if (qt_cmpR op_ne (qe_callB (call_minL rfl) (by rfl) n_min PyProof.Rows.boot_min (qa_cons (qe_compG (ns:=["_law_row","_law_column"]) rfl (CompG.of ["_law_rows_here","_law_begin","_law_laying","_law_cells",".4",".5"] [4,5] (by kernel_rfl)) (qi_list (qv 3)) (fun _ _ _ _ _=>(tg_tup2 K rfl (show (["_law_row","_law_column","_law_rows_here","_law_begin","_law_laying","_law_cells",".4",".5"]:List Str).Nodup by decide +kernel) rfl rfl (by rfl) (by rfl))) (fun _ _ _ _ _=>qts_nil) (fun _ _ _ _ _=>(qv 1))) qa_nil)) (qe_callB (call_maxL rfl) (by rfl) n_max PyProof.Rows.boot_max (qa_cons (qe_compG (ns:=["_law_row","_law_column"]) rfl (CompG.of ["_law_rows_here","_law_begin","_law_laying","_law_cells",".4",".5"] [4,5] (by kernel_rfl)) (qi_list (qv 3)) (fun _ _ _ _ _=>(tg_tup2 K rfl (show (["_law_row","_law_column","_law_rows_here","_law_begin","_law_laying","_law_cells",".4",".5"]:List Str).Nodup by decide +kernel) rfl rfl (by rfl) (by rfl))) (fun _ _ _ _ _=>qts_nil) (fun _ _ _ _ _=>(qv 1))) qa_nil)) (nomark _)) (qss_one (qs_ret (qe_tup (qa_cons qe_int (qa_cons qe_int (qa_cons qe_int qa_nil)))))) qss_nil)) qss_nil)) (qss_cons (qs_for PassesOwn.never rfl (qi_range2 (by rfl) n_range (qa_cons (qe_ix ix_tup (qe_ix ix_list (qv 3) qe_int (fun _ _=>rfl)) qe_int (fun _ _=>rfl)) (qa_cons (qe_op op_add (qe_ix ix_tup (qe_ix ix_list (qv 3) (qe_un un_neg qe_int) (fun _ _=>rfl)) qe_int (fun _ _=>rfl)) qe_int) qa_nil))) (qg_name (i:=4) sc_cells_due.nd rfl (Or.inl rfl)) (qss_one (qs_for PassesOwn.never rfl (qi_range2 (by rfl) n_range (qa_cons (qe_ix ix_tup (qe_ix ix_list (qv 3) qe_int (fun _ _=>rfl)) qe_int (fun _ _=>rfl)) (qa_cons (qe_op op_add (qe_ix ix_tup (qe_ix ix_list (qv 3) (qe_un un_neg qe_int) (fun _ _=>rfl)) qe_int (fun _ _=>rfl)) qe_int) qa_nil))) (qg_name (i:=5) sc_cells_due.nd rfl (Or.inl rfl)) (qss_one (qs_if (QW.qt (qw_and (qt_cmpR op_eqS (qe_ix ix_S (qe_ix ix_tup (qv 0) (qv 4) (fun _ _=>rfl)) (qv 5) (fun _ _=>rfl)) (qe_strS [46] (by decide +kernel)) (nomark _)) (qw_and1 (qt_cmpR (op_notInDL hr.units) (qe_tup (qa_cons (qv 4) (qa_cons (qv 5) qa_nil))) (qv 3) rfl)))) (qss_one (qs_ret (qe_tup (qa_cons qe_int (qa_cons (qv 4) (qa_cons (qv 5) qa_nil)))))) qss_nil))))) (qss_cons (qs_if (qt_not (qt_val (qe_own D_joined (hr.mono (by decide)) rfl (qa_cons (qv 0) (qa_cons (qv 1) (qa_cons (qv 3) qa_nil)))))) (qss_one (qs_ret (qe_tup (qa_cons qe_int (qa_cons qe_int (qa_cons qe_int qa_nil)))))) qss_nil) (qss_one (qs_ret (qe_tup (qa_cons qe_int (qa_cons qe_int (qa_cons qe_int qa_nil))))))))))),?_⟩
  refine ⟨_,rfl,t,rfl,⟨_,SqT.of ht⟩,fun Lc hLc0=>compG3_tup (K:=K) (KT:=K) (a:=t) (f:=hideS [4,5] 0) (tt:=tYes) (xs:=as.map V.ref) (fun n ys H5=>∃ cs:List Addr,ys=cs.map V.ref∧cs.length=n∧H5 Lc=some (.lst ys)∧Same H H5∧PL2 H5 cs ((ts.take n).map cellT))
   ⟨[],rfl,rfl,upd_same,Same.upd hLc0,ObjL.nil⟩ (fun n ys H5 _ h=>by obtain ⟨_,_,_,_,sm,_⟩:=h;exact SqT.of (sm _ _ ht)) ?_ ?_⟩
  ·rintro n x ys H5 hx ⟨cs,rfl,hcl,hN5,sm5,hA5⟩
   have hn:n < as.length:=by have:=(List.getElem?_eq_some_iff.mp hx).1;simpa using this
   have hnt:n < ts.length:=by omega
   rw [List.getElem?_map,List.getElem?_eq_getElem hn] at hx
   have hx:V.ref as[n]=x:=Option.some.inj hx
   obtain ⟨_,en⟩:=lay_at (hL.mv sm5) hnt
   refine turn3 hx.symm (SqT.of en) ?_
   refine ⟨_,rfl,_,rfl,by show 2≤sizeLine;decide,fun g hg=>?_⟩
   have kg:Same H5 (upd H5 g (HO.tup [.int ts[n].1,.int ts[n].2.1])):=Same.upd hg
   have hNg:=kg _ _ hN5
   refine ⟨hNg,by rw [List.length_map];exact small1000 (by omega),Nxt.mk (by rw [List.length_map];exact hn) ⟨cs ++ [g],by simp,by simp [hcl],by rw [upd_same],(sm5.trans kg).upd' hLc0,?_⟩⟩
   rw [take_snoc (List.getElem?_eq_getElem hnt)]
   exact ((hA5.mv kg).app (ObjL.one (x:=(ts[n].1,ts[n].2.1)) upd_same)).mvT (tupL hNg)
  rintro ys H1 ⟨cs,rfl,hcl,hLc,s1,hcs⟩
  rw [List.length_map] at hcl
  rw [List.length_map,hal,List.take_length] at hcs
  have hcst:cs.length=ts.length:=by omega
  have cc_at:∀ n,(h:n < ts.length)→(ts.map cellT)[n]?=some (ts[n].1,ts[n].2.1):=fun n h=>by rw [List.getElem?_map,List.getElem?_eq_getElem h];rfl
  have hpr1:=s1 _ _ hpr
  have hcl7:(ts.map cellT).length≤7:=by rw [List.length_map];exact h7
  refine ⟨_,rfl,Lc,rfl,⟨_,SqL.of hLc⟩,for_list (K:=K) (a:=Lc) (xs:=cs.map V.ref) (fun n σ H'=>∃ v4 v5:Option V,σ=[some (.ref pr),some (.ref pb),some (.ref t),some (.ref Lc),v4,v5]∧Same H1 H'∧∀ x∈ts.take n,tkT rows x=false)
   ⟨none,none,rfl,Same.refl _,fun x hx=>by simp at hx⟩ (fun n σ H' _ h=>by obtain ⟨_,_,_,sm,_⟩:=h;exact SqL.of (sm _ _ hLc)) ?_ ?_⟩
  ·rintro n x σ H' hx ⟨v4,v5,rfl,sm,hfr⟩
   have hn:n < cs.length:=by have:=(List.getElem?_eq_some_iff.mp hx).1;simpa using this
   have hnt:n < ts.length:=by omega
   rw [List.getElem?_map,List.getElem?_eq_getElem hn] at hx
   have hx:V.ref cs[n]=x:=Option.some.inj hx
   subst hx
   have en:=(hcs.mv sm).at_ n _ _ (List.getElem?_eq_getElem hn) (cc_at n hnt)
   obtain ⟨c1,c2,_⟩:=hin _ (List.getElem_mem hnt)
   have g1:ts[n].1 < rows.length:=by rw [hb.len];exact c1
   have hwi:rows[ts[n].1].length=w:=hb.wid _ (List.getElem_mem _)
   have g2:ts[n].2.1 < rows[ts[n].1].length:=by omega
   have hce:=cell_eq g1 g2
   refine ⟨cs[n],_,rfl,SqT.of en,rfl,_,_,rfl,_,_,rfl,rfl,?_⟩
   refine ⟨_,rfl,_,rfl,pr,_,_,.str (S rows[ts[n].1]),rfl,rfl,SqT.of (sm _ _ hpr1),atI_nat (Ts_at (by simp [g1])),_,rfl,rows[ts[n].1],_,rows[ts[n].1][ts[n].2.1],rfl,rfl,Nat.le_of_lt (small1000 (by omega)),atI_nat (by simp [g2]),[rows[ts[n].1][ts[n].2.1]],[46],rfl,rfl,_,rfl,?_⟩
   rw [← hce]
   cases ht0:tkT rows ts[n] with
   | true=>
    rw [show (!decide ([cell rows ts[n].1 ts[n].2.1]=[46]))=true from ht0]
    exact iteT ⟨_,rfl,_,rfl,by show 3≤sizeLine;decide,fun T hT=>q T 1 _ _ _ ((s1.trans sm).trans (Same.upd hT)) (.tak (find_at hnt hfr ht0)) upd_same⟩
   | false=>
    rw [show (!decide ([cell rows ts[n].1 ts[n].2.1]=[46]))=false from ht0]
    refine iteF ⟨_,_,rfl,sm,fun x hx=>?_⟩
    rw [List.take_add_one,List.getElem?_eq_getElem hnt] at hx
    rcases List.mem_append.mp hx with z | z
    ·exact hfr x z
    ·rw [List.mem_singleton.mp z];exact ht0
  rintro σ H2 ⟨v4,v5,rfl,sm,hfr⟩
  rw [List.length_map,hcst,List.take_length] at hfr
  have d1:takF rows ts=none:=find_no hfr
  have s2:=s1.trans sm
  refine ⟨fun σ H'=>Same H2 H'∧σ=[some (.ref pr),some (.ref pb),some (.ref t),some (.ref Lc),v4,v5]∧(acrB ts || dwnB ts)=true,?_,?_⟩
  ·refine ⟨_,rfl,Lc,rfl,⟨_,SqL.of (sm _ _ hLc)⟩,fun A1 hA1=>compG2_list (K:=K) (KT:=K) (a:=Lc) (f:=hideS [4,5] 0) (tt:=tYes) (te:=tVar 0) (xs:=cs.map V.ref) (fun n ys H'=>ys=(((ts.map cellT).take n).map fun c=>(((if 0=0 then c.1 else c.2:Nat)):Int)).map V.int∧H' A1=some (.lst ys)∧Same H2 H')
    ⟨rfl,upd_same,Same.upd hA1⟩ (fun n ys H' _ h=>SqL.of (h.2.2 _ _ (sm _ _ hLc))) (fun n x ys H' hx hh=>two_turn 0 hx hh (hcs.mv sm) hcl7 hA1 (by decide)) ?_⟩
   rintro ys H3 ⟨rfl,hA3,k3⟩
   rw [List.length_map,hcst,List.take_of_length_le (by rw [List.length_map];exact Nat.le_refl _),show ((ts.map cellT).map fun c=>(((if 0=0 then c.1 else c.2:Nat)):Int))=ts.map (fun t=>(t.1:Int)) by rw [List.map_map];rfl] at hA3
   refine ⟨A1,ts.map fun t=>(t.1:Int),rfl,SqL.of hA3,by rw [List.length_map];exact h0,fun m hm hmn=>?_⟩
   refine ⟨_,rfl,Lc,rfl,⟨_,SqL.of ((sm.trans k3) _ _ hLc)⟩,fun A2 hA2=>compG2_list (K:=K) (KT:=K) (a:=Lc) (f:=hideS [4,5] 0) (tt:=tYes) (te:=tVar 0) (xs:=cs.map V.ref) (fun n ys H'=>ys=(((ts.map cellT).take n).map fun c=>(((if 0=0 then c.1 else c.2:Nat)):Int)).map V.int∧H' A2=some (.lst ys)∧Same H3 H')
    ⟨rfl,upd_same,Same.upd hA2⟩ (fun n ys H' _ h=>SqL.of (h.2.2 _ _ ((sm.trans k3) _ _ hLc))) (fun n x ys H' hx hh=>two_turn 0 hx hh (hcs.mv (sm.trans k3)) hcl7 hA2 (by decide)) ?_⟩
   rintro ys H4 ⟨rfl,hA4,k4⟩
   rw [List.length_map,hcst,List.take_of_length_le (by rw [List.length_map];exact Nat.le_refl _),show ((ts.map cellT).map fun c=>(((if 0=0 then c.1 else c.2:Nat)):Int))=ts.map (fun t=>(t.1:Int)) by rw [List.map_map];rfl] at hA4
   refine ⟨A2,ts.map fun t=>(t.1:Int),rfl,SqL.of hA4,by rw [List.length_map];exact h0,fun M hM hmx=>?_⟩
   refine ⟨rfl,_,rfl,?_⟩
   have s24:=k3.trans k4
   rw [mm_acr (g:=fun t=>t.1) h0 hm hmn hM hmx]
   cases ha:acrB ts with
   | true=>
    rw [show (ts.all fun t=>decide (t.1=(ts.headD (0,0,0)).1))=true from ha]
    exact iteF ⟨s24,rfl,by rw [Bool.true_or]⟩
   | false=>
    rw [show (ts.all fun t=>decide (t.1=(ts.headD (0,0,0)).1))=false from ha]
    refine iteT ?_
    refine ⟨_,rfl,Lc,rfl,⟨_,SqL.of ((sm.trans s24) _ _ hLc)⟩,fun A3 hA3=>compG2_list (K:=K) (KT:=K) (a:=Lc) (f:=hideS [4,5] 0) (tt:=tYes) (te:=tVar 1) (xs:=cs.map V.ref) (fun n ys H'=>ys=(((ts.map cellT).take n).map fun c=>(((if 1=0 then c.1 else c.2:Nat)):Int)).map V.int∧H' A3=some (.lst ys)∧Same H4 H')
     ⟨rfl,upd_same,Same.upd hA3⟩ (fun n ys H' _ h=>SqL.of (h.2.2 _ _ ((sm.trans s24) _ _ hLc))) (fun n x ys H' hx hh=>two_turn 1 hx hh (hcs.mv (sm.trans s24)) hcl7 hA3 (by decide)) ?_⟩
    rintro ys H5 ⟨rfl,hA5,k5⟩
    rw [List.length_map,hcst,List.take_of_length_le (by rw [List.length_map];exact Nat.le_refl _),show ((ts.map cellT).map fun c=>(((if 1=0 then c.1 else c.2:Nat)):Int))=ts.map (fun t=>(t.2.1:Int)) by rw [List.map_map];rfl] at hA5
    refine ⟨A3,ts.map fun t=>(t.2.1:Int),rfl,SqL.of hA5,by rw [List.length_map];exact h0,fun m2 hm2 hmn2=>?_⟩
    refine ⟨_,rfl,Lc,rfl,⟨_,SqL.of ((sm.trans (s24.trans k5)) _ _ hLc)⟩,fun A4 hA4=>compG2_list (K:=K) (KT:=K) (a:=Lc) (f:=hideS [4,5] 0) (tt:=tYes) (te:=tVar 1) (xs:=cs.map V.ref) (fun n ys H'=>ys=(((ts.map cellT).take n).map fun c=>(((if 1=0 then c.1 else c.2:Nat)):Int)).map V.int∧H' A4=some (.lst ys)∧Same H5 H')
     ⟨rfl,upd_same,Same.upd hA4⟩ (fun n ys H' _ h=>SqL.of (h.2.2 _ _ ((sm.trans (s24.trans k5)) _ _ hLc))) (fun n x ys H' hx hh=>two_turn 1 hx hh (hcs.mv (sm.trans (s24.trans k5))) hcl7 hA4 (by decide)) ?_⟩
    rintro ys H6 ⟨rfl,hA6,k6⟩
    rw [List.length_map,hcst,List.take_of_length_le (by rw [List.length_map];exact Nat.le_refl _),show ((ts.map cellT).map fun c=>(((if 1=0 then c.1 else c.2:Nat)):Int))=ts.map (fun t=>(t.2.1:Int)) by rw [List.map_map];rfl] at hA6
    refine ⟨A4,ts.map fun t=>(t.2.1:Int),rfl,SqL.of hA6,by rw [List.length_map];exact h0,fun M2 hM2 hmx2=>?_⟩
    refine ⟨rfl,_,rfl,?_⟩
    have s26:=s24.trans (k5.trans k6)
    rw [mm_acr (g:=fun t=>t.2.1) h0 hm2 hmn2 hM2 hmx2]
    cases hd:dwnB ts with
    | true=>
     rw [show (ts.all fun t=>decide (t.2.1=(ts.headD (0,0,0)).2.1))=true from hd]
     exact iteF ⟨s26,rfl,rfl⟩
    | false=>
     rw [show (ts.all fun t=>decide (t.2.1=(ts.headD (0,0,0)).2.1))=false from hd]
     exact iteT ⟨by show 3≤sizeLine;decide,fun T hT=>q T 2 0 0 _ ((s2.trans s26).trans (Same.upd hT)) (.crk d1 (by rw [ha,hd];rfl)) upd_same⟩
  rintro σ H3 ⟨k3,rfl,d2⟩
  have s3:=s2.trans k3
  have s13:=sm.trans k3
  have hLc3:=s13 _ _ hLc
  have hcs3:=hcs.mv s13
  have z0:0 < cs.length:=by omega
  have zl:cs.length - 1 < cs.length:=by omega
  have e0:=hcs3.at_ 0 _ _ (List.getElem?_eq_getElem z0) (cc_at 0 h0)
  have el:=hcs3.at_ (cs.length - 1) _ _ (List.getElem?_eq_getElem zl) (by rw [show cs.length - 1=ts.length - 1 by omega];exact cc_at _ (by omega))
  have hlast:atI (cs.map V.ref) (-1)=some (.ref cs[cs.length - 1]):=last_at z0
  obtain ⟨a1,a2,_⟩:=hin _ (List.getElem_mem h0)
  obtain ⟨l1,l2,_⟩:=hin _ (List.getElem_mem (show ts.length - 1 < ts.length by omega))
  have ef:fstT ts=ts[0]:=headD_at h0
  have eg:=lastT_at h0
  generalize hff:ts[0]=ff at e0 a1 a2 ef
  generalize hll:ts[ts.length - 1]=ll at el l1 l2 eg
  have hR:∀ i j,i < r→j < w→(cell (laidF rows ts) i j=46↔cell rows i j=46∧(i,j)∉ts.map cellT):=fun i j hi hj=>laid_free hi hj hb hin
  have hDs:∀ H',Same H3 H'→HasD K H' 2 (.lst ((ts.map cellT).map fun c=>Dt.tup [.int c.1,.int c.2])) (.ref Lc):=fun H' sH=>.lst (SqL.of (sH _ _ hLc3)) (HasDs.ofP (hcs3.mv sH))
  generalize hRR:laidF rows ts=R at hR
  refine ⟨_,rfl,Lc,_,_,.ref cs[0],rfl,rfl,SqL.of hLc3,atI_nat (j:=0) (by simp [z0]),cs[0],_,_,_,rfl,rfl,SqT.of e0,atI_nat (j:=0) rfl,_,rfl,_,rfl,Lc,_,_,.ref cs[cs.length - 1],rfl,rfl,SqL.of hLc3,hlast,cs[cs.length - 1],_,_,_,rfl,rfl,SqT.of el,atI_nat (j:=0) rfl,_,_,rfl,rfl,(ff.1:Int),(ll.1:Int) + 1,rfl,⟨by omega,by omega,by omega,by omega⟩,?_⟩
  refine for_range (lo:=(ff.1:Int)) (fun n σ H'=>∃ v4 v5:Option V,σ=[some (.ref pr),some (.ref pb),some (.ref t),some (.ref Lc),v4,v5]∧Same H3 H'∧∀ i j,ff.1≤i→i < ff.1 + n→ff.2.1≤j→j≤ll.2.1→cell R i j≠46)
   ⟨_,_,rfl,Same.refl _,fun i j z1 z2=>by omega⟩ ?_ ?_
  ·rintro n σ H' hn ⟨v4,v5,rfl,sm4,hup⟩
   have hn2:ff.1 + n≤ll.1:=by omega
   have en:(ff.1:Int) + (n:Int)=((ff.1 + n:Nat):Int):=by omega
   rw [en]
   refine ⟨_,rfl,Lc,_,_,.ref cs[0],rfl,rfl,SqL.of (sm4 _ _ hLc3),atI_nat (j:=0) (by simp [z0]),cs[0],_,_,_,rfl,rfl,SqT.of (sm4 _ _ e0),atI_nat (j:=1) rfl,_,rfl,_,rfl,Lc,_,_,.ref cs[cs.length - 1],rfl,rfl,SqL.of (sm4 _ _ hLc3),hlast,cs[cs.length - 1],_,_,_,rfl,rfl,SqT.of (sm4 _ _ el),atI_nat (j:=1) rfl,_,_,rfl,rfl,(ff.2.1:Int),(ll.2.1:Int) + 1,rfl,⟨by omega,by omega,by omega,by omega⟩,?_⟩
   refine for_range (lo:=(ff.2.1:Int)) (fun m σ H'=>∃ v5:Option V,σ=[some (.ref pr),some (.ref pb),some (.ref t),some (.ref Lc),some (.int ((ff.1 + n:Nat):Int)),v5]∧Same H3 H'∧∀ j,ff.2.1≤j→j < ff.2.1 + m→cell R (ff.1 + n) j≠46)
    ⟨_,rfl,sm4,fun j z1 z2=>by omega⟩ ?_ ?_
   ·rintro m σ H5 hm ⟨v5,rfl,sm5,hle⟩
    have hm2:ff.2.1 + m≤ll.2.1:=by omega
    have em:(ff.2.1:Int) + (m:Int)=((ff.2.1 + m:Nat):Int):=by omega
    rw [em]
    have ci:ff.1 + n < r:=by omega
    have cj:ff.2.1 + m < w:=by omega
    generalize hii:ff.1 + n=ii at ci hle hn2 hup ⊢
    generalize hjj:ff.2.1 + m=jj at cj hle hm2 ⊢
    have g1:ii < rows.length:=by rw [hb.len];exact ci
    have hwi:rows[ii].length=w:=hb.wid _ (List.getElem_mem _)
    have g2:jj < rows[ii].length:=by omega
    have hce:=cell_eq g1 g2
    refine ⟨_,rfl,_,rfl,pr,_,_,.str (S rows[ii]),rfl,rfl,SqT.of (s3.trans sm5 _ _ hpr),atI_nat (Ts_at (by simp [g1])),_,rfl,rows[ii],_,rows[ii][jj],rfl,rfl,Nat.le_of_lt (small1000 (by omega)),atI_nat (by simp [g2]),[rows[ii][jj]],[46],rfl,rfl,_,rfl,?_⟩
    rw [← hce]
    have nx:cell R ii jj≠46→∀ H',Same H3 H'→∃ v5:Option V,([some (.ref pr),some (.ref pb),some (.ref t),some (.ref Lc),some (.int (ii:Int)),some (.int (jj:Int))]:St)=[some (.ref pr),some (.ref pb),some (.ref t),some (.ref Lc),some (.int (ii:Int)),v5]∧Same H3 H'∧∀ j,ff.2.1≤j→j < ff.2.1 + (m + 1)→cell R ii j≠46:=fun z H' sH=>⟨_,rfl,sH,fun j y1 y2=>by
     by_cases y:j=jj
     ·rw [y];exact z
     ·exact hle j y1 (by omega)⟩
    by_cases hc:cell rows ii jj=46
    ·rw [decide_eq_true (show [cell rows ii jj]=[46] by rw [hc])]
     refine iteT ⟨_,rfl,_,rfl,by show 2≤sizeLine;decide,fun g hg=>?_⟩
     have kg:Same H5 (upd H5 g (HO.tup [.int (ii:Int),.int (jj:Int)])):=Same.upd hg
     have eg2:upd H5 g (HO.tup [.int (ii:Int),.int (jj:Int)]) g=some (.tup [.int (ii:Int),.int (jj:Int)]):=upd_same
     have sg:=sm5.trans kg
     generalize upd H5 g (HO.tup [.int (ii:Int),.int (jj:Int)])=H6 at kg eg2 sg ⊢
     refine ⟨_,rfl,2,.tup [.int (ii:Int),.int (jj:Int)],_,by decide,.tup (SqT.of eg2) (.cons (.int _) (.cons (.int _) .nil)),hDs H6 sg,_,rfl,?_⟩
     simp only [if_true]
     by_cases hm3:(ii,jj)∈ts.map cellT
     ·rw [decide_eq_true (mem_dt (c:=(ii,jj)).mpr hm3)]
      exact iteF (nx (fun z=>((hR ii jj ci cj).mp z).2 hm3) H6 sg)
     ·rw [decide_eq_false (fun z=>hm3 (mem_dt (c:=(ii,jj)).mp z))]
      refine iteT ⟨_,rfl,_,rfl,by show 3≤sizeLine;decide,fun T hT=>?_⟩
      refine q T 3 ii jj _ ((s3.trans sg).trans (Same.upd hT)) (.gap d1 d2 ?_) upd_same
      rw [hRR,ef,eg]
      exact ⟨by omega,hn2,by omega,hm2,(hR ii jj ci cj).mpr ⟨hc,hm3⟩,hup,fun j y1 y2=>hle j y1 (by omega)⟩
    ·rw [decide_eq_false (show ¬[cell rows ii jj]=[46] from fun z=>hc (by injection z))]
     exact iteF (iteF (nx (fun z=>hc ((hR ii jj ci cj).mp z).1) H5 sm5))
   ·rintro σ H5 ⟨v5,rfl,sm5,hle⟩
    refine ⟨_,_,rfl,sm5,fun i j z1 z2 z3 z4=>?_⟩
    by_cases z:i=ff.1 + n
    ·rw [z];exact hle j z3 (by omega)
    ·exact hup i j z1 (by omega) z3 z4
  ·rintro σ H4 ⟨v4,v5,rfl,sm4,hup⟩
   have d3:NoGap (laidF rows ts) (fstT ts).1 (lastT ts).1 (fstT ts).2.1 (lastT ts).2.1:=by
    rw [hRR,ef,eg]
    exact fun i j z1 z2 z3 z4=>hup i j z1 (by omega) z3 z4
   have s4:=s3.trans sm4
   refine ⟨_,rfl,_,rfl,_,rfl,pr,pb,Lc,rows,r,w,bi,bj,cs,ts.map cellT,rfl,s4 _ _ hpr,hb,r1,r9,w1,w9,hro,s4 _ _ hpb,sm4 _ _ hLc3,hcs3.mv sm4,hcl7,fun H5 k5=>⟨_,rfl,?_⟩⟩
   rw [jnC_eq]
   have s5:=s4.trans k5
   cases hj:jnB rows r w bi bj ts with
   | true=>exact iteF ⟨by show 3≤sizeLine;decide,fun T hT=>q T 9 0 0 _ (s5.trans (Same.upd hT)) (.ok d1 d2 d3 hj) upd_same⟩
   | false=>exact iteT ⟨by show 3≤sizeLine;decide,fun T hT=>q T 4 0 0 _ (s5.trans (Same.upd hT)) (.apt d1 d2 d3 hj) upd_same⟩
end
end My
end
section
set_option Elab.async false
set_option linter.all false
set_option maxRecDepth 100000
set_option maxHeartbeats 2000000
namespace My
open PySem L2
section
variable {P:Program} {w:World} {K:PySem.W.Frag} {mg:Str→Option Value} {base:Heap}
theorem lo_tile {c:Nat} (h:sgN c):(([c].map PyProof.Rows.lo1=[c])→tileF c=c)∧(¬([c].map PyProof.Rows.lo1=[c])→tileF c=63):=by
 unfold tileF PyProof.Rows.lo1
 rw [List.map_singleton]
 rcases h with h | h
 ·have h1:=h.1
  have h2:=h.2
  rw [if_neg (by omega),if_neg (by omega)]
  exact ⟨fun _=>rfl,fun z=>absurd rfl z⟩
 ·rw [if_pos h,if_pos h]
  exact ⟨fun z=>by injection z with z;omega,fun _=>rfl⟩
theorem goF_perm:∀ (cs:List Nat) (us vs:List (List Nat)),us.Perm vs→(∃ t,goF us cs=.inl t∧goF vs cs=.inl t)∨∃ l k,goF us cs=.inr l∧goF vs cs=.inr k∧l.Perm k
 | [],us,vs,h=>.inr ⟨us,vs,rfl,rfl,h⟩
 | c :: cs,us,vs,h=>by
  unfold goF
  by_cases hm:[tileF c]∈us
  ·rw [if_pos hm,if_pos (h.mem_iff.mp hm)]
   exact goF_perm cs _ _ (h.erase _)
  ·rw [if_neg hm,if_neg fun z=>hm (h.mem_iff.mpr z)]
   exact .inl ⟨_,rfl,rfl⟩
theorem goF_tile:∀ (cs:List Nat) (us:List (List Nat)) (t:Nat),goF us cs=.inl t→∃ c∈cs,t=tileF c
 | [],us,t,h=>by unfold goF at h;cases h
 | c :: cs,us,t,h=>by
  unfold goF at h
  by_cases hm:[tileF c]∈us
  ·rw [if_pos hm] at h
   obtain ⟨d,hd,e⟩:=goF_tile cs _ t h
   exact ⟨d,List.mem_cons_of_mem _ hd,e⟩
  ·rw [if_neg hm] at h
   injection h with h
   exact ⟨c,List.mem_cons_self,h.symm⟩
def spLack:Sp:=fun vs H Q _=>∃ (rack:List Nat) (t:Addr) (as:List Addr) (ts:List Trip) (r w:Nat),vs=[.str (S rack),.ref t]∧rack.length≤63∧H t=some (.tup (as.map V.ref))∧LayL H as ts∧(∀ t∈ts,inB r w t)∧
 (∀ tl,goF (rack.map fun c=>[c]) (ts.map (·.2.2))=.inl tl→∀ H',Same H H'→Q (.str (S [tl])) H')∧
 (∀ left,goF (rack.map fun c=>[c]) (ts.map (·.2.2))=.inr left→∀ H',Same H H'→Q .non H')
theorem ok_law_lacking (D:DefAt K mg "_law_lacking" s_lacking ["_law_rack_here","_law_laying"]) (n_list:mg "list"=none):Def P w K mg base "_law_lacking" 1 ["_law_rack_here","_law_laying"] spLack:=by
 refine D.qok sc_lacking (fun vs H Q E h=>?_) (fun f cdv A outer s H vs Q E hr h=>?_)
 ·obtain ⟨rack,t,as,ts,r,w,rfl,_⟩:=h
  rfl
 ·obtain ⟨rack,t,as,ts,r,w,rfl,h63,ht,hL,hin,qE,q⟩:=h
  have hal:=hL.len
  refine ⟨_,(qss_cons (qs_set (i:=2) sc_lacking.nd rfl (Or.inl rfl) (qe_callTy (call_listS rfl) (by rfl) n_list PyProof.Rows.boot_list (qa_cons (qv 0) qa_nil))) (qss_cons (qs_for PassesOwn.never rfl (qi_tup (qv 1)) (qg_tup rfl (qgs_cons (qg_name (i:=3) sc_lacking.nd rfl (Or.inl rfl)) (qgs_cons (qg_name (i:=4) sc_lacking.nd rfl (Or.inl rfl)) (qgs_cons (qg_name (i:=5) sc_lacking.nd rfl (Or.inl rfl)) qgs_nil)))) (qss_cons (qs_set (i:=6) sc_lacking.nd rfl (Or.inl rfl) (qv 5)) (qss_cons (qs_cut (qs_if (qt_cmpR op_neS (qv 5) (qe_bm0 PySem.F.plainAttrs_str PySem.F.slot_str_lower PySem.F.type_str_lower mt_loA (qv 5)) (nomark _)) (qss_one (qs_set (i:=6) sc_lacking.nd rfl (Or.inl rfl) (qe_strS [63] (by decide +kernel)))) qss_nil)) (qss_cons (qs_if (qt_cmpR op_notIn_seq (qv 6) (qv 2) rfl) (qss_one (qs_ret (qv 6))) qss_nil) (qss_one (qs_expr (qe_bm PySem.F.plainAttrs_list PySem.F.slot_list_remove PySem.F.type_list_remove mt_remove (qv 2) (qa_cons (qv 6) qa_nil)))))))) (qss_one (qs_ret qe_non)))),?_⟩
  refine ⟨_,rfl,rack,rfl,by omega,fun L hL0=>?_⟩
  have s1:Same H (upd H L (.lst (Ts (rack.map fun c=>[c])))):=Same.upd hL0
  refine ⟨_,rfl,t,rfl,⟨_,SqT.of (s1 _ _ ht)⟩,for_tup (K:=K) (a:=t) (xs:=as.map V.ref) (fun n σ H2=>∃ (v3 v4 v5 v6:Option V) (us:List (List Nat)),σ=[some (.str (S rack)),some (.ref t),some (.ref L),v3,v4,v5,v6]∧Same H H2∧H2 L=some (.lst (Ts us))∧us.length≤63∧goF (rack.map fun c=>[c]) (ts.map (·.2.2))=goF us ((ts.map (·.2.2)).drop n))
   ⟨none,none,none,none,rack.map fun c=>[c],rfl,s1,upd_same,by rw [List.length_map];exact h63,by rw [List.drop_zero]⟩ (fun n σ H2 _ h=>by obtain ⟨_,_,_,_,_,_,sm,_⟩:=h;exact SqT.of (sm _ _ ht)) ?_ ?_⟩
  ·rintro n x σ H2 hx ⟨v3,v4,v5,v6,us,rfl,sm,hL2,hul,hgo⟩
   have hn:n < as.length:=by have:=(List.getElem?_eq_some_iff.mp hx).1;simpa using this
   have hnt:n < ts.length:=by omega
   rw [List.getElem?_map,List.getElem?_eq_getElem hn] at hx
   have hx:V.ref as[n]=x:=Option.some.inj hx
   subst hx
   obtain ⟨_,en⟩:=lay_at (hL.mv sm) hnt
   have hsg:=(hin _ (List.getElem_mem hnt)).2.2
   have hdrop:(ts.map (·.2.2)).drop n=ts[n].2.2 :: (ts.map (·.2.2)).drop (n + 1):=by rw [List.drop_eq_getElem_cons (by rw [List.length_map];exact hnt),List.getElem_map]
   rw [hdrop] at hgo
   generalize hz:ts[n]=z at en hsg hgo
   refine ⟨as[n],_,rfl,SqT.of en,rfl,_,_,rfl,_,_,rfl,_,_,rfl,rfl,?_⟩
   refine ⟨_,rfl,?_⟩
   refine ⟨fun σ' H'=>H'=H2∧σ'=[some (.str (S rack)),some (.ref t),some (.ref L),some (.int z.1),some (.int z.2.1),some (.str (S [z.2.2])),some (.str (S [tileF z.2.2]))],?_,?_⟩
   ·obtain ⟨k1,k2⟩:=lo_tile (sgN_of hsg)
    refine ⟨_,rfl,_,rfl,rfl,[z.2.2],rfl,rfl,by show 1≤1000;decide,fun d hd=>by rw [List.mem_singleton.mp hd];exact hsg.lt,[z.2.2],_,rfl,rfl,_,rfl,?_⟩
    by_cases e:[z.2.2]=[z.2.2].map PyProof.Rows.lo1
    ·rw [decide_eq_true e]
     exact iteF ⟨rfl,by rw [k1 e.symm];rfl⟩
    ·rw [decide_eq_false e]
     exact iteT ⟨rfl,by rw [k2 fun y=>e y.symm];rfl⟩
   ·rintro σ' H' ⟨rfl,rfl⟩
    refine ⟨_,rfl,_,rfl,L,Ts us,rfl,.inl (SqL.of hL2),rfl,flat_ts us,?_⟩
    rw [inV_ts]
    by_cases hm:[tileF z.2.2]∈us
    ·rw [decide_eq_true hm]
     refine ⟨_,rfl,iteF ⟨_,rfl,.inl ⟨rfl,_,SqL.of hL2⟩,_,rfl,L,us,[tileF z.2.2],rfl,rfl,hL2,hm,by omega,?_⟩⟩
     refine ⟨_,_,_,_,us.erase [tileF z.2.2],rfl,sm.upd' hL0,upd_same,?_,?_⟩
     ·have:=(List.erase_sublist (a:=[tileF z.2.2]) (l:=us)).length_le;omega
     ·rw [hgo];show (if _ then _ else _)=_;rw [if_pos hm]
    ·rw [decide_eq_false hm]
     have e:goF (rack.map fun c=>[c]) (ts.map (·.2.2))=.inl (tileF z.2.2):=by rw [hgo];show (if _ then _ else _)=_;rw [if_neg hm]
     exact ⟨_,rfl,iteT ⟨_,rfl,qE _ e _ sm⟩⟩
  ·rintro σ H2 ⟨v3,v4,v5,v6,us,rfl,sm,hL2,hul,hgo⟩
   rw [List.length_map,hal,List.drop_of_length_le (by rw [List.length_map];exact Nat.le_refl _)] at hgo
   exact q us hgo _ sm
def spRackK:Sp:=fun vs H Q _=>∃ (t:Addr) (as:List Addr) (ts:List Trip) (c:Int) (ls:List Nat) (r w:Nat),vs=[.ref t,.int c,.str (S ls)]∧H t=some (.tup (as.map V.ref))∧LayL H as ts∧(∀ t∈ts,inB r w t)∧0 < ts.length∧ts.length≤7∧Alph ls∧
 ∀ (l:List Nat) (H':Hp),Same H H'→l.length≤7→Q (.str (S l)) H'
theorem ok_rackK (D:DefAt K mg "_law_rack" s_rack ["_law_laying","_law_cell","_law_letters_here"]) (n_len:mg "len"=none) (n_range:mg "range"=none) (D_draw:Def P w K mg base "_law_draw" 1 ["_law_cell","_law_j"] spDraw):Def P w K mg base "_law_rack" 2 ["_law_laying","_law_cell","_law_letters_here"] spRackK:=by
 refine D.qok sc_rack (fun vs H Q E h=>?_) (fun f cdv A outer s H vs Q E hr h=>?_)
 ·obtain ⟨t,as,ts,c,ls,r,w,rfl,_⟩:=h
  rfl
 ·obtain ⟨t,as,ts,c,ls,r,w,rfl,ht,hL,hin,h0,h7,hA,q⟩:=h
  have hal:=hL.len
  have hl2:=hA.lo
  have hl26:=hA.hi
  have hzl:ls.length≤sizeLine:=Nat.le_of_lt (small1000 (by omega))
  refine ⟨_,(qss_cons (qs_set (i:=3) sc_rack.nd rfl (Or.inl rfl) (qe_lst qa_nil)) (qss_cons (qs_for PassesOwn.never rfl (qi_tup (qv 0)) (qg_tup rfl (qgs_cons (qg_name (i:=4) sc_rack.nd rfl (Or.inl rfl)) (qgs_cons (qg_name (i:=5) sc_rack.nd rfl (Or.inl rfl)) (qgs_cons (qg_name (i:=6) sc_rack.nd rfl (Or.inl rfl)) qgs_nil)))) (qss_one (qs_cut (qs_if (qt_cmpR op_eqS (qv 6) (qe_bm0 PySem.F.plainAttrs_str PySem.F.slot_str_lower PySem.F.type_str_lower mt_loA (qv 6)) (nomark _)) (qss_one (qs_expr (qe_bm PySem.F.plainAttrs_list PySem.F.slot_list_append PySem.F.type_list_append mt_append (qv 3) (qa_cons (qv 6) qa_nil)))) (qss_one (qs_expr (qe_bm PySem.F.plainAttrs_list PySem.F.slot_list_append PySem.F.type_list_append mt_append (qv 3) (qa_cons (qe_strS [63] (by decide +kernel)) qa_nil)))))))) (qss_cons (qs_cut (qs_if (qt_cmpR op_eq (qe_op op_mod (qv 1) qe_int) qe_int (nomark _)) (qss_one (qs_set (i:=3) sc_rack.nd rfl (Or.inl rfl) (qe_slice sl_list (qv 3) qo_none (qo_some (qe_op op_mod (qe_op op_fdiv (qv 1) qe_int) (qe_op op_add (qe_callB call_len_seq (by rfl) n_len PySem.boot_len (qa_cons (qv 3) qa_nil)) qe_int)))))) qss_nil)) (qss_cons (qs_cut (qs_if (qt_cmpR op_eq (qe_op op_mod (qv 1) qe_int) qe_int (nomark _)) (qss_cons (qs_set (i:=7) sc_rack.nd rfl (Or.inl rfl) (qe_op op_addS (qv 2) (qe_strS [63] (by decide +kernel)))) (qss_one (qs_asg (qe_ix ix_S (qv 7) (qe_op op_mod (qe_op op_fdiv (qv 1) qe_int) (qe_callB call_lenS (by rfl) n_len PySem.boot_len (qa_cons (qv 7) qa_nil))) (fun _ _=>rfl)) (qg_sub (qv 3) (qe_op op_mod (qe_op op_fdiv (qv 1) qe_int) (qe_callB call_len_seq (by rfl) n_len PySem.boot_len (qa_cons (qv 3) qa_nil))) set_list)))) qss_nil)) (qss_cons (qs_set (i:=8) sc_rack.nd rfl (Or.inl rfl) (qe_strS [] (by decide +kernel))) (qss_cons (qs_for PassesOwn.never rfl (qi_range1 (by rfl) n_range (qa_cons (qe_callB call_len_seq (by rfl) n_len PySem.boot_len (qa_cons (qv 3) qa_nil)) qa_nil)) (qg_name (i:=9) sc_rack.nd rfl (Or.inl rfl)) (qss_cons (qs_set (i:=10) sc_rack.nd rfl (Or.inl rfl) (qe_ix ix_list (qv 3) (qe_op op_mod (qe_op op_add (qv 9) (qe_op op_fdiv (qv 1) qe_int)) (qe_callB call_len_seq (by rfl) n_len PySem.boot_len (qa_cons (qv 3) qa_nil))) (fun _ _=>rfl))) (qss_one (qs_cut (qs_if (QW.qt (qw_or (qt_cmpR op_neS (qv 10) (qe_strS [63] (by decide +kernel)) (nomark _)) (qw_or1 (qt_cmpR op_lt (qe_bm PySem.F.plainAttrs_str PySem.F.slot_str_count PySem.F.type_str_count mt_countS (qv 8) (qa_cons (qe_strS [63] (by decide +kernel)) qa_nil)) qe_int (nomark _))))) (qss_one (qs_set (i:=8) sc_rack.nd rfl (Or.inl rfl) (qe_op op_addS (qv 8) (qv 10)))) qss_nil))))) (qss_cons (qs_cut (qs_while PassesOwn.never (QW.qt (qw_and (qt_cmpR op_lt (qe_callB call_lenS (by rfl) n_len PySem.boot_len (qa_cons (qv 8) qa_nil)) qe_int (nomark _)) (qw_and1 (qt_cmpR op_eq (qe_op op_mod (qe_op op_fdiv (qv 1) qe_int) qe_int) qe_int (nomark _))))) (qss_one (qs_set (i:=8) sc_rack.nd rfl (Or.inl rfl) (qe_op op_addS (qv 8) (qe_ix ix_S (qv 2) (qe_op op_mod (qe_own D_draw (hr.mono (by decide)) rfl (qa_cons (qv 1) (qa_cons (qe_callB call_lenS (by rfl) n_len PySem.boot_len (qa_cons (qv 8) qa_nil)) qa_nil))) (qe_callB call_lenS (by rfl) n_len PySem.boot_len (qa_cons (qv 2) qa_nil))) (fun _ _=>rfl))))))) (qss_one (qs_ret (qv 8)))))))))),?_⟩
  refine ⟨by show 0≤sizeLine;decide,fun L hL0=>?_⟩
  have s1:Same H (upd H L (HO.lst [])):=Same.upd hL0
  refine ⟨_,rfl,t,rfl,⟨_,SqT.of (s1 _ _ ht)⟩,for_tup (K:=K) (a:=t) (xs:=as.map V.ref) (fun n σ H2=>∃ (v4 v5 v6:Option V) (us:List (List Nat)),σ=[some (.ref t),some (.int c),some (.str (S ls)),some (.ref L),v4,v5,v6,none,none,none,none]∧Same H H2∧H2 L=some (.lst (Ts us))∧us.length=n∧∀ u∈us,u.length=1)
   ⟨none,none,none,[],rfl,s1,upd_same,rfl,fun u hu=>by simp at hu⟩ (fun n σ H2 _ h=>by obtain ⟨_,_,_,_,_,sm,_⟩:=h;exact SqT.of (sm _ _ ht)) ?_ ?_⟩
  ·rintro n x σ H2 hx ⟨v4,v5,v6,us,rfl,sm,hL2,hul,hu1⟩
   have hn:n < as.length:=by have:=(List.getElem?_eq_some_iff.mp hx).1;simpa using this
   have hnt:n < ts.length:=by omega
   rw [List.getElem?_map,List.getElem?_eq_getElem hn] at hx
   have hx:V.ref as[n]=x:=Option.some.inj hx
   subst hx
   obtain ⟨_,en⟩:=lay_at (hL.mv sm) hnt
   have hsg:=(hin _ (List.getElem_mem hnt)).2.2
   generalize hz:ts[n]=z at en hsg
   refine ⟨as[n],_,rfl,SqT.of en,rfl,_,_,rfl,_,_,rfl,_,_,rfl,rfl,?_⟩
   have fin:∀ a:Nat,∃ (v4 v5 v6:Option V) (vs:List (List Nat)),([some (.ref t),some (.int c),some (.str (S ls)),some (.ref L),some (.int z.1),some (.int z.2.1),some (.str (S [z.2.2])),none,none,none,none]:St)=[some (.ref t),some (.int c),some (.str (S ls)),some (.ref L),v4,v5,v6,none,none,none,none]∧Same H (upd H2 L (.lst (Ts us ++ [.str (S [a])])))∧upd H2 L (.lst (Ts us ++ [.str (S [a])])) L=some (.lst (Ts vs))∧vs.length=n + 1∧∀ u∈vs,u.length=1:=fun a=>
    ⟨_,_,_,us ++ [[a]],rfl,sm.upd' hL0,by rw [upd_same,Ts_snoc],by simp [hul],fun u hu=>by
     rcases List.mem_append.mp hu with y | y
     ·exact hu1 u y
     ·rw [List.mem_singleton.mp y];rfl⟩
   have hz2:(Ts us).length < sizeLine:=by rw [List.length_map];exact small1000 (by omega)
   refine ⟨fun σ' H'=>(∃ (v4 v5 v6:Option V) (vs:List (List Nat)),σ'=[some (.ref t),some (.int c),some (.str (S ls)),some (.ref L),v4,v5,v6,none,none,none,none]∧Same H H'∧H' L=some (.lst (Ts vs))∧vs.length=n + 1∧∀ u∈vs,u.length=1),?_,fun σ' H' h=>h⟩
   refine ⟨_,rfl,_,rfl,rfl,[z.2.2],rfl,rfl,by show 1≤1000;decide,fun d hd=>by rw [List.mem_singleton.mp hd];exact hsg.lt,[z.2.2],_,rfl,rfl,_,rfl,?_⟩
   refine ite2 (fun _=>?_) (fun _=>?_)
   ·exact ⟨_,rfl,.inl ⟨rfl,_,SqL.of hL2⟩,_,rfl,L,_,_,rfl,rfl,hL2,hz2,fin _⟩
   ·exact ⟨_,rfl,.inl ⟨rfl,_,SqL.of hL2⟩,L,_,_,rfl,rfl,hL2,hz2,fin 63⟩
  rintro σ H2 ⟨v4,v5,v6,us,rfl,sm,hL2,hul,hu1⟩
  rw [List.length_map] at hul
  have hus7:us.length≤7:=by omega
  have hus1:1≤us.length:=by omega
  refine ⟨fun σ' H'=>∃ (L':Addr) (vs:List (List Nat)),σ'=[some (.ref t),some (.int c),some (.str (S ls)),some (.ref L'),v4,v5,v6,none,none,none,none]∧Same H H'∧H L'=none∧H' L'=some (.lst (Ts vs))∧vs.length≤7∧(∀ u∈vs,u.length=1)∧(c % 3=2→1≤vs.length),?_,?_⟩
  ·refine ⟨_,rfl,_,_,rfl,rfl,(by show (0:Int) < 3;decide),rfl,_,rfl,?_⟩
   by_cases e:c % 3=1
   ·rw [decide_eq_true (show V.int (c % 3)=V.int 1 by rw [e])]
    refine iteT ⟨_,rfl,_,rfl,_,_,rfl,rfl,⟨by decide,by decide⟩,_,rfl,L,_,rfl,.inl (SqL.of hL2),_,_,rfl,rfl,_,_,rfl,rfl,(by show (0:Int) < ((Ts us).length:Int) + 1;omega),_,rfl,L,_,rfl,SqL.of hL2,fun M hM=>?_⟩
    obtain ⟨vs,evs,hvl,hvm⟩:∃ vs:List (List Nat),cutV (Ts us) none (some (c / 3 % (((Ts us).length:Int) + 1)))=Ts vs∧vs.length≤us.length∧∀ x∈vs,x∈us:=by
     refine ⟨_,by unfold cutV Ts;rw [← List.map_drop,← List.map_take],?_,fun x hx=>List.mem_of_mem_drop (List.mem_of_mem_take hx)⟩
     rw [List.length_take,List.length_drop];omega
    dsimp only
    rw [evs]
    exact ⟨M,vs,rfl,sm.upd' (sm.free hM),sm.free hM,upd_same,by omega,fun u hu=>hu1 u (hvm u hu),fun z=>by omega⟩
   ·rw [decide_eq_false (show ¬V.int (c % 3)=V.int 1 from fun z=>e (by injection z))]
    exact iteF ⟨L,us,rfl,sm,hL0,hL2,hus7,hu1,fun _=>hus1⟩
  rintro σ' H3 ⟨L',vs,rfl,s3,nL',hL3,hv7,hv1,hv2⟩
  refine ⟨fun σ' H'=>∃ (v7:Option V) (us:List (List Nat)),σ'=[some (.ref t),some (.int c),some (.str (S ls)),some (.ref L'),v4,v5,v6,v7,none,none,none]∧Same H H'∧H' L'=some (.lst (Ts us))∧us.length≤7∧∀ u∈us,u.length=1,?_,?_⟩
  ·refine ⟨_,rfl,_,_,rfl,rfl,(by show (0:Int) < 3;decide),rfl,_,rfl,?_⟩
   by_cases e:c % 3=2
   ·rw [decide_eq_true (show V.int (c % 3)=V.int 2 by rw [e])]
    have hvp:=hv2 e
    obtain ⟨y,hy,hym⟩:=at_modA (xs:=ls ++ [63]) (n:=ls.length + 1) (by simp) (by omega) (c / 24)
    have hy27:atI (ls ++ [63]) (c / 24 % (((ls ++ [63]).length:Nat):Int))=some y:=by
     have e27:(ls ++ [63]).length=ls.length + 1:=by simp
     rw [e27];exact hy
    have hz27:(ls ++ [63]).length≤sizeLine:=Nat.le_of_lt (small1000 (by rw [List.length_append];simp;omega))
    refine iteT ⟨_,rfl,ls,[63],rfl,rfl,Nat.le_of_lt (small1000 (by show ls.length + 1≤1000;omega)),?_⟩
    refine ⟨_,rfl,_,rfl,_,_,rfl,rfl,⟨by decide,by decide⟩,_,rfl,ls ++ [63],rfl,hz27,_,_,rfl,rfl,(by show (0:Int) < ((ls ++ [63]).length:Int);rw [List.length_append];simp),ls ++ [63],_,y,rfl,rfl,hz27,hy27,?_⟩
    obtain ⟨k,ek,hk⟩:∃ k:Nat,c / 3 % (((Ts vs).length:Nat):Int)=(k:Int)∧k < vs.length:=by
     have hlv:(Ts vs).length=vs.length:=List.length_map ..
     have a1:=Int.emod_nonneg (c / 3) (show (((Ts vs).length:Nat):Int)≠0 by omega)
     have a2:=Int.emod_lt_of_pos (c / 3) (show (0:Int) < (((Ts vs).length:Nat):Int) by omega)
     exact ⟨(c / 3 % (((Ts vs).length:Nat):Int)).toNat,by omega,by omega⟩
    refine ⟨_,rfl,_,rfl,_,_,rfl,rfl,⟨by decide,by decide⟩,_,rfl,L',_,rfl,.inl (SqL.of hL3),_,_,rfl,rfl,(by show (0:Int) < (((Ts vs).length:Nat):Int);rw [List.length_map];omega),L',_,_,k,rfl,rfl,hL3,?_,?_⟩
    ·rw [ek]
     unfold ixN
     rw [List.length_map,if_pos (by omega),if_pos (by omega)];rfl
    ·have eS:(Ts vs).set k (.str (S [y]))=Ts (vs.set k [y]):=by
      show ((vs.map fun l=>V.str (S l)).set k (V.str (S [y])))=(vs.set k [y]).map fun l=>V.str (S l)
      rw [List.map_set]
     rw [eS]
     exact ⟨_,vs.set k [y],rfl,s3.upd' nL',upd_same,by rw [List.length_set];exact hv7,fun u hu=>by
      rcases List.mem_or_eq_of_mem_set hu with z | z
      ·exact hv1 u z
      ·rw [z];rfl⟩
   ·rw [decide_eq_false (show ¬V.int (c % 3)=V.int 2 from fun z=>e (by injection z))]
    exact iteF ⟨_,vs,rfl,s3,hL3,hv7,hv1⟩
  rintro σ' H4 ⟨v7,us,rfl,s4,hL4,hu7,hu1⟩
  have hlu:(Ts us).length=us.length:=List.length_map ..
  refine ⟨_,rfl,L',_,rfl,.inl (SqL.of hL4),_,rfl,by omega,by omega,?_⟩
  refine for_range (lo:=0) (fun n σ H'=>∃ (v9 v10:Option V) (l:List Nat),σ=[some (.ref t),some (.int c),some (.str (S ls)),some (.ref L'),v4,v5,v6,v7,some (.str (S l)),v9,v10]∧H'=H4∧l.length≤n)
   ⟨_,_,[],rfl,rfl,Nat.le_refl _⟩ ?_ ?_
  ·rintro n σ H' hn ⟨v9,v10,l,rfl,rfl,hl⟩
   have hn2:n < us.length:=by omega
   obtain ⟨y,hy,hym⟩:=at_modA (xs:=us) (n:=us.length) rfl (by omega) (0 + (n:Int) + c / 700)
   have hy1:y.length=1:=hu1 y hym
   obtain ⟨k,ek⟩:∃ k:Nat,(0 + (n:Int) + c / 700) % (us.length:Int)=(k:Int):=⟨((0 + (n:Int) + c / 700) % (us.length:Int)).toNat,by have:=Int.emod_nonneg (0 + (n:Int) + c / 700) (show (us.length:Int)≠0 by omega);omega⟩
   have hky:us[k]?=some y:=by
    rw [ek] at hy
    have hk:k < us.length:=by have:=Int.emod_lt_of_pos (0 + (n:Int) + c / 700) (show (0:Int) < (us.length:Int) by omega);omega
    have:=atI_nat (List.getElem?_eq_getElem hk)
    rw [hy] at this
    rw [List.getElem?_eq_getElem hk,← Option.some.inj this]
   refine ⟨_,rfl,_,rfl,_,rfl,_,_,rfl,rfl,⟨by decide,by decide⟩,_,_,rfl,rfl,_,rfl,L',_,rfl,.inl (SqL.of hL4),_,_,rfl,rfl,(by show (0:Int) < (((Ts us).length:Nat):Int);omega),L',_,_,.str (S y),rfl,rfl,SqL.of hL4,?_,?_⟩
   ·rw [hlu,ek]
    exact atI_nat (Ts_at hky)
   have fin:∀ m:List Nat,m.length≤n + 1→∃ (w9 w10:Option V) (l:List Nat),([some (.ref t),some (.int c),some (.str (S ls)),some (.ref L'),v4,v5,v6,v7,some (.str (S m)),some (.int (0 + (n:Int))),some (.str (S y))]:St)=[some (.ref t),some (.int c),some (.str (S ls)),some (.ref L'),v4,v5,v6,v7,some (.str (S l)),w9,w10]∧H'=H'∧l.length≤n + 1:=fun m hm=>⟨_,_,m,rfl,rfl,hm⟩
   refine ⟨fun σ' H''=>∃ (w9 w10:Option V) (l:List Nat),σ'=[some (.ref t),some (.int c),some (.str (S ls)),some (.ref L'),v4,v5,v6,v7,some (.str (S l)),w9,w10]∧H''=H'∧l.length≤n + 1,?_,fun σ' H'' h=>h⟩
   have add:∀ _:True,∃ (i j:List Nat),V.str (S l)=.str (S i)∧V.str (S y)=.str (S j)∧i.length + j.length≤sizeLine∧i ++ j=l ++ y:=fun _=>⟨l,y,rfl,rfl,Nat.le_of_lt (small1000 (by omega)),rfl⟩
   refine ⟨_,rfl,y,[63],rfl,rfl,_,rfl,?_⟩
   refine ite2 (fun _=>?_) (fun _=>?_)
   ·refine iteT ⟨_,rfl,_,rfl,l,y,rfl,rfl,Nat.le_of_lt (small1000 (by omega)),fin _ (by rw [List.length_append];omega)⟩
   ·refine ⟨_,rfl,rfl,l,[63],rfl,rfl,fun m=>⟨_,_,rfl,rfl,_,rfl,?_⟩⟩
    refine ite2 (fun _=>?_) (fun _=>?_)
    ·exact ⟨_,rfl,_,rfl,l,y,rfl,rfl,Nat.le_of_lt (small1000 (by omega)),fin _ (by rw [List.length_append];omega)⟩
    ·exact fin l (by omega)
  rintro σ' H' ⟨v9,v10,l,rfl,rfl,hl⟩
  refine ⟨fun σ' H''=>∃ l:List Nat,σ'=[some (.ref t),some (.int c),some (.str (S ls)),some (.ref L'),v4,v5,v6,v7,some (.str (S l)),v9,v10]∧H''=H'∧l.length≤7,?_,?_⟩
  ·refine ⟨fun mm σ H''=>∃ l:List Nat,σ=[some (.ref t),some (.int c),some (.str (S ls)),some (.ref L'),v4,v5,v6,v7,some (.str (S l)),v9,v10]∧H''=H'∧l.length≤7∧mm=7 - l.length,⟨_,l,rfl,rfl,by omega,rfl⟩,?_⟩
   rintro mm σ H'' ⟨l,rfl,rfl,hl7,rfl⟩
   have hzL:l.length≤sizeLine:=Nat.le_of_lt (small1000 (by omega))
   refine ⟨_,rfl,l,rfl,hzL,_,_,rfl,rfl,_,rfl,?_⟩
   by_cases c1:(l.length:Int) < 7
   ·rw [decide_eq_true c1]
    refine iteT ⟨_,rfl,_,_,rfl,rfl,⟨by decide,by decide⟩,_,_,rfl,rfl,(by show (0:Int) < 2;decide),rfl,_,rfl,?_⟩
    refine ite2 (fun _=>?_) (fun _=>⟨l,rfl,rfl,hl7⟩)
    refine ⟨fun σ' H'''=>∃ l2:List Nat,σ'=[some (.ref t),some (.int c),some (.str (S ls)),some (.ref L'),v4,v5,v6,v7,some (.str (S l2)),v9,v10]∧H'''=H''∧l2.length=l.length + 1,?_,?_⟩
    ·rintro σ' H''' ⟨l2,rfl,rfl,e2⟩
     exact ⟨7 - l2.length,by omega,l2,rfl,rfl,by omega,rfl⟩
    ·refine ⟨_,rfl,_,rfl,_,rfl,_,rfl,l,rfl,hzL,c,l.length,rfl,by omega,fun d=>?_⟩
     obtain ⟨y,hy,hym⟩:=at_modA (xs:=ls) (n:=ls.length) rfl (by omega) d
     exact ⟨_,rfl,ls,rfl,hzl,_,_,rfl,rfl,(by show (0:Int) < (ls.length:Int);omega),ls,_,y,rfl,rfl,hzl,hy,l,[y],rfl,rfl,Nat.le_of_lt (small1000 (by show l.length + 1≤1000;omega)),l ++ [y],rfl,rfl,by simp⟩
   ·rw [decide_eq_false c1]
    exact iteF (iteF ⟨l,rfl,rfl,hl7⟩)
  rintro σ' H'' ⟨l,rfl,rfl,hl7⟩
  exact ⟨_,rfl,q l _ s4 hl7⟩
end
end My
end
section
set_option Elab.async false
set_option linter.all false
set_option maxRecDepth 100000
set_option maxHeartbeats 2000000
namespace My
open PySem L2
section
variable {P:Program} {w:World} {K:PySem.W.Frag} {mg:Str→Option Value} {base:Heap}
theorem rise_of {ts:List Trip} {r w:Nat} (w9:w≤9) (hin:∀ t∈ts,inB r w t) (h:RiseL ts):riseC (ts.map cellT)=true:=by
 unfold riseC
 rw [List.all_eq_true]
 intro p hp
 obtain ⟨i,hi,e⟩:=List.mem_iff_getElem.mp hp
 have hl:=hi
 rw [List.length_zip,List.length_drop,List.length_map] at hl
 rw [List.getElem_zip,List.getElem_drop,List.getElem_map,List.getElem_map] at e
 have h1:i < ts.length:=by omega
 have h2:1 + i < ts.length:=by omega
 have w1:=(hin _ (List.getElem_mem h1)).2.1
 have w2:=(hin _ (List.getElem_mem h2)).2.1
 rw [← e]
 refine decide_eq_true ?_
 show ts[i].1 * 1000 + ts[i].2.1 < ts[1 + i].1 * 1000 + ts[1 + i].2.1
 rcases h with h | h
 ·have:=List.pairwise_iff_getElem.mp h i (1 + i) h1 h2 (by omega)
  omega
 ·have:=List.pairwise_iff_getElem.mp h i (1 + i) h1 h2 (by omega)
  omega
def VdC.all (c:VdC):List Addr:=[c.lay,c.tak,c.crk,c.gap,c.apt,c.lck,c.nw]
structure VdF (K:PySem.W.Frag) (c:VdC) (os:List Addr):Prop where
 lay:ClsIx K c.all os c.lay 0
 tak:ClsIx K c.all os c.tak 1
 crk:ClsIx K c.all os c.crk 2
 gap:ClsIx K c.all os c.gap 3
 apt:ClsIx K c.all os c.apt 4
 lck:ClsIx K c.all os c.lck 5
 nw:ClsIx K c.all os c.nw 6
 non:PySem.W.kitOne K (.type "NoneType") (.ref c.lay)=some false
theorem cut_mem {ds:List Int} {lo hi:Option Int} {v:V} (h:v∈cutV (ds.map V.int) lo hi):∃ d:Int,v=.int d:=by
 unfold cutV at h
 have h2:=List.mem_of_mem_drop (List.mem_of_mem_take h)
 obtain ⟨d,hd,e⟩:=List.mem_map.mp h2
 exact ⟨d,e.symm⟩
theorem vd_of_due {rows:List (List Nat)} {r w bi bj:Nat} {ws:List (List Nat)} {rack:List Nat} {ts:List Trip} {x y:Nat} {v:Vd} (h:DueR rows r w bi bj ts 9 x y) (g:VdR rows r w bi bj ws rack ts v) :
  (∃ t,v=.lck t∧goF (rack.map fun c=>[c]) (ts.map (·.2.2))=.inl t)∨(∃ left,goF (rack.map fun c=>[c]) (ts.map (·.2.2))=.inr left∧((∃ l,v=.nw l∧mwF rows ws ts=some l)∨(v=.ok∧mwF rows ws ts=none))):=by
 cases h with
 | ok d1 d2 d3 d4=>
  cases g with
  | tak h=>rw [d1] at h;cases h
  | crk _ h=>rw [d2] at h;cases h
  | gap _ _ h=>exact absurd h.fr (d3 _ _ h.i1 h.i2 h.j1 h.j2)
  | apt _ _ _ h=>rw [d4] at h;cases h
  | lck _ _ _ _ h=>exact .inl ⟨_,rfl,h⟩
  | nw _ _ _ _ h5 h=>obtain ⟨left,e⟩:=h5;exact .inr ⟨left,e,.inl ⟨_,rfl,h⟩⟩
  | ok _ _ _ _ h5 h=>obtain ⟨left,e⟩:=h5;exact .inr ⟨left,e,.inr ⟨rfl,h⟩⟩
def tileC (t:Nat):Prop:=t < 128
theorem tile_lt {c:Nat} (h:sgC c):tileC (tileF c):=by
 have:=h.lt
 unfold tileC tileF
 split <;> omega
theorem mw_nil {rows:List (List Nat)} {ts:List Trip}:mwF rows [] ts≠none:=by
 unfold mwF
 split
 ·intro z;cases z
 ·next h=>
  cases e:wordsF rows ts with
  | nil=>exact absurd e h
  | cons q W=>rw [List.find?_cons_of_pos (show misQ [] q=true by unfold misQ;simp)];intro z;cases z
theorem ok_law {C CB f g0 g1:Addr} {c:VdC} {os:List Addr} {fd fe0 fe1:FuncData} (F:Fun K "law" "law" s_law f fd) (VF:VdF K c os) (hlk:PySem.W.hasDictIn K c.lck=true) (nlk:PySem.W.findIn K (.ref c.lck) "tile"=some none)
  (T_Board:BoardCls K C) (mg_Board:mg "Board"=some (.ref C)) (M_Board:Mk K C g0) (G_Board:FnOk P w K mg base CX0 5 g0 fe0 ["self","rows","marks","begin"] (spBInit C)) (b_Board:Binds K fe0 ["self","rows","marks","begin"] [])
  (T_Book:BookCls K CB) (mg_Book:mg "Book"=some (.ref CB)) (M_Book:Mk K CB g1) (G_Book:FnOk P w K mg base CX0 3 g1 fe1 ["self","words"] (spInit K CB)) (b_Book:Binds K fe1 ["self","words"] [])
  (D_letters:Def P w K mg base "_law_letters" 1 ["_law_cell"] spLetC) (D_cell_at:Def P w K mg base "_law_cell_at" 1 ["_law_script","_law_k"] (spCell K)) (D_rows:Def P w K mg base "_law_rows" 2 ["_law_script","_law_letters_here"] (spRowsK K)) (D_marks:Def P w K mg base "_law_marks" 2 ["_law_rows_here","_law_cell"] spMarksD)
  (D_draw:Def P w K mg base "_law_draw" 1 ["_law_cell","_law_j"] spDraw) (D_straight:Def P w K mg base "_law_straight" 3 ["_law_rows_here","_law_cell","_law_letters_here","_law_many"] spStraight) (D_rack:Def P w K mg base "_law_rack" 2 ["_law_laying","_law_cell","_law_letters_here"] spRackK)
  (D_lacking:Def P w K mg base "_law_lacking" 1 ["_law_rack_here","_law_laying"] spLack) (D_cells_due:Def P w K mg base "_law_cells_due" 3 ["_law_rows_here","_law_begin","_law_laying"] spCDue)
  (D_class:Def P w K mg base "_law_class" 1 ["_law_error"] (spClass K c.all os)) (D_caught:Def P w K mg base "_law_caught" 16 ["_law_board","_law_book","_law_rack_here","_law_laying"] (spCaught K C CB c)):FnOk P w K mg base CX0 18 f fd ["_law_script"] (spLaw K):=by
 refine F.qok sc_law (fun vs H Q E h=>?_) (fun cdv A outer s H vs Q E hr h=>?_)
 ·obtain ⟨a,ns,rfl,_⟩:=h
  rfl
 ·obtain ⟨a,ns,rfl,hS,hn,q⟩:=h
  refine ⟨_,(qss_cons (qs_set (i:=1) sc_law.nd rfl (Or.inl rfl) (qe_own D_letters (hr.mono (by decide)) rfl (qa_cons (qe_own D_cell_at (hr.mono (by decide)) rfl (qa_cons (qv 0) (qa_cons qe_int qa_nil))) qa_nil))) (qss_cons (qs_set (i:=2) sc_law.nd rfl (Or.inl rfl) (qe_own D_rows (hr.mono (by decide)) rfl (qa_cons (qv 0) (qa_cons (qv 1) qa_nil)))) (qss_cons (qs_set (i:=3) sc_law.nd rfl (Or.inl rfl) (qe_make M_Board G_Board (hr.mono (by decide)) rfl mg_Board b_Board .nil pass0 (qa_cons (qv 2) (qa_cons (qe_own D_marks (hr.mono (by decide)) rfl (qa_cons (qv 2) (qa_cons (qe_own D_cell_at (hr.mono (by decide)) rfl (qa_cons (qv 0) (qa_cons qe_int qa_nil))) qa_nil))) (qa_cons (qe_tup (qa_cons qe_int (qa_cons qe_int qa_nil))) qa_nil))))) (qss_cons (qs_set (i:=4) sc_law.nd rfl (Or.inl rfl) (qe_make M_Book G_Book (hr.mono (by decide)) rfl mg_Book b_Book .nil pass0 (qa_cons (qe_lst qa_nil) qa_nil))) (qss_cons (qs_for PassesOwn.never rfl (qi_list (qe_slice sl_list (qv 0) (qo_some qe_int) (qo_some qe_int))) (qg_name (i:=5) sc_law.nd rfl (Or.inl rfl)) (qss_cons (qs_set (i:=6) sc_law.nd rfl (Or.inl rfl) (qe_own D_straight (hr.mono (by decide)) rfl (qa_cons (qv 2) (qa_cons (qe_own D_draw (hr.mono (by decide)) rfl (qa_cons (qv 5) (qa_cons qe_int qa_nil))) (qa_cons (qv 1) (qa_cons (qe_op op_add qe_int (qe_op op_mod (qv 5) qe_int)) qa_nil)))))) (qss_cons (qs_set (i:=7) sc_law.nd rfl (Or.inl rfl) (qe_own D_rack (hr.mono (by decide)) rfl (qa_cons (qv 6) (qa_cons (qe_own D_draw (hr.mono (by decide)) rfl (qa_cons (qv 5) (qa_cons qe_int qa_nil))) (qa_cons (qv 1) qa_nil))))) (qss_cons (qs_cut (qs_set (i:=8) sc_law.nd rfl (Or.inl rfl) (qe_own D_lacking (hr.mono (by decide)) rfl (qa_cons (qv 7) (qa_cons (qv 6) qa_nil))))) (qss_one (qs_cut (qs_if (qt_cmpR op_eq (qe_ix ix_tup (qe_own D_cells_due (hr.mono (by decide)) rfl (qa_cons (qv 2) (qa_cons (qe_tup (qa_cons qe_int (qa_cons qe_int qa_nil))) (qa_cons (qv 6) qa_nil)))) qe_int (fun _ _=>rfl)) qe_int (nomark _)) (qss_one (qs_for PassesOwn.never rfl (qi_list (qe_lst (qa_cons (qv 7) (qa_cons (qe_revS (qv 7) (qe_un un_neg qe_int)) (qa_cons (qv 7) qa_nil))))) (qg_name (i:=9) sc_law.nd rfl (Or.inl rfl)) (qss_cons (qs_set (i:=10) sc_law.nd rfl (Or.inl rfl) (qe_own D_caught (hr.mono (by decide)) rfl (qa_cons (qv 3) (qa_cons (qv 4) (qa_cons (qv 9) (qa_cons (qv 6) qa_nil)))))) (qss_cons (qs_if (QW.qt (qw_or (QW.qt (qw_and (qt_cmpR op_isN (qv 8) qe_non (nomark _)) (qw_and1 (qt_cmpR op_ne (qe_own D_class (hr.mono (by decide)) rfl (qa_cons (qv 10) qa_nil)) qe_int (nomark _))))) (qw_or1 (QW.qt (qw_and (qt_cmpR op_notN (qv 8) qe_non (nomark _)) (qw_and1 (qt_cmpR op_ne (qe_own D_class (hr.mono (by decide)) rfl (qa_cons (qv 10) qa_nil)) qe_int (nomark _)))))))) (qss_one (qs_ret qe_bl)) qss_nil) (qss_one (qs_if (QW.qt (qw_and (qt_cmpR op_notN (qv 8) qe_non (nomark _)) (qw_and1 (qt_cmpR (op_neD hr.units) (qe_fldX (qv 10) rfl) (qv 8) (nomark _))))) (qss_one (qs_ret qe_bl)) qss_nil)))))) qss_nil))))))) (qss_one (qs_ret qe_bl))))))),?_⟩
  refine ⟨_,rfl,a,ns,0,rfl,hS,fun c0=>⟨c0,rfl,fun ls H1 s1 hA=>?_⟩⟩
  refine ⟨_,rfl,_,rfl,a,ns,ls,rfl,s1.seq hS,hA,fun pr rows r w H2 s2 hpr hb r1 r9 w1 w9 hro hfree=>?_⟩
  have sH2:=s1.trans s2
  refine ⟨_,rfl,_,rfl,_,rfl,a,ns,2,rfl,sH2.seq hS,fun c2=>⟨pr,rows,r,w,c2,rfl,hpr,hb,r1,r9,w9,fun pm marks H3 s3 hpm hbm hmk=>?_⟩⟩
  refine ⟨by show 2≤sizeLine;decide,fun pb hpb=>?_⟩
  have kb:Same H3 (upd H3 pb (HO.tup [V.int 0,V.int 0])):=Same.upd hpb
  have hpb4:upd H3 pb (HO.tup [V.int 0,V.int 0]) pb=some (.tup [.int ((0:Nat):Int),.int ((0:Nat):Int)]):=upd_same
  have hpr4:=kb _ _ (s3 _ _ hpr)
  have hpm4:=kb _ _ hpm
  have sH4:=(sH2.trans s3).trans kb
  generalize upd H3 pb (HO.tup [V.int 0,V.int 0])=H4 at kb hpb4 hpr4 hpm4 sH4 ⊢
  have B:Brd r w rows marks 0 0:=⟨r1,r9,w1,w9,hb,hbm,hro,hmk,r1,w1⟩
  intro b dx nx ndx nex
  have t2:Same H4 (upd (upd H4 dx (HO.own b)) b (HO.ins C dx [])):=fun c o e=>by rw [upd_ne (ne_of_none e nx),upd_ne (ne_of_none e ndx)];exact e
  refine ⟨b,dx,pr,pm,pb,r,w,rows,marks,0,0,rfl,upd_same,t2 _ _ hpr4,t2 _ _ hpm4,t2 _ _ hpb4,B,fun H5 kp hx5=>⟨rfl,?_⟩⟩
  have t3:Same H4 H5:=fun c o e=>kp c o (t2 c o e) (ne_of_none e nx)
  have hpr5:=t3 _ _ hpr4
  have BA:BoardAt C H5 b r w rows marks 0 0:=⟨⟨dx,pr,pm,pb,hx5,hpr5,t3 _ _ hpm4,t3 _ _ hpb4⟩,B⟩
  have sH5:=sH4.trans t3
  refine ⟨by show 0≤sizeLine;decide,fun Lw hLw=>?_⟩
  have kw:Same H5 (upd H5 Lw (HO.lst [])):=Same.upd hLw
  have ew:upd H5 Lw (HO.lst []) Lw=some (.lst (Ts [])):=upd_same
  generalize upd H5 Lw (HO.lst [])=H6 at kw ew ⊢
  intro k dk nk ndk nek
  have t4:Same H6 (upd (upd H6 dk (HO.own k)) k (HO.ins CB dk [])):=fun c o e=>by rw [upd_ne (ne_of_none e nk),upd_ne (ne_of_none e ndk)];exact e
  refine ⟨k,dk,Lw,[],rfl,upd_same,.inl (SqL.of (t4 _ _ ew)),fun l hl=>by simp at hl,by decide,fun d bs H7 _ BK hbs _ kp7=>⟨rfl,?_⟩⟩
  have ebs:bs=[]:=List.eq_nil_iff_forall_not_mem.mpr fun x hx=>by have:=(hbs x).mp hx;simp at this
  subst ebs
  have t7:Same H5 H7:=fun c o e=>kp7 c o (t4 c o (kw c o e)) (ne_of_none (kw c o e) nk)
  have BA7:=BA.mv t7
  have hpr7:=t7 _ _ hpr5
  have sH7:=sH5.trans t7
  refine ⟨_,rfl,_,rfl,_,rfl,a,_,rfl,sH7.seq hS,fun ta hta=>?_⟩
  generalize hxs:cutV (ns.map V.int) (some 3) (some 63)=xs
  have kta:Same H7 (upd H7 ta (HO.lst xs)):=Same.upd hta
  have hta8:upd H7 ta (HO.lst xs) ta=some (.lst xs):=upd_same
  generalize upd H7 ta (HO.lst xs)=H8 at kta hta8 ⊢
  refine ⟨ta,rfl,⟨_,SqL.of hta8⟩,for_list (K:=K) (a:=ta) (xs:=xs) (fun n σ H'=>∃ v5 v6 v7 v8 v9 v10:Option V,σ=[some (.ref a),some (.str (S ls)),some (.ref pr),some (.ref b),some (.ref k),v5,v6,v7,v8,v9,v10]∧Same H8 H')
   ⟨none,none,none,none,none,none,rfl,Same.refl _⟩ (fun n σ H' _ h=>by obtain ⟨_,_,_,_,_,_,_,sm⟩:=h;exact SqL.of (sm _ _ hta8)) ?_ ?_⟩
  ·rintro n x σ H9 hx ⟨v5,v6,v7,v8,v9,v10,rfl,s9⟩
   obtain ⟨cc,rfl⟩:∃ cc:Int,x=.int cc:=by
    have:=List.mem_of_getElem? hx
    rw [← hxs] at this
    exact cut_mem this
   obtain ⟨m,hm,hm1,hm7⟩:∃ m:Nat,1 + cc % 7=(m:Int)∧1≤m∧m≤7:=⟨(1 + cc % 7).toNat,by omega,by omega,by omega⟩
   have k9:=kta.trans s9
   have hpr9:=k9 _ _ hpr7
   refine ⟨_,rfl,_,rfl,cc,1,rfl,by decide,fun cd=>?_⟩
   refine ⟨_,rfl,_,rfl,_,_,rfl,rfl,(by show (0:Int) < 7;decide),_,_,rfl,rfl,pr,rows,r,w,cd,ls,m,by show [V.ref pr,V.int cd,V.str (S ls),V.int (1 + cc % 7)]=_;rw [hm],hpr9,hb,r1,r9,w1,w9,hfree,hA,hm1,hm7,fun t as ts H10 s10 ht hL hin hne h7 hrl=>?_⟩
   have h0:0 < ts.length:=List.length_pos_iff.mpr hne
   have hri:=rise_of w9 hin hrl
   refine ⟨_,rfl,_,rfl,cc,2,rfl,by decide,fun cd2=>?_⟩
   refine ⟨_,rfl,t,as,ts,cd2,ls,r,w,rfl,ht,hL,hin,h0,h7,hA,fun rk' H11 s11 hr7=>?_⟩
   have hL11:=hL.mv s11
   have ht11:=s11 _ _ ht
   have k11:=(k9.trans s10).trans s11
   refine ⟨fun σ' H'=>∃ due:V,σ'=[some (.ref a),some (.str (S ls)),some (.ref pr),some (.ref b),some (.ref k),some (.int cc),some (.ref t),some (.str (S rk')),some due,v9,v10]∧Same H11 H'∧((∃ tl,due=.str (S [tl])∧goF (rk'.map fun c=>[c]) (ts.map (·.2.2))=.inl tl)∨(∃ left,due=.non∧goF (rk'.map fun c=>[c]) (ts.map (·.2.2))=.inr left)),?_,?_⟩
   ·exact ⟨_,rfl,_,rfl,rk',t,as,ts,r,w,rfl,by omega,ht11,hL11,hin,fun tl e H' s'=>⟨_,rfl,s',.inl ⟨tl,rfl,e⟩⟩,fun left e H' s'=>⟨_,rfl,s',.inr ⟨left,rfl,e⟩⟩⟩
   rintro σ' H12 ⟨due,rfl,s12,hdue⟩
   have k12:=k11.trans s12
   have m12:=s10.trans (s11.trans s12)
   have q12:=s11.trans s12
   refine ⟨fun σ' H'=>∃ v5 v6 v7 v8 v9 v10:Option V,σ'=[some (.ref a),some (.str (S ls)),some (.ref pr),some (.ref b),some (.ref k),v5,v6,v7,v8,v9,v10]∧Same H8 H',?_,fun σ' H' h=>h⟩
   refine ⟨_,rfl,by show 2≤sizeLine;decide,fun pb2 hpb2=>?_⟩
   have kp2:Same H12 (upd H12 pb2 (HO.tup [V.int 0,V.int 0])):=Same.upd hpb2
   have ep2:upd H12 pb2 (HO.tup [V.int 0,V.int 0]) pb2=some (.tup [.int ((0:Nat):Int),.int ((0:Nat):Int)]):=upd_same
   generalize upd H12 pb2 (HO.tup [V.int 0,V.int 0])=H13 at kp2 ep2 ⊢
   have k13:=k12.trans kp2
   have q13:=q12.trans kp2
   refine ⟨_,rfl,pr,pb2,t,rows,r,w,0,0,as,ts,rfl,k13 _ _ hpr7,hb,r1,r9,w1,w9,hro,ep2,q13 _ _ ht,hL.mv q13,hin,h0,h7,fun T d9 x9 y9 H14 s14 hdr hT=>?_⟩
   have k14:=k13.trans s14
   have q14:=q13.trans s14
   have n14:=s10.trans q14
   refine ⟨T,_,_,.int d9,rfl,rfl,SqT.of hT,atI_nat (j:=0) rfl,rfl,_,rfl,?_⟩
   by_cases h9:d9=9
   ·subst h9
    rw [decide_eq_true (show V.int ((9:Nat):Int)=V.int 9 from rfl)]
    have hz7:rk'.length≤sizeLine:=Nat.le_of_lt (small1000 (by omega))
    refine iteT ⟨_,rfl,_,rfl,_,rfl,rk',rfl,rfl,hz7,_,rfl,by show 3≤sizeLine;decide,fun Lr hLr=>?_⟩
    have kr:Same H14 (upd H14 Lr (HO.lst [.str (S rk'),.str (S rk'.reverse),.str (S rk')])):=Same.upd hLr
    have er:upd H14 Lr (HO.lst [.str (S rk'),.str (S rk'.reverse),.str (S rk')]) Lr=some (.lst (Ts [rk',rk'.reverse,rk'])):=upd_same
    generalize upd H14 Lr (HO.lst [.str (S rk'),.str (S rk'.reverse),.str (S rk')])=H15 at kr er ⊢
    have k15:=k14.trans kr
    have q15:=q14.trans kr
    refine ⟨Lr,rfl,⟨_,SqL.of er⟩,for_list (K:=K) (a:=Lr) (xs:=Ts [rk',rk'.reverse,rk']) (fun n σ H'=>∃ v9 v10:Option V,σ=[some (.ref a),some (.str (S ls)),some (.ref pr),some (.ref b),some (.ref k),some (.int cc),some (.ref t),some (.str (S rk')),some due,v9,v10]∧Same H15 H')
     ⟨_,_,rfl,Same.refl _⟩ (fun n σ H' _ h=>by obtain ⟨_,_,_,sm⟩:=h;exact SqL.of (sm _ _ er)) ?_ ?_⟩
    ·rintro n2 x σ H16 hx ⟨w9',w10',rfl,s16⟩
     obtain ⟨sr,hsr,rfl⟩:=Ts_get hx
     have hpm:sr.Perm rk':=by
      have:=List.mem_of_getElem? hsr
      simp only [List.mem_cons,List.not_mem_nil,or_false] at this
      rcases this with e | e | e
      ·rw [e]
      ·rw [e];exact List.reverse_perm _
      ·rw [e]
     have hgp:=goF_perm (ts.map (·.2.2)) _ _ (hpm.map fun c=>[c])
     have k16:=k15.trans s16
     have q16:=q15.trans s16
     refine ⟨_,rfl,_,rfl,_,rfl,_,rfl,b,k,d,[],sr,.ref t,r,w,rows,marks,0,0,rfl,BA7.mv k16,BK.mv k16,by rw [hpm.length_eq];omega,.inr ⟨t,as,ts,rfl,q16 _ _ ht,hL.mv q16,hin,h0,h7,hri,fun vd cls dd e H17 hv1 hv2 s17 he=>?_,fun hv1 H17 s17=>?_⟩⟩
     ·have s1617:=s16.trans s17
      rcases vd_of_due hdr hv1 with ⟨t1,rfl,hg⟩ | ⟨left,hg,⟨l,rfl,_⟩ | ⟨_,hn⟩⟩
      ·
       obtain ⟨rfl,dx2,rfl,hdx⟩:=hv2
       obtain ⟨rfl,ht1⟩:due=.str (S [t1])∧tileC t1:=by
        rcases hdue with ⟨tl,rfl,hd⟩ | ⟨left,rfl,hd⟩
        ·rcases hgp with ⟨t2,g1,g2⟩ | ⟨l1,l2,g1,g2,_⟩
         ·rw [hg] at g1
          rw [hd] at g2
          injection g1 with g1
          injection g2 with g2
          obtain ⟨cz,hcz,ecz⟩:=goF_tile _ _ _ hd
          obtain ⟨uz,huz,rfl⟩:=List.mem_map.mp hcz
          exact ⟨by rw [g2,g1],by rw [g1,← g2,ecz];exact tile_lt (hin uz huz).2.2⟩
         ·rw [hg] at g1;cases g1
        ·rcases hgp with ⟨t2,g1,g2⟩ | ⟨l1,l2,g1,g2,_⟩
         ·rw [hd] at g2;cases g2
         ·rw [hg] at g1;cases g1
       refine ⟨_,rfl,rfl,_,rfl,?_⟩
       rw [decide_eq_false (show ¬V.str (S [t1])=V.non from fun z=>nomatch z)]
       refine iteF (iteF ⟨_,rfl,rfl,_,rfl,?_⟩)
       rw [decide_eq_false (show ¬V.str (S [t1])=V.non from fun z=>nomatch z)]
       refine iteT ⟨_,rfl,e,c.lck,some dx2,5,rfl,he,⟨_,hdx⟩,VF.lck,fun H18 s18=>⟨rfl,_,rfl,iteNS rfl ?_⟩⟩
       refine ⟨_,rfl,rfl,_,rfl,?_⟩
       rw [decide_eq_false (show ¬V.str (S [t1])=V.non from fun z=>nomatch z)]
       refine iteT ⟨_,rfl,e,c.lck,dx2,_,_,rfl,s18 _ _ he,s18 _ _ hdx,VF.lck.is,hlk,nlk,rfl,_,rfl,1,.str [t1],.str [t1],by decide,.str _ fun c hc=>by rw [List.mem_singleton.mp hc];exact ht1,.str _ fun c hc=>by rw [List.mem_singleton.mp hc];exact ht1,_,rfl,?_⟩
       simp only [if_true,decide_true,Bool.not_true]
       exact iteF ⟨_,_,rfl,s1617.trans s18⟩
      ·
       obtain ⟨rfl,dx2,rfl,hdx⟩:=hv2
       have:due=.non:=by
        rcases hdue with ⟨tl,rfl,hd⟩ | ⟨left,rfl,hd⟩
        ·rcases hgp with ⟨t2,g1,g2⟩ | ⟨l1,l2,g1,g2,_⟩
         ·rw [hg] at g1;cases g1
         ·rw [hd] at g2;cases g2
        ·rfl
       subst this
       refine ⟨_,rfl,rfl,_,rfl,?_⟩
       rw [decide_eq_true (show V.non=V.non from rfl)]
       refine iteT ⟨_,rfl,e,c.nw,some dx2,6,rfl,he,⟨_,hdx⟩,VF.nw,fun H18 s18=>⟨rfl,_,rfl,iteNS rfl ⟨_,rfl,rfl,_,rfl,?_⟩⟩⟩
       rw [decide_eq_true (show V.non=V.non from rfl)]
       refine iteF (iteF ⟨_,rfl,rfl,_,rfl,?_⟩)
       rw [decide_eq_true (show V.non=V.non from rfl)]
       exact iteF (iteF ⟨_,_,rfl,s1617.trans s18⟩)
      ·exact absurd hn mw_nil
     ·rcases vd_of_due hdr hv1 with ⟨t1,z,_⟩ | ⟨left,hg,⟨l,z,_⟩ | ⟨_,hn⟩⟩
      ·cases z
      ·cases z
      ·exact absurd hn mw_nil
    ·rintro σ H16 ⟨w9',w10',rfl,s16⟩
     exact ⟨_,_,_,_,_,_,rfl,s9.trans (n14.trans (kr.trans s16))⟩
   ·rw [decide_eq_false (show ¬V.int (d9:Int)=V.int 9 from fun z=>h9 (by injection z with z;omega))]
    exact iteF ⟨_,_,_,_,_,_,rfl,s9.trans n14⟩
  ·rintro σ H9 ⟨v5,v6,v7,v8,v9,v10,rfl,s9⟩
   exact q _
end
end My
end
set_option Elab.async false
set_option linter.all false
set_option maxRecDepth 100000
set_option maxHeartbeats 2000000
namespace My
open PySem L2
section
variable {P:Program} {w:World} {K:PySem.W.Frag} {mg:Str→Option Value} {base:Heap}
structure BoardFacts (K:PySem.W.Frag) (mg:Str→Option Value) (C f0 f1 f2 f3 f4:Addr) (fd0 fd1 fd2 fd3 fd4:FuncData):Prop where
 T:BoardCls K C
 mgC:mg "Board"=some (.ref C)
 M:Mk K C f0
 F0:Fun K "__init__" "Board.__init__" s_Board_init f0 fd0
 b0:Binds K fd0 ["self","rows","marks","begin"] []
 F1:Fun K "at" "Board.at" s_Board_at f1 fd1
 b1:Binds K fd1 ["self","row","column"] []
 m1:Meth K C "at" f1
 F2:Fun K "is_free" "Board.is_free" s_Board_is_free f2 fd2
 b2:Binds K fd2 ["self"] []
 m2:Meth K C "is_free" f2
 F3:Fun K "run" "Board.run" s_Board_run f3 fd3
 b3:Binds K fd3 ["self","row","column","way"] []
 m3:Meth K C "run" f3
 F4:Fun K "laid" "Board.laid" s_Board_laid f4 fd4
 b4:Binds K fd4 ["self","laying"] []
 m4:Meth K C "laid" f4
theorem Board_mk {h:Heap} {C f0 f1 f2 f3 f4:Addr} (X:K.In h) (G:h.Ns mainGlobals mg)
  {od0 an0 od1 an1 od2 an2 od3 an3 od4 an4:Option Addr} {sl0 sl1 sl2 sl3 sl4:Array (Option Value)} {oc0 kV0 dc0 pm0 cd0 ct0 oc1 kV1 dc1 pm1 cd1 ct1 oc2 kV2 dc2 pm2 cd2 ct2 oc3 kV3 dc3 pm3 cd3 ct3 oc4 kV4 dc4 pm4 cd4 ct4:Value}
  (aC:PySem.W.nsIn K mainGlobals "Board"=some (some (.ref C)))
  (a0:PySem.W.findIn K (.ref C) "__init__"=some (some (.ref f0))) (i0:PySem.W.isFn K (.ref f0)=true) (l0:K.lookup f0=some ⟨oc0,od0,.func (PySem.W.fnOf "__init__" "Board.__init__" (defArgs s_Board_init) (defBody s_Board_init) (defScope s_Board_init) .none kV0 dc0 pm0 an0 cd0 ct0),sl0⟩) (c0:PySem.W.codeIn K cd0 "Board.__init__"=true) (k0:PySem.W.keepIn K (.ref f0)=true)
  (a1:PySem.W.findIn K (.ref C) "at"=some (some (.ref f1))) (i1:PySem.W.isFn K (.ref f1)=true) (l1:K.lookup f1=some ⟨oc1,od1,.func (PySem.W.fnOf "at" "Board.at" (defArgs s_Board_at) (defBody s_Board_at) (defScope s_Board_at) .none kV1 dc1 pm1 an1 cd1 ct1),sl1⟩) (c1:PySem.W.codeIn K cd1 "Board.at"=true) (k1:PySem.W.keepIn K (.ref f1)=true)
  (a2:PySem.W.findIn K (.ref C) "is_free"=some (some (.ref f2))) (i2:PySem.W.isFn K (.ref f2)=true) (l2:K.lookup f2=some ⟨oc2,od2,.func (PySem.W.fnOf "is_free" "Board.is_free" (defArgs s_Board_is_free) (defBody s_Board_is_free) (defScope s_Board_is_free) .none kV2 dc2 pm2 an2 cd2 ct2),sl2⟩) (c2:PySem.W.codeIn K cd2 "Board.is_free"=true) (k2:PySem.W.keepIn K (.ref f2)=true)
  (a3:PySem.W.findIn K (.ref C) "run"=some (some (.ref f3))) (i3:PySem.W.isFn K (.ref f3)=true) (l3:K.lookup f3=some ⟨oc3,od3,.func (PySem.W.fnOf "run" "Board.run" (defArgs s_Board_run) (defBody s_Board_run) (defScope s_Board_run) .none kV3 dc3 pm3 an3 cd3 ct3),sl3⟩) (c3:PySem.W.codeIn K cd3 "Board.run"=true) (k3:PySem.W.keepIn K (.ref f3)=true)
  (a4:PySem.W.findIn K (.ref C) "laid"=some (some (.ref f4))) (i4:PySem.W.isFn K (.ref f4)=true) (l4:K.lookup f4=some ⟨oc4,od4,.func (PySem.W.fnOf "laid" "Board.laid" (defArgs s_Board_laid) (defBody s_Board_laid) (defScope s_Board_laid) .none kV4 dc4 pm4 an4 cd4 ct4),sl4⟩) (c4:PySem.W.codeIn K cd4 "Board.laid"=true) (k4:PySem.W.keepIn K (.ref f4)=true)
  (pg:PySem.W.plainGet K C Str.empty=true) (hd:PySem.W.hasDictIn K C=true) (po:PySem.W.plainOver K C=true) (sa:PySem.W.findIn K (.ref C) "__setattr__"=some (some (.builtin "object.__setattr__"))) (mk:PySem.W.makesIn K C=true) (kc:PySem.W.keepIn K (.ref C)=true) (nf0:PySem.W.findIn K (.ref C) "rows"=some none) (nf1:PySem.W.findIn K (.ref C) "marks"=some none) (nf2:PySem.W.findIn K (.ref C) "begin"=some none):∃ C f0 f1 f2 f3 f4 fd0 fd1 fd2 fd3 fd4,BoardFacts K mg C f0 f1 f2 f3 f4 fd0 fd1 fd2 fd3 fd4:=by
 have F0:=fun_mk (st:=s_Board_init) l0 c0 k0
 have F1:=fun_mk (st:=s_Board_at) l1 c1 k1
 have F2:=fun_mk (st:=s_Board_is_free) l2 c2 k2
 have F3:=fun_mk (st:=s_Board_run) l3 c3 k3
 have F4:=fun_mk (st:=s_Board_laid) l4 c4 k4
 exact ⟨C,f0,f1,f2,f3,f4,_,_,_,_,_,⟨⟨pg,hd,po,sa⟩,nf0,nf1,nf2⟩,PySem.W.mg_of X G aC,⟨mk,a0,i0,kc⟩,F0,F0.binds (ps:=["self","rows","marks","begin"]) (fun _ _ _ _ _ _ us hl=>match us,hl with | [_,_,_,_],_=>rfl),F1,F1.binds (ps:=["self","row","column"]) (fun _ _ _ _ _ _ us hl=>match us,hl with | [_,_,_],_=>rfl),⟨a1,i1,k1⟩,F2,F2.binds (ps:=["self"]) (fun _ _ _ _ _ _ us hl=>match us,hl with | [_],_=>rfl),⟨a2,i2,k2⟩,F3,F3.binds (ps:=["self","row","column","way"]) (fun _ _ _ _ _ _ us hl=>match us,hl with | [_,_,_,_],_=>rfl),⟨a3,i3,k3⟩,F4,F4.binds (ps:=["self","laying"]) (fun _ _ _ _ _ _ us hl=>match us,hl with | [_,_],_=>rfl),⟨a4,i4,k4⟩⟩
structure BookFacts (K:PySem.W.Frag) (mg:Str→Option Value) (C f0 f1:Addr) (fd0 fd1:FuncData):Prop where
 T:BookCls K C
 mgC:mg "Book"=some (.ref C)
 M:Mk K C f0
 F0:Fun K "__init__" "Book.__init__" s_Book_init f0 fd0
 b0:Binds K fd0 ["self","words"] []
 F1:Fun K "has" "Book.has" s_Book_has f1 fd1
 b1:Binds K fd1 ["self","text"] []
 m1:Meth K C "has" f1
theorem Book_mk {h:Heap} {C f0 f1:Addr} (X:K.In h) (G:h.Ns mainGlobals mg)
  {od0 an0 od1 an1:Option Addr} {sl0 sl1:Array (Option Value)} {oc0 kV0 dc0 pm0 cd0 ct0 oc1 kV1 dc1 pm1 cd1 ct1:Value}
  (aC:PySem.W.nsIn K mainGlobals "Book"=some (some (.ref C)))
  (a0:PySem.W.findIn K (.ref C) "__init__"=some (some (.ref f0))) (i0:PySem.W.isFn K (.ref f0)=true) (l0:K.lookup f0=some ⟨oc0,od0,.func (PySem.W.fnOf "__init__" "Book.__init__" (defArgs s_Book_init) (defBody s_Book_init) (defScope s_Book_init) .none kV0 dc0 pm0 an0 cd0 ct0),sl0⟩) (c0:PySem.W.codeIn K cd0 "Book.__init__"=true) (k0:PySem.W.keepIn K (.ref f0)=true)
  (a1:PySem.W.findIn K (.ref C) "has"=some (some (.ref f1))) (i1:PySem.W.isFn K (.ref f1)=true) (l1:K.lookup f1=some ⟨oc1,od1,.func (PySem.W.fnOf "has" "Book.has" (defArgs s_Book_has) (defBody s_Book_has) (defScope s_Book_has) .none kV1 dc1 pm1 an1 cd1 ct1),sl1⟩) (c1:PySem.W.codeIn K cd1 "Book.has"=true) (k1:PySem.W.keepIn K (.ref f1)=true)
  (pg:PySem.W.plainGet K C Str.empty=true) (hd:PySem.W.hasDictIn K C=true) (po:PySem.W.plainOver K C=true) (sa:PySem.W.findIn K (.ref C) "__setattr__"=some (some (.builtin "object.__setattr__"))) (mk:PySem.W.makesIn K C=true) (kc:PySem.W.keepIn K (.ref C)=true) (nf0:PySem.W.findIn K (.ref C) "held"=some none):∃ C f0 f1 fd0 fd1,BookFacts K mg C f0 f1 fd0 fd1:=by
 have F0:=fun_mk (st:=s_Book_init) l0 c0 k0
 have F1:=fun_mk (st:=s_Book_has) l1 c1 k1
 exact ⟨C,f0,f1,_,_,⟨⟨pg,hd,po,sa⟩,nf0⟩,PySem.W.mg_of X G aC,⟨mk,a0,i0,kc⟩,F0,F0.binds (ps:=["self","words"]) (fun _ _ _ _ _ _ us hl=>match us,hl with | [_,_],_=>rfl),F1,F1.binds (ps:=["self","text"]) (fun _ _ _ _ _ _ us hl=>match us,hl with | [_,_],_=>rfl),⟨a1,i1,k1⟩⟩
structure ErrR (K:PySem.W.Frag) (mg:Str→Option Value) (C_NoLaying C_Taken C_Crooked C_Gap C_Apart C_Lacking C_NoWord C_NoBack C_NoBoard C_NoDeed C_NoRow C_NoText C_Over C_TooFew C_Twice CR f_Taken f_Gap f_Lacking f_NoWord:Addr) (fd_Taken fd_Gap fd_Lacking fd_NoWord:FuncData):Prop where
 m_NoLaying:mg "NoLaying"=some (.ref C_NoLaying)
 m_Taken:mg "Taken"=some (.ref C_Taken)
 m_Crooked:mg "Crooked"=some (.ref C_Crooked)
 m_Gap:mg "Gap"=some (.ref C_Gap)
 m_Apart:mg "Apart"=some (.ref C_Apart)
 m_Lacking:mg "Lacking"=some (.ref C_Lacking)
 m_NoWord:mg "NoWord"=some (.ref C_NoWord)
 m_NoBack:mg "NoBack"=some (.ref C_NoBack)
 m_NoBoard:mg "NoBoard"=some (.ref C_NoBoard)
 m_NoDeed:mg "NoDeed"=some (.ref C_NoDeed)
 m_NoRow:mg "NoRow"=some (.ref C_NoRow)
 m_NoText:mg "NoText"=some (.ref C_NoText)
 m_Over:mg "Over"=some (.ref C_Over)
 m_TooFew:mg "TooFew"=some (.ref C_TooFew)
 m_Twice:mg "Twice"=some (.ref C_Twice)
 mR:mg "RackError"=some (.ref CR)
 I:InitOf K CR
 x_NoLaying:PySem.W.excIn K C_NoLaying vErr "ValueError.__new__"=true
 x_Crooked:PySem.W.excIn K C_Crooked vErr "ValueError.__new__"=true
 x_Apart:PySem.W.excIn K C_Apart vErr "ValueError.__new__"=true
 W_Taken:XCls K mg "Taken" C_Taken f_Taken ["row","column"]
 F_Taken:Fun K "__init__" "Taken.__init__" s_Taken_init f_Taken fd_Taken
 b_Taken:Binds K fd_Taken ["self","row","column"] []
 W_Gap:XCls K mg "Gap" C_Gap f_Gap ["row","column"]
 F_Gap:Fun K "__init__" "Gap.__init__" s_Gap_init f_Gap fd_Gap
 b_Gap:Binds K fd_Gap ["self","row","column"] []
 W_Lacking:XCls K mg "Lacking" C_Lacking f_Lacking ["tile"]
 F_Lacking:Fun K "__init__" "Lacking.__init__" s_Lacking_init f_Lacking fd_Lacking
 b_Lacking:Binds K fd_Lacking ["self","tile"] []
 W_NoWord:XCls K mg "NoWord" C_NoWord f_NoWord ["word"]
 F_NoWord:Fun K "__init__" "NoWord.__init__" s_NoWord_init f_NoWord fd_NoWord
 b_NoWord:Binds K fd_NoWord ["self","word"] []
 M:VdM K ⟨C_NoLaying,C_Taken,C_Crooked,C_Gap,C_Apart,C_Lacking,C_NoWord⟩ CR
 V:VdF K ⟨C_NoLaying,C_Taken,C_Crooked,C_Gap,C_Apart,C_Lacking,C_NoWord⟩ [C_NoBack,C_NoBoard,C_NoDeed,C_NoRow,C_NoText,C_Over,C_TooFew,C_Twice]
theorem all_kit {C:Addr} {Cs:List Addr} {j:Nat} (h:(Cs.zipIdx.all fun p=>PySem.W.kitOne K (.ref C) (.ref p.1) == some (decide (p.2=j)))=true):∀ i D,Cs[i]?=some D→PySem.W.kitOne K (.ref C) (.ref D)=some (decide (i=j)):=fun i D e=>
 beq_iff_eq.mp (List.all_eq_true.mp h (D,i) (List.mem_zipIdx_iff_getElem?.mpr e))
theorem errR_mk {h:Heap} {C_NoLaying C_Taken C_Crooked C_Gap C_Apart C_Lacking C_NoWord C_NoBack C_NoBoard C_NoDeed C_NoRow C_NoText C_Over C_TooFew C_Twice CR f_Taken f_Gap f_Lacking f_NoWord:Addr} (X:K.In h) (G:h.Ns mainGlobals mg)
  {od_Taken an_Taken od_Gap an_Gap od_Lacking an_Lacking od_NoWord an_NoWord:Option Addr} {sl_Taken sl_Gap sl_Lacking sl_NoWord:Array (Option Value)} {oc_Taken kV_Taken dc_Taken pm_Taken cd_Taken ct_Taken oc_Gap kV_Gap dc_Gap pm_Gap cd_Gap ct_Gap oc_Lacking kV_Lacking dc_Lacking pm_Lacking cd_Lacking ct_Lacking oc_NoWord kV_NoWord dc_NoWord pm_NoWord cd_NoWord ct_NoWord:Value}
  (a_NoLaying:PySem.W.nsIn K mainGlobals "NoLaying"=some (some (.ref C_NoLaying)))
  (a_Taken:PySem.W.nsIn K mainGlobals "Taken"=some (some (.ref C_Taken)))
  (a_Crooked:PySem.W.nsIn K mainGlobals "Crooked"=some (some (.ref C_Crooked)))
  (a_Gap:PySem.W.nsIn K mainGlobals "Gap"=some (some (.ref C_Gap)))
  (a_Apart:PySem.W.nsIn K mainGlobals "Apart"=some (some (.ref C_Apart)))
  (a_Lacking:PySem.W.nsIn K mainGlobals "Lacking"=some (some (.ref C_Lacking)))
  (a_NoWord:PySem.W.nsIn K mainGlobals "NoWord"=some (some (.ref C_NoWord)))
  (a_NoBack:PySem.W.nsIn K mainGlobals "NoBack"=some (some (.ref C_NoBack)))
  (a_NoBoard:PySem.W.nsIn K mainGlobals "NoBoard"=some (some (.ref C_NoBoard)))
  (a_NoDeed:PySem.W.nsIn K mainGlobals "NoDeed"=some (some (.ref C_NoDeed)))
  (a_NoRow:PySem.W.nsIn K mainGlobals "NoRow"=some (some (.ref C_NoRow)))
  (a_NoText:PySem.W.nsIn K mainGlobals "NoText"=some (some (.ref C_NoText)))
  (a_Over:PySem.W.nsIn K mainGlobals "Over"=some (some (.ref C_Over)))
  (a_TooFew:PySem.W.nsIn K mainGlobals "TooFew"=some (some (.ref C_TooFew)))
  (a_Twice:PySem.W.nsIn K mainGlobals "Twice"=some (some (.ref C_Twice)))
  (aR:PySem.W.nsIn K mainGlobals "RackError"=some (some (.ref CR)))
  (x_NoLaying:PySem.W.excIn K C_NoLaying vErr "ValueError.__new__"=true)
  (x_Crooked:PySem.W.excIn K C_Crooked vErr "ValueError.__new__"=true)
  (x_Apart:PySem.W.excIn K C_Apart vErr "ValueError.__new__"=true)
  (e_NoLaying:PySem.W.exmOne K (.ref C_NoLaying) (.ref CR)=some true)
  (e_Taken:PySem.W.exmOne K (.ref C_Taken) (.ref CR)=some true)
  (e_Crooked:PySem.W.exmOne K (.ref C_Crooked) (.ref CR)=some true)
  (e_Gap:PySem.W.exmOne K (.ref C_Gap) (.ref CR)=some true)
  (e_Apart:PySem.W.exmOne K (.ref C_Apart) (.ref CR)=some true)
  (e_Lacking:PySem.W.exmOne K (.ref C_Lacking) (.ref CR)=some true)
  (e_NoWord:PySem.W.exmOne K (.ref C_NoWord) (.ref CR)=some true)
  (fi_Taken:PySem.W.findIn K (.ref C_Taken) "__init__"=some (some (.ref f_Taken)))
  (i0_Taken:PySem.W.isFn K (.ref f_Taken)=true)
  (l0_Taken:K.lookup f_Taken=some ⟨oc_Taken,od_Taken,.func (PySem.W.fnOf "__init__" "Taken.__init__" (defArgs s_Taken_init) (defBody s_Taken_init) (defScope s_Taken_init) .none kV_Taken dc_Taken pm_Taken an_Taken cd_Taken ct_Taken),sl_Taken⟩)
  (c0_Taken:PySem.W.codeIn K cd_Taken "Taken.__init__"=true)
  (k0_Taken:PySem.W.keepIn K (.ref f_Taken)=true)
  (ini_Taken:iniIn K C_Taken f_Taken=true)
  (kp_Taken:PySem.W.keepIn K (.ref C_Taken)=true)
  (ln_Taken:((PySem.W.clsIn K C_Taken).any fun cd=>cd.hasDict && errLine cd.mro)=true)
  (sa_Taken:PySem.W.findIn K (.ref C_Taken) "__setattr__"=some (some (.builtin "object.__setattr__")))
  (hd_Taken:PySem.W.hasDictIn K C_Taken=true)
  (n_Taken_row:PySem.W.findIn K (.ref C_Taken) "row"=some none)
  (n_Taken_column:PySem.W.findIn K (.ref C_Taken) "column"=some none)
  (fi_Gap:PySem.W.findIn K (.ref C_Gap) "__init__"=some (some (.ref f_Gap)))
  (i0_Gap:PySem.W.isFn K (.ref f_Gap)=true)
  (l0_Gap:K.lookup f_Gap=some ⟨oc_Gap,od_Gap,.func (PySem.W.fnOf "__init__" "Gap.__init__" (defArgs s_Gap_init) (defBody s_Gap_init) (defScope s_Gap_init) .none kV_Gap dc_Gap pm_Gap an_Gap cd_Gap ct_Gap),sl_Gap⟩)
  (c0_Gap:PySem.W.codeIn K cd_Gap "Gap.__init__"=true)
  (k0_Gap:PySem.W.keepIn K (.ref f_Gap)=true)
  (ini_Gap:iniIn K C_Gap f_Gap=true)
  (kp_Gap:PySem.W.keepIn K (.ref C_Gap)=true)
  (ln_Gap:((PySem.W.clsIn K C_Gap).any fun cd=>cd.hasDict && errLine cd.mro)=true)
  (sa_Gap:PySem.W.findIn K (.ref C_Gap) "__setattr__"=some (some (.builtin "object.__setattr__")))
  (hd_Gap:PySem.W.hasDictIn K C_Gap=true)
  (n_Gap_row:PySem.W.findIn K (.ref C_Gap) "row"=some none)
  (n_Gap_column:PySem.W.findIn K (.ref C_Gap) "column"=some none)
  (fi_Lacking:PySem.W.findIn K (.ref C_Lacking) "__init__"=some (some (.ref f_Lacking)))
  (i0_Lacking:PySem.W.isFn K (.ref f_Lacking)=true)
  (l0_Lacking:K.lookup f_Lacking=some ⟨oc_Lacking,od_Lacking,.func (PySem.W.fnOf "__init__" "Lacking.__init__" (defArgs s_Lacking_init) (defBody s_Lacking_init) (defScope s_Lacking_init) .none kV_Lacking dc_Lacking pm_Lacking an_Lacking cd_Lacking ct_Lacking),sl_Lacking⟩)
  (c0_Lacking:PySem.W.codeIn K cd_Lacking "Lacking.__init__"=true)
  (k0_Lacking:PySem.W.keepIn K (.ref f_Lacking)=true)
  (ini_Lacking:iniIn K C_Lacking f_Lacking=true)
  (kp_Lacking:PySem.W.keepIn K (.ref C_Lacking)=true)
  (ln_Lacking:((PySem.W.clsIn K C_Lacking).any fun cd=>cd.hasDict && errLine cd.mro)=true)
  (sa_Lacking:PySem.W.findIn K (.ref C_Lacking) "__setattr__"=some (some (.builtin "object.__setattr__")))
  (hd_Lacking:PySem.W.hasDictIn K C_Lacking=true)
  (n_Lacking_tile:PySem.W.findIn K (.ref C_Lacking) "tile"=some none)
  (fi_NoWord:PySem.W.findIn K (.ref C_NoWord) "__init__"=some (some (.ref f_NoWord)))
  (i0_NoWord:PySem.W.isFn K (.ref f_NoWord)=true)
  (l0_NoWord:K.lookup f_NoWord=some ⟨oc_NoWord,od_NoWord,.func (PySem.W.fnOf "__init__" "NoWord.__init__" (defArgs s_NoWord_init) (defBody s_NoWord_init) (defScope s_NoWord_init) .none kV_NoWord dc_NoWord pm_NoWord an_NoWord cd_NoWord ct_NoWord),sl_NoWord⟩)
  (c0_NoWord:PySem.W.codeIn K cd_NoWord "NoWord.__init__"=true)
  (k0_NoWord:PySem.W.keepIn K (.ref f_NoWord)=true)
  (ini_NoWord:iniIn K C_NoWord f_NoWord=true)
  (kp_NoWord:PySem.W.keepIn K (.ref C_NoWord)=true)
  (ln_NoWord:((PySem.W.clsIn K C_NoWord).any fun cd=>cd.hasDict && errLine cd.mro)=true)
  (sa_NoWord:PySem.W.findIn K (.ref C_NoWord) "__setattr__"=some (some (.builtin "object.__setattr__")))
  (hd_NoWord:PySem.W.hasDictIn K C_NoWord=true)
  (n_NoWord_word:PySem.W.findIn K (.ref C_NoWord) "word"=some none)
  (hn:PySem.W.specialIn K (.builtin "object.__class__") "__get__"=some (some (.builtin "getset_descriptor.__get__")))
  (ht:PySem.W.takesIn K (.builtin "object.__class__")=some true)
  (cl_NoLaying:(PySem.W.clsIn K C_NoLaying).isSome=true)
  (ga_NoLaying:PySem.W.findIn K (.ref C_NoLaying) "__getattribute__"=some (some (.builtin "BaseException.__getattribute__")))
  (gx_NoLaying:PySem.W.findIn K (.ref C_NoLaying) "__getattr__"=some none)
  (ha_NoLaying:PySem.W.findIn K (.ref C_NoLaying) "__class__"=some (some (.builtin "object.__class__")))
  (hm_NoLaying:PySem.W.mroIn K C_NoLaying (.type "object")=some true)
  (hb_NoLaying:PySem.W.mroIn K C_NoLaying (.type "BaseException")=some true)
  (v_NoLaying:PySem.W.kitOne K (.ref C_NoLaying) (.type "ValueError")=some true)
  (q_NoLaying:(([C_NoLaying,C_Taken,C_Crooked,C_Gap,C_Apart,C_Lacking,C_NoWord]:List Addr).zipIdx.all fun p=>PySem.W.kitOne K (.ref C_NoLaying) (.ref p.1) == some (decide (p.2=0)))=true)
  (o_NoLaying:PySem.W.kitAny K (.ref C_NoLaying) (([C_NoBack,C_NoBoard,C_NoDeed,C_NoRow,C_NoText,C_Over,C_TooFew,C_Twice]:List Addr).map Value.ref)=some false)
  (cl_Taken:(PySem.W.clsIn K C_Taken).isSome=true)
  (ga_Taken:PySem.W.findIn K (.ref C_Taken) "__getattribute__"=some (some (.builtin "BaseException.__getattribute__")))
  (gx_Taken:PySem.W.findIn K (.ref C_Taken) "__getattr__"=some none)
  (ha_Taken:PySem.W.findIn K (.ref C_Taken) "__class__"=some (some (.builtin "object.__class__")))
  (hm_Taken:PySem.W.mroIn K C_Taken (.type "object")=some true)
  (hb_Taken:PySem.W.mroIn K C_Taken (.type "BaseException")=some true)
  (v_Taken:PySem.W.kitOne K (.ref C_Taken) (.type "ValueError")=some true)
  (q_Taken:(([C_NoLaying,C_Taken,C_Crooked,C_Gap,C_Apart,C_Lacking,C_NoWord]:List Addr).zipIdx.all fun p=>PySem.W.kitOne K (.ref C_Taken) (.ref p.1) == some (decide (p.2=1)))=true)
  (o_Taken:PySem.W.kitAny K (.ref C_Taken) (([C_NoBack,C_NoBoard,C_NoDeed,C_NoRow,C_NoText,C_Over,C_TooFew,C_Twice]:List Addr).map Value.ref)=some false)
  (cl_Crooked:(PySem.W.clsIn K C_Crooked).isSome=true)
  (ga_Crooked:PySem.W.findIn K (.ref C_Crooked) "__getattribute__"=some (some (.builtin "BaseException.__getattribute__")))
  (gx_Crooked:PySem.W.findIn K (.ref C_Crooked) "__getattr__"=some none)
  (ha_Crooked:PySem.W.findIn K (.ref C_Crooked) "__class__"=some (some (.builtin "object.__class__")))
  (hm_Crooked:PySem.W.mroIn K C_Crooked (.type "object")=some true)
  (hb_Crooked:PySem.W.mroIn K C_Crooked (.type "BaseException")=some true)
  (v_Crooked:PySem.W.kitOne K (.ref C_Crooked) (.type "ValueError")=some true)
  (q_Crooked:(([C_NoLaying,C_Taken,C_Crooked,C_Gap,C_Apart,C_Lacking,C_NoWord]:List Addr).zipIdx.all fun p=>PySem.W.kitOne K (.ref C_Crooked) (.ref p.1) == some (decide (p.2=2)))=true)
  (o_Crooked:PySem.W.kitAny K (.ref C_Crooked) (([C_NoBack,C_NoBoard,C_NoDeed,C_NoRow,C_NoText,C_Over,C_TooFew,C_Twice]:List Addr).map Value.ref)=some false)
  (cl_Gap:(PySem.W.clsIn K C_Gap).isSome=true)
  (ga_Gap:PySem.W.findIn K (.ref C_Gap) "__getattribute__"=some (some (.builtin "BaseException.__getattribute__")))
  (gx_Gap:PySem.W.findIn K (.ref C_Gap) "__getattr__"=some none)
  (ha_Gap:PySem.W.findIn K (.ref C_Gap) "__class__"=some (some (.builtin "object.__class__")))
  (hm_Gap:PySem.W.mroIn K C_Gap (.type "object")=some true)
  (hb_Gap:PySem.W.mroIn K C_Gap (.type "BaseException")=some true)
  (v_Gap:PySem.W.kitOne K (.ref C_Gap) (.type "ValueError")=some true)
  (q_Gap:(([C_NoLaying,C_Taken,C_Crooked,C_Gap,C_Apart,C_Lacking,C_NoWord]:List Addr).zipIdx.all fun p=>PySem.W.kitOne K (.ref C_Gap) (.ref p.1) == some (decide (p.2=3)))=true)
  (o_Gap:PySem.W.kitAny K (.ref C_Gap) (([C_NoBack,C_NoBoard,C_NoDeed,C_NoRow,C_NoText,C_Over,C_TooFew,C_Twice]:List Addr).map Value.ref)=some false)
  (cl_Apart:(PySem.W.clsIn K C_Apart).isSome=true)
  (ga_Apart:PySem.W.findIn K (.ref C_Apart) "__getattribute__"=some (some (.builtin "BaseException.__getattribute__")))
  (gx_Apart:PySem.W.findIn K (.ref C_Apart) "__getattr__"=some none)
  (ha_Apart:PySem.W.findIn K (.ref C_Apart) "__class__"=some (some (.builtin "object.__class__")))
  (hm_Apart:PySem.W.mroIn K C_Apart (.type "object")=some true)
  (hb_Apart:PySem.W.mroIn K C_Apart (.type "BaseException")=some true)
  (v_Apart:PySem.W.kitOne K (.ref C_Apart) (.type "ValueError")=some true)
  (q_Apart:(([C_NoLaying,C_Taken,C_Crooked,C_Gap,C_Apart,C_Lacking,C_NoWord]:List Addr).zipIdx.all fun p=>PySem.W.kitOne K (.ref C_Apart) (.ref p.1) == some (decide (p.2=4)))=true)
  (o_Apart:PySem.W.kitAny K (.ref C_Apart) (([C_NoBack,C_NoBoard,C_NoDeed,C_NoRow,C_NoText,C_Over,C_TooFew,C_Twice]:List Addr).map Value.ref)=some false)
  (cl_Lacking:(PySem.W.clsIn K C_Lacking).isSome=true)
  (ga_Lacking:PySem.W.findIn K (.ref C_Lacking) "__getattribute__"=some (some (.builtin "BaseException.__getattribute__")))
  (gx_Lacking:PySem.W.findIn K (.ref C_Lacking) "__getattr__"=some none)
  (ha_Lacking:PySem.W.findIn K (.ref C_Lacking) "__class__"=some (some (.builtin "object.__class__")))
  (hm_Lacking:PySem.W.mroIn K C_Lacking (.type "object")=some true)
  (hb_Lacking:PySem.W.mroIn K C_Lacking (.type "BaseException")=some true)
  (v_Lacking:PySem.W.kitOne K (.ref C_Lacking) (.type "ValueError")=some true)
  (q_Lacking:(([C_NoLaying,C_Taken,C_Crooked,C_Gap,C_Apart,C_Lacking,C_NoWord]:List Addr).zipIdx.all fun p=>PySem.W.kitOne K (.ref C_Lacking) (.ref p.1) == some (decide (p.2=5)))=true)
  (o_Lacking:PySem.W.kitAny K (.ref C_Lacking) (([C_NoBack,C_NoBoard,C_NoDeed,C_NoRow,C_NoText,C_Over,C_TooFew,C_Twice]:List Addr).map Value.ref)=some false)
  (cl_NoWord:(PySem.W.clsIn K C_NoWord).isSome=true)
  (ga_NoWord:PySem.W.findIn K (.ref C_NoWord) "__getattribute__"=some (some (.builtin "BaseException.__getattribute__")))
  (gx_NoWord:PySem.W.findIn K (.ref C_NoWord) "__getattr__"=some none)
  (ha_NoWord:PySem.W.findIn K (.ref C_NoWord) "__class__"=some (some (.builtin "object.__class__")))
  (hm_NoWord:PySem.W.mroIn K C_NoWord (.type "object")=some true)
  (hb_NoWord:PySem.W.mroIn K C_NoWord (.type "BaseException")=some true)
  (v_NoWord:PySem.W.kitOne K (.ref C_NoWord) (.type "ValueError")=some true)
  (q_NoWord:(([C_NoLaying,C_Taken,C_Crooked,C_Gap,C_Apart,C_Lacking,C_NoWord]:List Addr).zipIdx.all fun p=>PySem.W.kitOne K (.ref C_NoWord) (.ref p.1) == some (decide (p.2=6)))=true)
  (o_NoWord:PySem.W.kitAny K (.ref C_NoWord) (([C_NoBack,C_NoBoard,C_NoDeed,C_NoRow,C_NoText,C_Over,C_TooFew,C_Twice]:List Addr).map Value.ref)=some false)
  (nn:PySem.W.kitOne K (.type "NoneType") (.ref C_NoLaying)=some false)
  (g2:PySem.W.specialIn K (.ref CR) "__getattribute__"=some (some (.builtin "type.__getattribute__")))
  (rd:PySem.W.readsIn K CR (.type "type")=true)
  (fc:PySem.W.findCls K (.ref CR) (.type "type") "__init__"=some (.val (.builtin "ValueError.__init__")))
  : ∃ C_NoLaying C_Taken C_Crooked C_Gap C_Apart C_Lacking C_NoWord C_NoBack C_NoBoard C_NoDeed C_NoRow C_NoText C_Over C_TooFew C_Twice CR f_Taken f_Gap f_Lacking f_NoWord fd_Taken fd_Gap fd_Lacking fd_NoWord,ErrR K mg C_NoLaying C_Taken C_Crooked C_Gap C_Apart C_Lacking C_NoWord C_NoBack C_NoBoard C_NoDeed C_NoRow C_NoText C_Over C_TooFew C_Twice CR f_Taken f_Gap f_Lacking f_NoWord fd_Taken fd_Gap fd_Lacking fd_NoWord:=by
 have F_Taken:=fun_mk (st:=s_Taken_init) l0_Taken c0_Taken k0_Taken
 have F_Gap:=fun_mk (st:=s_Gap_init) l0_Gap c0_Gap k0_Gap
 have F_Lacking:=fun_mk (st:=s_Lacking_init) l0_Lacking c0_Lacking k0_Lacking
 have F_NoWord:=fun_mk (st:=s_NoWord_init) l0_NoWord c0_NoWord k0_NoWord
 have W_Taken:XCls K mg "Taken" C_Taken f_Taken ["row","column"]:=⟨PySem.W.mg_of X G a_Taken,⟨ini_Taken,i0_Taken,kp_Taken⟩,⟨ln_Taken,hm_Taken,sa_Taken⟩,⟨cl_Taken,ga_Taken,gx_Taken,ha_Taken,hn,ht,hm_Taken,hb_Taken⟩,hd_Taken,fun g hg=>by
  rcases List.mem_cons.mp hg with z | z
  ·rw [z];exact n_Taken_row
  ·rw [List.mem_singleton.mp z];exact n_Taken_column⟩
 have W_Gap:XCls K mg "Gap" C_Gap f_Gap ["row","column"]:=⟨PySem.W.mg_of X G a_Gap,⟨ini_Gap,i0_Gap,kp_Gap⟩,⟨ln_Gap,hm_Gap,sa_Gap⟩,⟨cl_Gap,ga_Gap,gx_Gap,ha_Gap,hn,ht,hm_Gap,hb_Gap⟩,hd_Gap,fun g hg=>by
  rcases List.mem_cons.mp hg with z | z
  ·rw [z];exact n_Gap_row
  ·rw [List.mem_singleton.mp z];exact n_Gap_column⟩
 have W_Lacking:XCls K mg "Lacking" C_Lacking f_Lacking ["tile"]:=⟨PySem.W.mg_of X G a_Lacking,⟨ini_Lacking,i0_Lacking,kp_Lacking⟩,⟨ln_Lacking,hm_Lacking,sa_Lacking⟩,⟨cl_Lacking,ga_Lacking,gx_Lacking,ha_Lacking,hn,ht,hm_Lacking,hb_Lacking⟩,hd_Lacking,fun g hg=>by
  rw [List.mem_singleton.mp hg];exact n_Lacking_tile⟩
 have W_NoWord:XCls K mg "NoWord" C_NoWord f_NoWord ["word"]:=⟨PySem.W.mg_of X G a_NoWord,⟨ini_NoWord,i0_NoWord,kp_NoWord⟩,⟨ln_NoWord,hm_NoWord,sa_NoWord⟩,⟨cl_NoWord,ga_NoWord,gx_NoWord,ha_NoWord,hn,ht,hm_NoWord,hb_NoWord⟩,hd_NoWord,fun g hg=>by
  rw [List.mem_singleton.mp hg];exact n_NoWord_word⟩
 exact ⟨C_NoLaying,C_Taken,C_Crooked,C_Gap,C_Apart,C_Lacking,C_NoWord,C_NoBack,C_NoBoard,C_NoDeed,C_NoRow,C_NoText,C_Over,C_TooFew,C_Twice,CR,f_Taken,f_Gap,f_Lacking,f_NoWord,_,_,_,_,⟨PySem.W.mg_of X G a_NoLaying,PySem.W.mg_of X G a_Taken,PySem.W.mg_of X G a_Crooked,PySem.W.mg_of X G a_Gap,PySem.W.mg_of X G a_Apart,PySem.W.mg_of X G a_Lacking,PySem.W.mg_of X G a_NoWord,PySem.W.mg_of X G a_NoBack,PySem.W.mg_of X G a_NoBoard,PySem.W.mg_of X G a_NoDeed,PySem.W.mg_of X G a_NoRow,PySem.W.mg_of X G a_NoText,PySem.W.mg_of X G a_Over,PySem.W.mg_of X G a_TooFew,PySem.W.mg_of X G a_Twice,PySem.W.mg_of X G aR,⟨g2,rd,fc⟩,x_NoLaying,x_Crooked,x_Apart,W_Taken,F_Taken,F_Taken.binds (ps:=["self","row","column"]) (fun _ _ _ _ _ _ us hl=>match us,hl with | [_,_,_],_=>rfl),W_Gap,F_Gap,F_Gap.binds (ps:=["self","row","column"]) (fun _ _ _ _ _ _ us hl=>match us,hl with | [_,_,_],_=>rfl),W_Lacking,F_Lacking,F_Lacking.binds (ps:=["self","tile"]) (fun _ _ _ _ _ _ us hl=>match us,hl with | [_,_],_=>rfl),W_NoWord,F_NoWord,F_NoWord.binds (ps:=["self","word"]) (fun _ _ _ _ _ _ us hl=>match us,hl with | [_,_],_=>rfl),⟨e_NoLaying,e_Taken,e_Crooked,e_Gap,e_Apart,e_Lacking,e_NoWord⟩,⟨⟨⟨cl_NoLaying,ga_NoLaying,gx_NoLaying,ha_NoLaying,hn,ht,hm_NoLaying,hb_NoLaying⟩,v_NoLaying,all_kit q_NoLaying,o_NoLaying,by decide⟩,⟨⟨cl_Taken,ga_Taken,gx_Taken,ha_Taken,hn,ht,hm_Taken,hb_Taken⟩,v_Taken,all_kit q_Taken,o_Taken,by decide⟩,⟨⟨cl_Crooked,ga_Crooked,gx_Crooked,ha_Crooked,hn,ht,hm_Crooked,hb_Crooked⟩,v_Crooked,all_kit q_Crooked,o_Crooked,by decide⟩,⟨⟨cl_Gap,ga_Gap,gx_Gap,ha_Gap,hn,ht,hm_Gap,hb_Gap⟩,v_Gap,all_kit q_Gap,o_Gap,by decide⟩,⟨⟨cl_Apart,ga_Apart,gx_Apart,ha_Apart,hn,ht,hm_Apart,hb_Apart⟩,v_Apart,all_kit q_Apart,o_Apart,by decide⟩,⟨⟨cl_Lacking,ga_Lacking,gx_Lacking,ha_Lacking,hn,ht,hm_Lacking,hb_Lacking⟩,v_Lacking,all_kit q_Lacking,o_Lacking,by decide⟩,⟨⟨cl_NoWord,ga_NoWord,gx_NoWord,ha_NoWord,hn,ht,hm_NoWord,hb_NoWord⟩,v_NoWord,all_kit q_NoWord,o_NoWord,by decide⟩,nn⟩⟩⟩
theorem law_all (n_len:mg "len"=none) (n_range:mg "range"=none) (n_tuple:mg "tuple"=none) (n_list:mg "list"=none) (n_sorted:mg "sorted"=none) (n_isinstance:mg "isinstance"=none) (n_bool:mg "bool"=none) (n_int:mg "int"=none) (n_str:mg "str"=none) (n_all:mg "all"=none) (n_any:mg "any"=none) (n_zip:mg "zip"=none) (n_min:mg "min"=none) (n_max:mg "max"=none) (n_ValueError:mg "ValueError"=none)
  (g_FREE:∃ t,mg "FREE"=some (.str (S [46]) t)) (g_MARKS:∃ t,mg "MARKS"=some (.str (S MK) t)) (g_MOST:∃ t,mg "MOST"=some (.int 9 t)) (g_MOST_TILES:∃ t,mg "MOST_TILES"=some (.int 7 t)) (d_is_whole:DefAt K mg "is_whole" s_is_whole ["thing"]) (d_is_sign:DefAt K mg "is_sign" s_is_sign ["thing"]) (d_letter_of:DefAt K mg "letter_of" s_letter_of ["sign"]) (d_tile_of:DefAt K mg "tile_of" s_tile_of ["sign"]) (d_left_of:DefAt K mg "left_of" s_left_of ["rack","signs"]) (d_is_block:DefAt K mg "is_block" s_is_block ["thing"]) (d_are_rows:DefAt K mg "are_rows" s_are_rows ["thing"]) (d_are_marks:DefAt K mg "are_marks" s_are_marks ["thing"]) (d_is_cell_of:DefAt K mg "is_cell_of" s_is_cell_of ["rows","row","column"]) (d_is_begin_of:DefAt K mg "is_begin_of" s_is_begin_of ["rows","thing"]) (d_is_board:DefAt K mg "is_board" s_is_board ["rows","marks","begin"]) (d_column_text:DefAt K mg "column_text" s_column_text ["rows","column"]) (d_is_triple:DefAt K mg "is_triple" s_is_triple ["board","thing"]) (d_is_laying:DefAt K mg "is_laying" s_is_laying ["board","thing"]) (d_cells_of:DefAt K mg "cells_of" s_cells_of ["laying"]) (d_is_across:DefAt K mg "is_across" s_is_across ["laying"]) (d_is_down:DefAt K mg "is_down" s_is_down ["laying"]) (d_is_next_to_taken:DefAt K mg "is_next_to_taken" s_is_next_to_taken ["board","row","column"]) (d_formed:DefAt K mg "formed" s_formed ["board","laying"]) (d_check_free:DefAt K mg "check_free" s_check_free ["board","laying"]) (d_check_straight:DefAt K mg "check_straight" s_check_straight ["laying"]) (d_check_gaps:DefAt K mg "check_gaps" s_check_gaps ["board","laying"]) (d_check_joined:DefAt K mg "check_joined" s_check_joined ["board","laying"]) (d_check_words:DefAt K mg "check_words" s_check_words ["board","book","laying"]) (d_check_laying:DefAt K mg "check_laying" s_check_laying ["board","book","rack","laying"]) (d_is_word:DefAt K mg "is_word" s_is_word ["text"]) (d_check_word:DefAt K mg "check_word" s_check_word ["text"]) (d_cell_at:DefAt K mg "_law_cell_at" s_cell_at ["_law_script","_law_k"]) (d_draw:DefAt K mg "_law_draw" s_draw ["_law_cell","_law_j"]) (d_letters:DefAt K mg "_law_letters" s_letters ["_law_cell"]) (d_sign:DefAt K mg "_law_sign" s_sign ["_law_cell","_law_letters_here"]) (d_rows:DefAt K mg "_law_rows" s_rows ["_law_script","_law_letters_here"]) (d_marks:DefAt K mg "_law_marks" s_marks ["_law_rows_here","_law_cell"]) (d_is_near:DefAt K mg "_law_is_near" s_is_near ["_law_rows_here","_law_row","_law_column"]) (d_starts:DefAt K mg "_law_starts" s_starts ["_law_rows_here","_law_cell"]) (d_straight:DefAt K mg "_law_straight" s_straight ["_law_rows_here","_law_cell","_law_letters_here","_law_many"]) (d_joined:DefAt K mg "_law_joined" s_joined ["_law_rows_here","_law_begin","_law_cells"]) (d_cells_due:DefAt K mg "_law_cells_due" s_cells_due ["_law_rows_here","_law_begin","_law_laying"]) (d_lacking:DefAt K mg "_law_lacking" s_lacking ["_law_rack_here","_law_laying"]) (d_class:DefAt K mg "_law_class" s_class ["_law_error"]) (d_caught:DefAt K mg "_law_caught" s_caught ["_law_board","_law_book","_law_rack_here","_law_laying"]) (d_rack:DefAt K mg "_law_rack" s_rack ["_law_laying","_law_cell","_law_letters_here"]) {C_Board fBoard0 fBoard1 fBoard2 fBoard3 fBoard4:Addr} {fdBoard0 fdBoard1 fdBoard2 fdBoard3 fdBoard4:FuncData} (B_Board:BoardFacts K mg C_Board fBoard0 fBoard1 fBoard2 fBoard3 fBoard4 fdBoard0 fdBoard1 fdBoard2 fdBoard3 fdBoard4) {C_Book fBook0 fBook1:Addr} {fdBook0 fdBook1:FuncData} (B_Book:BookFacts K mg C_Book fBook0 fBook1 fdBook0 fdBook1) {C_NoLaying C_Taken C_Crooked C_Gap C_Apart C_Lacking C_NoWord C_NoBack C_NoBoard C_NoDeed C_NoRow C_NoText C_Over C_TooFew C_Twice CR f_Taken f_Gap f_Lacking f_NoWord:Addr} {fd_Taken fd_Gap fd_Lacking fd_NoWord:FuncData} (R:ErrR K mg C_NoLaying C_Taken C_Crooked C_Gap C_Apart C_Lacking C_NoWord C_NoBack C_NoBoard C_NoDeed C_NoRow C_NoText C_Over C_TooFew C_Twice CR f_Taken f_Gap f_Lacking f_NoWord fd_Taken fd_Gap fd_Lacking fd_NoWord)
  {f:Addr} {fd:FuncData} (F:Fun K "law" "law" s_law f fd):FnOk P w K mg base CX0 20 f fd ["_law_script"] (spLaw K):=by
 have c1:=ok_cell_at (P:=P) (w:=w) (base:=base) d_cell_at n_len
 have c2:=ok_draw (P:=P) (w:=w) (base:=base) d_draw
 have c3:=ok_letters (P:=P) (w:=w) (base:=base) d_letters n_range
 have c4:=ok_sign (P:=P) (w:=w) (base:=base) d_sign n_len
 have c5:=ok_law_rows d_rows n_range n_tuple c1 c2 c4
 have c6:=ok_law_marks d_marks n_len n_range n_tuple c2
 have p1:=ok_is_sign (P:=P) (w:=w) (base:=base) d_is_sign n_len n_str n_isinstance
 have p2:=ok_is_whole (P:=P) (w:=w) (base:=base) d_is_whole n_int n_bool n_isinstance
 have p3:=ok_is_block (P:=P) (w:=w) (base:=base) d_is_block n_len n_tuple n_str n_all n_isinstance g_MOST
 have p4:=ok_are_rows d_are_rows n_all g_FREE p3 p1
 have p5:=ok_are_marks d_are_marks n_all g_MARKS p3
 have p6:=ok_is_cell_of d_is_cell_of n_len p2
 have p7:=ok_is_begin_of d_is_begin_of n_len n_tuple n_isinstance p6
 have p8:=ok_is_board d_is_board n_len p4 p5 p7
 have p9:=ok_column_text (P:=P) (w:=w) (base:=base) d_column_text
 have g0:=ok_board_init B_Board.F0 B_Board.T p8
 have g1:=ok_at B_Board.F1 B_Board.T g_FREE p6
 have g2:=ok_is_free (P:=P) (w:=w) (base:=base) B_Board.F2 B_Board.T n_all g_FREE
 have g3:=ok_run B_Board.F3 B_Board.T n_len g_FREE p9
 have g4:=ok_laid B_Board.F4 B_Board.T n_list n_tuple B_Board.mgC B_Board.M g0 B_Board.b0
 have w1:=ok_is_word (P:=P) (w:=w) (base:=base) d_is_word n_len n_all
 have w2:=ok_check_word d_check_word w1
 have k0:=ok_init B_Book.F0 B_Book.T w2
 have k1:=ok_has (P:=P) (w:=w) (mg:=mg) (base:=base) B_Book.F1 B_Book.T
 have c7:=ok_is_near (P:=P) (w:=w) (base:=base) d_is_near n_len
 have c8:=ok_starts d_starts n_len n_range c7
 have c9:=ok_straight d_straight n_len n_int n_tuple c8 c2 c4
 have x4:=ok_is_across (P:=P) (w:=w) (base:=base) d_is_across n_all
 have x5:=ok_formed d_formed n_len n_tuple B_Board.T B_Board.m4 g4 B_Board.b4 B_Board.m3 g3 B_Board.b3 x4
 have y1:=ok_is_wholeG (P:=P) (w:=w) (base:=base) d_is_whole n_int n_bool n_isinstance
 have y2:=ok_is_cell_ofG d_is_cell_of n_len y1
 have y3:=ok_is_triple d_is_triple n_len n_tuple n_isinstance B_Board.T y2 p1
 have y4:=ok_cells_of (P:=P) (w:=w) (base:=base) d_cells_of
 have y5:=ok_is_laying d_is_laying n_len n_tuple n_isinstance n_all n_zip g_MOST_TILES y3 y4
 have e1:=ok_ini2 (P:=P) (w:=w) (base:=base) R.F_Taken R.mR R.I R.W_Taken
 have e2:=ok_gap (P:=P) (w:=w) (base:=base) R.F_Gap R.mR R.I R.W_Gap
 have e3:=ok_lacking (P:=P) (w:=w) (base:=base) R.F_Lacking R.mR R.I R.W_Lacking
 have e4:=ok_noword (P:=P) (w:=w) (base:=base) R.F_NoWord R.mR R.I R.W_NoWord
 have z1:=ok_is_acrossG (P:=P) (w:=w) (base:=base) d_is_across n_all
 have z2:=ok_is_down (P:=P) (w:=w) (base:=base) d_is_down n_all
 have z3:=ok_is_next_to d_is_next_to_taken n_any g_FREE B_Board.T B_Board.m1 g1 B_Board.b1
 have z4:=ok_letter_of (P:=P) (w:=w) (base:=base) d_letter_of
 have z5:=ok_tile_of (P:=P) (w:=w) (base:=base) d_tile_of
 have q1:=ok_check_free d_check_free g_FREE B_Board.T B_Board.m1 g1 B_Board.b1 R.W_Taken e1 R.b_Taken
 have q2:=ok_check_straight d_check_straight R.m_Crooked R.x_Crooked z1 z2
 have q3:=ok_check_gaps d_check_gaps n_range g_FREE B_Board.T B_Board.m1 g1 B_Board.b1 B_Board.m4 g4 B_Board.b4 R.W_Gap e2 R.b_Gap
 have q4:=ok_check_joined d_check_joined n_any B_Board.T B_Board.m2 g2 B_Board.b2 R.m_Apart R.x_Apart y4 z3
 have q5:=ok_left_of d_left_of n_list n_sorted R.W_Lacking e3 R.b_Lacking z5
 have q6:=ok_check_words d_check_words B_Book.T B_Book.m1 k1 B_Book.b1 R.W_NoWord e4 R.b_NoWord x5 z4
 have q7:=ok_check_laying (c:=⟨C_NoLaying,C_Taken,C_Crooked,C_Gap,C_Apart,C_Lacking,C_NoWord⟩) d_check_laying R.m_NoLaying R.x_NoLaying y5 q1 q2 q3 q4 q5 q6
 have l1:=ok_class (P:=P) (w:=w) (base:=base) d_class n_len n_isinstance n_ValueError R.m_NoLaying R.m_Taken R.m_Crooked R.m_Gap R.m_Apart R.m_Lacking R.m_NoWord R.m_NoBack R.m_NoBoard R.m_NoDeed R.m_NoRow R.m_NoText R.m_Over R.m_TooFew R.m_Twice
 have l2:=ok_caught d_caught R.mR R.M q7
 have l3:=ok_is_nearS (P:=P) (w:=w) (base:=base) d_is_near n_len
 have l4:=ok_joined d_joined n_len l3
 have l5:=ok_cells_due d_cells_due n_range n_min n_max l4
 have l6:=ok_law_lacking (P:=P) (w:=w) (base:=base) d_lacking n_list
 have l7:=ok_rackK d_rack n_len n_range c2
 exact (ok_law (c:=⟨C_NoLaying,C_Taken,C_Crooked,C_Gap,C_Apart,C_Lacking,C_NoWord⟩) F R.V R.W_Lacking.hd (R.W_Lacking.no _ (by simp)) B_Board.T B_Board.mgC B_Board.M g0 B_Board.b0 B_Book.T B_Book.mgC B_Book.M k0 B_Book.b0 c3 c1 c5 c6 c2 c9 l7 l6 l5 l1 l2).mono (by decide)
end
end My
def PySem.W.Fast.tw4000727603756163326:=0
def PySem.W.Fast.tw13477478631586431597:=0
def PySem.W.Fast.tw9703242165315028088:=0
def PySem.W.Fast.tw13528836918448727808:=0
def PySem.W.Fast.tw17903292641257849487:=0
def PySem.W.Fast.tw5898759689280120670:=0
def PySem.W.Fast.tw14263184160976195289:=0
def PySem.W.Fast.tw95880677849748061:=0
def PySem.W.Fast.tw15127366323023264257:=0
def PySem.W.Fast.tw18378672893085441527:=0
def PySem.W.Fast.tw15173191075692288988:=0
def PySem.W.Fast.tw18354866294209134334:=0
def PySem.W.Fast.tw8715183452117659606:=0
def PySem.W.Fast.tw7331412235850583754:=0
def PySem.W.Fast.tw18010570417408542957:=0
def PySem.W.Fast.tw12049567210923955586:=0
def PySem.W.Fast.tw1681204724955084761:=0
def PySem.W.Fast.tw3914222513261633687:=0
def PySem.W.Fast.tw185216141847182330:=0
def PySem.W.Fast.tw16121762429183954002:=0
def PySem.W.Fast.tw16437613368262463183:=0
def PySem.W.Fast.tw9526618966067173439:=0
def PySem.W.Fast.tw5230555729240077834:=0
def PySem.W.Fast.tw7741446420280245219:=0
def PySem.W.Fast.tw17030633522550453644:=0
def PySem.W.Fast.tw10113202928635818534:=0
def PySem.W.Fast.tw13200903188228017937:=0
def PySem.W.Fast.tw13392045807215050309:=0
def PySem.W.Fast.tw10180407084463843608:=0
def PySem.W.Fast.tw1661490060995346502:=0
def PySem.W.Fast.tw6973274280030978437:=0
def PySem.W.Fast.tw10898536346439723985:=0
def PySem.W.Fast.tw12892791055812115352:=0
def PySem.W.Fast.tw7974183323096480026:=0
def PySem.W.Fast.tw7031059596451240811:=0
def PySem.W.Fast.tw12043456369296411710:=0
def PySem.W.Fast.tw14496881324320593097:=0
def PySem.W.Fast.tw3512677386217714558:=0
def PySem.W.Fast.tw10323156561606704036:=0
def PySem.W.Fast.tw5593326072859689494:=0
def PySem.W.Fast.tw10685352811673657485:=0
def PySem.W.Fast.tw17351690405337126341:=0
def PySem.W.Fast.tw10756708811926757203:=0
def PySem.W.Fast.tw4023580075746694836:=0
def PySem.W.Fast.tw3465205338147467580:=0
def PySem.W.Fast.tw13715874397898198596:=0
def PySem.W.Fast.tw14498976909265451164:=0
def PySem.W.Fast.tw14112900923257542925:=0
def PySem.W.Fast.tw13077998431995928897:=0
def PySem.W.Fast.tw6975994658375568580:=0
def PySem.W.Fast.tw12978519455259136424:=0
def PySem.W.Fast.tw15504126531108648668:=0
def PySem.W.Fast.tw16451096978623907227:=0
def PySem.W.Fast.tw8165247630088513735:=0
def PySem.W.Fast.tw14310489935098861067:=0
def PySem.W.Fast.tw11068111413030253474:=0
def PySem.W.Fast.tw17165739825669555624:=0
def PySem.W.Fast.tw3818487743008392205:=0
def PySem.W.Fast.tw325807912516262290:=0
def PySem.W.Fast.tw8577603315557378010:=0
def PySem.W.Fast.tw14952058006128436054:=0
def PySem.W.Fast.tw9449830217563669485:=0
def PySem.W.Fast.tw1780442237575490395:=0
def PySem.W.Fast.tw5166715181996045571:=0
def PySem.W.Fast.tw9187936177688832420:=0
def PySem.W.Fast.tw12442843716996494567:=0
def PySem.W.Fast.tw8663545298384878138:=0
def PySem.W.Fast.tw212596593097128219:=0
def PySem.W.Fast.tw14014126440380098780:=0
def PySem.W.Fast.tw1651659415879603493:=0
def PySem.W.Fast.tw367928104078956946:=0
def PySem.W.Fast.tw2155480256138852455:=0
def PySem.W.Fast.tw6229454532911104762:=0
def PySem.W.Fast.tw15366624796823319514:=0
def PySem.W.Fast.tw86953878423146590:=0
def PySem.W.Fast.tw269981368373074866:=0
def PySem.W.Fast.tw9202618071141750345:=0
def PySem.W.Fast.tw6378285374614697557:=0
def PySem.W.Fast.tw8002779617039358375:=0
def PySem.W.Fast.tw4930322374285053228:=0
def PySem.W.Fast.tw16075723268571352124:=0
def PySem.W.Fast.tw11276733742841022905:=0
def PySem.W.Fast.tw16968168142124578793:=0
def PySem.W.Fast.tw17835861819613560809:=0
def PySem.W.Fast.tw1185889380318353719:=0
def PySem.W.Fast.tw187359767400565283:=0
def PySem.W.Fast.tw10685641440246689509:=0
def PySem.W.Fast.tw6373553950260654956:=0
def PySem.W.Fast.tw13866636628822243424:=0
def PySem.W.Fast.tw4464506228068120906:=0
def PySem.W.Fast.tw11702082864820265627:=0
def PySem.W.Fast.tw13458673889168581677:=0
def PySem.W.Fast.tw10889108394519431401:=0
def PySem.W.Fast.tw11420995705992109217:=0
def PySem.W.Fast.tw16197363093410535398:=0
def PySem.W.Fast.tw9073929311573653649:=0
def PySem.W.Fast.tw16748057955373707768:=0
def PySem.W.Fast.tw6562910995540090661:=0
def PySem.W.Fast.tw8807889251750031319:=0
def PySem.W.Fast.tw7572619440179423210:=0
def PySem.W.Fast.tw8873427346456190834:=0
def PySem.W.Fast.tw18278923012075241565:=0
def PySem.W.Fast.tw15518017553390825674:=0
def PySem.W.Fast.tw5637455042703381939:=0
def PySem.W.Fast.tw2112083927132436937:=0
def PySem.W.Fast.tw2378566057506730499:=0
def PySem.W.Fast.tw2043285078786523846:=0
def PySem.W.Fast.tw6388693298925347435:=0
def PySem.W.Fast.tw13911529792282918742:=0
open PySem PySem.W PyProof.Rows
set_option maxRecDepth 100000 in
set_option maxHeartbeats 0 in
theorem PySem.Challenge.cw_letterrack_k23_tiles_that_are_lacking_holds : PySem.Challenge.rw_letterrack_k23_tiles_that_are_lacking.Holds := by
 w_on;o_law;k_head;(case hw=>w_witness2)
 k_fill
 refine L2.walkLaw (x:="_law_script") (l:=PySem.Challenge.rw_letterrack_k23_tiles_that_are_lacking) rfl rfl (fun w h Y=>PySem.W.kIn_of Y) ?F
 case F=>
  intro w mg fa h KX G hmg
  have n_len:mg "len"=none:=by
   refine' PySem.W.mg_none_of KX G ?z
   (case z=>k_is)
  have n_range:mg "range"=none:=by
   refine' PySem.W.mg_none_of KX G ?z
   (case z=>k_is)
  have n_tuple:mg "tuple"=none:=by
   refine' PySem.W.mg_none_of KX G ?z
   (case z=>k_is)
  have n_list:mg "list"=none:=by
   refine' PySem.W.mg_none_of KX G ?z
   (case z=>k_is)
  have n_sorted:mg "sorted"=none:=by
   refine' PySem.W.mg_none_of KX G ?z
   (case z=>k_is)
  have n_isinstance:mg "isinstance"=none:=by
   refine' PySem.W.mg_none_of KX G ?z
   (case z=>k_is)
  have n_bool:mg "bool"=none:=by
   refine' PySem.W.mg_none_of KX G ?z
   (case z=>k_is)
  have n_int:mg "int"=none:=by
   refine' PySem.W.mg_none_of KX G ?z
   (case z=>k_is)
  have n_str:mg "str"=none:=by
   refine' PySem.W.mg_none_of KX G ?z
   (case z=>k_is)
  have n_all:mg "all"=none:=by
   refine' PySem.W.mg_none_of KX G ?z
   (case z=>k_is)
  have n_any:mg "any"=none:=by
   refine' PySem.W.mg_none_of KX G ?z
   (case z=>k_is)
  have n_zip:mg "zip"=none:=by
   refine' PySem.W.mg_none_of KX G ?z
   (case z=>k_is)
  have n_min:mg "min"=none:=by
   refine' PySem.W.mg_none_of KX G ?z
   (case z=>k_is)
  have n_max:mg "max"=none:=by
   refine' PySem.W.mg_none_of KX G ?z
   (case z=>k_is)
  have n_ValueError:mg "ValueError"=none:=by
   refine' PySem.W.mg_none_of KX G ?z
   (case z=>k_is)
  have g_FREE:∃ t,mg "FREE"=some (.str (L2.S [46]) t):=by
   refine' L2.glob_str KX G ?z
   (case z=>k_is)
  have g_MARKS:∃ t,mg "MARKS"=some (.str (L2.S My.MK) t):=by
   refine' L2.glob_str KX G ?z
   (case z=>k_is)
  have g_MOST:∃ t,mg "MOST"=some (.int 9 t):=by
   refine' L2.glob_int KX G ?z
   (case z=>k_is)
  have g_MOST_TILES:∃ t,mg "MOST_TILES"=some (.int 7 t):=by
   refine' L2.glob_int KX G ?z
   (case z=>k_is)
  have d_is_whole:L2.DefAt (L2.KOf KX) mg "is_whole" My.s_is_whole ["thing"]:=by
   dsimp only [L2.KOf]
   refine' L2.defat_mk KX G ?a ?l ?c ?k ?b
   (case a=>k_is);(case l=>k_is);(case c=>k_is);(case k=>k_is)
   (case b=>exact fun _ _ _ _ _ _ us hl=>match us,hl with | [_],_=>rfl)
  have d_is_sign:L2.DefAt (L2.KOf KX) mg "is_sign" My.s_is_sign ["thing"]:=by
   dsimp only [L2.KOf]
   refine' L2.defat_mk KX G ?a ?l ?c ?k ?b
   (case a=>k_is);(case l=>k_is);(case c=>k_is);(case k=>k_is)
   (case b=>exact fun _ _ _ _ _ _ us hl=>match us,hl with | [_],_=>rfl)
  have d_letter_of:L2.DefAt (L2.KOf KX) mg "letter_of" My.s_letter_of ["sign"]:=by
   dsimp only [L2.KOf]
   refine' L2.defat_mk KX G ?a ?l ?c ?k ?b
   (case a=>k_is);(case l=>k_is);(case c=>k_is);(case k=>k_is)
   (case b=>exact fun _ _ _ _ _ _ us hl=>match us,hl with | [_],_=>rfl)
  have d_tile_of:L2.DefAt (L2.KOf KX) mg "tile_of" My.s_tile_of ["sign"]:=by
   dsimp only [L2.KOf]
   refine' L2.defat_mk KX G ?a ?l ?c ?k ?b
   (case a=>k_is);(case l=>k_is);(case c=>k_is);(case k=>k_is)
   (case b=>exact fun _ _ _ _ _ _ us hl=>match us,hl with | [_],_=>rfl)
  have d_left_of:L2.DefAt (L2.KOf KX) mg "left_of" My.s_left_of ["rack","signs"]:=by
   dsimp only [L2.KOf]
   refine' L2.defat_mk KX G ?a ?l ?c ?k ?b
   (case a=>k_is);(case l=>k_is);(case c=>k_is);(case k=>k_is)
   (case b=>exact fun _ _ _ _ _ _ us hl=>match us,hl with | [_,_],_=>rfl)
  have d_is_block:L2.DefAt (L2.KOf KX) mg "is_block" My.s_is_block ["thing"]:=by
   dsimp only [L2.KOf]
   refine' L2.defat_mk KX G ?a ?l ?c ?k ?b
   (case a=>k_is);(case l=>k_is);(case c=>k_is);(case k=>k_is)
   (case b=>exact fun _ _ _ _ _ _ us hl=>match us,hl with | [_],_=>rfl)
  have d_are_rows:L2.DefAt (L2.KOf KX) mg "are_rows" My.s_are_rows ["thing"]:=by
   dsimp only [L2.KOf]
   refine' L2.defat_mk KX G ?a ?l ?c ?k ?b
   (case a=>k_is);(case l=>k_is);(case c=>k_is);(case k=>k_is)
   (case b=>exact fun _ _ _ _ _ _ us hl=>match us,hl with | [_],_=>rfl)
  have d_are_marks:L2.DefAt (L2.KOf KX) mg "are_marks" My.s_are_marks ["thing"]:=by
   dsimp only [L2.KOf]
   refine' L2.defat_mk KX G ?a ?l ?c ?k ?b
   (case a=>k_is);(case l=>k_is);(case c=>k_is);(case k=>k_is)
   (case b=>exact fun _ _ _ _ _ _ us hl=>match us,hl with | [_],_=>rfl)
  have d_is_cell_of:L2.DefAt (L2.KOf KX) mg "is_cell_of" My.s_is_cell_of ["rows","row","column"]:=by
   dsimp only [L2.KOf]
   refine' L2.defat_mk KX G ?a ?l ?c ?k ?b
   (case a=>k_is);(case l=>k_is);(case c=>k_is);(case k=>k_is)
   (case b=>exact fun _ _ _ _ _ _ us hl=>match us,hl with | [_,_,_],_=>rfl)
  have d_is_begin_of:L2.DefAt (L2.KOf KX) mg "is_begin_of" My.s_is_begin_of ["rows","thing"]:=by
   dsimp only [L2.KOf]
   refine' L2.defat_mk KX G ?a ?l ?c ?k ?b
   (case a=>k_is);(case l=>k_is);(case c=>k_is);(case k=>k_is)
   (case b=>exact fun _ _ _ _ _ _ us hl=>match us,hl with | [_,_],_=>rfl)
  have d_is_board:L2.DefAt (L2.KOf KX) mg "is_board" My.s_is_board ["rows","marks","begin"]:=by
   dsimp only [L2.KOf]
   refine' L2.defat_mk KX G ?a ?l ?c ?k ?b
   (case a=>k_is);(case l=>k_is);(case c=>k_is);(case k=>k_is)
   (case b=>exact fun _ _ _ _ _ _ us hl=>match us,hl with | [_,_,_],_=>rfl)
  have d_column_text:L2.DefAt (L2.KOf KX) mg "column_text" My.s_column_text ["rows","column"]:=by
   dsimp only [L2.KOf]
   refine' L2.defat_mk KX G ?a ?l ?c ?k ?b
   (case a=>k_is);(case l=>k_is);(case c=>k_is);(case k=>k_is)
   (case b=>exact fun _ _ _ _ _ _ us hl=>match us,hl with | [_,_],_=>rfl)
  have d_is_triple:L2.DefAt (L2.KOf KX) mg "is_triple" My.s_is_triple ["board","thing"]:=by
   dsimp only [L2.KOf]
   refine' L2.defat_mk KX G ?a ?l ?c ?k ?b
   (case a=>k_is);(case l=>k_is);(case c=>k_is);(case k=>k_is)
   (case b=>exact fun _ _ _ _ _ _ us hl=>match us,hl with | [_,_],_=>rfl)
  have d_is_laying:L2.DefAt (L2.KOf KX) mg "is_laying" My.s_is_laying ["board","thing"]:=by
   dsimp only [L2.KOf]
   refine' L2.defat_mk KX G ?a ?l ?c ?k ?b
   (case a=>k_is);(case l=>k_is);(case c=>k_is);(case k=>k_is)
   (case b=>exact fun _ _ _ _ _ _ us hl=>match us,hl with | [_,_],_=>rfl)
  have d_cells_of:L2.DefAt (L2.KOf KX) mg "cells_of" My.s_cells_of ["laying"]:=by
   dsimp only [L2.KOf]
   refine' L2.defat_mk KX G ?a ?l ?c ?k ?b
   (case a=>k_is);(case l=>k_is);(case c=>k_is);(case k=>k_is)
   (case b=>exact fun _ _ _ _ _ _ us hl=>match us,hl with | [_],_=>rfl)
  have d_is_across:L2.DefAt (L2.KOf KX) mg "is_across" My.s_is_across ["laying"]:=by
   dsimp only [L2.KOf]
   refine' L2.defat_mk KX G ?a ?l ?c ?k ?b
   (case a=>k_is);(case l=>k_is);(case c=>k_is);(case k=>k_is)
   (case b=>exact fun _ _ _ _ _ _ us hl=>match us,hl with | [_],_=>rfl)
  have d_is_down:L2.DefAt (L2.KOf KX) mg "is_down" My.s_is_down ["laying"]:=by
   dsimp only [L2.KOf]
   refine' L2.defat_mk KX G ?a ?l ?c ?k ?b
   (case a=>k_is);(case l=>k_is);(case c=>k_is);(case k=>k_is)
   (case b=>exact fun _ _ _ _ _ _ us hl=>match us,hl with | [_],_=>rfl)
  have d_is_next_to_taken:L2.DefAt (L2.KOf KX) mg "is_next_to_taken" My.s_is_next_to_taken ["board","row","column"]:=by
   dsimp only [L2.KOf]
   refine' L2.defat_mk KX G ?a ?l ?c ?k ?b
   (case a=>k_is);(case l=>k_is);(case c=>k_is);(case k=>k_is)
   (case b=>exact fun _ _ _ _ _ _ us hl=>match us,hl with | [_,_,_],_=>rfl)
  have d_formed:L2.DefAt (L2.KOf KX) mg "formed" My.s_formed ["board","laying"]:=by
   dsimp only [L2.KOf]
   refine' L2.defat_mk KX G ?a ?l ?c ?k ?b
   (case a=>k_is);(case l=>k_is);(case c=>k_is);(case k=>k_is)
   (case b=>exact fun _ _ _ _ _ _ us hl=>match us,hl with | [_,_],_=>rfl)
  have d_check_free:L2.DefAt (L2.KOf KX) mg "check_free" My.s_check_free ["board","laying"]:=by
   dsimp only [L2.KOf]
   refine' L2.defat_mk KX G ?a ?l ?c ?k ?b
   (case a=>k_is);(case l=>k_is);(case c=>k_is);(case k=>k_is)
   (case b=>exact fun _ _ _ _ _ _ us hl=>match us,hl with | [_,_],_=>rfl)
  have d_check_straight:L2.DefAt (L2.KOf KX) mg "check_straight" My.s_check_straight ["laying"]:=by
   dsimp only [L2.KOf]
   refine' L2.defat_mk KX G ?a ?l ?c ?k ?b
   (case a=>k_is);(case l=>k_is);(case c=>k_is);(case k=>k_is)
   (case b=>exact fun _ _ _ _ _ _ us hl=>match us,hl with | [_],_=>rfl)
  have d_check_gaps:L2.DefAt (L2.KOf KX) mg "check_gaps" My.s_check_gaps ["board","laying"]:=by
   dsimp only [L2.KOf]
   refine' L2.defat_mk KX G ?a ?l ?c ?k ?b
   (case a=>k_is);(case l=>k_is);(case c=>k_is);(case k=>k_is)
   (case b=>exact fun _ _ _ _ _ _ us hl=>match us,hl with | [_,_],_=>rfl)
  have d_check_joined:L2.DefAt (L2.KOf KX) mg "check_joined" My.s_check_joined ["board","laying"]:=by
   dsimp only [L2.KOf]
   refine' L2.defat_mk KX G ?a ?l ?c ?k ?b
   (case a=>k_is);(case l=>k_is);(case c=>k_is);(case k=>k_is)
   (case b=>exact fun _ _ _ _ _ _ us hl=>match us,hl with | [_,_],_=>rfl)
  have d_check_words:L2.DefAt (L2.KOf KX) mg "check_words" My.s_check_words ["board","book","laying"]:=by
   dsimp only [L2.KOf]
   refine' L2.defat_mk KX G ?a ?l ?c ?k ?b
   (case a=>k_is);(case l=>k_is);(case c=>k_is);(case k=>k_is)
   (case b=>exact fun _ _ _ _ _ _ us hl=>match us,hl with | [_,_,_],_=>rfl)
  have d_check_laying:L2.DefAt (L2.KOf KX) mg "check_laying" My.s_check_laying ["board","book","rack","laying"]:=by
   dsimp only [L2.KOf]
   refine' L2.defat_mk KX G ?a ?l ?c ?k ?b
   (case a=>k_is);(case l=>k_is);(case c=>k_is);(case k=>k_is)
   (case b=>exact fun _ _ _ _ _ _ us hl=>match us,hl with | [_,_,_,_],_=>rfl)
  have d_is_word:L2.DefAt (L2.KOf KX) mg "is_word" My.s_is_word ["text"]:=by
   dsimp only [L2.KOf]
   refine' L2.defat_mk KX G ?a ?l ?c ?k ?b
   (case a=>k_is);(case l=>k_is);(case c=>k_is);(case k=>k_is)
   (case b=>exact fun _ _ _ _ _ _ us hl=>match us,hl with | [_],_=>rfl)
  have d_check_word:L2.DefAt (L2.KOf KX) mg "check_word" My.s_check_word ["text"]:=by
   dsimp only [L2.KOf]
   refine' L2.defat_mk KX G ?a ?l ?c ?k ?b
   (case a=>k_is);(case l=>k_is);(case c=>k_is);(case k=>k_is)
   (case b=>exact fun _ _ _ _ _ _ us hl=>match us,hl with | [_],_=>rfl)
  have d_cell_at:L2.DefAt (L2.KOf KX) mg "_law_cell_at" My.s_cell_at ["_law_script","_law_k"]:=by
   dsimp only [L2.KOf]
   refine' L2.defat_mk KX G ?a ?l ?c ?k ?b
   (case a=>k_is);(case l=>k_is);(case c=>k_is);(case k=>k_is)
   (case b=>exact fun _ _ _ _ _ _ us hl=>match us,hl with | [_,_],_=>rfl)
  have d_draw:L2.DefAt (L2.KOf KX) mg "_law_draw" My.s_draw ["_law_cell","_law_j"]:=by
   dsimp only [L2.KOf]
   refine' L2.defat_mk KX G ?a ?l ?c ?k ?b
   (case a=>k_is);(case l=>k_is);(case c=>k_is);(case k=>k_is)
   (case b=>exact fun _ _ _ _ _ _ us hl=>match us,hl with | [_,_],_=>rfl)
  have d_letters:L2.DefAt (L2.KOf KX) mg "_law_letters" My.s_letters ["_law_cell"]:=by
   dsimp only [L2.KOf]
   refine' L2.defat_mk KX G ?a ?l ?c ?k ?b
   (case a=>k_is);(case l=>k_is);(case c=>k_is);(case k=>k_is)
   (case b=>exact fun _ _ _ _ _ _ us hl=>match us,hl with | [_],_=>rfl)
  have d_sign:L2.DefAt (L2.KOf KX) mg "_law_sign" My.s_sign ["_law_cell","_law_letters_here"]:=by
   dsimp only [L2.KOf]
   refine' L2.defat_mk KX G ?a ?l ?c ?k ?b
   (case a=>k_is);(case l=>k_is);(case c=>k_is);(case k=>k_is)
   (case b=>exact fun _ _ _ _ _ _ us hl=>match us,hl with | [_,_],_=>rfl)
  have d_rows:L2.DefAt (L2.KOf KX) mg "_law_rows" My.s_rows ["_law_script","_law_letters_here"]:=by
   dsimp only [L2.KOf]
   refine' L2.defat_mk KX G ?a ?l ?c ?k ?b
   (case a=>k_is);(case l=>k_is);(case c=>k_is);(case k=>k_is)
   (case b=>exact fun _ _ _ _ _ _ us hl=>match us,hl with | [_,_],_=>rfl)
  have d_marks:L2.DefAt (L2.KOf KX) mg "_law_marks" My.s_marks ["_law_rows_here","_law_cell"]:=by
   dsimp only [L2.KOf]
   refine' L2.defat_mk KX G ?a ?l ?c ?k ?b
   (case a=>k_is);(case l=>k_is);(case c=>k_is);(case k=>k_is)
   (case b=>exact fun _ _ _ _ _ _ us hl=>match us,hl with | [_,_],_=>rfl)
  have d_is_near:L2.DefAt (L2.KOf KX) mg "_law_is_near" My.s_is_near ["_law_rows_here","_law_row","_law_column"]:=by
   dsimp only [L2.KOf]
   refine' L2.defat_mk KX G ?a ?l ?c ?k ?b
   (case a=>k_is);(case l=>k_is);(case c=>k_is);(case k=>k_is)
   (case b=>exact fun _ _ _ _ _ _ us hl=>match us,hl with | [_,_,_],_=>rfl)
  have d_starts:L2.DefAt (L2.KOf KX) mg "_law_starts" My.s_starts ["_law_rows_here","_law_cell"]:=by
   dsimp only [L2.KOf]
   refine' L2.defat_mk KX G ?a ?l ?c ?k ?b
   (case a=>k_is);(case l=>k_is);(case c=>k_is);(case k=>k_is)
   (case b=>exact fun _ _ _ _ _ _ us hl=>match us,hl with | [_,_],_=>rfl)
  have d_straight:L2.DefAt (L2.KOf KX) mg "_law_straight" My.s_straight ["_law_rows_here","_law_cell","_law_letters_here","_law_many"]:=by
   dsimp only [L2.KOf]
   refine' L2.defat_mk KX G ?a ?l ?c ?k ?b
   (case a=>k_is);(case l=>k_is);(case c=>k_is);(case k=>k_is)
   (case b=>exact fun _ _ _ _ _ _ us hl=>match us,hl with | [_,_,_,_],_=>rfl)
  have d_joined:L2.DefAt (L2.KOf KX) mg "_law_joined" My.s_joined ["_law_rows_here","_law_begin","_law_cells"]:=by
   dsimp only [L2.KOf]
   refine' L2.defat_mk KX G ?a ?l ?c ?k ?b
   (case a=>k_is);(case l=>k_is);(case c=>k_is);(case k=>k_is)
   (case b=>exact fun _ _ _ _ _ _ us hl=>match us,hl with | [_,_,_],_=>rfl)
  have d_cells_due:L2.DefAt (L2.KOf KX) mg "_law_cells_due" My.s_cells_due ["_law_rows_here","_law_begin","_law_laying"]:=by
   dsimp only [L2.KOf]
   refine' L2.defat_mk KX G ?a ?l ?c ?k ?b
   (case a=>k_is);(case l=>k_is);(case c=>k_is);(case k=>k_is)
   (case b=>exact fun _ _ _ _ _ _ us hl=>match us,hl with | [_,_,_],_=>rfl)
  have d_lacking:L2.DefAt (L2.KOf KX) mg "_law_lacking" My.s_lacking ["_law_rack_here","_law_laying"]:=by
   dsimp only [L2.KOf]
   refine' L2.defat_mk KX G ?a ?l ?c ?k ?b
   (case a=>k_is);(case l=>k_is);(case c=>k_is);(case k=>k_is)
   (case b=>exact fun _ _ _ _ _ _ us hl=>match us,hl with | [_,_],_=>rfl)
  have d_class:L2.DefAt (L2.KOf KX) mg "_law_class" My.s_class ["_law_error"]:=by
   dsimp only [L2.KOf]
   refine' L2.defat_mk KX G ?a ?l ?c ?k ?b
   (case a=>k_is);(case l=>k_is);(case c=>k_is);(case k=>k_is)
   (case b=>exact fun _ _ _ _ _ _ us hl=>match us,hl with | [_],_=>rfl)
  have d_caught:L2.DefAt (L2.KOf KX) mg "_law_caught" My.s_caught ["_law_board","_law_book","_law_rack_here","_law_laying"]:=by
   dsimp only [L2.KOf]
   refine' L2.defat_mk KX G ?a ?l ?c ?k ?b
   (case a=>k_is);(case l=>k_is);(case c=>k_is);(case k=>k_is)
   (case b=>exact fun _ _ _ _ _ _ us hl=>match us,hl with | [_,_,_,_],_=>rfl)
  have d_rack:L2.DefAt (L2.KOf KX) mg "_law_rack" My.s_rack ["_law_laying","_law_cell","_law_letters_here"]:=by
   dsimp only [L2.KOf]
   refine' L2.defat_mk KX G ?a ?l ?c ?k ?b
   (case a=>k_is);(case l=>k_is);(case c=>k_is);(case k=>k_is)
   (case b=>exact fun _ _ _ _ _ _ us hl=>match us,hl with | [_,_,_],_=>rfl)
  have xbf_Board:∃ C f0 f1 f2 f3 f4 fd0 fd1 fd2 fd3 fd4,My.BoardFacts (L2.KOf KX) mg C f0 f1 f2 f3 f4 fd0 fd1 fd2 fd3 fd4:=by
   dsimp only [L2.KOf]
   refine' My.Board_mk KX G ?aC ?a0 ?i0 ?l0 ?c0 ?k0 ?a1 ?i1 ?l1 ?c1 ?k1 ?a2 ?i2 ?l2 ?c2 ?k2 ?a3 ?i3 ?l3 ?c3 ?k3 ?a4 ?i4 ?l4 ?c4 ?k4 ?pg ?hd ?po ?sa ?mk ?kc ?nf0 ?nf1 ?nf2
   (case aC=>k_is)
   (case a0=>k_is)
   (case i0=>k_is)
   (case l0=>k_is)
   (case c0=>k_is)
   (case k0=>k_is)
   (case a1=>k_is)
   (case i1=>k_is)
   (case l1=>k_is)
   (case c1=>k_is)
   (case k1=>k_is)
   (case a2=>k_is)
   (case i2=>k_is)
   (case l2=>k_is)
   (case c2=>k_is)
   (case k2=>k_is)
   (case a3=>k_is)
   (case i3=>k_is)
   (case l3=>k_is)
   (case c3=>k_is)
   (case k3=>k_is)
   (case a4=>k_is)
   (case i4=>k_is)
   (case l4=>k_is)
   (case c4=>k_is)
   (case k4=>k_is)
   (case pg=>k_is)
   (case hd=>k_is)
   (case po=>k_is)
   (case sa=>k_is)
   (case mk=>k_is)
   (case kc=>k_is)
   (case nf0=>k_is)
   (case nf1=>k_is)
   (case nf2=>k_is)
  obtain ⟨_,_,_,_,_,_,_,_,_,_,_,bf_Board⟩:=xbf_Board
  have xbf_Book:∃ C f0 f1 fd0 fd1,My.BookFacts (L2.KOf KX) mg C f0 f1 fd0 fd1:=by
   dsimp only [L2.KOf]
   refine' My.Book_mk KX G ?aC ?a0 ?i0 ?l0 ?c0 ?k0 ?a1 ?i1 ?l1 ?c1 ?k1 ?pg ?hd ?po ?sa ?mk ?kc ?nf0
   (case aC=>k_is)
   (case a0=>k_is)
   (case i0=>k_is)
   (case l0=>k_is)
   (case c0=>k_is)
   (case k0=>k_is)
   (case a1=>k_is)
   (case i1=>k_is)
   (case l1=>k_is)
   (case c1=>k_is)
   (case k1=>k_is)
   (case pg=>k_is)
   (case hd=>k_is)
   (case po=>k_is)
   (case sa=>k_is)
   (case mk=>k_is)
   (case kc=>k_is)
   (case nf0=>k_is)
  obtain ⟨_,_,_,_,_,bf_Book⟩:=xbf_Book
  have xer:∃ C_NoLaying C_Taken C_Crooked C_Gap C_Apart C_Lacking C_NoWord C_NoBack C_NoBoard C_NoDeed C_NoRow C_NoText C_Over C_TooFew C_Twice CR f_Taken f_Gap f_Lacking f_NoWord fd_Taken fd_Gap fd_Lacking fd_NoWord,My.ErrR (L2.KOf KX) mg C_NoLaying C_Taken C_Crooked C_Gap C_Apart C_Lacking C_NoWord C_NoBack C_NoBoard C_NoDeed C_NoRow C_NoText C_Over C_TooFew C_Twice CR f_Taken f_Gap f_Lacking f_NoWord fd_Taken fd_Gap fd_Lacking fd_NoWord:=by
   dsimp only [L2.KOf]
   refine' My.errR_mk KX G ?a_NoLaying ?a_Taken ?a_Crooked ?a_Gap ?a_Apart ?a_Lacking ?a_NoWord ?a_NoBack ?a_NoBoard ?a_NoDeed ?a_NoRow ?a_NoText ?a_Over ?a_TooFew ?a_Twice ?aR ?x_NoLaying ?x_Crooked ?x_Apart ?e_NoLaying ?e_Taken ?e_Crooked ?e_Gap ?e_Apart ?e_Lacking ?e_NoWord ?fi_Taken ?i0_Taken ?l0_Taken ?c0_Taken ?k0_Taken ?ini_Taken ?kp_Taken ?ln_Taken ?sa_Taken ?hd_Taken ?n_Taken_row ?n_Taken_column ?fi_Gap ?i0_Gap ?l0_Gap ?c0_Gap ?k0_Gap ?ini_Gap ?kp_Gap ?ln_Gap ?sa_Gap ?hd_Gap ?n_Gap_row ?n_Gap_column ?fi_Lacking ?i0_Lacking ?l0_Lacking ?c0_Lacking ?k0_Lacking ?ini_Lacking ?kp_Lacking ?ln_Lacking ?sa_Lacking ?hd_Lacking ?n_Lacking_tile ?fi_NoWord ?i0_NoWord ?l0_NoWord ?c0_NoWord ?k0_NoWord ?ini_NoWord ?kp_NoWord ?ln_NoWord ?sa_NoWord ?hd_NoWord ?n_NoWord_word ?hn ?ht ?cl_NoLaying ?ga_NoLaying ?gx_NoLaying ?ha_NoLaying ?hm_NoLaying ?hb_NoLaying ?v_NoLaying ?q_NoLaying ?o_NoLaying ?cl_Taken ?ga_Taken ?gx_Taken ?ha_Taken ?hm_Taken ?hb_Taken ?v_Taken ?q_Taken ?o_Taken ?cl_Crooked ?ga_Crooked ?gx_Crooked ?ha_Crooked ?hm_Crooked ?hb_Crooked ?v_Crooked ?q_Crooked ?o_Crooked ?cl_Gap ?ga_Gap ?gx_Gap ?ha_Gap ?hm_Gap ?hb_Gap ?v_Gap ?q_Gap ?o_Gap ?cl_Apart ?ga_Apart ?gx_Apart ?ha_Apart ?hm_Apart ?hb_Apart ?v_Apart ?q_Apart ?o_Apart ?cl_Lacking ?ga_Lacking ?gx_Lacking ?ha_Lacking ?hm_Lacking ?hb_Lacking ?v_Lacking ?q_Lacking ?o_Lacking ?cl_NoWord ?ga_NoWord ?gx_NoWord ?ha_NoWord ?hm_NoWord ?hb_NoWord ?v_NoWord ?q_NoWord ?o_NoWord ?nn ?g2 ?rd ?fc
   (case a_NoLaying=>k_is)
   (case a_Taken=>k_is)
   (case a_Crooked=>k_is)
   (case a_Gap=>k_is)
   (case a_Apart=>k_is)
   (case a_Lacking=>k_is)
   (case a_NoWord=>k_is)
   (case a_NoBack=>k_is)
   (case a_NoBoard=>k_is)
   (case a_NoDeed=>k_is)
   (case a_NoRow=>k_is)
   (case a_NoText=>k_is)
   (case a_Over=>k_is)
   (case a_TooFew=>k_is)
   (case a_Twice=>k_is)
   (case aR=>k_is)
   (case x_NoLaying=>k_exc)
   (case x_Crooked=>k_exc)
   (case x_Apart=>k_exc)
   (case e_NoLaying=>kernel_rfl)
   (case e_Taken=>kernel_rfl)
   (case e_Crooked=>kernel_rfl)
   (case e_Gap=>kernel_rfl)
   (case e_Apart=>kernel_rfl)
   (case e_Lacking=>kernel_rfl)
   (case e_NoWord=>kernel_rfl)
   (case fi_Taken=>k_is)
   (case i0_Taken=>k_is)
   (case l0_Taken=>k_is)
   (case c0_Taken=>k_is)
   (case k0_Taken=>k_is)
   (case ini_Taken=>kernel_rfl)
   (case kp_Taken=>k_is)
   (case ln_Taken=>kernel_rfl)
   (case sa_Taken=>k_is)
   (case hd_Taken=>k_is)
   (case n_Taken_row=>k_is)
   (case n_Taken_column=>k_is)
   (case fi_Gap=>k_is)
   (case i0_Gap=>k_is)
   (case l0_Gap=>k_is)
   (case c0_Gap=>k_is)
   (case k0_Gap=>k_is)
   (case ini_Gap=>kernel_rfl)
   (case kp_Gap=>k_is)
   (case ln_Gap=>kernel_rfl)
   (case sa_Gap=>k_is)
   (case hd_Gap=>k_is)
   (case n_Gap_row=>k_is)
   (case n_Gap_column=>k_is)
   (case fi_Lacking=>k_is)
   (case i0_Lacking=>k_is)
   (case l0_Lacking=>k_is)
   (case c0_Lacking=>k_is)
   (case k0_Lacking=>k_is)
   (case ini_Lacking=>kernel_rfl)
   (case kp_Lacking=>k_is)
   (case ln_Lacking=>kernel_rfl)
   (case sa_Lacking=>k_is)
   (case hd_Lacking=>k_is)
   (case n_Lacking_tile=>k_is)
   (case fi_NoWord=>k_is)
   (case i0_NoWord=>k_is)
   (case l0_NoWord=>k_is)
   (case c0_NoWord=>k_is)
   (case k0_NoWord=>k_is)
   (case ini_NoWord=>kernel_rfl)
   (case kp_NoWord=>k_is)
   (case ln_NoWord=>kernel_rfl)
   (case sa_NoWord=>k_is)
   (case hd_NoWord=>k_is)
   (case n_NoWord_word=>k_is)
   (case hn=>k_is)
   (case ht=>k_is)
   (case cl_NoLaying=>kernel_rfl)
   (case ga_NoLaying=>k_is)
   (case gx_NoLaying=>k_is)
   (case ha_NoLaying=>k_is)
   (case hm_NoLaying=>k_is)
   (case hb_NoLaying=>k_is)
   (case v_NoLaying=>kernel_rfl)
   (case q_NoLaying=>kernel_rfl)
   (case o_NoLaying=>kernel_rfl)
   (case cl_Taken=>kernel_rfl)
   (case ga_Taken=>k_is)
   (case gx_Taken=>k_is)
   (case ha_Taken=>k_is)
   (case hm_Taken=>k_is)
   (case hb_Taken=>k_is)
   (case v_Taken=>kernel_rfl)
   (case q_Taken=>kernel_rfl)
   (case o_Taken=>kernel_rfl)
   (case cl_Crooked=>kernel_rfl)
   (case ga_Crooked=>k_is)
   (case gx_Crooked=>k_is)
   (case ha_Crooked=>k_is)
   (case hm_Crooked=>k_is)
   (case hb_Crooked=>k_is)
   (case v_Crooked=>kernel_rfl)
   (case q_Crooked=>kernel_rfl)
   (case o_Crooked=>kernel_rfl)
   (case cl_Gap=>kernel_rfl)
   (case ga_Gap=>k_is)
   (case gx_Gap=>k_is)
   (case ha_Gap=>k_is)
   (case hm_Gap=>k_is)
   (case hb_Gap=>k_is)
   (case v_Gap=>kernel_rfl)
   (case q_Gap=>kernel_rfl)
   (case o_Gap=>kernel_rfl)
   (case cl_Apart=>kernel_rfl)
   (case ga_Apart=>k_is)
   (case gx_Apart=>k_is)
   (case ha_Apart=>k_is)
   (case hm_Apart=>k_is)
   (case hb_Apart=>k_is)
   (case v_Apart=>kernel_rfl)
   (case q_Apart=>kernel_rfl)
   (case o_Apart=>kernel_rfl)
   (case cl_Lacking=>kernel_rfl)
   (case ga_Lacking=>k_is)
   (case gx_Lacking=>k_is)
   (case ha_Lacking=>k_is)
   (case hm_Lacking=>k_is)
   (case hb_Lacking=>k_is)
   (case v_Lacking=>kernel_rfl)
   (case q_Lacking=>kernel_rfl)
   (case o_Lacking=>kernel_rfl)
   (case cl_NoWord=>kernel_rfl)
   (case ga_NoWord=>k_is)
   (case gx_NoWord=>k_is)
   (case ha_NoWord=>k_is)
   (case hm_NoWord=>k_is)
   (case hb_NoWord=>k_is)
   (case v_NoWord=>kernel_rfl)
   (case q_NoWord=>kernel_rfl)
   (case o_NoWord=>kernel_rfl)
   (case nn=>kernel_rfl)
   (case g2=>k_is)
   (case rd=>k_is)
   (case fc=>k_is)
  obtain ⟨_,_,_,_,_,_,_,_,_,_,_,_,_,_,_,_,_,_,_,_,_,_,_,_,er⟩:=xer
  have lw:∃ fd:FuncData,L2.Fun (L2.KOf KX) "law" "law" My.s_law fa fd∧∀ (s:Shared) (v:Value),BindsTo s fd ⟨[v],[]⟩ [("_law_script",v)]:=by
   dsimp only [L2.KOf]
   refine' L2.law_at KX G hmg ?a ?l ?c ?k ?b
   (case a=>k_is);(case l=>k_is);(case c=>k_is);(case k=>k_is)
   (case b=>exact fun _ _ _ _ _ _ _=>rfl)
  obtain ⟨fd,F,hb⟩:=lw
  exact ⟨fd,hb,fun base _ _=>My.law_all n_len n_range n_tuple n_list n_sorted n_isinstance n_bool n_int n_str n_all n_any n_zip n_min n_max n_ValueError g_FREE g_MARKS g_MOST g_MOST_TILES d_is_whole d_is_sign d_letter_of d_tile_of d_left_of d_is_block d_are_rows d_are_marks d_is_cell_of d_is_begin_of d_is_board d_column_text d_is_triple d_is_laying d_cells_of d_is_across d_is_down d_is_next_to_taken d_formed d_check_free d_check_straight d_check_gaps d_check_joined d_check_words d_check_laying d_is_word d_check_word d_cell_at d_draw d_letters d_sign d_rows d_marks d_is_near d_starts d_straight d_joined d_cells_due d_lacking d_class d_caught d_rack bf_Board bf_Book er F⟩

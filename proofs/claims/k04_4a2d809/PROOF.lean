import PyProof.Rows.All
import Wide.All
import OpenK.AllK
import Wide.FinOn
import Lean
import PyProof.EqAt
import PyProof.EqKinds
import PyProof.TupleCall
import KE.KRevIter
import PyProof.JoinWalk
import PyProof.CollectIter
import KE.KDictSum
import KE.KSortTup
import PyProof.ListMulRoad
import PyProof.Rows.SeqMore
import PyProof.FactsAll.tuple_2
import PyProof.WalkInts
import PyProof.SeqI3
import KE.KIntText
import KE.KEqDict
import KE.KDictOf
import PyProof.Rows.SetFrom
import KE.KBoundM
import KE.KMinKey
import KE.KDictLaws
import PyProof.DictItems
import KE.KPairComp
import KE.KRevSl
import PyProof.AutoSeq1
import PyProof.TupleOfSeq
import PyProof.AttrMiss
import PyProof.IsiH_tuple
import PyProof.TupleKey
import PyProof.DictRoadsH
import PySem.Challenge.RW_letterrack_k04_whole_least
set_option bootstrap.genMatcherCode false
section
set_option Elab.async false
set_option linter.all false
set_option maxRecDepth 100000
namespace L2
open PySem PySem.Spec PyProof.Rows
abbrev Key:=Sum Int Str
def keyIs:Key→Value→Bool
 | .inl k,v=>Value.isInt k v
 | .inr x,v=>Value.isStrOf x v
def keyH (w:World):Key→Int
 | .inl k=>hashInt k
 | .inr x=>hashStr w x
theorem keyIs_shape:∀ {k:Key} {v:Value},keyIs k v=true→(∃ i t,k=Sum.inl i∧v=Value.int i t)∨(∃ x t,k=Sum.inr x∧v=Value.str x t)
 | .inl i,v,h=>by
  obtain ⟨t,e⟩:=Value.isInt_shape (k:=i) (v:=v) h
  exact .inl ⟨i,t,rfl,e⟩
 | .inr x,v,h=>by
  obtain ⟨t,e⟩:=Value.isStrOf_shape (x:=x) (v:=v) h
  exact .inr ⟨x,t,rfl,e⟩
theorem keyIs_int (i:Int) (t:Tok):keyIs (.inl i) (.int i t)=true:=by simp [keyIs,Value.isInt]
theorem keyIs_str (x:Str) (t:Tok):keyIs (.inr x) (.str x t)=true:=by simp [keyIs,Value.isStrOf]
theorem key_ll (a b:Int):decide ((Sum.inl a:Key)=Sum.inl b)=(a == b):=by
 by_cases e:a=b
 ·subst e;simp
 ·have h:¬(Sum.inl a:Key)=Sum.inl b:=fun q=>e (Sum.inl.inj q)
  rw [decide_eq_false h]
  exact (beq_eq_false_iff_ne.mpr e).symm
theorem key_rr (a b:Str):decide ((Sum.inr a:Key)=Sum.inr b)=decide (a=b):=by
 by_cases e:a=b
 ·subst e;simp
 ·have h:¬(Sum.inr a:Key)=Sum.inr b:=fun q=>e (Sum.inr.inj q)
  rw [decide_eq_false h,decide_eq_false e]
theorem key_lr (a:Int) (b:Str):decide ((Sum.inl a:Key)=Sum.inr b)=false:=decide_eq_false (fun q=>nomatch q)
theorem key_rl (a:Str) (b:Int):decide ((Sum.inr a:Key)=Sum.inl b)=false:=decide_eq_false (fun q=>nomatch q)
def mixKind (prog:Program) (w:World):PySem.KeyKind prog w Key where
 is:=keyIs
 hash:=keyH w
 inj:=fun v a b ha hb=>by
  rcases keyIs_shape ha with ⟨i,t,rfl,rfl⟩ | ⟨x,t,rfl,rfl⟩
  ·rcases keyIs_shape hb with ⟨j,u,rfl,e⟩ | ⟨y,u,rfl,e⟩
   ·injection e with e1 _;rw [e1]
   ·exact nomatch e
  ·rcases keyIs_shape hb with ⟨j,u,rfl,e⟩ | ⟨y,u,rfl,e⟩
   ·exact nomatch e
   ·injection e with e1 _;rw [e1]
 byValue:=fun k v h=>by
  rcases keyIs_shape h with ⟨i,t,rfl,rfl⟩ | ⟨x,t,rfl,rfl⟩ <;> rfl
 pyHash:=fun hv h=>by
  rcases keyIs_shape hv with ⟨i,t,rfl,rfl⟩ | ⟨x,t,rfl,rfl⟩
  ·exact wpAny_pyHash_int h
  ·exact wpAny_pyHash_str h
 eqBool:=fun hu hv h=>by
  rcases keyIs_shape hu with ⟨i,t,rfl,rfl⟩ | ⟨x,t,rfl,rfl⟩
  ·rcases keyIs_shape hv with ⟨j,u,rfl,rfl⟩ | ⟨y,u,rfl,rfl⟩
   ·rw [key_ll] at h;exact wpAny_eqBool_int h
   ·rw [key_lr] at h;exact SeqAt.EqAt.int_str i t y u _ _ _ _ h
  ·rcases keyIs_shape hv with ⟨j,u,rfl,rfl⟩ | ⟨y,u,rfl,rfl⟩
   ·rw [key_rl] at h;exact SeqAt.EqAt.str_int x t j u _ _ _ _ h
   ·rw [key_rr] at h;exact wpAny_eqBool_str h
 «strs»:=fun k x t v h=>by
  rcases keyIs_shape h with ⟨i,u,rfl,e⟩ | ⟨y,u,rfl,e⟩
  ·exact nomatch e
  ·injection e with e1 _
   subst e1
   cases v <;> rfl
theorem mixKind_int (prog:Program) (w:World) (i:Int) (t:Tok):(mixKind prog w).is (.inl i) (.int i t)=true:=keyIs_int i t
theorem mixKind_str (prog:Program) (w:World) (x:Str) (t:Tok):(mixKind prog w).is (.inr x) (.str x t)=true:=keyIs_str x t
end L2
namespace L2
open PySem PySem.Spec PyProof.Rows
inductive V where
 | non | bl (b:Bool) | int (i:Int) | str (x:Str) | byt (b:Array UInt8) | flt (b:UInt64) | ref (a:Addr) | ty (n:String)
 deriving DecidableEq
def RelV:V→Value→Prop
 | .non,u=>u=Value.none
 | .bl b,u=>u=Value.bool b
 | .int i,u=>∃ t,u=Value.int i t
 | .str x,u=>∃ t,u=Value.str x t
 | .byt b,u=>∃ t,u=Value.bytes b t
 | .flt b,u=>∃ t,u=Value.float b t
 | .ref a,u=>u=Value.ref a
 | .ty n,u=>u=Value.type n
abbrev Vals:List V→List Value→Prop:=Paired RelV
theorem Vals.length {xs:List V} {us:List Value} (r:Vals xs us):xs.length=us.length:=Paired.length r
theorem Vals.get:∀ {xs:List V} {us:List Value} {i:Nat} {x:V},Vals xs us→xs[i]?=some x→∃ u,us[i]?=some u∧RelV x u
 | _,_,_,_,.nil,e=>by simp at e
 | _,_,0,_,.cons r _,e=>by simp at e;subst e;exact ⟨_,rfl,r⟩
 | _,_,i + 1,x,.cons _ t,e=>by
  obtain ⟨u,h1,h2⟩:=Vals.get (i:=i) (x:=x) t (by simpa using e)
  exact ⟨u,by simpa using h1,h2⟩
theorem Vals.set {x:V} {u:Value} (r:RelV x u):∀ {xs:List V} {us:List Value} (i:Nat),Vals xs us→Vals (xs.set i x) (us.set i u)
 | _,_,_,.nil=>.nil
 | _,_,0,.cons _ t=>.cons r t
 | _,_,i + 1,.cons q t=>.cons q (Vals.set r i t)
theorem Vals.append:∀ {xs ys:List V} {us ws:List Value},Vals xs us→Vals ys ws→Vals (xs ++ ys) (us ++ ws)
 | _,_,_,_,.nil,s=>s
 | _,_,_,_,.cons r t,s=>.cons r (Vals.append t s)
theorem Vals.take:∀ {xs:List V} {us:List Value} (n:Nat),Vals xs us→Vals (xs.take n) (us.take n)
 | _,_,0,_=>.nil
 | _,_,_ + 1,.nil=>.nil
 | _,_,n + 1,.cons r t=>.cons r (Vals.take n t)
theorem Vals.drop:∀ {xs:List V} {us:List Value} (n:Nat),Vals xs us→Vals (xs.drop n) (us.drop n)
 | _,_,0,r=>r
 | _,_,_ + 1,.nil=>.nil
 | _,_,n + 1,.cons _ t=>Vals.drop n t
def RelO:Option V→Option Value→Prop
 | some v,some u=>RelV v u
 | none,none=>True
 | _,_=>False
def KV {κ:Type}:List (κ × V)→List (κ × Value)→Prop:=Paired fun (p:κ × V) (q:κ × Value)=>p.1=q.1∧RelV p.2 q.2
def kV:Key→V
 | .inl i=>.int i
 | .inr x=>.str x
inductive HO where
 | lst (xs:List V)
 | tup (xs:List V)
 | dK (kvs:List (Key × V)) | dT (kvs:List (List Key × V))
 | set (S:Int→Bool) (n:Nat)
 | ins (C dx:Addr) (fs:List (Str × V))
 | own (x:Addr)
 | xd (fs:List (Str × V))
 | met (f x:Addr)
 | rng (lo hi:Int)
 | frz (o:Obj) (u:HO)
 | tbl (ps:Array Value)
 | ext (φ:Heap→Prop)
abbrev Hp:=Addr→Option HO
def upd (H:Hp) (a:Addr) (o:HO):Hp:=fun b=>if b=a then some o else H b
theorem upd_same {H:Hp} {a:Addr} {o:HO}:upd H a o a=some o:=by unfold upd;rw [if_pos rfl]
theorem upd_ne {H:Hp} {a b:Addr} {o:HO} (h:b≠a):upd H a o b=H b:=by unfold upd;rw [if_neg h]
theorem upd_upd {H:Hp} {a:Addr} {o u:HO}:upd (upd H a o) a u=upd H a u:=by
 funext b;unfold upd;split <;> rfl
theorem ne_of {H:Hp} {a b:Addr} {o u:HO} (h:H a=some o) (h':H b=some u) (d:o≠u):a≠b:=by
 intro e;subst e;rw [h] at h';exact d (Option.some.inj h')
theorem ne_of_none {H:Hp} {a b:Addr} {o:HO} (h:H a=some o) (h':H b=none):a≠b:=by
 intro e;subst e;rw [h] at h';cases h'
section
variable (P:Program) (w:World)
def ObjOk (H:Hp) (h:Heap) (a:Addr):HO→Prop
 | .lst xs=>xs.length≤sizeLine∧∃ (its:List Value) (n:Nat),Vals xs its∧h.get? a=some { cls:=.type "list",data:=.seq its.toArray n }
 | .tup xs=>xs.length≤sizeLine∧∃ its:List Value,Vals xs its∧IsTup h a its.toArray
 | .dK kvs=>kvs.length≤sizeLine∧(a == sysModules)=false∧∃ vs,KV kvs vs∧h.DictOf (mixKind P w) a vs
 | .dT kvs=>kvs.length≤sizeLine∧(a == sysModules)=false∧∃ xs:List (List Key × Addr × Value),
   Paired (fun (p:List Key × V) (q:List Key × Addr × Value)=>p.1=q.1∧H q.2.1=some (.tup (p.1.map kV))∧RelV p.2 q.2.2) kvs xs∧
   ∃ o es ep,h.get? a=some o∧o.ExactDict∧o.data=.dict es ep∧es.toList=xs.map (entryOfKey (tupleKind (mixKind P w)))∧(xs.map (·.1)).Nodup
 | .set S n=>h.SetOf (intKind P w) a S n
 | .ins C dx fs=>H dx=some (.own a)∧fs.length≤1000∧dx≠a∧h.get? a=some (PySem.W.instObj C dx)∧
   ∃ mA,h.Ns1 dx mA∧(∀ f,RelO (fs.lookup f) (mA f))∧PySem.Within mA (fs.map (·.1))
 | .own _=>∃ o,h.get? a=some o
 | .xd fs=>∃ mA,h.Ns1 a mA∧∀ f,RelO (fs.lookup f) (mA f)
 | .rng lo hi=>∃ t u v,h.get? a=some { cls:=.type "range",data:=.fields #[.int lo t,.int hi u,.int 1 v] }
 | .frz o u=>h.get? a=some o∧ObjOk H h a u
 | .tbl ps=>h.get? a=some { cls:=.none,data:=.fields ps }
 | .met f x=>h.get? a=some (PySem.W.methodObj (.ref f) (.ref x))
 | .ext φ=>φ h∧(∃ o,h.get? a=some o)∧∀ h1 h2:Heap,φ h1→(∀ o,h1.get? a=some o→h2.get? a=some o)→φ h2
def HOk (H:Hp) (h:Heap):Prop:=∀ a o,H a=some o→ObjOk P w H h a o
end
section
variable {P:Program} {w:World} {H H':Hp} {h h':Heap} {a:Addr} {o:HO}
theorem ObjOk.lt (x:ObjOk P w H h a o):a < h.objs.size:=by
 cases o with
 | lst xs=>obtain ⟨_,_,_,_,e⟩:=x;exact Heap.lt_size e
 | tup xs=>obtain ⟨_,_,_,p⟩:=x;exact p.lt
 | dK kvs=>obtain ⟨_,_,_,_,o,_,_,e,_⟩:=x;exact Heap.lt_size e
 | dT kvs=>obtain ⟨_,_,_,_,o,_,_,e,_⟩:=x;exact Heap.lt_size e
 | set S n=>obtain ⟨o,_,_,_,e,_⟩:=x;exact Heap.lt_size e
 | ins C dx fs=>obtain ⟨_,_,_,e,_⟩:=x;exact Heap.lt_size e
 | own y=>obtain ⟨_,e⟩:=x;exact Heap.lt_size e
 | xd fs=>obtain ⟨_,⟨_,_,_,e,_⟩,_⟩:=x;exact Heap.lt_size e
 | rng lo hi=>obtain ⟨_,_,_,e⟩:=x;exact Heap.lt_size e
 | frz ob u=>obtain ⟨e,_⟩:=x;exact Heap.lt_size e
 | tbl ps=>exact Heap.lt_size (show h.get? a=some _ from x)
 | met f y=>exact Heap.lt_size (show h.get? a=some _ from x)
 | ext φ=>obtain ⟨_,⟨_,e⟩,_⟩:=x;exact Heap.lt_size e
theorem Paired.mapP {α β:Type} {F G:α→β→Prop}:∀ {l₁:List α} {l₂:List β},Paired F l₁ l₂→(∀ a b,F a b→G a b)→Paired G l₁ l₂
 | _,_,.nil,_=>.nil
 | _,_,.cons r t,f=>.cons (f _ _ r) (Paired.mapP t f)
theorem Paired.imp' {α β:Type} {F G:α→β→Prop} (f:∀ a b,F a b→G a b) {l₁:List α} {l₂:List β} (r:Paired F l₁ l₂):Paired G l₁ l₂:=Paired.mapP r f
theorem ObjOk.stay (x:ObjOk P w H h a o) (k:∀ b u,(b=a∨H b=some (.own a))→h.get? b=some u→h'.get? b=some u)
  (ho:∀ b,H b=some (.own a)→H' b=some (.own a)) (ht:∀ b xs,H b=some (.tup xs)→H' b=some (.tup xs)):ObjOk P w H' h' a o:=by
 induction o with
 | lst xs=>obtain ⟨z,its,n,r,e⟩:=x;exact ⟨z,its,n,r,k _ _ (.inl rfl) e⟩
 | tup xs=>obtain ⟨z,its,r,ob,e,c⟩:=x;exact ⟨z,its,r,ob,k _ _ (.inl rfl) e,c⟩
 | dK kvs=>obtain ⟨z,y,vs,r,ob,es,ep,e,c⟩:=x;exact ⟨z,y,vs,r,ob,es,ep,k _ _ (.inl rfl) e,c⟩
 | dT kvs=>
  obtain ⟨z,y,xs,r,ob,es,ep,e,c⟩:=x
  exact ⟨z,y,xs,Paired.mapP r fun p q z=>⟨z.1,ht _ _ z.2.1,z.2.2⟩,ob,es,ep,k _ _ (.inl rfl) e,c⟩
 | set S n=>obtain ⟨ob,es,ep,t,e,c⟩:=x;exact ⟨ob,es,ep,t,k _ _ (.inl rfl) e,c⟩
 | ins C dx fs=>
  obtain ⟨d,z,ne,e,mA,⟨od,es,ep,e2,c⟩,r⟩:=x
  exact ⟨ho _ d,z,ne,k _ _ (.inl rfl) e,mA,⟨od,es,ep,k _ _ (.inr d) e2,c⟩,r⟩
 | own y=>obtain ⟨ob,e⟩:=x;exact ⟨ob,k _ _ (.inl rfl) e⟩
 | xd fs=>obtain ⟨mA,⟨od,es,ep,e,c⟩,r⟩:=x;exact ⟨mA,⟨od,es,ep,k _ _ (.inl rfl) e,c⟩,r⟩
 | rng lo hi=>obtain ⟨t,u,v,e⟩:=x;exact ⟨t,u,v,k _ _ (.inl rfl) e⟩
 | frz ob u ih=>obtain ⟨e,q⟩:=x;exact ⟨k _ _ (.inl rfl) e,ih q⟩
 | tbl ps=>
  have e:h.get? a=some { cls:=.none,data:=.fields ps }:=x
  show h'.get? a=some { cls:=.none,data:=.fields ps }
  exact k a _ (.inl rfl) e
 | met f y=>
  have e:h.get? a=some (PySem.W.methodObj (.ref f) (.ref y)):=x
  show h'.get? a=some (PySem.W.methodObj (.ref f) (.ref y))
  exact k a _ (.inl rfl) e
 | ext φ=>obtain ⟨p,⟨o,e⟩,st⟩:=x;exact ⟨st _ _ p fun o q=>k _ _ (.inl rfl) q,⟨o,k _ _ (.inl rfl) e⟩,st⟩
theorem HOk.lt (x:HOk P w H h) (e:H a=some o):a < h.objs.size:=(x a o e).lt
theorem HOk.fresh (x:HOk P w H h) (e:h.objs.size≤a):H a=none:=by
 cases q:H a with
 | none=>rfl
 | some u=>exact absurd (Nat.lt_of_lt_of_le (x.lt q) e) (Nat.lt_irrefl _)
theorem HOk.kept (x:HOk P w H h) (k:∀ b u,h.get? b=some u→h'.get? b=some u):HOk P w H h':=fun a o e=>
 (x a o e).stay (fun b u _ q=>k b u q) (fun _ q=>q) fun _ _ q=>q
theorem HOk.laid (x:HOk P w H h) (k:∀ b u,h.get? b=some u→h'.get? b=some u) (hp:h.objs.size≤a) (new:ObjOk P w (upd H a o) h' a o):HOk P w (upd H a o) h':=fun b u e=>by
 have hn:=x.fresh hp
 by_cases hb:b=a
 ·subst hb;rw [upd_same] at e;cases e;exact new
 ·rw [upd_ne hb] at e
  exact (x b u e).stay (fun c v _ q=>k c v q) (fun c q=>by rw [upd_ne (ne_of_none q hn)];exact q) fun c xs q=>by rw [upd_ne (ne_of_none q hn)];exact q
end
def Rd (H:Hp) (a:Addr) (u:HO):Prop:=H a=some u∨∃ o,H a=some (.frz o u)
theorem Rd.ok {P:Program} {w:World} {H:Hp} {h:Heap} {a:Addr} {u:HO} (r:Rd H a u) (x:HOk P w H h):ObjOk P w H h a u:=by
 rcases r with r | ⟨o,r⟩
 ·exact x a u r
 ·obtain ⟨_,q⟩:=x a _ r
  exact q
def Mut:Option HO→Prop
 | some (.lst _)=>True
 | some (.dK _)=>True
 | some (.dT _)=>True
 | some (.set _ _)=>True
 | some (.ins _ _ _)=>True
 | some (.ext _)=>True
 | _=>False
section
variable {P:Program} {w:World} {H:Hp} {h h':Heap} {x e:Addr} {o':HO}
theorem HOk.write (ok:HOk P w H h) (mu:Mut (H x)) (he:e=x∨H e=some (.own x)) (k:∀ b u,b≠e→h.get? b=some u→h'.get? b=some u) (heo:∃ u,h'.get? e=some u)
  (new:ObjOk P w (upd H x o') h' x o'):HOk P w (upd H x o') h':=fun b u q=>by
 have nown:∀ c y,H c=some (.own y)→c≠x:=fun c y r z=>by subst z;rw [r] at mu;exact mu
 have ntup:∀ c xs,H c=some (.tup xs)→c≠x:=fun c xs r z=>by subst z;rw [r] at mu;exact mu
 by_cases hb:b=x
 ·subst hb;rw [upd_same] at q;cases q;exact new
 ·rw [upd_ne hb] at q
  by_cases hbe:b=e
  ·have q':H b=some (.own x):=by
    rcases he with z | z
    ·exact absurd (hbe.trans z) hb
    ·rw [hbe];exact z
   rw [q] at q';cases q'
   obtain ⟨v,hv⟩:=heo
   exact ⟨v,by rw [hbe];exact hv⟩
  ·refine (ok b u q).stay (fun c v hc r=>k c v ?_ r) (fun c r=>by rw [upd_ne (nown c b r)];exact r) fun c xs r=>by rw [upd_ne (ntup c xs r)];exact r
   rcases hc with rfl | hc
   ·exact hbe
   ·rintro rfl
    rcases he with z | z
    ·exact nown c b hc z
    ·rw [hc] at z;cases z;exact hb rfl
end
structure Un (fs ex:List Addr) (H H':Hp) (h h':Heap):Prop where
 keep:∀ b o,h.get? b=some o→H b=none→b∉fs→b∉ex→h'.get? b=some o
 slot:∀ b o,h.get? b=some o→H b=none→b∈fs→b∉ex→∃ sl,h'.get? b=some { o with slots:=sl }
 free:∀ b o,h.get? b=some o→H b=none→b∉ex→H' b=none
 there:∀ b o,h.get? b=some o→b∉ex→∃ o',h'.get? b=some o'
 tups:∀ b xs,H b=some (.tup xs)→H' b=some (.tup xs)
 frzs:∀ b o u,H b=some (.frz o u)→H' b=some (.frz o u)
 tbls:∀ b ps,H b=some (.tbl ps)→∃ more,H' b=some (.tbl (ps ++ more))
section
variable {fs fs' ex ex':List Addr} {H H1 H2:Hp} {h h1 h2 h':Heap} {a x e:Addr} {o:HO}
theorem Un.any (u:Un fs ex H H1 h h1) {b:Addr} {ob:Obj} (q:h.get? b=some ob) (n:H b=none) (hx:b∉ex):∃ sl,h1.get? b=some { ob with slots:=sl }:=by
 by_cases hb:b∈fs
 ·exact u.slot b ob q n hb hx
 ·exact ⟨ob.slots,u.keep b ob q n hb hx⟩
theorem Un.kept (k:∀ b u,h.get? b=some u→h'.get? b=some u):Un fs ex H H h h':=
 ⟨fun b ob q _ _ _=>k b ob q,fun b ob q _ _ _=>⟨ob.slots,k b ob q⟩,fun _ _ _ n _=>n,fun b ob q _=>⟨ob,k b ob q⟩,fun _ _ q=>q,fun _ _ _ q=>q,fun _ ps q=>⟨#[],by rw [q];simp⟩⟩
theorem Un.refl:Un fs ex H H h h:=Un.kept fun _ _ q=>q
theorem Un.laid (k:∀ b u,h.get? b=some u→h'.get? b=some u) (hp:h.objs.size≤a) (hn:H a=none):Un fs ex H (upd H a o) h h' where
 keep:=fun b u q _ _ _=>k b u q
 slot:=fun b u q _ _ _=>⟨u.slots,k b u q⟩
 free:=fun b u q n _=>by rw [upd_ne (Nat.ne_of_lt (Nat.lt_of_lt_of_le (Heap.lt_size q) hp))];exact n
 there:=fun b u q _=>⟨u,k b u q⟩
 tups:=fun b xs q=>by rw [upd_ne (ne_of_none q hn)];exact q
 frzs:=fun b u xs q=>by rw [upd_ne (ne_of_none q hn)];exact q
 tbls:=fun b ps q=>⟨#[],by rw [upd_ne (ne_of_none q hn),q];simp⟩
theorem Un.write (mu:Mut (H x)) (he:e=x∨H e=some (.own x)) (k:∀ b u,b≠e→h.get? b=some u→h'.get? b=some u) (heo:∃ u,h'.get? e=some u):Un fs ex H (upd H x o) h h':=by
 have hx:∀ b,H b=none→b≠x:=fun b n z=>by subst z;rw [n] at mu;exact mu
 have hb:∀ b,H b=none→b≠e:=fun b n z=>by
  subst z
  rcases he with r | r
  ·exact hx b n r
  ·rw [n] at r;cases r
 have hm:∀ b u,H b=some u→¬Mut (some u)→b≠x:=fun b u q nm z=>by subst z;rw [q] at mu;exact nm mu
 refine ⟨fun b u q n _ _=>k b u (hb b n) q,fun b u q n _ _=>⟨u.slots,k b u (hb b n) q⟩,fun b u q n _=>by rw [upd_ne (hx b n)];exact n,fun b u q _=>?_,
  fun b xs q=>by rw [upd_ne (hm b _ q fun z=>z)];exact q,fun b u xs q=>by rw [upd_ne (hm b _ q fun z=>z)];exact q,fun b ps q=>⟨#[],by rw [upd_ne (hm b _ q fun z=>z),q];simp⟩⟩
 by_cases hbe:b=e
 ·subst hbe;exact heo
 ·exact ⟨u,k b u hbe q⟩
end
def trk (h:Heap) (H:Hp):List Addr:=(List.range h.objs.size).filter fun a=>(H a).isSome
def hidT (h:Heap) (H:Hp):Heap:=PySem.W.hideAll h (trk h H)
theorem hidT_size (h:Heap) (H:Hp):(hidT h H).objs.size=h.objs.size:=PySem.W.hideAll_size _ _
theorem hidT_get {h:Heap} {H:Hp} {b:Addr} {o:Obj} (e:h.get? b=some o) (n:H b=none):(hidT h H).get? b=some o:=
 PySem.W.hideAll_get _ e fun hm=>by
  have q:(H b).isSome=true:=(List.mem_filter.mp hm).2
  rw [n] at q;simp at q
theorem of_hidT {h:Heap} {H:Hp} {b:Addr} {o:Obj} (e:(hidT h H).get? b=some o):h.get? b=some o∧H b=none:=by
 have e':h.get? b=some o:=PySem.W.of_hideAll (trk h H) e
 refine ⟨e',?_⟩
 cases q:H b with
 | none=>rfl
 | some x=>
  have hm:b∈trk h H:=List.mem_filter.mpr ⟨List.mem_range.mpr (Heap.lt_size e'),by simp [q]⟩
  have z:(hidT h H).get? b=none:=PySem.W.hideAll_none (trk h H) hm
  rw [z] at e;cases e
end L2
namespace L2
open PySem PySem.Spec PyProof.Rows
structure Mod (K:PySem.W.Frag) (mg:Str→Option Value) (base:Heap):Prop where
 kin:K.In base
 glob:base.Ns mainGlobals mg
 blt:∃ mb,base.Ns builtinsNs mb∧∀ x:Str,x≠"__name__"→mb x=bootBuiltins x
 nolimit:base.NoLimit
structure Cx where
 prog:Program
 w:World
 K:PySem.W.Frag
 mg:Str→Option Value
 base:Heap
 A:Around
 N:List Str
 s₀:Shared
 H₀:Hp
 env:Env
 outer:List Env
 stack:List Env
 ex:List Addr
 fn:Str→Bool
 calm:Bool
 pn:List (Addr × Obj)
 xe:Value→Shared→Prop
def frs (l:List Env):List Addr:=l.filterMap (·.frame)
abbrev Cx.fs (X:Cx):List Addr:=frs X.outer
def Vis (sc:Scope) (x:Str):Prop:=sc.names.lookup x=some .local∨sc.names.lookup x=some .cell∨sc.names.lookup x=some .free
def Loc (sc:Scope) (x:Str):Prop:=sc.names.lookup x=some .local∨sc.names.lookup x=some .cell
def Look (env:Env) (h:Heap) (m:Str→Option Value) (x:Str) (u:Value):Prop:=
 (env.kindOf x=some .local∧m x=some u)∨((env.kindOf x=some .cell∨env.kindOf x=some .free)∧∃ c,env.cells.lookup x=some c∧h.IsCell c (some u))
structure Cx.Ok (X:Cx):Prop where
 mod:Mod X.K X.mg X.base
 kind:X.env.scope.kind=.function
 glob:X.env.globals=mainGlobals
 blt:X.env.builtins=builtinsNs
 above:X.s₀.heap.objs.size≤X.env.locals
 inj:∀ x y c,X.env.cells.lookup x=some c→X.env.cells.lookup y=some c→x=y
 has:∀ x,(X.env.kindOf x=some .cell∨X.env.kindOf x=some .free)→∃ c,X.env.cells.lookup x=some c
 cab:∀ x c,X.fn x=true→X.env.cells.lookup x=some c→X.s₀.heap.objs.size≤c
 hd:X.calm=true→X.A.handled=none
 frames:X.A.frames=some X.stack
 stk:X.stack=X.outer∨(X.stack=X.env :: X.outer∧X.env.frame=some X.env.locals)
 exf:∀ b∈X.ex,b≠X.env.locals∧∀ x c,X.env.cells.lookup x=some c→c≠b
 bs:∀ b o,X.base.get? b=some o→X.s₀.heap.get? b=some o∧X.H₀ b=none
 bsz:X.base.objs.size≤X.s₀.heap.objs.size
 noex:∀ b o,X.base.get? b=some o→b∉X.ex
 exfs:∀ b∈X.ex,b∉X.fs
 funs:X.s₀.heap.FunFrames X.base X.outer
 frf:∀ b∈X.fs,X.H₀ b=none
structure Inv (X:Cx) (pins:List (Addr × Obj)) (σ:List (Option V)) (H:Hp) (s:Shared):Prop where
 ok:X.Ok
 os:s.os=X.s₀.os
 bare:AllBare s.gens
 base:Un X.fs X.ex X.H₀ H X.s₀.heap s.heap
 loc:∃ m,s.heap.Ns X.env.locals m∧∀ (i:Nat) (x:Str) (v:V),X.N[i]?=some x→σ[i]?=some (some v)→Vis X.env.scope x→∃ u,RelV v u∧Look X.env s.heap m x u
 cell:∀ x c,X.env.cells.lookup x=some c→∃ v,s.heap.IsCell c v
 free:H X.env.locals=none
 freeC:∀ x c,X.env.cells.lookup x=some c→H c=none
 pin:∀ p∈X.pn ++ pins,s.heap.get? p.1=some p.2∧H p.1=none∧p.1≠X.env.locals∧p.1∉X.fs∧∀ v,p.2.data≠.cell v
 hok:HOk X.prog X.w H s.heap
 len:σ.length=X.N.length
section
variable {X:Cx} {pins:List (Addr × Obj)} {σ:List (Option V)} {H H':Hp} {s:Shared} {h':Heap}
theorem Cx.Ok.nofr (ok:X.Ok) {b:Addr} {o:Obj} (e:X.base.get? b=some o):b∉X.fs:=fun hb=>by
 have:=(ok.funs.mem hb).1
 rw [e] at this;cases this
theorem Inv.bs (I:Inv X pins σ H s):∀ b o,X.base.get? b=some o→s.heap.get? b=some o∧H b=none:=fun b o e=>
 ⟨I.base.keep b o (I.ok.bs b o e).1 (I.ok.bs b o e).2 (I.ok.nofr e) (I.ok.noex b o e),I.base.free b o (I.ok.bs b o e).1 (I.ok.bs b o e).2 (I.ok.noex b o e)⟩
theorem Inv.bk (I:Inv X pins σ H s):∀ b o,X.base.get? b=some o→s.heap.get? b=some o:=fun b o e=>(I.bs b o e).1
theorem Inv.mod (I:Inv X pins σ H s):Mod X.K X.mg X.base:=I.ok.mod
theorem Inv.kIn (I:Inv X pins σ H s):X.K.In s.heap:=I.ok.mod.kin.keeps I.bk
theorem Inv.lt (I:Inv X pins σ H s):X.env.locals < s.heap.objs.size:=let ⟨_,hn,_⟩:=I.loc;hn.lt
theorem Inv.sz (I:Inv X pins σ H s):X.s₀.heap.objs.size≤s.heap.objs.size:=Nat.le_trans I.ok.above (Nat.le_of_lt I.lt)
theorem Inv.nofs (I:Inv X pins σ H s) {a:Addr} (h:s.heap.objs.size≤a):a∉X.fs:=fun hb=>by
 obtain ⟨_,o,ho,_⟩:=I.ok.funs.mem hb
 exact absurd (Nat.lt_of_lt_of_le (Heap.lt_size ho) (Nat.le_trans I.sz h)) (Nat.lt_irrefl _)
theorem Inv.cne (I:Inv X pins σ H s):∀ x c,X.env.cells.lookup x=some c→c≠X.env.locals:=fun x c e z=>by
 obtain ⟨v,o,ho,hd⟩:=I.cell x c e
 obtain ⟨m,⟨o',es,ep,ho',hd',_⟩,_⟩:=I.loc
 rw [z,ho'] at ho;cases ho;rw [hd'] at hd;cases hd
theorem Inv.funs (I:Inv X pins σ H s):s.heap.FunFrames X.base X.outer:=by
 have all:∀ (l:List Env),(∀ b∈frs l,b∈X.fs)→X.s₀.heap.FunFrames X.base l→s.heap.FunFrames X.base l:=by
  intro l
  induction l with
  | nil=>intro _ _;trivial
  | cons env r ih=>
   intro hs hl
   obtain ⟨hk,⟨L,o,hf,hn,ho,hd⟩,hr⟩:=hl
   have hL:L∈X.fs:=hs L (by unfold frs;rw [List.filterMap_cons,hf];exact List.mem_cons_self)
   obtain ⟨sl,e⟩:=I.base.slot L o ho (I.ok.frf L hL) hL fun z=>I.ok.exfs L z hL
   exact ⟨hk,⟨L,_,hf,hn,e,hd⟩,ih (fun b hb=>hs b (by unfold frs;rw [List.filterMap_cons,hf];exact List.mem_cons_of_mem _ hb)) hr⟩
 exact all X.outer (fun _ hb=>hb) I.ok.funs
theorem Inv.stack (I:Inv X pins σ H s):s.heap.FunFrames X.base X.stack:=by
 rcases I.ok.stk with e | ⟨e,hf⟩
 ·rw [e];exact I.funs
 ·rw [e]
  obtain ⟨m,hn,_⟩:=I.loc
  refine .cons (by rw [I.ok.kind];decide) hf hn ?_ I.funs
  exact Heap.get?_none_of_le (Nat.le_trans I.ok.bsz I.ok.above)
theorem Inv.stkSub (I:Inv X pins σ H s):∀ b∈frs X.stack,b∈X.env.locals :: X.fs:=fun b hb=>by
 rcases I.ok.stk with e | ⟨e,hf⟩
 ·rw [e] at hb;exact List.mem_cons_of_mem _ hb
 ·rw [e] at hb
  unfold frs at hb
  rw [List.filterMap_cons,hf] at hb
  exact hb
theorem Inv.stkFree (I:Inv X pins σ H s):∀ b∈frs X.stack,H b=none:=fun b hb=>by
 rcases List.mem_cons.mp (I.stkSub b hb) with e | hb
 ·rw [e];exact I.free
 ·obtain ⟨_,o,ho,_⟩:=I.ok.funs.mem hb
  exact I.base.free b o ho (I.ok.frf b hb) fun z=>I.ok.exfs b z hb
theorem Inv.step {g':Array GenState} {t':Nat} {d':Drawn} {ch:List Addr} (I:Inv X pins σ H s)
  (hch:∀ b∈ch,(b∈X.ex∨X.s₀.heap.objs.size≤b)∧b≠X.env.locals∧(∀ x c,X.env.cells.lookup x=some c→c≠b)∧∀ p∈X.pn ++ pins,p.1≠b)
  (keep:∀ b o,b≠X.env.locals→b∉X.fs→b∉ch→s.heap.get? b=some o→H b=none→h'.get? b=some o)
  (slot:∀ b o,b≠X.env.locals→b∈X.fs→b∉ch→s.heap.get? b=some o→H b=none→∃ sl,h'.get? b=some { o with slots:=sl }) (free:∀ b o,b∉ch→s.heap.get? b=some o→H b=none→H' b=none)
  (there:∀ b o,b∉ch→s.heap.get? b=some o→∃ o',h'.get? b=some o')
  (tups:∀ b xs,H b=some (.tup xs)→H' b=some (.tup xs)) (frzs:∀ b o u,H b=some (.frz o u)→H' b=some (.frz o u)) (tbls:∀ b ps,H b=some (.tbl ps)→∃ more,H' b=some (.tbl (ps ++ more)))
  (ns:∀ m,s.heap.Ns X.env.locals m→h'.Ns X.env.locals m) (hok:HOk X.prog X.w H' h') (hg:AllBare g') :
  Inv X pins σ H' { s with heap:=h',gens:=g',drawn:=d',toks:=t' }:=by
 have neL:∀ b o,X.s₀.heap.get? b=some o→b≠X.env.locals:=fun b o e=>Nat.ne_of_lt (Nat.lt_of_lt_of_le (Heap.lt_size e) I.ok.above)
 have neC:∀ b o,X.s₀.heap.get? b=some o→b∉X.ex→b∉ch:=fun b o e hx hb=>by
  rcases (hch b hb).1 with z | z
  ·exact hx z
  ·exact absurd (Nat.lt_of_lt_of_le (Heap.lt_size e) z) (Nat.lt_irrefl _)
 have cellK:∀ x c,X.env.cells.lookup x=some c→∀ v,s.heap.IsCell c v→h'.IsCell c v:=fun x c e v ⟨o,ho,hd⟩=>by
  have nch:c∉ch:=fun z=>(hch c z).2.2.1 x c e rfl
  by_cases hc:c∈X.fs
  ·obtain ⟨sl,q⟩:=slot c o (I.cne x c e) hc nch ho (I.freeC x c e)
   exact ⟨_,q,hd⟩
  ·exact ⟨o,keep c o (I.cne x c e) hc nch ho (I.freeC x c e),hd⟩
 refine ⟨I.ok,I.os,hg,⟨fun b o e n hb hx=>?_,fun b o e n hb hx=>?_,fun b o e n hx=>?_,fun b o e hx=>?_,fun b xs e=>tups b xs (I.base.tups b xs e),fun b o xs e=>frzs b o xs (I.base.frzs b o xs e),fun b ps e=>?_⟩,?_,fun x c e=>?_,?_,fun x c e=>?_,fun p hp=>?_,hok,I.len⟩
 ·exact keep b o (neL b o e) hb (neC b o e hx) (I.base.keep b o e n hb hx) (I.base.free b o e n hx)
 ·obtain ⟨sl,e1⟩:=I.base.slot b o e n hb hx
  obtain ⟨sl',e2⟩:=slot b _ (neL b o e) hb (neC b o e hx) e1 (I.base.free b o e n hx)
  exact ⟨sl',e2⟩
 ·obtain ⟨o',e1⟩:=I.base.there b o e hx
  exact free b o' (neC b o e hx) e1 (I.base.free b o e n hx)
 ·obtain ⟨o',e1⟩:=I.base.there b o e hx
  exact there b o' (neC b o e hx) e1
 ·obtain ⟨m1,e1⟩:=I.base.tbls b ps e
  obtain ⟨m2,e2⟩:=tbls b _ e1
  exact ⟨m1 ++ m2,by rw [e2,Array.append_assoc]⟩
 ·obtain ⟨m,hn,hl⟩:=I.loc
  refine ⟨m,ns m hn,fun i x v e1 e2 e3=>?_⟩
  obtain ⟨u,r,l⟩:=hl i x v e1 e2 e3
  refine ⟨u,r,?_⟩
  rcases l with l | ⟨k,c,e,z⟩
  ·exact .inl l
  ·exact .inr ⟨k,c,e,cellK x c e _ z⟩
 ·obtain ⟨v,z⟩:=I.cell x c e
  exact ⟨v,cellK x c e v z⟩
 ·obtain ⟨m,⟨o,_,_,ho,_⟩,_⟩:=I.loc
  exact free _ o (fun z=>(hch _ z).2.1 rfl) ho I.free
 ·obtain ⟨v,o,ho,hd⟩:=I.cell x c e
  exact free c o (fun z=>(hch c z).2.2.1 x c e rfl) ho (I.freeC x c e)
 ·obtain ⟨e,n,ne,nf,d⟩:=I.pin p hp
  have nch:p.1∉ch:=fun z=>(hch p.1 z).2.2.2 p hp rfl
  exact ⟨keep p.1 p.2 ne nf nch e n,free p.1 p.2 nch e n,ne,nf,d⟩
theorem Inv.un {t':Nat} (I:Inv X pins σ H s) (u:Un X.fs [] H H' s.heap h') (hok:HOk X.prog X.w H' h'):Inv X pins σ H' { s with heap:=h',toks:=t' }:=by
 obtain ⟨m,⟨o,es,ep,ho,r⟩,_⟩:=id I.loc
 obtain ⟨sl,hL⟩:=u.any ho I.free (by simp)
 exact I.step (g':=s.gens) (d':=s.drawn) (ch:=[]) (fun _ z=>nomatch z) (fun b o _ hb _ e n=>u.keep b o e n hb (by simp)) (fun b o _ hb _ e n=>u.slot b o e n hb (by simp)) (fun b o _ e n=>u.free b o e n (by simp)) (fun b o _ e=>u.there b o e (by simp)) u.tups u.frzs u.tbls (fun m' hm=>by
  obtain ⟨o',es',ep',ho',r'⟩:=hm
  rw [ho] at ho';cases ho'
  exact ⟨_,es',ep',hL,r'⟩) hok I.bare
theorem Inv.call {g':Array GenState} {t':Nat} {d':Drawn} {ch:List Addr} (I:Inv X pins σ H s) (u:Un (frs X.stack) ch H H' s.heap h') (hok:HOk X.prog X.w H' h') (hg:AllBare g')
  (hch:∀ b∈ch,(b∈X.ex∨X.s₀.heap.objs.size≤b)∧b≠X.env.locals∧(∀ x c,X.env.cells.lookup x=some c→c≠b)∧∀ p∈X.pn ++ pins,p.1≠b) :
  Inv X pins σ H' { s with heap:=h',gens:=g',drawn:=d',toks:=t' }:=by
 obtain ⟨m,⟨o,es,ep,ho,r⟩,_⟩:=id I.loc
 obtain ⟨sl,hL⟩:=u.any ho I.free fun z=>(hch _ z).2.1 rfl
 exact I.step (ch:=ch) hch (fun b o hL hb hc e n=>u.keep b o e n (fun z=>(List.mem_cons.mp (I.stkSub b z)).elim hL hb) hc) (fun b o _ _ hc e n=>u.any e n hc) (fun b o hc e n=>u.free b o e n hc) (fun b o hc e=>u.there b o e hc) u.tups u.frzs u.tbls (fun m' hm=>by
  obtain ⟨o',es',ep',ho',r'⟩:=hm
  rw [ho] at ho';cases ho'
  exact ⟨_,es',ep',hL,r'⟩) hok hg
theorem Inv.turned {t':Nat} {it:Addr} (I:Inv X pins σ H s) (k:∀ b o,b≠it→s.heap.get? b=some o→h'.get? b=some o) (hn:H it=none) (hL:it≠X.env.locals)
  (h1:it∈X.ex∨X.s₀.heap.objs.size≤it) (h2:∀ x c,X.env.cells.lookup x=some c→c≠it) (h3:∀ p∈X.pn ++ pins,p.1≠it):Inv X pins σ H { s with heap:=h',toks:=t' }:=by
 have nit:∀ b u,H b=some u→b≠it:=fun b u e z=>by rw [z,hn] at e;cases e
 refine I.step (g':=s.gens) (d':=s.drawn) (ch:=[it]) (fun b hb=>?_) (fun b o _ _ hc e _=>k b o (fun z=>hc (by simp [z])) e) (fun b o _ _ hc e _=>⟨o.slots,k b o (fun z=>hc (by simp [z])) e⟩) (fun _ _ _ _ n=>n)
  (fun b o hc e=>⟨o,k b o (fun z=>hc (by simp [z])) e⟩) (fun _ _ e=>e) (fun _ _ _ e=>e) (fun b ps e=>⟨#[],by rw [e];simp⟩) (fun m hm=>?_) (fun b u e=>?_) I.bare
 ·have e:b=it:=by simpa using hb
  subst e
  exact ⟨h1,hL,h2,h3⟩
 ·obtain ⟨o,es,ep,ho,r⟩:=hm
  exact ⟨o,es,ep,k _ o (Ne.symm hL) ho,r⟩
 ·refine (I.hok b u e).stay (fun c v hc q=>k c v ?_ q) (fun _ q=>q) fun _ _ q=>q
  rcases hc with z | z
  ·rw [z];exact nit b u e
  ·exact nit c _ z
theorem Inv.tok (I:Inv X pins σ H s) (t:Nat):Inv X pins σ H { s with toks:=t }:=I.un (h':=s.heap) (t':=t) Un.refl I.hok
theorem Inv.kept {t':Nat} (I:Inv X pins σ H s) (k:∀ b u,s.heap.get? b=some u→h'.get? b=some u):Inv X pins σ H { s with heap:=h',toks:=t' }:=I.un (Un.kept k) (I.hok.kept k)
theorem Inv.laid {a:Addr} {o:HO} {t':Nat} (I:Inv X pins σ H s) (k:∀ b u,s.heap.get? b=some u→h'.get? b=some u) (hp:s.heap.objs.size≤a) (new:ObjOk X.prog X.w (upd H a o) h' a o) :
  Inv X pins σ (upd H a o) { s with heap:=h',toks:=t' }:=I.un (Un.laid k hp (I.hok.fresh hp)) (I.hok.laid k hp new)
theorem Inv.write {x e:Addr} {o:HO} {t':Nat} (I:Inv X pins σ H s) (mu:Mut (H x)) (he:e=x∨H e=some (.own x)) (k:∀ b u,b≠e→s.heap.get? b=some u→h'.get? b=some u) (heo:∃ u,h'.get? e=some u)
  (new:ObjOk X.prog X.w (upd H x o) h' x o):Inv X pins σ (upd H x o) { s with heap:=h',toks:=t' }:=I.un (Un.write mu he k heo) (I.hok.write mu he k heo new)
theorem Inv.pins_of {pins':List (Addr × Obj)} (I:Inv X pins σ H s) (h:∀ p∈pins',s.heap.get? p.1=some p.2∧H p.1=none∧p.1≠X.env.locals∧p.1∉X.fs∧∀ v,p.2.data≠.cell v):Inv X pins' σ H s:=
 ⟨I.ok,I.os,I.bare,I.base,I.loc,I.cell,I.free,I.freeC,fun p hp=>(List.mem_append.mp hp).elim (fun z=>I.pin p (List.mem_append_left _ z)) (h p),I.hok,I.len⟩
theorem nodup_ix {N:List Str} (hN:N.Nodup) {i j:Nat} {x:Str} (a:N[i]?=some x) (b:N[j]?=some x):i=j:=by
 obtain ⟨h1,e1⟩:=List.getElem?_eq_some_iff.mp a
 obtain ⟨h2,e2⟩:=List.getElem?_eq_some_iff.mp b
 exact (List.getElem_inj hN).mp (e1.trans e2.symm)
theorem store_ok2 {M:Model} {A:Around} {E:Value→Shared→Prop} {i:Nat} {x:Str} {v:V} {u:Value} {Q:Unit→Shared→Prop} (I:Inv X pins σ H s) (hN:X.N.Nodup) (hi:X.N[i]?=some x) (hx:Loc X.env.scope x) (r:RelV v u)
  (h:∀ s',Inv X pins (σ.set i (some v)) H s'→(∃ a,Heap.SameBut a s.heap s'.heap∧(a=X.env.locals∨X.env.cells.lookup x=some a))→Q () s') (hf:X.fn x=true∨X.env.scope.names.lookup x=some .local:=by first | exact .inl rfl | exact .inr rfl | assumption):wpAny M A (storeName X.env x u) Q E s:=by
 obtain ⟨m,hn,hl⟩:=id I.loc
 have hcls:(X.env.scope.kind == .class || (X.env.scope.kind == .module && X.env.locals != X.env.globals))=false:=by rw [I.ok.kind];rfl
 have hiσ:i < σ.length:=by rw [I.len];exact (List.getElem?_eq_some_iff.mp hi).1
 have cne:=I.cne
 have tracked:∀ {a:Addr} {h':Heap},(∃ o,s.heap.get? a=some o∧H a=none)→Heap.SameBut a s.heap h'→HOk X.prog X.w H h':=fun {a h'} ha hs b ob e=>by
  obtain ⟨_,_,hfree⟩:=ha
  refine (I.hok b ob e).stay (fun c w' hc q=>(hs.2 c ?_).trans q) (fun _ q=>q) fun _ _ q=>q
  rintro rfl
  rcases hc with rfl | hc
  ·rw [hfree] at e;cases e
  ·rw [hfree] at hc;cases hc
 rcases hx with hk | hk
 ·refine wpAny_storeName_local hk hn (fun h' hn' hs=>?_) hcls
  obtain ⟨oL,_,_,hoL,_⟩:=id hn
  refine h _ ⟨I.ok,I.os,I.bare,⟨fun b o e n hb hx=>?_,fun b o e n hb hx=>?_,I.base.free,fun b o e hx=>?_,I.base.tups,I.base.frzs,I.base.tbls⟩,⟨_,hn',fun j y v' e1 e2 e3=>?_⟩,fun y c e=>?_,I.free,I.freeC,fun p hp=>?_,tracked ⟨oL,hoL,I.free⟩ hs,by simpa using I.len⟩ ⟨_,hs,.inl rfl⟩
  ·exact (hs.2 b (Nat.ne_of_lt (Nat.lt_of_lt_of_le (Heap.lt_size e) I.ok.above))).trans (I.base.keep b o e n hb hx)
  ·obtain ⟨sl,e1⟩:=I.base.slot b o e n hb hx
   exact ⟨sl,(hs.2 b (Nat.ne_of_lt (Nat.lt_of_lt_of_le (Heap.lt_size e) I.ok.above))).trans e1⟩
  ·obtain ⟨o',e1⟩:=I.base.there b o e hx
   exact ⟨o',(hs.2 b (Nat.ne_of_lt (Nat.lt_of_lt_of_le (Heap.lt_size e) I.ok.above))).trans e1⟩
  ·by_cases hj:j=i
   ·subst hj
    rw [hi] at e1;cases e1
    rw [List.getElem?_set_self hiσ] at e2
    cases e2
    exact ⟨u,r,.inl ⟨hk,by simp⟩⟩
   ·rw [List.getElem?_set_ne (Ne.symm hj)] at e2
    obtain ⟨u',r',q⟩:=hl j y v' e1 e2 e3
    refine ⟨u',r',?_⟩
    rcases q with ⟨k,e⟩ | ⟨k,c,e,z⟩
    ·refine .inl ⟨k,?_⟩
     have:y≠x:=fun e=>hj (nodup_ix hN e1 (e ▸ hi))
     simp [this,e]
    ·exact .inr ⟨k,c,e,z.sameBut hs (cne y c e)⟩
  ·obtain ⟨w',z⟩:=I.cell y c e
   exact ⟨w',z.sameBut hs (cne y c e)⟩
  ·obtain ⟨e,n,ne,nf,d⟩:=I.pin p hp
   exact ⟨(hs.2 p.1 ne).trans e,n,ne,nf,d⟩
 ·have hfn:X.fn x=true:=by
   rcases hf with z | z
   ·exact z
   ·rw [z] at hk;cases hk
  obtain ⟨c,hc⟩:=I.ok.has x (.inl hk)
  obtain ⟨w',z⟩:=I.cell x c hc
  refine wpAny_storeName_cell I.ok.kind hk hc z (fun h' hc' hs=>?_)
  obtain ⟨oc,hoc,hocd⟩:=id z
  refine h { s with heap:=h' } ⟨I.ok,I.os,I.bare,⟨fun b o e n hb hx=>?_,fun b o e n hb hx=>?_,I.base.free,fun b o e hx=>?_,I.base.tups,I.base.frzs,I.base.tbls⟩,⟨m,hn.sameBut hs (Ne.symm (cne x c hc)),fun j y v' e1 e2 e3=>?_⟩,fun y c' e=>?_,I.free,I.freeC,fun p hp=>?_,tracked ⟨oc,hoc,I.freeC x c hc⟩ hs,by simpa using I.len⟩ ⟨c,hs,.inr hc⟩
  ·exact (hs.2 b (Nat.ne_of_lt (Nat.lt_of_lt_of_le (Heap.lt_size e) (I.ok.cab x c hfn hc)))).trans (I.base.keep b o e n hb hx)
  ·obtain ⟨sl,e1⟩:=I.base.slot b o e n hb hx
   exact ⟨sl,(hs.2 b (Nat.ne_of_lt (Nat.lt_of_lt_of_le (Heap.lt_size e) (I.ok.cab x c hfn hc)))).trans e1⟩
  ·obtain ⟨o',e1⟩:=I.base.there b o e hx
   exact ⟨o',(hs.2 b (Nat.ne_of_lt (Nat.lt_of_lt_of_le (Heap.lt_size e) (I.ok.cab x c hfn hc)))).trans e1⟩
  ·by_cases hj:j=i
   ·subst hj
    rw [hi] at e1;cases e1
    rw [List.getElem?_set_self hiσ] at e2
    cases e2
    exact ⟨u,r,.inr ⟨.inl hk,c,hc,hc'⟩⟩
   ·rw [List.getElem?_set_ne (Ne.symm hj)] at e2
    obtain ⟨u',r',q⟩:=hl j y v' e1 e2 e3
    refine ⟨u',r',?_⟩
    rcases q with q | ⟨k,c',e,z'⟩
    ·exact .inl q
    ·refine .inr ⟨k,c',e,z'.sameBut hs ?_⟩
     rintro rfl
     exact hj (nodup_ix hN e1 (I.ok.inj _ _ _ e hc ▸ hi))
  ·by_cases hcc:c'=c
   ·subst hcc;exact ⟨_,hc'⟩
   ·obtain ⟨w2,z2⟩:=I.cell y c' e
    exact ⟨w2,z2.sameBut hs hcc⟩
  ·obtain ⟨e,n,ne,nf,d⟩:=I.pin p hp
   refine ⟨(hs.2 p.1 ?_).trans e,n,ne,nf,d⟩
   intro q
   rw [q,hoc] at e
   have q':oc=p.2:=Option.some.inj e
   exact d w' (by rw [← q'];exact hocd)
theorem store_ok {M:Model} {A:Around} {E:Value→Shared→Prop} {i:Nat} {x:Str} {v:V} {u:Value} {Q:Unit→Shared→Prop} (I:Inv X pins σ H s) (hN:X.N.Nodup) (hi:X.N[i]?=some x) (hx:Loc X.env.scope x) (r:RelV v u)
  (h:∀ s',Inv X pins (σ.set i (some v)) H s'→Q () s') (hf:X.fn x=true∨X.env.scope.names.lookup x=some .local:=by first | exact .inl rfl | exact .inr rfl | assumption):wpAny M A (storeName X.env x u) Q E s:=
 store_ok2 I hN hi hx r (fun s' I' _=>h s' I') hf
theorem Inv.call' {s':Shared} {ch:List Addr} (I:Inv X pins σ H s) (ho:s'.os=s.os) (u:Un (frs X.stack) ch H H' s.heap s'.heap) (hok:HOk X.prog X.w H' s'.heap) (hg:AllBare s'.gens)
  (hch:∀ b∈ch,(b∈X.ex∨X.s₀.heap.objs.size≤b)∧b≠X.env.locals∧(∀ x c,X.env.cells.lookup x=some c→c≠b)∧∀ p∈X.pn ++ pins,p.1≠b):Inv X pins σ H' s':=by
 obtain ⟨h',g',d',t',o'⟩:=s'
 have e:o'=s.os:=ho
 subst e
 exact I.call (g':=g') (t':=t') (d':=d') u hok hg hch
end
abbrev XK:=Value→Option Addr→Hp→Prop
abbrev St:=List (Option V)
abbrev VK:=V→Hp→Prop
abbrev TE:=St→Hp→VK→Prop
abbrev TT:=St→Hp→(Bool→Hp→Prop)→Prop
abbrev TA:=St→Hp→(List V→Hp→Prop)→Prop
structure Ends where
 nx:St→Hp→Prop
 rt:VK
 bk:St→Hp→Prop:=fun _ _=>False
 ct:St→Hp→Prop:=fun _ _=>False
abbrev TS:=Ends→St→Hp→Prop
def EP (X:Cx) (pins:List (Addr × Obj)) (σ:St) (Q:VK) (u:Value) (s':Shared):Prop:=∃ v H',Inv X pins σ H' s'∧RelV v u∧Q v H'
def TP (X:Cx) (pins:List (Addr × Obj)) (σ:St) (Q:Bool→Hp→Prop) (b:Bool) (s':Shared):Prop:=∃ H',Inv X pins σ H' s'∧Q b H'
def AP (X:Cx) (pins:List (Addr × Obj)) (σ:St) (Q:List V→Hp→Prop) (us:List Value) (s':Shared):Prop:=∃ vs H',Inv X pins σ H' s'∧Vals vs us∧Q vs H'
def SP (X:Cx) (pins:List (Addr × Obj)) (D:Ends) (f:Flow) (s':Shared):Prop:=
 match f with
 | .next=>∃ σ' H',Inv X pins σ' H' s'∧D.nx σ' H'
 | .brk=>∃ σ' H',Inv X pins σ' H' s'∧D.bk σ' H'
 | .cont=>∃ σ' H',Inv X pins σ' H' s'∧D.ct σ' H'
 | .ret u=>∃ v σ' H',Inv X pins σ' H' s'∧RelV v u∧D.rt v H'
def PE (X:Cx) (e:Expr) (t:TE):Prop:=
 ∀ (pins:List (Addr × Obj)) (s:Shared) (σ:St) (H:Hp) (Q:VK),Inv X pins σ H s→t σ H Q→wpAny (model X.prog X.w) X.A (eval e X.env) (EP X pins σ Q) X.xe s
def PT (X:Cx) (e:Expr) (t:TT):Prop:=
 ∀ (pins:List (Addr × Obj)) (s:Shared) (σ:St) (H:Hp) (Q:Bool→Hp→Prop),Inv X pins σ H s→t σ H Q→wpAny (model X.prog X.w) X.A (isTrue e X.env (eval e X.env)) (TP X pins σ Q) X.xe s
def PW (X:Cx) (e:Expr) (t:TT):Prop:=
 ∀ (whole:Sem Value) (pins:List (Addr × Obj)) (s:Shared) (σ:St) (H:Hp) (Q:Bool→Hp→Prop),Inv X pins σ H s→t σ H Q→wpAny (model X.prog X.w) X.A (isTrue e X.env whole) (TP X pins σ Q) X.xe s
theorem PW.pt {X:Cx} {e:Expr} {t:TT} (h:PW X e t):PT X e t:=h _
def PA (X:Cx) (es:List Expr) (t:TA):Prop:=
 ∀ (pos:Pos) (pins:List (Addr × Obj)) (s:Shared) (σ:St) (H:Hp) (Q:List V→Hp→Prop),Inv X pins σ H s→t σ H Q→wpAny (model X.prog X.w) X.A (spliced (backTo pos (starEach es X.env))) (AP X pins σ Q) X.xe s
def PS (X:Cx) (st:Stmt) (t:TS):Prop:=
 ∀ (pins:List (Addr × Obj)) (s:Shared) (σ:St) (H:Hp) (D:Ends),Inv X pins σ H s→t D σ H→wpAny (model X.prog X.w) X.A (exec st X.env) (SP X pins D) X.xe s
def PSs (X:Cx) (st:List Stmt) (t:TS):Prop:=
 ∀ (pins:List (Addr × Obj)) (s:Shared) (σ:St) (H:Hp) (D:Ends),Inv X pins σ H s→t D σ H→wpAny (model X.prog X.w) X.A (execs st X.env) (SP X pins D) X.xe s
theorem thn {α:Type} {t:Sem α} {Q Q':α→Shared→Prop} {M:Model} {A:Around} {E:Value→Shared→Prop} {s:Shared} (h:wpAny M A t Q E s) (hQ:∀ a s,Q a s→Q' a s):wpAny M A t Q' E s:=wpAny_mono h hQ fun _ _ x=>x
end L2
namespace L2
open PySem PySem.Spec PyProof.Rows
section
variable {X:Cx}
def tVar (i:Nat):TE:=fun σ H Q=>∃ v,σ[i]?=some (some v)∧Q v H
def tC (v:V):TE:=fun _ H Q=>Q v H
theorem pe_var {i:Nat} {x:Str} {pos:Pos} (hN:X.N[i]?=some x) (hv:Vis X.env.scope x) (hd:(x == ("__debug__":Str))=false:=by decide) (hcd:(x == ("__classdict__":Str))=false:=by decide):PE X (.Name x pos) (tVar i):=by
 intro pins s σ H Q I h
 obtain ⟨v,e,h⟩:=h
 obtain ⟨m,hn,hl⟩:=I.loc
 obtain ⟨u,r,l⟩:=hl i x v hN e hv
 have fin:EP X pins σ Q u s:=⟨v,H,I,r,h⟩
 rcases l with ⟨hk,hm⟩ | ⟨hk,c,hc,hcell⟩
 ·exact wpAny_Name (wpAny_loadName_local I.ok.kind hk hn hm fin) hd
 ·rcases hk with hk | hk
  ·exact wpAny_Name (wpAny_loadName_cell I.ok.kind hk hc hcell fin) hd
  ·exact wpAny_Name (wpAny_loadName_free I.ok.kind hk hc hcell fin hcd) hd
theorem pe_int {i j pos}:PE X (.Constant (.int i) j pos) (tC (.int i)):=fun _ _ _ H _ I h=>wpAny_Constant_int ⟨.int i,H,I.tok _,⟨_,rfl⟩,h⟩
theorem pe_bl {b j pos}:PE X (.Constant (.bool b) j pos) (tC (.bl b)):=fun _ _ _ H _ I h=>Constant_bool ⟨.bl b,H,I,rfl,h⟩
theorem pe_non {j pos}:PE X (.Constant .none j pos) (tC .non):=fun _ _ _ H _ I h=>Constant_none ⟨.non,H,I,rfl,h⟩
theorem pe_str {x j pos}:PE X (.Constant (.str x) j pos) (tC (.str x)):=fun _ _ _ H _ I h=>Calls.Constant_str ⟨.str x,H,I.tok _,⟨_,rfl⟩,h⟩
def Gl (X:Cx) (x:Str):Prop:=X.env.kindOf x=some .globalImplicit
theorem ld_glob {E:Value→Shared→Prop} {pins:List (Addr × Obj)} {s:Shared} {σ:St} {H:Hp} {x:Str} {u:Value} {pos:Pos} {Q:Value→Shared→Prop} (I:Inv X pins σ H s) (hg:Gl X x) (hm:X.mg x=some u) (h:Q u s)
  (hd:(x == ("__debug__":Str))=false:=by decide):wpAny (model X.prog X.w) X.A (eval (.Name x pos) X.env) Q E s:=
 Calls.Name_function_global I.ok.kind hg (Calls.loadGlobal_global (by rw [I.ok.glob];exact I.mod.glob.keeps I.bk) hm h) hd
theorem ld_blt {E:Value→Shared→Prop} {pins:List (Addr × Obj)} {s:Shared} {σ:St} {H:Hp} {x:Str} {u:Value} {pos:Pos} {Q:Value→Shared→Prop} (I:Inv X pins σ H s) (hg:Gl X x) (hm:X.mg x=none) (hv:bootBuiltins x=some u) (h:Q u s)
  (hn:x≠"__name__":=by decide) (hd:(x == ("__debug__":Str))=false:=by decide):wpAny (model X.prog X.w) X.A (eval (.Name x pos) X.env) Q E s:=by
 obtain ⟨mb,h1,h2⟩:=I.mod.blt
 exact Calls.Name_function_global I.ok.kind hg (Calls.loadGlobal_builtin (by rw [I.ok.glob];exact I.mod.glob.keeps I.bk) hm (by rw [I.ok.blt];exact h1.keeps I.bk) ((h2 x hn).trans hv) h) hd
theorem pe_bltn {x:Str} {v:V} {u:Value} {pos:Pos} (hg:Gl X x) (hm:X.mg x=none) (hv:bootBuiltins x=some u) (r:RelV v u) (hn:x≠"__name__":=by decide) (hd:(x == ("__debug__":Str))=false:=by decide):PE X (.Name x pos) (tC v):=
 fun _ _ _ H _ I h=>ld_blt I hg hm hv ⟨v,H,I,r,h⟩ hn hd
variable {a b:Expr} {ta tb:TE} {pos:Pos}
def PC (X:Cx) (op:CmpOp) (a b:Expr) (t:TE):Prop:=
 ∀ (pins:List (Addr × Obj)) (s:Shared) (σ:St) (H:Hp) (Q:VK),Inv X pins σ H s→t σ H Q→
  wpAny (model X.prog X.w) X.A (eval a X.env) (fun v s₁=>wpAny (model X.prog X.w) X.A (eval b X.env) (fun u s₂=>wpAny (model X.prog X.w) X.A (compareOp op v u) (EP X pins σ Q) X.xe s₂) X.xe s₁) X.xe s
def tB (t:TE):TT:=fun σ H Q=>t σ H fun x H1=>∃ c,x=.bl c∧Q c H1
theorem pt_cmp {op:CmpOp} {t:TE} (h:PC X op a b t) (h1:behindInMarks op b=false:=by first | exact nobehind _ (by decide) (by decide) | rfl):PT X (.Compare a [op] [b] pos) (tB t):=by
 intro pins s σ H Q I hw
 refine wpAny_isTrue_Compare1 (thn (h pins s σ H _ I hw) fun v s1 h1=>thn h1 fun u s2 h2=>thn h2 fun c s3 ⟨x,H1,I1,r1,q1⟩=>?_) h1
 obtain ⟨d,rfl,q⟩:=q1
 cases r1
 exact wpAny_truthy_bool ⟨H1,I1,q⟩
theorem pt_val {e:Expr} {t:TE} (h:PE X e t) (he:∀ whole,isTrue e X.env whole=(do let v ← whole;standAt e.pos;holding [v] (truthy v)):=by intro _;rfl):PT X e (tB t):=by
 intro pins s σ H Q I hw
 refine isTrue_plain (thn (h pins s σ H _ I hw) fun v s1 ⟨x,H1,I1,r1,q1⟩=>?_) (he _)
 obtain ⟨d,rfl,q⟩:=q1
 cases r1
 exact wpAny_truthy_bool ⟨H1,I1,q⟩
variable {tA tB':TT} {rest:List Expr}
def tAnd (t u:TT):TT:=fun σ H Q=>t σ H fun c H1=>if c=true then u σ H1 Q else Q false H1
def tOr (t u:TT):TT:=fun σ H Q=>t σ H fun c H1=>if c=true then Q true H1 else u σ H1 Q
def tNot (t:TT):TT:=fun σ H Q=>t σ H fun c H1=>Q (!c) H1
theorem pw_and1 (ha:PT X a tA):PW X (.BoolOp .And [a] pos) tA:=by
 intro wh pins s σ H Q I h
 refine isTrue_and (thn (ha pins s σ H Q I h) fun c s1 e=>?_)
 cases c with
 | true=>exact isTrue_and_nil e
 | false=>exact e
theorem pw_or1 (ha:PT X a tA):PW X (.BoolOp .Or [a] pos) tA:=by
 intro wh pins s σ H Q I h
 refine isTrue_or (thn (ha pins s σ H Q I h) fun c s1 e=>?_)
 cases c with
 | false=>exact isTrue_or_nil e
 | true=>exact e
theorem pw_and (ha:PT X a tA) (hb:PW X (.BoolOp .And (b :: rest) pos) tB'):PW X (.BoolOp .And (a :: b :: rest) pos) (tAnd tA tB'):=by
 intro wh pins s σ H Q I h
 refine isTrue_and (thn (ha pins s σ H _ I h) fun c s1 ⟨H1,I1,q1⟩=>?_)
 cases c with
 | true=>exact hb wh pins s1 σ H1 Q I1 q1
 | false=>exact ⟨H1,I1,q1⟩
theorem pw_or (ha:PT X a tA) (hb:PW X (.BoolOp .Or (b :: rest) pos) tB'):PW X (.BoolOp .Or (a :: b :: rest) pos) (tOr tA tB'):=by
 intro wh pins s σ H Q I h
 refine isTrue_or (thn (ha pins s σ H _ I h) fun c s1 ⟨H1,I1,q1⟩=>?_)
 cases c with
 | true=>exact ⟨H1,I1,q1⟩
 | false=>exact hb wh pins s1 σ H1 Q I1 q1
theorem pt_not (ha:PT X a tA):PT X (.UnaryOp .Not a pos) (tNot tA):=by
 intro pins s σ H Q I h
 exact isTrue_not (ha pins s σ H (fun c H1=>Q (!c) H1) I h)
end
end L2
namespace L2
open PySem PySem.Spec PyProof.Rows
def SqL (K:PySem.W.Frag) (H:Hp) (a:Addr) (xs:List V):Prop:=
 Rd H a (.lst xs)∨
  ∃ (o:Obj) (its:Array Value) (n:Nat),K.lookup a=some o∧o.cls=.type "list"∧o.dict=none∧o.data=.seq its n∧its.size≤sizeLine∧Vals xs its.toList
def SqT (K:PySem.W.Frag) (H:Hp) (a:Addr) (xs:List V):Prop:=
 Rd H a (.tup xs)∨
  ∃ (o:Obj) (its:Array Value) (n:Nat),K.lookup a=some o∧o.cls=.type "tuple"∧o.data=.seq its n∧its.size≤sizeLine∧Vals xs its.toList
def absV:Value→Option V
 | .none=>some .non
 | .bool b=>some (.bl b)
 | .int i _=>some (.int i)
 | .str x _=>some (.str x)
 | .bytes b _=>some (.byt b)
 | .float b _=>some (.flt b)
 | .ref a=>some (.ref a)
 | .type n=>some (.ty n)
 | _=>none
theorem RelV.abs {x:V} {u:Value} (r:RelV x u):absV u=some x:=by
 cases x with
 | non=>cases r;rfl
 | bl _=>cases r;rfl
 | int _=>obtain ⟨t,rfl⟩:=r;rfl
 | str _=>obtain ⟨t,rfl⟩:=r;rfl
 | byt _=>obtain ⟨t,rfl⟩:=r;rfl
 | flt _=>obtain ⟨t,rfl⟩:=r;rfl
 | ref _=>cases r;rfl
 | ty _=>cases r;rfl
theorem RelV.inj {x y:V} {u:Value} (r:RelV x u) (q:RelV y u):x=y:=Option.some.inj (r.abs.symm.trans q.abs)
theorem Vals.inj:∀ {xs ys:List V} {us:List Value},Vals xs us→Vals ys us→xs=ys
 | _,_,_,.nil,.nil=>rfl
 | _,_,_,.cons r t,.cons r' t'=>by rw [r.inj r',Vals.inj t t']
section
variable {X:Cx} {pins:List (Addr × Obj)} {σ:St} {H:Hp} {s:Shared} {a:Addr} {xs ys:List V}
theorem SqL.of {K:PySem.W.Frag} (h:H a=some (.lst xs)):SqL K H a xs:=.inl (.inl h)
theorem SqT.of {K:PySem.W.Frag} (h:H a=some (.tup xs)):SqT K H a xs:=.inl (.inl h)
theorem Inv.list (I:Inv X pins σ H s) (h:SqL X.K H a xs):∃ its:List Value,Vals xs its∧PlainL s.heap a its.toArray∧xs.length≤sizeLine:=by
 rcases h with h | ⟨o,its,n,hk,hc,hd,hs,hz,r⟩
 ·obtain ⟨z,its,n,r,e⟩:=h.ok I.hok
  exact ⟨its,r,⟨_,n,e,rfl,rfl,rfl⟩,z⟩
 ·refine ⟨its.toList,r,⟨o,n,I.kIn a o hk,hc,hd,by simpa using hs⟩,?_⟩
  have e:=r.length
  simp only [Array.length_toList] at e
  omega
theorem Inv.tuple (I:Inv X pins σ H s) (h:SqT X.K H a xs):∃ its:List Value,Vals xs its∧IsTup s.heap a its.toArray∧xs.length≤sizeLine:=by
 rcases h with h | ⟨o,its,n,hk,hc,hs,hz,r⟩
 ·obtain ⟨z,its,r,p⟩:=h.ok I.hok
  exact ⟨its,r,p,z⟩
 ·refine ⟨its.toList,r,⟨o,I.kIn a o hk,hc,n,by simpa using hs⟩,?_⟩
  have e:=r.length
  simp only [Array.length_toList] at e
  omega
theorem Inv.list_inj (I:Inv X pins σ H s) (h:SqL X.K H a xs) (h':SqL X.K H a ys):xs=ys:=by
 obtain ⟨its,r,⟨o,n,e,_,_,d⟩,_⟩:=I.list h
 obtain ⟨its',r',⟨o',n',e',_,_,d'⟩,_⟩:=I.list h'
 rw [e] at e';cases e'
 rw [d] at d'
 injection d' with d1 _
 have:its=its':=by simpa using congrArg Array.toList d1
 subst this
 exact r.inj r'
theorem Inv.tuple_inj (I:Inv X pins σ H s) (h:SqT X.K H a xs) (h':SqT X.K H a ys):xs=ys:=by
 obtain ⟨its,r,⟨o,e,_,n,d⟩,_⟩:=I.tuple h
 obtain ⟨its',r',⟨o',e',_,n',d'⟩,_⟩:=I.tuple h'
 rw [e] at e';cases e'
 rw [d] at d'
 injection d' with d1 _
 have:its=its':=by simpa using congrArg Array.toList d1
 subst this
 exact r.inj r'
end
abbrev Cx.wish (X:Cx) (E:Value→Shared→Prop):Cx:={ X with xe:=E }
abbrev Cx.nox (X:Cx):Cx:=X.wish fun _ _=>False
theorem Cx.Ok.wish {X:Cx} (ok:X.Ok) (E:Value→Shared→Prop):(X.wish E).Ok:=
 ⟨ok.mod,ok.kind,ok.glob,ok.blt,ok.above,ok.inj,ok.has,ok.cab,ok.hd,ok.frames,ok.stk,ok.exf,ok.bs,ok.bsz,ok.noex,ok.exfs,ok.funs,ok.frf⟩
theorem Cx.Ok.unwish {X:Cx} {E:Value→Shared→Prop} (ok:(X.wish E).Ok):X.Ok:=
 ⟨ok.mod,ok.kind,ok.glob,ok.blt,ok.above,ok.inj,ok.has,ok.cab,ok.hd,ok.frames,ok.stk,ok.exf,ok.bs,ok.bsz,ok.noex,ok.exfs,ok.funs,ok.frf⟩
section
variable {X:Cx} {pins:List (Addr × Obj)} {σ:St} {H:Hp} {s:Shared} {E:Value→Shared→Prop}
theorem Inv.wish (I:Inv X pins σ H s) (E:Value→Shared→Prop):Inv (X.wish E) pins σ H s:=⟨I.ok.wish E,I.os,I.bare,I.base,I.loc,I.cell,I.free,I.freeC,I.pin,I.hok,I.len⟩
theorem Inv.unwish (I:Inv (X.wish E) pins σ H s):Inv X pins σ H s:=⟨I.ok.unwish,I.os,I.bare,I.base,I.loc,I.cell,I.free,I.freeC,I.pin,I.hok,I.len⟩
theorem SP.unwish {D:Ends} {f:Flow} {s':Shared} (h:SP (X.wish E) pins D f s'):SP X pins D f s':=by
 cases f with
 | next=>obtain ⟨σ',H',I,q⟩:=h;exact ⟨σ',H',I.unwish,q⟩
 | brk=>obtain ⟨σ',H',I,q⟩:=h;exact ⟨σ',H',I.unwish,q⟩
 | cont=>obtain ⟨σ',H',I,q⟩:=h;exact ⟨σ',H',I.unwish,q⟩
 | ret u=>obtain ⟨v,σ',H',I,r,q⟩:=h;exact ⟨v,σ',H',I.unwish,r,q⟩
theorem PSs.nox {st:List Stmt} {t:TS} (h:PSs X.nox st t):PSs X st t:=fun pins s σ H D I hw=>
 wpAny_mono (h pins s σ H D (I.wish _) hw) (fun _ _ q=>q.unwish) fun _ _ z=>False.elim z
end
section
variable {X:Cx} {st:Stmt} {rest:List Stmt} {t u:TS} {e:Expr} {te:TE} {pos:Pos}
def tNext:TS:=fun D σ H=>D.nx σ H
def tSeq (t u:TS):TS:=fun D σ H=>t { D with nx:=u D } σ H
theorem pss_nil:PSs X [] tNext:=fun _ _ σ H _ I h=>wpAny_execs_nil ⟨σ,H,I,h⟩
theorem pss_cons (h1:PS X st t) (h2:PSs X rest u):PSs X (st :: rest) (tSeq t u):=by
 intro pins s σ H D I h
 refine wpAny_execs_cons (thn (h1 pins s σ H { D with nx:=u D } I h) fun f s1 q=>?_)
 cases f with
 | next=>
  obtain ⟨σ',H',I',q⟩:=q
  exact h2 pins s1 σ' H' D I' q
 | ret v=>exact q
 | brk=>exact q
 | cont=>exact q
theorem pss_one (h1:PS X st t):PSs X [st] t:=by
 intro pins s σ H D I h
 refine wpAny_execs_cons (thn (h1 pins s σ H D I h) fun f s1 q=>?_)
 cases f with
 | next=>exact wpAny_execs_nil q
 | ret v=>exact q
 | brk=>exact q
 | cont=>exact q
theorem Inv.quiet {pins:List (Addr × Obj)} {σ:St} {H:Hp} {s:Shared} (I:Inv X pins σ H s):interactive X.env=false:=by simp [interactive,I.ok.kind]
def tDrop (te:TE):TS:=fun D σ H=>te σ H fun _ H1=>D.nx σ H1
theorem ps_expr (he:PE X e te) (hs:swapsWith e none pos.line X.env=pure false:=by rfl):PS X (.Expr e pos) (tDrop te):=by
 intro pins s σ H D I h
 exact wpAny_Expr_any (thn (he pins s σ H _ I h) fun v s1 ⟨x,H1,I1,r1,q1⟩=>⟨σ,H1,I1,q1⟩) I.quiet hs
def tRet (te:TE):TS:=fun D σ H=>te σ H D.rt
theorem ps_ret (he:PE X e te):PS X (.Return (some e) pos) (tRet te):=by
 intro pins s σ H D I h
 exact wpAny_Return_some (thn (he pins s σ H _ I h) fun v s1 ⟨x,H1,I1,r1,q1⟩=>⟨x,σ,H1,I1,r1,q1⟩)
def tIfS (c:TT) (t u:TS):TS:=fun D σ H=>c σ H fun b H1=>if b=true then t D σ H1 else u D σ H1
theorem ps_if {c:Expr} {a b:List Stmt} {tc:TT} (hc:PT X c tc) (ha:PSs X a t) (hb:PSs X b u):PS X (.If c a b pos) (tIfS tc t u):=by
 intro pins s σ H D I h
 refine wpAny_If (thn (hc pins s σ H _ I h) fun d s1 ⟨H1,I1,q1⟩=>?_)
 cases d with
 | true=>exact ha pins s1 σ H1 D I1 q1
 | false=>exact hb pins s1 σ H1 D I1 q1
end
abbrev TG:=V→St→Hp→(St→Hp→Prop)→Prop
abbrev TGs:=List V→St→Hp→(St→Hp→Prop)→Prop
def PG (X:Cx) (target:Expr) (t:TG):Prop:=
 ∀ (pins:List (Addr × Obj)) (s:Shared) (σ:St) (H:Hp) (v:V) (u:Value) (Q:St→Hp→Prop),Inv X pins σ H s→RelV v u→t v σ H Q→
  wpAny (model X.prog X.w) X.A (assign target X.env u) (fun _ s'=>∃ σ' H',Inv X pins σ' H' s'∧Q σ' H') X.xe s
def PGs (X:Cx) (ts:List Expr) (t:TGs):Prop:=
 ∀ (pins:List (Addr × Obj)) (s:Shared) (σ:St) (H:Hp) (vs:List V) (us:List Value) (Q:St→Hp→Prop),Inv X pins σ H s→Vals vs us→t vs σ H Q→
  wpAny (model X.prog X.w) X.A (assignInOrder ((assignEach ts X.env).map (·.2)) us) (fun _ s'=>∃ σ' H',Inv X pins σ' H' s'∧Q σ' H') X.xe s
abbrev TSet:=V→V→V→Hp→(Hp→Prop)→Prop
def PSet (X:Cx) (t:TSet):Prop:=
 ∀ (pins:List (Addr × Obj)) (s:Shared) (σ:St) (H:Hp) (o i v:V) (ov iv u:Value) (Q:Hp→Prop),Inv X pins σ H s→RelV o ov→RelV i iv→RelV v u→t o i v H Q→
  wpAny (model X.prog X.w) X.A (setItem ov iv u) (fun _ s'=>∃ H',Inv X pins σ H' s'∧Q H') X.xe s
section
variable {X:Cx} {pos:Pos}
def gName (i:Nat):TG:=fun v σ H Q=>Q (σ.set i (some v)) H
theorem pg_name {i:Nat} {x:Str} (hN:X.N.Nodup) (hi:X.N[i]?=some x) (hx:Loc X.env.scope x) (hf:X.fn x=true∨X.env.scope.names.lookup x=some .local:=by first | exact .inl rfl | exact .inr rfl | assumption):PG X (.Name x pos) (gName i):=by
 intro pins s σ H v u Q I r h
 exact wpAny_assign_Name (store_ok I hN hi hx r (fun s' I'=>⟨_,H,I',h⟩) hf)
def gNil:TGs:=fun vs σ H Q=>vs=[]∧Q σ H
def gCons (t:TG) (u:TGs):TGs:=fun vs σ H Q=>∃ v r,vs=v :: r∧t v σ H fun σ' H'=>u r σ' H' Q
theorem pgs_nil:PGs X [] gNil:=by
 intro pins s σ H vs us Q I r h
 obtain ⟨e,h⟩:=h
 subst e
 cases r
 exact assignInOrder_nil ⟨σ,H,I,h⟩
theorem pgs_cons {e:Expr} {es:List Expr} {t:TG} {u:TGs} (h1:PG X e t) (h2:PGs X es u)
  (hs:(assignEach (e :: es) X.env).map (·.2)=assign e X.env :: (assignEach es X.env).map (·.2):=by rfl):PGs X (e :: es) (gCons t u):=by
 intro pins s σ H vs us Q I r h
 obtain ⟨v,vr,e1,h⟩:=h
 subst e1
 cases r with
 | cons r rr=>
  rw [hs]
  refine assignInOrder_cons (thn (h1 pins s σ H _ _ _ I r h) fun _ s1 ⟨σ1,H1,I1,q1⟩=>?_)
  exact h2 pins s1 σ1 H1 _ _ Q I1 rr q1
def gTup (K:PySem.W.Frag) (n:Nat) (t:TGs):TG:=fun v σ H Q=>∃ a xs,v=.ref a∧SqT K H a xs∧xs.length=n∧t xs σ H Q
theorem pg_tup {es:List Expr} {k:Nat} {t:TGs} {n:Nat} (hc:X.calm=true) (h:PGs X es t)
  (hn:(assignEach es X.env).length=n:=by rfl) (hst:(assignEach es X.env).findIdx? (·.1)=none:=by rfl):PG X (.Tuple es k pos) (gTup X.K n t):=by
 intro pins s σ H v u Q I r hw
 obtain ⟨a,xs,e1,hq,hl,hw⟩:=hw
 subst e1
 cases r
 obtain ⟨its,rv,ht,hz⟩:=I.tuple hq
 refine assign_Tuple_tuple (I.ok.hd hc) ht (by simp [hn,← hl,rv.length]) hst fun h' hx=>?_
 have I1:Inv X pins σ H { s with heap:=h' }:=I.kept (t':=s.toks) fun b o e=>hx b o (Nat.ne_of_lt (Heap.lt_size e)) e
 exact h pins _ σ H xs _ Q I1 (by simpa using rv) hw
def gSub (to ti:TE) (t:TSet):TG:=fun v σ H Q=>to σ H fun o H1=>ti σ H1 fun i H2=>t o i v H2 fun H3=>Q σ H3
theorem pg_sub {o i:Expr} {to ti:TE} {t:TSet} (ho:PE X o to) (hi:PE X i ti) (hs:PSet X t)
  (ha:∀ v,assign (.Subscript o i pos) X.env v=(do
   let ov ← holding [v] (eval o X.env)
   let iv ← holding [v,ov] (eval i X.env)
   standAt pos
   holding [v,ov,iv] (setItem ov iv v)
   release [v,ov,iv] []):=by intro _;rfl):PG X (.Subscript o i pos) (gSub to ti t):=by
 intro pins s σ H v u Q I r h
 rw [ha]
 refine wpAny_bind (wpAny_holding (thn (ho pins s σ H _ I h) fun ov s1 ⟨x,H1,I1,r1,q1⟩=>?_))
 refine wpAny_bind (wpAny_holding (thn (hi pins s1 σ H1 _ I1 q1) fun iv s2 ⟨y,H2,I2,r2,q2⟩=>?_))
 refine wpAny_bind (wpAny_standAt (wpAny_bind (wpAny_holding (thn (hs pins s2 σ H2 x y v ov iv u _ I2 r1 r2 r q2) fun _ s3 ⟨H3,I3,q3⟩=>?_))))
 exact wpAny_release ⟨σ,H3,I3,q3⟩
def tAsg (te:TE) (g:TG):TS:=fun D σ H=>te σ H fun x H1=>g x σ H1 D.nx
theorem ps_asg {tg e:Expr} {te:TE} {g:TG} (he:PE X e te) (hg:PG X tg g) (hs:swapsWithSole [tg] e pos.line X.env=pure false:=by rfl) (hw:swappedStores [tg] e X.env=pure none:=by rfl)
  (h1:(assignEach [tg] X.env).map (·.2)=[assign tg X.env]:=by rfl):PS X (.Assign [tg] e pos) (tAsg te g):=by
 intro pins s σ H D I h
 refine wpAny_Assign_stores (thn (he pins s σ H _ I h) fun v s1 ⟨x,H1,I1,r1,q1⟩=>?_) hs hw
 rw [h1]
 exact thn (hg pins s1 σ H1 x v _ I1 r1 q1) fun _ s2 q=>q
theorem ps_set {i:Nat} {x:Str} {e:Expr} {te:TE} {pos':Pos} (hN:X.N.Nodup) (hi:X.N[i]?=some x) (hx:Loc X.env.scope x) (he:PE X e te) (hs:swapsWith e (some (.Name x pos')) pos.line X.env=pure false:=by rfl) (hf:X.fn x=true∨X.env.scope.names.lookup x=some .local:=by first | exact .inl rfl | exact .inr rfl | assumption) :
  PS X (.Assign [.Name x pos'] e pos) (tAsg te (gName i)):=by
 intro pins s σ H D I h
 refine wpAny_Assign_Name (thn (he pins s σ H _ I h) fun v s1 ⟨y,H1,I1,r1,q1⟩=>?_) hs
 exact store_ok I1 hN hi hx r1 (fun s2 I2=>⟨_,H1,I2,q1⟩) hf
end
section
variable {X:Cx} {pos:Pos}
def tWhile (c:TT) (tb:TS):TS:=fun D σ H=>∃ W:Nat→St→Hp→Prop,(∃ m,W m σ H)∧∀ m σ H,W m σ H→
 c σ H fun b H1=>if b=true then ∃ N:St→Hp→Prop,(∀ σ' H',N σ' H'→∃ m',m' < m∧W m' σ' H')∧tb { D with nx:=N,ct:=N,bk:=D.nx } σ H1 else D.nx σ H1
theorem ps_while {c:Expr} {body:List Stmt} {tc:TT} {tb:TS} (hp:PassesOwn (model X.prog X.w) X.A X.env X.xe) (hc:PT X c tc) (hb:PSs X body tb):PS X (.While c body [] pos) (tWhile tc tb):=by
 intro pins s σ H D I h
 obtain ⟨W,⟨m0,w0⟩,turn⟩:=h
 refine wpAny_While (codeAny_whileLoop (fun n s'=>∃ σ' H',Inv X pins σ' H' s'∧W n σ' H') ?_ m0 ⟨σ,H,I,w0⟩)
 rintro n s1 ⟨σ1,H1,I1,w1⟩
 refine wpAny_passesOwn hp (thn (hc pins s1 σ1 H1 _ I1 (turn n σ1 H1 w1)) fun b s2 ⟨H2,I2,q2⟩=>?_)
 cases b with
 | true=>
  obtain ⟨N,hN,q2⟩:=q2
  rw [if_pos rfl]
  refine wpAny_passesOwn hp (thn (hb pins s2 σ1 H2 _ I2 q2) fun f s3 q3=>?_)
  cases f with
  | next=>
   obtain ⟨σ3,H3,I3,n3⟩:=q3
   obtain ⟨m',hm,w3⟩:=hN σ3 H3 n3
   exact ⟨m',hm,σ3,H3,I3,w3⟩
  | cont=>
   obtain ⟨σ3,H3,I3,n3⟩:=q3
   obtain ⟨m',hm,w3⟩:=hN σ3 H3 n3
   exact ⟨m',hm,σ3,H3,I3,w3⟩
  | brk=>exact q3
  | ret v=>exact q3
 | false=>
  rw [if_neg Bool.false_ne_true]
  exact wpAny_execs_nil ⟨σ1,H2,I2,q2⟩
end
structure It where
 go:Nat→Hp→Prop
 yld:Nat→Hp→V→Hp→Prop
 stop:Nat→Hp→Prop
def FpOk (X:Cx) (pins:List (Addr × Obj)) (H:Hp) (b:Addr):Prop:=
 H b=none∧b≠X.env.locals∧b∉X.fs∧(b∈X.ex∨X.s₀.heap.objs.size≤b)∧(∀ x c,X.env.cells.lookup x=some c→c≠b)∧∀ p∈X.pn ++ pins,p.1≠b
theorem Inv.fpOk {X:Cx} {pins:List (Addr × Obj)} {σ:St} {H H':Hp} {s:Shared} {b:Addr} (I:Inv X pins σ H s) (hb:s.heap.objs.size≤b) (hn:H' b=none):FpOk X pins H' b:=by
 refine ⟨hn,Nat.ne_of_gt (Nat.lt_of_lt_of_le I.lt hb),I.nofs hb,.inr (Nat.le_trans I.sz hb),fun x c e z=>?_,fun p hp z=>?_⟩
 ·obtain ⟨v,q⟩:=I.cell x c e
  exact absurd (Nat.lt_of_lt_of_le q.lt (by rw [z];exact hb)) (Nat.lt_irrefl _)
 ·exact absurd (Nat.lt_of_lt_of_le (Heap.lt_size (I.pin p hp).1) (by rw [z];exact hb)) (Nat.lt_irrefl _)
structure Turn (P:Program) (w:World) (K:PySem.W.Frag) (tg:Expr) (J:It) (fp:List Addr) (it:Addr) (tn:Nat→Heap→Prop):Prop where
 mem:it∈fp
 obj:∀ i h,tn i h→∀ b∈fp,∃ o,h.get? b=some o∧∀ v,o.data≠.cell v
 keep:∀ i h h',tn i h→(∀ b∈fp,∀ o,h.get? b=some o→h'.get? b=some o)→tn i h'
 item:∀ (X:Cx),X.prog=P→X.w=w→X.K=K→X.calm=true→∀ (i:Nat) (pins:List (Addr × Obj)) (s:Shared) (σ:St) (H:Hp) (E:Value→Shared→Prop),Inv X pins σ H s→(∀ b∈fp,FpOk X pins H b)→tn i s.heap→J.go i H→
  wpAny (model P w) X.A (pyNext (.ref it)) (fun r s1=>∃ u,r=some u∧
   wpAny (model P w) X.A (letOwnedTupleGo tg (.ref it) u) (fun _ s2=>∃ x H',Inv X pins σ H' s2∧RelV x u∧J.yld i H x H'∧tn (i + 1) s2.heap∧∀ b∈fp,H' b=none) E s1) E s
 done:∀ (X:Cx),X.prog=P→X.w=w→X.K=K→X.calm=true→∀ (i:Nat) (pins:List (Addr × Obj)) (s:Shared) (σ:St) (H:Hp) (E:Value→Shared→Prop),Inv X pins σ H s→(∀ b∈fp,FpOk X pins H b)→tn i s.heap→J.stop i H→
  wpAny (model P w) X.A (pyNext (.ref it)) (fun r s1=>r=none∧Inv X pins σ H s1) E s
 self:∀ (A:Around) (i:Nat) (s:Shared) (Q:Value→Shared→Prop) (E:Value→Shared→Prop),tn i s.heap→Q (.ref it) s→wpAny (model P w) A (pyIter (.ref it)) Q E s
abbrev TI:=St→Hp→(It→Hp→Prop)→Prop
def PIE (X:Cx) (pins:List (Addr × Obj)) (σ:St) (tg:Expr) (R:It→Hp→Prop) (itv:Value) (s2:Shared):Prop:=
 ∃ (it:Addr) (fp:List Addr) (tn:Nat→Heap→Prop) (J:It) (H':Hp),itv=.ref it∧Inv X pins σ H' s2∧Turn X.prog X.w X.K tg J fp it tn∧tn 0 s2.heap∧(∀ b∈fp,FpOk X pins H' b)∧R J H'
def PI (X:Cx) (tg iter:Expr) (wi:TI):Prop:=
 ∀ (pins:List (Addr × Obj)) (s:Shared) (σ:St) (H:Hp) (R:It→Hp→Prop),Inv X pins σ H s→wi σ H R→
  wpAny (model X.prog X.w) X.A (eval iter X.env) (fun v s1=>wpAny (model X.prog X.w) X.A (pyIter v) (PIE X pins σ tg R) X.xe s1) X.xe s
theorem go_of {M : Model} {A : Around} {E : Value → Shared → Prop} {s : Shared} {tg : Expr} {it : Addr} {u : Value} {o : Obj} {n : String} {vs : Array Value} {Q : Unit → Shared → Prop} (ho : s.heap.get? it = some o) (hc : o.cls = .type n) (hd : o.data = .fields vs)
    (hn : ["enumerate", "zip", "dict_itemiterator", "dict_reverseitemiterator", "odict_iterator", "itertools.zip_longest", "itertools.pairwise"].contains n = false) (hQ : Q () s) : wpAny M A (letOwnedTupleGo tg (.ref it) u) Q E s := by
  unfold letOwnedTupleGo
  cases tg <;> first
    | exact wpAny_pure hQ
    | (cases u <;> first
        | exact wpAny_pure hQ
        | (refine wpAny_bind (wpAny_load ho ?_)
           rw [hc, hd]
           show wpAny M A (if (["enumerate", "zip", "dict_itemiterator", "dict_reverseitemiterator", "odict_iterator", "itertools.zip_longest", "itertools.pairwise"].contains n && vs[0]? == some (rawInt _)) = true then _ else _) Q E s
           rw [if_neg (by intro h; rw [hn, Bool.false_and] at h; cases h)]
           exact wpAny_pure hQ))
def Itl (K:PySem.W.Frag) (a:Addr):It:=
 ⟨fun i H=>∃ xs x,SqL K H a xs∧xs[i]?=some x,fun i H x H'=>H'=H∧∀ xs,SqL K H a xs→xs[i]?=some x,fun i H=>∃ xs,SqL K H a xs∧xs.length≤i⟩
def Itt (K:PySem.W.Frag) (a:Addr):It:=
 ⟨fun i H=>∃ xs x,SqT K H a xs∧xs[i]?=some x,fun i H x H'=>H'=H∧∀ xs,SqT K H a xs→xs[i]?=some x,fun i H=>∃ xs,SqT K H a xs∧xs.length≤i⟩
def Itr (lo:Int) (n:Nat):It:=⟨fun i _=>i < n,fun i H x H'=>H'=H∧x=.int (lo + i),fun i _=>n≤i⟩
theorem turn_list {P:Program} {w:World} {K:PySem.W.Frag} {tg:Expr} (a it:Addr):Turn P w K tg (Itl K a) [it] it (fun i h=>h.IsListIter it a i) where
 mem:=by simp
 obj:=fun i h st b hb=>by
  have e:b=it:=by simpa using hb
  subst e
  obtain ⟨o,e,c,d⟩:=st
  exact ⟨o,e,fun v z=>by rw [d] at z;cases z⟩
 keep:=fun i h h' st k=>st.at fun o e=>k it (by simp) o e
 item:=by
  intro X hP hw hK hc i pins s σ H E I hf st hg
  subst hP hw hK
  obtain ⟨xs,x,hq,hx⟩:=hg
  obtain ⟨its,rv,p,hz⟩:=I.list hq
  obtain ⟨u,hu,ru⟩:=rv.get hx
  obtain ⟨f0,f1,f2,f3,f4,f5⟩:=hf it (by simp)
  refine wpAny_pyNext_list_item st p.isList (x:=u) (by simpa using hu) fun h' st' sb=>?_
  have I1:Inv X pins σ H { s with heap:=h' }:=I.turned (t':=s.toks) (fun b o hb e=>(sb.2 b hb).trans e) f0 f1 f3 f4 f5
  obtain ⟨o,e,c,d⟩:=id st'
  exact ⟨u,rfl,go_of (s:={ s with heap:=h' }) e c d (by decide) ⟨x,H,I1,ru,⟨rfl,fun ys hy=>by rw [I.list_inj hy hq];exact hx⟩,st',fun b hb=>(hf b hb).1⟩⟩
 done:=by
  intro X hP hw hK hc i pins s σ H E I hf st hg
  subst hP hw hK
  obtain ⟨xs,hq,hx⟩:=hg
  obtain ⟨its,rv,p,hz⟩:=I.list hq
  obtain ⟨f0,f1,f2,f3,f4,f5⟩:=hf it (by simp)
  have hl:=rv.length
  exact wpAny_pyNext_list_end (I.ok.hd hc) st p.isList (by simp;omega) fun h' eb=>⟨rfl,I.turned (t':=s.toks) (fun b o hb e=>eb b o hb e) f0 f1 f3 f4 f5⟩
 self:=fun _ _ _ _ _ st h=>wpAny_pyIter_listiter st h
theorem turn_tuple {P:Program} {w:World} {K:PySem.W.Frag} {tg:Expr} (a it:Addr):Turn P w K tg (Itt K a) [it] it (fun i h=>h.IsTupleIter it a i) where
 mem:=by simp
 obj:=fun i h st b hb=>by
  have e:b=it:=by simpa using hb
  subst e
  obtain ⟨o,e,c,d⟩:=st
  exact ⟨o,e,fun v z=>by rw [d] at z;cases z⟩
 keep:=fun i h h' st k=>st.at fun o e=>k it (by simp) o e
 item:=by
  intro X hP hw hK hc i pins s σ H E I hf st hg
  subst hP hw hK
  obtain ⟨xs,x,hq,hx⟩:=hg
  obtain ⟨its,rv,p,hz⟩:=I.tuple hq
  obtain ⟨u,hu,ru⟩:=rv.get hx
  obtain ⟨f0,f1,f2,f3,f4,f5⟩:=hf it (by simp)
  refine wpAny_pyNext_tuple_item st (show s.heap.IsTuple a its.toArray from p) (x:=u) (by simpa using hu) fun h' st' sb=>?_
  have I1:Inv X pins σ H { s with heap:=h' }:=I.turned (t':=s.toks) (fun b o hb e=>(sb.2 b hb).trans e) f0 f1 f3 f4 f5
  obtain ⟨o,e,c,d⟩:=id st'
  exact ⟨u,rfl,go_of (s:={ s with heap:=h' }) e c d (by decide) ⟨x,H,I1,ru,⟨rfl,fun ys hy=>by rw [I.tuple_inj hy hq];exact hx⟩,st',fun b hb=>(hf b hb).1⟩⟩
 done:=by
  intro X hP hw hK hc i pins s σ H E I hf st hg
  subst hP hw hK
  obtain ⟨xs,hq,hx⟩:=hg
  obtain ⟨its,rv,p,hz⟩:=I.tuple hq
  obtain ⟨f0,f1,f2,f3,f4,f5⟩:=hf it (by simp)
  have hl:=rv.length
  exact wpAny_pyNext_tuple_end (I.ok.hd hc) st (show s.heap.IsTuple a its.toArray from p) (by simp;omega) fun h' eb=>⟨rfl,I.turned (t':=s.toks) (fun b o hb e=>eb b o hb e) f0 f1 f3 f4 f5⟩
 self:=fun _ _ _ _ _ st h=>wpAny_pyIter_tupleiter st h
theorem turn_range {P:Program} {w:World} {K:PySem.W.Frag} {tg:Expr} (it:Addr) (lo:Int) (n:Nat):Turn P w K tg (Itr lo n) [it] it (fun i h=>IsRangeIter h it (lo + (i:Nat) * 1) ((n:Int) - (i:Nat)) 1) where
 mem:=by simp
 obj:=fun i h st b hb=>by
  have e:b=it:=by simpa using hb
  subst e
  exact ⟨_,st,fun v z=>by
   have z':Data.fields _=Data.cell v:=z
   cases z'⟩
 keep:=fun i h h' st k=>k it (by simp) _ st
 item:=by
  intro X hP hw hK hc i pins s σ H E I hf st hg
  subst hP hw hK
  obtain ⟨f0,f1,f2,f3,f4,f5⟩:=hf it (by simp)
  have W:=Walks.range (prog:=X.prog) (w:=X.w) (I.ok.hd hc) it lo 1 n
  refine W.item i s _ _ hg st fun v h' tk hv st' kk=>?_
  obtain ⟨t,rfl⟩:=hv
  have I1:Inv X pins σ H { s with heap:=h',toks:=tk }:=I.turned (fun b o hb e=>kk b o (by simpa using hb) e) f0 f1 f3 f4 f5
  refine ⟨_,rfl,go_of (s:={ s with heap:=h',toks:=tk }) (n:="range_iterator") st' rfl rfl (by decide) ⟨.int (lo + i),H,I1,⟨t,?_⟩,⟨rfl,rfl⟩,st',fun b hb=>(hf b hb).1⟩⟩
  rw [Int.mul_one]
 done:=by
  intro X hP hw hK hc i pins s σ H E I hf st hg
  subst hP hw hK
  obtain ⟨f0,f1,f2,f3,f4,f5⟩:=hf it (by simp)
  exact wpAny_pyNext_range_end (I.ok.hd hc) st (by have:n≤i:=hg;omega) fun h' eb=>⟨rfl,I.turned (t':=s.toks) (fun b o hb e=>eb b o hb e) f0 f1 f3 f4 f5⟩
 self:=fun _ _ _ _ _ st h=>wpAny_pyIter_rangeiter st h
end L2
namespace L2
open PySem PySem.Spec PyProof.Rows
section
variable {X:Cx} {tg:Expr}
def iList (K:PySem.W.Frag) (tl:TE):TI:=fun σ H R=>tl σ H fun x H1=>∃ a,x=.ref a∧(∃ xs,SqL K H1 a xs)∧R (Itl K a) H1
def iTup (K:PySem.W.Frag) (tl:TE):TI:=fun σ H R=>tl σ H fun x H1=>∃ a,x=.ref a∧(∃ xs,SqT K H1 a xs)∧R (Itt K a) H1
theorem pi_list {l:Expr} {tl:TE} (hl:PE X l tl):PI X tg l (iList X.K tl):=by
 intro pins s σ H R I h
 refine thn (hl pins s σ H _ I h) fun v s1 ⟨x,H1,I1,r1,q1⟩=>?_
 obtain ⟨a,e,⟨xs,hq⟩,q⟩:=q1
 subst e
 cases r1
 obtain ⟨its,rv,p,hz⟩:=I1.list hq
 refine wpAny_pyIter_list p.isList ?_
 refine ⟨s1.heap.objs.size,[s1.heap.objs.size],_,_,H1,rfl,I1.kept (t':=s1.toks) fun b o e=>Heap.get?_push_of_some _ e,turn_list a _,⟨_,Heap.get?_push_size _ rfl,rfl,rfl⟩,fun b hb=>?_,q⟩
 have e:b=s1.heap.objs.size:=by simpa using hb
 subst e
 exact I1.fpOk (Nat.le_refl _) (I1.hok.fresh (Nat.le_refl _))
theorem pi_tup {l:Expr} {tl:TE} (hl:PE X l tl):PI X tg l (iTup X.K tl):=by
 intro pins s σ H R I h
 refine thn (hl pins s σ H _ I h) fun v s1 ⟨x,H1,I1,r1,q1⟩=>?_
 obtain ⟨a,e,⟨xs,hq⟩,q⟩:=q1
 subst e
 cases r1
 obtain ⟨its,rv,p,hz⟩:=I1.tuple hq
 refine wpAny_pyIter_tuple (show s1.heap.IsTuple a its.toArray from p) ?_
 refine ⟨s1.heap.objs.size,[s1.heap.objs.size],_,_,H1,rfl,I1.kept (t':=s1.toks) fun b o e=>Heap.get?_push_of_some _ e,turn_tuple a _,⟨_,Heap.get?_push_size _ rfl,rfl,rfl⟩,fun b hb=>?_,q⟩
 have e:b=s1.heap.objs.size:=by simpa using hb
 subst e
 exact I1.fpOk (Nat.le_refl _) (I1.hok.fresh (Nat.le_refl _))
theorem range_it {pins:List (Addr × Obj)} {σ:St} {H:Hp} {s:Shared} {R:It→Hp→Prop} {E:Value→Shared→Prop} {lo hi:Int} {t u v:Tok} {tk:Nat} (I:Inv X pins σ H s) (h1:-(2 ^ 62)≤lo) (h2:lo < 2 ^ 62) (h3:-(2 ^ 62)≤hi) (h4:hi < 2 ^ 62)
  (q:R (Itr lo (hi - lo).toNat) H):wpAny (model X.prog X.w) X.A (pyIter (.ref s.heap.objs.size)) (PIE X pins σ tg R) E { s with heap:=s.heap.push { cls:=.type "range",data:=.fields #[.int lo t,.int hi u,.int 1 v] },toks:=tk }:=by
 refine wpAny_pyIter_range (IsRange.new ..) (small_one h1 h2 h3 h4) ?_
 have I1:Inv X pins σ H { s with heap:=s.heap.push { cls:=.type "range",data:=.fields #[.int lo t,.int hi u,.int 1 v] },toks:=tk }:=I.kept fun b o e=>Heap.get?_push_of_some _ e
 refine ⟨(s.heap.push { cls:=.type "range",data:=.fields #[.int lo t,.int hi u,.int 1 v] }).objs.size,[(s.heap.push { cls:=.type "range",data:=.fields #[.int lo t,.int hi u,.int 1 v] }).objs.size],_,_,H,rfl,
  I1.kept (t':=tk) fun b o e=>Heap.get?_push_of_some _ e,turn_range _ lo (hi - lo).toNat,?_,fun b hb=>?_,q⟩
 ·have e1:lo + ((0:Nat):Int) * 1=lo:=by simp
  have e2:(((hi - lo).toNat:Nat):Int) - ((0:Nat):Int)=Builtin.Range.rangeSize lo hi 1:=by rw [rangeSize_one];split <;> omega
  show IsRangeIter _ _ (lo + ((0:Nat):Int) * 1) ((((hi - lo).toNat:Nat):Int) - ((0:Nat):Int)) 1
  rw [e1,e2]
  exact Heap.get?_push_size _ rfl
 ·have e:b=(s.heap.push { cls:=.type "range",data:=.fields #[.int lo t,.int hi u,.int 1 v] }).objs.size:=by simpa using hb
  subst e
  exact I1.fpOk (Nat.le_refl _) (I1.hok.fresh (Nat.le_refl _))
def iRng1 (ta:TA):TI:=fun σ H R=>ta σ H fun vs H1=>∃ j:Int,vs=[.int j]∧-(2 ^ 62)≤j∧j < 2 ^ 62∧R (Itr 0 j.toNat) H1
def iRng2 (ta:TA):TI:=fun σ H R=>ta σ H fun vs H1=>∃ i j:Int,vs=[.int i,.int j]∧(-(2 ^ 62)≤i∧i < 2 ^ 62∧-(2 ^ 62)≤j∧j < 2 ^ 62)∧R (Itr i (j - i).toNat) H1
theorem pi_range1 {a:Expr} {ta:TA} {p pos:Pos} (hg:Gl X "range") (hm:X.mg "range"=none) (ha:PA X [a] ta) (hs:starEach [a] X.env=[(false,eval a X.env)]:=by rfl):PI X tg (.Call (.Name "range" p) [a] [] pos) (iRng1 ta):=by
 intro pins s σ H R I h
 refine Call_ (ld_blt I hg hm boot_range (PyProof.Rows.callWith_type1 (thn (ha pos pins s σ H _ I h) fun us s1 ⟨vs,H1,I1,r1,q1⟩=>?_) hs rfl))
 obtain ⟨j,e,q1,q2,q⟩:=q1
 subst e
 cases r1 with
 | cons r rr=>
  cases rr
  obtain ⟨t,rfl⟩:=r
  exact call_range_1 (range_it I1 (by omega) (by omega) q1 q2 (by simpa using q))
theorem pi_range2 {a b:Expr} {ta:TA} {p pos:Pos} (hg:Gl X "range") (hm:X.mg "range"=none) (ha:PA X [a,b] ta) (hs:starEach [a,b] X.env=[(false,eval a X.env),(false,eval b X.env)]:=by rfl) (hs2:starEach [b] X.env=[(false,eval b X.env)]:=by rfl) :
  PI X tg (.Call (.Name "range" p) [a,b] [] pos) (iRng2 ta):=by
 intro pins s σ H R I h
 refine Call_ (ld_blt I hg hm boot_range (PyProof.Rows.callWith_type1 (thn (ha pos pins s σ H _ I h) fun us s1 ⟨vs,H1,I1,r1,q1⟩=>?_) (by rw [hs,hs2]) (by rw [hs2];rfl)))
 obtain ⟨i,j,e,⟨q1,q2,q3,q4⟩,q⟩:=q1
 subst e
 cases r1 with
 | cons r rr=>
  cases rr with
  | cons r' rr=>
   cases rr
   obtain ⟨t,rfl⟩:=r
   obtain ⟨t',rfl⟩:=r'
   exact call_range_2 (range_it I1 q1 q2 q3 q4 q)
def tFor (wi:TI) (g:TG) (tb:TS):TS:=fun D σ H=>wi σ H fun J H1=>∃ W:Nat→Nat→St→Hp→Prop,(∃ m,W 0 m σ H1)∧∀ i m σ H,W i m σ H→
 (J.stop i H∧D.nx σ H)∨(J.go i H∧∃ N:St→Hp→Prop,(∀ σ' H',N σ' H'→∃ m',m' < m∧W (i + 1) m' σ' H')∧∀ x H',J.yld i H x H'→g x σ H' fun σ2 H2=>tb { D with nx:=N,ct:=N,bk:=D.nx } σ2 H2)
def pinsAt (fp:List Addr) (h:Heap):List (Addr × Obj):=fp.filterMap fun b=>(h.get? b).map fun o=>(b,o)
theorem mem_pinsAt {fp:List Addr} {h:Heap} {b:Addr} {o:Obj} (hb:b∈fp) (e:h.get? b=some o):(b,o)∈pinsAt fp h:=List.mem_filterMap.mpr ⟨b,hb,by rw [e];rfl⟩
theorem of_pinsAt {fp:List Addr} {h:Heap} {p:Addr × Obj} (hp:p∈pinsAt fp h):p.1∈fp∧h.get? p.1=some p.2:=by
 obtain ⟨b,hb,e⟩:=List.mem_filterMap.mp hp
 cases q:h.get? b with
 | none=>rw [q] at e;cases e
 | some o=>
  rw [q] at e
  have e':(b,o)=p:=Option.some.inj e
  subst e'
  exact ⟨hb,q⟩
theorem Inv.pinned {pins:List (Addr × Obj)} {σ:St} {H:Hp} {s:Shared} {fp:List Addr} (I:Inv X pins σ H s) (hf:∀ b∈fp,FpOk X pins H b) (ho:∀ b∈fp,∃ o,s.heap.get? b=some o∧∀ v,o.data≠.cell v):Inv X (pins ++ pinsAt fp s.heap) σ H s:=
 I.pins_of fun p hp=>(List.mem_append.mp hp).elim (fun z=>I.pin p (List.mem_append_right _ z)) fun z=>by
  obtain ⟨hb,e⟩:=of_pinsAt z
  obtain ⟨f0,f1,f2,_⟩:=hf p.1 hb
  obtain ⟨o,e',d⟩:=ho p.1 hb
  rw [e] at e';cases e'
  exact ⟨e,f0,f1,f2,d⟩
theorem Inv.unpinned {pins pl:List (Addr × Obj)} {σ:St} {H:Hp} {s:Shared} (I:Inv X (pins ++ pl) σ H s):Inv X pins σ H s:=I.pins_of fun p hp=>I.pin p (List.mem_append_right _ (List.mem_append_left _ hp))
theorem ps_for {iter:Expr} {body:List Stmt} {wi:TI} {g:TG} {tb:TS} {pos:Pos} (hp:PassesOwn (model X.prog X.w) X.A X.env X.xe) (hc:X.calm=true) (hi:PI X tg iter wi) (hg:PG X tg g) (hb:PSs X body tb)
  (hs:∀ x,foldedSetIterable iter X.env x=pure x:=by intro _;rfl):PS X (.For tg iter body [] pos) (tFor wi g tb):=by
 intro pins s σ H D I h
 refine wpAny_For (thn (hi pins s σ H _ I h) fun v s1 h1=>thn h1 fun itv s2 h2=>?_) hs
 obtain ⟨it,fp,tn,J,H2,e,I2,T,st2,f2,W,⟨m0,w0⟩,turn⟩:=h2
 subst e
 have stat:∀ {H':Hp},(∀ b∈fp,H' b=none)→∀ b∈fp,FpOk X pins H' b:=fun hn b hb=>⟨hn b hb,(f2 b hb).2⟩
 refine codeAny_forLoop_any (fun n s'=>∃ i σ' H',Inv X pins σ' H' s'∧tn i s'.heap∧(∀ b∈fp,H' b=none)∧W i n σ' H') ?_ m0 ⟨0,σ,H2,I2,st2,fun b hb=>(f2 b hb).1,w0⟩
 rintro n s3 ⟨i,σ3,H3,I3,st3,fr3,w3⟩
 rcases turn i n σ3 H3 w3 with ⟨stop,qn⟩ | ⟨go,N,hN,step⟩
 ·refine wpAny_passesOwn hp (thn (T.done X rfl rfl rfl hc i pins s3 σ3 H3 X.xe I3 (stat fr3) st3 stop) fun r s4 ⟨hr,I4⟩=>?_)
  subst hr
  exact wpAny_execs_nil ⟨σ3,H3,I4,qn⟩
 ·refine wpAny_passesOwn hp (thn (T.item X rfl rfl rfl hc i pins s3 σ3 H3 X.xe I3 (stat fr3) st3 go) fun r s4 ⟨u,hr,h4⟩=>?_)
  subst hr
  refine wpAny_passesOwn hp (thn h4 fun _ s5 ⟨x,H5,I5,r5,y5,st5,fr5⟩=>?_)
  have I5':=I5.pinned (stat fr5) (T.obj _ _ st5)
  refine wpAny_passesOwn hp (thn (hg _ s5 σ3 H5 x u _ I5' r5 (step x H5 y5)) fun _ s6 ⟨σ6,H6,I6,q6⟩=>?_)
  refine wpAny_passesOwn hp (thn (hb _ s6 σ6 H6 _ I6 q6) fun f s7 q7=>?_)
  have again:∀ {σ7:St} {H7:Hp},Inv X (pins ++ pinsAt fp s5.heap) σ7 H7 s7→N σ7 H7→∃ m,m < n∧∃ i σ' H',Inv X pins σ' H' s7∧tn i s7.heap∧(∀ b∈fp,H' b=none)∧W i m σ' H':=fun {σ7 H7} I7 n7=>by
   obtain ⟨m',hm,w7⟩:=hN σ7 H7 n7
   refine ⟨m',hm,i + 1,σ7,H7,I7.unpinned,T.keep _ _ _ st5 fun b hb o e=>(I7.pin (b,o) (List.mem_append_right _ (List.mem_append_right _ (mem_pinsAt hb e)))).1,fun b hb=>?_,w7⟩
   obtain ⟨o,e,d⟩:=T.obj _ _ st5 b hb
   exact (I7.pin (b,o) (List.mem_append_right _ (List.mem_append_right _ (mem_pinsAt hb e)))).2.1
  cases f with
  | next=>obtain ⟨σ7,H7,I7,n7⟩:=q7;exact again I7 n7
  | cont=>obtain ⟨σ7,H7,I7,n7⟩:=q7;exact again I7 n7
  | brk=>obtain ⟨σ7,H7,I7,q7⟩:=q7;exact ⟨σ7,H7,I7.unpinned,q7⟩
  | ret v=>obtain ⟨x7,σ7,H7,I7,r7,q7⟩:=q7;exact ⟨x7,σ7,H7,I7.unpinned,r7,q7⟩
end
theorem for_list {K:PySem.W.Frag} {a:Addr} {xs:List V} {g:TG} {tb:TS} {D:Ends} {σ:St} {H:Hp} (Pv:Nat→St→Hp→Prop) (h0:Pv 0 σ H) (hl:∀ i σ H,i≤xs.length→Pv i σ H→SqL K H a xs)
  (hs:∀ i x σ H,xs[i]?=some x→Pv i σ H→g x σ H fun σ2 H2=>tb { D with nx:=Pv (i + 1),ct:=Pv (i + 1),bk:=D.nx } σ2 H2) (hd:∀ σ H,Pv xs.length σ H→D.nx σ H) :
  ∃ W:Nat→Nat→St→Hp→Prop,(∃ m,W 0 m σ H)∧∀ i m σ H,W i m σ H→
   ((Itl K a).stop i H∧D.nx σ H)∨((Itl K a).go i H∧∃ N:St→Hp→Prop,(∀ σ' H',N σ' H'→∃ m',m' < m∧W (i + 1) m' σ' H')∧∀ x H',(Itl K a).yld i H x H'→g x σ H' fun σ2 H2=>tb { D with nx:=N,ct:=N,bk:=D.nx } σ2 H2):=by
 refine ⟨fun i m σ H=>m=xs.length - i∧i≤xs.length∧Pv i σ H,⟨xs.length,by simp,Nat.zero_le _,h0⟩,?_⟩
 rintro i m σ H ⟨rfl,hi,p⟩
 have q:=hl i σ H hi p
 by_cases hlt:i < xs.length
 ·refine .inr ⟨⟨xs,xs[i],q,by simp [hlt]⟩,Pv (i + 1),fun σ' H' p'=>⟨xs.length - (i + 1),by omega,rfl,hlt,p'⟩,fun x H' y=>?_⟩
  obtain ⟨e,y⟩:=y
  subst e
  exact hs i x σ _ (y xs q) p
 ·have e:i=xs.length:=by omega
  subst e
  exact .inl ⟨⟨xs,q,Nat.le_refl _⟩,hd σ H p⟩
theorem for_tup {K:PySem.W.Frag} {a:Addr} {xs:List V} {g:TG} {tb:TS} {D:Ends} {σ:St} {H:Hp} (Pv:Nat→St→Hp→Prop) (h0:Pv 0 σ H) (hl:∀ i σ H,i≤xs.length→Pv i σ H→SqT K H a xs)
  (hs:∀ i x σ H,xs[i]?=some x→Pv i σ H→g x σ H fun σ2 H2=>tb { D with nx:=Pv (i + 1),ct:=Pv (i + 1),bk:=D.nx } σ2 H2) (hd:∀ σ H,Pv xs.length σ H→D.nx σ H) :
  ∃ W:Nat→Nat→St→Hp→Prop,(∃ m,W 0 m σ H)∧∀ i m σ H,W i m σ H→
   ((Itt K a).stop i H∧D.nx σ H)∨((Itt K a).go i H∧∃ N:St→Hp→Prop,(∀ σ' H',N σ' H'→∃ m',m' < m∧W (i + 1) m' σ' H')∧∀ x H',(Itt K a).yld i H x H'→g x σ H' fun σ2 H2=>tb { D with nx:=N,ct:=N,bk:=D.nx } σ2 H2):=by
 refine ⟨fun i m σ H=>m=xs.length - i∧i≤xs.length∧Pv i σ H,⟨xs.length,by simp,Nat.zero_le _,h0⟩,?_⟩
 rintro i m σ H ⟨rfl,hi,p⟩
 have q:=hl i σ H hi p
 by_cases hlt:i < xs.length
 ·refine .inr ⟨⟨xs,xs[i],q,by simp [hlt]⟩,Pv (i + 1),fun σ' H' p'=>⟨xs.length - (i + 1),by omega,rfl,hlt,p'⟩,fun x H' y=>?_⟩
  obtain ⟨e,y⟩:=y
  subst e
  exact hs i x σ _ (y xs q) p
 ·have e:i=xs.length:=by omega
  subst e
  exact .inl ⟨⟨xs,q,Nat.le_refl _⟩,hd σ H p⟩
theorem for_range {lo:Int} {n:Nat} {g:TG} {tb:TS} {D:Ends} {σ:St} {H:Hp} (Pv:Nat→St→Hp→Prop) (h0:Pv 0 σ H)
  (hs:∀ i σ H,i < n→Pv i σ H→g (.int (lo + i)) σ H fun σ2 H2=>tb { D with nx:=Pv (i + 1),ct:=Pv (i + 1),bk:=D.nx } σ2 H2) (hd:∀ σ H,Pv n σ H→D.nx σ H) :
  ∃ W:Nat→Nat→St→Hp→Prop,(∃ m,W 0 m σ H)∧∀ i m σ H,W i m σ H→
   ((Itr lo n).stop i H∧D.nx σ H)∨((Itr lo n).go i H∧∃ N:St→Hp→Prop,(∀ σ' H',N σ' H'→∃ m',m' < m∧W (i + 1) m' σ' H')∧∀ x H',(Itr lo n).yld i H x H'→g x σ H' fun σ2 H2=>tb { D with nx:=N,ct:=N,bk:=D.nx } σ2 H2):=by
 refine ⟨fun i m σ H=>m=n - i∧i≤n∧Pv i σ H,⟨n,by simp,Nat.zero_le _,h0⟩,?_⟩
 rintro i m σ H ⟨rfl,hi,p⟩
 by_cases hlt:i < n
 ·refine .inr ⟨hlt,Pv (i + 1),fun σ' H' p'=>⟨n - (i + 1),by omega,rfl,hlt,p'⟩,fun x H' y=>?_⟩
  obtain ⟨e,y⟩:=y
  subst e y
  exact hs i σ _ hlt p
 ·have e:i=n:=by omega
  subst e
  exact .inl ⟨Nat.le_refl _,hd σ H p⟩
end L2
namespace L2
open PySem PySem.Spec PyProof.Rows
abbrev R2:=V→V→Hp→VK→Prop
def OpR (X:Cx) (f:Value→Value→Sem Value) (r:R2):Prop:=
 ∀ (pins:List (Addr × Obj)) (s:Shared) (σ:St) (H:Hp) (x y:V) (v u:Value) (Q:VK),Inv X pins σ H s→RelV x v→RelV y u→r x y H Q→
  wpAny (model X.prog X.w) X.A (f v u) (EP X pins σ Q) X.xe s
def CallR (X:Cx) (f:Value) (r:List V→Hp→VK→Prop):Prop:=
 ∀ (pins:List (Addr × Obj)) (s:Shared) (σ:St) (H:Hp) (xs:List V) (us:List Value) (Q:VK),Inv X pins σ H s→Vals xs us→r xs H Q→
  wpAny (model X.prog X.w) X.A (call f us) (EP X pins σ Q) X.xe s
def tOp (r:R2) (ta tb:TE):TE:=fun σ H Q=>ta σ H fun x H1=>tb σ H1 fun y H2=>r x y H2 Q
def rI (C:Int→Int→Prop) (g:Int→Int→V):R2:=fun x y H Q=>∃ i j,x=.int i∧y=.int j∧C i j∧Q (g i j) H
def rI0 (g:Int→Int→V):R2:=fun x y H Q=>∃ i j,x=.int i∧y=.int j∧Q (g i j) H
section
variable {X:Cx} {a b c:Expr} {ta tb tc:TE} {pos:Pos}
theorem binT (ha:PE X a ta) (hb:PE X b tb) {pins:List (Addr × Obj)} {s:Shared} {σ:St} {H:Hp} {R:V→V→Hp→Prop} (I:Inv X pins σ H s)
  (h:ta σ H fun x H1=>tb σ H1 fun y H2=>R x y H2) {Q:Value→Shared→Prop} {f:Value→Value→Sem Value}
  (hf:∀ v u s2 x y H2,Inv X pins σ H2 s2→RelV x v→RelV y u→R x y H2→wpAny (model X.prog X.w) X.A (f v u) Q X.xe s2) :
  wpAny (model X.prog X.w) X.A (eval a X.env) (fun v s₁=>wpAny (model X.prog X.w) X.A (eval b X.env) (fun u s₂=>wpAny (model X.prog X.w) X.A (f v u) Q X.xe s₂) X.xe s₁) X.xe s:=by
 refine thn (ha pins s σ H _ I h) fun v s1 ⟨x,H1,I1,r1,q1⟩=>?_
 refine thn (hb pins s1 σ H1 _ I1 q1) fun u s2 ⟨y,H2,I2,r2,q2⟩=>?_
 exact hf v u s2 x y H2 I2 r1 r2 q2
theorem pe_op {op:Operator} {r:R2} (ho:OpR X (binaryOp op) r) (ha:PE X a ta) (hb:PE X b tb):PE X (.BinOp a op b pos) (tOp r ta tb):=by
 intro pins s σ H Q I h
 exact wpAny_BinOp (binT ha hb I h fun v u s2 x y H2 I2 rx ry q=>ho pins s2 σ H2 x y v u Q I2 rx ry q)
theorem opI {f:Value→Value→Sem Value} {C:Int→Int→Prop} {g:Int→Int→Int}
  (rule:∀ (i j:Int) (t u:Tok) (s:Shared) (Q:Value→Shared→Prop) (E:Value→Shared→Prop),C i j→Q (.int (g i j) s.toks) { s with toks:=s.toks + 1 }→wpAny (model X.prog X.w) X.A (f (.int i t) (.int j u)) Q E s) :
  OpR X f (rI C fun i j=>.int (g i j)):=by
 intro pins s σ H x y v u Q I rx ry h
 obtain ⟨i,j,rfl,rfl,hc,q⟩:=h
 obtain ⟨t,rfl⟩:=rx
 obtain ⟨t',rfl⟩:=ry
 exact rule i j t t' s _ _ hc ⟨.int (g i j),H,I.tok _,⟨_,rfl⟩,q⟩
theorem opI0 {f:Value→Value→Sem Value} {g:Int→Int→Int}
  (rule:∀ (i j:Int) (t u:Tok) (s:Shared) (Q:Value→Shared→Prop) (E:Value→Shared→Prop),Q (.int (g i j) s.toks) { s with toks:=s.toks + 1 }→wpAny (model X.prog X.w) X.A (f (.int i t) (.int j u)) Q E s) :
  OpR X f (rI0 fun i j=>.int (g i j)):=by
 intro pins s σ H x y v u Q I rx ry h
 obtain ⟨i,j,rfl,rfl,q⟩:=h
 obtain ⟨t,rfl⟩:=rx
 obtain ⟨t',rfl⟩:=ry
 exact rule i j t t' s _ _ ⟨.int (g i j),H,I.tok _,⟨_,rfl⟩,q⟩
theorem opB0 {f:Value→Value→Sem Value} {g:Int→Int→Bool}
  (rule:∀ (i j:Int) (t u:Tok) (s:Shared) (Q:Value→Shared→Prop) (E:Value→Shared→Prop),Q (.bool (g i j)) s→wpAny (model X.prog X.w) X.A (f (.int i t) (.int j u)) Q E s) :
  OpR X f (rI0 fun i j=>.bl (g i j)):=by
 intro pins s σ H x y v u Q I rx ry h
 obtain ⟨i,j,rfl,rfl,q⟩:=h
 obtain ⟨t,rfl⟩:=rx
 obtain ⟨t',rfl⟩:=ry
 exact rule i j t t' s _ _ ⟨.bl (g i j),H,I,rfl,q⟩
def CDiv (i j:Int):Prop:=0 < j∧j < 1073741824
def CMul (i j:Int):Prop:=(-(2 ^ 64) < i∧i < 2 ^ 64)∨(-(2 ^ 64) < j∧j < 2 ^ 64)
theorem CMul.ok {i j:Int} (h:CMul i j):IntMulOk i j:=by
 rcases h with ⟨h1,h2⟩ | ⟨h1,h2⟩
 ·exact .of_left (intBits_le_64 h1 h2)
 ·exact .of_right (intBits_le_64 h1 h2)
theorem op_add:OpR X (binaryOp .Add) (rI0 fun i j=>.int (i + j)):=opI0 fun _ _ _ _ _ _ _ q=>add_int q
theorem op_sub:OpR X (binaryOp .Sub) (rI0 fun i j=>.int (i - j)):=opI0 fun _ _ _ _ _ _ _ q=>sub_int q
theorem op_mul:OpR X (binaryOp .Mult) (rI CMul fun i j=>.int (i * j)):=opI fun _ _ _ _ _ _ _ hc q=>mul_int q hc.ok
theorem op_fdiv:OpR X (binaryOp .FloorDiv) (rI CDiv fun i j=>.int (i / j)):=opI fun i j _ _ _ _ _ hc q=>by
 have h1:(0:Int) < j:=hc.1
 have h2:j < 1073741824:=hc.2
 exact floordiv_int (by omega) (by rw [Int.fdiv_eq_ediv_of_nonneg i (by omega)];exact q) (.inl (PyProof.noPylong_small (by omega)))
theorem op_mod:OpR X (binaryOp .Mod) (rI (fun _ j=>0 < j) fun i j=>.int (i % j)):=opI fun i j _ _ _ _ _ hc q=>by
 have h1:(0:Int) < j:=hc
 exact mod_int' (by omega) (by rw [Int.fmod_eq_emod_of_nonneg i (by omega)];exact q)
end
def scal:V→V→Bool
 | .non,.non=>true | .non,.int _=>true | .int _,.non=>true | .non,.bl _=>true | .bl _,.non=>true | .non,.str _=>true | .str _,.non=>true
 | .int _,.int _=>true | .bl _,.bl _=>true | .str _,.str _=>true | .byt _,.byt _=>true
 | .int _,.str _=>true | .str _,.int _=>true | .bl _,.str _=>true | .str _,.bl _=>true
 | _,_=>false
def rEq:R2:=fun x y H Q=>scal x y=true∧Q (.bl (decide (x=y))) H
def rNe:R2:=fun x y H Q=>scal x y=true∧Q (.bl (!decide (x=y))) H
theorem dec_int {i j:Int}:decide (V.int i=V.int j)=(i == j):=by
 rw [Bool.eq_iff_iff]
 simp
theorem dec_bl {i j:Bool}:decide (V.bl i=V.bl j)=(i == j):=by
 rw [Bool.eq_iff_iff]
 simp
theorem dec_str {i j:Str}:decide (V.str i=V.str j)=(i == j):=by
 rw [Bool.eq_iff_iff]
 simp
theorem dec_byt {i j:Array UInt8}:decide (V.byt i=V.byt j)=(i.toList == j.toList):=by
 rw [Bool.eq_iff_iff]
 cases i
 cases j
 simp
section
variable {X:Cx} {a b c:Expr} {ta tb tc:TE} {pos:Pos}
theorem fin_bl {pins:List (Addr × Obj)} {σ:St} {H:Hp} {s:Shared} {Q:VK} {k k':Bool} (I:Inv X pins σ H s) (q:Q (.bl k) H) (e:k=k'):EP X pins σ Q (.bool k') s:=by
 subst e
 exact ⟨.bl k,H,I,rfl,q⟩
theorem op_eq:OpR X (compareOp .Eq) rEq:=by
 intro pins s σ H x y v u Q I rx ry h
 obtain ⟨hs,q⟩:=h
 cases x with
 | non=>
  cases rx
  cases y with
  | non=>cases ry;exact PySem.EqNone.eq_none_none (fin_bl I q (by simp))
  | bl j=>cases ry;exact PySem.EqNone.eq_none_bool (fin_bl I q (by simp))
  | int j=>obtain ⟨t',rfl⟩:=ry;exact PySem.EqNone.eq_none_int (fin_bl I q (by simp))
  | str j=>obtain ⟨t',rfl⟩:=ry;exact PySem.EqNone.eq_none_str (fin_bl I q (by simp))
  | _=>exact absurd (show false=true from hs) Bool.false_ne_true
 | bl i=>
  cases rx
  cases y with
  | non=>cases ry;exact PySem.EqNone.eq_bool_none (fin_bl I q (by simp))
  | bl j=>cases ry;exact eq_bool (fin_bl I q dec_bl)
  | str j=>obtain ⟨t',rfl⟩:=ry;exact PySem.EqMixed.eq_bool_str (fin_bl I q (by simp))
  | _=>exact absurd (show false=true from hs) Bool.false_ne_true
 | int i=>
  obtain ⟨t,rfl⟩:=rx
  cases y with
  | non=>cases ry;exact PySem.EqNone.eq_int_none (fin_bl I q (by simp))
  | int j=>obtain ⟨t',rfl⟩:=ry;exact eq_int (fin_bl I q dec_int)
  | str j=>obtain ⟨t',rfl⟩:=ry;exact PySem.EqMixed.eq_int_str (fin_bl I q (by simp))
  | _=>exact absurd (show false=true from hs) Bool.false_ne_true
 | str i=>
  obtain ⟨t,rfl⟩:=rx
  cases y with
  | non=>cases ry;exact PySem.EqNone.eq_str_none (fin_bl I q (by simp))
  | bl j=>cases ry;exact PySem.EqMixed.eq_str_bool (fin_bl I q (by simp))
  | int j=>obtain ⟨t',rfl⟩:=ry;exact PySem.EqMixed.eq_str_int (fin_bl I q (by simp))
  | str j=>obtain ⟨t',rfl⟩:=ry;exact eq_str (fin_bl I q dec_str)
  | _=>exact absurd (show false=true from hs) Bool.false_ne_true
 | byt i=>
  obtain ⟨t,rfl⟩:=rx
  cases y with
  | byt j=>obtain ⟨t',rfl⟩:=ry;exact PySem.W.eq_bytes (fin_bl I q dec_byt)
  | _=>exact absurd (show false=true from hs) Bool.false_ne_true
 | _=>cases y <;> exact absurd (show false=true from hs) Bool.false_ne_true
theorem op_ne:OpR X (compareOp .NotEq) rNe:=by
 intro pins s σ H x y v u Q I rx ry h
 obtain ⟨hs,q⟩:=h
 cases x with
 | non=>
  cases rx
  cases y with
  | non=>cases ry;exact PySem.EqNone.ne_none_none (fin_bl I q (by simp))
  | bl j=>cases ry;exact PySem.EqNone.ne_none_bool (fin_bl I q (by simp))
  | int j=>obtain ⟨t',rfl⟩:=ry;exact PySem.EqNone.ne_none_int (fin_bl I q (by simp))
  | str j=>obtain ⟨t',rfl⟩:=ry;exact PySem.EqNone.ne_none_str (fin_bl I q (by simp))
  | _=>exact absurd (show false=true from hs) Bool.false_ne_true
 | bl i=>
  cases rx
  cases y with
  | non=>cases ry;exact PySem.EqNone.ne_bool_none (fin_bl I q (by simp))
  | bl j=>cases ry;exact ne_bool (fin_bl I q (congrArg not dec_bl))
  | str j=>obtain ⟨t',rfl⟩:=ry;exact PySem.EqMixed.ne_bool_str (fin_bl I q (by simp))
  | _=>exact absurd (show false=true from hs) Bool.false_ne_true
 | int i=>
  obtain ⟨t,rfl⟩:=rx
  cases y with
  | non=>cases ry;exact PySem.EqNone.ne_int_none (fin_bl I q (by simp))
  | int j=>obtain ⟨t',rfl⟩:=ry;exact ne_int (fin_bl I q (congrArg not dec_int))
  | str j=>obtain ⟨t',rfl⟩:=ry;exact PySem.EqMixed.ne_int_str (fin_bl I q (by simp))
  | _=>exact absurd (show false=true from hs) Bool.false_ne_true
 | str i=>
  obtain ⟨t,rfl⟩:=rx
  cases y with
  | non=>cases ry;exact PySem.EqNone.ne_str_none (fin_bl I q (by simp))
  | bl j=>cases ry;exact PySem.EqMixed.ne_str_bool (fin_bl I q (by simp))
  | int j=>obtain ⟨t',rfl⟩:=ry;exact PySem.EqMixed.ne_str_int (fin_bl I q (by simp))
  | str j=>obtain ⟨t',rfl⟩:=ry;exact ne_str (fin_bl I q (congrArg not dec_str))
  | _=>exact absurd (show false=true from hs) Bool.false_ne_true
 | byt i=>
  obtain ⟨t,rfl⟩:=rx
  cases y with
  | byt j=>obtain ⟨t',rfl⟩:=ry;exact PySem.W.ne_bytes (fin_bl I q (congrArg not dec_byt))
  | _=>exact absurd (show false=true from hs) Bool.false_ne_true
 | _=>cases y <;> exact absurd (show false=true from hs) Bool.false_ne_true
theorem op_lt:OpR X (compareOp .Lt) (rI0 fun i j=>.bl (decide (i < j))):=opB0 fun _ _ _ _ _ _ _ q=>lt_int q
theorem op_le:OpR X (compareOp .LtE) (rI0 fun i j=>.bl (decide (i≤j))):=opB0 fun _ _ _ _ _ _ _ q=>le_int q
theorem op_in_str:OpR X (compareOp .In) (fun x y H Q=>∃ i j,x=.str i∧y=.str j∧Q (.bl (!(Builtin.Str.occurrences j i 0 j.length 1).isEmpty)) H):=by
 intro pins s σ H x y v u Q I rx ry h
 obtain ⟨i,j,rfl,rfl,q⟩:=h
 obtain ⟨t,rfl⟩:=rx
 obtain ⟨t',rfl⟩:=ry
 exact in_str (fin_bl I q rfl)
theorem op_isN:OpR X (compareOp .Is) (fun x y H Q=>y=.non∧Q (.bl (decide (x=.non))) H):=by
 intro pins s σ H x y v u Q I rx ry h
 obtain ⟨rfl,q⟩:=h
 cases ry
 refine is_none_gen (fin_bl I q ?_)
 cases x <;> first
  | (cases rx;rfl)
  | (obtain ⟨t,rfl⟩:=rx;rfl)
theorem nomark (b:Expr) {op:CmpOp} (h:op≠.In:=by decide) (h2:op≠.NotIn:=by decide):behindInMarks op b=false:=by
 have e1:(op == CmpOp.In)=false:=by cases op <;> first | rfl | exact absurd rfl h
 have e2:(op == CmpOp.NotIn)=false:=by cases op <;> first | rfl | exact absurd rfl h2
 cases b <;> simp [behindInMarks,e1,e2]
theorem pe_cmpR {op:CmpOp} {r:R2} (ho:OpR X (compareOp op) r) (ha:PE X a ta) (hb:PE X b tb) (hm:behindInMarks op b=false):PE X (.Compare a [op] [b] pos) (tOp r ta tb):=by
 intro pins s σ H Q I h
 exact wpAny_Compare1 (binT ha hb I h fun v u s2 x y H2 I2 rx ry q=>ho pins s2 σ H2 x y v u Q I2 rx ry q) hm
def tTest (t:TE):TT:=fun σ H Q=>t σ H fun x H'=>∃ k,x=.bl k∧Q k H'
theorem pt_cmpR {op:CmpOp} {r:R2} (ho:OpR X (compareOp op) r) (ha:PE X a ta) (hb:PE X b tb) (hm:behindInMarks op b=false):PT X (.Compare a [op] [b] pos) (tTest (tOp r ta tb)):=by
 intro pins s σ H Q I h
 refine wpAny_isTrue_Compare1 (thn (ha pins s σ H _ I h) fun v s1 ⟨x,H1,I1,r1,q1⟩=>thn (hb pins s1 σ H1 _ I1 q1) fun u s2 ⟨y,H2,I2,r2,q2⟩=>
  thn (ho pins s2 σ H2 x y v u _ I2 r1 r2 q2) fun c s3 ⟨z,H3,I3,r3,k,e,q3⟩=>?_) hm
 subst e
 cases r3
 exact wpAny_truthy_bool ⟨H3,I3,q3⟩
def tChain (r r':R2) (ta tb tc:TE):TE:=fun σ H Q=>ta σ H fun x H1=>tb σ H1 fun y H2=>r x y H2 fun z H3=>∃ k,z=.bl k∧
 (if k=true then tc σ H3 fun w' H4=>r' y w' H4 Q else Q (.bl false) H3)
theorem pt_chain {op op':CmpOp} {r r':R2} (ho:OpR X (compareOp op) r) (ho':OpR X (compareOp op') r') (ha:PE X a ta) (hb:PE X b tb) (hc:PE X c tc)
  (hm:lastMarks [op,op'] [b,c]=false:=by with_unfolding_all rfl):PT X (.Compare a [op,op'] [b,c] pos) (tTest (tChain r r' ta tb tc)):=by
 intro pins s σ H Q I h
 refine isTrue_chain (thn (ha pins s σ H _ I h) fun v s1 ⟨x,H1,I1,r1,q1⟩=>test_link (thn (hb pins s1 σ H1 _ I1 q1) fun u s2 ⟨y,H2,I2,r2,q2⟩=>
  thn (ho pins s2 σ H2 x y v u _ I2 r1 r2 q2) fun d s3 ⟨z,H3,I3,r3,k,e,q3⟩=>?_)) hm
 subst e
 cases r3
 refine wpAny_truthy_bool ?_
 cases k with
 | false=>
  obtain ⟨k',e',q'⟩:=q3
  cases e'
  exact ite_ff ⟨H3,I3,q'⟩
 | true=>
  refine ite_tt (test_last (thn (hc pins s3 σ H3 _ I3 q3) fun w' s4 ⟨z',H4,I4,r4,q4⟩=>thn (ho' pins s4 σ H4 y z' u w' _ I4 r2 r4 q4) fun d' s5 ⟨z2,H5,I5,r5,k2,e2,q5⟩=>?_))
  subst e2
  cases r5
  exact wpAny_truthy_bool ⟨H5,I5,q5⟩
theorem line63:(sizeLine:Nat) < 2 ^ 63:=by rw [sizeLine_eq];decide
theorem op_add_str:OpR X (binaryOp .Add) (fun x y H Q=>∃ i j,x=.str i∧y=.str j∧i.length + j.length≤sizeLine∧Q (.str (i ++ j)) H):=by
 intro pins s σ H x y v u Q I rx ry h
 obtain ⟨i,j,rfl,rfl,hz,q⟩:=h
 obtain ⟨t,rfl⟩:=rx
 obtain ⟨t',rfl⟩:=ry
 exact add_str (fun t' tk=>⟨.str (i ++ j),H,I.tok _,⟨_,rfl⟩,q⟩) hz
theorem vals1 {x:V} {us:List Value} (r:Vals [x] us):∃ u,us=[u]∧RelV x u:=by
 cases r with
 | cons r1 r2=>cases r2;exact ⟨_,rfl,r1⟩
theorem vals2 {x y:V} {us:List Value} (r:Vals [x,y] us):∃ u w',us=[u,w']∧RelV x u∧RelV y w':=by
 cases r with
 | cons r1 r2=>
  cases r2 with
  | cons r3 r4=>cases r4;exact ⟨_,_,rfl,r1,r3⟩
theorem call_min2 (hc:X.calm=true):CallR X (.builtin "min") (fun xs H Q=>∃ i j,xs=[.int i,.int j]∧Q (.int (if j < i then j else i)) H):=by
 intro pins s σ H xs us Q I r h
 obtain ⟨i,j,rfl,q⟩:=h
 obtain ⟨u,w',rfl,⟨t,rfl⟩,⟨t',rfl⟩⟩:=vals2 r
 refine min_two_ints (I.ok.hd hc) fun h' tk k=>⟨_,H,I.kept k,?_,q⟩
 by_cases hj:j < i
 ·rw [if_pos hj,if_pos hj];exact ⟨_,rfl⟩
 ·rw [if_neg hj,if_neg hj];exact ⟨_,rfl⟩
theorem call_int1:CallR X (.type "int") (fun xs H Q=>(∃ i,xs=[.int i]∧Q (.int i) H)∨∃ k,xs=[.bl k]∧Q (.int (if k then 1 else 0)) H):=by
 intro pins s σ H xs us Q I r h
 rcases h with ⟨i,rfl,q⟩ | ⟨k,rfl,q⟩
 ·obtain ⟨u,rfl,t,rfl⟩:=vals1 r
  exact call_int_int ⟨.int i,H,I,⟨_,rfl⟩,q⟩
 ·obtain ⟨u,rfl,r1⟩:=vals1 r
  cases r1
  exact call_int_bool ⟨.int (if k then 1 else 0),H,I.tok _,⟨_,rfl⟩,q⟩
end
end L2
namespace L2
open PySem PySem.Spec PyProof.Rows
structure ObjM (h:Heap) (x dx C:Addr) (mA:Str→Option Value):Prop where
 obj:h.get? x=some (PySem.W.instObj C dx)
 ns:h.Ns1 dx mA
 ne:dx≠x
theorem lookIn_ns {h:Heap} {dx:Addr} {mA:Str→Option Value} (n:h.Ns1 dx mA):∃ od,h.get? dx=some od∧∀ name,PySem.W.lookIn name od=some (mA name):=by
 obtain ⟨o,es,ep,ho,hd,hk,_,hm⟩:=n
 refine ⟨o,ho,fun name=>?_⟩
 have e:=hm name
 unfold nsFind findBy at e
 rw [← Array.find?_toList] at e
 unfold PySem.W.lookIn
 rw [hd]
 dsimp only
 split
 ·rename_i y q
  rw [q] at e
  exact congrArg some e
 ·rename_i q
  rw [q] at e
  have a:es.toList.any (·.refKey)=false:=by
   rw [List.any_eq_false]
   intro y hy
   obtain ⟨z,t,hkey⟩:=hk y (Array.mem_toList_iff.mp hy)
   simp [DictEntry.refKey,hkey]
  have a':¬es.toList.any (·.refKey)=true:=by rw [a];exact Bool.false_ne_true
  rw [if_neg a']
  exact congrArg some e
theorem ObjM.look {h:Heap} {x dx C:Addr} {mA:Str→Option Value} (I:ObjM h x dx C mA):∃ od,PySem.W.InstAt h x (PySem.W.instObj C dx) C (some od)∧∀ name,PySem.W.lookIn name od=some (mA name):=
 let ⟨od,ho,hl⟩:=lookIn_ns I.ns
 ⟨od,⟨I.obj,rfl,rfl,ho⟩,hl⟩
section
variable {prog:Program} {w:World} {A:Around} {E:Value→Shared→Prop} {s:Shared} {K:PySem.W.Frag} {x dx C f:Addr} {mA:Str→Option Value} {name:Str} {v:Value}
theorem get_map {expr:Bool} {Q:Value→Shared→Prop} (X:K.In s.heap) (I:ObjM s.heap x dx C mA) (hg:PySem.W.plainGet K C name=true) (hh:PySem.W.hasDictIn K C=true)
  (ha:PySem.W.findIn K (.ref C) name=some none) (hv:mA name=some v) (hv':PySem.W.handedIn v=true) (h:Q v { s with toks:=s.toks + 1 }) :
  wpAny (model prog w) A (getAttr (.ref x) name expr) Q E s:=by
 obtain ⟨od,J,hl⟩:=I.look
 exact PySem.W.get_value X J (PySem.W.plainGet_of hg).1 (PySem.W.findObj_own hh ha rfl (by rw [hl,hv])) hv' h
theorem get_meth {pl:Sem Bool} {Q:Value × List Value→Shared→Prop} (X:K.In s.heap) (I:ObjM s.heap x dx C mA) (hg:PySem.W.plainGet K C name=true)
  (hf:PySem.W.findIn K (.ref C) name=some (some (.ref f))) (ht:PySem.W.isFn K (.ref f)=true) (hv:mA name=none) (h:Q (.ref f,[.ref x]) s) :
  wpAny (model prog w) A (getMethod (.ref x) name pl) Q E s:=by
 obtain ⟨od,J,hl⟩:=I.look
 exact PySem.W.method_fn X J (PySem.W.plainGet_of hg).1 (PySem.W.plainGet_of hg).2 hf (beq_iff_eq.mp ht) (by show (PySem.W.lookIn name od).map (·.isSome)=some false;rw [hl,hv];rfl) h
theorem set_map {ns:List Str} {Q:Unit→Shared→Prop} (X:K.In s.heap) (I:ObjM s.heap x dx C mA)
  (hs:PySem.W.findIn K (.ref C) "__setattr__"=some (some (.builtin "object.__setattr__"))) (hp:PySem.W.plainOver K C=true) (ht:PySem.W.takerIn K C name=some none) (hh:PySem.W.hasDictIn K C=true)
  (hw:PySem.Within mA ns) (hsz:ns.length≤sizeLine)
  (h:∀ h',ObjM h' x dx C (fun y=>if y=name then some v else mA y)→Heap.SameBut dx s.heap h'→Q () { s with heap:=h',toks:=s.toks + 2 }) :
  wpAny (model prog w) A (setAttr (.ref x) name v) Q E s:=by
 obtain ⟨od,J,hl⟩:=I.look
 refine PySem.W.set_plain X J hs (PySem.W.osa_open (s:={ s with toks:=s.toks + 1 }) (r:=none) X J hp ht fun b=>?_)
 obtain ⟨cd,hc,hd'⟩:=PySem.W.any_some hh
 have hx:s.heap.get? x=some ⟨.ref C,some dx,.plain,#[]⟩:=I.obj
 refine wpAny_bind (wpAny_pure (wpAny_bind (wpAny_bind (wpAny_loadPart hx (wpAny_bind (PySem.W.Looks.here (s:={ s with toks:=s.toks + 1 }) (PySem.W.looks_clsIn X hc) ?_))))))
 rw [hd']
 refine wpAny_pure (a:=some dx) (wpAny_bind (wpAny_pure (wpAny_bind ?_)))
 refine wpAny_nsSet1 (s:={ s with toks:=s.toks + 1 }) I.ns fun h' hn2 hs2=>?_
 obtain ⟨oD,esD,epD,hoD,hdD,hcD⟩:=hn2.count (PySem.Within.cons name v hw)
 refine wpAny_bind (wpAny_lookBehind hoD (by rw [hdD];exact pastItsLine_dict (Nat.le_trans hcD (by rw [List.length_cons];omega))) ?_)
 exact wpAny_pure (h _ ⟨(hs2.2 _ (Ne.symm I.ne)).trans I.obj,hn2,I.ne⟩ hs2)
theorem make_map {R:Result→Shared→Prop} {vs:List Value} {kw:List (Str × Value)} (X:K.In s.heap) (hm:PySem.W.makesIn K C=true)
  (hi:PySem.W.findIn K (.ref C) "__init__"=some (some (.ref f))) (hf:PySem.W.typeIn K (.ref f)=some (.type "function"))
  (h:codeAny (model prog w) (A.under (.builtin "type.__call__" ⟨.ref C :: vs,kw⟩)) (.call (.ref f) ⟨.ref (s.heap.objs.size + 1) :: vs,kw⟩) (PySem.W.InitBack (s.heap.objs.size + 1) R)
   { s with heap:=(s.heap.push PySem.W.emptyDict).push (PySem.W.instObj C s.heap.objs.size) }) :
  codeAny (model prog w) A (.call (.ref C) ⟨vs,kw⟩) R s:=by
 obtain ⟨hh,g,d,t,os⟩:=s
 exact PySem.W.make_core (PySem.W.makes_of X hm) (PySem.W.looks_findIn X hi) (fun self=>PySem.W.bind_fn X self hf) (.inl rfl) h
end
def putF (f:Str) (v:V):List (Str × V)→List (Str × V)
 | []=>[(f,v)]
 | (g,x) :: r=>if g=f then (g,v) :: r else (g,x) :: putF f v r
theorem lookup_putF (f g:Str) (v:V):∀ fs:List (Str × V),(putF f v fs).lookup g=if g=f then some v else fs.lookup g
 | []=>by
  show List.lookup g [(f,v)]=_
  by_cases h:g=f
  ·have hb:(g == f)=true:=beq_iff_eq.mpr h
   simp only [List.lookup,hb,if_pos h]
  ·have hb:(g == f)=false:=beq_eq_false_iff_ne.mpr h
   simp only [List.lookup,hb,if_neg h]
 | (k,x) :: r=>by
  have ih:=lookup_putF f g v r
  rw [show putF f v ((k,x) :: r)=(if k=f then (k,v) :: r else (k,x) :: putF f v r) from rfl]
  by_cases hk:k=f
  ·rw [if_pos hk]
   by_cases h:g=k
   ·have hb:(g == k)=true:=beq_iff_eq.mpr h
    simp only [List.lookup,hb,if_pos (h.trans hk)]
   ·have hb:(g == k)=false:=beq_eq_false_iff_ne.mpr h
    simp only [List.lookup,hb,if_neg (fun e:g=f=>h (e.trans hk.symm))]
  ·rw [if_neg hk]
   by_cases h:g=k
   ·have hb:(g == k)=true:=beq_iff_eq.mpr h
    simp only [List.lookup,hb,if_neg (fun e:g=f=>hk (h.symm.trans e))]
   ·have hb:(g == k)=false:=beq_eq_false_iff_ne.mpr h
    simp only [List.lookup,hb]
    exact ih
theorem keys_putF (f:Str) (v:V):∀ fs:List (Str × V),f∈(putF f v fs).map (·.1)∧∀ g,g∈fs.map (·.1)→g∈(putF f v fs).map (·.1)
 | []=>⟨by simp [putF],fun g h=>by simp at h⟩
 | (k,x) :: r=>by
  obtain ⟨i1,i2⟩:=keys_putF f v r
  rw [show putF f v ((k,x) :: r)=(if k=f then (k,v) :: r else (k,x) :: putF f v r) from rfl]
  by_cases hk:k=f
  ·rw [if_pos hk]
   subst hk
   exact ⟨by simp,fun g h=>by simpa using h⟩
  ·rw [if_neg hk]
   refine ⟨?_,fun g h=>?_⟩
   ·rw [List.map_cons]
    exact List.mem_cons_of_mem _ i1
   ·rw [List.map_cons] at h ⊢
    rcases List.mem_cons.mp h with e | e
    ·exact List.mem_cons.mpr (.inl e)
    ·exact List.mem_cons_of_mem _ (i2 g e)
theorem length_putF (f:Str) (v:V):∀ fs:List (Str × V),(putF f v fs).length≤fs.length + 1
 | []=>by simp [putF]
 | (k,x) :: r=>by
  have ih:=length_putF f v r
  rw [show putF f v ((k,x) :: r)=(if k=f then (k,v) :: r else (k,x) :: putF f v r) from rfl]
  by_cases hk:k=f
  ·rw [if_pos hk,List.length_cons,List.length_cons];omega
  ·rw [if_neg hk,List.length_cons,List.length_cons];omega
theorem RelO.some_of {v:V} {o:Option Value} (r:RelO (some v) o):∃ u,o=some u∧RelV v u:=by
 cases o with
 | none=>exact (show False from r).elim
 | some u=>exact ⟨u,rfl,r⟩
theorem RelO.none_of {o:Option Value} (r:RelO none o):o=none:=by
 cases o with
 | none=>rfl
 | some u=>exact (show False from r).elim
theorem handed_of {v:V} {u:Value} (r:RelV v u):PySem.W.handedIn u=true:=by
 cases v with
 | non=>cases (show u=Value.none from r);rfl
 | bl b=>cases (show u=Value.bool b from r);rfl
 | int i=>obtain ⟨t,e⟩:=(show ∃ t,u=Value.int i t from r);cases e;rfl
 | str x=>obtain ⟨t,e⟩:=(show ∃ t,u=Value.str x t from r);cases e;rfl
 | byt b=>obtain ⟨t,e⟩:=(show ∃ t,u=Value.bytes b t from r);cases e;rfl
 | flt b=>obtain ⟨t,e⟩:=(show ∃ t,u=Value.float b t from r);cases e;rfl
 | ref a=>cases (show u=Value.ref a from r);rfl
 | ty n=>cases (show u=Value.type n from r);rfl
section
variable {P:Program} {w:World} {H H':Hp} {h h':Heap} {a C dx:Addr} {fs fs':List (Str × V)}
theorem ins_get (hok:HOk P w H h) (e:H a=some (.ins C dx fs)):∃ mA,ObjM h a dx C mA∧(∀ f,RelO (fs.lookup f) (mA f))∧PySem.Within mA (fs.map (·.1))∧fs.length≤1000∧H dx=some (.own a):=by
 obtain ⟨d,z,ne,ob,mA,n,r,q⟩:=(show ObjOk P w H h a (.ins C dx fs) from hok a _ e)
 exact ⟨mA,⟨ob,n,ne⟩,r,q,z,d⟩
end
structure Cls (K:PySem.W.Frag) (C:Addr):Prop where
 pg:PySem.W.plainGet K C Str.empty=true
 hd:PySem.W.hasDictIn K C=true
 po:PySem.W.plainOver K C=true
 sa:PySem.W.findIn K (.ref C) "__setattr__"=some (some (.builtin "object.__setattr__"))
theorem Cls.get {K:PySem.W.Frag} {C:Addr} (c:Cls K C) (f:Str):PySem.W.plainGet K C f=true:=c.pg
def NoAttr (K:PySem.W.Frag) (C:Addr) (f:Str):Prop:=PySem.W.findIn K (.ref C) f=some none
theorem NoAttr.taker {K:PySem.W.Frag} {C:Addr} {f:Str} (n:NoAttr K C f):PySem.W.takerIn K C f=some none:=by
 unfold PySem.W.takerIn
 rw [show PySem.W.findIn K (.ref C) f=some none from n]
 rfl
structure Con (K:PySem.W.Frag) (C:Addr) (f:Str) (v:V) (u:Value):Prop where
 at_:PySem.W.findIn K (.ref C) f=some (some u)
 rel:RelV v u
 get:PySem.W.specialIn K u "__get__"=some none
 cp:PySem.W.copiedNames.contains f=false
structure Meth (K:PySem.W.Frag) (C:Addr) (m:Str) (f:Addr):Prop where
 at_:PySem.W.findIn K (.ref C) m=some (some (.ref f))
 fn:PySem.W.isFn K (.ref f)=true
 kp:PySem.W.keepIn K (.ref f)=true
section
variable {X:Cx} {pins:List (Addr × Obj)} {σ:St} {H:Hp} {s:Shared} {a C dx:Addr} {fs:List (Str × V)} {f:Str} {v:V} {A:Around} {E:Value→Shared→Prop}
theorem getattr_ok {b:Bool} {Q:Value→Shared→Prop} (I:Inv X pins σ H s) (e:H a=some (.ins C dx fs)) (c:Cls X.K C) (n:NoAttr X.K C f) (l:fs.lookup f=some v)
  (h:∀ u s',Inv X pins σ H s'→RelV v u→Q u s'):wpAny (model X.prog X.w) A (getAttr (.ref a) f b) Q E s:=by
 obtain ⟨mA,O,r,_,_,_⟩:=ins_get I.hok e
 obtain ⟨u,hu,ru⟩:=RelO.some_of (v:=v) (o:=mA f) (by rw [← l];exact r f)
 exact get_map I.kIn O (c.get f) c.hd n hu (handed_of ru) (h u _ (I.tok _) ru)
theorem getmeth_ok {m:Str} {g:Addr} {pl:Sem Bool} {Q:Value × List Value→Shared→Prop} (I:Inv X pins σ H s) (e:H a=some (.ins C dx fs)) (c:Cls X.K C) (k:Meth X.K C m g) (l:fs.lookup m=none)
  (h:Q (.ref g,[.ref a]) s):wpAny (model X.prog X.w) A (getMethod (.ref a) m pl) Q E s:=by
 obtain ⟨mA,O,r,_,_,_⟩:=ins_get I.hok e
 have hn:mA m=none:=RelO.none_of (by rw [← l];exact r m)
 exact get_meth I.kIn O (c.get m) k.at_ k.fn hn h
theorem setattr_ok {y:V} {u:Value} {Q:Unit→Shared→Prop} (I:Inv X pins σ H s) (e:H a=some (.ins C dx fs)) (c:Cls X.K C) (n:NoAttr X.K C f) (hl:fs.length < 1000) (ry:RelV y u)
  (h:∀ s',Inv X pins σ (upd H a (.ins C dx (putF f y fs))) s'→Q () s'):wpAny (model X.prog X.w) A (setAttr (.ref a) f u) Q E s:=by
 obtain ⟨mA,O,r,wi,_,ho⟩:=ins_get I.hok e
 have hz:(fs.map (·.1)).length≤sizeLine:=by rw [List.length_map,sizeLine_eq];omega
 refine set_map I.kIn O c.sa c.po n.taker c.hd wi hz fun h' O' sb=>h _ ?_
 have hd:∃ o,h'.get? dx=some o:=let ⟨o,_,_,e',_⟩:=O'.ns;⟨o,e'⟩
 refine I.write (x:=a) (e:=dx) (by rw [e];exact True.intro) (.inr ho) (fun b q hb z=>(sb.2 b hb).trans z) hd ?_
 refine ⟨by rw [upd_ne O.ne];exact ho,?_,O.ne,O'.obj,_,O'.ns,fun g=>?_,fun g hg=>?_⟩
 ·have:=length_putF f y fs;omega
 ·show RelO ((putF f y fs).lookup g) (if g=f then some u else mA g)
  rw [lookup_putF]
  by_cases q:g=f
  ·rw [if_pos q,if_pos q];exact ry
  ·rw [if_neg q,if_neg q];exact r g
 ·by_cases q:g=f
  ·rw [q];exact (keys_putF f y fs).1
  ·refine (keys_putF f y fs).2 g (wi g fun z=>hg ?_)
   show (if g=f then some u else mA g)=none
   rw [if_neg q];exact z
theorem Inv.made (I:Inv X pins σ H s):Inv X pins σ (upd (upd H s.heap.objs.size (.own (s.heap.objs.size + 1))) (s.heap.objs.size + 1) (.ins C s.heap.objs.size []))
  { s with heap:=(s.heap.push PySem.W.emptyDict).push (PySem.W.instObj C s.heap.objs.size) }:=by
 have e1:(s.heap.push PySem.W.emptyDict).get? s.heap.objs.size=some PySem.W.emptyDict:=Heap.get?_push_size s.heap rfl
 have e2:((s.heap.push PySem.W.emptyDict).push (PySem.W.instObj C s.heap.objs.size)).get? (s.heap.objs.size + 1)=some (PySem.W.instObj C s.heap.objs.size):=by
  have:=Heap.get?_push_size (s.heap.push PySem.W.emptyDict) (o:=PySem.W.instObj C s.heap.objs.size) rfl
  rwa [Heap.size_push] at this
 have e3:(s.heap.push PySem.W.emptyDict).Ns s.heap.objs.size (fun _=>none):=⟨PySem.W.emptyDict,#[],_,e1,rfl,(fun e he=>absurd he (by simp)),fun _=>rfl⟩
 have I1:=I.laid (a:=s.heap.objs.size) (o:=.own (s.heap.objs.size + 1)) (h':=s.heap.push PySem.W.emptyDict) (t':=s.toks) (fun b u q=>Heap.get?_push_of_some _ q) (Nat.le_refl _) ⟨_,e1⟩
 refine I1.laid (a:=s.heap.objs.size + 1) (o:=.ins C s.heap.objs.size []) (t':=s.toks) (fun b u q=>Heap.get?_push_of_some _ q) (Nat.le_of_eq (Heap.size_push _ _)) ?_
 have ne:s.heap.objs.size≠s.heap.objs.size + 1:=Nat.ne_of_lt (Nat.lt_succ_self _)
 refine ⟨by rw [upd_ne ne,upd_same],Nat.zero_le _,ne,e2,fun _=>none,(Heap.Ns1.of_empty e3).at fun o q=>Heap.get?_push_of_some _ q,fun _=>True.intro,fun y hy=>absurd rfl hy⟩
theorem attr_of {prog:Program} {w:World} {env:Env} {e:Expr} {f:Str} {pos:Pos} {s:Shared} {Q:Value→Shared→Prop} (hb:attributeBase e f env (eval e env)=eval e env)
  (h:wpAny (model prog w) A (eval e env) (fun o s₁=>wpAny (model prog w) A (getAttr o f true) Q E s₁) E s):wpAny (model prog w) A (eval (.Attribute e f pos) env) Q E s:=
 Attribute_any_ h (by rw [arm_eval_Attribute,hb])
end
def tFld (K:PySem.W.Frag) (ta:TE) (f:Str):TE:=fun σ H Q=>ta σ H fun x H1=>∃ a C dx fs v,x=.ref a∧H1 a=some (.ins C dx fs)∧Cls K C∧NoAttr K C f∧fs.lookup f=some v∧Q v H1
def sFld (K:PySem.W.Frag) (ta tv:TE) (f:Str):TS:=fun D σ H=>tv σ H fun y H1=>ta σ H1 fun x H2=>∃ a C dx fs,x=.ref a∧H2 a=some (.ins C dx fs)∧Cls K C∧NoAttr K C f∧fs.length < 1000∧
 D.nx σ (upd H2 a (.ins C dx (putF f y fs)))
section
variable {X:Cx} {o e value:Expr} {f:Str} {pos pos' tpos:Pos} {ta tv:TE}
theorem pe_fld (he:PE X e ta) (hb:attributeBase e f X.env (eval e X.env)=eval e X.env):PE X (.Attribute e f pos) (tFld X.K ta f):=by
 intro pins s σ H Q I h
 refine attr_of hb (thn (he pins s σ H _ I h) fun u s1 ⟨x,H1,I1,rx,a,C,dx,fs,v,ex,ea,c,n,l,q⟩=>?_)
 subst ex
 obtain rfl:u=Value.ref a:=rx
 exact getattr_ok I1 ea c n l fun u' s2 I2 ru=>⟨v,H1,I2,ru,q⟩
theorem ps_fld (ha:PE X o ta) (hv:PE X value tv) (hs:swapsWith value (some (.Attribute o f pos')) pos.line X.env=pure false):PS X (.Assign [.Attribute o f pos'] value pos) (sFld X.K ta tv f):=by
 intro pins s σ H D I h
 refine plainObj_wpAny_Assign_Attribute (thn (hv pins s σ H _ I h) fun u s1 ⟨y,H1,I1,ry,q⟩=>thn (ha pins s1 σ H1 _ I1 q) fun ov s2 ⟨x,H2,I2,rx,a,C,dx,fs,ex,ea,c,n,l,q2⟩=>?_) hs
 subst ex
 obtain rfl:ov=Value.ref a:=rx
 exact setattr_ok I2 ea c n l ry fun s3 I3=>⟨σ,_,I3,q2⟩
end
section
variable {X:Cx} {pins:List (Addr × Obj)} {σ:St} {H:Hp} {s:Shared} {A:Around} {E:Value→Shared→Prop} {Q:Value→Shared→Prop} {c:Value} {b:Bool}
inductive TyOf (K:PySem.W.Frag) (H:Hp):V→Value→Prop where
 | non:TyOf K H .non (.type "NoneType")
 | bl (x:Bool):TyOf K H (.bl x) (.type "bool")
 | int (i:Int):TyOf K H (.int i) (.type "int")
 | str (x:Str):TyOf K H (.str x) (.type "str")
 | flt (x:UInt64):TyOf K H (.flt x) (.type "float")
 | lst {a:Addr} {xs:List V} (e:H a=some (.lst xs)):TyOf K H (.ref a) (.type "list")
 | frz {a:Addr} {o:Obj} {xs:List V} (e:H a=some (.frz o (.lst xs))):TyOf K H (.ref a) (.type "list")
 | tup {a:Addr} {xs:List V} (e:H a=some (.tup xs)):TyOf K H (.ref a) (.type "tuple")
 | dK {a:Addr} {kvs:List (Key × V)} (e:H a=some (.dK kvs)):TyOf K H (.ref a) (.type "dict")
 | dT {a:Addr} {kvs:List (List Key × V)} (e:H a=some (.dT kvs)):TyOf K H (.ref a) (.type "dict")
 | ins {a C dx:Addr} {fs:List (Str × V)} (e:H a=some (.ins C dx fs)) (cl:Cls K C) (ha:PySem.W.findIn K (.ref C) "__class__"=some (some (.builtin "object.__class__")))
   (hn:PySem.W.specialIn K (.builtin "object.__class__") "__get__"=some (some (.builtin "getset_descriptor.__get__"))) (htk:PySem.W.takesIn K (.builtin "object.__class__")=some true)
   (hm:PySem.W.mroIn K C (.type "object")=some true):TyOf K H (.ref a) (.ref C)
theorem isinst_ok {x:V} {u t:Value} (I:Inv X pins σ H s) (rx:RelV x u) (ty:TyOf X.K H x t) (e:PySem.W.kitOne X.K t c=some b) (h:∀ tk,Q (.bool b) { s with toks:=tk }) :
  wpAny (model X.prog X.w) A (call (.builtin "isinstance") [u,c]) Q E s:=by
 cases ty with
 | non=>cases (show u=Value.none from rx);exact PySem.W.kia_one PySem.W.kitx_none I.kIn True.intro e (fun z=>nomatch z) h
 | bl y=>cases (show u=Value.bool y from rx);exact PySem.W.kia_one PySem.W.kitx_bool I.kIn True.intro e (fun z=>nomatch z) h
 | int i=>obtain ⟨t,q⟩:=(show ∃ t,u=Value.int i t from rx);cases q;exact PySem.W.kia_one PySem.W.kitx_int I.kIn True.intro e (fun z=>nomatch z) h
 | str y=>obtain ⟨t,q⟩:=(show ∃ t,u=Value.str y t from rx);cases q;exact PySem.W.kia_one PySem.W.kitx_str I.kIn True.intro e (fun z=>nomatch z) h
 | flt y=>obtain ⟨t,q⟩:=(show ∃ t,u=Value.float y t from rx);cases q;exact PySem.W.kia_one PySem.W.kitx_float I.kIn True.intro e (fun z=>nomatch z) h
 | @lst a xs ea=>
  cases (show u=Value.ref a from rx)
  obtain ⟨_,_,n,_,h1⟩:=(show ObjOk X.prog X.w H s.heap a (.lst xs) from I.hok a _ ea)
  exact PySem.W.kia_one PySem.W.kitx_list I.kIn ⟨_,h1,rfl⟩ e (fun z=>nomatch z) h
 | @frz a ob xs ea=>
  cases (show u=Value.ref a from rx)
  obtain ⟨_,_,_,n,_,h1⟩:=(show ObjOk X.prog X.w H s.heap a (.frz ob (.lst xs)) from I.hok a _ ea)
  exact PySem.W.kia_one PySem.W.kitx_list I.kIn ⟨_,h1,rfl⟩ e (fun z=>nomatch z) h
 | @tup a xs ea=>
  cases (show u=Value.ref a from rx)
  obtain ⟨_,_,_,p⟩:=(show ObjOk X.prog X.w H s.heap a (.tup xs) from I.hok a _ ea)
  obtain ⟨o,h1,h2,_⟩:=p
  exact PySem.W.kia_one PySem.W.kitx_tuple I.kIn ⟨o,h1,h2⟩ e (fun z=>nomatch z) h
 | @dK a kvs ea=>
  cases (show u=Value.ref a from rx)
  obtain ⟨_,_,vs,_,p⟩:=(show ObjOk X.prog X.w H s.heap a (.dK kvs) from I.hok a _ ea)
  obtain ⟨o,es,ep,h1,h2,_⟩:=p
  exact PySem.W.kia_one PySem.W.kitx_dict I.kIn ⟨o,h1,h2.1⟩ e (fun z=>nomatch z) h
 | @dT a kvs ea=>
  cases (show u=Value.ref a from rx)
  obtain ⟨_,_,xs,_,o,es,ep,h1,h2,_⟩:=(show ObjOk X.prog X.w H s.heap a (.dT kvs) from I.hok a _ ea)
  exact PySem.W.kia_one PySem.W.kitx_dict I.kIn ⟨o,h1,h2.1⟩ e (fun z=>nomatch z) h
 | @ins a C dx fs ea cl ha hn htk hm=>
  cases (show u=Value.ref a from rx)
  obtain ⟨mA,O,_⟩:=ins_get I.hok ea
  obtain ⟨od,J,_⟩:=O.look
  exact PySem.W.kia_one (PySem.W.kitx_own (cl.get _) cl.hd ha hn htk hm) I.kIn J e (fun z=>nomatch z) h
end
end L2
namespace L2
open PySem PySem.Spec PyProof.Rows
structure Room (k:Nat) (A:Around):Prop where
 hd:A.handled=none
 dp:A.depth + 3 * k + 5 < recursionLimit
 un:A.units + 16 * k + 200 < cLine
theorem Room.mono {j k:Nat} {A:Around} (r:Room k A) (h:j≤k):Room j A:=⟨r.hd,by have:=r.dp;omega,by have:=r.un;omega⟩
theorem Room.deeper {k:Nat} {A:Around} (r:Room (k + 1) A) (env:Env):Room k (A.deeper env):=
 ⟨r.hd,by have:=r.dp;show A.depth + 1 + 3 * k + 5 < _;omega,by have:=r.un;show A.units + 3 + 16 * k + 200 < _;omega⟩
theorem make_depth {A:Around} {C:Addr} {us:List Value} {kw:List (Str × Value)}:(A.under (.builtin "type.__call__" ⟨.ref C :: us,kw⟩)).depth=A.depth + 1:=by
 first | rfl | simp [Around.under,Code.weight,Code.isCreation,Code.isGuard,Code.isCaller,Code.frames,Code.isFrame,guardIds]
theorem make_units {A:Around} {C:Addr} {us:List Value} {kw:List (Str × Value)}:(A.under (.builtin "type.__call__" ⟨.ref C :: us,kw⟩)).units=A.units + 1:=by
 first | rfl | simp [Around.under,Code.cUnits,Code.frames,Code.isFrame]
theorem Room.make {k:Nat} {A:Around} (r:Room (k + 1) A) (C:Addr) (us:List Value) (kw:List (Str × Value)):Room k (A.under (.builtin "type.__call__" ⟨.ref C :: us,kw⟩)):=
 ⟨r.hd,by have:=r.dp;rw [make_depth];omega,by have:=r.un;rw [make_units];omega⟩
theorem Room.depth {k:Nat} {A:Around} (r:Room k A):A.depth < recursionLimit:=by have:=r.dp;omega
theorem Room.units {k:Nat} {A:Around} (r:Room k A):A.units + 64 < cLine:=by have:=r.un;omega
def tNil:TA:=fun _ H Q=>Q [] H
def tCons (ta:TE) (tr:TA):TA:=fun σ H Q=>ta σ H fun x H1=>tr σ H1 fun xs H2=>Q (x :: xs) H2
section
variable {X:Cx} {e:Expr} {es:List Expr} {te:TE} {t:TA} {pos:Pos}
theorem pa_nil:PA X [] tNil:=fun _ _ _ _ H Q I h=>Calls.spliced_nil ⟨[],H,I,.nil,h⟩
theorem pa_cons (ha:PE X e te) (hr:PA X es t) (hs:starEach (e :: es) X.env=(false,eval e X.env) :: starEach es X.env:=by rfl):PA X (e :: es) (tCons te t):=by
 intro pos pins s σ H Q I h
 rw [hs]
 show wpAny _ _ (spliced ((false,eval e X.env) :: backTo pos (starEach es X.env))) _ _ s
 refine Calls.spliced_cons (thn (ha pins s σ H _ I h) fun u s1 ⟨x,H1,I1,r1,q1⟩=>?_)
 exact thn (hr pos pins s1 σ H1 _ I1 q1) fun us s2 ⟨xs,H2,I2,r2,q2⟩=>⟨x :: xs,H2,I2,.cons r1 r2,q2⟩
def tTup (t:TA):TE:=fun σ H Q=>t σ H fun xs H1=>xs.length≤sizeLine∧∀ p,H1 p=none→Q (.ref p) (upd H1 p (.tup xs))
def tLst (t:TA):TE:=fun σ H Q=>t σ H fun xs H1=>xs.length≤sizeLine∧∀ p,H1 p=none→Q (.ref p) (upd H1 p (.lst xs))
theorem pe_tup {x1} (h:PA X es t):PE X (.Tuple es x1 pos) (tTup t):=by
 intro pins s σ H Q I hq
 refine wpAny_Tuple_spliced (thn (h pos pins s σ H _ I hq) fun us s1 ⟨xs,H1,I1,r,z,q⟩=>⟨by rw [← r.length];exact z,?_⟩)
 have hf:H1 s1.heap.objs.size=none:=I1.hok.fresh (Nat.le_refl _)
 refine ⟨.ref s1.heap.objs.size,upd H1 s1.heap.objs.size (.tup xs),I1.laid (t':=s1.toks) (fun b u e=>Heap.get?_push_of_some _ e) (Nat.le_refl _) ?_,rfl,q _ hf⟩
 exact ⟨z,us,r,⟨_,Heap.get?_push_size _ rfl,rfl,_,rfl⟩⟩
theorem pe_lst (h:PA X es t):PE X (.List es pos) (tLst t):=by
 intro pins s σ H Q I hq
 refine wpAny_List_spliced (thn (h pos pins s σ H _ I hq) fun us s1 ⟨xs,H1,I1,r,z,q⟩=>⟨by rw [← r.length];exact z,?_⟩)
 have hf:H1 s1.heap.objs.size=none:=I1.hok.fresh (Nat.le_refl _)
 refine ⟨.ref s1.heap.objs.size,upd H1 s1.heap.objs.size (.lst xs),I1.laid (t':=s1.toks) (fun b u e=>Heap.get?_push_of_some _ e) (Nat.le_refl _) ?_,rfl,q _ hf⟩
 exact ⟨z,us,0,r,Heap.get?_push_size _ rfl⟩
end
abbrev Sp:=List V→Hp→VK→XK→Prop
abbrev CXT:=List Env→Hp→Shared→XK→Value→Shared→Prop
structure Env0 (P:Program) (w:World) (K:PySem.W.Frag) (mg:Str→Option Value) (base:Heap) (A:Around) (outer:List Env) (s:Shared) (H:Hp):Prop where
 frames:A.frames=some outer
 mod:Mod K mg base
 bs:∀ b o,base.get? b=some o→s.heap.get? b=some o∧H b=none
 bsz:base.objs.size≤s.heap.objs.size
 funs:s.heap.FunFrames base outer
 frf:∀ b∈frs outer,H b=none
 hok:HOk P w H s.heap
 bare:AllBare s.gens
def CE (outer:List Env) (P:Program) (w:World) (H:Hp) (s:Shared) (Q:VK) (u:Value) (s':Shared):Prop:=
 ∃ v H',s'.os=s.os∧AllBare s'.gens∧Un (frs outer) [] H H' s.heap s'.heap∧HOk P w H' s'.heap∧RelV v u∧Q v H'
def CR (CX:CXT) (outer:List Env) (P:Program) (w:World) (H:Hp) (s:Shared) (Q:VK) (E:XK) (r:Result) (s':Shared):Prop:=
 match r with
 | .ok (.ret u)=>CE outer P w H s Q u s'
 | .ok _=>False
 | .error e=>CX outer H s E e s'
structure FnOk (P:Program) (w:World) (K:PySem.W.Frag) (mg:Str→Option Value) (base:Heap) (CX:CXT) (k:Nat) (f:Addr) (fd:FuncData) (ps:List Str) (sp:Sp):Prop where
 len:∀ vs H Q E,sp vs H Q E→vs.length=ps.length
 run:∀ (A:Around) (outer:List Env) (s:Shared) (H:Hp) (args:Args) (us:List Value) (vs:List V) (Q:VK) (E:XK),Room k A→Env0 P w K mg base A outer s H→BindsTo s fd args (ps.zip us)→Vals vs us→sp vs H Q E→
  codeAny (model P w) A (.call (.ref f) args) (CR CX outer P w H s Q E) s
theorem FnOk.mono {P:Program} {w:World} {K:PySem.W.Frag} {mg:Str→Option Value} {base:Heap} {CX:CXT} {j k:Nat} {f:Addr} {fd:FuncData} {ps:List Str} {sp:Sp} (F:FnOk P w K mg base CX j f fd ps sp) (h:j≤k) :
  FnOk P w K mg base CX k f fd ps sp:=⟨F.len,fun A outer s H args us vs Q E hr=>F.run A outer s H args us vs Q E (hr.mono h)⟩
theorem Env0.make {P:Program} {w:World} {K:PySem.W.Frag} {mg:Str→Option Value} {base:Heap} {A:Around} {outer:List Env} {s:Shared} {H:Hp} (e:Env0 P w K mg base A outer s H) (C:Addr) (us:List Value) (kw:List (Str × Value)) :
  Env0 P w K mg base (A.under (.builtin "type.__call__" ⟨.ref C :: us,kw⟩)) outer s H:=⟨by first | exact e.frames | (simpa [Around.under,Code.envs,Code.isFrame,pushEnvs] using e.frames),e.mod,e.bs,e.bsz,e.funs,e.frf,e.hok,e.bare⟩
section
variable {X:Cx} {pins:List (Addr × Obj)} {σ:St} {H:Hp} {s s':Shared}
theorem Inv.env0 (I:Inv X pins σ H s):Env0 X.prog X.w X.K X.mg X.base X.A X.stack s H:=
 ⟨I.ok.frames,I.ok.mod,I.bs,Nat.le_trans I.ok.bsz I.sz,I.stack,I.stkFree,I.hok,I.bare⟩
theorem Inv.after {Q:VK} {u:Value} (I:Inv X pins σ H s) (h:CE X.stack X.prog X.w H s Q u s'):EP X pins σ Q u s':=by
 obtain ⟨v,H',os,bare,un,hok,r,q⟩:=h
 obtain ⟨hh,g,d,t,os'⟩:=s'
 obtain rfl:os'=s.os:=os
 exact ⟨v,H',I.call (h':=hh) (g':=g) (d':=d) (t':=t) (ch:=[]) un hok bare (fun b z=>absurd z (by simp)),r,q⟩
end
def tCall (sp:Sp) (dvs:List V) (E:XK) (t:TA):TE:=fun σ H Q=>t σ H fun vs H1=>sp (vs ++ dvs) H1 Q E
def tMeth (C:Addr) (m:Str) (sp:Sp) (dvs:List V) (E:XK) (ta:TE) (t:TA):TE:=fun σ H Q=>ta σ H fun x H1=>∃ a dx fs,x=.ref a∧H1 a=some (.ins C dx fs)∧fs.lookup m=none∧
 t σ H1 fun vs H2=>sp (x :: (vs ++ dvs)) H2 Q E
def tMake (C:Addr) (sp:Sp) (dvs:List V) (E:XK) (t:TA):TE:=fun σ H Q=>t σ H fun vs H1=>∀ x dx,H1 x=none→H1 dx=none→dx≠x→
 sp (.ref x :: (vs ++ dvs)) (upd (upd H1 dx (.own x)) x (.ins C dx [])) (fun v H2=>v=.non∧Q (.ref x) H2) E
def Binds (K:PySem.W.Frag) (fd:FuncData) (ps:List Str) (ds:List Value):Prop:=
 ∀ (s:Shared) (us:List Value),K.In s.heap→(us ++ ds).length=ps.length→BindsTo s fd ⟨us,[]⟩ (ps.zip (us ++ ds))
theorem Binds.all {K:PySem.W.Frag} {fd:FuncData} {ps:List Str} (h:∀ us:List Value,us.length=ps.length→bindArgs fd ⟨us,[]⟩=pure (ps.zip us)):Binds K fd ps []:=fun s us _ hl=>by
 rw [List.append_nil] at hl ⊢
 exact .of_eq (h us hl)
def Passes (CX:CXT) (X:Cx) (E:XK):Prop:=∀ (pins:List (Addr × Obj)) (σ:St) (H:Hp) (s:Shared) (e:Value) (s':Shared),Inv X pins σ H s→CX X.stack H s E e s'→X.xe e s'
section
variable {X:Cx} {CX:CXT} {k:Nat} {f C:Addr} {fd:FuncData} {ps:List Str} {sp:Sp} {dvs:List V} {ds:List Value} {E:XK} {x m:Str} {p pos apos:Pos} {e o:Expr} {es:List Expr} {ta:TE} {t:TA}
theorem run_fn {pins:List (Addr × Obj)} {σ:St} {H:Hp} {s:Shared} {Q:VK} {us:List Value} {vs:List V} (F:FnOk X.prog X.w X.K X.mg X.base CX k f fd ps sp) (hr:Room k X.A) (hb:Binds X.K fd ps ds) (hd:Vals dvs ds) (hx:Passes CX X E)
  (I:Inv X pins σ H s) (r:Vals vs us) (h:sp (vs ++ dvs) H Q E):wpAny (model X.prog X.w) X.A (call (.ref f) us) (EP X pins σ Q) X.xe s:=by
 have r2:Vals (vs ++ dvs) (us ++ ds):=r.append hd
 have hl:(us ++ ds).length=ps.length:=by rw [← r2.length];exact F.len _ _ _ _ h
 refine wpAny_call (codeAny_mono (F.run X.A X.stack s H ⟨us,[]⟩ (us ++ ds) (vs ++ dvs) Q E hr I.env0 (hb s us I.kIn hl) r2 h) fun r s' hq=>?_)
 cases r with
 | error e=>exact hx pins σ H s e s' I hq
 | ok fl=>
  cases fl with
  | ret u=>exact I.after hq
  | next=>exact False.elim hq
  | brk=>exact False.elim hq
  | cont=>exact False.elim hq
theorem pe_call (F:FnOk X.prog X.w X.K X.mg X.base CX k f fd ps sp) (hr:Room k X.A) (hg:Gl X x) (hm:X.mg x=some (.ref f)) (hk:PySem.W.keepIn X.K (.ref f)=true) (hb:Binds X.K fd ps ds) (hd:Vals dvs ds) (hx:Passes CX X E)
  (ha:PA X (e :: es) t) (hdb:(x == ("__debug__":Str))=false:=by decide) (he:starEach (e :: es) X.env=(false,eval e X.env) :: starEach es X.env:=by rfl) (hpl:(backTo pos (starEach es X.env)).any (·.1)=false:=by rfl) :
  PE X (.Call (.Name x p) (e :: es) [] pos) (tCall sp dvs E t):=by
 intro pins s σ H Q I h
 refine wpAny_Call_Name_kw (ld_glob I hg hm ?_ hdb)
 refine PySem.W.callWith_K (h₀:=X.base) I.ok.mod.kin hk (thn (ha pos pins s σ H _ I h) fun us s1 ⟨vs,H1,I1,r,q⟩=>⟨I1.kIn,?_⟩) he hpl
 exact run_fn F hr hb hd hx I1 r q
theorem pe_meth0 {pl:Sem Bool} (he:PE X o ta) (c:Cls X.K C) (hm:Meth X.K C m f) (F:FnOk X.prog X.w X.K X.mg X.base CX k f fd ps sp) (hr:Room k X.A) (hb:Binds X.K fd ps ds) (hd:Vals dvs ds) (hx:Passes CX X E)
  (ht:eval (.Call (.Attribute o m apos) [] [] pos) X.env=(do
   let ov ← eval o X.env
   standAt apos.atName
   let (f,first) ← holding [ov] (getMethod ov m pl)
   callWith pos f first (backTo pos (starEach [] X.env)) (backToKw pos (keywordEach [] X.env))):=by rfl) :
  PE X (.Call (.Attribute o m apos) [] [] pos) (tMeth C m sp dvs E ta tNil):=by
 intro pins s σ H Q I h
 refine PySem.W.methodCall_KW (pl:=pl) (thn (he pins s σ H _ I h) fun u s1 ⟨x,H1,I1,rx,a,dx,fs,ex,ea,l,q⟩=>?_) ht
 subst ex
 obtain rfl:u=Value.ref a:=rx
 refine getmeth_ok I1 ea c hm l ?_
 exact PySem.W.callWith_K0 (first:=[.ref a]) I1.kIn hm.kp (run_fn (us:=[.ref a]) (vs:=[.ref a]) F hr hb hd hx I1 (.cons rfl .nil) q)
structure Mk (K:PySem.W.Frag) (C f:Addr):Prop where
 makes:PySem.W.makesIn K C=true
 init:PySem.W.findIn K (.ref C) "__init__"=some (some (.ref f))
 fn:PySem.W.isFn K (.ref f)=true
 kp:PySem.W.keepIn K (.ref C)=true
theorem run_make {pins:List (Addr × Obj)} {σ:St} {H:Hp} {s:Shared} {Q:VK} {us:List Value} {vs:List V} (M:Mk X.K C f) (F:FnOk X.prog X.w X.K X.mg X.base CX k f fd ps sp) (hr:Room (k + 1) X.A) (hb:Binds X.K fd ps ds) (hd:Vals dvs ds)
  (hx:Passes CX X E) (I:Inv X pins σ H s) (r:Vals vs us)
  (h:∀ x dx,H x=none→H dx=none→dx≠x→sp (.ref x :: (vs ++ dvs)) (upd (upd H dx (.own x)) x (.ins C dx [])) (fun v H2=>v=.non∧Q (.ref x) H2) E) :
  wpAny (model X.prog X.w) X.A (call (.ref C) us) (EP X pins σ Q) X.xe s:=by
 have hq:=h (s.heap.objs.size + 1) s.heap.objs.size (I.hok.fresh (Nat.le_succ _)) (I.hok.fresh (Nat.le_refl _)) (Nat.ne_of_lt (Nat.lt_succ_self _))
 have I2:=Inv.made (C:=C) I
 have r2:Vals (V.ref (s.heap.objs.size + 1) :: (vs ++ dvs)) (Value.ref (s.heap.objs.size + 1) :: (us ++ ds)):=.cons rfl (r.append hd)
 have hl:(Value.ref (s.heap.objs.size + 1) :: us ++ ds).length=ps.length:=by
  have e:=r2.length
  rw [F.len _ _ _ _ hq] at e
  exact e.symm
 refine wpAny_call (make_map (f:=f) I.kIn M.makes M.init (beq_iff_eq.mp M.fn) (codeAny_mono (F.run _ X.stack _ _ ⟨Value.ref (s.heap.objs.size + 1) :: us,[]⟩ (Value.ref (s.heap.objs.size + 1) :: (us ++ ds)) _ _ E (hr.make C us [])
  (I2.env0.make C us []) (hb _ (Value.ref (s.heap.objs.size + 1) :: us) I2.kIn hl) r2 hq) fun r s' hq'=>?_))
 cases r with
 | error e=>exact hx pins σ _ _ e s' I2 hq'
 | ok fl=>
  cases fl with
  | ret u=>
   obtain ⟨v,H',I3,rv,ev,q3⟩:=I2.after hq'
   subst ev
   exact ⟨rv,⟨V.ref (s.heap.objs.size + 1),H',I3,rfl,q3⟩⟩
  | next=>exact False.elim hq'
  | brk=>exact False.elim hq'
  | cont=>exact False.elim hq'
theorem pe_make (M:Mk X.K C f) (F:FnOk X.prog X.w X.K X.mg X.base CX k f fd ps sp) (hr:Room (k + 1) X.A) (hg:Gl X x) (hm:X.mg x=some (.ref C)) (hb:Binds X.K fd ps ds) (hd:Vals dvs ds) (hx:Passes CX X E)
  (ha:PA X (e :: es) t) (hdb:(x == ("__debug__":Str))=false:=by decide) (he:starEach (e :: es) X.env=(false,eval e X.env) :: starEach es X.env:=by rfl) (hpl:(backTo pos (starEach es X.env)).any (·.1)=false:=by rfl) :
  PE X (.Call (.Name x p) (e :: es) [] pos) (tMake C sp dvs E t):=by
 intro pins s σ H Q I h
 refine wpAny_Call_Name_kw (ld_glob I hg hm ?_ hdb)
 refine PySem.W.callWith_K (h₀:=X.base) I.ok.mod.kin M.kp (thn (ha pos pins s σ H _ I h) fun us s1 ⟨vs,H1,I1,r,q⟩=>⟨I1.kIn,?_⟩) he hpl
 exact run_make M F hr hb hd hx I1 r q
end
section
variable {X:Cx} {CX:CXT} {k:Nat} {f C:Addr} {fd:FuncData} {ps ks:List Str} {sp:Sp} {E:XK} {x m:Str} {p pos apos kpos:Pos} {e o:Expr} {es:List Expr} {kws:List Keyword} {te ta:TE} {t tk:TA} {nm:Option Str}
structure KBinds (K:PySem.W.Frag) (fd:FuncData) (ps ks:List Str) (g:List Value→List Value→List Value) (gV:List V→List V→List V):Prop where
 to:∀ (s:Shared) (us ws:List Value),K.In s.heap→(g us ws).length=ps.length→BindsTo s fd ⟨us,ks.zip ws⟩ (ps.zip (g us ws))
 rel:∀ {vs:List V} {us:List Value} {zs:List V} {ws:List Value},Vals vs us→Vals zs ws→Vals (gV vs zs) (g us ws)
variable {g:List Value→List Value→List Value} {gV:List V→List V→List V}
end
structure FnScope (N P:List Str) (sc:Scope):Prop where
 kind:sc.kind=.function
 co:sc.isCoroutine=false
 gen:sc.isGenerator=false
 nd:N.Nodup
 pre:N.take P.length=P
 par:∀ x∈P,sc.names.lookup x=some .local∨sc.names.lookup x=some .cell
 nofree:∀ y∈sc.names,y.2≠.free
theorem bindL_out {kindOf:Str→Option NameKind} {x:Str}:∀ {binds:List (Str × Value)} {m:Str→Option Value},(∀ v,(x,v)∉binds)→bindL kindOf binds m x=m x
 | [],_,_=>rfl
 | (n,v) :: r,m,h=>by
  unfold bindL
  rw [bindL_out fun w hw=>h w (List.mem_cons_of_mem _ hw)]
  split
  ·have:x≠n:=by rintro rfl;exact h v List.mem_cons_self
   simp [this]
  ·rfl
theorem bindC_out {kindOf:Str→Option NameKind} {x:Str}:∀ {binds:List (Str × Value)} {m:Str→Option Value},(∀ v,(x,v)∉binds)→bindC kindOf binds m x=m x
 | [],_,_=>rfl
 | (n,v) :: r,m,h=>by
  unfold bindC
  rw [bindC_out fun w hw=>h w (List.mem_cons_of_mem _ hw)]
  split
  ·rfl
  ·have:x≠n:=by rintro rfl;exact h v List.mem_cons_self
   simp [this]
theorem bindL_get {kindOf:Str→Option NameKind} {x:Str} {v:Value}:∀ {P:List Str} {vs:List Value} {i:Nat} {m:Str→Option Value},P.Nodup→P[i]?=some x→vs[i]?=some v→kindOf x=some .local→
  bindL kindOf (P.zip vs) m x=some v
 | [],_,_,_,_,h,_,_=>by simp at h
 | _ :: _,[],_,_,_,_,h,_=>by simp at h
 | p :: P,w :: vs,0,m,nd,h1,h2,hk=>by
  simp at h1 h2;subst h1;subst h2
  show bindL kindOf ((p,w) :: P.zip vs) m p=_
  unfold bindL
  rw [bindL_out fun v hv=>(List.nodup_cons.mp nd).1 (List.of_mem_zip hv).1,if_pos hk]
  simp
 | p :: P,w :: vs,i + 1,m,nd,h1,h2,hk=>by
  show bindL kindOf ((p,w) :: P.zip vs) m x=_
  unfold bindL
  exact bindL_get (i:=i) (List.nodup_cons.mp nd).2 (by simpa using h1) (by simpa using h2) hk
theorem bindC_get {kindOf:Str→Option NameKind} {x:Str} {v:Value}:∀ {P:List Str} {vs:List Value} {i:Nat} {m:Str→Option Value},P.Nodup→P[i]?=some x→vs[i]?=some v→kindOf x≠some .local→
  bindC kindOf (P.zip vs) m x=some v
 | [],_,_,_,_,h,_,_=>by simp at h
 | _ :: _,[],_,_,_,_,h,_=>by simp at h
 | p :: P,w :: vs,0,m,nd,h1,h2,hk=>by
  simp at h1 h2;subst h1;subst h2
  show bindC kindOf ((p,w) :: P.zip vs) m p=_
  unfold bindC
  rw [bindC_out fun v hv=>(List.nodup_cons.mp nd).1 (List.of_mem_zip hv).1,if_neg hk]
  simp
 | p :: P,w :: vs,i + 1,m,nd,h1,h2,hk=>by
  show bindC kindOf ((p,w) :: P.zip vs) m x=_
  unfold bindC
  exact bindC_get (i:=i) (List.nodup_cons.mp nd).2 (by simpa using h1) (by simpa using h2) hk
def start (N:List Str) (vs:List V):St:=vs.map some ++ List.replicate (N.length - vs.length) none
def cxOf (CX:CXT) (P:Program) (w:World) (K:PySem.W.Frag) (mg:Str→Option Value) (base:Heap) (N:List Str) (qual:Str) (scope:Scope) (f:Addr) (cd:Value) (A:Around) (outer:List Env) (s:Shared) (H:Hp) (E:XK):Cx where
 prog:=P
 w:=w
 K:=K
 mg:=mg
 base:=base
 A:=A.deeper (envOfC qual scope s.heap.objs.size f cd)
 N:=N
 s₀:=s
 H₀:=H
 env:=envOfC qual scope s.heap.objs.size f cd
 outer:=outer
 stack:=envOfC qual scope s.heap.objs.size f cd :: outer
 ex:=[]
 calm:=true
 fn:=fun _=>true
 pn:=[]
 xe:=fun e s'=>wpAny (model P w) (A.deeper (envOfC qual scope s.heap.objs.size f cd)) (leaving (envOfC qual scope s.heap.objs.size f cd) e) (fun _ s''=>CX outer H s E e s'') (fun e' s''=>CX outer H s E e' s'') s'
theorem cell_has {sc:Scope} {n:Nat} {x:Str} (h:sc.names.lookup x=some .cell):∃ c,(cellsFrom n sc.names []).lookup x=some c:=by
 have q:=PySem.W.cellsFrom_some sc.names n [] (.inl h)
 exact Option.isSome_iff_exists.mp q
theorem inv_start {CX:CXT} {P:Program} {w:World} {K:PySem.W.Frag} {mg:Str→Option Value} {base:Heap} {N ps:List Str} {qual:Str} {scope:Scope} {f:Addr} {cd:Value} {A:Around} {outer:List Env} {s s1:Shared} {H:Hp} {E:XK} {us:List Value} {vs:List V}
  (S:FnScope N ps scope) (hd:A.handled=none) (e0:Env0 P w K mg base A outer s H) (hl:vs.length=ps.length) (r:Vals vs us)
  (x:InCallC s s.heap.objs.size (bindL (envOfC qual scope s.heap.objs.size f cd).kindOf (ps.zip us) fun _=>none) (cellsFrom (s.heap.objs.size + 1) scope.names []) (bindC (envOfC qual scope s.heap.objs.size f cd).kindOf (ps.zip us) fun _=>none) s1) :
  Inv (cxOf CX P w K mg base N qual scope f cd A outer s H E) [] (start N vs) H s1:=by
 have hpl:ps.length≤N.length:=by have:=congrArg List.length S.pre;rw [List.length_take] at this;omega
 obtain ⟨h1,tk,rfl,hk⟩:=x.done
 have noA:∀ b:Addr,b∉(cxOf CX P w K mg base N qual scope f cd A outer s H E).ex:=fun b z=>absurd (show b∈([]:List Addr) from z) (by simp)
 refine ⟨⟨e0.mod,S.kind,rfl,rfl,Nat.le_refl _,fun y z c h1 h2=>?_,fun y hy=>?_,fun y c _ h=>?_,fun _=>hd,Around.frames_deeper e0.frames,.inr ⟨rfl,rfl⟩,fun b z=>absurd z (noA b),e0.bs,e0.bsz,fun b _ _=>noA b,fun b z=>absurd z (noA b),e0.funs,e0.frf⟩,
  rfl,e0.bare,Un.kept hk,⟨_,x.toInCall.ns,fun i y v h1 h2 h3=>?_⟩,fun y c h=>⟨_,x.cell y c h⟩,e0.hok.fresh (Nat.le_refl _),fun y c h=>?_,fun p hp=>absurd (show p∈([]:List (Addr × Obj)) from hp) (by simp),e0.hok.kept hk,?_⟩
 ·exact name_of_addr x.apart (PySem.mem_of_lookup h1) (PySem.mem_of_lookup h2)
 ·have hy:scope.names.lookup y=some .cell∨scope.names.lookup y=some .free:=hy
  rcases hy with hy | hy
  ·exact cell_has hy
  ·exact absurd rfl (S.nofree _ (PySem.mem_of_lookup hy))
 ·exact Nat.le_of_lt (x.above y c (PySem.mem_of_lookup h))
 ·have hi:i < vs.length:=by
   unfold start at h2
   by_cases hi:i < vs.length
   ·exact hi
   ·rw [List.getElem?_append_right (by simpa using hi)] at h2
    rw [List.getElem?_replicate] at h2
    split at h2 <;> cases h2
  have ha:vs[i]?=some v:=by
   unfold start at h2
   rw [List.getElem?_append_left (by simpa using hi),List.getElem?_map] at h2
   cases e:vs[i]? with
   | none=>rw [e] at h2;cases h2
   | some a=>rw [e] at h2;cases h2;rfl
  obtain ⟨u,hu,rv⟩:=r.get ha
  have hp:ps[i]?=some y:=by
   rw [← S.pre,List.getElem?_take_of_lt (by omega)];exact h1
  have ndP:ps.Nodup:=by rw [← S.pre];exact S.nd.sublist (List.take_sublist _ _)
  refine ⟨u,rv,?_⟩
  rcases S.par y (List.mem_of_getElem? hp) with k | k
  ·exact .inl ⟨k,bindL_get ndP hp hu k⟩
  ·obtain ⟨c,e⟩:=cell_has (n:=s.heap.objs.size + 1) k
   refine .inr ⟨.inl k,c,e,?_⟩
   have q:=x.cell y c e
   rw [bindC_get ndP hp hu (by show scope.names.lookup y≠_;rw [k];decide)] at q
   exact q
 ·exact e0.hok.fresh (Nat.le_of_lt (x.above y c (PySem.mem_of_lookup h)))
 ·unfold start
  show _=N.length
  rw [List.length_append,List.length_map,List.length_replicate]
  omega
theorem fn_of {CX:CXT} {P:Program} {w:World} {K:PySem.W.Frag} {mg:Str→Option Value} {base:Heap} {k:Nat} {f:Addr} {name qual:Str} {params:Arguments} {body:List Stmt} {scope:Scope} {dV kV doc pm cdv ct oc:Value} {an od:Option Addr}
  {osl:Array (Option Value)} {N ps:List Str} {sp:Sp} (lk:K.lookup f=some ⟨oc,od,.func (PySem.W.fnOf name qual params body scope dV kV doc pm an cdv ct),osl⟩) (hcd:PySem.W.codeIn K cdv qual=true) (S:FnScope N ps scope)
  (len:∀ vs H Q E,sp vs H Q E→vs.length=ps.length)
  (hbody:∀ (A:Around) (outer:List Env) (s:Shared) (H:Hp) (vs:List V) (Q:VK) (E:XK),Room k (A.deeper (envOfC qual scope s.heap.objs.size f cdv))→sp vs H Q E→
   ∃ t,PSs (cxOf CX P w K mg base N qual scope f cdv A outer s H E) body t∧t { nx:=fun _ H'=>Q .non H',rt:=Q } (start N vs) H) :
  FnOk P w K mg base CX (k + 1) f (PySem.W.fnOf name qual params body scope dV kV doc pm an cdv ct) ps sp:=by
 refine ⟨len,fun A outer s H args us vs Q E hr e0 hb r hsp=>?_⟩
 have hl:=len _ _ _ _ hsp
 have KX:K.In s.heap:=e0.mod.kin.keeps fun b o e=>(e0.bs b o e).1
 have lim:s.heap.NoLimit:=e0.mod.nolimit.keeps fun b o e=>(e0.bs b o e).1
 have hkind:∀ y∈ps.zip us,scope.names.lookup y.1=some .local∨(scope.names.lookup y.1=some .cell∧((cellsFrom (s.heap.objs.size + 1) scope.names []).lookup y.1).isSome=true):=fun ⟨n,v⟩ hy=>by
  rcases S.par n (List.of_mem_zip hy).1 with q | q
  ·exact .inl q
  ·exact .inr ⟨q,PySem.W.cellsFrom_some _ _ _ (.inl q)⟩
 refine codeAny_call_function hr.depth (KX _ _ lk) rfl S.co S.gen rfl (PySem.W.codeRec_of KX hcd) (hb _ _ _ _ ?_)
 refine wpAny_newFunctionEnv_cells S.kind hkind fun env he s1 x=>?_
 subst he
 refine ⟨lim.keeps x.toInCall.keep,codeAny_func ?_⟩
 obtain ⟨t,ht,hq⟩:=hbody A outer s H vs Q E (hr.deeper _) hsp
 have I:Inv (cxOf CX P w K mg base N qual scope f cdv A outer s H E) [] (start N vs) H s1:=inv_start S hr.hd e0 hl r x
 refine wpAny_mono (ht [] s1 (start N vs) H _ I hq) (fun fl s' hs=>?_) fun e s' hs=>hs
 have fin:∀ {σ':St} {H':Hp} {v:V} {u:Value},Inv (cxOf CX P w K mg base N qual scope f cdv A outer s H E) [] σ' H' s'→RelV v u→Q v H'→CE outer P w H s Q u s':=
  fun {σ' H' v u} J rv q=>⟨v,H',J.os,J.bare,J.base,J.hok,rv,q⟩
 cases fl with
 | ret u=>
  obtain ⟨v,σ',H',J,rv,q⟩:=hs
  exact fin J rv q
 | next=>
  obtain ⟨σ',H',J,q⟩:=hs
  exact fin (v:=V.non) (u:=Value.none) J rfl q
 | brk=>
  obtain ⟨_,_,_,q⟩:=hs
  exact False.elim q
 | cont=>
  obtain ⟨_,_,_,q⟩:=hs
  exact False.elim q
end L2
namespace L2
open PySem PySem.Spec PyProof.Rows
section
variable {X:Cx} {x:Str} {p pos:Pos} {e:Expr} {es:List Expr} {t:TA} {id T:String} {r:List V→Hp→VK→Prop}
def tCB (r:List V→Hp→VK→Prop) (t:TA):TE:=fun σ H Q=>t σ H fun vs H1=>r vs H1 Q
theorem pe_callB (hc:CallR X (.builtin id) r) (hg:Gl X x) (hm:X.mg x=none) (hv:bootBuiltins x=some (.builtin id)) (ha:PA X (e :: es) t) (hn:x≠"__name__":=by decide) (hdb:(x == ("__debug__":Str))=false:=by decide)
  (he:starEach (e :: es) X.env=(false,eval e X.env) :: starEach es X.env:=by rfl) (hpl:(backTo pos (starEach es X.env)).any (·.1)=false:=by rfl):PE X (.Call (.Name x p) (e :: es) [] pos) (tCB r t):=by
 intro pins s σ H Q I h
 refine wpAny_Call_Name_kw (ld_blt I hg hm hv ?_ hn hdb)
 exact PyProof.Rows.callWith_builtin1 (thn (ha pos pins s σ H _ I h) fun us s1 ⟨vs,H1,I1,r1,q1⟩=>hc pins s1 σ H1 vs us Q I1 r1 q1) he hpl
theorem pe_callTy (hc:CallR X (.type T) r) (hg:Gl X x) (hm:X.mg x=none) (hv:bootBuiltins x=some (.type T)) (ha:PA X (e :: es) t) (hn:x≠"__name__":=by decide) (hdb:(x == ("__debug__":Str))=false:=by decide)
  (he:starEach (e :: es) X.env=(false,eval e X.env) :: starEach es X.env:=by rfl) (hpl:(backTo pos (starEach es X.env)).any (·.1)=false:=by rfl):PE X (.Call (.Name x p) (e :: es) [] pos) (tCB r t):=by
 intro pins s σ H Q I h
 refine wpAny_Call_Name_kw (ld_blt I hg hm hv ?_ hn hdb)
 exact PyProof.Rows.callWith_type1 (thn (ha pos pins s σ H _ I h) fun us s1 ⟨vs,H1,I1,r1,q1⟩=>hc pins s1 σ H1 vs us Q I1 r1 q1) he hpl
end
end L2
namespace HT
open PySem PyProof.Rows
section
open PySem.SeqAt
open PySem.AutoSeq1 (wpAny_loadPart')
open PySem.MeetsSeq PySem.MeetsSeq2 PySem.MeetsSeq3
end
section
variable {prog:Program} {w:World} {A:Around} {E:Value→Shared→Prop} {s:Shared}
def sIx (n d:Nat):Option Int→Nat
 | none=>d
 | some v=>if v < 0 then (v + (n:Int)).toNat else min v.toNat n
theorem sIx_none (n d:Nat):sIx n d none=d:=rfl
theorem sIx_nat (n d k:Nat):sIx n d (some (k:Int))=min k n:=by
 show (if (k:Int) < 0 then ((k:Int) + (n:Int)).toNat else min (k:Int).toNat n)=min k n
 rw [if_neg (by omega),Int.toNat_natCast]
theorem sIx_le (n d:Nat) (hd:d≤n) (o:Option Int):sIx n d o≤n:=by
 cases o with
 | none=>exact hd
 | some v=>
  show (if v < 0 then (v + (n:Int)).toNat else min v.toNat n)≤n
  by_cases hv:v < 0
  ·rw [if_pos hv];omega
  ·rw [if_neg hv];exact Nat.min_le_right _ _
theorem clip_eq (v:Int) (n d:Nat):(if v < 0 then max (v + (n:Int)) 0 else min v (n:Int))=((sIx n d (some v):Nat):Int):=by
 show (if v < 0 then max (v + (n:Int)) 0 else min v (n:Int))=(((if v < 0 then (v + (n:Int)).toNat else min v.toNat n):Nat):Int)
 by_cases hv:v < 0
 ·simp only [if_pos hv];omega
 ·simp only [if_neg hv];omega
end
end HT
namespace L2
open PySem PySem.Spec PyProof.Rows
abbrev TO:=St→Hp→(Option Int→Hp→Prop)→Prop
def PO (X:Cx) (e:Option Expr) (t:TO):Prop:=
 ∀ (pins:List (Addr × Obj)) (s:Shared) (σ:St) (H:Hp) (Q:Option Int→Hp→Prop),Inv X pins σ H s→t σ H Q→
  wpAny (model X.prog X.w) X.A (evalPart e X.env) (fun u s'=>∃ o H',Inv X pins σ H' s'∧IsPart u o∧Q o H') X.xe s
def tNoPart:TO:=fun _ H Q=>Q none H
def tPart (t:TE):TO:=fun σ H Q=>t σ H fun x H1=>∃ i,x=.int i∧Q (some i) H1
section
variable {X:Cx} {e:Expr} {te:TE} {lo hi:Option Expr} {tl th:TO} {pos p2:Pos}
theorem po_none:PO X none tNoPart:=by
 intro pins s σ H Q I h
 rw [evalPart_none]
 exact wpAny_pure ⟨none,H,I,.none,h⟩
theorem po_some (h:PE X e te):PO X (some e) (tPart te):=by
 intro pins s σ H Q I hw
 rw [evalPart_some]
 refine thn (h pins s σ H _ I hw) fun u s1 ⟨x,H1,I1,r1,q1⟩=>?_
 obtain ⟨i,rfl,q⟩:=q1
 obtain ⟨t,rfl⟩:=r1
 exact ⟨some i,H1,I1,.int i t,q⟩
def SlR (X:Cx) (r:V→Option Int→Option Int→Hp→VK→Prop):Prop:=
 ∀ (pins:List (Addr × Obj)) (s:Shared) (σ:St) (H:Hp) (x:V) (v vl vu:Value) (lo hi:Option Int) (sl:Addr) (Q:VK),Inv X pins σ H s→RelV x v→s.heap.IsSliceOf sl vl vu .none→IsPart vl lo→IsPart vu hi→r x lo hi H Q→
  ∃ T id,typeLookup (.type T) "__getitem__"=pure (some (.builtin id))∧s.TypeIs v T∧wpAny (model X.prog X.w) X.A (getItem v (.ref sl)) (EP X pins σ Q) X.xe s
def tSl (r:V→Option Int→Option Int→Hp→VK→Prop) (te:TE) (tl th:TO):TE:=fun σ H Q=>te σ H fun x H1=>tl σ H1 fun l H2=>th σ H2 fun u H3=>r x l u H3 Q
theorem pe_slice {r:V→Option Int→Option Int→Hp→VK→Prop} (hr:SlR X r) (he:PE X e te) (hl:PO X lo tl) (hu:PO X hi th):PE X (.Subscript e (.Slice lo hi none p2) pos) (tSl r te tl th):=by
 intro pins s σ H Q I h
 refine Subscript_ (thn (he pins s σ H _ I h) fun v s1 ⟨x,H1,I1,r1,q1⟩=>?_)
 refine wpAny_Slice (thn (hl pins s1 σ H1 _ I1 q1) fun vl s2 ⟨l,H2,I2,pl,q2⟩=>thn (hu pins s2 σ H2 _ I2 q2) fun vu s3 ⟨u,H3,I3,pu,q3⟩=>?_)
 rw [evalPart_none]
 refine wpAny_pure ?_
 have I4:Inv X pins σ H3 { s3 with heap:=s3.heap.push { cls:=.type "slice",data:=.fields #[vl,vu,.none] } }:=I3.kept (t':=s3.toks) fun b ob q=>Heap.get?_push_of_some _ q
 obtain ⟨T,id,hT,ht,hg⟩:=hr pins { s3 with heap:=s3.heap.push { cls:=.type "slice",data:=.fields #[vl,vu,.none] } } σ H3 x v vl vu l u s3.heap.objs.size Q I4 r1 (Heap.IsSliceOf.new ..) pl pu q3
 show wpAny (model X.prog X.w) X.A (subscriptTail e (.Slice lo hi none p2) v (.ref s3.heap.objs.size)) (EP X pins σ Q) X.xe { s3 with heap:=s3.heap.push { cls:=.type "slice",data:=.fields #[vl,vu,.none] } }
 exact tail_any (ops:=[.ref s3.heap.objs.size,v]) ht hT hg (by with_unfolding_all rfl)
def cutV (xs:List V) (lo hi:Option Int):List V:=(xs.drop (HT.sIx xs.length 0 lo)).take (HT.sIx xs.length xs.length hi - HT.sIx xs.length 0 lo)
theorem cutV_length (xs:List V) (lo hi:Option Int):(cutV xs lo hi).length≤xs.length:=by
 unfold cutV
 rw [List.length_take,List.length_drop]
 omega
end
end L2
namespace L2
open PySem PySem.Spec PyProof.Rows
def ixN (n:Nat) (i:Int):Option Nat:=if 0≤i then (if i < n then some i.toNat else none) else if -(n:Int)≤i then some (i + n).toNat else none
def atI {α:Type} (xs:List α) (i:Int):Option α:=(ixN xs.length i).bind fun j=>xs[j]?
theorem ixN_seq {n:Nat} {i:Int} {j:Nat} (h:ixN n i=some j):seqIndex? i n=some j∧j < n∧-(n:Int)≤i∧i < n:=by
 unfold ixN at h
 by_cases h0:0≤i
 ·rw [if_pos h0] at h
  by_cases h1:i < n
  ·rw [if_pos h1] at h
   have e:i.toNat=j:=Option.some.inj h
   exact ⟨by rw [seqIndex_of h0 h1,e],by omega,by omega,h1⟩
  ·rw [if_neg h1] at h;cases h
 ·rw [if_neg h0] at h
  by_cases h1:-(n:Int)≤i
  ·rw [if_pos h1] at h
   have e:(i + n).toNat=j:=Option.some.inj h
   exact ⟨by rw [seqIndex_neg (by omega) h1,e],by omega,h1,by omega⟩
  ·rw [if_neg h1] at h;cases h
theorem atI_get {α:Type} {xs:List α} {i:Int} {v:α} (h:atI xs i=some v):∃ j,seqIndex? i xs.length=some j∧xs[j]?=some v∧j < xs.length∧-(xs.length:Int)≤i∧i < xs.length:=by
 unfold atI at h
 cases e:ixN xs.length i with
 | none=>rw [e] at h;cases h
 | some j=>
  rw [e] at h
  obtain ⟨h1,h2,h3,h4⟩:=ixN_seq e
  exact ⟨j,h1,h,h2,h3,h4⟩
theorem atI_nat {α:Type} {xs:List α} {j:Nat} {v:α} (h:xs[j]?=some v):atI xs (j:Int)=some v:=by
 have hj:j < xs.length:=(List.getElem?_eq_some_iff.mp h).1
 have e:ixN xs.length (j:Int)=some j:=by
  unfold ixN
  rw [if_pos (by omega),if_pos (by omega)];simp
 unfold atI;rw [e];exact h
def PlainIx (b:Expr):Prop:=∀ o i,subscripted b false o i=operate [o,i] (getItem o i)
def IxR (X:Cx) (r:R2):Prop:=
 ∀ (value slice:Expr) (pins:List (Addr × Obj)) (s:Shared) (σ:St) (H:Hp) (x y:V) (v u:Value) (Q:VK),Inv X pins σ H s→RelV x v→RelV y u→r x y H Q→
  subscripted slice false v u=operate [v,u] (getItem v u)→wpAny (model X.prog X.w) X.A (subscriptTail value slice v u) (EP X pins σ Q) X.xe s
def MtR (X:Cx) (id:String) (r:V→List V→Hp→VK→Prop):Prop:=
 ∀ (pins:List (Addr × Obj)) (s:Shared) (σ:St) (H:Hp) (x:V) (xs:List V) (v:Value) (us:List Value) (Q:VK),Inv X pins σ H s→RelV x v→Vals xs us→r x xs H Q→
  wpAny (model X.prog X.w) X.A (call (.builtin id) (v :: us)) (EP X pins σ Q) X.xe s
section
variable {X:Cx} {a b:Expr} {ta tb:TE} {pos:Pos}
theorem pe_ix {r:R2} (hr:IxR X r) (ha:PE X a ta) (hb:PE X b tb) (hs:PlainIx b):PE X (.Subscript a b pos) (tOp r ta tb):=by
 intro pins s σ H Q I h
 exact Subscript_ (binT ha hb I h fun v u s2 x y H2 I2 rx ry q=>hr a b pins s2 σ H2 x y v u Q I2 rx ry q (hs _ _))
def rIxL (K:PySem.W.Frag):R2:=fun x y H Q=>∃ p xs i v,x=.ref p∧y=.int i∧SqL K H p xs∧atI xs i=some v∧Q v H
def rIxT (K:PySem.W.Frag):R2:=fun x y H Q=>∃ p xs i v,x=.ref p∧y=.int i∧SqT K H p xs∧atI xs i=some v∧Q v H
def rIxS:R2:=fun x y H Q=>∃ z i c,x=.str z∧y=.int i∧z.length≤sizeLine∧atI z.cps.toList i=some c∧Q (.str ⟨#[c]⟩) H
theorem ix_list:IxR X (rIxL X.K):=by
 intro value slice pins s σ H x y v u Q I rx ry h hs
 obtain ⟨p,xs,i,z,rfl,rfl,hq,he,q⟩:=h
 cases rx
 obtain ⟨t,rfl⟩:=ry
 obtain ⟨its,r,pl,hz⟩:=I.list hq
 obtain ⟨j,h1,h2,h3,h4,h5⟩:=atI_get he
 obtain ⟨w,ew,rw'⟩:=r.get h2
 have hl:=r.length
 have hn:=line63
 have fin:EP X pins σ Q w s:=⟨z,H,I,rw',q⟩
 by_cases h0:0≤i
 ·have hj:i.toNat=j:=by
   rw [seqIndex_of h0 h5] at h1
   exact Option.some.inj h1
  exact item_listR pl.isList h0 (by omega) (by rw [hj];simpa using ew) fin hs
 ·have hj:(i + (its.toArray.size:Int)).toNat=j:=by
   rw [seqIndex_neg (by omega) h4] at h1
   rw [List.size_toArray,← hl]
   exact Option.some.inj h1
  exact subscriptTail_builtinR (x:=w) pl.isList.typeIs slot_list_getitem.lookup
   (wpAny_getItem_list_neg (Q:=fun r s'=>r=w∧EP X pins σ Q r s') pl.isList (by omega) (by rw [List.size_toArray] <;> omega) (by omega) (by rw [hj];simpa using ew) ⟨rfl,fin⟩) hs
theorem ix_tup:IxR X (rIxT X.K):=by
 intro value slice pins s σ H x y v u Q I rx ry h hs
 obtain ⟨p,xs,i,z,rfl,rfl,hq,he,q⟩:=h
 cases rx
 obtain ⟨t,rfl⟩:=ry
 obtain ⟨its,r,pl,hz⟩:=I.tuple hq
 obtain ⟨j,h1,h2,h3,h4,h5⟩:=atI_get he
 obtain ⟨w,ew,rw'⟩:=r.get h2
 have hl:=r.length
 have hn:=line63
 have fin:EP X pins σ Q w s:=⟨z,H,I,rw',q⟩
 exact subscriptTail_builtinR (x:=w) pl.typeIs slot_tuple_getitem.lookup
  (getItem_tuple (j:=j) (Q:=fun r s'=>r=w∧EP X pins σ Q r s') pl (by omega) (by omega) (by rw [List.size_toArray,← hl];exact h1) (by simpa using ew) ⟨rfl,fin⟩) hs
theorem ix_str:IxR X rIxS:=by
 intro value slice pins s σ H x y v u Q I rx ry h hs
 obtain ⟨z,i,c,rfl,rfl,hz,he,q⟩:=h
 obtain ⟨t,rfl⟩:=rx
 obtain ⟨t',rfl⟩:=ry
 obtain ⟨j,h1,h2,h3,h4,h5⟩:=atI_get he
 have hl:z.cps.toList.length=z.length:=by simp [Str.length]
 rw [hl] at h1 h4 h5
 have hn:=line63
 exact tail_any (typeIs_str s z t) slot_str_getitem.lookup (getItem_str (c:=c) (by
  have e1:decide (i < -(2 ^ 63:Int))=false:=decide_eq_false (by omega)
  have e2:decide (i≥2 ^ 63)=false:=decide_eq_false (by omega)
  rw [e1,e2,Bool.or_false]) (by rw [h1];simpa using h2) ⟨.str ⟨#[c]⟩,H,I.tok _,⟨_,rfl⟩,q⟩) hs
theorem mapSeq_set (its:List Value) (n j:Nat) (u:Value):Obj.mapSeq (·.setIfInBounds j u) { cls:=.type "list",data:=.seq its.toArray n }={ cls:=.type "list",data:=.seq (its.set j u).toArray n }:=by
 simp [Obj.mapSeq]
theorem Inv.lst {pins:List (Addr × Obj)} {σ:St} {H:Hp} {s:Shared} {p:Addr} {xs:List V} (I:Inv X pins σ H s) (h:H p=some (.lst xs)) :
  ∃ (its:List Value) (n:Nat),Vals xs its∧s.heap.get? p=some { cls:=.type "list",data:=.seq its.toArray n }∧xs.length≤sizeLine:=by
 obtain ⟨z,its,n,r,e⟩:=I.hok p _ h
 exact ⟨its,n,r,e,z⟩
theorem Inv.lstUpd {pins:List (Addr × Obj)} {σ:St} {H:Hp} {s:Shared} {p:Addr} {xs ys:List V} {its its':List Value} {n n':Nat} {f:Obj→Obj} (I:Inv X pins σ H s) (h:H p=some (.lst xs))
  (ho:s.heap.get? p=some { cls:=.type "list",data:=.seq its.toArray n }) (hf:f { cls:=.type "list",data:=.seq its.toArray n }={ cls:=.type "list",data:=.seq its'.toArray n' }) (r:Vals ys its') (hz:ys.length≤sizeLine) (t:Nat) :
  Inv X pins σ (upd H p (.lst ys)) { s with heap:=s.heap.update p f,toks:=t }:=by
 have e:(s.heap.update p f).get? p=some { cls:=.type "list",data:=.seq its'.toArray n' }:=by
  rw [Heap.get?_update_self f ho (by rw [hf] <;> rfl),hf]
 refine I.write (x:=p) (e:=p) (by rw [h];trivial) (.inl rfl) (fun b u hb q=>(Heap.get?_update_other _ _ (Ne.symm hb)).trans q) ⟨_,e⟩ ?_
 exact ⟨hz,its',n',r,e⟩
def rSetL:V→V→V→Hp→(Hp→Prop)→Prop:=fun o i v H Q=>∃ p xs k j,o=.ref p∧i=.int k∧H p=some (.lst xs)∧ixN xs.length k=some j∧Q (upd H p (.lst (xs.set j v)))
theorem set_list:PSet X rSetL:=by
 intro pins s σ H o i v ov iv u Q I ro ri rv h
 obtain ⟨p,xs,k,j,rfl,rfl,hp,hj,q⟩:=h
 cases ro
 obtain ⟨t,rfl⟩:=ri
 obtain ⟨its,n,r,ho,hz⟩:=I.lst hp
 obtain ⟨h1,h2,h3,h4⟩:=ixN_seq hj
 have hl:=r.length
 have hn:=line63
 have I':Inv X pins σ (upd H p (.lst (xs.set j v))) { s with heap:=s.heap.update p (Obj.mapSeq (·.setIfInBounds j u)) }:=
  I.lstUpd hp ho (mapSeq_set its n j u) (r.set rv j) (by rw [List.length_set];exact hz) s.toks
 by_cases h0:0≤k
 ·have hk:k.toNat=j:=by
   rw [seqIndex_of h0 h4] at h1
   exact Option.some.inj h1
  exact PySem.W.ki_setAt ho h0 (by omega) (by rw [List.size_toArray,← hl];exact h4) (by rw [hk];exact ⟨_,I',q⟩)
 ·have hk:(k + (its.toArray.size:Int)).toNat=j:=by
   rw [seqIndex_neg (by omega) h3] at h1
   rw [List.size_toArray,← hl]
   exact Option.some.inj h1
  exact PySem.W.ki_setBack ho (by omega) (by rw [List.size_toArray,← hl];exact h3) (by omega) (by rw [hk];exact ⟨_,I',q⟩)
theorem slice_bounds (lo hi:Option Int) (n:Nat):(sliceBounds lo hi none n).1=((HT.sIx n 0 lo:Nat):Int)∧(sliceBounds lo hi none n).2.1=((HT.sIx n n hi:Nat):Int)∧(sliceBounds lo hi none n).2.2=1:=by
 refine ⟨?_,?_,rfl⟩
 ·cases lo with
  | none=>simp [sliceBounds,HT.sIx]
  | some i=>
   simp only [sliceBounds,HT.sIx,Option.getD_none,show (1:Int) > 0 by decide,if_true]
   by_cases h:i < 0
   ·simp only [h,if_true] <;> omega
   ·simp only [h,if_false] <;> omega
 ·cases hi with
  | none=>simp [sliceBounds,HT.sIx]
  | some i=>
   simp only [sliceBounds,HT.sIx,Option.getD_none,show (1:Int) > 0 by decide,if_true]
   by_cases h:i < 0
   ·simp only [h,if_true] <;> omega
   ·simp only [h,if_false] <;> omega
theorem slicePick_cut (its:List Value) (lo hi:Option Int):slicePick its.toArray lo hi none=((its.drop (HT.sIx its.length 0 lo)).take (HT.sIx its.length its.length hi - HT.sIx its.length 0 lo)).toArray:=by
 obtain ⟨h1,h2,h3⟩:=slice_bounds lo hi its.toArray.size
 unfold slicePick
 rw [h1,h2,h3]
 simp only [sliceRange_one,pick_run,List.size_toArray] <;> rfl
def rSlL (K:PySem.W.Frag):V→Option Int→Option Int→Hp→VK→Prop:=fun x lo hi H Q=>∃ a xs,x=.ref a∧SqL K H a xs∧∀ p,H p=none→Q (.ref p) (upd H p (.lst (cutV xs lo hi)))
theorem sl_list:SlR X (rSlL X.K):=by
 intro pins s σ H x v vl vu lo hi sl Q I rx hs pl pu h
 obtain ⟨a,xs,rfl,hx,q⟩:=h
 cases rx
 obtain ⟨its,r,ht,hz⟩:=I.list hx
 have hlen:=r.length
 refine ⟨"list",_,slot_list_getitem.lookup,ht.isList.typeIs,?_⟩
 refine wpAny_getItem_list_slice ht.isList hs pl pu .none (by simp) ?_ (by rw [List.size_toArray] <;> omega)
 rw [slicePick_cut,← hlen]
 refine ⟨.ref s.heap.objs.size,_,I.laid (t':=s.toks) (o:=.lst (cutV xs lo hi)) (fun b ob q=>Heap.get?_push_of_some _ q) (Nat.le_refl _) ?_,rfl,q _ (I.hok.fresh (Nat.le_refl _))⟩
 exact ⟨Nat.le_trans (cutV_length xs lo hi) hz,_,0,(r.drop (HT.sIx xs.length 0 lo)).take (HT.sIx xs.length xs.length hi - HT.sIx xs.length 0 lo),Heap.get?_push_size _ rfl⟩
def flatV:V→Bool
 | .non=>true
 | .bl _=>true
 | .int _=>true
 | .str _=>true
 | _=>false
def eqV:V→V→Bool
 | .non,.non=>true
 | .bl a,.bl b=>a == b
 | .bl a,.int b=>(if a then 1 else 0) == b
 | .int a,.bl b=>a == (if b then 1 else 0)
 | .int a,.int b=>a == b
 | .str a,.str b=>a == b
 | _,_=>false
theorem eqAt_V {A:Around} {s:Shared} {y x:V} {u v:Value} (ry:RelV y u) (rx:RelV x v) (fy:flatV y=true) (fx:flatV x=true):SeqAt.EqAt A s u v (eqV y x):=by
 cases y with
 | non=>
  cases ry
  cases x with
  | non=>cases rx;exact SeqAt.EqAt.same _
  | bl b=>cases rx;exact SeqAt.EqAt.none_bool b
  | int b=>obtain ⟨t,rfl⟩:=rx;exact SeqAt.EqAt.none_int b t
  | str b=>obtain ⟨t,rfl⟩:=rx;exact SeqAt.EqAt.none_str b t
  | _=>exact absurd (show false=true from fx) Bool.false_ne_true
 | bl a=>
  cases ry
  cases x with
  | non=>cases rx;exact SeqAt.EqAt.bool_none a
  | bl b=>cases rx;exact SeqAt.EqAt.bool_bool a b
  | int b=>obtain ⟨t,rfl⟩:=rx;exact SeqAt.EqAt.bool_int a b t
  | str b=>obtain ⟨t,rfl⟩:=rx;exact SeqAt.EqAt.bool_str a b t
  | _=>exact absurd (show false=true from fx) Bool.false_ne_true
 | int a=>
  obtain ⟨t',rfl⟩:=ry
  cases x with
  | non=>cases rx;exact SeqAt.EqAt.int_none a t'
  | bl b=>cases rx;exact SeqAt.EqAt.int_bool a t' b
  | int b=>obtain ⟨t,rfl⟩:=rx;exact SeqAt.EqAt.int_int a t' b t
  | str b=>obtain ⟨t,rfl⟩:=rx;exact SeqAt.EqAt.int_str a t' b t
  | _=>exact absurd (show false=true from fx) Bool.false_ne_true
 | str a=>
  obtain ⟨t',rfl⟩:=ry
  cases x with
  | non=>cases rx;exact SeqAt.EqAt.str_none a t'
  | bl b=>cases rx;exact SeqAt.EqAt.str_bool a t' b
  | int b=>obtain ⟨t,rfl⟩:=rx;exact SeqAt.EqAt.str_int a t' b t
  | str b=>obtain ⟨t,rfl⟩:=rx;exact SeqAt.EqAt.str_str a t' b t
  | _=>exact absurd (show false=true from fx) Bool.false_ne_true
 | _=>exact absurd (show false=true from fy) Bool.false_ne_true
def eqU (x:V) (u:Value):Bool:=match u with
 | .none=>eqV .non x
 | .bool b=>eqV (.bl b) x
 | .int i _=>eqV (.int i) x
 | .str z _=>eqV (.str z) x
 | _=>false
theorem eqU_of {x y:V} {u:Value} (r:RelV y u) (f:flatV y=true):eqU x u=eqV y x:=by
 cases y with
 | non=>cases r;rfl
 | bl b=>cases r;rfl
 | int i=>obtain ⟨t,rfl⟩:=r;rfl
 | str z=>obtain ⟨t,rfl⟩:=r;rfl
 | _=>exact absurd (show false=true from f) Bool.false_ne_true
theorem any_eqU {x:V}:∀ {xs:List V} {us:List Value},Vals xs us→xs.all flatV=true→us.any (eqU x)=xs.any fun y=>eqV y x
 | _,_,.nil,_=>rfl
 | y :: xs,u :: us,.cons r t,f=>by
  rw [List.all_cons,Bool.and_eq_true] at f
  rw [List.any_cons,List.any_cons,eqU_of r f.1,any_eqU t f.2]
theorem mem_eqAt {A:Around} {s:Shared} {x:V} {v:Value} (rx:RelV x v) (fx:flatV x=true):∀ {xs:List V} {us:List Value},Vals xs us→xs.all flatV=true→∀ u∈us,SeqAt.EqAt A s u v (eqU x u)
 | _,_,.nil,_=>fun u hu=>by cases hu
 | y :: xs,u :: us,.cons r t,f=>fun u' hu=>by
  rw [List.all_cons,Bool.and_eq_true] at f
  rcases List.mem_cons.mp hu with rfl | hu
  ·rw [eqU_of r f.1];exact eqAt_V r rx f.1 fx
  ·exact mem_eqAt rx fx t f.2 u' hu
def inV (x:V) (xs:List V):Bool:=xs.any fun y=>eqV y x
def rIn (K:PySem.W.Frag) (neg:Bool):R2:=fun x y H Q=>∃ p xs,y=.ref p∧(SqL K H p xs∨SqT K H p xs)∧flatV x=true∧xs.all flatV=true∧Q (.bl (if neg then !inV x xs else inV x xs)) H
theorem op_in_seq:OpR X (compareOp .In) (rIn X.K false):=by
 intro pins s σ H x y v u Q I rx ry h
 obtain ⟨p,xs,rfl,hq,fx,fs,q⟩:=h
 cases ry
 rcases hq with hq | hq
 ·obtain ⟨its,r,pl,hz⟩:=I.list hq
  refine SeqAt.in_listAt (eqU x) pl.isList (fun w hw=>mem_eqAt rx fx r fs w (by simpa using hw)) ⟨.bl _,H,I,rfl,?_⟩
  rw [show its.toArray.any (eqU x)=its.any (eqU x) by simp,any_eqU r fs]
  exact q
 ·obtain ⟨its,r,pl,hz⟩:=I.tuple hq
  refine SeqAt.in_tupleAt (eqU x) pl (fun w hw=>mem_eqAt rx fx r fs w (by simpa using hw)) ⟨.bl _,H,I,rfl,?_⟩
  rw [show its.toArray.any (eqU x)=its.any (eqU x) by simp,any_eqU r fs]
  exact q
theorem op_notIn_seq:OpR X (compareOp .NotIn) (rIn X.K true):=by
 intro pins s σ H x y v u Q I rx ry h
 obtain ⟨p,xs,rfl,hq,fx,fs,q⟩:=h
 cases ry
 rcases hq with hq | hq
 ·obtain ⟨its,r,pl,hz⟩:=I.list hq
  refine SeqAt.notIn_listAt (eqU x) pl.isList (fun w hw=>mem_eqAt rx fx r fs w (by simpa using hw)) ⟨.bl _,H,I,rfl,?_⟩
  rw [show its.toArray.any (eqU x)=its.any (eqU x) by simp,any_eqU r fs]
  exact q
 ·obtain ⟨its,r,pl,hz⟩:=I.tuple hq
  refine SeqAt.notIn_tupleAt (eqU x) pl (fun w hw=>mem_eqAt rx fx r fs w (by simpa using hw)) ⟨.bl _,H,I,rfl,?_⟩
  rw [show its.toArray.any (eqU x)=its.any (eqU x) by simp,any_eqU r fs]
  exact q
theorem call_len_seq:CallR X (.builtin "len") (fun xs H Q=>∃ p ys,xs=[.ref p]∧(SqL X.K H p ys∨SqT X.K H p ys)∧Q (.int ys.length) H):=by
 intro pins s σ H xs us Q I r h
 obtain ⟨p,ys,rfl,hq,q⟩:=h
 obtain ⟨u,rfl,rx⟩:=vals1 r
 cases rx
 have hn:=line63
 rcases hq with hq | hq
 ·obtain ⟨its,r',pl,hz⟩:=I.list hq
  have hlen:=r'.length
  exact Calls.call_len_list pl.isList (by simp only [List.size_toArray] <;> omega) ⟨.int ys.length,H,I.tok _,⟨s.toks + 1,by rw [List.size_toArray,hlen]⟩,q⟩
 ·obtain ⟨its,r',pl,hz⟩:=I.tuple hq
  have hlen:=r'.length
  exact len_tuple pl (by simp only [List.size_toArray] <;> omega) ⟨.int ys.length,H,I.tok _,⟨s.toks + 1,by rw [List.size_toArray,hlen]⟩,q⟩
theorem call_len_str:CallR X (.builtin "len") (fun xs H Q=>∃ z,xs=[.str z]∧z.length≤sizeLine∧Q (.int z.length) H):=by
 intro pins s σ H xs us Q I r h
 obtain ⟨z,rfl,hz,q⟩:=h
 obtain ⟨u,rfl,t,rfl⟩:=vals1 r
 have hn:=line63
 exact len_str (by omega) ⟨.int z.length,H,I.tok _,⟨_,rfl⟩,q⟩
theorem call_tuple_of:CallR X (.type "tuple") (fun xs H Q=>∃ p ys,xs=[.ref p]∧((SqL X.K H p ys∧∀ l,H l=none→Q (.ref l) (upd H l (.tup ys)))∨(SqT X.K H p ys∧Q (.ref p) H))):=by
 intro pins s σ H xs us Q I r h
 obtain ⟨p,ys,rfl,h⟩:=h
 obtain ⟨u,rfl,rx⟩:=vals1 r
 cases rx
 rcases h with ⟨hq,q⟩ | ⟨hq,q⟩
 ·obtain ⟨its,r',pl,hz⟩:=I.list hq
  have hlen:=r'.length
  refine call_tuple_list pl.isList (fun h' kp=>?_) (by simp only [List.size_toArray] <;> omega)
  have I1:Inv X pins σ H { s with heap:=h' }:=I.kept (t':=s.toks) kp
  have I2:Inv X pins σ (upd H h'.objs.size (.tup ys)) { s with heap:=h'.push { cls:=.type "tuple",data:=.seq its.toArray } }:=
   I1.laid (t':=s.toks) (fun b o e=>Heap.get?_push_of_some _ e) (Nat.le_refl _) (show ObjOk X.prog X.w _ _ _ (.tup ys) from ⟨hz,its,r',IsTup.new _ _⟩)
  exact ⟨.ref h'.objs.size,_,I2,rfl,q _ (I1.hok.fresh (Nat.le_refl _))⟩
 ·obtain ⟨its,r',pl,hz⟩:=I.tuple hq
  exact call_tuple_same pl ⟨.ref p,H,I,rfl,q⟩
def tyV (K:PySem.W.Frag) (T:String) (x:V) (H:Hp):Prop:=match x with
 | .str _=>T="str"
 | .int _=>T="int"
 | .ref p=>(T="list"∧∃ xs,SqL K H p xs)∨(T="tuple"∧∃ o,K.lookup p=some o∧o.cls=.type "tuple"∧o.dict=none)∨
   (T="dict"∧((∃ kvs,H p=some (.dK kvs))∨∃ kvs,H p=some (.dT kvs)))∨(T="set"∧∃ S n,H p=some (.set S n))
 | _=>False
theorem tyV_is {pins:List (Addr × Obj)} {σ:St} {H:Hp} {s:Shared} {T:String} {x:V} {v:Value} (I:Inv X pins σ H s) (r:RelV x v) (ty:tyV X.K T x H) :
  s.TypeIs v T∧∀ a,v=.ref a→∃ ob,s.heap.get? a=some ob∧ob.dict=none:=by
 cases x with
 | str z=>
  obtain ⟨t,rfl⟩:=r
  cases (show T="str" from ty)
  exact ⟨typeIs_str s z t,fun _ e=>nomatch e⟩
 | int i=>
  obtain ⟨t,rfl⟩:=r
  cases (show T="int" from ty)
  exact ⟨typeIs_int s i t,fun _ e=>nomatch e⟩
 | ref p=>
  cases r
  rcases ty with ⟨rfl,xs,hq⟩ | ⟨rfl,o,hk,hc,hd⟩ | ⟨rfl,hk⟩ | ⟨rfl,S,n,hk⟩
  ·obtain ⟨its,_,pl,_⟩:=I.list hq
   refine ⟨pl.isList.typeIs,fun a e=>?_⟩
   cases e
   obtain ⟨o,n,e,c,hd,_⟩:=pl
   exact ⟨o,e,hd⟩
  ·refine ⟨⟨o,I.kIn p o hk,hc⟩,fun a e=>?_⟩
   cases e
   exact ⟨o,I.kIn _ o hk,hd⟩
  ·have z:∃ o,s.heap.get? p=some o∧o.ExactDict:=by
    rcases hk with ⟨kvs,hk⟩ | ⟨kvs,hk⟩
    ·obtain ⟨_,_,_,_,o,_,_,e,ex,_⟩:=I.hok p _ hk
     exact ⟨o,e,ex⟩
    ·obtain ⟨_,_,_,_,o,_,_,e,ex,_⟩:=I.hok p _ hk
     exact ⟨o,e,ex⟩
   obtain ⟨o,e,ex⟩:=z
   refine ⟨⟨o,e,ex.1⟩,fun a e2=>?_⟩
   cases e2
   exact ⟨o,e,ex.2.1⟩
  ·obtain ⟨o,_,_,_,e,ex,_⟩:=I.hok p _ hk
   refine ⟨⟨o,e,ex.1⟩,fun a e2=>?_⟩
   cases e2
   exact ⟨o,e,ex.2.1⟩
 | _=>exact False.elim ty
def tBM0 (K:PySem.W.Frag) (T:String) (r:V→List V→Hp→VK→Prop) (to:TE):TE:=fun σ H Q=>to σ H fun x H1=>tyV K T x H1∧r x [] H1 Q
def tBM (K:PySem.W.Frag) (T:String) (r:V→List V→Hp→VK→Prop) (to:TE) (t:TA):TE:=fun σ H Q=>to σ H fun x H1=>tyV K T x H1∧t σ H1 fun xs H2=>r x xs H2 Q
variable {o e:Expr} {es:List Expr} {to:TE} {t:TA} {name:Str} {apos cpos:Pos} {T id:String} {r:V→List V→Hp→VK→Prop}
theorem pe_bm0 (pa:PlainAttrs T) (slot:Slot T name id) (hty:typeOf (.builtin id)=pure (.type "method_descriptor")) (hm:MtR X id r) (ho:PE X o to)
  (hbase:attributeBase o name X.env (eval o X.env)=eval o X.env:=by rfl) (hline:(apos.endLine == cpos.line)=true:=by rfl):PE X (.Call (.Attribute o name apos) [] [] cpos) (tBM0 X.K T r to):=by
 intro pins s σ H Q I h
 refine wpAny_Call_method0_late hbase hline (thn (ho pins s σ H _ I h) fun v s1 ⟨x,H1,I1,r1,ty,q1⟩=>?_)
 obtain ⟨h1,h2⟩:=tyV_is I1 r1 ty
 exact ⟨T,id,pa,slot,hty,h1,h2,Calls.callWith_builtin rfl (PySem.evalArgs_none (hm pins s1 σ H1 x [] v [] Q I1 r1 .nil q1))⟩
theorem pe_bm (pa:PlainAttrs T) (slot:Slot T name id) (hty:typeOf (.builtin id)=pure (.type "method_descriptor")) (hm:MtR X id r) (ho:PE X o to) (ha:PA X (e :: es) t)
  (hbase:attributeBase o name X.env (eval o X.env)=eval o X.env:=by rfl)
  (hfew:((backTo cpos (starEach (e :: es) X.env)).all (fun x=>!x.1) && (backToKw cpos (keywordEach [] X.env)).all (fun x=>x.1.isSome)
   && decide ((e :: es).length + ([]:List Keyword).length + (if ([]:List Keyword).isEmpty then 0 else 1) < 30))=true:=by rfl)
  (hline:(apos.endLine == cpos.line)=true:=by rfl) (hs:starEach (e :: es) X.env=(false,eval e X.env) :: starEach es X.env:=by rfl) (hplain:(backTo cpos (starEach es X.env)).any (·.1)=false:=by rfl) :
  PE X (.Call (.Attribute o name apos) (e :: es) [] cpos) (tBM X.K T r to t):=by
 intro pins s σ H Q I h
 refine wpAny_Call_method_late hbase hfew hline rfl (thn (ho pins s σ H _ I h) fun v s1 ⟨x,H1,I1,r1,ty,q1⟩=>?_)
 obtain ⟨h1,h2⟩:=tyV_is I1 r1 ty
 refine ⟨T,id,pa,slot,hty,h1,h2,?_⟩
 have hA:=ha cpos pins s1 σ H1 _ I1 q1
 rw [hs] at hA ⊢
 refine Calls.callWith_builtin (by show (false || (backTo cpos (starEach es X.env)).any (·.1))=false;rw [hplain] <;> rfl) (Calls.evalArgs_plain ?_)
 exact thn hA fun us s2 ⟨vs,H2,I2,r2,q2⟩=>hm pins s2 σ H2 x vs v us Q I2 r1 r2 q2
end
end L2
namespace L2
open PySem PySem.Spec PyProof.Rows
def MtM (X:Cx) (id:String) (r:V→List V→Hp→VK→Prop):Prop:=
 ∀ (pins:List (Addr × Obj)) (s:Shared) (σ:St) (H:Hp) (x:V) (xs:List V) (v:Value) (us:List Value) (Q:VK),Inv X pins σ H s→RelV x v→Vals xs us→r x xs H Q→
  wpAny (model X.prog X.w) X.A (call (.builtin id) (v :: us)) (EP X pins σ Q) X.xe s
theorem Vals.one:∀ {x:V} {us:List Value},Vals [x] us→∃ u,us=[u]∧RelV x u
 | _,_,.cons r .nil=>⟨_,rfl,r⟩
theorem Vals.zero:∀ {us:List Value},Vals [] us→us=[]
 | _,.nil=>rfl
theorem Vals.dropLast {xs:List V} {us:List Value} (h:Vals xs us):Vals xs.dropLast us.dropLast:=by
 induction h with
 | nil=>exact .nil
 | cons r t ih=>
  cases t with
  | nil=>exact .nil
  | cons q t'=>exact .cons r ih
theorem Vals.rep {xs:List V} {us:List Value} (h:Vals xs us):∀ k:Nat,Vals (List.replicate k xs).flatten (List.replicate k us).flatten
 | 0=>.nil
 | k + 1=>by
  rw [List.replicate_succ,List.replicate_succ,List.flatten_cons,List.flatten_cons]
  exact Vals.append h (Vals.rep h k)
theorem erase_last {α:Type} (l:List α):l.eraseIdx (l.length - 1)=l.dropLast:=by
 induction l with
 | nil=>rfl
 | cons a r ih=>
  cases r with
  | nil=>rfl
  | cons b r=>
   have e:(a :: b :: r).length - 1=((b :: r).length - 1) + 1:=by
    have h1:(a :: b :: r).length=r.length + 2:=rfl
    have h2:(b :: r).length=r.length + 1:=rfl
    omega
   rw [e,List.eraseIdx_cons_succ,ih]
   all_goals rfl
theorem foldl_rep (its:List Value):∀ (k:Nat) (acc:List Value),
  List.foldl (fun x1 x2=>x1 ++ x2) acc.toArray (List.replicate k its.toArray)=(acc ++ (List.replicate k its).flatten).toArray
 | 0,acc=>by simp
 | k + 1,acc=>by
  have e:acc.toArray ++ its.toArray=(acc ++ its).toArray:=by simp
  have e2:(acc ++ its) ++ (List.replicate k its).flatten=acc ++ (List.replicate (k + 1) its).flatten:=by
   rw [List.replicate_succ,List.flatten_cons,List.append_assoc]
  rw [← e2,← foldl_rep its k (acc ++ its),← e,List.replicate_succ,List.foldl_cons]
section
variable {X:Cx} {pins:List (Addr × Obj)} {σ:St} {H:Hp} {s:Shared} {l b:Addr} {xs ys zs:List V}
theorem Inv.lset {its its':List Value} {n:Nat} {f:Array Value→Array Value} {t':Nat} (I:Inv X pins σ H s) (hH:H l=some (.lst xs))
  (e:s.heap.get? l=some { cls:=.type "list",data:=.seq its.toArray n }) (hf:f its.toArray=its'.toArray) (hv:Vals ys its') (hz:ys.length≤sizeLine) :
  Inv X pins σ (upd H l (.lst ys)) { s with heap:=s.heap.update l (Obj.mapSeq f),toks:=t' }:=by
 have q:=PySem.IsL.update e f
 rw [hf] at q
 refine I.write (x:=l) (e:=l) (by rw [hH];exact trivial) (.inl rfl) (fun b' u hb hu=>(Heap.get?_update_other s.heap (Obj.mapSeq f) (Ne.symm hb)).trans hu) ⟨_,q⟩ ?_
 exact ⟨hz,its',_,hv,q⟩
theorem Inv.lnew {its:List Value} {t':Nat} (I:Inv X pins σ H s) (hv:Vals ys its) (hz:ys.length≤sizeLine) :
  Inv X pins σ (upd H s.heap.objs.size (.lst ys)) { s with heap:=s.heap.push { cls:=.type "list",data:=.seq its.toArray },toks:=t' }:=
 I.laid (fun _ _ q=>Heap.get?_push_of_some _ q) (Nat.le_refl _) ⟨hz,its,0,hv,Heap.get?_push_size _ rfl⟩
theorem Inv.fresh (I:Inv X pins σ H s):H s.heap.objs.size=none:=I.hok.fresh (Nat.le_refl _)
theorem Inv.lstM (I:Inv X pins σ H s) (hH:H l=some (.lst xs)):xs.length≤sizeLine∧∃ (its:List Value) (n:Nat),Vals xs its∧xs.length=its.length∧s.heap.get? l=some { cls:=.type "list",data:=.seq its.toArray n }:=by
 obtain ⟨z,its,n,r,e⟩:=I.hok l _ hH
 exact ⟨z,its,n,r,r.length,e⟩
theorem notLongL {n:Nat} (h:n≤sizeLine):Builtin.List.listTooLong n=false:=by
 unfold Builtin.List.listTooLong
 exact decide_eq_false (by omega)
end
section
variable {X:Cx}
def rAppend:V→List V→Hp→VK→Prop:=fun x vs H Q=>∃ l xs y,x=.ref l∧vs=[y]∧H l=some (.lst xs)∧xs.length < sizeLine∧Q .non (upd H l (.lst (xs ++ [y])))
theorem mt_append:MtM X "list.append" rAppend:=by
 intro pins s σ H x vs v us Q I rx rv h
 obtain ⟨l,xs,y,rfl,rfl,hH,hz,q⟩:=h
 cases rx
 obtain ⟨u,rfl,ru⟩:=rv.one
 obtain ⟨z,its,n,r,hl,e⟩:=I.lstM hH
 refine call_meets F.slot_list_append ⟨_,e,rfl⟩ F.entry_list_append (F.args_list_append_2 _ _) (PySem.list_append l its.toArray n u (by rw [List.size_toArray];omega)) ⟨e,?_⟩
 refine ⟨.non,_,I.lset (its':=its ++ [u]) hH e (by simp) (r.append (.cons ru .nil)) ?_,rfl,q⟩
 rw [List.length_append,List.length_singleton]
 omega
def rExtend:V→List V→Hp→VK→Prop:=fun x vs H Q=>∃ l b xs zs,x=.ref l∧vs=[.ref b]∧H l=some (.lst xs)∧H b=some (.lst zs)∧xs.length + zs.length≤sizeLine∧Q .non (upd H l (.lst (xs ++ zs)))
theorem mt_extend:MtM X "list.extend" rExtend:=by
 intro pins s σ H x vs v us Q I rx rv h
 obtain ⟨l,b,xs,zs,rfl,rfl,hH,hB,hz,q⟩:=h
 cases rx
 obtain ⟨u,rfl,ru⟩:=rv.one
 cases ru
 obtain ⟨z,its,n,r,hl,e⟩:=I.lstM hH
 obtain ⟨z2,its2,n2,r2,hl2,e2⟩:=I.lstM hB
 have hsz:its.toArray.size + its2.toArray.size≤sizeLine:=by rw [List.size_toArray,List.size_toArray];omega
 have hlong:¬(!its.toArray.isEmpty && Builtin.List.listTooLong (its.toArray.size + its2.toArray.size))=true:=by
  rw [notLongL hsz,Bool.and_false]
  exact Bool.false_ne_true
 refine call_meets F.slot_list_extend ⟨_,e,rfl⟩ F.entry_list_extend (F.args_list_extend_2 _ _)
  (AutoSeq1.list_extend_list_list_0 l its.toArray n b its2.toArray n2 hlong (by rw [List.size_toArray];omega) (by omega)) ⟨e,e2,?_⟩
 refine ⟨.non,_,I.lset (its':=its ++ its2) hH e (by simp) (r.append r2) ?_,rfl,q⟩
 rw [List.length_append]
 omega
def rPop:V→List V→Hp→VK→Prop:=fun x vs H Q=>∃ l xs y,x=.ref l∧vs=[]∧H l=some (.lst xs)∧xs[xs.length - 1]?=some y∧Q y (upd H l (.lst xs.dropLast))
theorem mt_pop:MtM X "list.pop" rPop:=by
 intro pins s σ H x vs v us Q I rx rv h
 obtain ⟨l,xs,y,rfl,rfl,hH,hy,q⟩:=h
 cases rx
 have hus:=rv.zero
 subst hus
 obtain ⟨z,its,n,r,hl,e⟩:=I.lstM hH
 obtain ⟨u,hu,ru⟩:=r.get hy
 have hy':its.toArray[its.toArray.size - 1]?=some u:=by
  show its.toArray[its.length - 1]?=some u
  rw [← Array.getElem?_toList,← hl]
  exact hu
 refine call_meets F.slot_list_pop ⟨_,e,rfl⟩ F.entry_list_pop (F.args_list_pop_1 _) (MeetsSeq.list_pop_last l its.toArray n u hy' (by rw [List.size_toArray];omega)) ⟨e,?_⟩
 refine ⟨y,_,I.lset (its':=its.dropLast) hH e ?_ r.dropLast ?_,ru,q⟩
 ·show its.toArray.eraseIdxIfInBounds (its.toArray.size - 1)=its.dropLast.toArray
  rw [List.size_toArray,List.eraseIdxIfInBounds_toArray,erase_last]
 ·rw [List.length_dropLast]
  omega
def rCat:R2:=fun x y H Q=>∃ l b xs zs,x=.ref l∧y=.ref b∧H l=some (.lst xs)∧H b=some (.lst zs)∧xs.length + zs.length≤sizeLine∧∀ p,H p=none→Q (.ref p) (upd H p (.lst (xs ++ zs)))
theorem op_cat:OpR X (binaryOp .Add) rCat:=by
 intro pins s σ H x y v u Q I rx ry h
 obtain ⟨l,b,xs,zs,rfl,rfl,hH,hB,hz,q⟩:=h
 cases rx
 cases ry
 obtain ⟨z,its,n,r,hl,e⟩:=I.lstM hH
 obtain ⟨z2,its2,n2,r2,hl2,e2⟩:=I.lstM hB
 refine PySem.P.add_list e e2 ?_ (by rw [List.size_toArray,List.size_toArray];omega)
 have ea:its.toArray ++ its2.toArray=(its ++ its2).toArray:=by simp
 rw [ea]
 exact ⟨.ref _,_,I.lnew (t':=s.toks) (r.append r2) (by rw [List.length_append];omega),rfl,q _ I.fresh⟩
def rRep:R2:=fun x y H Q=>∃ l k xs,x=.ref l∧y=.int k∧H l=some (.lst xs)∧-(2 ^ 63)≤k∧k < 2 ^ 63∧xs.length * k.toNat≤sizeLine∧
 ∀ p,H p=none→Q (.ref p) (upd H p (.lst (List.replicate k.toNat xs).flatten))
theorem len_rep {α:Type} (xs:List α) (k:Nat):(List.replicate k xs).flatten.length=k * xs.length:=by
 induction k with
 | zero=>simp
 | succ k ih=>rw [List.replicate_succ,List.flatten_cons,List.length_append,ih,Nat.succ_mul,Nat.add_comm]
theorem op_rep:OpR X (binaryOp .Mult) rRep:=by
 intro pins s σ H x y v u Q I rx ry h
 obtain ⟨l,k,xs,rfl,rfl,hH,h1,h2,hz,q⟩:=h
 cases rx
 obtain ⟨t,rfl⟩:=ry
 obtain ⟨z,its,n,r,hl,e⟩:=I.lstM hH
 have hlen:its.toArray.size * k.toNat≤sizeLine:=by rw [List.size_toArray,← hl];exact hz
 have hcap:¬its.toArray.size * k.toNat > (2 ^ 63 - 1) / 8:=by
  have:(sizeLine:Nat)≤(2 ^ 63 - 1) / 8:=by decide
  omega
 have hfit:¬(!Builtin.List.listFitsIndex k)=true:=by
  rw [fitsIndex_both h1 h2]
  exact Bool.false_ne_true
 have hlong:¬Builtin.List.listTooLong (its.toArray.size * k.toNat)=true:=by
  rw [notLongL hlen]
  exact Bool.false_ne_true
 have hnew:List.foldl (fun x1 x2=>x1 ++ x2) #[] (List.replicate (if its.toArray.isEmpty=true then 0 else k.toNat) its.toArray)=(List.replicate k.toNat its).flatten.toArray:=by
  have f0:∀ m:Nat,List.foldl (fun x1 x2=>x1 ++ x2) #[] (List.replicate m its.toArray)=(List.replicate m its).flatten.toArray:=fun m=>by
   have:=foldl_rep its m []
   rw [List.nil_append] at this
   exact this
  rw [f0]
  cases its with
  | nil=>simp
  | cons a r'=>rw [if_neg (by simp)]
 refine wpAny_binaryOp_repeat_ref (T:="list") (U:="int") (by decide) ⟨_,e,rfl⟩ (fun s'=>typeIs_int s' k t) noFill_list_mul F.fills_int_mul F.slot_int_rmul repeat_list F.slot_int_index.lookup
  (call_meets F.slot_int_rmul (typeIs_int s k t) F.entry_int_rmul (F.args_int_rmul_2 _ _) (int___rmul___int_list k t l its.toArray n)
   ⟨e,rfl,⟨_,e,rfl⟩,call_meets F.slot_list_mul ⟨_,e,rfl⟩ F.entry_list_mul (F.args_list_mul_2 _ _) (AutoListH.list___mul___list_int_3 l its.toArray n k t hfit hcap hlong) ⟨e,?_⟩⟩)
 rw [hnew]
 exact ⟨.ref _,_,I.lnew (t':=s.toks) (r.rep k.toNat) (by rw [len_rep,Nat.mul_comm];exact hz),rfl,q _ I.fresh⟩
end
section
variable {prog:Program} {w:World} {A:Around} {E:Value→Shared→Prop} {s:Shared}
end
section
variable {X:Cx}
end
end L2
namespace L2
open PySem PySem.Spec PyProof.Rows
section
variable {κ:Type} [DecidableEq κ]
def valV (kvs:List (κ × V)) (k:κ):Option V:=(kvs.find? fun kv=>decide (kv.1=k)).map (·.2)
def putK (kvs:List (κ × V)) (k:κ) (v:V):List (κ × V):=
 if (kvs.any fun kv=>decide (kv.1=k))=true then kvs.map (fun kv=>if kv.1=k then (kv.1,v) else kv) else kvs ++ [(k,v)]
theorem valV_pos {p:κ × V} {r:List (κ × V)} {k:κ} (e:p.1=k):valV (p :: r) k=some p.2:=by simp [valV,List.find?_cons,e]
theorem valV_neg {p:κ × V} {r:List (κ × V)} {k:κ} (e:¬p.1=k):valV (p :: r) k=valV r k:=by simp [valV,List.find?_cons,e]
theorem valV_any (k:κ):∀ kvs:List (κ × V),(kvs.any fun kv=>decide (kv.1=k))=(valV kvs k).isSome
 | []=>rfl
 | p :: r=>by
  rw [List.any_cons]
  by_cases e:p.1=k
  ·simp only [valV_pos e,decide_eq_true e,Bool.true_or,Option.isSome_some]
  ·rw [valV_neg e,decide_eq_false e,Bool.false_or];exact valV_any k r
theorem valV_map (k j:κ) (y:V):∀ kvs:List (κ × V),valV (kvs.map fun kv=>if kv.1=k then (kv.1,y) else kv) j=(valV kvs j).map fun x=>if j=k then y else x
 | []=>rfl
 | p :: r=>by
  have ih:=valV_map k j y r
  rw [List.map_cons]
  by_cases h:p.1=k
  ·rw [if_pos h]
   by_cases e:p.1=j
   ·rw [valV_pos (p:=(p.1,y)) e,valV_pos e,Option.map_some,if_pos (e.symm.trans h)]
   ·rw [valV_neg (p:=(p.1,y)) e,valV_neg e,ih]
  ·rw [if_neg h]
   by_cases e:p.1=j
   ·rw [valV_pos (p:=p) e,valV_pos e,Option.map_some,if_neg (fun z=>h (e.trans z))]
   ·rw [valV_neg (p:=p) e,valV_neg e,ih]
theorem valV_snoc (k j:κ) (y:V):∀ kvs:List (κ × V),valV kvs k=none→valV (kvs ++ [(k,y)]) j=if j=k then some y else valV kvs j
 | [],_=>by
  by_cases e:k=j
  ·rw [if_pos e.symm];exact valV_pos (p:=(k,y)) e
  ·rw [if_neg (fun z=>e z.symm)];exact valV_neg (p:=(k,y)) e
 | p :: r,hn=>by
  rw [List.cons_append]
  have hk:¬p.1=k:=fun z=>by rw [valV_pos z] at hn;cases hn
  rw [valV_neg hk] at hn
  have ih:=valV_snoc k j y r hn
  by_cases e:p.1=j
  ·rw [valV_pos e,valV_pos e,if_neg (fun z=>hk (e.trans z))]
  ·rw [valV_neg e,valV_neg e,ih]
theorem valV_put (kvs:List (κ × V)) (k j:κ) (y:V):valV (putK kvs k y) j=if j=k then some y else valV kvs j:=by
 unfold putK
 by_cases a:(kvs.any fun kv=>decide (kv.1=k))=true
 ·rw [if_pos a,valV_map]
  rw [valV_any] at a
  by_cases e:j=k
  ·obtain ⟨x,hx⟩:=Option.isSome_iff_exists.mp a
   rw [if_pos e,e,hx,Option.map_some,if_pos rfl]
  ·rw [if_neg e]
   cases valV kvs j with
   | none=>rfl
   | some x=>rw [Option.map_some,if_neg e]
 ·rw [if_neg a]
  refine valV_snoc k j y kvs ?_
  rw [valV_any] at a
  cases q:valV kvs k with
  | none=>rfl
  | some x=>rw [q] at a;exact (a rfl).elim
theorem length_putK (kvs:List (κ × V)) (k:κ) (v:V):(putK kvs k v).length≤kvs.length + 1:=by
 unfold putK
 split
 ·rw [List.length_map];omega
 ·rw [List.length_append,List.length_cons,List.length_nil];omega
theorem putK_new {kvs:List (κ × V)} {k:κ} (v:V) (h:valV kvs k=none):putK kvs k v=kvs ++ [(k,v)]:=by
 unfold putK
 rw [valV_any,h]
 exact if_neg (by decide)
theorem RelO.isSome_eq {o:Option V} {u:Option Value} (r:RelO o u):o.isSome=u.isSome:=by
 cases o with
 | none=>cases u with
  | none=>rfl
  | some _=>exact (show False from r).elim
 | some _=>cases u with
  | none=>exact (show False from r).elim
  | some _=>rfl
theorem KV.val {kvs:List (κ × V)} {vs:List (κ × Value)} (r:KV kvs vs) (k:κ):RelO (valV kvs k) (valueAt vs k):=by
 unfold KV at r
 induction r with
 | nil=>exact True.intro
 | @cons p q ps qs h t ih=>
  obtain ⟨h1,h2⟩:=h
  by_cases e:p.1=k
  ·have e':q.1=k:=h1.symm.trans e
   have b:valueAt (q :: qs) k=some q.2:=by simp [valueAt,List.find?_cons,e']
   rw [valV_pos e,b];exact h2
  ·have e':¬q.1=k:=fun z=>e (h1.trans z)
   have b:valueAt (q :: qs) k=valueAt qs k:=by simp [valueAt,List.find?_cons,e']
   rw [valV_neg e,b];exact ih
theorem KV.any {kvs:List (κ × V)} {vs:List (κ × Value)} (r:KV kvs vs) (k:κ):(kvs.any fun kv=>decide (kv.1=k))=vs.any fun kv=>decide (kv.1=k):=by
 unfold KV at r
 induction r with
 | nil=>rfl
 | cons h t ih=>rw [List.any_cons,List.any_cons,ih,h.1]
theorem KV.repl {kvs:List (κ × V)} {vs:List (κ × Value)} (r:KV kvs vs) (k:κ) {y:V} {u:Value} (ry:RelV y u) :
  KV (kvs.map fun kv=>if kv.1=k then (kv.1,y) else kv) (vs.map fun kv=>if kv.1=k then (kv.1,u) else kv):=by
 unfold KV at r ⊢
 induction r with
 | nil=>exact .nil
 | @cons p q ps qs h t ih=>
  rw [List.map_cons,List.map_cons]
  refine .cons ?_ ih
  obtain ⟨h1,h2⟩:=h
  by_cases e:p.1=k
  ·rw [if_pos e,if_pos (h1.symm.trans e)];exact ⟨h1,ry⟩
  ·rw [if_neg e,if_neg (fun z=>e (h1.trans z))];exact ⟨h1,h2⟩
theorem KV.put {kvs:List (κ × V)} {vs:List (κ × Value)} (r:KV kvs vs) (k:κ) {y:V} {u:Value} (ry:RelV y u):KV (putK kvs k y) (stored vs k u):=by
 unfold putK stored
 rw [r.any k]
 by_cases e:(vs.any fun kv=>decide (kv.1=k))=true
 ·rw [if_pos e,if_pos e];exact r.repl k ry
 ·rw [if_neg e,if_neg e];exact Paired.snoc r ⟨rfl,ry⟩
theorem KV.length {kvs:List (κ × V)} {vs:List (κ × Value)} (r:KV kvs vs):kvs.length=vs.length:=Paired.length r
end
theorem kV_is {P:Program} {w:World} {k:Key} {u:Value} (r:RelV (kV k) u):(mixKind P w).is k u=true:=by
 cases k with
 | inl i=>obtain ⟨t,e⟩:=(show ∃ t,u=Value.int i t from r);subst e;exact mixKind_int P w i t
 | inr x=>obtain ⟨t,e⟩:=(show ∃ t,u=Value.str x t from r);subst e;exact mixKind_str P w x t
theorem items_are {P:Program} {w:World}:∀ {ks:List Key} {us:List Value},Vals (ks.map kV) us→ItemsAre (mixKind P w) ks us
 | [],_,r=>by rw [List.map_nil] at r;cases r;exact .nil
 | k :: ks,_,r=>by
  rw [List.map_cons] at r
  cases r with
  | cons h t=>exact .cons (kV_is h) (items_are t)
abbrev KT (H:Hp):List (List Key × V)→List (List Key × Addr × Value)→Prop:=Paired fun p q=>p.1=q.1∧H q.2.1=some (.tup (p.1.map kV))∧RelV p.2 q.2.2
theorem KT.val {H:Hp} {kvs:List (List Key × V)} {xs:List (List Key × Addr × Value)} (r:KT H kvs xs) (k:List Key):RelO (valV kvs k) ((atKey xs k).map (·.2)):=by
 induction r with
 | nil=>exact True.intro
 | @cons p q ps qs h t ih=>
  obtain ⟨h1,_,h2⟩:=h
  by_cases e:p.1=k
  ·have e':q.1=k:=h1.symm.trans e
   have b:atKey (q :: qs) k=some q.2:=by simp [atKey,List.find?_cons,e']
   rw [valV_pos e,b];exact h2
  ·have e':¬q.1=k:=fun z=>e (h1.trans z)
   have b:atKey (q :: qs) k=atKey qs k:=by simp [atKey,List.find?_cons,e']
   rw [valV_neg e,b];exact ih
theorem KT.repl {H:Hp} {kvs:List (List Key × V)} {xs:List (List Key × Addr × Value)} (r:KT H kvs xs) (k:List Key) {y:V} {u:Value} (ry:RelV y u) :
  KT H (kvs.map fun kv=>if kv.1=k then (kv.1,y) else kv) (xs.map (putAt k u)):=by
 induction r with
 | nil=>exact .nil
 | @cons p q ps qs h t ih=>
  rw [List.map_cons,List.map_cons]
  refine .cons ?_ ih
  obtain ⟨h1,h2,h3⟩:=h
  unfold putAt
  by_cases e:p.1=k
  ·rw [if_pos e,if_pos (h1.symm.trans e)];exact ⟨h1,h2,ry⟩
  ·rw [if_neg e,if_neg (fun z=>e (h1.trans z))];exact ⟨h1,h2,h3⟩
theorem KT.put {H:Hp} {kvs:List (List Key × V)} {xs:List (List Key × Addr × Value)} (r:KT H kvs xs) (k:List Key) {b:Addr} {y:V} {u:Value} (hb:H b=some (.tup (k.map kV))) (ry:RelV y u) :
  KT H (putK kvs k y) (storedH xs k b u):=by
 have e:(kvs.any fun kv=>decide (kv.1=k))=(atKey xs k).isSome:=by
  rw [valV_any,(r.val k).isSome_eq,Option.isSome_map]
 unfold putK storedH
 rw [e]
 by_cases q:(atKey xs k).isSome=true
 ·rw [if_pos q,if_pos q];exact r.repl k ry
 ·rw [if_neg q,if_neg q];exact Paired.snoc r ⟨rfl,hb,ry⟩
theorem KT.keeps {H H':Hp} {kvs:List (List Key × V)} {xs:List (List Key × Addr × Value)} (r:KT H kvs xs) (ht:∀ b ys,H b=some (.tup ys)→H' b=some (.tup ys)):KT H' kvs xs:=
 Paired.mapP r fun _ _ z=>⟨z.1,ht _ _ z.2.1,z.2.2⟩
section
variable {P:Program} {w:World} {H:Hp} {h:Heap} {a:Addr}
theorem rd_of {u:HO} (ok:HOk P w H h) (e:Rd H a u):ObjOk P w H h a u:=e.ok ok
theorem dk_rd {kvs:List (Key × V)} (ok:HOk P w H h) (e:Rd H a (.dK kvs)):kvs.length≤sizeLine∧(a == sysModules)=false∧∃ vs,KV kvs vs∧h.DictOf (mixKind P w) a vs:=
 show ObjOk P w H h a (.dK kvs) from rd_of ok e
theorem dk_of {kvs:List (Key × V)} (ok:HOk P w H h) (e:H a=some (.dK kvs)):kvs.length≤sizeLine∧(a == sysModules)=false∧∃ vs,KV kvs vs∧h.DictOf (mixKind P w) a vs:=dk_rd ok (.inl e)
theorem key_of {ks:List Key} (ok:HOk P w H h) (e:H a=some (.tup (ks.map kV))):(tupleKind (mixKind P w)).is h ks a:=by
 obtain ⟨_,its,r,o,h1,h2,n,h3⟩:=(show ObjOk P w H h a (.tup (ks.map kV)) from ok a _ e)
 exact ⟨o,its.toArray,n,h1,h2,h3,by simpa using items_are r⟩
theorem dt_rd {kvs:List (List Key × V)} (ok:HOk P w H h) (e:Rd H a (.dT kvs)):kvs.length≤sizeLine∧(a == sysModules)=false∧
  ∃ xs,KT H kvs xs∧h.DictOfH (tupleKind (mixKind P w)) a xs:=by
 obtain ⟨z,y,xs,r,o,es,ep,h1,h2,h3,h4,h5⟩:=(show ObjOk P w H h a (.dT kvs) from rd_of ok e)
 refine ⟨z,y,xs,r,o,es,ep,h1,h2,h3,h4,fun x hx=>?_,h5⟩
 have all:∀ {l:List (List Key × V)} {m:List (List Key × Addr × Value)},KT H l m→∀ x∈m,(tupleKind (mixKind P w)).is h x.1 x.2.1:=by
  intro l m q
  induction q with
  | nil=>intro x hx;exact nomatch hx
  | @cons p q ps qs hq t ih=>
   intro x hx
   rcases List.mem_cons.mp hx with e | hx
   ·subst e
    exact key_of ok (by rw [← hq.1];exact hq.2.1)
   ·exact ih x hx
 exact all r x hx
theorem dt_of {kvs:List (List Key × V)} (ok:HOk P w H h) (e:H a=some (.dT kvs)):kvs.length≤sizeLine∧(a == sysModules)=false∧
  ∃ xs,KT H kvs xs∧h.DictOfH (tupleKind (mixKind P w)) a xs:=dt_rd ok (.inl e)
end
def DGet (H:Hp) (a:Addr) (y:V) (r:Option V):Prop:=
 (∃ kvs k,Rd H a (.dK kvs)∧y=kV k∧r=valV kvs k)∨∃ kvs k b,Rd H a (.dT kvs)∧y=.ref b∧H b=some (.tup (k.map kV))∧r=valV kvs k
def DPut (H:Hp) (a:Addr) (y v:V) (H':Hp):Prop:=
 (∃ kvs k,H a=some (.dK kvs)∧y=kV k∧kvs.length < sizeLine∧H'=upd H a (.dK (putK kvs k v)))∨
 ∃ kvs k b,H a=some (.dT kvs)∧y=.ref b∧H b=some (.tup (k.map kV))∧kvs.length < sizeLine∧H'=upd H a (.dT (putK kvs k v))
theorem DGet.k {H:Hp} {a:Addr} {kvs:List (Key × V)} {k:Key} (e:H a=some (.dK kvs)):DGet H a (kV k) (valV kvs k):=.inl ⟨kvs,k,.inl e,rfl,rfl⟩
theorem DGet.t {H:Hp} {a b:Addr} {kvs:List (List Key × V)} {k:List Key} (e:H a=some (.dT kvs)) (eb:H b=some (.tup (k.map kV))):DGet H a (.ref b) (valV kvs k):=.inr ⟨kvs,k,b,.inl e,rfl,eb,rfl⟩
theorem DPut.k {H:Hp} {a:Addr} {kvs:List (Key × V)} {k:Key} {v:V} (e:H a=some (.dK kvs)) (hl:kvs.length < sizeLine):DPut H a (kV k) v (upd H a (.dK (putK kvs k v))):=.inl ⟨kvs,k,e,rfl,hl,rfl⟩
theorem DPut.t {H:Hp} {a b:Addr} {kvs:List (List Key × V)} {k:List Key} {v:V} (e:H a=some (.dT kvs)) (eb:H b=some (.tup (k.map kV))) (hl:kvs.length < sizeLine) :
  DPut H a (.ref b) v (upd H a (.dT (putK kvs k v))):=.inr ⟨kvs,k,b,e,rfl,eb,hl,rfl⟩
section
variable {X:Cx} {pins:List (Addr × Obj)} {σ:St} {H:Hp} {s:Shared} {a:Addr} {y v:V} {u r:Value} {o:Option V} {A:Around} {E:Value→Shared→Prop}
theorem Inv.big (I:Inv X pins σ H s):sysModules < s.heap.objs.size:=by
 have h:mainGlobals < s.heap.objs.size:=(I.mod.glob.keeps I.bk).lt
 exact Nat.lt_trans (by decide) h
theorem d_getItem {Q:Value→Shared→Prop} (hu:A.units + 1 < cLine) (I:Inv X pins σ H s) (g:DGet H a y (some v)) (ry:RelV y u) (h:∀ w' s',Inv X pins σ H s'→RelV v w'→Q w' s') :
  wpAny (model X.prog X.w) A (getItem (.ref a) u) Q E s:=by
 rcases g with ⟨kvs,k,e,ey,l⟩ | ⟨kvs,k,b,e,ey,eb,l⟩
 ·subst ey
  obtain ⟨z,hd,vs,rel,dd⟩:=dk_rd I.hok e
  obtain ⟨w',hw,rw'⟩:=RelO.some_of (v:=v) (o:=valueAt vs k) (by rw [l];exact rel.val k)
  exact wpAny_getItem_of (kV_is ry) dd.mapOf hw (h w' _ (I.tok _) rw')
 ·subst ey
  cases (show u=Value.ref b from ry)
  obtain ⟨z,hd,xs,rel,dd⟩:=dt_rd I.hok e
  obtain ⟨w',hw,rw'⟩:=RelO.some_of (v:=v) (o:=(atKey xs k).map (·.2)) (by rw [l];exact rel.val k)
  obtain ⟨p,hp,hp2⟩:=Option.map_eq_some_iff.mp hw
  refine wpAny_getItem_heap (tupleKind_room_in1 hu) (key_of I.hok eb) dd hp ?_
  rw [hp2]
  exact h w' _ (I.tok _) rw'
theorem d_notIn {Q:Value→Shared→Prop} (hu:A.units + 1 < cLine) (I:Inv X pins σ H s) (g:DGet H a y o) (ry:RelV y u) (h:∀ s',Inv X pins σ H s'→Q (.bool (!o.isSome)) s') :
  wpAny (model X.prog X.w) A (compareOp .NotIn u (.ref a)) Q E s:=by
 rcases g with ⟨kvs,k,e,ey,l⟩ | ⟨kvs,k,b,e,ey,eb,l⟩
 ·subst ey
  obtain ⟨z,hd,vs,rel,dd⟩:=dk_rd I.hok e
  refine wpAny_notIn_of (kV_is ry) hd dd.mapOf ?_
  rw [← (rel.val k).isSome_eq,← l]
  exact h _ (I.tok _)
 ·subst ey
  cases (show u=Value.ref b from ry)
  obtain ⟨z,hd,xs,rel,dd⟩:=dt_rd I.hok e
  refine wpAny_notIn_heap (tupleKind_room_in1 hu) (key_of I.hok eb) hd dd ?_
  have q:=(rel.val k).isSome_eq
  rw [Option.isSome_map] at q
  rw [← q,← l]
  exact h _ (I.tok _)
theorem d_write {h':Heap} {t':Nat} {ob:HO} (I:Inv X pins σ H s) (mu:Mut (H a)) (hs:Heap.SameBut a s.heap h') (he:∃ q,h'.get? a=some q) (new:ObjOk X.prog X.w (upd H a ob) h' a ob) :
  Inv X pins σ (upd H a ob) { s with heap:=h',toks:=t' }:=
 I.write (x:=a) (e:=a) mu (.inl rfl) (fun b q hb z=>(hs.2 b hb).trans z) he new
theorem dk_new {P:Program} {w:World} {H':Hp} {h':Heap} {kvs:List (Key × V)} {vs:List (Key × Value)} (z:kvs.length≤sizeLine) (hd:(a == sysModules)=false) (rel:KV kvs vs) (dd:h'.DictOf (mixKind P w) a vs) :
  ObjOk P w H' h' a (.dK kvs):=⟨z,hd,vs,rel,dd⟩
theorem d_setItem {H':Hp} {Q:Unit→Shared→Prop} (hu:A.units + 1 < cLine) (I:Inv X pins σ H s) (g:DPut H a y v H') (ry:RelV y u) (rv:RelV v r) (h:∀ s',Inv X pins σ H' s'→Q () s') :
  wpAny (model X.prog X.w) A (setItem (.ref a) u r) Q E s:=by
 rcases g with ⟨kvs,k,e,ey,l,eH⟩ | ⟨kvs,k,b,e,ey,eb,l,eH⟩
 ·subst ey eH
  obtain ⟨z,hd,vs,rel,dd⟩:=dk_of I.hok e
  have hz:vs.length≤sizeLine:=by rw [← rel.length];exact z
  have hl:(putK kvs k v).length≤sizeLine:=by have:=length_putK kvs k v;omega
  refine wpAny_setItem_pairs (hsz:=hz) (kV_is ry) dd fun h' dd' hs=>h _ ?_
  have he:∃ q,h'.get? a=some q:=let ⟨q,_,_,hq,_⟩:=dd';⟨q,hq⟩
  exact d_write I (by rw [e];exact True.intro) hs he (dk_new hl hd (rel.put k rv) dd')
 ·subst ey eH
  cases (show u=Value.ref b from ry)
  obtain ⟨z,hd,xs,rel,dd⟩:=dt_of I.hok e
  have hz:xs.length≤sizeLine:=by rw [← Paired.length rel];exact z
  have hl:(putK kvs k v).length≤sizeLine:=by have:=length_putK kvs k v;omega
  refine wpAny_setItem_heap (hsz:=hz) (tupleKind_room_in1 hu) (key_of I.hok eb) dd fun h' dd' hs=>h _ ?_
  obtain ⟨q,es,ep,hq,h2,h3,h4,_,h5⟩:=dd'
  refine d_write I (by rw [e];exact True.intro) hs ⟨q,hq⟩ ⟨hl,hd,_,(rel.put k eb rv).keeps fun c ys ec=>?_,q,es,ep,hq,h2,h3,h4,h5⟩
  rw [upd_ne (ne_of ec e (fun z=>nomatch z))]
  exact ec
end
section
variable {X:Cx} {pins:List (Addr × Obj)} {σ:St} {H:Hp} {s:Shared} {a:Addr} {kvs:List (Key × V)} {k:Key} {u:Value} {A:Around} {E:Value→Shared→Prop}
end
def NoSl (i:Expr):Prop:=∀ ov iv,subscripted i false ov iv=operate [ov,iv] (getItem ov iv)
theorem subD_of {prog:Program} {w:World} {A:Around} {E:Value→Shared→Prop} {s:Shared} {env:Env} {value slice:Expr} {pos:Pos} {T id:String} {Q:Value→Shared→Prop}
  (hl:typeLookup (.type T) "__getitem__"=pure (some (.builtin id))) (hs:NoSl slice)
  (h:wpAny (model prog w) A (eval value env) (fun o s₁=>wpAny (model prog w) A (eval slice env) (fun i s₂=>s₂.TypeIs o T∧wpAny (model prog w) A (getItem o i) Q E s₂) E s₁) E s) :
  wpAny (model prog w) A (eval (.Subscript value slice pos) env) Q E s:=by
 refine Subscript_ (wpAny_mono h (fun o s₁ h₁=>wpAny_mono h₁ (fun i s₂ h₂=>?_) fun _ _ x=>x) fun _ _ x=>x)
 obtain ⟨hT,h₂⟩:=h₂
 unfold subscriptTail
 refine wpAny_bind ?_
 rw [getitemInPython_of_ne hT.not_modules]
 refine wpAny_bind (wpAny_specialOf hT hl ?_)
 have fin:wpAny (model prog w) A (subscripted slice false o i) (fun r s₃=>wpAny (model prog w) A (letTemporaryGo value o r >>= fun _=>pure r) Q E s₃) E s₂:=by
  rw [hs o i]
  exact wpAny_operating (wpAny_mono h₂ (fun r s₃ h₃=>wpAny_bind (wpAny_letTemporaryGo (wpAny_pure h₃))) fun _ _ x=>x)
 first
  | exact wpAny_pure (wpAny_bind fin)
  | exact wpAny_bind (wpAny_pure (wpAny_bind fin))
  | exact wpAny_bind fin
theorem dict_typeIs {X:Cx} {pins:List (Addr × Obj)} {σ:St} {H:Hp} {s:Shared} {a:Addr} {y:V} {o:Option V} (I:Inv X pins σ H s) (g:DGet H a y o):s.TypeIs (.ref a) "dict":=by
 rcases g with ⟨kvs,k,e,_,_⟩ | ⟨kvs,k,b,e,_,_,_⟩
 ·obtain ⟨_,_,vs,_,dd⟩:=dk_rd I.hok e
  exact dd.typeIs
 ·obtain ⟨_,_,xs,_,dd⟩:=dt_rd I.hok e
  exact dd.typeIs
def tDGet (td ty:TE):TE:=fun σ H Q=>td σ H fun x H1=>ty σ H1 fun y H2=>∃ a v,x=.ref a∧DGet H2 a y (some v)∧Q v H2
def tDNotIn (ty td:TE):TE:=fun σ H Q=>ty σ H fun y H1=>td σ H1 fun x H2=>∃ a o,x=.ref a∧DGet H2 a y o∧Q (.bl (!o.isSome)) H2
def sDPut (td ty tv:TE):TS:=fun D σ H=>tv σ H fun v H1=>td σ H1 fun x H2=>ty σ H2 fun y H3=>∃ a H4,x=.ref a∧DPut H3 a y v H4∧D.nx σ H4
section
variable {X:Cx} {o i e value:Expr} {pos pos' tpos:Pos} {td ty tv:TE}
theorem pe_dget (hu:X.A.units + 1 < cLine) (ho:PE X o td) (hi:PE X i ty) (hs:NoSl i):PE X (.Subscript o i pos) (tDGet td ty):=by
 intro pins s σ H Q I h
 refine subD_of PySem.F.slot_dict_getitem.lookup hs (thn (ho pins s σ H _ I h) fun u s1 ⟨x,H1,I1,rx,q1⟩=>thn (hi pins s1 σ H1 _ I1 q1) fun iv s2 ⟨y,H2,I2,ry,a,v,ex,g,q2⟩=>?_)
 subst ex
 obtain rfl:u=Value.ref a:=rx
 exact ⟨dict_typeIs I2 g,d_getItem hu I2 g ry fun w' s3 I3 rw'=>⟨v,H2,I3,rw',q2⟩⟩
theorem pc_dnotin (hu:X.A.units + 1 < cLine) (hi:PE X i ty) (ho:PE X o td):PC X .NotIn i o (tDNotIn ty td):=by
 intro pins s σ H Q I h
 refine thn (hi pins s σ H _ I h) fun iv s1 ⟨y,H1,I1,ry,q1⟩=>thn (ho pins s1 σ H1 _ I1 q1) fun u s2 ⟨x,H2,I2,rx,a,ov,ex,g,q2⟩=>?_
 subst ex
 obtain rfl:u=Value.ref a:=rx
 exact d_notIn hu I2 g ry fun s3 I3=>⟨.bl (!ov.isSome),H2,I3,rfl,q2⟩
theorem ps_dput (hu:X.A.units + 1 < cLine) (ho:PE X o td) (hi:PE X i ty) (hv:PE X value tv) (hs:swapsWith value (some (.Subscript o i pos')) pos.line X.env=pure false) :
  PS X (.Assign [.Subscript o i pos'] value pos) (sDPut td ty tv):=by
 intro pins s σ H D I h
 refine wpAny_Assign_Subscript (thn (hv pins s σ H _ I h) fun r s1 ⟨v,H1,I1,rv,q1⟩=>thn (ho pins s1 σ H1 _ I1 q1) fun u s2 ⟨x,H2,I2,rx,q2⟩=>thn (hi pins s2 σ H2 _ I2 q2) fun iv s3 ⟨y,H3,I3,ry,a,H4,ex,g,q3⟩=>?_) hs
 subst ex
 obtain rfl:u=Value.ref a:=rx
 exact d_setItem hu I3 g ry rv fun s4 I4=>⟨σ,H4,I4,q3⟩
end
theorem dk_empty {P:Program} {w:World} {H:Hp} (h:Heap) (hb:sysModules < h.objs.size):ObjOk P w H (h.push { cls:=.type "dict",data:=.dict #[] }) h.objs.size (.dK []):=
 ⟨Nat.zero_le _,beq_eq_false_iff_ne.mpr (Ne.symm (Nat.ne_of_lt hb)),[],.nil,Heap.DictOf.new h⟩
theorem dt_empty {P:Program} {w:World} {H:Hp} (h:Heap) (hb:sysModules < h.objs.size):ObjOk P w H (h.push { cls:=.type "dict",data:=.dict #[] }) h.objs.size (.dT []):=
 ⟨Nat.zero_le _,beq_eq_false_iff_ne.mpr (Ne.symm (Nat.ne_of_lt hb)),[],.nil,_,#[],0,Heap.get?_push_size _ rfl,⟨rfl,rfl,rfl⟩,rfl,rfl,List.nodup_nil⟩
def tDNewK:TE:=fun _ H Q=>∀ p,H p=none→Q (.ref p) (upd H p (.dK []))
def tDNewT:TE:=fun _ H Q=>∀ p,H p=none→Q (.ref p) (upd H p (.dT []))
section
variable {X:Cx} {pos:Pos}
theorem pe_dnewK:PE X (.Dict [] [] pos) tDNewK:=fun pins s σ H Q I h=>
 wpAny_Dict_empty ⟨.ref s.heap.objs.size,_,I.laid (a:=s.heap.objs.size) (o:=.dK []) (t':=s.toks) (fun _ _ q=>Heap.get?_push_of_some _ q) (Nat.le_refl _) (dk_empty s.heap I.big),rfl,h _ (I.hok.fresh (Nat.le_refl _))⟩
theorem pe_dnewT:PE X (.Dict [] [] pos) tDNewT:=fun pins s σ H Q I h=>
 wpAny_Dict_empty ⟨.ref s.heap.objs.size,_,I.laid (a:=s.heap.objs.size) (o:=.dT []) (t':=s.toks) (fun _ _ q=>Heap.get?_push_of_some _ q) (Nat.le_refl _) (dt_empty s.heap I.big),rfl,h _ (I.hok.fresh (Nat.le_refl _))⟩
end
structure M1 (X:Cx) (o:Expr) (m:Str) (apos:Pos) (e:Expr) (cpos:Pos):Prop where
 base:attributeBase o m X.env (eval o X.env)=eval o X.env
 few:((backTo cpos (starEach [e] X.env)).all (fun x=>!x.1) && (backToKw cpos (keywordEach [] X.env)).all (fun x=>x.1.isSome)
  && decide (([e]:List Expr).length + ([]:List Keyword).length + (if ([]:List Keyword).isEmpty then 0 else 1) < 30))=true
 line:(apos.endLine == cpos.line)=true
 trees:backTo cpos (starEach [e] X.env)=[(false,eval e X.env)]
structure M2 (X:Cx) (o:Expr) (m:Str) (apos:Pos) (e f:Expr) (cpos:Pos):Prop where
 base:attributeBase o m X.env (eval o X.env)=eval o X.env
 few:((backTo cpos (starEach [e,f] X.env)).all (fun x=>!x.1) && (backToKw cpos (keywordEach [] X.env)).all (fun x=>x.1.isSome)
  && decide (([e,f]:List Expr).length + ([]:List Keyword).length + (if ([]:List Keyword).isEmpty then 0 else 1) < 30))=true
 line:(apos.endLine == cpos.line)=true
 trees:backTo cpos (starEach [e,f] X.env)=[(false,eval e X.env),(false,eval f X.env)]
def IsD (H:Hp) (a:Addr):Prop:=(∃ kvs,Rd H a (.dK kvs))∨∃ kvs,Rd H a (.dT kvs)
theorem isD_at {X:Cx} {pins:List (Addr × Obj)} {σ:St} {H:Hp} {s:Shared} {a:Addr} (I:Inv X pins σ H s) (d:IsD H a) :
  s.TypeIs (.ref a) "dict"∧(∀ b,Value.ref a=.ref b→∃ ob,s.heap.get? b=some ob∧ob.dict=none)∧(a == sysModules)=false:=by
 rcases d with ⟨kvs,e⟩ | ⟨kvs,e⟩
 ·obtain ⟨_,hd,vs,_,dd⟩:=dk_rd I.hok e
  refine ⟨dd.typeIs,fun b q=>?_,hd⟩
  cases q
  obtain ⟨ob,_,_,h1,h2,_⟩:=dd
  exact ⟨ob,h1,h2.2.1⟩
 ·obtain ⟨_,hd,xs,_,dd⟩:=dt_rd I.hok e
  refine ⟨dd.typeIs,fun b q=>?_,hd⟩
  cases q
  obtain ⟨ob,_,_,h1,h2,_⟩:=dd
  exact ⟨ob,h1,h2.2.1⟩
section
variable {X:Cx} {pins:List (Addr × Obj)} {σ:St} {H:Hp} {s:Shared} {a:Addr} {y d:V} {u r:Value} {o:Option V} {A:Around} {E:Value→Shared→Prop}
end
section
variable {X:Cx} {o e f:Expr} {apos cpos:Pos} {td ty tx:TE}
end
section
variable {X:Cx} {pins:List (Addr × Obj)} {σ:St} {H:Hp} {s:Shared} {a:Addr} {kvs:List (Key × V)} {A:Around} {E:Value→Shared→Prop}
end
section
variable {X:Cx} {pins:List (Addr × Obj)} {σ:St} {H:Hp} {s:Shared} {a:Addr} {y:V} {u:Value} {A:Around} {E:Value→Shared→Prop}
end
end L2
namespace Att
open PySem PySem.W PySem.Calls PyProof.Rows
theorem ints_of_wellAll {P:Params} {h:Heap}:∀ (ns:List Int) (vs:List Value),WellAll P h vs (ns.map WData.int)→IntsAre vs ns:=by
 intro ns
 induction ns with
 | nil=>
  intro vs w
  rw [List.map_nil] at w
  cases w
  exact .nil
 | cons n ns ih=>
  intro vs w
  rw [List.map_cons] at w
  cases w with
  | cons a b=>
   cases a
   exact .cons _ _ (ih _ b)
theorem script_of {l:OpenLaw} {n:Nat} (hn:l.most=some n) {P:Params} {h:Heap} {args:List WData} {vals:List Value}
  (hpre:l.row.toRowW.claim.pre args=true) (hwl:WellAll P h vals args) :
  ∃ a vs ns,vals=[Value.ref a]∧args=[WData.list (ns.map WData.int)]∧h.get? a=some { cls:=.type "list",data:=.seq vs.toArray }∧IntsAre vs ns∧ns.length≤n:=by
 have hsh:WShape.hasAll [] args [.list .int]=true:=(pre_splitW hpre).1
 have hc:l.pre.holds [] { args:=args }=true:=(pre_splitW hpre).2
 obtain ⟨d,r,rfl,h1,h2⟩:=hasAllW_cons hsh
 obtain rfl:=hasAllW_nil h2
 obtain ⟨xs,rfl,h3⟩:=hasW_list h1
 obtain ⟨ns,rfl⟩:=items_int h3
 have hlen:ns.length≤n:=by
  unfold OpenLaw.pre at hc
  have h4:(WTm.not (.lt (.lit (.int (n:Int))) (.len (.arg 0)))).holds [] { args:=[.list (ns.map .int)] }=true:=by
   have h4:=(holds_andW hc).1
   rw [hn] at h4
   exact h4
  have h5:=condW_of h4 (w_not (w_lt w_lit (w_len_list (w_arg rfl))))
  rw [List.length_map] at h5
  refine Nat.le_of_not_lt fun q=>?_
  have q':(n:Int) < ((ns.length:Nat):Int):=by omega
  first
   | (rw [decide_eq_true q'] at h5;exact absurd h5 (by decide))
   | (simp at h5;omega)
 cases hwl with
 | cons w1 w2=>
  cases w2
  cases w1 with
  | list ho hall=>exact ⟨_,_,ns,rfl,rfl,ho,ints_of_wellAll ns _ hall,hlen⟩
theorem post_true (l:OpenLaw) (args:List WData):l.row.toRowW.claim.post args (.bool true) args=true:=
 postW_of (r:=l.row.toRowW) (X:=(true == true))
  (show WShape.has [] (.bool true) .bool=true by first | rfl | decide | simp [WShape.has,WShape.arms,WShape.armsAll])
  (show (WTm.eq .res (.lit (.bool true))).value [] { args:=args,res:=some (.bool true),after:=args }=some (.bool (true == true)) from w_eq_bool (w_res rfl) w_lit) rfl
theorem attach_call {l:OpenLaw} {n:Nat} {q:Program} {loose:List Str} {XP:(Str→Option Value)→Heap→Prop} {YP:World→Heap→Prop} {d:DefRec}
  (hn:l.most=some n) (hdf:d.params.defaults=[])
  (call:∀ (w:World) (s₀ s₁:Shared) (mg mb:Str→Option Value) (fa:Addr) (o:Obj) (pm cd doc:Value) (a:Addr) (vs:List Value) (ns:List Int),
   Ground q loose [] XP w s₀ mg mb s₁.heap→YP w s₁.heap→
   s₁.heap.get? fa=some o→o.data=.func (docDef d.name d.params d.body d.scope pm cd doc)→s₁.heap.CodeRec cd d.name→mg d.name=some (.ref fa)→
   s₁.heap.get? a=some { cls:=.type "list",data:=.seq vs.toArray }→IntsAre vs ns→ns.length≤n→s₁.gens=#[]→
   codeAny (model l.prog w) callerA (.call (.ref fa) ⟨[.ref a],[]⟩) (fun r s'=>r=.ok (.ret (.bool true))∧OldK s₁.heap s'.heap∧s'.os=s₁.os∧AllBare s'.gens) s₁) :
  WalkO q loose XP YP l.row.toRowW d [] (fun f vs=>PySem.call f vs):=by
 intro w s₀ s₁ mg mb G Y fa o pm cd doc dV kV ho hd hcd hD hmg hg args vals as hpre hlay hrd hwl hlo
 obtain rfl:dV=.none:=Dflts.none hD hdf
 obtain rfl:kV=.none:=Dflts.noKw hD
 obtain ⟨a,vs,ns,rfl,rfl,hobj,hints,hlen⟩:=script_of hn hpre hwl
 refine enter_call (codeAny_mono (call w s₀ s₁ mg mb fa o pm cd doc a vs ns G Y ho (fd_plain hd) hcd hmg hobj hints hlen hg) fun r s' hq=>?_)
 obtain ⟨rfl,h2,h3,h4⟩:=hq
 exact ⟨.inl ⟨.bool true,.bool true,[],rfl,fun _=>rfl,.bool true,post_true l _,fun _=>⟨List.Pairwise.nil,fun _ hm=>(nomatch hm)⟩⟩,h2,h3,h4⟩
section
variable {prog:Program} {w:World} {A:Around} {E:Value→Shared→Prop} {s:Shared} {K:Frag}
end
end Att
namespace L2
open PySem PySem.Spec PyProof.Rows
theorem vals_ints:∀ {vs:List Value} {ns:List Int},IntsAre vs ns→Vals (ns.map V.int) vs
 | _,_,.nil=>.nil
 | _,_,.cons n t h=>.cons ⟨t,rfl⟩ (vals_ints h)
def Only (H:Hp):Prop:=∀ b,H b=none∨∃ o xs,H b=some (.frz o (.lst xs))
theorem law_call {P:Program} {w:World} {K:PySem.W.Frag} {mg mb:Str→Option Value} {CX:CXT} {k:Nat} {fa a:Addr} {fd:FuncData} {x:Str} {sp:Sp} {s₁:Shared} {vs:List Value} {ns:List Int}
  (KX:K.In s₁.heap) (hns:s₁.heap.Ns mainGlobals mg) (hb:s₁.heap.Ns builtinsNs mb) (hbb:∀ x:Str,x≠"__name__"→mb x=bootBuiltins x) (hlim:s₁.heap.NoLimit) (hg:s₁.gens=#[])
  (ha:s₁.heap.get? a=some { cls:=.type "list",data:=.seq vs.toArray }) (hi:IntsAre vs ns) (hl:ns.length≤sizeLine) (hr:Room k callerA)
  (F:∀ base:Heap,K.In base→base.Ns mainGlobals mg→FnOk P w K mg base CX k fa fd [x] sp) (hbind:∀ (s:Shared) (u:Value),BindsTo s fd ⟨[u],[]⟩ [(x,u)])
  (hsp:∀ H:Hp,Only H→SqL K H a (ns.map V.int)→sp [.ref a] H (fun v _=>v=.bl true) fun _ _ _=>False)
  (hCX:∀ H e s',CX [] H s₁ (fun _ _ _=>False) e s'→False) :
  codeAny (model P w) callerA (.call (.ref fa) ⟨[.ref a],[]⟩) (fun r s'=>r=.ok (.ret (.bool true))∧OldK s₁.heap s'.heap∧s'.os=s₁.os∧AllBare s'.gens) s₁:=by
 have rv:=vals_ints hi
 have lenV:=hi.length
 have core:∀ H:Hp,Only H→SqL K H a (ns.map V.int)→HOk P w H s₁.heap→(∀ b,H b≠none→b=a)→(H a≠none→K.lookup a=none)→
   codeAny (model P w) callerA (.call (.ref fa) ⟨[.ref a],[]⟩) (fun r s'=>r=.ok (.ret (.bool true))∧OldK s₁.heap s'.heap∧s'.os=s₁.os∧AllBare s'.gens) s₁:=by
  intro H hO hS hok hA hK
  have base_of:∀ {b:Addr} {o:Obj},s₁.heap.get? b=some o→H b=none→(hidT s₁.heap H).get? b=some o:=fun e n=>hidT_get e n
  have noA:∀ {b:Addr} {o:Obj} {es:Array DictEntry} {ep:Nat},s₁.heap.get? b=some o→o.data=.dict es ep→H b=none:=fun {b o es ep} e d=>by
   cases q:H b with
   | none=>rfl
   | some u=>
    have e':b=a:=hA b (by rw [q];simp)
    subst e'
    rw [ha] at e;cases e
    have d':Data.seq vs.toArray _=Data.dict es ep:=d
    cases d'
  have nsK:∀ {b:Addr} {m:Str→Option Value},s₁.heap.Ns b m→(hidT s₁.heap H).Ns b m:=fun {b m} ⟨o,es,ep,e,d,r⟩=>⟨o,es,ep,base_of e (noA e d),d,r⟩
  have hKb:K.In (hidT s₁.heap H):=fun b o e=>base_of (KX b o e) (by
   cases q:H b with
   | none=>rfl
   | some u=>
    have e':b=a:=hA b (by rw [q];simp)
    subst e'
    rw [hK (by rw [q];simp)] at e;cases e)
  have hM:Mod K mg (hidT s₁.heap H):=⟨hKb,nsK hns,⟨mb,nsK hb,hbb⟩,let ⟨mc,h1,h2⟩:=hlim;⟨mc,nsK h1,h2⟩⟩
  have e0:Env0 P w K mg (hidT s₁.heap H) callerA [] s₁ H:=⟨rfl,hM,fun b o e=>of_hidT e,Nat.le_of_eq (hidT_size _ _),trivial,fun b hb=>absurd (show b∈([]:List Addr) from hb) (by simp),hok,.of_eq hg⟩
  refine codeAny_mono ((F _ hKb (nsK hns)).run callerA [] s₁ H ⟨[.ref a],[]⟩ [.ref a] [.ref a] _ _ hr e0 (hbind s₁ (.ref a)) (.cons rfl .nil) (hsp H hO hS)) fun r s' h=>?_
  cases r with
  | error e=>exact (hCX H e s' h).elim
  | ok fl=>
   cases fl with
   | next=>exact False.elim h
   | brk=>exact False.elim h
   | cont=>exact False.elim h
   | ret u=>
    obtain ⟨v,H',os,bare,un,hok',r',q⟩:=h
    have q':v=.bl true:=q
    subst q'
    obtain rfl:u=Value.bool true:=r'
    refine ⟨rfl,OldK.of_keep fun b o e=>?_,os,bare⟩
    cases q:H b with
    | none=>exact un.keep b o e q (by intro z;exact absurd (show b∈([]:List Addr) from z) (by simp)) (by simp)
    | some u=>
     rcases hO b with z | ⟨ob,xs,z⟩
     ·rw [q] at z;cases z
     ·have z2:=un.frzs b ob _ z
      obtain ⟨e1,_⟩:=hok b _ z
      obtain ⟨e2,_⟩:=hok' b _ z2
      rw [e] at e1;cases e1
      exact e2
 cases hk:K.lookup a with
 | some o=>
  have e:=KX a o hk
  rw [ha] at e
  cases e
  refine core (fun _=>none) (fun _=>.inl rfl) (.inr ⟨_,vs.toArray,_,hk,rfl,rfl,rfl,by rw [List.size_toArray,lenV];exact hl,by simpa using rv⟩) (fun b u z=>by have z':(none:Option HO)=some u:=z;cases z') (fun b z=>absurd rfl z) fun z=>absurd rfl z
 | none=>
  refine core (fun b=>if b=a then some (.frz { cls:=.type "list",data:=.seq vs.toArray } (.lst (ns.map V.int))) else none) (fun b=>?_) (.inl (.inr ⟨{ cls:=.type "list",data:=.seq vs.toArray },if_pos rfl⟩)) (fun b u z=>?_) (fun b z=>?_) fun _=>hk
  ·by_cases hb:b=a
   ·exact .inr ⟨_,_,if_pos hb⟩
   ·exact .inl (if_neg hb)
  ·by_cases hb:b=a
   ·have z':=(if_pos hb).symm.trans z
    cases z'
    subst hb
    exact ⟨ha,by rw [List.length_map];exact hl,vs,_,rv,ha⟩
   ·have z':=(if_neg hb).symm.trans z
    cases z'
  ·by_cases hb:b=a
   ·exact hb
   ·exact absurd (if_neg hb) z
end L2
namespace L2
open PySem PySem.Spec PyProof.Rows
abbrev KOf {K:PySem.W.Frag} {h:Heap} (_:K.In h):PySem.W.Frag:=K
theorem walk_of {l:PySem.W.OpenLaw} {n k:Nat} {q:Program} {loose:List Str} {XP:(Str→Option Value)→Heap→Prop} {YP:World→Heap→Prop} {d:DefRec} {K:Params→PySem.W.Frag} {CX:World→CXT} {sp:World→Sp} {x:Str}
  (hn:l.most=some n) (hn2:n≤sizeLine) (hdf:d.params.defaults=[]) (hr:Room k callerA)
  (hY:∀ (w:World) (h:Heap),YP w h→(K w.params).In h)
  (F:∀ (w:World) (mg:Str→Option Value) (fa:Addr) (h:Heap),(K w.params).In h→h.Ns mainGlobals mg→mg d.name=some (.ref fa)→
   ∃ fd:FuncData,(∀ (s:Shared) (u:Value),BindsTo s fd ⟨[u],[]⟩ [(x,u)])∧
    ∀ base:Heap,(K w.params).In base→base.Ns mainGlobals mg→FnOk l.prog w (K w.params) mg base (CX w) k fa fd [x] (sp w))
  (hsp:∀ (w:World) (H:Hp) (a:Addr) (ns:List Int),ns.length≤n→Only H→SqL (K w.params) H a (ns.map V.int)→sp w [.ref a] H (fun v _=>v=.bl true) fun _ _ _=>False)
  (hCX:∀ (w:World) (H:Hp) (s:Shared) (e:Value) (s':Shared),CX w [] H s (fun _ _ _=>False) e s'→False) :
  PySem.W.WalkO q loose XP YP l.row.toRowW d [] (fun f vs=>PySem.call f vs):=by
 refine Att.attach_call hn hdf fun w s₀ s₁ mg mb fa o pm cd doc a vs ns G Y ho hd hcd hmg hobj hints hlen hg=>?_
 have KX:=hY w _ Y
 obtain ⟨fd,hb,hF⟩:=F w mg fa _ KX G.T.g hmg
 exact law_call KX G.T.g G.T.b G.T.builtins G.T.nolimit hg hobj hints (Nat.le_trans hlen hn2) hr hF hb (fun H hO hS=>hsp w H a ns hlen hO hS) fun H e s'=>hCX w H s₁ e s'
end L2
namespace L2
open PySem PySem.Spec PyProof.Rows
def inClass (s:Stmt) (j:Nat):Stmt:=match s with
 | .ClassDef _ _ _ body _ _ _ _ _ _ _=>body.getD j (.Pass ⟨0,0,0,0⟩)
 | _=>.Pass ⟨0,0,0,0⟩
def defArgs (s:Stmt):Arguments:=match s with
 | .FunctionDef _ a _ _ _ _ _ _ _ _=>a
 | _=>{ posonlyargs:=[],args:=[],vararg:=none,kwonlyargs:=[],kw_defaults:=[],kwarg:=none,defaults:=[] }
def defBody (s:Stmt):List Stmt:=match s with
 | .FunctionDef _ _ b _ _ _ _ _ _ _=>b
 | _=>[]
def defScope (s:Stmt):Scope:=match s with
 | .FunctionDef _ _ _ _ _ _ sc _ _ _=>sc
 | _=>{ kind:=.function,names:=[],isGenerator:=false,isCoroutine:=false }
abbrev CX0:CXT:=fun _ _ _ _ _ _=>False
abbrev E0:XK:=fun _ _ _=>False
theorem pass0 {X:Cx}:Passes CX0 X E0:=fun _ _ _ _ _ _ _ h=>h.elim
structure Fun (K:PySem.W.Frag) (x qual:Str) (st:Stmt) (f:Addr) (fd:FuncData):Prop where
 ex:∃ (oc:Value) (od:Option Addr) (kV doc pm:Value) (an:Option Addr) (cdv ct:Value) (osl:Array (Option Value)),
  fd=PySem.W.fnOf x qual (defArgs st) (defBody st) (defScope st) .none kV doc pm an cdv ct∧K.lookup f=some ⟨oc,od,.func fd,osl⟩∧PySem.W.codeIn K cdv qual=true
 kp:PySem.W.keepIn K (.ref f)=true
section
variable {P:Program} {w:World} {K:PySem.W.Frag} {mg:Str→Option Value} {base:Heap}
theorem Fun.ok {x qual:Str} {st:Stmt} {f:Addr} {fd:FuncData} {N ps:List Str} {k:Nat} {sp:Sp} (F:Fun K x qual st f fd) (S:FnScope N ps (defScope st)) (len:∀ vs H Q E,sp vs H Q E→vs.length=ps.length)
  (hbody:∀ (cdv:Value) (A:Around) (outer:List Env) (s:Shared) (H:Hp) (vs:List V) (Q:VK) (E:XK),Room k (A.deeper (envOfC qual (defScope st) s.heap.objs.size f cdv))→sp vs H Q E→
   ∃ t,PSs (cxOf CX0 P w K mg base N qual (defScope st) f cdv A outer s H E).nox (defBody st) t∧t { nx:=fun _ H'=>Q .non H',rt:=Q } (start N vs) H):FnOk P w K mg base CX0 (k + 1) f fd ps sp:=by
 obtain ⟨oc,od,kV,doc,pm,an,cdv,ct,osl,rfl,lk,hcd⟩:=F.ex
 refine fn_of lk hcd S len fun A outer s H vs Q E hr hsp=>?_
 obtain ⟨t,h,q⟩:=hbody cdv A outer s H vs Q E hr hsp
 exact ⟨t,h.nox,q⟩
theorem Fun.binds {x qual:Str} {st:Stmt} {f:Addr} {fd:FuncData} {ps:List Str} (F:Fun K x qual st f fd)
  (h:∀ (kV doc pm:Value) (an:Option Addr) (cdv ct:Value) (us:List Value),us.length=ps.length→bindArgs (PySem.W.fnOf x qual (defArgs st) (defBody st) (defScope st) .none kV doc pm an cdv ct) ⟨us,[]⟩=pure (ps.zip us)):Binds K fd ps []:=by
 obtain ⟨oc,od,kV,doc,pm,an,cdv,ct,osl,rfl,lk,hcd⟩:=F.ex
 exact .all (h kV doc pm an cdv ct)
theorem fun_mk {x qual:Str} {st:Stmt} {f:Addr} {oc:Value} {od an:Option Addr} {osl:Array (Option Value)} {kV doc pm cdv ct:Value} (l:K.lookup f=some ⟨oc,od,.func (PySem.W.fnOf x qual (defArgs st) (defBody st) (defScope st) .none kV doc pm an cdv ct),osl⟩)
  (c:PySem.W.codeIn K cdv qual=true) (k:PySem.W.keepIn K (.ref f)=true):Fun K x qual st f (PySem.W.fnOf x qual (defArgs st) (defBody st) (defScope st) .none kV doc pm an cdv ct):=⟨⟨oc,od,kV,doc,pm,an,cdv,ct,osl,rfl,l,c⟩,k⟩
end
theorem hu_of {A:Around} {k:Nat} (hr:Room k A):A.units + 1 < cLine:=Nat.lt_of_le_of_lt (Nat.add_le_add_left (by decide:1≤64) _) hr.units
theorem small1000 {n:Nat} (h:n≤1000):n < sizeLine:=Nat.lt_of_le_of_lt h (by decide)
section
variable {X:Cx}
theorem pv (i:Nat) {x:Str} {pos:Pos} (hN:X.N[i]?=some x:=by rfl) (hv:Vis X.env.scope x:=by first | exact Or.inl rfl | exact Or.inr (Or.inl rfl) | exact Or.inr (Or.inr rfl)) (hd:(x == ("__debug__":Str))=false:=by decide)
  (hcd:(x == ("__classdict__":Str))=false:=by decide):PE X (.Name x pos) (tVar i):=pe_var hN hv hd hcd
end
theorem iteF {A B:Prop} (h:B):if false=true then A else B:=by
 rw [if_neg Bool.false_ne_true]
 exact h
theorem iteT {A B:Prop} (h:A):if true=true then A else B:=by
 rw [if_pos rfl]
 exact h
theorem ite2 {c A B:Prop} [Decidable c] (h1:c→A) (h2:¬c→B):if c then A else B:=by
 by_cases h:c
 ·rw [if_pos h]
  exact h1 h
 ·rw [if_neg h]
  exact h2 h
def Same (H H':Hp):Prop:=∀ b o,H b=some o→H' b=some o
theorem Same.trans {H H1 H2:Hp} (a:Same H H1) (b:Same H1 H2):Same H H2:=fun c o h=>b c o (a c o h)
theorem Same.free {H H':Hp} (e:Same H H') {l:Addr} (h:H' l=Option.none):H l=Option.none:=by
 cases q:H l with
 | none=>rfl
 | some o=>
  rw [e l o q] at h
  cases h
theorem Same.seq {K:PySem.W.Frag} {H H':Hp} {a:Addr} {xs:List V} (e:Same H H') (h:SqL K H a xs):SqL K H' a xs:=by
 rcases h with (h | ⟨o,h⟩) | h
 ·exact .inl (.inl (e _ _ h))
 ·exact .inl (.inr ⟨o,e _ _ h⟩)
 ·exact .inr h
end L2
namespace L2
open PySem PySem.Spec PyProof.Rows
section
variable {X:Cx}
end
section
variable {κ:Type} [DecidableEq κ]
theorem nd_snoc:∀ {l:List κ} {k:κ},l.Nodup→¬k∈l→(l ++ [k]).Nodup
 | [],k,_,_=>by simp
 | a :: r,k,h,hk=>by
  obtain ⟨h1,h2⟩:=List.nodup_cons.mp h
  show (a :: (r ++ [k])).Nodup
  refine List.nodup_cons.mpr ⟨fun m=>?_,nd_snoc h2 fun m=>hk (List.mem_cons.mpr (Or.inr m))⟩
  rcases List.mem_append.mp m with q | q
  ·exact h1 q
  ·exact hk (List.mem_cons.mpr (Or.inl (List.mem_singleton.mp q).symm))
end
end L2
end
section
set_option Elab.async false
set_option linter.all false
set_option maxRecDepth 100000
namespace L2
open PySem PySem.Spec PyProof.Rows
def blk (X:Cx) (scope:Scope) (cl:List (Str × Addr)) (C:Addr) (x:Str) (s₀:Shared) (H₀:Hp) (fp:List Addr):Cx:=
 { X with N:=x :: X.N,s₀:=s₀,H₀:=H₀,env:=compEnvC scope cl C X.env,outer:=X.stack,ex:=fp,fn:=fun _=>false,pn:=[],xe:=fun _ _=>False }
structure CompOk (X:Cx) (scope:Scope) (x:Str):Prop where
 kind:scope.kind=.function
 ncell:∀ y∈scope.names,y.2≠.cell
 names:∀ y∈scope.names,y.2=.local→scope.names.lookup y.1=some .local
 hx:scope.names.lookup x=some .local
 free:∀ y∈scope.names,y.2=.free→X.env.kindOf y.1=some .cell∨X.env.kindOf y.1=some .free
 out:∀ y∈X.N,scope.names.lookup y≠some .local
 nd:X.N.Nodup
def compChk (sc:Scope) (N:List Str) (scope:Scope) (x:Str):Bool:=
 scope.kind == .function && scope.names.all (fun y=>y.2 != .cell) && scope.names.all (fun y=>y.2 != .local || scope.names.lookup y.1 == some .local) && scope.names.lookup x == some .local &&
 scope.names.all (fun y=>y.2 != .free || sc.names.lookup y.1 == some .cell || sc.names.lookup y.1 == some .free) && N.all (fun y=>scope.names.lookup y != some .local)
theorem CompOk.of {X:Cx} {scope:Scope} {x:Str} (hN:X.N.Nodup) (h:compChk X.env.scope X.N scope x=true):CompOk X scope x:=by
 unfold compChk at h
 simp only [Bool.and_eq_true,List.all_eq_true,Bool.or_eq_true,bne_iff_ne,beq_iff_eq,ne_eq] at h
 obtain ⟨⟨⟨⟨⟨h1,h2⟩,h3⟩,h4⟩,h5⟩,h6⟩:=h
 refine ⟨h1,fun y hy=>h2 y hy,fun y hy e=>(h3 y hy).resolve_left fun z=>z e,h4,fun y hy e=>?_,fun y hy=>h6 y hy,hN⟩
 rcases h5 y hy with (z | z) | z
 ·exact absurd e z
 ·exact .inl z
 ·exact .inr z
theorem lookup_mem' {α:Type}:∀ {l:List (Str × α)} {x:Str} {a:α},l.lookup x=some a→(x,a)∈l
 | [],_,_,h=>by simp at h
 | (y,b) :: r,x,a,h=>by
  rw [List.lookup_cons] at h
  split at h
  ·rename_i e
   have e':x=y:=by simpa using e
   cases h;subst e'
   exact List.mem_cons_self
  ·exact List.mem_cons_of_mem _ (lookup_mem' h)
theorem closure_ok {env:Env}:∀ (names:List (Str × NameKind)),(∀ y∈names,y.2=.free→∃ c,env.cells.lookup y.1=some c)→∀ acc:List (Str × Addr),(∀ n c,acc.lookup n=some c→env.cells.lookup n=some c)→
  ∃ cl,(forIn names acc (fun (p:Str × NameKind) (cs:List (Str × Addr))=>if (p.2 == NameKind.free)=true then (do let a ← cellOf env p.1;pure (ForInStep.yield ((p.1,a) :: cs))) else (pure (ForInStep.yield cs):Sem _)):Sem (List (Str × Addr)))=pure cl∧
   (∀ n c,cl.lookup n=some c→env.cells.lookup n=some c)∧(∀ n,(∃ c,acc.lookup n=some c)→∃ c,cl.lookup n=some c)∧∀ n,(n,NameKind.free)∈names→∃ c,cl.lookup n=some c
 | [],_,acc,ha=>⟨acc,by simp,ha,fun _ h=>h,fun _ h=>by simp at h⟩
 | (n,k) :: r,hf,acc,ha=>by
  have hr:∀ y∈r,y.2=.free→∃ c,env.cells.lookup y.1=some c:=fun y hy=>hf y (List.mem_cons_of_mem _ hy)
  by_cases hk:k=.free
  ·subst hk
   obtain ⟨c,hc⟩:=hf (n,.free) List.mem_cons_self rfl
   obtain ⟨cl,e,h1,h2,h3⟩:=closure_ok r hr ((n,c) :: acc) (fun n' c' h=>by
    rw [List.lookup_cons] at h
    split at h
    ·rename_i q
     have q':n'=n:=by simpa using q
     cases h;subst q';exact hc
    ·exact ha n' c' h)
   refine ⟨cl,?_,h1,fun n' h=>h2 n' ?_,fun n' h=>?_⟩
   ·rw [List.forIn_cons]
    simp only [beq_self_eq_true,if_true]
    have e2:cellOf env n=pure c:=by unfold cellOf;rw [hc]
    rw [e2]
    simp only [pure_bind]
    exact e
   ·obtain ⟨c',hc'⟩:=h
    rw [List.lookup_cons]
    split
    ·exact ⟨c,rfl⟩
    ·exact ⟨c',hc'⟩
   ·rcases List.mem_cons.mp h with q | q
    ·refine h2 n' ⟨c,?_⟩
     cases q
     rw [List.lookup_cons,beq_self_eq_true]
    ·exact h3 n' q
  ·have hb:(k == NameKind.free)=false:=by simpa using hk
   obtain ⟨cl,e,h1,h2,h3⟩:=closure_ok r hr acc ha
   refine ⟨cl,?_,h1,h2,fun n' h=>?_⟩
   ·rw [List.forIn_cons]
    simp only [hb,Bool.false_eq_true,if_false,pure_bind]
    exact e
   ·rcases List.mem_cons.mp h with q | q
    ·cases q;exact absurd rfl hk
    ·exact h3 n' q
theorem lookup_relabel {env:Env}:∀ {names:List (Str × NameKind)} {x:Str} {k:NameKind},
  (names.map fun (n,k)=>if (k == NameKind.free && env.scope.kind == .function && env.kindOf n == some .cell) then (n,NameKind.cell) else (n,k)).lookup x=some k→names.lookup x=some k∨(k=.cell∧names.lookup x=some .free)
 | [],_,_,h=>by simp at h
 | (n,j) :: r,x,k,h=>by
  have ih:=@lookup_relabel env r x k
  have h':List.lookup x ((if (j == NameKind.free && env.scope.kind == .function && env.kindOf n == some .cell)=true then (n,NameKind.cell) else (n,j)) :: _)=some k:=h
  by_cases hc:(j == NameKind.free && env.scope.kind == .function && env.kindOf n == some .cell)=true
  ·rw [if_pos hc] at h'
   cases hx:x == n with
   | true=>
    simp only [List.lookup_cons,hx] at h' ⊢
    cases h'
    have:j=.free:=by simp at hc;exact hc.1.1
    exact .inr ⟨rfl,by rw [this]⟩
   | false=>simp only [List.lookup_cons,hx] at h' ⊢;exact ih h'
  ·rw [if_neg hc] at h'
   cases hx:x == n with
   | true=>simp only [List.lookup_cons,hx] at h' ⊢;exact .inl h'
   | false=>simp only [List.lookup_cons,hx] at h' ⊢;exact ih h'
theorem compLoop_T {prog:Program} {w:World} {A:Around} {R:Result→Shared→Prop} {s:Shared} {elt target iter:Expr} {ifs:List Expr} {scope:Scope} {pos:Pos} {it acc:Value} {env:Env} (I:Nat→Shared→Prop)
  (turn:∀ n s,I n s→wpAny (model prog w) A (pyNext it) (fun r s₁=>match r with
   | none=>R (.ok .next) s₁
   | some v=>wpAny (model prog w) A (letOwnedTupleGo target it v) (fun _ s₀=>wpAny (model prog w) A (assign target env v) (fun _ s₂=>
     wpAny (model prog w) A (forIn ifs true fun c r=>if r=true then do let ok ← isTrue c env (eval c env);pure (ForInStep.yield ok) else pure (ForInStep.yield r)) (fun ok s₃=>
      if ok=true then wpAny (model prog w) A (eval elt env) (fun x s₄=>
       wpAny (model prog w) A (call (.builtin "list.append") [acc,x]) (fun _ s₅=>∃ m,m < n∧I m s₅) (fun _ _=>False) s₄) (fun _ _=>False) s₃
      else ∃ m,m < n∧I m s₃) (fun _ _=>False) s₂) (fun _ _=>False) s₀) (fun _ _=>False) s₁) (fun _ _=>False) s)
  (n:Nat) (h:I n s) :
  codeAny (model prog w) A (.compLoop (.ListComp elt [⟨target,iter,ifs,0⟩] scope pos) 0 it acc env) R s:=by
 refine codeAny_loop rfl I (fun n s hI=>?_) n h
 show wpAny _ A ((compTurn (.ListComp elt [⟨target,iter,ifs,0⟩] scope pos) 0 it acc env).onRaise (fun x=>do noteFrame x env;theTreesLotGoes x)) _ _ s
 refine wpAny_noted ?_
 rw [compTurn_list]
 refine wpAny_bind (wpAny_standAt (wpAny_bind (wpAny_mono (turn n s hI) (fun r s₁ h₁=>?_) fun _ _ h'=>h'.elim)))
 cases r with
 | none=>exact wpAny_pure h₁
 | some v=>
  refine wpAny_bind (wpAny_mono h₁ (fun _ s₀ h₀=>?_) fun _ _ h'=>h'.elim)
  refine wpAny_bind (wpAny_mono h₀ (fun _ s₂ h₂=>wpAny_bind (wpAny_mono h₂ (fun ok s₃ h₃=>?_) fun _ _ h'=>h'.elim)) fun _ _ h'=>h'.elim)
  cases ok with
  | false=>exact wpAny_pure ⟨rfl,h₃⟩
  | true=>
   exact wpAny_bind (wpAny_bind (wpAny_mono h₃ (fun x s₄ h₄=>wpAny_bind (wpAny_mono h₄ (fun _ s₅ h₅=>wpAny_pure (wpAny_pure ⟨rfl,h₅⟩)) fun _ _ h'=>h'.elim)) fun _ _ h'=>h'.elim))
def PTs (X:Cx) (ifs:List Expr) (t:TT):Prop:=
 ∀ (pins:List (Addr × Obj)) (s:Shared) (σ:St) (H:Hp) (Q:Bool→Hp→Prop),Inv X pins σ H s→t σ H Q→
  wpAny (model X.prog X.w) X.A (forIn ifs true fun c r=>if r=true then do let ok ← isTrue c X.env (eval c X.env);pure (ForInStep.yield ok) else pure (ForInStep.yield r)) (TP X pins σ Q) X.xe s
def tYes:TT:=fun _ H Q=>Q true H
theorem pts_nil {X:Cx}:PTs X [] tYes:=fun _ _ _ H _ I h=>wpAny_tests_nil ⟨H,I,h⟩
def tComp (wi:TI) (tt:TT) (te:TE):TE:=fun σ H Q=>wi σ H fun J H1=>∀ D,H1 D=none→∃ W:Nat→Nat→List V→Hp→Prop,(∃ m,W 0 m [] (upd H1 D (.lst [])))∧
 ∀ i m ys H,W i m ys H→(J.stop i H∧Q (.ref D) H)∨(J.go i H∧∀ x H',J.yld i H x H'→tt (some x :: σ) H' fun b H2=>
  if b=true then te (some x :: σ) H2 fun y H3=>H3 D=some (.lst ys)∧ys.length < sizeLine∧∃ m',m' < m∧W (i + 1) m' (ys ++ [y]) (upd H3 D (.lst (ys ++ [y])))
  else ∃ m',m' < m∧W (i + 1) m' ys H2)
theorem pe_comp {X:Cx} {elt iter:Expr} {x:Str} {px:Pos} {ifs:List Expr} {scope:Scope} {pos:Pos} {wi:TI} {tt:TT} {te:TE} (hc:X.calm=true) (ok:CompOk X scope x) (hi:PI X (.Name x px) iter wi)
  (ht:∀ cl C s₀ H₀ fp,PTs (blk X scope cl C x s₀ H₀ fp) ifs tt) (he:∀ cl C s₀ H₀ fp,PE (blk X scope cl C x s₀ H₀ fp) elt te)
  (hs:∀ x,foldedSetIterable iter X.env x=pure x:=by intro _;rfl):PE X (.ListComp elt [⟨.Name x px,iter,ifs,0⟩] scope pos) (tComp wi tt te):=by
 intro pins s σ H Q I h
 obtain ⟨cl,hcl,hsub,_,hall⟩:=closure_ok (env:=X.env) scope.names (fun y hy e=>I.ok.has y.1 (ok.free y hy e)) [] (fun _ _ z=>by simp at z)
 have hclos:closureFor scope X.env=pure cl:=by
  unfold closureFor
  simp only [bind_pure]
  exact hcl
 rw [eval_ListComp]
 refine wpAny_comprehension_free (use:=none) (E:=X.xe) (cl:=cl) rfl hs hclos ok.kind ok.names (thn (hi pins s σ H _ I h) fun v s1 h1=>thn h1 fun itv s2 h2=>?_)
 obtain ⟨it,fp,tn,J,H2,e,I2,T,st2,f2,R⟩:=h2
 subst e
 obtain ⟨W,⟨m0,w0⟩,turn⟩:=R s2.heap.objs.size I2.fresh
 refine wpAny_newObj_type (wpAny_newFunctionEnv ok.ncell (by intro y hy;simp at hy) (fun h₁ hns₁ hsb₁=>?_) ok.kind)
 dsimp only at hns₁ hsb₁ ⊢
 have I3:Inv X pins σ (upd H2 s2.heap.objs.size (.lst [])) { s2 with heap:=s2.heap.push { cls:=.type "list",data:=.seq ([]:List Value).toArray } }:=I2.lnew (t':=s2.toks) (ys:=[]) (its:=[]) .nil (Nat.zero_le _)
 generalize hH3:upd H2 s2.heap.objs.size (HO.lst [])=H3 at *
 generalize hs3:s2.heap.push { cls:=.type "list",data:=.seq ([]:List Value).toArray }=hp3 at *
 generalize hD:s2.heap.objs.size=D at *
 generalize hC:hp3.objs.size=C at *
 have hDC:D < C:=by rw [← hC,← hs3,Heap.size_push,hD];exact Nat.lt_succ_self _
 have old:∀ b o,hp3.get? b=some o→h₁.get? b=some o:=fun b o e=>(hsb₁.2 b (by rw [← hC];exact Nat.ne_of_lt (Heap.lt_size e))).trans (Heap.get?_push_of_some _ e)
 have fpl:∀ b∈fp,b < C:=fun b hb=>by
  obtain ⟨o,e,_⟩:=T.obj _ _ st2 b hb
  rw [← hC,← hs3,Heap.size_push]
  exact Nat.lt_succ_of_lt (Heap.lt_size e)
 have f3:∀ b∈fp,FpOk X pins H3 b:=fun b hb=>by
  obtain ⟨o,e,_⟩:=T.obj _ _ st2 b hb
  refine ⟨?_,(f2 b hb).2⟩
  rw [← hH3,upd_ne (by rw [← hD];exact Nat.ne_of_lt (Heap.lt_size e))]
  exact (f2 b hb).1
 have nstk:∀ b∈fp,b∉frs X.stack:=fun b hb z=>by
  obtain ⟨_,g1,g2,_⟩:=f3 b hb
  rcases List.mem_cons.mp (I3.stkSub b z) with q | q
  ·exact g1 q
  ·exact g2 q
 have YOk:(blk X scope cl C x { s2 with heap:=hp3 } H3 fp).Ok:=by
  refine ⟨I.ok.mod,?_,I.ok.glob,I.ok.blt,Nat.le_of_eq hC,?_,?_,?_,I.ok.hd,I.ok.frames,.inl rfl,?_,?_,?_,?_,?_,?_,?_⟩
  ·exact ok.kind
  ·exact fun a b c h1 h2=>I.ok.inj a b c (hsub a c h1) (hsub b c h2)
  ·intro a ha
   refine hall a ?_
   rcases ha with z | z
   ·rcases lookup_relabel (env:=X.env) z with q | ⟨_,q⟩
    ·exact absurd rfl (ok.ncell _ (lookup_mem' q))
    ·exact lookup_mem' q
   ·rcases lookup_relabel (env:=X.env) z with q | ⟨q,_⟩
    ·exact lookup_mem' q
    ·cases q
  ·intro a c hf;cases hf
  ·intro b hb
   refine ⟨Nat.ne_of_lt (fpl b hb),fun a c h1=>(f3 b hb).2.2.2.2.1 a c (hsub a c h1)⟩
  ·exact I3.bs
  ·exact Nat.le_trans I.ok.bsz I3.sz
  ·intro b o e hb
   rcases (f3 b hb).2.2.2.1 with z | z
   ·exact I.ok.noex b o e z
   ·exact absurd (Nat.lt_of_lt_of_le (Heap.lt_size e) (Nat.le_trans I.ok.bsz z)) (Nat.lt_irrefl _)
  ·exact nstk
  ·exact I3.stack
  ·exact I3.stkFree
 have Y0:Inv (blk X scope cl C x { s2 with heap:=hp3 } H3 fp) [] (none :: σ) H3 { s2 with heap:=h₁,toks:=s2.toks + ([]:List (Str × Value)).length }:=by
  refine ⟨YOk,rfl,I3.bare,Un.kept old,⟨_,hns₁,?_⟩,?_,?_,?_,fun p hp=>by simp [blk] at hp,I3.hok.kept old,?_⟩
  ·intro i y v e1 e2 e3
   cases i with
   | zero=>simp at e2
   | succ i=>
    have e1':X.N[i]?=some y:=by simpa [blk] using e1
    have e2':σ[i]?=some (some v):=by simpa using e2
    have hy:y∈X.N:=List.mem_of_getElem? e1'
    have hfree:(y,NameKind.free)∈scope.names:=by
     have key:∀ k,(relabel scope X.env).names.lookup y=some k→k≠.local→k=.cell∨k=.free→(y,NameKind.free)∈scope.names:=fun k q n hk=>by
      rcases lookup_relabel (env:=X.env) q with z | ⟨_,z⟩
      ·rcases hk with rfl | rfl
       ·exact absurd rfl (ok.ncell _ (lookup_mem' z))
       ·exact lookup_mem' z
      ·exact lookup_mem' z
     rcases e3 with z | z | z
     ·rcases lookup_relabel (env:=X.env) z with q | ⟨q,_⟩
      ·exact absurd q (ok.out y hy)
      ·cases q
     ·exact key _ z (by decide) (.inl rfl)
     ·exact key _ z (by decide) (.inr rfl)
    have hk:=ok.free _ hfree rfl
    obtain ⟨m,hn,hl⟩:=I3.loc
    obtain ⟨u,r,q⟩:=hl i y v e1' e2' (by rcases hk with z | z;exact .inr (.inl z);exact .inr (.inr z))
    refine ⟨u,r,.inr ⟨?_,?_⟩⟩
    ·rcases e3 with z | z | z
     ·rcases lookup_relabel (env:=X.env) z with q | ⟨q,_⟩
      ·exact absurd q (ok.out y hy)
      ·cases q
     ·exact .inl z
     ·exact .inr z
    ·rcases q with ⟨z,_⟩ | ⟨_,c,hc',hcell⟩
     ·rcases hk with q | q <;> (rw [z] at q;cases q)
     ·obtain ⟨c',hc2⟩:=hall y hfree
      have:c'=c:=by have:=hsub y c' hc2;rw [hc'] at this;exact (Option.some.inj this).symm
      subst this
      obtain ⟨o,ho,hd⟩:=hcell
      exact ⟨c',hc2,o,old _ _ ho,hd⟩
  ·intro a c h1
   obtain ⟨v,o,ho,hd⟩:=I3.cell a c (hsub a c h1)
   exact ⟨v,o,old _ _ ho,hd⟩
  ·show H3 C=none
   exact I3.hok.fresh (Nat.le_of_eq hC)
  ·exact fun a c h1=>I3.freeC a c (hsub a c h1)
  ·show (none :: σ).length=(x :: X.N).length
   rw [List.length_cons,List.length_cons,I.len]
 have back:∀ (s':Shared) (v:Option V) (H':Hp) (h':Heap),Inv (blk X scope cl C x { s2 with heap:=hp3 } H3 fp) [] (v :: σ) H' s'→Heap.SameBut C s'.heap h'→(∀ b∈fp,H' b=none)→Inv X pins σ H' { s' with heap:=h' }:=by
  intro s' v H' h' I' sb fr
  have neC:∀ b o,hp3.get? b=some o→b≠C:=fun b o e=>by rw [← hC];exact Nat.ne_of_lt (Heap.lt_size e)
  have U:Un (frs X.stack) fp H3 H' hp3 s'.heap:=I'.base
  refine I3.call' (ch:=fp) (H':=H') (s':={ s' with heap:=h' }) I'.os ⟨fun b o e n h1 h2=>(sb.2 b (neC b o e)).trans (U.keep b o e n h1 h2),fun b o e n h1 h2=>?_,U.free,fun b o e h2=>?_,U.tups,U.frzs,U.tbls⟩ (fun b ob e=>?_) I'.bare fun b hb=>?_
  ·obtain ⟨sl,q⟩:=U.slot b o e n h1 h2
   exact ⟨sl,(sb.2 b (neC b o e)).trans q⟩
  ·obtain ⟨o',q⟩:=U.there b o e h2
   exact ⟨o',(sb.2 b (neC b o e)).trans q⟩
  ·have fC:H' C=none:=I'.free
   refine (I'.hok b ob e).stay (fun c w' hc q=>(sb.2 c ?_).trans q) (fun _ q=>q) fun _ _ q=>q
   rintro rfl
   rcases hc with rfl | hc
   ·rw [fC] at e;cases e
   ·rw [fC] at hc;cases hc
  ·obtain ⟨_,g1,_,g3,g4,g5⟩:=f3 b hb
   exact ⟨g3,g1,g4,g5⟩
 have stat:∀ {H':Hp},(∀ b∈fp,H' b=none)→∀ b∈fp,FpOk (blk X scope cl C x { s2 with heap:=hp3 } H3 fp) [] H' b:=fun hn b hb=>
  ⟨hn b hb,Nat.ne_of_lt (fpl b hb),nstk b hb,.inl hb,fun a c h1=>(f3 b hb).2.2.2.2.1 a c (hsub a c h1),fun p hp=>by simp [blk] at hp⟩
 have st₁:tn 0 h₁:=T.keep _ _ _ st2 fun b _ o e=>old b o (by rw [← hs3];exact Heap.get?_push_of_some _ e)
 have loop:codeAny (model X.prog X.w) X.A (.compLoop (.ListComp elt [⟨.Name x px,iter,ifs,0⟩] scope pos) 0 (.ref it) (.ref D) (compEnvC scope cl C X.env)) (compPost (model X.prog X.w) X.A X.xe none (EP X pins σ Q) (.ref D) C)
   { s2 with heap:=h₁,toks:=s2.toks + ([]:List (Str × Value)).length }:=by
  refine compLoop_T (fun n s'=>∃ i v ys H',Inv (blk X scope cl C x { s2 with heap:=hp3 } H3 fp) [] (v :: σ) H' s'∧tn i s'.heap∧(∀ b∈fp,H' b=none)∧W i n ys H') ?_ m0 ⟨0,none,[],H3,Y0,st₁,fun b hb=>(f3 b hb).1,w0⟩
  rintro n s4 ⟨i,v,ys,H4,I4,st4,fr4,w4⟩
  rcases turn i n ys H4 w4 with ⟨stop,qn⟩ | ⟨go,step⟩
  ·refine thn (T.done (blk X scope cl C x { s2 with heap:=hp3 } H3 fp) rfl rfl rfl hc i [] s4 (v :: σ) H4 _ I4 (stat fr4) st4 stop) fun r s5 ⟨hr,I5⟩=>?_
   subst hr
   obtain ⟨m,hn,_⟩:=id I5.loc
   exact ⟨m,hn,fun h' sb=>⟨.ref D,H4,back s5 v H4 h' I5 sb fr4,rfl,qn⟩⟩
  ·refine thn (T.item (blk X scope cl C x { s2 with heap:=hp3 } H3 fp) rfl rfl rfl hc i [] s4 (v :: σ) H4 _ I4 (stat fr4) st4 go) fun r s5 ⟨u,hr,h5⟩=>?_
   subst hr
   refine thn h5 fun _ s6 ⟨y,H6,I6,r6,y6,st6,fr6⟩=>?_
   have I6':=I6.pinned (stat fr6) (T.obj _ _ st6)
   refine wpAny_assign_Name (store_ok (X:=blk X scope cl C x { s2 with heap:=hp3 } H3 fp) (i:=0) I6' ?_ rfl (.inl (lookup_relabel_local ok.hx)) r6 (fun s7 I7=>?_) (.inr (lookup_relabel_local ok.hx)))
   ·show (x :: X.N).Nodup
    exact List.nodup_cons.mpr ⟨fun z=>ok.out x z ok.hx,ok.nd⟩
   have I7':Inv (blk X scope cl C x { s2 with heap:=hp3 } H3 fp) _ (some y :: σ) H6 s7:=I7
   refine thn (ht cl C { s2 with heap:=hp3 } H3 fp _ s7 _ H6 _ I7' (step y H6 y6)) fun b s8 ⟨H8,I8,q8⟩=>?_
   have keepIt:∀ {σ':St} {H':Hp} {s':Shared},Inv (blk X scope cl C x { s2 with heap:=hp3 } H3 fp) ([] ++ pinsAt fp s6.heap) σ' H' s'→tn (i + 1) s'.heap∧∀ b∈fp,H' b=none:=fun {σ' H' s'} I9=>by
    refine ⟨T.keep _ _ _ st6 fun b hb o e=>(I9.pin (b,o) (List.mem_append_right _ (List.mem_append_right _ (mem_pinsAt hb e)))).1,fun b hb=>?_⟩
    obtain ⟨o,e,d⟩:=T.obj _ _ st6 b hb
    exact (I9.pin (b,o) (List.mem_append_right _ (List.mem_append_right _ (mem_pinsAt hb e)))).2.1
   cases b with
   | false=>
    obtain ⟨m',hm,w'⟩:=q8
    obtain ⟨k1,k2⟩:=keepIt I8
    exact ⟨m',hm,i + 1,some y,ys,H8,I8.unpinned,k1,k2,w'⟩
   | true=>
    have q8':te (some y :: σ) H8 _:=q8
    show wpAny _ _ (eval elt _) _ _ _
    refine thn (he cl C { s2 with heap:=hp3 } H3 fp _ s8 _ H8 _ I8 q8') fun z s9 ⟨zv,H9,I9,r9,hD9,hz9,m',hm,w'⟩=>?_
    refine thn (mt_append (X:=blk X scope cl C x { s2 with heap:=hp3 } H3 fp) _ s9 _ H9 (.ref D) [zv] (.ref D) [z] (fun _ H'=>H'=upd H9 D (.lst (ys ++ [zv]))) I9 rfl (.cons r9 .nil) ⟨D,ys,zv,rfl,rfl,hD9,hz9,rfl⟩) fun _ s10 ⟨_,H10,I10,_,e10⟩=>?_
    subst e10
    obtain ⟨k1,k2⟩:=keepIt I10
    exact ⟨m',hm,i + 1,some y,ys ++ [zv],_,I10.unpinned,k1,k2,w'⟩
 exact codeAny_compStart_list loop (T.self X.A 0 _ _ _ st₁ loop)
end L2
namespace L2
open PySem PySem.Spec PyProof.Rows
def Nxt (n i:Nat) (P:Prop):Prop:=∃ m',m' < n - i∧m'=n - (i + 1)∧i + 1≤n∧P
theorem Nxt.mk {n i:Nat} {P:Prop} (h:i < n) (p:P):Nxt n i P:=⟨_,by omega,rfl,h,p⟩
theorem comp_list {K:PySem.W.Frag} {a D:Addr} {xs:List V} {te:TE} {σ:St} {H:Hp} {R:Hp→Prop} (Pv:Nat→List V→Hp→Prop) (h0:Pv 0 [] (upd H D (.lst []))) (hl:∀ i ys H,i≤xs.length→Pv i ys H→SqL K H a xs)
  (hs:∀ i x ys H,xs[i]?=some x→Pv i ys H→te (some x :: σ) H fun y H3=>H3 D=some (.lst ys)∧ys.length < sizeLine∧Nxt xs.length i (Pv (i + 1) (ys ++ [y]) (upd H3 D (.lst (ys ++ [y])))))
  (hd:∀ ys H,Pv xs.length ys H→R H) :
  ∃ W:Nat→Nat→List V→Hp→Prop,(∃ m,W 0 m [] (upd H D (.lst [])))∧
   ∀ i m ys H,W i m ys H→((Itl K a).stop i H∧R H)∨((Itl K a).go i H∧∀ x H',(Itl K a).yld i H x H'→tYes (some x :: σ) H' fun b H2=>
    if b=true then te (some x :: σ) H2 fun y H3=>H3 D=some (.lst ys)∧ys.length < sizeLine∧∃ m',m' < m∧W (i + 1) m' (ys ++ [y]) (upd H3 D (.lst (ys ++ [y])))
    else ∃ m',m' < m∧W (i + 1) m' ys H2):=by
 refine ⟨fun i m ys H=>m=xs.length - i∧i≤xs.length∧Pv i ys H,⟨xs.length,by simp,Nat.zero_le _,h0⟩,?_⟩
 rintro i m ys H ⟨rfl,hi,p⟩
 have q:=hl i ys H hi p
 by_cases hlt:i < xs.length
 ·refine .inr ⟨⟨xs,xs[i],q,by simp [hlt]⟩,fun x H' y=>?_⟩
  obtain ⟨e,y⟩:=y
  subst e
  exact hs i x ys H' (y xs q) p
 ·have e:i=xs.length:=by omega
  subst e
  exact .inl ⟨⟨xs,q,Nat.le_refl _⟩,hd ys H p⟩
theorem comp_range {lo:Int} {n:Nat} {D:Addr} {te:TE} {σ:St} {H:Hp} {R:Hp→Prop} (Pv:Nat→List V→Hp→Prop) (h0:Pv 0 [] (upd H D (.lst [])))
  (hs:∀ i ys H,i < n→Pv i ys H→te (some (.int (lo + i)) :: σ) H fun y H3=>H3 D=some (.lst ys)∧ys.length < sizeLine∧Nxt n i (Pv (i + 1) (ys ++ [y]) (upd H3 D (.lst (ys ++ [y])))))
  (hd:∀ ys H,Pv n ys H→R H) :
  ∃ W:Nat→Nat→List V→Hp→Prop,(∃ m,W 0 m [] (upd H D (.lst [])))∧
   ∀ i m ys H,W i m ys H→((Itr lo n).stop i H∧R H)∨((Itr lo n).go i H∧∀ x H',(Itr lo n).yld i H x H'→tYes (some x :: σ) H' fun b H2=>
    if b=true then te (some x :: σ) H2 fun y H3=>H3 D=some (.lst ys)∧ys.length < sizeLine∧∃ m',m' < m∧W (i + 1) m' (ys ++ [y]) (upd H3 D (.lst (ys ++ [y])))
    else ∃ m',m' < m∧W (i + 1) m' ys H2):=by
 refine ⟨fun i m ys H=>m=n - i∧i≤n∧Pv i ys H,⟨n,by simp,Nat.zero_le _,h0⟩,?_⟩
 rintro i m ys H ⟨rfl,hi,p⟩
 by_cases hlt:i < n
 ·refine .inr ⟨hlt,fun x H' y=>?_⟩
  obtain ⟨e,y⟩:=y
  subst e y
  exact hs i ys H' hlt p
 ·have e:i=n:=by omega
  subst e
  exact .inl ⟨Nat.le_refl _,hd ys H p⟩
end L2
end
section
set_option Elab.async false
set_option linter.all false
set_option maxRecDepth 100000
namespace L2
open PySem PySem.Spec PyProof.Rows
def S (l:List Nat):Str:=⟨l.toArray⟩
theorem S_cps (l:List Nat):(S l).cps.toList=l:=rfl
theorem S_len (l:List Nat):(S l).length=l.length:=rfl
theorem S_inj {a b:List Nat} (h:S a=S b):a=b:=congrArg (fun s:Str=>s.cps.toList) h
theorem S_of (z:Str):S z.cps.toList=z:=by cases z;rfl
theorem S_app (a b:List Nat):S a ++ S b=S (a ++ b):=by
 show (⟨a.toArray ++ b.toArray⟩:Str)=⟨(a ++ b).toArray⟩
 simp
theorem S_dec (a b:List Nat):decide (V.str (S a)=V.str (S b))=decide (a=b):=by
 by_cases e:a=b
 ·subst e;simp
 ·rw [decide_eq_false e,decide_eq_false]
  intro z
  injection z with z
  exact e (S_inj z)
section
variable {X:Cx} {a b c e o:Expr} {ta tb tc te to:TE} {pos:Pos}
theorem pe_strS (l:List Nat) {x:Str} {j pos} (h:x=S l):PE X (.Constant (.str x) j pos) (tC (.str (S l))):=by rw [h];exact pe_str
def rAddS:R2:=fun x y H Q=>∃ i j,x=.str (S i)∧y=.str (S j)∧i.length + j.length≤sizeLine∧Q (.str (S (i ++ j))) H
theorem op_addS:OpR X (binaryOp .Add) rAddS:=by
 intro pins s σ H x y v u Q I rx ry h
 obtain ⟨i,j,rfl,rfl,hz,q⟩:=h
 exact op_add_str pins s σ H _ _ v u Q I rx ry ⟨S i,S j,rfl,rfl,hz,by rw [S_app];exact q⟩
def rIxS':R2:=fun x y H Q=>∃ l i c,x=.str (S l)∧y=.int i∧l.length≤sizeLine∧atI l i=some c∧Q (.str (S [c])) H
theorem ix_S:IxR X rIxS':=by
 intro value slice pins s σ H x y v u Q I rx ry h hs
 obtain ⟨l,i,c,rfl,rfl,hz,hc,q⟩:=h
 exact ix_str value slice pins s σ H _ _ v u Q I rx ry ⟨S l,i,c,rfl,rfl,hz,hc,q⟩ hs
def rLenS:List V→Hp→VK→Prop:=fun xs H Q=>∃ l,xs=[.str (S l)]∧l.length≤sizeLine∧Q (.int l.length) H
theorem call_lenS:CallR X (.builtin "len") rLenS:=by
 intro pins s σ H xs us Q I r h
 obtain ⟨l,rfl,hz,q⟩:=h
 exact call_len_str pins s σ H _ us Q I r ⟨S l,rfl,hz,q⟩
def rNeS:R2:=fun x y H Q=>∃ i j,x=.str (S i)∧y=.str (S j)∧Q (.bl (!decide (i=j))) H
theorem op_neS:OpR X (compareOp .NotEq) rNeS:=by
 intro pins s σ H x y v u Q I rx ry h
 obtain ⟨i,j,rfl,rfl,q⟩:=h
 exact op_ne pins s σ H _ _ v u Q I rx ry ⟨rfl,by rw [S_dec];exact q⟩
def rInS:R2:=fun x y H Q=>∃ c l,x=.str (S [c])∧y=.str (S l)∧Q (.bl (decide (c∈l))) H
theorem op_inS:OpR X (compareOp .In) rInS:=by
 intro pins s σ H x y v u Q I rx ry h
 obtain ⟨c,l,rfl,rfl,q⟩:=h
 exact op_in_str pins s σ H _ _ v u Q I rx ry ⟨S [c],S l,rfl,rfl,by
  have e:=StrLaws.found_one (S l) c
  rw [S_cps] at e
  rw [show (S [c])=(⟨#[c]⟩:Str) from rfl,e];exact q⟩
def cutN (l:List Nat) (lo hi:Option Int):List Nat:=(l.drop (HT.sIx l.length 0 lo)).take (HT.sIx l.length l.length hi - HT.sIx l.length 0 lo)
theorem idx_gen (lo hi:Option Int) (n:Nat):Builtin.Str.strSliceIndices lo hi 1 n=(List.range (HT.sIx n n hi - HT.sIx n 0 lo)).map (fun k=>HT.sIx n 0 lo + k):=by
 have clip:∀ (v:Int) (d:Nat),max (0:Int) (min (if v < 0 then v + (n:Int) else v) (n:Int))=((HT.sIx n d (some v):Nat):Int):=fun v d=>by
  rw [← HT.clip_eq];split <;> omega
 have key:∀ a b:Nat,sliceRange (a:Int) (b:Int) 1=(List.range (b - a)).map (fun k=>a + k):=fun a b=>by
  simp only [sliceRange,show ((1:Int) > 0)=True from by simp,if_true]
  by_cases hlt:(a:Int) < b
  ·have e3:(((b:Int) - a + 1 - 1) / 1).toNat=b - a:=by first | omega | (simp;done) | (simp;omega)
   simp only [hlt,if_true,e3]
   refine List.map_congr_left fun k _=>?_
   omega
  ·have:b - a=0:=by omega
   simp [hlt,this]
 unfold Builtin.Str.strSliceIndices
 simp only [show ((1:Int) > 0)=True from by simp,if_true]
 cases lo with
 | none=>
  cases hi with
  | none=>exact key 0 n
  | some j=>dsimp only;rw [clip j n];exact key 0 _
 | some i=>
  cases hi with
  | none=>dsimp only;rw [clip i 0];exact key _ n
  | some j=>dsimp only;rw [clip i 0,clip j n];exact key _ _
theorem slice_gen (l:List Nat) (lo hi:Option Int):Txt.slice (S l) lo hi=S (cutN l lo hi):=by
 have hle:HT.sIx l.length l.length hi≤l.length:=HT.sIx_le _ _ (Nat.le_refl _) _
 have key:((Builtin.Str.strSliceIndices lo hi 1 (S l).length).filterMap ((S l).cps[·]?))=cutN l lo hi:=by
  rw [idx_gen]
  have h:=StrLaws.picks l (HT.sIx l.length l.length hi - HT.sIx l.length 0 lo) (HT.sIx l.length 0 lo)
  unfold cutN
  by_cases hc:HT.sIx l.length 0 lo≤HT.sIx l.length l.length hi
  ·have h2:=h (by omega)
   rw [S_len]
   simpa [S] using h2
  ·have e:HT.sIx l.length l.length hi - HT.sIx l.length 0 lo=0:=by omega
   rw [S_len,e];simp
 unfold Txt.slice
 split
 ·rename_i hc
  have hlen:(Builtin.Str.strSliceIndices lo hi 1 (S l).length).length=l.length:=by
   simp at hc
   simpa [S_len] using hc
  have hl2:HT.sIx l.length l.length hi - HT.sIx l.length 0 lo=l.length:=by rw [idx_gen,S_len] at hlen;simpa using hlen
  have h0:HT.sIx l.length 0 lo=0∨l.length=0:=by omega
  have e:cutN l lo hi=l:=by
   unfold cutN
   rw [hl2]
   rcases h0 with z | z
   ·rw [z];simp
   ·have:l=[]:=List.length_eq_zero_iff.mp z
    subst this;simp
  rw [e]
 ·rw [key];rfl
def rSlS:V→Option Int→Option Int→Hp→VK→Prop:=fun x lo hi H Q=>∃ l,x=.str (S l)∧l.length≤sizeLine∧Q (.str (S (cutN l lo hi))) H
theorem part_of {v:Value} {o:Option Int} (p:IsPart v o):∃ l:Option (Int × Tok),v=partValue l∧l.map (·.1)=o:=by
 cases p with
 | none=>exact ⟨none,rfl,rfl⟩
 | int i t=>exact ⟨some (i,t),rfl,rfl⟩
theorem sl_S:SlR X rSlS:=by
 intro pins s σ H x v vl vu lo hi sl Q I rx hs pl pu h
 obtain ⟨l,rfl,hz,q⟩:=h
 obtain ⟨t,rfl⟩:=rx
 obtain ⟨p1,rfl,rfl⟩:=part_of pl
 obtain ⟨p2,rfl,rfl⟩:=part_of pu
 refine ⟨"str",_,F.slot_str_getitem.lookup,typeIs_str _ _ _,?_⟩
 refine wpAny_getItem_str_slice (l:=p1) (u:=p2) (st:=none) hs rfl ?_
 have e:=slice_gen l (p1.map (·.1)) (p2.map (·.1))
 have hle:(Txt.slice (S l) (p1.map (·.1)) (p2.map (·.1))).length≤sizeLine:=Nat.le_trans (Txt.slice_le _ _ _) hz
 refine post_val_or_str ⟨hle,fun t' k=>?_⟩
 have e':(if ((Option.map (fun x:Int × Tok=>x.1) none).getD 1 == 1 && (slicePicked (S l) p1 p2 none).length == (S l).length)=true then S l else ⟨((slicePicked (S l) p1 p2 none).filterMap ((S l).cps[·]?)).toArray⟩)=S (cutN l (p1.map (·.1)) (p2.map (·.1))):=e
 exact ⟨.str (S (cutN l (p1.map (·.1)) (p2.map (·.1)))),H,I.tok _,⟨t',congrArg (fun z=>Value.str z t') e'⟩,q⟩
abbrev Ts (ls:List (List Nat)):List V:=ls.map fun l=>V.str (S l)
def rInst (K:PySem.W.Frag):List V→Hp→VK→Prop:=fun xs H Q=>∃ x n t b,xs=[x,.ty n]∧TyOf K H x t∧PySem.W.kitOne K t (.type n)=some b∧Q (.bl b) H
theorem call_isinst:CallR X (.builtin "isinstance") (rInst X.K):=by
 intro pins s σ H xs us Q I r h
 obtain ⟨x,n,t,b,rfl,ty,k,q⟩:=h
 obtain ⟨u,w',rfl,r1,r2⟩:=vals2 r
 cases r2
 exact isinst_ok I r1 ty k fun tk=>⟨.bl b,H,I.tok tk,rfl,q⟩
def rMulS:R2:=fun x y H Q=>∃ l n,x=.str (S l)∧y=.int (n:Nat)∧1≤n∧n < 1000∧l.length < 1000∧Q (.str (S (List.replicate n l).flatten)) H
theorem rep_fold (l:List Nat):∀ (n:Nat) (acc:Array Nat),((List.replicate n l.toArray).foldl (· ++ ·) acc).toList=acc.toList ++ (List.replicate n l).flatten
 | 0,acc=>by simp
 | n + 1,acc=>by
  rw [List.replicate_succ,List.foldl_cons,rep_fold l n,List.replicate_succ]
  simp
theorem op_mulS:OpR X (binaryOp .Mult) rMulS:=by
 intro pins s σ H x y v u Q I rx ry h
 obtain ⟨l,n,rfl,rfl,h1,h2,h3,q⟩:=h
 obtain ⟨t,rfl⟩:=rx
 obtain ⟨t',rfl⟩:=ry
 have hsmall:l.length * n≤1000 * 1000:=Nat.mul_le_mul (Nat.le_of_lt h3) (Nat.le_of_lt h2)
 have hbig:(1000 * 1000:Nat)≤sizeLine:=by decide
 refine PySem.P.mul_str ?_ ?_ ?_ ?_
 ·rw [decide_eq_false (by omega),decide_eq_false (by omega)];rfl
 ·intro _ _
  have e:(2 ^ 63 - 1:Int) / (n:Int)≥1000:=by
   refine Int.le_ediv_of_mul_le (by omega) ?_
   have:(1000:Int) * (n:Int)≤1000 * 1000:=by omega
   omega
  rw [S_len]
  omega
 ·intro _ _
  show decide (_ > _)=false
  rw [decide_eq_false]
  rw [S_len,Int.toNat_natCast]
  omega
 ·rw [if_neg (by omega)]
  have hres:(⟨(List.replicate (n:Int).toNat (S l).cps).foldl (· ++ ·) #[]⟩:Str)=S (List.replicate n l).flatten:=by
   have e:=rep_fold l n #[]
   rw [Int.toNat_natCast]
   unfold S
   congr 1
   apply Array.toList_inj.mp
   simpa using e
  rw [hres]
  split
  ·rename_i hc
   have e:(List.replicate n l).flatten=l:=by
    simp at hc
    rcases hc with z | z
    ·have:n=1:=by omega
     subst this;simp
    ·have:l=[]:=by simpa [S,Str.length] using z
     subst this;simp
   rw [e] at q
   exact ⟨.str (S l),H,I,⟨t,rfl⟩,q⟩
  ·refine ⟨?_,.str (S (List.replicate n l).flatten),H,I.tok _,⟨_,rfl⟩,q⟩
   rw [S_len,len_rep,Nat.mul_comm]
   omega
theorem joinNil (ls:List (List Nat)):Txt.join (S []) (ls.map S)=S ls.flatten:=by
 unfold Txt.join Builtin.Str.glued
 have key:∀ (ls:List (List Nat)) (acc:Array Nat),((ls.map S).foldl (fun acc p=>acc ++ (S []).cps ++ p.cps) acc).toList=acc.toList ++ ls.flatten:=by
  intro ls
  induction ls with
  | nil=>intro acc;simp
  | cons l r ih=>intro acc;rw [List.map_cons,List.foldl_cons,ih];simp [S]
 unfold S
 congr 1
 apply Array.toList_inj.mp
 cases ls with
 | nil=>rfl
 | cons l r=>
  have:=key r (S l).cps
  have e:(List.map S (l :: r)).drop 1=List.map S r:=rfl
  show (((List.map S (l :: r)).drop 1).foldl _ (S l).cps).toList=_
  rw [e]
  exact this.trans (by simp [S])
def rJoin (K:PySem.W.Frag):V→List V→Hp→VK→Prop:=fun x vs H Q=>∃ p ls,x=.str (S [])∧vs=[.ref p]∧SqL K H p (Ts ls)∧ls.flatten.length≤1000∧Q (.str (S ls.flatten)) H
theorem strs_of:∀ {ls:List (List Nat)} {us:List Value},Vals (Ts ls) us→StrsAre us (ls.map S)
 | [],_,.nil=>.nil
 | l :: r,_,.cons q t=>by
  obtain ⟨t',rfl⟩:=q
  exact .cons (S l) t' (strs_of t)
theorem sum_len (ls:List (List Nat)):((ls.map S).map (·.length)).sum=ls.flatten.length:=by
 induction ls with
 | nil=>rfl
 | cons l r ih=>rw [List.map_cons,List.map_cons,List.sum_cons,ih,List.flatten_cons,List.length_append,S_len]
theorem mt_join:MtR X "str.join" (rJoin X.K):=by
 intro pins s σ H x vs v us Q I rx rv h
 obtain ⟨p,ls,rfl,rfl,hq,hz,q⟩:=h
 obtain ⟨t,rfl⟩:=rx
 obtain ⟨u,rfl,ru⟩:=vals1 rv
 cases ru
 obtain ⟨its,r,pl,_⟩:=I.list hq
 refine join_list pl.isList (ys:=ls.map S) (by simpa using strs_of r) ?_ fun t' k=>?_
 ·rw [sum_len];show _ + _ * 0≤_;omega
 ·exact ⟨.str (S ls.flatten),H,I.tok k,⟨t',congrArg (fun z=>Value.str z t') (joinNil ls)⟩,q⟩
end
end L2
end
section
set_option Elab.async false
set_option linter.all false
set_option maxRecDepth 100000
namespace L2
open PySem PySem.Spec PyProof.Rows
structure DefAt (K:PySem.W.Frag) (mg:Str→Option Value) (name:Str) (st:Stmt) (ps:List Str):Prop where
 ex:∃ f fd,Fun K name name st f fd∧Binds K fd ps []∧mg name=some (.ref f)
structure Def (P:Program) (w:World) (K:PySem.W.Frag) (mg:Str→Option Value) (base:Heap) (name:Str) (k:Nat) (ps:List Str) (sp:Sp):Prop where
 ex:∃ f fd,FnOk P w K mg base CX0 k f fd ps sp∧Binds K fd ps []∧mg name=some (.ref f)∧PySem.W.keepIn K (.ref f)=true
theorem DefAt.ok {P:Program} {w:World} {K:PySem.W.Frag} {mg:Str→Option Value} {base:Heap} {name:Str} {st:Stmt} {N ps:List Str} {k:Nat} {sp:Sp} (D:DefAt K mg name st ps) (S:FnScope N ps (defScope st)) (len:∀ vs H Q E,sp vs H Q E→vs.length=ps.length)
  (hbody:∀ (f:Addr) (cdv:Value) (A:Around) (outer:List Env) (s:Shared) (H:Hp) (vs:List V) (Q:VK) (E:XK),Room k (A.deeper (envOfC name (defScope st) s.heap.objs.size f cdv))→sp vs H Q E→
   ∃ t,PSs (cxOf CX0 P w K mg base N name (defScope st) f cdv A outer s H E).nox (defBody st) t∧t { nx:=fun _ H'=>Q .non H',rt:=Q } (start N vs) H):Def P w K mg base name (k + 1) ps sp:=by
 obtain ⟨f,fd,F,b,g⟩:=D.ex
 exact ⟨f,fd,F.ok S len (hbody f),b,g,F.kp⟩
section
variable {X:Cx} {x:Str} {p pos:Pos} {e:Expr} {es:List Expr} {t:TA}
theorem pe_own {k:Nat} {ps:List Str} {sp:Sp} (D:Def X.prog X.w X.K X.mg X.base x k ps sp) (hr:Room k X.A) (hg:Gl X x) (ha:PA X (e :: es) t) (hdb:(x == ("__debug__":Str))=false:=by decide)
  (hs:starEach (e :: es) X.env=(false,eval e X.env) :: starEach es X.env:=by rfl) (hpl:(backTo pos (starEach es X.env)).any (·.1)=false:=by rfl) :
  PE X (.Call (.Name x p) (e :: es) [] pos) (tCall sp [] E0 t):=by
 obtain ⟨f,fd,G,b,g,kp⟩:=D.ex
 exact pe_call G hr hg g kp b .nil pass0 ha hdb hs hpl
end
theorem Same.upd {H:Hp} {p:Addr} {o:HO} (h:H p=none):Same H (upd H p o):=fun b o' e=>by rw [upd_ne (ne_of_none e h)];exact e
theorem Same.upd' {H H':Hp} {p:Addr} {o:HO} (s:Same H H') (h:H p=none):Same H (L2.upd H' p o):=fun b o' e=>by rw [upd_ne (ne_of_none e h)];exact s b o' e
end L2
namespace L2
open PySem PySem.Spec PyProof.Rows
def noStar:Expr→Bool
 | .Starred ..=>false
 | _=>true
theorem star_of {e:Expr} {es:List Expr} {env:Env} (h:noStar e=true):starEach (e :: es) env=(false,eval e env) :: starEach es env:=by
 cases e <;> first | rfl | cases h
section
variable {X:Cx} {e:Expr} {es:List Expr} {te:TE} {t:TA}
theorem pa_c {i j pos} (h:PA X es t):PA X (.Constant (.int i) j pos :: es) (tCons (tC (.int i)) t):=pa_cons pe_int h (star_of rfl)
end
end L2
namespace L2
open PySem PySem.Spec PyProof.Rows
end L2
namespace L2
open PySem PySem.Spec PyProof.Rows
theorem defat_mk {K:PySem.W.Frag} {h:Heap} {mg:Str→Option Value} {name:Str} {st:Stmt} {ps:List Str} {f:Addr} {oc:Value} {od an:Option Addr} {osl:Array (Option Value)} {kV doc pm cdv ct:Value} (X:K.In h) (G:h.Ns mainGlobals mg)
  (a:PySem.W.nsIn K mainGlobals name=some (some (.ref f))) (l:K.lookup f=some ⟨oc,od,.func (PySem.W.fnOf name name (defArgs st) (defBody st) (defScope st) .none kV doc pm an cdv ct),osl⟩)
  (c:PySem.W.codeIn K cdv name=true) (k:PySem.W.keepIn K (.ref f)=true)
  (hb:∀ (kV doc pm:Value) (an:Option Addr) (cdv ct:Value) (us:List Value),us.length=ps.length→bindArgs (PySem.W.fnOf name name (defArgs st) (defBody st) (defScope st) .none kV doc pm an cdv ct) ⟨us,[]⟩=pure (ps.zip us)):DefAt K mg name st ps:=
 ⟨f,_,fun_mk l c k,(fun_mk l c k).binds hb,PySem.W.mg_of X G a⟩
theorem law_at {K:PySem.W.Frag} {h:Heap} {mg:Str→Option Value} {st:Stmt} {x:Str} {f fa:Addr} {oc:Value} {od an:Option Addr} {osl:Array (Option Value)} {kV doc pm cdv ct:Value} (X:K.In h) (G:h.Ns mainGlobals mg) (hfa:mg "law"=some (.ref fa))
  (a:PySem.W.nsIn K mainGlobals "law"=some (some (.ref f))) (l:K.lookup f=some ⟨oc,od,.func (PySem.W.fnOf "law" "law" (defArgs st) (defBody st) (defScope st) .none kV doc pm an cdv ct),osl⟩)
  (c:PySem.W.codeIn K cdv "law"=true) (k:PySem.W.keepIn K (.ref f)=true)
  (hb:∀ (kV doc pm:Value) (an:Option Addr) (cdv ct v:Value),bindArgs (PySem.W.fnOf "law" "law" (defArgs st) (defBody st) (defScope st) .none kV doc pm an cdv ct) ⟨[v],[]⟩=pure [(x,v)]) :
  ∃ fd:FuncData,Fun K "law" "law" st fa fd∧∀ (s:Shared) (v:Value),BindsTo s fd ⟨[v],[]⟩ [(x,v)]:=by
 have e:=hfa.symm.trans (PySem.W.mg_of X G a)
 cases e
 exact ⟨_,fun_mk l c k,fun s v=>.of_eq (hb kV doc pm an cdv ct v)⟩
def spLaw (K:PySem.W.Frag):Sp:=fun vs H Q _=>∃ (a:Addr) (ns:List Int),vs=[.ref a]∧SqL K H a (ns.map V.int)∧ns.length≤63∧∀ H',Q (.bl true) H'
theorem walkLaw {x:Str} {l:PySem.W.OpenLaw} {q:Program} {loose:List Str} {XP:(Str→Option Value)→Heap→Prop} {YP:World→Heap→Prop} {d:DefRec} {K:Params→PySem.W.Frag} (hn:l.most=some 63) (hdf:d.params.defaults=[])
  (hY:∀ (w:World) (h:Heap),YP w h→(K w.params).In h)
  (F:∀ (w:World) (mg:Str→Option Value) (fa:Addr) (h:Heap),(K w.params).In h→h.Ns mainGlobals mg→mg d.name=some (.ref fa)→
   ∃ fd:FuncData,(∀ (s:Shared) (u:Value),BindsTo s fd ⟨[u],[]⟩ [(x,u)])∧∀ base:Heap,(K w.params).In base→base.Ns mainGlobals mg→FnOk l.prog w (K w.params) mg base CX0 20 fa fd [x] (spLaw (K w.params))) :
  PySem.W.WalkO q loose XP YP l.row.toRowW d [] (fun f vs=>PySem.call f vs):=
 L2.walk_of (n:=63) (k:=20) (x:=x) (CX:=fun _=>CX0) (sp:=fun w=>spLaw (K w.params)) hn (by decide) hdf ⟨rfl,by decide,by decide⟩ hY F (fun _ _ a ns hl _ hS=>⟨a,ns,rfl,hS,hl,fun _=>rfl⟩) fun _ _ _ _ _ z=>z
end L2
end
section
set_option Elab.async false
set_option linter.all false
set_option maxRecDepth 100000
namespace L2
open PySem PySem.Spec PyProof.Rows
namespace RV
section
variable {prog:Program} {w:World} {A:Around} {E:Value→Shared→Prop} {s:Shared}
end
end RV
end L2
end
section
set_option Elab.async false
set_option linter.all false
set_option maxRecDepth 100000
namespace L2
open PySem PySem.Spec PyProof.Rows
section
variable {X:Cx} {o e st:Expr} {to te tst:TE} {apos cpos rpos pos p p2:Pos}
end
end L2
end
section
set_option Elab.async false
set_option linter.all false
set_option maxRecDepth 100000
namespace L2
open PySem PySem.Spec PyProof.Rows
structure QE (X:Cx) (e:Expr) (t:TE):Prop where
 out:PE X e t
structure QT (X:Cx) (e:Expr) (t:TT):Prop where
 out:PT X e t
structure QW (X:Cx) (e:Expr) (t:TT):Prop where
 out:PW X e t
structure QA (X:Cx) (es:List Expr) (t:TA):Prop where
 out:PA X es t
structure QS (X:Cx) (st:Stmt) (t:TS):Prop where
 out:PS X st t
structure QSs (X:Cx) (st:List Stmt) (t:TS):Prop where
 out:PSs X st t
structure QG (X:Cx) (e:Expr) (t:TG):Prop where
 out:PG X e t
structure QGs (X:Cx) (es:List Expr) (t:TGs):Prop where
 out:PGs X es t
structure QI (X:Cx) (tg iter:Expr) (wi:TI):Prop where
 out:PI X tg iter wi
structure QO (X:Cx) (e:Option Expr) (t:TO):Prop where
 out:PO X e t
structure QC (X:Cx) (op:CmpOp) (a b:Expr) (t:TE):Prop where
 out:PC X op a b t
structure QTs (X:Cx) (ifs:List Expr) (t:TT):Prop where
 out:PTs X ifs t
theorem QW.qt {X:Cx} {e:Expr} {t:TT} (h:QW X e t):QT X e t:=⟨h.out.pt⟩
section
variable {X:Cx} {st:Stmt} {rest:List Stmt} {t u:TS} {e:Expr} {te:TE} {pos:Pos}
theorem qss_nil  : QSs X [] tNext:=
 ⟨pss_nil⟩
end
section
variable {X:Cx} {st:Stmt} {rest:List Stmt} {t u:TS} {e:Expr} {te:TE} {pos:Pos}
theorem qss_cons (h1:QS X st t) (h2:QSs X rest u):QSs X (st :: rest) (tSeq t u):=
 ⟨pss_cons h1.out h2.out⟩
end
section
variable {X:Cx} {st:Stmt} {rest:List Stmt} {t u:TS} {e:Expr} {te:TE} {pos:Pos}
theorem qss_one (h1:QS X st t):QSs X [st] t:=
 ⟨pss_one h1.out⟩
end
section
variable {X:Cx} {st:Stmt} {rest:List Stmt} {t u:TS} {e:Expr} {te:TE} {pos:Pos}
theorem qs_if {c:Expr} {a b:List Stmt} {tc:TT} (hc:QT X c tc) (ha:QSs X a t) (hb:QSs X b u):QS X (.If c a b pos) (tIfS tc t u):=
 ⟨ps_if hc.out ha.out hb.out⟩
end
section
variable {X:Cx} {st:Stmt} {rest:List Stmt} {t u:TS} {e:Expr} {te:TE} {pos:Pos}
theorem qs_ret (he:QE X e te):QS X (.Return (some e) pos) (tRet te):=
 ⟨ps_ret he.out⟩
end
section
variable {X:Cx} {st:Stmt} {rest:List Stmt} {t u:TS} {e:Expr} {te:TE} {pos:Pos}
end
section
variable {X:Cx} {st:Stmt} {rest:List Stmt} {t u:TS} {e:Expr} {te:TE} {pos:Pos}
theorem qs_expr (he:QE X e te) (hs:swapsWith e none pos.line X.env=pure false:=by rfl):QS X (.Expr e pos) (tDrop te):=
 ⟨ps_expr he.out hs⟩
end
section
variable {X:Cx} {tg:Expr}
theorem qs_for {iter:Expr} {body:List Stmt} {wi:TI} {g:TG} {tb:TS} {pos:Pos} (hp:PassesOwn (model X.prog X.w) X.A X.env X.xe) (hc:X.calm=true) (hi:QI X tg iter wi) (hg:QG X tg g) (hb:QSs X body tb) (hs:∀ x,foldedSetIterable iter X.env x=pure x:=by intro _;rfl):QS X (.For tg iter body [] pos) (tFor wi g tb):=
 ⟨ps_for hp hc hi.out hg.out hb.out hs⟩
end
section
variable {X:Cx} {st:Stmt} {rest:List Stmt} {t u:TS} {e:Expr} {te:TE} {pos:Pos}
theorem qs_while {c:Expr} {body:List Stmt} {tc:TT} {tb:TS} (hp:PassesOwn (model X.prog X.w) X.A X.env X.xe) (hc:QT X c tc) (hb:QSs X body tb):QS X (.While c body [] pos) (tWhile tc tb):=
 ⟨ps_while hp hc.out hb.out⟩
end
section
variable {X:Cx} {pos:Pos}
theorem qs_set {i:Nat} {x:Str} {e:Expr} {te:TE} {pos':Pos} (hN:X.N.Nodup) (hi:X.N[i]?=some x) (hx:Loc X.env.scope x) (he:QE X e te) (hs:swapsWith e (some (.Name x pos')) pos.line X.env=pure false:=by rfl) (hf:X.fn x=true∨X.env.scope.names.lookup x=some .local:=by first | exact .inl rfl | exact .inr rfl | assumption):QS X (.Assign [.Name x pos'] e pos) (tAsg te (gName i)):=
 ⟨ps_set hN hi hx he.out hs hf⟩
end
section
variable {X:Cx} {st:Stmt} {rest:List Stmt} {t u:TS} {e:Expr} {te:TE} {pos:Pos}
end
section
variable {X:Cx} {st:Stmt} {rest:List Stmt} {t u:TS} {e:Expr} {te:TE} {pos:Pos}
end
section
variable {X:Cx} {st:Stmt} {rest:List Stmt} {t u:TS} {e:Expr} {te:TE} {pos:Pos}
end
section
variable {X:Cx} {o e value:Expr} {f:Str} {pos pos' tpos:Pos} {ta tv:TE}
theorem qs_fld (ha:QE X o ta) (hv:QE X value tv) (hs:swapsWith value (some (.Attribute o f pos')) pos.line X.env=pure false):QS X (.Assign [.Attribute o f pos'] value pos) (sFld X.K ta tv f):=
 ⟨ps_fld ha.out hv.out hs⟩
end
section
variable {X:Cx} {pos:Pos}
theorem qs_asg {tg e:Expr} {te:TE} {g:TG} (he:QE X e te) (hg:QG X tg g) (hs:swapsWithSole [tg] e pos.line X.env=pure false:=by rfl) (hw:swappedStores [tg] e X.env=pure none:=by rfl) (h1:(assignEach [tg] X.env).map (·.2)=[assign tg X.env]:=by rfl):QS X (.Assign [tg] e pos) (tAsg te g):=
 ⟨ps_asg he.out hg.out hs hw h1⟩
end
section
variable {X:Cx} {pos:Pos}
theorem qg_name {i:Nat} {x:Str} (hN:X.N.Nodup) (hi:X.N[i]?=some x) (hx:Loc X.env.scope x) (hf:X.fn x=true∨X.env.scope.names.lookup x=some .local:=by first | exact .inl rfl | exact .inr rfl | assumption):QG X (.Name x pos) (gName i):=
 ⟨pg_name hN hi hx hf⟩
end
section
variable {X:Cx} {pos:Pos}
theorem qg_tup {es:List Expr} {k:Nat} {t:TGs} {n:Nat} (hc:X.calm=true) (h:QGs X es t) (hn:(assignEach es X.env).length=n:=by rfl) (hst:(assignEach es X.env).findIdx? (·.1)=none:=by rfl):QG X (.Tuple es k pos) (gTup X.K n t):=
 ⟨pg_tup hc h.out hn hst⟩
end
section
variable {X:Cx} {pos:Pos}
theorem qgs_nil  : QGs X [] gNil:=
 ⟨pgs_nil⟩
end
section
variable {X:Cx} {pos:Pos}
theorem qgs_cons {e:Expr} {es:List Expr} {t:TG} {u:TGs} (h1:QG X e t) (h2:QGs X es u) (hs:(assignEach (e :: es) X.env).map (·.2)=assign e X.env :: (assignEach es X.env).map (·.2):=by rfl):QGs X (e :: es) (gCons t u):=
 ⟨pgs_cons h1.out h2.out hs⟩
end
section
variable {X:Cx}
theorem qe_int {i j pos}:QE X (.Constant (.int i) j pos) (tC (.int i)):=
 ⟨pe_int⟩
end
section
variable {X:Cx}
theorem qe_bl {b j pos}:QE X (.Constant (.bool b) j pos) (tC (.bl b)):=
 ⟨pe_bl⟩
end
section
variable {X:Cx}
theorem qe_non {j pos}:QE X (.Constant .none j pos) (tC .non):=
 ⟨pe_non⟩
end
section
variable {X:Cx} {a b c:Expr} {ta tb tc:TE} {pos:Pos}
theorem qe_op {op:Operator} {r:R2} (ho:OpR X (binaryOp op) r) (ha:QE X a ta) (hb:QE X b tb):QE X (.BinOp a op b pos) (tOp r ta tb):=
 ⟨pe_op ho ha.out hb.out⟩
end
section
variable {X:Cx} {a b c:Expr} {ta tb tc:TE} {pos:Pos}
end
section
variable {X:Cx} {a b c:Expr} {ta tb tc:TE} {pos:Pos}
theorem qe_cmpR {op:CmpOp} {r:R2} (ho:OpR X (compareOp op) r) (ha:QE X a ta) (hb:QE X b tb) (hm:behindInMarks op b=false):QE X (.Compare a [op] [b] pos) (tOp r ta tb):=
 ⟨pe_cmpR ho ha.out hb.out hm⟩
end
section
variable {X:Cx} {a b c:Expr} {ta tb tc:TE} {pos:Pos}
theorem qt_cmpR {op:CmpOp} {r:R2} (ho:OpR X (compareOp op) r) (ha:QE X a ta) (hb:QE X b tb) (hm:behindInMarks op b=false):QT X (.Compare a [op] [b] pos) (tTest (tOp r ta tb)):=
 ⟨pt_cmpR ho ha.out hb.out hm⟩
end
section
variable {X:Cx} {a b c:Expr} {ta tb tc:TE} {pos:Pos}
end
section
variable {X:Cx} {a b c:Expr} {ta tb tc:TE} {pos:Pos}
theorem qt_chain {op op':CmpOp} {r r':R2} (ho:OpR X (compareOp op) r) (ho':OpR X (compareOp op') r') (ha:QE X a ta) (hb:QE X b tb) (hc:QE X c tc) (hm:lastMarks [op,op'] [b,c]=false:=by with_unfolding_all rfl):QT X (.Compare a [op,op'] [b,c] pos) (tTest (tChain r r' ta tb tc)):=
 ⟨pt_chain ho ho' ha.out hb.out hc.out hm⟩
end
section
variable {X:Cx} {a b:Expr} {ta tb:TE} {pos:Pos} {tA tB':TT} {rest:List Expr}
theorem qt_val {e:Expr} {t:TE} (h:QE X e t) (he:∀ whole,isTrue e X.env whole=(do let v ← whole;standAt e.pos;holding [v] (truthy v)):=by intro _;rfl):QT X e (tB t):=
 ⟨pt_val h.out he⟩
end
section
variable {X:Cx} {a b c:Expr} {ta tb tc:TE} {pos:Pos}
end
section
variable {X:Cx} {a b:Expr} {ta tb:TE} {pos:Pos} {tA tB':TT} {rest:List Expr}
theorem qt_not (ha:QT X a tA):QT X (.UnaryOp .Not a pos) (tNot tA):=
 ⟨pt_not ha.out⟩
end
section
variable {X:Cx} {a b:Expr} {ta tb:TE} {pos:Pos} {tA tB':TT} {rest:List Expr}
theorem qw_and (ha:QT X a tA) (hb:QW X (.BoolOp .And (b :: rest) pos) tB'):QW X (.BoolOp .And (a :: b :: rest) pos) (tAnd tA tB'):=
 ⟨pw_and ha.out hb.out⟩
end
section
variable {X:Cx} {a b:Expr} {ta tb:TE} {pos:Pos} {tA tB':TT} {rest:List Expr}
theorem qw_and1 (ha:QT X a tA):QW X (.BoolOp .And [a] pos) tA:=
 ⟨pw_and1 ha.out⟩
end
section
variable {X:Cx} {a b:Expr} {ta tb:TE} {pos:Pos} {tA tB':TT} {rest:List Expr}
theorem qw_or (ha:QT X a tA) (hb:QW X (.BoolOp .Or (b :: rest) pos) tB'):QW X (.BoolOp .Or (a :: b :: rest) pos) (tOr tA tB'):=
 ⟨pw_or ha.out hb.out⟩
end
section
variable {X:Cx} {a b:Expr} {ta tb:TE} {pos:Pos} {tA tB':TT} {rest:List Expr}
theorem qw_or1 (ha:QT X a tA):QW X (.BoolOp .Or [a] pos) tA:=
 ⟨pw_or1 ha.out⟩
end
section
variable {X:Cx} {a b:Expr} {ta tb:TE} {pos:Pos} {tA tB':TT} {rest:List Expr}
end
section
variable {X:Cx} {a b:Expr} {ta tb:TE} {pos:Pos} {tA tB':TT} {rest:List Expr}
end
section
variable {X:Cx} {a b:Expr} {ta tb:TE} {pos:Pos} {tA tB':TT} {rest:List Expr}
end
section
variable {X:Cx} {a b:Expr} {ta tb:TE} {pos:Pos} {tA tB':TT} {rest:List Expr}
end
section
variable {X:Cx} {a b:Expr} {ta tb:TE} {pos:Pos} {tA tB':TT} {rest:List Expr}
end
section
variable {X:Cx} {a b c:Expr} {ta tb tc:TE} {pos:Pos}
theorem qe_ix {r:R2} (hr:IxR X r) (ha:QE X a ta) (hb:QE X b tb) (hs:PlainIx b):QE X (.Subscript a b pos) (tOp r ta tb):=
 ⟨pe_ix hr ha.out hb.out hs⟩
end
section
variable {X:Cx} {e:Expr} {te:TE} {lo hi:Option Expr} {tl th:TO} {pos p2:Pos}
theorem qe_slice {r:V→Option Int→Option Int→Hp→VK→Prop} (hr:SlR X r) (he:QE X e te) (hl:QO X lo tl) (hu:QO X hi th):QE X (.Subscript e (.Slice lo hi none p2) pos) (tSl r te tl th):=
 ⟨pe_slice hr he.out hl.out hu.out⟩
end
section
variable {X:Cx} {e:Expr} {te:TE} {lo hi:Option Expr} {tl th:TO} {pos p2:Pos}
theorem qo_none  : QO X none tNoPart:=
 ⟨po_none⟩
end
section
variable {X:Cx} {e:Expr} {te:TE} {lo hi:Option Expr} {tl th:TO} {pos p2:Pos}
theorem qo_some (h:QE X e te):QO X (some e) (tPart te):=
 ⟨po_some h.out⟩
end
section
variable {X:Cx} {e:Expr} {es:List Expr} {te:TE} {t:TA} {pos:Pos}
theorem qe_lst (h:QA X es t):QE X (.List es pos) (tLst t):=
 ⟨pe_lst h.out⟩
end
section
variable {X:Cx} {e:Expr} {es:List Expr} {te:TE} {t:TA} {pos:Pos}
theorem qe_tup {x1} (h:QA X es t):QE X (.Tuple es x1 pos) (tTup t):=
 ⟨pe_tup h.out⟩
end
section
variable {X:Cx} {e:Expr} {es:List Expr} {te:TE} {t:TA} {pos:Pos}
theorem qa_nil  : QA X [] tNil:=
 ⟨pa_nil⟩
end
section
variable {X:Cx} {e:Expr} {es:List Expr} {te:TE} {t:TA} {pos:Pos}
theorem qa_cons (ha:QE X e te) (hr:QA X es t) (hs:starEach (e :: es) X.env=(false,eval e X.env) :: starEach es X.env:=by rfl):QA X (e :: es) (tCons te t):=
 ⟨pa_cons ha.out hr.out hs⟩
end
section
variable {X:Cx} {x:Str} {p pos:Pos} {e:Expr} {es:List Expr} {t:TA} {id T:String} {r:List V→Hp→VK→Prop}
theorem qe_callB (hc:CallR X (.builtin id) r) (hg:Gl X x) (hm:X.mg x=none) (hv:bootBuiltins x=some (.builtin id)) (ha:QA X (e :: es) t) (hn:x≠"__name__":=by decide) (hdb:(x == ("__debug__":Str))=false:=by decide) (he:starEach (e :: es) X.env=(false,eval e X.env) :: starEach es X.env:=by rfl) (hpl:(backTo pos (starEach es X.env)).any (·.1)=false:=by rfl):QE X (.Call (.Name x p) (e :: es) [] pos) (tCB r t):=
 ⟨pe_callB hc hg hm hv ha.out hn hdb he hpl⟩
end
section
variable {X:Cx} {x:Str} {p pos:Pos} {e:Expr} {es:List Expr} {t:TA} {id T:String} {r:List V→Hp→VK→Prop}
theorem qe_callTy (hc:CallR X (.type T) r) (hg:Gl X x) (hm:X.mg x=none) (hv:bootBuiltins x=some (.type T)) (ha:QA X (e :: es) t) (hn:x≠"__name__":=by decide) (hdb:(x == ("__debug__":Str))=false:=by decide) (he:starEach (e :: es) X.env=(false,eval e X.env) :: starEach es X.env:=by rfl) (hpl:(backTo pos (starEach es X.env)).any (·.1)=false:=by rfl):QE X (.Call (.Name x p) (e :: es) [] pos) (tCB r t):=
 ⟨pe_callTy hc hg hm hv ha.out hn hdb he hpl⟩
end
section
variable {X:Cx} {x:Str} {p pos:Pos} {e:Expr} {es:List Expr} {t:TA} {id T:String} {r:List V→Hp→VK→Prop}
end
section
variable {X:Cx} {o e:Expr} {es:List Expr} {to:TE} {t:TA} {name:Str} {apos cpos:Pos} {T id:String} {r:V→List V→Hp→VK→Prop}
theorem qe_bm (pa:PlainAttrs T) (slot:Slot T name id) (hty:typeOf (.builtin id)=pure (.type "method_descriptor")) (hm:MtR X id r) (ho:QE X o to) (ha:QA X (e :: es) t) (hbase:attributeBase o name X.env (eval o X.env)=eval o X.env:=by rfl) (hfew:((backTo cpos (starEach (e :: es) X.env)).all (fun x=>!x.1) && (backToKw cpos (keywordEach [] X.env)).all (fun x=>x.1.isSome)
   && decide ((e :: es).length + ([]:List Keyword).length + (if ([]:List Keyword).isEmpty then 0 else 1) < 30))=true:=by rfl) (hline:(apos.endLine == cpos.line)=true:=by rfl) (hs:starEach (e :: es) X.env=(false,eval e X.env) :: starEach es X.env:=by rfl) (hplain:(backTo cpos (starEach es X.env)).any (·.1)=false:=by rfl):QE X (.Call (.Attribute o name apos) (e :: es) [] cpos) (tBM X.K T r to t):=
 ⟨pe_bm pa slot hty hm ho.out ha.out hbase hfew hline hs hplain⟩
end
section
variable {X:Cx} {o e:Expr} {es:List Expr} {to:TE} {t:TA} {name:Str} {apos cpos:Pos} {T id:String} {r:V→List V→Hp→VK→Prop}
theorem qe_bm0 (pa:PlainAttrs T) (slot:Slot T name id) (hty:typeOf (.builtin id)=pure (.type "method_descriptor")) (hm:MtR X id r) (ho:QE X o to) (hbase:attributeBase o name X.env (eval o X.env)=eval o X.env:=by rfl) (hline:(apos.endLine == cpos.line)=true:=by rfl):QE X (.Call (.Attribute o name apos) [] [] cpos) (tBM0 X.K T r to):=
 ⟨pe_bm0 pa slot hty hm ho.out hbase hline⟩
end
section
variable {X:Cx}
theorem qe_bltn {x:Str} {v:V} {u:Value} {pos:Pos} (hg:Gl X x) (hm:X.mg x=none) (hv:bootBuiltins x=some u) (r:RelV v u) (hn:x≠"__name__":=by decide) (hd:(x == ("__debug__":Str))=false:=by decide):QE X (.Name x pos) (tC v):=
 ⟨pe_bltn hg hm hv r hn hd⟩
end
section
variable {X:Cx}
end
section
variable {X:Cx} {tg:Expr}
theorem qi_list {l:Expr} {tl:TE} (hl:QE X l tl):QI X tg l (iList X.K tl):=
 ⟨pi_list hl.out⟩
end
section
variable {X:Cx} {tg:Expr}
theorem qi_tup {l:Expr} {tl:TE} (hl:QE X l tl):QI X tg l (iTup X.K tl):=
 ⟨pi_tup hl.out⟩
end
section
variable {X:Cx} {tg:Expr}
theorem qi_range1 {a:Expr} {ta:TA} {p pos:Pos} (hg:Gl X "range") (hm:X.mg "range"=none) (ha:QA X [a] ta) (hs:starEach [a] X.env=[(false,eval a X.env)]:=by rfl):QI X tg (.Call (.Name "range" p) [a] [] pos) (iRng1 ta):=
 ⟨pi_range1 hg hm ha.out hs⟩
end
section
variable {X:Cx} {tg:Expr}
theorem qi_range2 {a b:Expr} {ta:TA} {p pos:Pos} (hg:Gl X "range") (hm:X.mg "range"=none) (ha:QA X [a,b] ta) (hs:starEach [a,b] X.env=[(false,eval a X.env),(false,eval b X.env)]:=by rfl) (hs2:starEach [b] X.env=[(false,eval b X.env)]:=by rfl):QI X tg (.Call (.Name "range" p) [a,b] [] pos) (iRng2 ta):=
 ⟨pi_range2 hg hm ha.out hs hs2⟩
end
section
variable {X:Cx} {o e value:Expr} {f:Str} {pos pos' tpos:Pos} {ta tv:TE}
theorem qe_fld (he:QE X e ta) (hb:attributeBase e f X.env (eval e X.env)=eval e X.env):QE X (.Attribute e f pos) (tFld X.K ta f):=
 ⟨pe_fld he.out hb⟩
end
section
variable {X:Cx} {CX:CXT} {k:Nat} {f C:Addr} {fd:FuncData} {ps:List Str} {sp:Sp} {dvs:List V} {ds:List Value} {E:XK} {x m:Str} {p pos apos:Pos} {e o:Expr} {es:List Expr} {ta:TE} {t:TA}
end
section
variable {X:Cx} {CX:CXT} {k:Nat} {f C:Addr} {fd:FuncData} {ps:List Str} {sp:Sp} {dvs:List V} {ds:List Value} {E:XK} {x m:Str} {p pos apos:Pos} {e o:Expr} {es:List Expr} {ta:TE} {t:TA}
theorem qe_meth0 {pl:Sem Bool} (he:QE X o ta) (c:Cls X.K C) (hm:Meth X.K C m f) (F:FnOk X.prog X.w X.K X.mg X.base CX k f fd ps sp) (hr:Room k X.A) (hb:Binds X.K fd ps ds) (hd:Vals dvs ds) (hx:Passes CX X E) (ht:eval (.Call (.Attribute o m apos) [] [] pos) X.env=(do
   let ov ← eval o X.env
   standAt apos.atName
   let (f,first) ← holding [ov] (getMethod ov m pl)
   callWith pos f first (backTo pos (starEach [] X.env)) (backToKw pos (keywordEach [] X.env))):=by rfl):QE X (.Call (.Attribute o m apos) [] [] pos) (tMeth C m sp dvs E ta tNil):=
 ⟨pe_meth0 he.out c hm F hr hb hd hx ht⟩
end
section
variable {X:Cx} {CX:CXT} {k:Nat} {f C:Addr} {fd:FuncData} {ps:List Str} {sp:Sp} {dvs:List V} {ds:List Value} {E:XK} {x m:Str} {p pos apos:Pos} {e o:Expr} {es:List Expr} {ta:TE} {t:TA}
theorem qe_make (M:Mk X.K C f) (F:FnOk X.prog X.w X.K X.mg X.base CX k f fd ps sp) (hr:Room (k + 1) X.A) (hg:Gl X x) (hm:X.mg x=some (.ref C)) (hb:Binds X.K fd ps ds) (hd:Vals dvs ds) (hx:Passes CX X E) (ha:QA X (e :: es) t) (hdb:(x == ("__debug__":Str))=false:=by decide) (he:starEach (e :: es) X.env=(false,eval e X.env) :: starEach es X.env:=by rfl) (hpl:(backTo pos (starEach es X.env)).any (·.1)=false:=by rfl):QE X (.Call (.Name x p) (e :: es) [] pos) (tMake C sp dvs E t):=
 ⟨pe_make M F hr hg hm hb hd hx ha.out hdb he hpl⟩
end
section
variable {X:Cx} {CX:CXT} {k:Nat} {f C:Addr} {fd:FuncData} {ps:List Str} {sp:Sp} {dvs:List V} {ds:List Value} {E:XK} {x m:Str} {p pos apos:Pos} {e o:Expr} {es:List Expr} {ta:TE} {t:TA}
end
section
variable {X:Cx} {o i value:Expr} {td ty tv:TE} {pos pos':Pos}
theorem qe_dnewK  : QE X (.Dict [] [] pos) tDNewK:=
 ⟨pe_dnewK⟩
end
section
variable {X:Cx} {o i value:Expr} {td ty tv:TE} {pos pos':Pos}
end
section
variable {X:Cx} {o i value:Expr} {td ty tv:TE} {pos pos':Pos}
theorem qc_dnotin (hu:X.A.units + 1 < cLine) (hi:QE X i ty) (ho:QE X o td):QC X .NotIn i o (tDNotIn ty td):=
 ⟨pc_dnotin hu hi.out ho.out⟩
end
section
variable {X:Cx} {o e:Expr} {td ty:TE} {apos cpos:Pos}
end
section
variable {X:Cx} {o i value:Expr} {td ty tv:TE} {pos pos':Pos}
theorem qs_dput (hu:X.A.units + 1 < cLine) (ho:QE X o td) (hi:QE X i ty) (hv:QE X value tv) (hs:swapsWith value (some (.Subscript o i pos')) pos.line X.env=pure false):QS X (.Assign [.Subscript o i pos'] value pos) (sDPut td ty tv):=
 ⟨ps_dput hu ho.out hi.out hv.out hs⟩
end
section
variable {X:Cx} {a b:Expr} {ta tb:TE} {pos:Pos} {tA tB':TT} {rest:List Expr}
end
section
variable {X:Cx} {a b:Expr} {ta tb:TE} {pos:Pos} {tA tB':TT} {rest:List Expr}
theorem qt_cmp {op:CmpOp} {t:TE} (h:QC X op a b t) (h1:behindInMarks op b=false:=by first | exact nobehind _ (by decide) (by decide) | rfl):QT X (.Compare a [op] [b] pos) (tB t):=
 ⟨pt_cmp h.out h1⟩
end
section
variable {X:Cx}
theorem qv (i:Nat) {x:Str} {pos:Pos} (hN:X.N[i]?=some x:=by rfl) (hv:Vis X.env.scope x:=by first | exact Or.inl rfl | exact Or.inr (Or.inl rfl) | exact Or.inr (Or.inr rfl)) (hd:(x == ("__debug__":Str))=false:=by decide) (hcd:(x == ("__classdict__":Str))=false:=by decide):QE X (.Name x pos) (tVar i):=
 ⟨pv i hN hv hd hcd⟩
end
section
variable {X:Cx}
theorem qts_nil {X:Cx}:QTs X [] tYes:=
 ⟨pts_nil⟩
end
section
variable {X:Cx}
end
section
variable {X:Cx}
theorem qe_strS (l:List Nat) {x:Str} {j pos} (h:x=S l):QE X (.Constant (.str x) j pos) (tC (.str (S l))):=
 ⟨pe_strS l h⟩
end
section
variable {X:Cx} {e:Expr} {es:List Expr} {te:TE} {t:TA} {pos:Pos}
theorem qa_c {i j pos} (h:QA X es t):QA X (.Constant (.int i) j pos :: es) (tCons (tC (.int i)) t):=
 ⟨pa_c h.out⟩
end
section
variable {X:Cx} {x:Str} {p pos:Pos} {e:Expr} {es:List Expr} {t:TA}
theorem qe_own {k:Nat} {ps:List Str} {sp:Sp} (D:Def X.prog X.w X.K X.mg X.base x k ps sp) (hr:Room k X.A) (hg:Gl X x) (ha:QA X (e :: es) t) (hdb:(x == ("__debug__":Str))=false:=by decide) (hs:starEach (e :: es) X.env=(false,eval e X.env) :: starEach es X.env:=by rfl) (hpl:(backTo pos (starEach es X.env)).any (·.1)=false:=by rfl):QE X (.Call (.Name x p) (e :: es) [] pos) (tCall sp [] E0 t):=
 ⟨pe_own D hr hg ha.out hdb hs hpl⟩
end
section
variable {X:Cx} {o e st:Expr} {to te tst:TE} {apos cpos rpos pos p p2:Pos}
end
section
variable {X:Cx} {o e st:Expr} {to te tst:TE} {apos cpos rpos pos p p2:Pos}
end
theorem qe_comp {X:Cx} {elt iter:Expr} {x:Str} {px:Pos} {ifs:List Expr} {scope:Scope} {pos:Pos} {wi:TI} {tt:TT} {te:TE} (hc:X.calm=true) (ok:CompOk X scope x) (hi:QI X (.Name x px) iter wi)
  (ht:∀ cl C s₀ H₀ fp,QTs (blk X scope cl C x s₀ H₀ fp) ifs tt) (he:∀ cl C s₀ H₀ fp,QE (blk X scope cl C x s₀ H₀ fp) elt te)
  (hs:∀ x,foldedSetIterable iter X.env x=pure x:=by intro _;rfl):QE X (.ListComp elt [⟨.Name x px,iter,ifs,0⟩] scope pos) (tComp wi tt te):=
 ⟨pe_comp hc ok hi.out (fun cl C s₀ H₀ fp=>(ht cl C s₀ H₀ fp).out) (fun cl C s₀ H₀ fp=>(he cl C s₀ H₀ fp).out) hs⟩
theorem DefAt.qok {P:Program} {w:World} {K:PySem.W.Frag} {mg:Str→Option Value} {base:Heap} {name:Str} {st:Stmt} {N ps:List Str} {k:Nat} {sp:Sp} (D:DefAt K mg name st ps) (S:FnScope N ps (defScope st)) (len:∀ vs H Q E,sp vs H Q E→vs.length=ps.length)
  (hbody:∀ (f:Addr) (cdv:Value) (A:Around) (outer:List Env) (s:Shared) (H:Hp) (vs:List V) (Q:VK) (E:XK),Room k (A.deeper (envOfC name (defScope st) s.heap.objs.size f cdv))→sp vs H Q E→
   ∃ t,QSs (cxOf CX0 P w K mg base N name (defScope st) f cdv A outer s H E).nox (defBody st) t∧t { nx:=fun _ H'=>Q .non H',rt:=Q } (start N vs) H):Def P w K mg base name (k + 1) ps sp:=
 D.ok S len fun f cdv A outer s H vs Q E hr h=>let ⟨t,a,b⟩:=hbody f cdv A outer s H vs Q E hr h;⟨t,a.out,b⟩
theorem Fun.qok {P:Program} {w:World} {K:PySem.W.Frag} {mg:Str→Option Value} {base:Heap} {x qual:Str} {st:Stmt} {f:Addr} {fd:FuncData} {N ps:List Str} {k:Nat} {sp:Sp} (F:Fun K x qual st f fd) (S:FnScope N ps (defScope st)) (len:∀ vs H Q E,sp vs H Q E→vs.length=ps.length)
  (hbody:∀ (cdv:Value) (A:Around) (outer:List Env) (s:Shared) (H:Hp) (vs:List V) (Q:VK) (E:XK),Room k (A.deeper (envOfC qual (defScope st) s.heap.objs.size f cdv))→sp vs H Q E→
   ∃ t,QSs (cxOf CX0 P w K mg base N qual (defScope st) f cdv A outer s H E).nox (defBody st) t∧t { nx:=fun _ H'=>Q .non H',rt:=Q } (start N vs) H):FnOk P w K mg base CX0 (k + 1) f fd ps sp:=
 F.ok S len fun cdv A outer s H vs Q E hr h=>let ⟨t,a,b⟩:=hbody cdv A outer s H vs Q E hr h;⟨t,a.out,b⟩
end L2
end
section
set_option Elab.async false
set_option linter.all false
set_option maxRecDepth 100000
namespace L2
open PySem PySem.Spec PyProof.Rows
section
variable {prog:Program} {w:World} {A:Around} {E:Value→Shared→Prop} {s:Shared}
theorem sorted_any {v:Value} {Q:Value→Shared→Prop} (hcol:wpAny (model prog w) A.in1 (collect v) (fun vs s1=>∃ ss,StrsAre vs ss∧vs.length < 64∧
   ∀ (h':Heap) (vs':List Value) (ss':List Str) (e:Nat),(∀ b o,s1.heap.get? b=some o→h'.get? b=some o)→h'.get? s1.heap.objs.size=some (seqObj "list" vs'.toArray e)→StrsAre vs' ss'→ss'.Perm ss→sortedS ss'=true→
    Q (.ref s1.heap.objs.size) { s1 with heap:=h' }) E s):wpAny (model prog w) A (call (.builtin "sorted") [v]) Q E s:=by
 refine Calls.call_function_entry kind_sorted plain_sorted entry_sorted (args_sorted1 _) ?_
 unfold Builtin.«sorted»
 refine wpAny_bind (m:=checkCount "sorted" 1 1 _) (wpAny_pure ?_)
 refine wpAny_bind (thn hcol fun vs s1 ⟨ss,hS,h64,h⟩=>?_)
 refine wpAny_bind (wpAny_newList ?_)
 have hoL:(s1.heap.push (seqObj "list" vs.toArray 0)).get? s1.heap.objs.size=some (seqObj "list" vs.toArray 0):=Heap.get?_push_size _ rfl
 refine wpAny_bind (wpAny_holding (wpAny_call_entry slot_list_sort (s:={ s1 with heap:=s1.heap.push (seqObj "list" vs.toArray 0) }) ⟨_,hoL,rfl⟩ entry_list_sort
  (list_sort_treeK (s:={ s1 with heap:=s1.heap.push (seqObj "list" vs.toArray 0) }) strKind_oneLt hoL hS.keysOf (fun v₁ v₂ rest e=>keyKind_strs (by rw [← e];exact hS)) h64 fun st' hp hs=>⟨_,rfl,?_⟩) (args_list_sort _)))
 obtain ⟨ss',h1,h2,h3⟩:=sorted_out_str hS hp hs
 obtain ⟨e,he⟩:=sortedHeap_at (vs:=vs) (out:=(arrOf st').map (·.2)) hoL
 refine wpAny_pure ⟨_,rfl,h _ ((arrOf st').map (·.2)).toList ss' e (fun b o z=>?_) (by rw [Array.toArray_toList];exact he) h1 h2 h3⟩
 have hb:b < s1.heap.objs.size:=Heap.lt_size z
 rw [sortedHeap_old (Nat.ne_of_lt hb) (by rw [Heap.size_push];exact Nat.lt_succ_of_lt hb)]
 exact Heap.get?_push_of_some _ z
end
theorem signs_of {x:Str} {vs:Array Value} (h:ItemsOf (SignAt x) vs x.cps.size):StrsAre vs.toList (x.cps.toList.map fun c=>(⟨#[c]⟩:Str)):=by
 have key:∀ (l:List Value) (m:List Nat),l.length=m.length→(∀ (j:Nat) v,l[j]?=some v→∃ c u,m[j]?=some c∧v=.str ⟨#[c]⟩ u)→StrsAre l (m.map fun c=>(⟨#[c]⟩:Str)):=by
  intro l
  induction l with
  | nil=>
   intro m hl _
   cases m with
   | nil=>exact .nil
   | cons c r=>simp at hl
  | cons a r ih=>
   intro m hl hv
   cases m with
   | nil=>simp at hl
   | cons c m=>
    obtain ⟨c',u,e,rfl⟩:=hv 0 a rfl
    have e':c=c':=by simpa using e
    subst e'
    exact .cons _ u (ih m (by simpa using hl) fun j v hj=>hv (j + 1) v hj)
 refine key _ _ (by simpa using h.1) fun j v hj=>?_
 obtain ⟨c,u,e1,e2⟩:=h.2 j v (by simpa using hj)
 exact ⟨c,u,by simpa using e1,e2⟩
section
variable {X:Cx}
theorem vals_of_strs:∀ {ss:List Str} {us:List Value},StrsAre us ss→Vals (ss.map V.str) us
 | _,_,.nil=>.nil
 | _,_,.cons x t r=>.cons ⟨t,rfl⟩ (vals_of_strs r)
end
end L2
end
section
set_option Elab.async false
set_option linter.all false
set_option maxRecDepth 100000
namespace L2
open PySem PySem.Spec PyProof.Rows
theorem nlt_trans {a b c:List Nat} (h1:¬b < a) (h2:¬c < b):¬c < a:=by
 have h1':a≤b:=h1
 have h2':b≤c:=h2
 exact List.le_trans h1' h2'
theorem rising_pw:∀ (r:List Str) (p:Str),risingS p r=true→(∀ x∈r,¬x.cps.toList < p.cps.toList)∧(r.map fun y=>y.cps.toList).Pairwise (fun a b=>decide (b < a)=false)
 | [],_,_=>⟨fun _ h=>by simp at h,List.Pairwise.nil⟩
 | y :: r,p,h=>by
  rw [risingS,Bool.and_eq_true] at h
  have h0:¬y.cps.toList < p.cps.toList:=by
   have:=h.1
   simpa [ltCps_eq] using this
  obtain ⟨h1,h2⟩:=rising_pw r y h.2
  refine ⟨fun x hx=>?_,?_⟩
  ·rcases List.mem_cons.mp hx with e | e
   ·rw [e];exact h0
   ·exact nlt_trans h0 (h1 x e)
  ·rw [List.map_cons]
   refine List.Pairwise.cons (fun b hb=>?_) h2
   obtain ⟨x,hx,rfl⟩:=List.mem_map.mp hb
   exact decide_eq_false (h1 x hx)
theorem sorted_pw (ss:List Str) (h:sortedS ss=true):(ss.map fun y=>y.cps.toList).Pairwise (fun a b=>decide (b < a)=false):=by
 cases ss with
 | nil=>exact List.Pairwise.nil
 | cons x r=>
  obtain ⟨h1,h2⟩:=rising_pw r x h
  rw [List.map_cons]
  refine List.Pairwise.cons (fun b hb=>?_) h2
  obtain ⟨y,hy,rfl⟩:=List.mem_map.mp hb
  exact decide_eq_false (h1 y hy)
section
variable {X:Cx} {tg:Expr}
abbrev keyS (l:List Nat):Key:=Sum.inr (S l)
end
end L2
end
section
set_option Elab.async false
set_option linter.all false
set_option maxRecDepth 100000
set_option maxHeartbeats 2000000
namespace L2
open PySem PySem.Spec PyProof.Rows PySem.W
def rSortSP:List V→Hp→VK→Prop:=fun xs H Q=>∃ l,xs=[.str (S l)]∧l.length < 64∧∀ (p:Addr) (ls':List Nat),H p=none→ls'.Perm l→(ls'.map fun c=>[c]).Pairwise (fun a b=>decide (b < a)=false)→Q (.ref p) (upd H p (.lst (Ts (ls'.map fun c=>[c]))))
section
variable {X:Cx}
theorem call_sortedSP (hc:X.calm=true):CallR X (.builtin "sorted") rSortSP:=by
 intro pins s σ H xs us Q I r h
 obtain ⟨l,rfl,h64,q⟩:=h
 obtain ⟨u,rfl,ru⟩:=vals1 r
 obtain ⟨t,rfl⟩:=ru
 have hz:(S l).cps.size≤sizeLine:=by show l.length≤sizeLine;exact Nat.le_of_lt (small1000 (by omega))
 refine sorted_any (wpAny_collect_str (A:=X.A.in1) (I.ok.hd hc) (S l) t (fun s1 acc k1 k2 k3 k4 hacc=>?_) hz)
 have hS:=signs_of hacc
 refine ⟨_,hS,?_,fun h' vs' ss' e kk he hS' pm srt=>?_⟩
 ·rw [Array.length_toList,hacc.1];exact h64
 have I1:Inv X pins σ H s1:=by
  have I5:=I.kept (h':=s1.heap) (t':=s1.toks) k1
  obtain ⟨h',g',d',t'',o'⟩:=s1
  simp only at k2 k3 k4
  subst k2 k3 k4
  exact I5
 have pm':(ss'.map fun y=>y.cps.toList.headD 0).Perm l:=by
  have:=pm.map fun y:Str=>y.cps.toList.headD 0
  rw [List.map_map] at this
  have e:((fun y:Str=>y.cps.toList.headD 0) ∘ fun c=>(⟨#[c]⟩:Str))=id:=rfl
  rw [e,List.map_id,S_cps] at this
  exact this
 have es:ss'=(ss'.map fun y=>y.cps.toList.headD 0).map fun c=>(⟨#[c]⟩:Str):=by
  rw [List.map_map]
  refine (List.map_id _).symm.trans (List.map_congr_left fun y hy=>?_)
  obtain ⟨c,_,rfl⟩:=List.mem_map.mp (pm.mem_iff.mp hy)
  rfl
 have hn:H s1.heap.objs.size=none:=I1.fresh
 have hv:Vals (Ts ((ss'.map fun y=>y.cps.toList.headD 0).map fun c=>[c])) vs':=by
  have:=vals_of_strs hS'
  rw [es] at this
  simpa [Ts,S,Function.comp_def] using this
 have hl:(Ts ((ss'.map fun y=>y.cps.toList.headD 0).map fun c=>[c])).length≤sizeLine:=by
  rw [List.length_map,List.length_map,pm'.length_eq];exact Nat.le_of_lt (small1000 (by omega))
 refine ⟨.ref s1.heap.objs.size,_,I1.laid (o:=.lst _) (t':=s1.toks) kk (Nat.le_refl _) ⟨hl,vs',e,hv,he⟩,rfl,q _ _ hn pm' ?_⟩
 have pw:=sorted_pw ss' srt
 rw [es,List.map_map] at pw
 exact pw
end
end L2
end
section
set_option Elab.async false
set_option linter.all false
set_option maxRecDepth 100000
namespace L2
open PySem PySem.Spec PyProof.Rows PySem.SeqAt PySem.MeetsSeq PySem.MeetsSeq3
open AutoSeq1 (wpAny_loadPart')
section
variable {X:Cx}
end
end L2
end
section
set_option Elab.async false
set_option linter.all false
set_option maxRecDepth 100000
namespace L2
open PySem PySem.Spec PyProof.Rows
section
variable {X:Cx}
end
end L2
end
section
set_option Elab.async false
set_option linter.all false
set_option maxRecDepth 100000
namespace L2
open PySem PySem.Spec PyProof.Rows
inductive Dt where
 | non | int (i:Int) | str (l:List Nat) | tup (ds:List Dt) | lst (ds:List Dt)
mutual
def toP:Dt→PyData
 | .non=>.none
 | .int i=>.int i
 | .str l=>.str (S l)
 | .tup ds=>.tuple (toPs ds)
 | .lst ds=>.list (toPs ds)
def toPs:List Dt→List PyData
 | []=>[]
 | d :: ds=>toP d :: toPs ds
end
mutual
theorem eqv_D:∀ d e:Dt,PyData.eqv (toP d) (toP e)=true↔d=e
 | .non,.non=>by simp [toP,PyData.eqv]
 | .non,.int _=>by simp [toP,PyData.eqv]
 | .non,.str _=>by simp [toP,PyData.eqv]
 | .non,.tup _=>by simp [toP,PyData.eqv]
 | .non,.lst _=>by simp [toP,PyData.eqv]
 | .int _,.non=>by simp [toP,PyData.eqv]
 | .int _,.int _=>by simp [toP,PyData.eqv]
 | .int _,.str _=>by simp [toP,PyData.eqv]
 | .int _,.tup _=>by simp [toP,PyData.eqv]
 | .int _,.lst _=>by simp [toP,PyData.eqv]
 | .str _,.non=>by simp [toP,PyData.eqv]
 | .str _,.int _=>by simp [toP,PyData.eqv]
 | .str a,.str b=>by
  simp only [toP,PyData.eqv,beq_iff_eq,Dt.str.injEq]
  exact ⟨S_inj,fun z=>by rw [z]⟩
 | .str _,.tup _=>by simp [toP,PyData.eqv]
 | .str _,.lst _=>by simp [toP,PyData.eqv]
 | .tup _,.non=>by simp [toP,PyData.eqv]
 | .tup _,.int _=>by simp [toP,PyData.eqv]
 | .tup _,.str _=>by simp [toP,PyData.eqv]
 | .tup ds,.tup es=>by simp only [toP,PyData.eqv,Dt.tup.injEq];exact eqv_Ds ds es
 | .tup _,.lst _=>by simp [toP,PyData.eqv]
 | .lst _,.non=>by simp [toP,PyData.eqv]
 | .lst _,.int _=>by simp [toP,PyData.eqv]
 | .lst _,.str _=>by simp [toP,PyData.eqv]
 | .lst _,.tup _=>by simp [toP,PyData.eqv]
 | .lst ds,.lst es=>by simp only [toP,PyData.eqv,Dt.lst.injEq];exact eqv_Ds ds es
theorem eqv_Ds:∀ ds es:List Dt,PyData.eqvAll (toPs ds) (toPs es)=true↔ds=es
 | [],[]=>by simp [toPs,PyData.eqvAll]
 | [],_ :: _=>by simp [toPs,PyData.eqvAll]
 | _ :: _,[]=>by simp [toPs,PyData.eqvAll]
 | d :: ds,e :: es=>by
  simp only [toPs,PyData.eqvAll,Bool.and_eq_true,List.cons.injEq]
  rw [eqv_D d e,eqv_Ds ds es]
end
open Classical in
theorem eqv_dec (d e:Dt):PyData.eqv (toP d) (toP e)=decide (d=e):=by
 by_cases h:d=e
 ·rw [decide_eq_true h];exact (eqv_D d e).mpr h
 ·rw [decide_eq_false h]
  cases z:PyData.eqv (toP d) (toP e) with
  | false=>rfl
  | true=>exact absurd ((eqv_D d e).mp z) h
mutual
inductive HasD (K:PySem.W.Frag) (H:Hp):Nat→Dt→V→Prop
 | non {n}:HasD K H n .non .non
 | int {n} (i:Int):HasD K H n (.int i) (.int i)
 | str {n} (l:List Nat) (h:∀ c∈l,c < 128):HasD K H n (.str l) (.str (S l))
 | tup {n a ds xs} (h:SqT K H a xs) (hs:HasDs K H n ds xs):HasD K H (n + 1) (.tup ds) (.ref a)
 | lst {n a ds xs} (h:SqL K H a xs) (hs:HasDs K H n ds xs):HasD K H (n + 1) (.lst ds) (.ref a)
inductive HasDs (K:PySem.W.Frag) (H:Hp):Nat→List Dt→List V→Prop
 | nil {n}:HasDs K H n [] []
 | cons {n d ds x xs} (h:HasD K H n d x) (hs:HasDs K H n ds xs):HasDs K H n (d :: ds) (x :: xs)
end
theorem strOk_S {l:List Nat} (h:∀ c∈l,c < 128):PyData.strOk (S l)=true:=by
 unfold PyData.strOk
 show l.toArray.all _=true
 rw [Array.all_eq_true_iff_forall_mem]
 intro x hx
 have:=h x (by simpa using hx)
 exact decide_eq_true (by omega)
mutual
theorem HasD.lay {K:PySem.W.Frag} {H:Hp}:∀ {n:Nat} {d:Dt} {x:V},HasD K H n d x→(toP d).canLay0=true∧(toP d).depth≤n
 | _,_,_,.non=>by simp [toP,PyData.canLay0,PyData.depth]
 | _,_,_,.int _=>by simp [toP,PyData.canLay0,PyData.depth]
 | _,_,_,.str l h=>by simp only [toP,PyData.canLay0,PyData.depth];exact ⟨strOk_S h,Nat.zero_le _⟩
 | _,_,_,.tup _ hs=>by
  simp only [toP,PyData.canLay0,PyData.depth]
  have:=hs.lay
  exact ⟨this.1,Nat.succ_le_succ this.2⟩
 | _,_,_,.lst _ hs=>by
  simp only [toP,PyData.canLay0,PyData.depth]
  have:=hs.lay
  exact ⟨this.1,Nat.succ_le_succ this.2⟩
theorem HasDs.lay {K:PySem.W.Frag} {H:Hp}:∀ {n:Nat} {ds:List Dt} {xs:List V},HasDs K H n ds xs→PyData.canLayAll0 (toPs ds)=true∧PyData.depthAll (toPs ds)≤n
 | _,_,_,.nil=>by simp [toPs,PyData.canLayAll0,PyData.depthAll]
 | _,_,_,.cons h hs=>by
  have a:=h.lay
  have b:=hs.lay
  simp only [toPs,PyData.canLayAll0,PyData.depthAll,Bool.and_eq_true]
  exact ⟨⟨a.1,b.1⟩,Nat.max_le.mpr ⟨a.2,b.2⟩⟩
end
mutual
theorem HasD.same {K:PySem.W.Frag} {H H':Hp} (sm:Same H H') (st:∀ a xs,SqT K H a xs→SqT K H' a xs):∀ {n:Nat} {d:Dt} {x:V},HasD K H n d x→HasD K H' n d x
 | _,_,_,.non=>.non
 | _,_,_,.int i=>.int i
 | _,_,_,.str l h=>.str l h
 | _,_,_,.tup h hs=>.tup (st _ _ h) (hs.same sm st)
 | _,_,_,.lst h hs=>.lst (sm.seq h) (hs.same sm st)
theorem HasDs.same {K:PySem.W.Frag} {H H':Hp} (sm:Same H H') (st:∀ a xs,SqT K H a xs→SqT K H' a xs):∀ {n:Nat} {ds:List Dt} {xs:List V},HasDs K H n ds xs→HasDs K H' n ds xs
 | _,_,_,.nil=>.nil
 | _,_,_,.cons h hs=>.cons (h.same sm st) (hs.same sm st)
end
section
variable {X:Cx}
mutual
theorem HasD.reads {pins:List (Addr × Obj)} {σ:St} {H:Hp} {s:Shared} (I:Inv X pins σ H s):∀ {n:Nat} {d:Dt} {x:V} {u:Value},HasD X.K H n d x→RelV x u→∃ as,Reads s.heap u (toP d) as
 | _,_,_,u,.non,r=>by cases r;exact ⟨[],by rw [toP];exact .none⟩
 | _,_,_,u,.int i,r=>by obtain ⟨t,rfl⟩:=r;exact ⟨[],by rw [toP];exact .int i t⟩
 | _,_,_,u,.str l h,r=>by obtain ⟨t,rfl⟩:=r;exact ⟨[],by rw [toP];exact .str _ t⟩
 | _,_,_,u,.tup h hs,r=>by
  cases r
  obtain ⟨its,rv,pl,_⟩:=I.tuple h
  obtain ⟨as,ra⟩:=hs.reads I rv
  obtain ⟨o,ho,hc,n,hd⟩:=pl
  exact ⟨as,by rw [toP];exact .tuple ho hc hd (by simpa using ra)⟩
 | _,_,_,u,.lst h hs,r=>by
  cases r
  obtain ⟨its,rv,pl,_⟩:=I.list h
  obtain ⟨as,ra⟩:=hs.reads I rv
  obtain ⟨o,ho,hc,n,hd⟩:=pl.isList
  exact ⟨_ :: as,by rw [toP];exact .list ho hc hd (by simpa using ra)⟩
theorem HasDs.reads {pins:List (Addr × Obj)} {σ:St} {H:Hp} {s:Shared} (I:Inv X pins σ H s):∀ {n:Nat} {ds:List Dt} {xs:List V} {us:List Value},HasDs X.K H n ds xs→Vals xs us→∃ as,ReadsAll s.heap us (toPs ds) as
 | _,_,_,us,.nil,r=>by cases r;exact ⟨[],by rw [toPs];exact .nil⟩
 | _,_,_,us,.cons h hs,r=>by
  cases r with
  | cons q t=>
   obtain ⟨as,a⟩:=h.reads I q
   obtain ⟨bs,b⟩:=hs.reads I t
   exact ⟨as ++ bs,by rw [toPs];exact .cons a b⟩
end
theorem HasD.shaped {K:PySem.W.Frag} {H:Hp} {n:Nat} {d:Dt} {x:V} (h:HasD K H n d x) (hn:n≤64):SeqAt.shaped (toP d)=true:=by
 unfold SeqAt.shaped
 rw [h.lay.1,decide_eq_true (Nat.le_trans h.lay.2 hn)]
 rfl
open Classical in
def rEqD (K:PySem.W.Frag) (neg:Bool):R2:=fun x y H Q=>∃ n d e,n≤64∧HasD K H n d x∧HasD K H n e y∧Q (.bl (if neg then !decide (d=e) else decide (d=e))) H
theorem op_neD (hu:X.A.units + 64 < cLine):OpR X (compareOp .NotEq) (rEqD X.K true):=by
 intro pins s σ H x y v u Q I rx ry h
 obtain ⟨n,d,e,hn,hd,he,q⟩:=h
 obtain ⟨as,ra⟩:=hd.reads I rx
 obtain ⟨bs,rb⟩:=he.reads I ry
 refine SeqAt.compareNe_shaped ra rb (hd.shaped hn) (he.shaped hn) hu ⟨.bl _,H,I,rfl,?_⟩
 rw [eqv_dec];exact q
variable {tg:Expr}
end
end L2
namespace L2
open PySem PySem.Spec PyProof.Rows
section
variable {X:Cx} {x:Str} {pos:Pos}
theorem qg_sub {o i:Expr} {to ti:TE} {t:TSet} (ho:QE X o to) (hi:QE X i ti) (hs:PSet X t)
  (ha:∀ v,assign (.Subscript o i pos) X.env v=(do
   let ov ← holding [v] (eval o X.env)
   let iv ← holding [v,ov] (eval i X.env)
   standAt pos
   holding [v,ov,iv] (setItem ov iv v)
   release [v,ov,iv] []):=by intro _;rfl):QG X (.Subscript o i pos) (gSub to ti t):=⟨pg_sub ho.out hi.out hs ha⟩
end
end L2
namespace L2
open PySem PySem.Spec PyProof.Rows
section
variable {X:Cx}
theorem ix_listK (K:PySem.W.Frag)  (h:X.K=K:=by rfl):IxR X (rIxL K):=by subst h;exact ix_list
end
end L2
end
section
set_option Elab.async false
set_option linter.all false
set_option maxRecDepth 100000
namespace L2
open PySem PySem.Spec PyProof.Rows
section
variable {X:Cx}
end
end L2
end
section
set_option Elab.async false
set_option linter.all false
set_option maxRecDepth 100000
namespace L2
open PySem PySem.Spec PyProof.Rows
def blkG (X:Cx) (scope:Scope) (cl:List (Str × Addr)) (C:Addr) (N:List Str) (s₀:Shared) (H₀:Hp) (fp:List Addr):Cx:=
 { X with N:=N,s₀:=s₀,H₀:=H₀,env:=compEnvC scope cl C X.env,outer:=X.stack,ex:=fp,fn:=fun _=>false,pn:=[],xe:=fun _ _=>False }
structure CompG (X:Cx) (scope:Scope) (ns N2:List Str) (f:St→St):Prop where
 kind:scope.kind=.function
 ncell:∀ y∈scope.names,y.2≠.cell
 names:∀ y∈scope.names,y.2=.local→scope.names.lookup y.1=some .local
 free:∀ y∈scope.names,y.2=.free→X.env.kindOf y.1=some .cell∨X.env.kindOf y.1=some .free
 lenf:∀ σ:St,(f σ).length=σ.length
 lenN:N2.length=X.N.length
 out:∀ (σ:St) (i:Nat) (y:Str) (v:V),N2[i]?=some y→(f σ)[i]?=some (some v)→X.N[i]?=some y∧σ[i]?=some (some v)∧scope.names.lookup y≠some .local
def PTg (X:Cx) (tg:Expr) (k:Nat) (TP:V→Hp→(St→Prop)→Prop):Prop:=
 ∀ (pins:List (Addr × Obj)) (s:Shared) (pre rest:St) (H:Hp) (v:V) (u:Value) (Q:St→Prop),pre.length=k→Inv X pins (pre ++ rest) H s→RelV v u→TP v H Q→
  wpAny (model X.prog X.w) X.A (assign tg X.env u) (fun _ s'=>∃ pre',pre'.length=k∧Inv X pins (pre' ++ rest) H s'∧Q pre') (fun _ _=>False) s
def tCompG (f:St→St) (k:Nat) (wi:TI) (TP:V→Hp→(St→Prop)→Prop) (tt:TT) (te:TE):TE:=fun σ H Q=>wi σ H fun J H1=>∀ D,H1 D=none→∃ W:Nat→Nat→List V→Hp→Prop,(∃ m,W 0 m [] (upd H1 D (.lst [])))∧
 ∀ i m ys H,W i m ys H→(J.stop i H∧Q (.ref D) H)∨(J.go i H∧∀ x H',J.yld i H x H'→TP x H' fun pre=>tt (pre ++ f σ) H' fun b H2=>
  if b=true then te (pre ++ f σ) H2 fun y H3=>H3 D=some (.lst ys)∧ys.length < sizeLine∧∃ m',m' < m∧W (i + 1) m' (ys ++ [y]) (upd H3 D (.lst (ys ++ [y])))
  else ∃ m',m' < m∧W (i + 1) m' ys H2)
theorem pe_compG {X:Cx} {elt iter tg:Expr} {ns N2:List Str} {f:St→St} {TP:V→Hp→(St→Prop)→Prop} {ifs:List Expr} {scope:Scope} {pos:Pos} {wi:TI} {tt:TT} {te:TE} (hc:X.calm=true) (ok:CompG X scope ns N2 f) (hi:PI X tg iter wi)
  (hg:∀ cl C s₀ H₀ fp,PTg (blkG X scope cl C (ns ++ N2) s₀ H₀ fp) tg ns.length TP)
  (ht:∀ cl C s₀ H₀ fp,PTs (blkG X scope cl C (ns ++ N2) s₀ H₀ fp) ifs tt) (he:∀ cl C s₀ H₀ fp,PE (blkG X scope cl C (ns ++ N2) s₀ H₀ fp) elt te)
  (hs:∀ x,foldedSetIterable iter X.env x=pure x:=by intro _;rfl):PE X (.ListComp elt [⟨tg,iter,ifs,0⟩] scope pos) (tCompG f ns.length wi TP tt te):=by
 intro pins s σ H Q I h
 obtain ⟨cl,hcl,hsub,_,hall⟩:=closure_ok (env:=X.env) scope.names (fun y hy e=>I.ok.has y.1 (ok.free y hy e)) [] (fun _ _ z=>by simp at z)
 have hclos:closureFor scope X.env=pure cl:=by
  unfold closureFor
  simp only [bind_pure]
  exact hcl
 rw [eval_ListComp]
 refine wpAny_comprehension_free (use:=none) (E:=X.xe) (cl:=cl) rfl hs hclos ok.kind ok.names (thn (hi pins s σ H _ I h) fun v s1 h1=>thn h1 fun itv s2 h2=>?_)
 obtain ⟨it,fp,tn,J,H2,e,I2,T,st2,f2,R⟩:=h2
 subst e
 obtain ⟨W,⟨m0,w0⟩,turn⟩:=R s2.heap.objs.size I2.fresh
 refine wpAny_newObj_type (wpAny_newFunctionEnv ok.ncell (by intro y hy;simp at hy) (fun h₁ hns₁ hsb₁=>?_) ok.kind)
 dsimp only at hns₁ hsb₁ ⊢
 have I3:Inv X pins σ (upd H2 s2.heap.objs.size (.lst [])) { s2 with heap:=s2.heap.push { cls:=.type "list",data:=.seq ([]:List Value).toArray } }:=I2.lnew (t':=s2.toks) (ys:=[]) (its:=[]) .nil (Nat.zero_le _)
 generalize hH3:upd H2 s2.heap.objs.size (HO.lst [])=H3 at *
 generalize hs3:s2.heap.push { cls:=.type "list",data:=.seq ([]:List Value).toArray }=hp3 at *
 generalize hD:s2.heap.objs.size=D at *
 generalize hC:hp3.objs.size=C at *
 have hDC:D < C:=by rw [← hC,← hs3,Heap.size_push,hD];exact Nat.lt_succ_self _
 have old:∀ b o,hp3.get? b=some o→h₁.get? b=some o:=fun b o e=>(hsb₁.2 b (by rw [← hC];exact Nat.ne_of_lt (Heap.lt_size e))).trans (Heap.get?_push_of_some _ e)
 have fpl:∀ b∈fp,b < C:=fun b hb=>by
  obtain ⟨o,e,_⟩:=T.obj _ _ st2 b hb
  rw [← hC,← hs3,Heap.size_push]
  exact Nat.lt_succ_of_lt (Heap.lt_size e)
 have f3:∀ b∈fp,FpOk X pins H3 b:=fun b hb=>by
  obtain ⟨o,e,_⟩:=T.obj _ _ st2 b hb
  refine ⟨?_,(f2 b hb).2⟩
  rw [← hH3,upd_ne (by rw [← hD];exact Nat.ne_of_lt (Heap.lt_size e))]
  exact (f2 b hb).1
 have nstk:∀ b∈fp,b∉frs X.stack:=fun b hb z=>by
  obtain ⟨_,g1,g2,_⟩:=f3 b hb
  rcases List.mem_cons.mp (I3.stkSub b z) with q | q
  ·exact g1 q
  ·exact g2 q
 have YOk:(blkG X scope cl C (ns ++ N2) { s2 with heap:=hp3 } H3 fp).Ok:=by
  refine ⟨I.ok.mod,?_,I.ok.glob,I.ok.blt,Nat.le_of_eq hC,?_,?_,?_,I.ok.hd,I.ok.frames,.inl rfl,?_,?_,?_,?_,?_,?_,?_⟩
  ·exact ok.kind
  ·exact fun a b c h1 h2=>I.ok.inj a b c (hsub a c h1) (hsub b c h2)
  ·intro a ha
   refine hall a ?_
   rcases ha with z | z
   ·rcases lookup_relabel (env:=X.env) z with q | ⟨_,q⟩
    ·exact absurd rfl (ok.ncell _ (lookup_mem' q))
    ·exact lookup_mem' q
   ·rcases lookup_relabel (env:=X.env) z with q | ⟨q,_⟩
    ·exact lookup_mem' q
    ·cases q
  ·intro a c hf;cases hf
  ·intro b hb
   refine ⟨Nat.ne_of_lt (fpl b hb),fun a c h1=>(f3 b hb).2.2.2.2.1 a c (hsub a c h1)⟩
  ·exact I3.bs
  ·exact Nat.le_trans I.ok.bsz I3.sz
  ·intro b o e hb
   rcases (f3 b hb).2.2.2.1 with z | z
   ·exact I.ok.noex b o e z
   ·exact absurd (Nat.lt_of_lt_of_le (Heap.lt_size e) (Nat.le_trans I.ok.bsz z)) (Nat.lt_irrefl _)
  ·exact nstk
  ·exact I3.stack
  ·exact I3.stkFree
 have Y0:Inv (blkG X scope cl C (ns ++ N2) { s2 with heap:=hp3 } H3 fp) [] (List.replicate ns.length none ++ f σ) H3 { s2 with heap:=h₁,toks:=s2.toks + ([]:List (Str × Value)).length }:=by
  refine ⟨YOk,rfl,I3.bare,Un.kept old,⟨_,hns₁,?_⟩,?_,?_,?_,fun p hp=>by simp [blkG] at hp,I3.hok.kept old,?_⟩
  ·intro i y v e1 e2 e3
   by_cases hin:i < ns.length
   ·rw [List.getElem?_append_left (by rw [List.length_replicate];exact hin),List.getElem?_replicate,if_pos hin] at e2
    simp at e2
   ·obtain ⟨i,rfl⟩:∃ k,i=ns.length + k:=⟨i - ns.length,by omega⟩
    have e1a:(ns ++ N2)[ns.length + i]?=some y:=e1
    rw [List.getElem?_append_right (by omega),Nat.add_sub_cancel_left] at e1a
    rw [List.getElem?_append_right (by rw [List.length_replicate];omega),List.length_replicate,Nat.add_sub_cancel_left] at e2
    obtain ⟨e1',e2',hout⟩:=ok.out σ i y v e1a e2
    have hfree:(y,NameKind.free)∈scope.names:=by
     have key:∀ k,(relabel scope X.env).names.lookup y=some k→k≠.local→k=.cell∨k=.free→(y,NameKind.free)∈scope.names:=fun k q n hk=>by
      rcases lookup_relabel (env:=X.env) q with z | ⟨_,z⟩
      ·rcases hk with rfl | rfl
       ·exact absurd rfl (ok.ncell _ (lookup_mem' z))
       ·exact lookup_mem' z
      ·exact lookup_mem' z
     rcases e3 with z | z | z
     ·rcases lookup_relabel (env:=X.env) z with q | ⟨q,_⟩
      ·exact absurd q hout
      ·cases q
     ·exact key _ z (by decide) (.inl rfl)
     ·exact key _ z (by decide) (.inr rfl)
    have hk:=ok.free _ hfree rfl
    obtain ⟨m,hn,hl⟩:=I3.loc
    obtain ⟨u,r,q⟩:=hl i y v e1' e2' (by rcases hk with z | z;exact .inr (.inl z);exact .inr (.inr z))
    refine ⟨u,r,.inr ⟨?_,?_⟩⟩
    ·rcases e3 with z | z | z
     ·rcases lookup_relabel (env:=X.env) z with q | ⟨q,_⟩
      ·exact absurd q hout
      ·cases q
     ·exact .inl z
     ·exact .inr z
    ·rcases q with ⟨z,_⟩ | ⟨_,c,hc',hcell⟩
     ·rcases hk with q | q <;> (rw [z] at q;cases q)
     ·obtain ⟨c',hc2⟩:=hall y hfree
      have:c'=c:=by have:=hsub y c' hc2;rw [hc'] at this;exact (Option.some.inj this).symm
      subst this
      obtain ⟨o,ho,hd⟩:=hcell
      exact ⟨c',hc2,o,old _ _ ho,hd⟩
  ·intro a c h1
   obtain ⟨v,o,ho,hd⟩:=I3.cell a c (hsub a c h1)
   exact ⟨v,o,old _ _ ho,hd⟩
  ·show H3 C=none
   exact I3.hok.fresh (Nat.le_of_eq hC)
  ·exact fun a c h1=>I3.freeC a c (hsub a c h1)
  ·show (List.replicate ns.length none ++ f σ).length=(ns ++ N2).length
   rw [List.length_append,List.length_append,List.length_replicate,ok.lenf,I.len,ok.lenN]
 have back:∀ (s':Shared) (v:St) (H':Hp) (h':Heap),Inv (blkG X scope cl C (ns ++ N2) { s2 with heap:=hp3 } H3 fp) [] v H' s'→Heap.SameBut C s'.heap h'→(∀ b∈fp,H' b=none)→Inv X pins σ H' { s' with heap:=h' }:=by
  intro s' v H' h' I' sb fr
  have neC:∀ b o,hp3.get? b=some o→b≠C:=fun b o e=>by rw [← hC];exact Nat.ne_of_lt (Heap.lt_size e)
  have U:Un (frs X.stack) fp H3 H' hp3 s'.heap:=I'.base
  refine I3.call' (ch:=fp) (H':=H') (s':={ s' with heap:=h' }) I'.os ⟨fun b o e n h1 h2=>(sb.2 b (neC b o e)).trans (U.keep b o e n h1 h2),fun b o e n h1 h2=>?_,U.free,fun b o e h2=>?_,U.tups,U.frzs,U.tbls⟩ (fun b ob e=>?_) I'.bare fun b hb=>?_
  ·obtain ⟨sl,q⟩:=U.slot b o e n h1 h2
   exact ⟨sl,(sb.2 b (neC b o e)).trans q⟩
  ·obtain ⟨o',q⟩:=U.there b o e h2
   exact ⟨o',(sb.2 b (neC b o e)).trans q⟩
  ·have fC:H' C=none:=I'.free
   refine (I'.hok b ob e).stay (fun c w' hc q=>(sb.2 c ?_).trans q) (fun _ q=>q) fun _ _ q=>q
   rintro rfl
   rcases hc with rfl | hc
   ·rw [fC] at e;cases e
   ·rw [fC] at hc;cases hc
  ·obtain ⟨_,g1,_,g3,g4,g5⟩:=f3 b hb
   exact ⟨g3,g1,g4,g5⟩
 have stat:∀ {H':Hp},(∀ b∈fp,H' b=none)→∀ b∈fp,FpOk (blkG X scope cl C (ns ++ N2) { s2 with heap:=hp3 } H3 fp) [] H' b:=fun hn b hb=>
  ⟨hn b hb,Nat.ne_of_lt (fpl b hb),nstk b hb,.inl hb,fun a c h1=>(f3 b hb).2.2.2.2.1 a c (hsub a c h1),fun p hp=>by simp [blkG] at hp⟩
 have st₁:tn 0 h₁:=T.keep _ _ _ st2 fun b _ o e=>old b o (by rw [← hs3];exact Heap.get?_push_of_some _ e)
 have loop:codeAny (model X.prog X.w) X.A (.compLoop (.ListComp elt [⟨tg,iter,ifs,0⟩] scope pos) 0 (.ref it) (.ref D) (compEnvC scope cl C X.env)) (compPost (model X.prog X.w) X.A X.xe none (EP X pins σ Q) (.ref D) C)
   { s2 with heap:=h₁,toks:=s2.toks + ([]:List (Str × Value)).length }:=by
  refine compLoop_T (fun n s'=>∃ i v ys H',v.length=ns.length∧Inv (blkG X scope cl C (ns ++ N2) { s2 with heap:=hp3 } H3 fp) [] (v ++ f σ) H' s'∧tn i s'.heap∧(∀ b∈fp,H' b=none)∧W i n ys H') ?_ m0 ⟨0,List.replicate ns.length none,[],H3,List.length_replicate,Y0,st₁,fun b hb=>(f3 b hb).1,w0⟩
  rintro n s4 ⟨i,v,ys,H4,hv4,I4,st4,fr4,w4⟩
  rcases turn i n ys H4 w4 with ⟨stop,qn⟩ | ⟨go,step⟩
  ·refine thn (T.done (blkG X scope cl C (ns ++ N2) { s2 with heap:=hp3 } H3 fp) rfl rfl rfl hc i [] s4 (v ++ f σ) H4 _ I4 (stat fr4) st4 stop) fun r s5 ⟨hr,I5⟩=>?_
   subst hr
   obtain ⟨m,hn,_⟩:=id I5.loc
   exact ⟨m,hn,fun h' sb=>⟨.ref D,H4,back s5 (v ++ f σ) H4 h' I5 sb fr4,rfl,qn⟩⟩
  ·refine thn (T.item (blkG X scope cl C (ns ++ N2) { s2 with heap:=hp3 } H3 fp) rfl rfl rfl hc i [] s4 (v ++ f σ) H4 _ I4 (stat fr4) st4 go) fun r s5 ⟨u,hr,h5⟩=>?_
   subst hr
   refine thn h5 fun _ s6 ⟨y,H6,I6,r6,y6,st6,fr6⟩=>?_
   have I6':=I6.pinned (stat fr6) (T.obj _ _ st6)
   refine thn (hg cl C { s2 with heap:=hp3 } H3 fp _ s6 v (f σ) H6 y u _ hv4 I6' r6 (step y H6 y6)) fun _ s7 ⟨pre,hpre,I7',q7⟩=>?_
   refine thn (ht cl C { s2 with heap:=hp3 } H3 fp _ s7 _ H6 _ I7' q7) fun b s8 ⟨H8,I8,q8⟩=>?_
   have keepIt:∀ {σ':St} {H':Hp} {s':Shared},Inv (blkG X scope cl C (ns ++ N2) { s2 with heap:=hp3 } H3 fp) ([] ++ pinsAt fp s6.heap) σ' H' s'→tn (i + 1) s'.heap∧∀ b∈fp,H' b=none:=fun {σ' H' s'} I9=>by
    refine ⟨T.keep _ _ _ st6 fun b hb o e=>(I9.pin (b,o) (List.mem_append_right _ (List.mem_append_right _ (mem_pinsAt hb e)))).1,fun b hb=>?_⟩
    obtain ⟨o,e,d⟩:=T.obj _ _ st6 b hb
    exact (I9.pin (b,o) (List.mem_append_right _ (List.mem_append_right _ (mem_pinsAt hb e)))).2.1
   cases b with
   | false=>
    obtain ⟨m',hm,w'⟩:=q8
    obtain ⟨k1,k2⟩:=keepIt I8
    exact ⟨m',hm,i + 1,pre,ys,H8,hpre,I8.unpinned,k1,k2,w'⟩
   | true=>
    have q8':te (pre ++ f σ) H8 _:=q8
    show wpAny _ _ (eval elt _) _ _ _
    refine thn (he cl C { s2 with heap:=hp3 } H3 fp _ s8 _ H8 _ I8 q8') fun z s9 ⟨zv,H9,I9,r9,hD9,hz9,m',hm,w'⟩=>?_
    refine thn (mt_append (X:=blkG X scope cl C (ns ++ N2) { s2 with heap:=hp3 } H3 fp) _ s9 _ H9 (.ref D) [zv] (.ref D) [z] (fun _ H'=>H'=upd H9 D (.lst (ys ++ [zv]))) I9 rfl (.cons r9 .nil) ⟨D,ys,zv,rfl,rfl,hD9,hz9,rfl⟩) fun _ s10 ⟨_,H10,I10,_,e10⟩=>?_
    subst e10
    obtain ⟨k1,k2⟩:=keepIt I10
    exact ⟨m',hm,i + 1,pre,ys ++ [zv],_,hpre,I10.unpinned,k1,k2,w'⟩
 exact codeAny_compStart_list loop (T.self X.A 0 _ _ _ st₁ loop)
end L2
namespace L2
open PySem PySem.Spec PyProof.Rows
def hideS (ks:List Nat):Nat→St→St
 | _,[]=>[]
 | i,v :: r=>(if ks.contains i=true then none else v) :: hideS ks (i + 1) r
theorem hideS_len (ks:List Nat):∀ (i:Nat) (σ:St),(hideS ks i σ).length=σ.length
 | _,[]=>rfl
 | i,_ :: r=>by rw [hideS,List.length_cons,List.length_cons,hideS_len ks (i + 1) r]
theorem hideS_get (ks:List Nat):∀ (i:Nat) (σ:St) (j:Nat) (v:V),(hideS ks i σ)[j]?=some (some v)→ks.contains (i + j)=false∧σ[j]?=some (some v)
 | _,[],j,v,h=>by simp [hideS] at h
 | i,x :: r,0,v,h=>by
  rw [hideS] at h
  cases e:ks.contains i with
  | true=>rw [e] at h;simp at h
  | false=>rw [e] at h;exact ⟨by first | rfl | exact e,by simpa using h⟩
 | i,x :: r,j + 1,v,h=>by
  rw [hideS,List.getElem?_cons_succ] at h
  obtain ⟨a,b⟩:=hideS_get ks (i + 1) r j v h
  exact ⟨by rw [show i + (j + 1)=i + 1 + j by omega];exact a,by rw [List.getElem?_cons_succ];exact b⟩
def chkG (sc:Scope) (N:List Str) (scope:Scope) (N2:List Str) (ks:List Nat):Bool:=
 scope.kind == .function && scope.names.all (fun y=>y.2 != .cell) && scope.names.all (fun y=>y.2 != .local || scope.names.lookup y.1 == some .local) &&
 scope.names.all (fun y=>y.2 != .free || sc.names.lookup y.1 == some .cell || sc.names.lookup y.1 == some .free) && N2.length == N.length &&
 (List.range N.length).all (fun i=>ks.contains i || (N2[i]? == N[i]? && (N[i]?.map fun y=>scope.names.lookup y != some .local) == some true))
theorem CompG.of {X:Cx} {scope:Scope} {ns:List Str} (N2:List Str) (ks:List Nat) (h:chkG X.env.scope X.N scope N2 ks=true):CompG X scope ns N2 (hideS ks 0):=by
 unfold chkG at h
 simp only [Bool.and_eq_true,List.all_eq_true,Bool.or_eq_true,bne_iff_ne,beq_iff_eq,ne_eq] at h
 obtain ⟨⟨⟨⟨⟨h1,h2⟩,h3⟩,h5⟩,h6⟩,h7⟩:=h
 refine ⟨h1,fun y hy=>h2 y hy,fun y hy e=>(h3 y hy).resolve_left fun z=>z e,fun y hy e=>?_,hideS_len ks 0,h6,fun σ i y v e1 e2=>?_⟩
 ·rcases h5 y hy with (z | z) | z
  ·exact absurd e z
  ·exact .inl z
  ·exact .inr z
 ·obtain ⟨a,b⟩:=hideS_get ks 0 σ i v e2
  rw [Nat.zero_add] at a
  have hi:i < X.N.length:=by rw [← h6];exact (List.getElem?_eq_some_iff.mp e1).1
  rcases h7 i (List.mem_range.mpr hi) with z | ⟨z1,z2⟩
  ·rw [a] at z;cases z
  ·rw [← z1,e1] at z2
   rw [z1] at e1
   exact ⟨e1,b,by simpa using z2⟩
theorem tg_tup2 {X:Cx} {scope:Scope} {cl:List (Str × Addr)} {C:Addr} {N:List Str} {s₀:Shared} {H₀:Hp} {fp:List Addr} {x y:Str} {px py pos:Pos} {k:Nat} (K:PySem.W.Frag) (hc:X.calm=true) (hN:N.Nodup) (h0:N[0]?=some x) (h1:N[1]?=some y) (hx:scope.names.lookup x=some .local) (hy:scope.names.lookup y=some .local) (hK:X.K=K:=by rfl) :
  PTg (blkG X scope cl C N s₀ H₀ fp) (.Tuple [.Name x px,.Name y py] k pos) 2 (fun v H Q=>∃ a p q,v=.ref a∧SqT K H a [p,q]∧Q [some p,some q]):=by
 subst hK
 intro pins s pre rest H v u Q hp I r q
 obtain ⟨a,p,q',rfl,hq,q⟩:=q
 obtain ⟨p0,p1,rfl⟩:∃ p0 p1,pre=[p0,p1]:=by
  match pre,hp with
  | [p0,p1],_=>exact ⟨p0,p1,rfl⟩
 have P:PG (blkG X scope cl C N s₀ H₀ fp) (.Tuple [.Name x px,.Name y py] k pos) (gTup X.K 2 (gCons (gName 0) (gCons (gName 1) gNil))):=pg_tup (X:=blkG X scope cl C N s₀ H₀ fp) hc (pgs_cons (pg_name (i:=0) hN h0 (.inl (lookup_relabel_local hx)) (.inr (lookup_relabel_local hx))) (pgs_cons (pg_name (i:=1) hN h1 (.inl (lookup_relabel_local hy)) (.inr (lookup_relabel_local hy))) pgs_nil))
 refine thn (P pins s _ H (.ref a) u (fun σ' H'=>H'=H∧σ'=some p :: some q' :: rest) I r
  ⟨a,[p,q'],rfl,hq,rfl,p,[q'],rfl,q',[],rfl,rfl,rfl,rfl⟩) fun _ s' ⟨σ',H',I',e1,e2⟩=>?_
 subst e1 e2
 exact ⟨[some p,some q'],rfl,I',q⟩
theorem qe_compG {X:Cx} {elt iter tg:Expr} {ns N2:List Str} {f:St→St} {TP:V→Hp→(St→Prop)→Prop} {ifs:List Expr} {scope:Scope} {pos:Pos} {wi:TI} {tt:TT} {te:TE} (hc:X.calm=true) (ok:CompG X scope ns N2 f) (hi:QI X tg iter wi)
  (hg:∀ cl C s₀ H₀ fp,PTg (blkG X scope cl C (ns ++ N2) s₀ H₀ fp) tg ns.length TP)
  (ht:∀ cl C s₀ H₀ fp,QTs (blkG X scope cl C (ns ++ N2) s₀ H₀ fp) ifs tt) (he:∀ cl C s₀ H₀ fp,QE (blkG X scope cl C (ns ++ N2) s₀ H₀ fp) elt te)
  (hs:∀ x,foldedSetIterable iter X.env x=pure x:=by intro _;rfl):QE X (.ListComp elt [⟨tg,iter,ifs,0⟩] scope pos) (tCompG f ns.length wi TP tt te):=
 ⟨pe_compG hc ok hi.out hg (fun cl C s₀ H₀ fp=>(ht cl C s₀ H₀ fp).out) (fun cl C s₀ H₀ fp=>(he cl C s₀ H₀ fp).out) hs⟩
def TurnG (n i:Nat) (D:Addr) (TP:V→Hp→(St→Prop)→Prop) (f:St→St) (σ:St) (tt:TT) (te:TE) (x:V) (H:Hp) (ys:List V) (P:List V→Hp→Prop):Prop:=
 TP x H fun pre=>tt (pre ++ f σ) H fun b H2=>if b=true then te (pre ++ f σ) H2 fun y H3=>H3 D=some (.lst ys)∧ys.length < sizeLine∧Nxt n i (P (ys ++ [y]) (upd H3 D (.lst (ys ++ [y])))) else Nxt n i (P ys H2)
theorem compG2_tup {K:PySem.W.Frag} {a:Addr} {xs:List V} {D:Addr} {f:St→St} {KT:PySem.W.Frag} {tt:TT} {te:TE} {σ:St} {H:Hp} {R:Hp→Prop} (Pv:Nat→List V→Hp→Prop) (h0:Pv 0 [] (upd H D (.lst []))) (hl:∀ i ys H,i≤xs.length→Pv i ys H→SqT K H a xs)
  (hs:∀ i x ys H,xs[i]?=some x→Pv i ys H→TurnG xs.length i D (fun v H Q=>∃ a p q,v=.ref a∧SqT KT H a [p,q]∧Q [some p,some q]) f σ tt te x H ys (Pv (i + 1)))
  (hd:∀ ys H,Pv xs.length ys H→R H) :
  ∃ W:Nat→Nat→List V→Hp→Prop,(∃ m,W 0 m [] (upd H D (.lst [])))∧
   ∀ i m ys H,W i m ys H→((Itt K a).stop i H∧R H)∨((Itt K a).go i H∧∀ x H',(Itt K a).yld i H x H'→∃ a p q,x=.ref a∧SqT KT H' a [p,q]∧(tt ([some p,some q] ++ f σ) H' fun b H2=>
    if b=true then te ([some p,some q] ++ f σ) H2 fun y H3=>H3 D=some (.lst ys)∧ys.length < sizeLine∧∃ m',m' < m∧W (i + 1) m' (ys ++ [y]) (upd H3 D (.lst (ys ++ [y])))
    else ∃ m',m' < m∧W (i + 1) m' ys H2)):=by
 refine ⟨fun i m ys H=>m=xs.length - i∧i≤xs.length∧Pv i ys H,⟨xs.length,by simp,Nat.zero_le _,h0⟩,?_⟩
 rintro i m ys H ⟨rfl,hi,p⟩
 have q:=hl i ys H hi p
 by_cases hlt:i < xs.length
 ·refine .inr ⟨⟨xs,xs[i],q,by simp [hlt]⟩,fun x H' y=>?_⟩
  obtain ⟨e,y⟩:=y
  subst e
  exact hs i x ys H' (y xs q) p
 ·have e:i=xs.length:=by omega
  subst e
  exact .inl ⟨⟨xs,q,Nat.le_refl _⟩,hd ys H p⟩
theorem turn2 {KT:PySem.W.Frag} {n i:Nat} {D a:Addr} {p q:V} {f:St→St} {σ:St} {te:TE} {x:V} {H:Hp} {ys:List V} {P:List V→Hp→Prop} (hx:x=.ref a) (hS:SqT KT H a [p,q]) (h:te ([some p,some q] ++ f σ) H fun y H3=>H3 D=some (.lst ys)∧ys.length < sizeLine∧Nxt n i (P (ys ++ [y]) (upd H3 D (.lst (ys ++ [y]))))) :
  TurnG n i D (fun v H Q=>∃ a p q,v=.ref a∧SqT KT H a [p,q]∧Q [some p,some q]) f σ tYes te x H ys P:=by
 refine ⟨a,p,q,hx,hS,?_⟩
 show (if true=true then (te ([some p,some q] ++ f σ) H fun y H3=>H3 D=some (.lst ys)∧ys.length < sizeLine∧Nxt n i (P (ys ++ [y]) (upd H3 D (.lst (ys ++ [y]))))) else Nxt n i (P ys H))
 rw [if_pos rfl]
 exact h
end L2
end
section
set_option Elab.async false
set_option linter.all false
set_option maxRecDepth 100000
namespace L2
open PySem PySem.Spec PyProof.Rows
section
variable {X:Cx}
def tCut (t:TS):TS:=fun D σ H=>∃ Iv:St→Hp→Prop,t { D with nx:=Iv } σ H∧∀ σ' H',Iv σ' H'→D.nx σ' H'
theorem qs_cut {st:Stmt} {t:TS} (h:QS X st t):QS X st (tCut t):=⟨fun pins s σ H D I ⟨Iv,a,b⟩=>by
 refine thn (h.out pins s σ H _ I a) fun f s' q=>?_
 cases f with
 | next=>obtain ⟨σ7,H7,I7,n7⟩:=q;exact ⟨σ7,H7,I7,b _ _ n7⟩
 | cont=>exact q
 | brk=>exact q
 | ret v=>exact q⟩
end
end L2
end
section
set_option Elab.async false
set_option linter.all false
set_option maxRecDepth 100000
namespace L2
open PySem PySem.Spec PyProof.Rows PySem.W
section
variable {n:Nat} {r:Nat→Nat}
structure PermA (n:Nat) (p:Array Nat):Prop where
 sz:p.size=n
 pm:p.toList.Perm (List.range n)
end
end L2
end
section
set_option Elab.async false
set_option linter.all false
set_option maxRecDepth 100000
set_option maxHeartbeats 1000000
namespace L2
open PySem PySem.Spec PyProof.Rows PySem.W
section
variable {prog:Program} {w:World} {A:Around} {E:Value→Shared→Prop} {s:Shared}
end
section
variable {X:Cx}
end
end L2
end
section
set_option Elab.async false
set_option linter.all false
set_option maxRecDepth 100000
set_option maxHeartbeats 1000000
namespace L2
open PySem PySem.Spec PyProof.Rows PySem.W
section
variable {prog:Program} {w:World} {A:Around} {E:Value→Shared→Prop} {s:Shared} {d a:Addr} {g:Array DictEntry} {e i:Nat}
end
section
variable {X:Cx}
end
section
variable {X:Cx} {pos:Pos}
theorem qe_dget {o i:Expr} {td ty:TE} (hu:X.A.units + 1 < cLine) (ho:QE X o td) (hi:QE X i ty) (hs:NoSl i):QE X (.Subscript o i pos) (tDGet td ty):=⟨pe_dget hu ho.out hi.out hs⟩
theorem qe_dnewT:QE X (.Dict [] [] pos) tDNewT:=⟨pe_dnewT⟩
end
end L2
end
section
set_option Elab.async false
set_option linter.all false
set_option maxRecDepth 100000
set_option maxHeartbeats 1000000
namespace L2
open PySem PySem.Spec PyProof.Rows PySem.W
section
variable {prog:Program} {w:World} {A:Around} {E:Value→Shared→Prop} {s:Shared}
end
section
variable {X:Cx}
end
end L2
end
section
set_option Elab.async false
set_option linter.all false
set_option maxRecDepth 100000
set_option maxHeartbeats 1000000
namespace L2
open PySem PySem.Spec PyProof.Rows PySem.W
section
variable {X:Cx}
structure InstOk (K:PySem.W.Frag) (C:Addr):Prop where
 ha:PySem.W.findIn K (.ref C) "__class__"=some (some (.builtin "object.__class__"))
 hn:PySem.W.specialIn K (.builtin "object.__class__") "__get__"=some (some (.builtin "getset_descriptor.__get__"))
 ht:PySem.W.takesIn K (.builtin "object.__class__")=some true
 hm:PySem.W.mroIn K C (.type "object")=some true
 ki:PySem.W.kitOne K (.ref C) (.ref C)=some true
end
end L2
end
section
set_option Elab.async false
set_option linter.all false
set_option maxRecDepth 100000
set_option maxHeartbeats 1000000
namespace L2
open PySem PySem.Spec PyProof.Rows
theorem ps_setG {X:Cx} {ix:Nat} {xn:Str} {pos0 spos:Pos} {elt iter tg:Expr} {ns N2:List Str} {f:St→St} {TP:V→Hp→(St→Prop)→Prop} {ifs:List Expr} {scope:Scope} {pos:Pos} {wi:TI} {tt:TT} {te:TE} (hN:X.N.Nodup) (hxi:X.N[ix]?=some xn) (hxl:Loc X.env.scope xn) (hc:X.calm=true) (ok:CompG X scope ns N2 f) (hi:PI X tg iter wi)
  (hg:∀ cl C s₀ H₀ fp,PTg (blkG X scope cl C (ns ++ N2) s₀ H₀ fp) tg ns.length TP)
  (ht:∀ cl C s₀ H₀ fp,PTs (blkG X scope cl C (ns ++ N2) s₀ H₀ fp) ifs tt) (he:∀ cl C s₀ H₀ fp,PE (blkG X scope cl C (ns ++ N2) s₀ H₀ fp) elt te)
  (hs:∀ x,foldedSetIterable iter X.env x=pure x:=by intro _;rfl) (hsw:swapsWith (.ListComp elt [⟨tg,iter,ifs,0⟩] scope pos) (some (.Name xn pos0)) spos.line X.env=pure true:=by rfl)
  (hf:X.fn xn=true∨X.env.scope.names.lookup xn=some .local:=by first | exact .inl rfl | exact .inr rfl | assumption) :
  PS X (.Assign [.Name xn pos0] (.ListComp elt [⟨tg,iter,ifs,0⟩] scope pos) spos) (tAsg (tCompG f ns.length wi TP tt te) (gName ix)):=by
 intro pins s σ H De I h
 obtain ⟨cl,hcl,hsub,_,hall⟩:=closure_ok (env:=X.env) scope.names (fun y hy e=>I.ok.has y.1 (ok.free y hy e)) [] (fun _ _ z=>by simp at z)
 have hclos:closureFor scope X.env=pure cl:=by
  unfold closureFor
  simp only [bind_pure]
  exact hcl
 rw [exec_Assign_Name_used _ _ _ _ hsw]
 refine wpAny_bind (wpAny_standAt (wpAny_bind (wpAny_bind ?_)))
 refine thn (Q:=fun _ s'=>∃ σ' H',Inv X pins σ' H' s'∧De.nx σ' H') ?_ fun _ s' hq=>wpAny_pure (wpAny_pure hq)
 refine wpAny_comprehension_free (use:=some (assign (.Name xn pos0) X.env)) (E:=X.xe) (cl:=cl) rfl hs hclos ok.kind ok.names (thn (hi pins s σ H _ I h) fun v s1 h1=>thn h1 fun itv s2 h2=>?_)
 obtain ⟨it,fp,tn,J,H2,e,I2,T,st2,f2,R⟩:=h2
 subst e
 obtain ⟨W,⟨m0,w0⟩,turn⟩:=R s2.heap.objs.size I2.fresh
 refine wpAny_newObj_type (wpAny_newFunctionEnv ok.ncell (by intro y hy;simp at hy) (fun h₁ hns₁ hsb₁=>?_) ok.kind)
 dsimp only at hns₁ hsb₁ ⊢
 have I3:Inv X pins σ (upd H2 s2.heap.objs.size (.lst [])) { s2 with heap:=s2.heap.push { cls:=.type "list",data:=.seq ([]:List Value).toArray } }:=I2.lnew (t':=s2.toks) (ys:=[]) (its:=[]) .nil (Nat.zero_le _)
 generalize hH3:upd H2 s2.heap.objs.size (HO.lst [])=H3 at *
 generalize hs3:s2.heap.push { cls:=.type "list",data:=.seq ([]:List Value).toArray }=hp3 at *
 generalize hD:s2.heap.objs.size=D at *
 generalize hC:hp3.objs.size=C at *
 have hDC:D < C:=by rw [← hC,← hs3,Heap.size_push,hD];exact Nat.lt_succ_self _
 have old:∀ b o,hp3.get? b=some o→h₁.get? b=some o:=fun b o e=>(hsb₁.2 b (by rw [← hC];exact Nat.ne_of_lt (Heap.lt_size e))).trans (Heap.get?_push_of_some _ e)
 have fpl:∀ b∈fp,b < C:=fun b hb=>by
  obtain ⟨o,e,_⟩:=T.obj _ _ st2 b hb
  rw [← hC,← hs3,Heap.size_push]
  exact Nat.lt_succ_of_lt (Heap.lt_size e)
 have f3:∀ b∈fp,FpOk X pins H3 b:=fun b hb=>by
  obtain ⟨o,e,_⟩:=T.obj _ _ st2 b hb
  refine ⟨?_,(f2 b hb).2⟩
  rw [← hH3,upd_ne (by rw [← hD];exact Nat.ne_of_lt (Heap.lt_size e))]
  exact (f2 b hb).1
 have nstk:∀ b∈fp,b∉frs X.stack:=fun b hb z=>by
  obtain ⟨_,g1,g2,_⟩:=f3 b hb
  rcases List.mem_cons.mp (I3.stkSub b z) with q | q
  ·exact g1 q
  ·exact g2 q
 have YOk:(blkG X scope cl C (ns ++ N2) { s2 with heap:=hp3 } H3 fp).Ok:=by
  refine ⟨I.ok.mod,?_,I.ok.glob,I.ok.blt,Nat.le_of_eq hC,?_,?_,?_,I.ok.hd,I.ok.frames,.inl rfl,?_,?_,?_,?_,?_,?_,?_⟩
  ·exact ok.kind
  ·exact fun a b c h1 h2=>I.ok.inj a b c (hsub a c h1) (hsub b c h2)
  ·intro a ha
   refine hall a ?_
   rcases ha with z | z
   ·rcases lookup_relabel (env:=X.env) z with q | ⟨_,q⟩
    ·exact absurd rfl (ok.ncell _ (lookup_mem' q))
    ·exact lookup_mem' q
   ·rcases lookup_relabel (env:=X.env) z with q | ⟨q,_⟩
    ·exact lookup_mem' q
    ·cases q
  ·intro a c hf;cases hf
  ·intro b hb
   refine ⟨Nat.ne_of_lt (fpl b hb),fun a c h1=>(f3 b hb).2.2.2.2.1 a c (hsub a c h1)⟩
  ·exact I3.bs
  ·exact Nat.le_trans I.ok.bsz I3.sz
  ·intro b o e hb
   rcases (f3 b hb).2.2.2.1 with z | z
   ·exact I.ok.noex b o e z
   ·exact absurd (Nat.lt_of_lt_of_le (Heap.lt_size e) (Nat.le_trans I.ok.bsz z)) (Nat.lt_irrefl _)
  ·exact nstk
  ·exact I3.stack
  ·exact I3.stkFree
 have Y0:Inv (blkG X scope cl C (ns ++ N2) { s2 with heap:=hp3 } H3 fp) [] (List.replicate ns.length none ++ f σ) H3 { s2 with heap:=h₁,toks:=s2.toks + ([]:List (Str × Value)).length }:=by
  refine ⟨YOk,rfl,I3.bare,Un.kept old,⟨_,hns₁,?_⟩,?_,?_,?_,fun p hp=>by simp [blkG] at hp,I3.hok.kept old,?_⟩
  ·intro i y v e1 e2 e3
   by_cases hin:i < ns.length
   ·rw [List.getElem?_append_left (by rw [List.length_replicate];exact hin),List.getElem?_replicate,if_pos hin] at e2
    simp at e2
   ·obtain ⟨i,rfl⟩:∃ k,i=ns.length + k:=⟨i - ns.length,by omega⟩
    have e1a:(ns ++ N2)[ns.length + i]?=some y:=e1
    rw [List.getElem?_append_right (by omega),Nat.add_sub_cancel_left] at e1a
    rw [List.getElem?_append_right (by rw [List.length_replicate];omega),List.length_replicate,Nat.add_sub_cancel_left] at e2
    obtain ⟨e1',e2',hout⟩:=ok.out σ i y v e1a e2
    have hfree:(y,NameKind.free)∈scope.names:=by
     have key:∀ k,(relabel scope X.env).names.lookup y=some k→k≠.local→k=.cell∨k=.free→(y,NameKind.free)∈scope.names:=fun k q n hk=>by
      rcases lookup_relabel (env:=X.env) q with z | ⟨_,z⟩
      ·rcases hk with rfl | rfl
       ·exact absurd rfl (ok.ncell _ (lookup_mem' z))
       ·exact lookup_mem' z
      ·exact lookup_mem' z
     rcases e3 with z | z | z
     ·rcases lookup_relabel (env:=X.env) z with q | ⟨q,_⟩
      ·exact absurd q hout
      ·cases q
     ·exact key _ z (by decide) (.inl rfl)
     ·exact key _ z (by decide) (.inr rfl)
    have hk:=ok.free _ hfree rfl
    obtain ⟨m,hn,hl⟩:=I3.loc
    obtain ⟨u,r,q⟩:=hl i y v e1' e2' (by rcases hk with z | z;exact .inr (.inl z);exact .inr (.inr z))
    refine ⟨u,r,.inr ⟨?_,?_⟩⟩
    ·rcases e3 with z | z | z
     ·rcases lookup_relabel (env:=X.env) z with q | ⟨q,_⟩
      ·exact absurd q hout
      ·cases q
     ·exact .inl z
     ·exact .inr z
    ·rcases q with ⟨z,_⟩ | ⟨_,c,hc',hcell⟩
     ·rcases hk with q | q <;> (rw [z] at q;cases q)
     ·obtain ⟨c',hc2⟩:=hall y hfree
      have:c'=c:=by have:=hsub y c' hc2;rw [hc'] at this;exact (Option.some.inj this).symm
      subst this
      obtain ⟨o,ho,hd⟩:=hcell
      exact ⟨c',hc2,o,old _ _ ho,hd⟩
  ·intro a c h1
   obtain ⟨v,o,ho,hd⟩:=I3.cell a c (hsub a c h1)
   exact ⟨v,o,old _ _ ho,hd⟩
  ·show H3 C=none
   exact I3.hok.fresh (Nat.le_of_eq hC)
  ·exact fun a c h1=>I3.freeC a c (hsub a c h1)
  ·show (List.replicate ns.length none ++ f σ).length=(ns ++ N2).length
   rw [List.length_append,List.length_append,List.length_replicate,ok.lenf,I.len,ok.lenN]
 have back:∀ (s':Shared) (v:St) (H':Hp) (h':Heap),Inv (blkG X scope cl C (ns ++ N2) { s2 with heap:=hp3 } H3 fp) [] v H' s'→Heap.SameBut C s'.heap h'→(∀ b∈fp,H' b=none)→Inv X pins σ H' { s' with heap:=h' }:=by
  intro s' v H' h' I' sb fr
  have neC:∀ b o,hp3.get? b=some o→b≠C:=fun b o e=>by rw [← hC];exact Nat.ne_of_lt (Heap.lt_size e)
  have U:Un (frs X.stack) fp H3 H' hp3 s'.heap:=I'.base
  refine I3.call' (ch:=fp) (H':=H') (s':={ s' with heap:=h' }) I'.os ⟨fun b o e n h1 h2=>(sb.2 b (neC b o e)).trans (U.keep b o e n h1 h2),fun b o e n h1 h2=>?_,U.free,fun b o e h2=>?_,U.tups,U.frzs,U.tbls⟩ (fun b ob e=>?_) I'.bare fun b hb=>?_
  ·obtain ⟨sl,q⟩:=U.slot b o e n h1 h2
   exact ⟨sl,(sb.2 b (neC b o e)).trans q⟩
  ·obtain ⟨o',q⟩:=U.there b o e h2
   exact ⟨o',(sb.2 b (neC b o e)).trans q⟩
  ·have fC:H' C=none:=I'.free
   refine (I'.hok b ob e).stay (fun c w' hc q=>(sb.2 c ?_).trans q) (fun _ q=>q) fun _ _ q=>q
   rintro rfl
   rcases hc with rfl | hc
   ·rw [fC] at e;cases e
   ·rw [fC] at hc;cases hc
  ·obtain ⟨_,g1,_,g3,g4,g5⟩:=f3 b hb
   exact ⟨g3,g1,g4,g5⟩
 have stat:∀ {H':Hp},(∀ b∈fp,H' b=none)→∀ b∈fp,FpOk (blkG X scope cl C (ns ++ N2) { s2 with heap:=hp3 } H3 fp) [] H' b:=fun hn b hb=>
  ⟨hn b hb,Nat.ne_of_lt (fpl b hb),nstk b hb,.inl hb,fun a c h1=>(f3 b hb).2.2.2.2.1 a c (hsub a c h1),fun p hp=>by simp [blkG] at hp⟩
 have st₁:tn 0 h₁:=T.keep _ _ _ st2 fun b _ o e=>old b o (by rw [← hs3];exact Heap.get?_push_of_some _ e)
 have loop:codeAny (model X.prog X.w) X.A (.compLoop (.ListComp elt [⟨tg,iter,ifs,0⟩] scope pos) 0 (.ref it) (.ref D) (compEnvC scope cl C X.env)) (compPost (model X.prog X.w) X.A X.xe (some (assign (.Name xn pos0) X.env)) (fun _ s'=>∃ σ' H',Inv X pins σ' H' s'∧De.nx σ' H') (.ref D) C)
   { s2 with heap:=h₁,toks:=s2.toks + ([]:List (Str × Value)).length }:=by
  refine compLoop_T (fun n s'=>∃ i v ys H',v.length=ns.length∧Inv (blkG X scope cl C (ns ++ N2) { s2 with heap:=hp3 } H3 fp) [] (v ++ f σ) H' s'∧tn i s'.heap∧(∀ b∈fp,H' b=none)∧W i n ys H') ?_ m0 ⟨0,List.replicate ns.length none,[],H3,List.length_replicate,Y0,st₁,fun b hb=>(f3 b hb).1,w0⟩
  rintro n s4 ⟨i,v,ys,H4,hv4,I4,st4,fr4,w4⟩
  rcases turn i n ys H4 w4 with ⟨stop,qn⟩ | ⟨go,step⟩
  ·refine thn (T.done (blkG X scope cl C (ns ++ N2) { s2 with heap:=hp3 } H3 fp) rfl rfl rfl hc i [] s4 (v ++ f σ) H4 _ I4 (stat fr4) st4 stop) fun r s5 ⟨hr,I5⟩=>?_
   subst hr
   obtain ⟨m,hn,_⟩:=id I5.loc
   have I5':Inv X pins σ H4 s5:=back s5 (v ++ f σ) H4 s5.heap I5 (Heap.SameBut.refl _ _) fr4
   have fC:FpOk X pins H4 C:=⟨I5.free,(I3.fpOk (H':=H3) (Nat.le_of_eq hC) (I3.hok.fresh (Nat.le_of_eq hC))).2⟩
   refine wpAny_assign_Name (store_ok2 I5' hN hxi hxl (show RelV (.ref D) (.ref D) from rfl) (fun s6 I6 ⟨a,sb6,ha⟩=>?_) hf)
   have nCa:C≠a:=by
    rcases ha with z | z
    ·rw [z];exact fC.2.1
    ·exact fun y=>fC.2.2.2.2.1 _ _ z y.symm
   obtain ⟨o,es,ep,e1,e2⟩:=hn
   refine ⟨m,⟨o,es,ep,(sb6.2 C nCa).trans e1,e2⟩,fun h' sb=>⟨_,H4,I6.turned (t':=s6.toks) (fun b o hb e=>(sb.2 b hb).trans e) fC.1 fC.2.1 fC.2.2.2.1 fC.2.2.2.2.1 fC.2.2.2.2.2,qn⟩⟩
  ·refine thn (T.item (blkG X scope cl C (ns ++ N2) { s2 with heap:=hp3 } H3 fp) rfl rfl rfl hc i [] s4 (v ++ f σ) H4 _ I4 (stat fr4) st4 go) fun r s5 ⟨u,hr,h5⟩=>?_
   subst hr
   refine thn h5 fun _ s6 ⟨y,H6,I6,r6,y6,st6,fr6⟩=>?_
   have I6':=I6.pinned (stat fr6) (T.obj _ _ st6)
   refine thn (hg cl C { s2 with heap:=hp3 } H3 fp _ s6 v (f σ) H6 y u _ hv4 I6' r6 (step y H6 y6)) fun _ s7 ⟨pre,hpre,I7',q7⟩=>?_
   refine thn (ht cl C { s2 with heap:=hp3 } H3 fp _ s7 _ H6 _ I7' q7) fun b s8 ⟨H8,I8,q8⟩=>?_
   have keepIt:∀ {σ':St} {H':Hp} {s':Shared},Inv (blkG X scope cl C (ns ++ N2) { s2 with heap:=hp3 } H3 fp) ([] ++ pinsAt fp s6.heap) σ' H' s'→tn (i + 1) s'.heap∧∀ b∈fp,H' b=none:=fun {σ' H' s'} I9=>by
    refine ⟨T.keep _ _ _ st6 fun b hb o e=>(I9.pin (b,o) (List.mem_append_right _ (List.mem_append_right _ (mem_pinsAt hb e)))).1,fun b hb=>?_⟩
    obtain ⟨o,e,d⟩:=T.obj _ _ st6 b hb
    exact (I9.pin (b,o) (List.mem_append_right _ (List.mem_append_right _ (mem_pinsAt hb e)))).2.1
   cases b with
   | false=>
    obtain ⟨m',hm,w'⟩:=q8
    obtain ⟨k1,k2⟩:=keepIt I8
    exact ⟨m',hm,i + 1,pre,ys,H8,hpre,I8.unpinned,k1,k2,w'⟩
   | true=>
    have q8':te (pre ++ f σ) H8 _:=q8
    show wpAny _ _ (eval elt _) _ _ _
    refine thn (he cl C { s2 with heap:=hp3 } H3 fp _ s8 _ H8 _ I8 q8') fun z s9 ⟨zv,H9,I9,r9,hD9,hz9,m',hm,w'⟩=>?_
    refine thn (mt_append (X:=blkG X scope cl C (ns ++ N2) { s2 with heap:=hp3 } H3 fp) _ s9 _ H9 (.ref D) [zv] (.ref D) [z] (fun _ H'=>H'=upd H9 D (.lst (ys ++ [zv]))) I9 rfl (.cons r9 .nil) ⟨D,ys,zv,rfl,rfl,hD9,hz9,rfl⟩) fun _ s10 ⟨_,H10,I10,_,e10⟩=>?_
    subst e10
    obtain ⟨k1,k2⟩:=keepIt I10
    exact ⟨m',hm,i + 1,pre,ys ++ [zv],_,hpre,I10.unpinned,k1,k2,w'⟩
 exact codeAny_compStart_list loop (T.self X.A 0 _ _ _ st₁ loop)
theorem qs_setG {X:Cx} {ix:Nat} {xn:Str} {pos0 spos:Pos} {elt iter tg:Expr} {ns N2:List Str} {f:St→St} {TP:V→Hp→(St→Prop)→Prop} {ifs:List Expr} {scope:Scope} {pos:Pos} {wi:TI} {tt:TT} {te:TE} (hN:X.N.Nodup) (hxi:X.N[ix]?=some xn) (hxl:Loc X.env.scope xn) (hc:X.calm=true) (ok:CompG X scope ns N2 f) (hi:QI X tg iter wi)
  (hg:∀ cl C s₀ H₀ fp,PTg (blkG X scope cl C (ns ++ N2) s₀ H₀ fp) tg ns.length TP)
  (ht:∀ cl C s₀ H₀ fp,QTs (blkG X scope cl C (ns ++ N2) s₀ H₀ fp) ifs tt) (he:∀ cl C s₀ H₀ fp,QE (blkG X scope cl C (ns ++ N2) s₀ H₀ fp) elt te)
  (hs:∀ x,foldedSetIterable iter X.env x=pure x:=by intro _;rfl) (hsw:swapsWith (.ListComp elt [⟨tg,iter,ifs,0⟩] scope pos) (some (.Name xn pos0)) spos.line X.env=pure true:=by rfl)
  (hf:X.fn xn=true∨X.env.scope.names.lookup xn=some .local:=by first | exact .inl rfl | exact .inr rfl | assumption) :
  QS X (.Assign [.Name xn pos0] (.ListComp elt [⟨tg,iter,ifs,0⟩] scope pos) spos) (tAsg (tCompG f ns.length wi TP tt te) (gName ix)):=
 ⟨ps_setG hN hxi hxl hc ok hi.out hg (fun a b c d e=>(ht a b c d e).out) (fun a b c d e=>(he a b c d e).out) hs hsw hf⟩
end L2
end
section
set_option Elab.async false
set_option linter.all false
set_option maxRecDepth 100000
set_option maxHeartbeats 1000000
namespace L2
open PySem PySem.Spec PyProof.Rows
section
variable {M:Model} {A:Around} {E:Value→Shared→Prop} {s:Shared}
end
structure CompC (X:Cx) (scope:Scope) (xn:Str) (N2:List Str) (f:St→St):Prop where
 kind:scope.kind=.function
 one:∀ y∈scope.names,y.2=.cell→y.1=xn
 cf:∀ k acc,cellsFrom k scope.names acc=(xn,k) :: acc
 pc:∀ h:Heap,pushCells h scope.names=h.push { cls:=.type "cell",data:=.cell none }
 names:∀ y∈scope.names,y.2=.local→scope.names.lookup y.1=some .local
 free:∀ y∈scope.names,y.2=.free→X.env.kindOf y.1=some .cell∨X.env.kindOf y.1=some .free
 lenf:∀ σ:St,(f σ).length=σ.length
 lenN:N2.length=X.N.length
 out:∀ (σ:St) (i:Nat) (y:Str) (v:V),N2[i]?=some y→(f σ)[i]?=some (some v)→X.N[i]?=some y∧σ[i]?=some (some v)∧scope.names.lookup y≠some .local∧y≠xn
end L2
end
section
set_option Elab.async false
set_option linter.all false
set_option maxRecDepth 100000
namespace L2
open PySem PySem.Spec PyProof.Rows
section
variable {X:Cx}
end
end L2
end
section
set_option Elab.async false
set_option linter.all false
set_option maxRecDepth 100000
set_option maxHeartbeats 1000000
namespace L2
open PySem PySem.Spec PyProof.Rows PySem.W
section
variable {X:Cx}
end
end L2
end
section
set_option Elab.async false
set_option linter.all false
set_option maxRecDepth 100000
set_option maxHeartbeats 2000000
namespace L2
open PySem PySem.Spec PyProof.Rows PySem.W
open AutoSeq1 (wpAny_loadPart')
section
variable {prog:Program} {w:World} {A:Around} {E:Value→Shared→Prop} {s:Shared}
theorem nxT_item {u a:Addr} {i:Nat} {g:Array Value} {x:Value} {Q:Value→Shared→Prop} (t:s.heap.IsTupleIter u a i) (p:s.heap.IsTuple a g) (hx:g[i]?=some x)
  (q:∀ h',h'.IsTupleIter u a (i + 1)→Heap.SameBut u s.heap h'→Q x { s with heap:=h' }):wpAny (model prog w) A (Builtin.SmallTypes.nextOf (.ref u)) Q E s:=by
 obtain ⟨o,ho,hc,hd⟩:=id t
 obtain ⟨ol,hol,_,nl,hdl⟩:=p
 unfold Builtin.SmallTypes.nextOf
 refine wpAny_bind (wpAny_callSpecial?_slot (name:=Str.ofString "__next__") t.typeIs F.slot_tuple_iterator_next (wpAny_call_entry F.slot_tuple_iterator_next t.typeIs F.entry_tuple_iterator_next ?_ (F.args_tuple_iterator_next_1 _)))
 show wpAny _ _ (field (.ref u) 0 >>= _) _ _ s
 refine wpAny_bind (wpAny_field ho hd (x:=.ref a) rfl ?_)
 show wpAny _ _ (if (Value.ref a == Value.none)=true then _ else _) _ _ s
 rw [if_neg (show ¬((Value.ref a == Value.none)=true) from Bool.false_ne_true)]
 show wpAny _ _ (field (.ref u) 1 >>= _) _ _ s
 refine wpAny_bind (wpAny_field ho hd (x:=.int i 0) rfl ?_)
 show wpAny _ _ (seqItems? (.ref a) >>= _) _ _ s
 refine wpAny_bind (wpAny_seqItems hol hdl ?_)
 simp only [Int.toNat_natCast,hx]
 refine wpAny_bind (wpAny_setField ho hd (by simp) (wpAny_pure ⟨x,rfl,wpAny_pure (q _ ?_ (Heap.SameBut.update ..))⟩))
 exact ⟨_,Heap.get?_update_self _ ho (Obj.isFreed_of_fields (Obj.data_mapFields hd _)),(Obj.cls_mapFields ..).trans hc,by rw [Obj.data_mapFields hd];simp [rawInt]⟩
theorem nxT_end {u a:Addr} {i:Nat} {g:Array Value} {Q:Value→Shared→Prop} (hh:A.handled=none) (t:s.heap.IsTupleIter u a i) (p:s.heap.IsTuple a g) (hx:g[i]?=none)
  (q:∀ h' e,Heap.ExtBut u s.heap h'→(∃ o,h'.get? e=some o∧o.cls=.type "StopIteration")→E (.ref e) { s with heap:=h' }):wpAny (model prog w) A (Builtin.SmallTypes.nextOf (.ref u)) Q E s:=by
 obtain ⟨o,ho,hc,hd⟩:=id t
 obtain ⟨ol,hol,_,nl,hdl⟩:=p
 unfold Builtin.SmallTypes.nextOf
 refine wpAny_bind (wpAny_callSpecial?_slot (name:=Str.ofString "__next__") t.typeIs F.slot_tuple_iterator_next (wpAny_call_entry F.slot_tuple_iterator_next t.typeIs F.entry_tuple_iterator_next ?_ (F.args_tuple_iterator_next_1 _)))
 show wpAny _ _ (field (.ref u) 0 >>= _) _ _ s
 refine wpAny_bind (wpAny_field ho hd (x:=.ref a) rfl ?_)
 show wpAny _ _ (if (Value.ref a == Value.none)=true then _ else _) _ _ s
 rw [if_neg (show ¬((Value.ref a == Value.none)=true) from Bool.false_ne_true)]
 show wpAny _ _ (field (.ref u) 1 >>= _) _ _ s
 refine wpAny_bind (wpAny_field ho hd (x:=.int i 0) rfl ?_)
 show wpAny _ _ (seqItems? (.ref a) >>= _) _ _ s
 refine wpAny_bind (wpAny_seqItems hol hdl ?_)
 simp only [Int.toNat_natCast,hx]
 first | refine wpAny_bind (wpAny_rule (wpAny_bind (wpAny_setField ho hd (by simp) ?_))) | refine wpAny_bind (wpAny_setField ho hd (by simp) ?_)
 show wpAny _ _ (newExc (.type "StopIteration") [] >>= _) _ _ _
 refine wpAny_bind ?_
 simp only [newExc,newTuple]
 refine wpAny_bind (wpAny_newObj_type ?_ (by size_fits))
 refine wpAny_bind (m:=firstArgMember _ _) (wpAny_of_eq (a:=Value.none) (by first | rfl | (simp only [firstArgMember];rfl)) ?_)
 refine wpAny_newObj_type ?_ (by size_fits)
 simp only [raiseNew]
 refine wpAny_bind (wpAny_handled ?_)
 first | rw [show A.in1.handled=none from hh] | rw [hh]
 refine wpAny_bind (wpAny_pure (wpAny_throw ?_))
 exact q _ _ (((Heap.SameBut.update ..).extBut.push _).push _) ⟨_,Heap.get?_push_size _ rfl,rfl⟩
theorem drawsT (hh:A.handled=none) (u a:Addr) (hne:a≠u) (g:Array Value):Draws prog w A u [u,a] g.size (fun i v=>g[i]?=some v) (fun i h=>h.IsTupleIter u a i∧h.IsTuple a g) where
 live:=fun _ _ st=>let ⟨o,ho,_⟩:=st.1;⟨o,ho⟩
 frame:=fun _ _ _ st hk=>⟨st.1.at fun o e=>hk u (by simp) o e,let ⟨o,ho,r⟩:=st.2;⟨o,hk a (by simp) o ho,r⟩⟩
 item:=fun i s Q E hi st hQ=>by
  refine nxT_item st.1 st.2 (x:=g[i]) (by simp [hi]) fun h' hit' hs'=>?_
  exact hQ _ h' s.toks (by simp [hi]) ⟨hit',let ⟨o,ho,r⟩:=st.2;⟨o,hs'.extBut a o hne ho,r⟩⟩ hs'
 done:=fun s Q E st hE=>nxT_end hh st.1 st.2 (by simp) hE
theorem newT (a:Addr) (g:Array Value) (n:Nat) (dct:Option Addr) (sl:Array (Option Value)) :
  Meets (Builtin.«enumerate.__new__» ⟨[.type "enumerate",.ref a],[]⟩) (fun _ R s=>s.heap.get? a=some { cls:=.type "tuple",dict:=dct,data:=.seq g n,slots:=sl }∧
   R (.ok (.ret (.ref (s.heap.push { cls:=.type "tuple_iterator",data:=.fields #[.ref a,.int 0 0] }).objs.size)))
    { s with heap:=(s.heap.push { cls:=.type "tuple_iterator",data:=.fields #[.ref a,.int 0 0] }).push { cls:=.type "enumerate",data:=.fields #[.none,.bool false,.ref s.heap.objs.size,rawInt 0,.none,.none] } }):=
 .of_wp fun prog w A R s h=>by
  obtain ⟨hp,g,d,tk,os⟩:=s;obtain ⟨hl,h⟩:=h
  have hsub:=sub_enumerate
  have hL:Heap.IsTuple (Shared.heap ⟨hp,g,d,tk,os⟩) a _:=⟨_,hl,rfl,n,rfl⟩
  wp_walk using wpAny_loadPart' hl
  refine wpAny_stack_any fun st=>wpAny_pure ?_
  split
  ·rename_i c _ _ _ _ _
   cases (c == Value.type "enumerate")
   ·wp_walk using wpAny_loadPart' hl,wpAny_pyIter_tuple hL
    exact ⟨_,rfl,h⟩
   ·wp_walk using wpAny_loadPart' hl,wpAny_pyIter_tuple hL
    exact ⟨_,rfl,h⟩
  ·wp_walk using wpAny_loadPart' hl,wpAny_pyIter_tuple hL
   exact ⟨_,rfl,h⟩
theorem enumT {a:Addr} {g:Array Value} {Q:Value→Shared→Prop} (hL:s.heap.IsTuple a g)
  (q:∀ h',IsEnum h' (s.heap.objs.size + 1) s.heap.objs.size 0 .none→h'.IsTupleIter s.heap.objs.size a 0→h'.objs.size=s.heap.objs.size + 2→(∀ b o,s.heap.get? b=some o→h'.get? b=some o)→Q (.ref (s.heap.objs.size + 1)) { s with heap:=h' }) :
  wpAny (model prog w) A (call (.type "enumerate") [.ref a]) Q E s:=by
 obtain ⟨⟨c,dct,dt,sl⟩,hl,hc,n,hd⟩:=hL
 replace hc:c=.type "tuple":=hc
 replace hd:dt=.seq g n:=hd
 subst hc hd
 refine callType_new F.called_enumerate (by decide) (F.typeCall_enumerate_1 _) (F.newCall_enumerate_1 _) (fun obj=>F.args_object_init_2 obj _) F.entry_enumerate_new (newT a g n dct sl) ⟨hl,?_⟩
 have hz:(s.heap.push { cls:=.type "tuple_iterator",data:=.fields #[.ref a,.int 0 0] }).objs.size=s.heap.objs.size + 1:=Heap.size_push ..
 show _∧_
 rw [hz]
 have he:IsEnum ((s.heap.push { cls:=.type "tuple_iterator",data:=.fields #[.ref a,.int 0 0] }).push { cls:=.type "enumerate",data:=.fields #[.none,.bool false,.ref s.heap.objs.size,rawInt 0,.none,.none] }) (s.heap.objs.size + 1) s.heap.objs.size 0 .none:=by
  have:=Heap.get?_push_size (s.heap.push { cls:=.type "tuple_iterator",data:=.fields #[.ref a,.int 0 0] }) (o:={ cls:=.type "enumerate",data:=.fields #[.none,.bool false,.ref s.heap.objs.size,rawInt 0,.none,.none] }) rfl
  rw [hz] at this;exact this
 exact ⟨⟨_,he,rfl⟩,q _ he ⟨_,Heap.get?_push_of_some _ (Heap.get?_push_size _ rfl),rfl,rfl⟩ (by rw [Heap.size_push,hz]) fun b o x=>Heap.get?_push_of_some _ (Heap.get?_push_of_some _ x)⟩
end
section
variable {X:Cx} {pins:List (Addr × Obj)} {σ:St} {H:Hp} {s:Shared} {h':Heap}
theorem Inv.turnedL {t':Nat} {fp:List Addr} (I:Inv X pins σ H s) (k:∀ b o,b∉fp→s.heap.get? b=some o→h'.get? b=some o) (hf:∀ b∈fp,FpOk X pins H b):Inv X pins σ H { s with heap:=h',toks:=t' }:=by
 have nit:∀ b u,H b=some u→b∉fp:=fun b u e z=>by rw [(hf b z).1] at e;cases e
 refine I.step (g':=s.gens) (d':=s.drawn) (ch:=fp) (fun b hb=>?_) (fun b o _ _ hc e _=>k b o hc e) (fun b o _ _ hc e _=>⟨o.slots,k b o hc e⟩) (fun _ _ _ _ n=>n)
  (fun b o hc e=>⟨o,k b o hc e⟩) (fun _ _ e=>e) (fun _ _ _ e=>e) (fun b ps e=>⟨#[],by rw [e];simp⟩) (fun m hm=>?_) (fun b u e=>?_) I.bare
 ·obtain ⟨f0,f1,f2,f3,f4,f5⟩:=hf b hb
  exact ⟨f3,f1,f4,f5⟩
 ·obtain ⟨o,es,ep,ho,r⟩:=hm
  exact ⟨o,es,ep,k _ o (fun z=>(hf _ z).2.1 rfl) ho,r⟩
 ·refine (I.hok b u e).stay (fun c v hc q=>k c v ?_ q) (fun _ q=>q) fun _ _ q=>q
  rcases hc with z | z
  ·rw [z];exact nit b u e
  ·exact nit c _ z
theorem Inv.pair {e it:Addr} {i tk:Nat} {x:V} {u:Value} {h1 h2:Heap} (I:Inv X pins σ H s) (hf:∀ b∈[e,it],FpOk X pins H b) (le:e < s.heap.objs.size) (li:it < s.heap.objs.size) (rx:RelV x u)
  (hT:h1.get? s.heap.objs.size=some { cls:=.type "tuple",data:=.seq #[.int i tk,u] }) (hk:∀ b o,b≠e→b≠it→s.heap.get? b=some o→h1.get? b=some o) (hs:Heap.SameBut e h1 h2) :
  Inv X pins σ (upd H s.heap.objs.size (.tup [.int i,x])) { s with heap:=h2,toks:=tk + 1 }∧∀ b∈[e,it],upd H s.heap.objs.size (.tup [.int i,x]) b=none:=by
 have I2:Inv X pins σ (upd H s.heap.objs.size (.tup [.int i,x])) { s with heap:=s.heap.push { cls:=.type "tuple",data:=.seq #[.int i tk,u] },toks:=tk + 1 }:=
  I.laid (fun b v e=>Heap.get?_push_of_some _ e) (Nat.le_refl _) ⟨by show 2≤sizeLine;decide,[.int i tk,u],.cons ⟨tk,rfl⟩ (.cons rx .nil),⟨_,Heap.get?_push_size _ rfl,rfl,_,rfl⟩⟩
 have ne:∀ b∈[e,it],b≠s.heap.objs.size:=fun b hb=>by
  rcases List.mem_cons.mp hb with z | z
  ·rw [z];exact Nat.ne_of_lt le
  ·rw [List.mem_singleton.mp z];exact Nat.ne_of_lt li
 have fr:∀ b∈[e,it],upd H s.heap.objs.size (.tup [.int i,x]) b=none:=fun b hb=>by rw [upd_ne (ne b hb)];exact (hf b hb).1
 have I3:=Inv.turnedL (s:={ s with heap:=s.heap.push { cls:=.type "tuple",data:=.seq #[.int i tk,u] },toks:=tk + 1 }) (h':=h2) (fp:=[e,it]) (t':=tk + 1) I2 (fun b o hb g=>?_) fun b hb=>?_
 ·exact ⟨I3,fr⟩
 ·have nbe:b≠e:=fun z=>hb (by simp [z])
  have nbi:b≠it:=fun z=>hb (by simp [z])
  rw [hs.2 b nbe]
  rcases Heap.get?_push_cases g with ⟨z1,z2⟩ | z
  ·rw [z1,z2];exact hT
  ·exact hk b o nbe nbi z
 ·obtain ⟨f0,f1,f2,f3,f4,f5⟩:=hf b hb
  exact ⟨fr b hb,f1,f2,f3,f4,f5⟩
end
def IteT (K:PySem.W.Frag) (a:Addr):It:=
 ⟨fun i H=>∃ xs x,SqT K H a xs∧xs[i]?=some x,fun i H v H'=>∃ T y,H T=none∧v=.ref T∧(∀ xs,SqT K H a xs→xs[i]?=some y)∧H'=upd H T (.tup [.int i,y]),fun i H=>∃ xs,SqT K H a xs∧xs.length≤i⟩
theorem turn_enumT {P:Program} {w:World} {K:PySem.W.Frag} {elts:List Expr} {x1} {pos:Pos} (a it e:Addr) :
  Turn P w K (.Tuple elts x1 pos) (IteT K a) [e,it] e (fun i h=>(e≠it∧a≠e∧a≠it)∧(∃ old,IsEnum h e it i old)∧h.IsTupleIter it a i) where
 mem:=by simp
 obj:=fun i h st b hb=>by
  obtain ⟨_,⟨old,he⟩,o,ho,_,hd⟩:=st
  rcases List.mem_cons.mp hb with z | z
  ·exact ⟨_,by rw [z];exact he,fun v y=>by cases y⟩
  ·exact ⟨o,by rw [List.mem_singleton.mp z];exact ho,fun v y=>by rw [hd] at y;cases y⟩
 keep:=fun i h h' st k=>by
  obtain ⟨n,⟨old,he⟩,o,ho,r⟩:=st
  exact ⟨n,⟨old,k e (by simp) _ he⟩,o,k it (by simp) o ho,r⟩
 item:=by
  intro X hP hw hK hc i pins s σ H E I hf st hg
  subst hP hw hK
  obtain ⟨⟨ne,nae,nai⟩,⟨old,he⟩,hs⟩:=st
  obtain ⟨xs,x,hq,hx⟩:=hg
  obtain ⟨its,rv,p,hz⟩:=I.tuple hq
  obtain ⟨v,hv,ru⟩:=rv.get hx
  have hh:X.A.in1.handled=none:=by simp [I.ok.hd hc]
  have hit:i < its.toArray.size:=by
   have:=(List.getElem?_eq_some_iff.mp hv).1
   simpa using this
  have hpa:s.heap.IsTuple a its.toArray:=p
  refine wpAny_pyNext_enum_itemD (drawsT hh it a nai its.toArray) he ⟨hs,hpa⟩ hit ne (by simp [ne,nae.symm]) fun y h' tk hP ho hs' hT hsz hk=>?_
  refine ⟨_,rfl,wpAny_letOwnedTupleGo_enum ho fun h2 he2 hs2=>?_⟩
  obtain ⟨⟨o,ho2,r2⟩,_⟩:=hs'
  obtain ⟨oi,hoi,_⟩:=id hs
  have ey:y=v:=by
   have h1:its[i]?=some y:=by simpa using hP
   rw [hv] at h1
   exact (Option.some.inj h1).symm
  subst ey
  obtain ⟨I3,fr⟩:=Inv.pair (x:=x) I hf (Heap.lt_size he) (Heap.lt_size hoi) ru hT hk hs2
  refine ⟨.ref s.heap.objs.size,_,I3,rfl,⟨s.heap.objs.size,x,I.hok.fresh (Nat.le_refl _),rfl,fun ys hy=>by rw [I.tuple_inj hy hq];exact hx,rfl⟩,⟨⟨ne,nae,nai⟩,⟨_,by simpa using he2⟩,o,(hs2.2 it (Ne.symm ne)).trans ho2,r2⟩,fr⟩
 done:=by
  intro X hP hw hK hc i pins s σ H E I hf st hg
  subst hP hw hK
  obtain ⟨⟨ne,nae,nai⟩,⟨old,he⟩,hs⟩:=st
  obtain ⟨xs,hq,hx⟩:=hg
  obtain ⟨its,rv,p,hz⟩:=I.tuple hq
  have hl:=rv.length
  have hh:X.A.in1.handled=none:=by simp [I.ok.hd hc]
  obtain ⟨f0,f1,f2,f3,f4,f5⟩:=hf it (by simp)
  have hT:s.TypeIs (.ref e) "enumerate":=⟨_,he,rfl⟩
  unfold pyNext
  refine wpAny_bind (wpAny_attempt (wpAny_callSpecial?_slot (name:=Str.ofString "__next__") hT F.slot_enumerate_next (wpAny_call_entry F.slot_enumerate_next hT F.entry_enumerate_next ?_ (F.args_enumerate_next_1 _))))
  show wpAny _ _ (field (.ref e) 2 >>= _) _ _ _
  refine wpAny_bind (wpAny_field he rfl (x:=.ref it) rfl ?_)
  refine wpAny_bind (nxT_end hh hs (show s.heap.IsTuple a its.toArray from p) (by simp;omega) fun h' x he' hx'=>?_)
  obtain ⟨o,ho,hc'⟩:=hx'
  refine wpAny_bind (wpAny_isInstance (T:="StopIteration") (b:=true) ⟨o,ho,hc'⟩ isSubtype_stop ?_)
  exact wpAny_pure ⟨rfl,I.turned (t':=s.toks) (fun b o hb e=>he' b o hb e) f0 f1 f3 f4 f5⟩
 self:=fun A i s Q E st h=>by
  obtain ⟨_,⟨old,he⟩,_⟩:=st
  exact wpAny_pyIter_enum he h
section
variable {X:Cx} {elts:List Expr} {x1:Nat} {tp:Pos}
def iEnumT (K:PySem.W.Frag) (ta:TA):TI:=fun σ H R=>ta σ H fun vs H1=>∃ a,vs=[.ref a]∧(∃ xs,SqT K H1 a xs)∧R (IteT K a) H1
theorem qi_enumT {a:Expr} {ta:TA} {p pos:Pos} (hg:Gl X "enumerate") (hm:X.mg "enumerate"=none) (ha:QA X [a] ta) (hs:starEach [a] X.env=[(false,eval a X.env)]:=by rfl):QI X (.Tuple elts x1 tp) (.Call (.Name "enumerate" p) [a] [] pos) (iEnumT X.K ta):=⟨by
 intro pins s σ H R I h
 refine Call_ (ld_blt I hg hm boot_enumerate (PyProof.Rows.callWith_type1 (thn (ha.out pos pins s σ H _ I h) fun us s1 ⟨vs,H1,I1,r1,q1⟩=>?_) hs rfl))
 obtain ⟨a,e,⟨xs,hq⟩,q⟩:=q1
 subst e
 cases r1 with
 | cons r rr=>
  cases rr
  cases r
  obtain ⟨its,rv,pp,hz⟩:=I1.tuple hq
  have hlt:a < s1.heap.objs.size:=by
   obtain ⟨o,ho,_⟩:=(show s1.heap.IsTuple a its.toArray from pp)
   exact Heap.lt_size ho
  refine enumT (show s1.heap.IsTuple a its.toArray from pp) fun h' he hit hsz hk=>wpAny_pyIter_enum he ?_
  refine ⟨s1.heap.objs.size + 1,[s1.heap.objs.size + 1,s1.heap.objs.size],_,_,H1,rfl,I1.kept (t':=s1.toks) hk,turn_enumT a s1.heap.objs.size _,⟨⟨Nat.succ_ne_self _,Nat.ne_of_lt (Nat.lt_succ_of_lt hlt),Nat.ne_of_lt hlt⟩,⟨_,he⟩,hit⟩,fun b hb=>?_,q⟩
  rcases List.mem_cons.mp hb with z | z
  ·rw [z];exact I1.fpOk (Nat.le_succ _) (I1.hok.fresh (Nat.le_succ _))
  ·rw [List.mem_singleton.mp z];exact I1.fpOk (Nat.le_refl _) (I1.hok.fresh (Nat.le_refl _))⟩
end
theorem for_enumT {K:PySem.W.Frag} {a:Addr} {xs:List V} {g:TG} {tb:TS} {D:Ends} {σ:St} {H:Hp} (Pv:Nat→St→Hp→Prop) (h0:Pv 0 σ H) (hl:∀ i σ H,i≤xs.length→Pv i σ H→SqT K H a xs)
  (hs:∀ i x σ H T,xs[i]?=some x→Pv i σ H→H T=none→g (.ref T) σ (upd H T (.tup [.int i,x])) fun σ2 H2=>tb { D with nx:=Pv (i + 1),ct:=Pv (i + 1),bk:=D.nx } σ2 H2) (hd:∀ σ H,Pv xs.length σ H→D.nx σ H) :
  ∃ W:Nat→Nat→St→Hp→Prop,(∃ m,W 0 m σ H)∧∀ i m σ H,W i m σ H→
   ((IteT K a).stop i H∧D.nx σ H)∨((IteT K a).go i H∧∃ N:St→Hp→Prop,(∀ σ' H',N σ' H'→∃ m',m' < m∧W (i + 1) m' σ' H')∧∀ x H',(IteT K a).yld i H x H'→g x σ H' fun σ2 H2=>tb { D with nx:=N,ct:=N,bk:=D.nx } σ2 H2):=by
 refine ⟨fun i m σ H=>m=xs.length - i∧i≤xs.length∧Pv i σ H,⟨xs.length,by simp,Nat.zero_le _,h0⟩,?_⟩
 rintro i m σ H ⟨rfl,hi,p⟩
 have q:=hl i σ H hi p
 by_cases hlt:i < xs.length
 ·refine .inr ⟨⟨xs,xs[i],q,by simp [hlt]⟩,Pv (i + 1),fun σ' H' p'=>⟨xs.length - (i + 1),by omega,rfl,hlt,p'⟩,fun x H' y=>?_⟩
  obtain ⟨T,y,hT,rfl,hy,rfl⟩:=y
  exact hs i y σ _ T (hy xs q) p hT
 ·have e:i=xs.length:=by omega
  subst e
  exact .inl ⟨⟨xs,q,Nat.le_refl _⟩,hd σ H p⟩
section
variable {X:Cx}
end
end L2
end
section
set_option Elab.async false
set_option linter.all false
set_option maxRecDepth 100000
set_option maxHeartbeats 2000000
namespace L2
open PySem PySem.Spec PyProof.Rows PySem.W
structure ZA (z ti to u v a b:Addr):Prop where
 q1:ti≠z
 q2:to≠z
 q3:u≠z
 q4:v≠z
 q5:ti≠to
 q6:ti≠u
 q7:ti≠v
 q8:to≠u
 q9:to≠v
 p1:u≠v
 p2:a≠z
 p3:a≠to
 p4:a≠u
 p5:a≠v
 p6:b≠z
 p7:b≠to
 p8:b≠u
 p9:b≠v
section
variable {prog:Program} {w:World} {A:Around} {E:Value→Shared→Prop} {s:Shared} {z ti to u v a b:Addr} {i:Nat} {f g:Array Value} {x y m n:Value}
end
section
variable {X:Cx} {pins:List (Addr × Obj)} {σ:St} {H:Hp} {s:Shared}
end
section
variable {X:Cx} {elts:List Expr} {x1:Nat} {tp:Pos}
end
end L2
end
section
set_option Elab.async false
set_option linter.all false
set_option maxRecDepth 100000
set_option maxHeartbeats 2000000
namespace L2
open PySem PySem.Spec PyProof.Rows PySem.W
section
variable {X:Cx}
end
end L2
end
section
set_option Elab.async false
set_option linter.all false
set_option maxRecDepth 100000
set_option maxHeartbeats 2000000
namespace HT
open PySem PySem.Spec PyProof.Rows
section
variable {prog:Program} {w:World} {A:Around} {E:Value→Shared→Prop} {s:Shared}
end
end HT
namespace L2
open PySem PySem.Spec PyProof.Rows PySem.W
section
variable {X:Cx}
end
end L2
end
section
set_option Elab.async false
set_option linter.all false
set_option maxRecDepth 100000
set_option maxHeartbeats 2000000
namespace L2
open PySem PySem.Spec PyProof.Rows PySem.W
section
variable {prog:Program} {w:World} {A:Around} {E:Value→Shared→Prop} {s:Shared} {z ti to u v a b:Addr} {i:Nat} {f g:Array Value} {x y m n:Value}
end
section
variable {X:Cx} {elts:List Expr} {x1:Nat} {tp:Pos}
end
section
variable {prog:Program} {w:World} {A:Around} {E:Value→Shared→Prop} {s:Shared}
end
section
variable {X:Cx}
end
section
variable {X:Cx}
end
end L2
end
section
set_option Elab.async false
set_option linter.all false
set_option maxRecDepth 100000
set_option maxHeartbeats 2000000
namespace L2
open PySem PySem.Spec PyProof.Rows PySem.W
section
variable {X:Cx}
theorem call_minL (hc:X.calm=true):CallR X (.builtin "min") (fun xs H Q=>∃ (p:Addr) (ns:List Int),xs=[.ref p]∧SqL X.K H p (ns.map V.int)∧0 < ns.length∧∀ m∈ns,(∀ x∈ns,m≤x)→Q (.int m) H):=by
 intro pins s σ H xs us Q I r h
 obtain ⟨p,ns,rfl,hq,h0,q⟩:=h
 obtain ⟨u,rfl,ru⟩:=vals1 r
 cases ru
 obtain ⟨its,rv,pl,hz⟩:=I.list hq
 have hlen:=rv.length
 rw [List.length_map] at hlen
 have hne:p≠s.heap.objs.size:=by
  obtain ⟨o,ho,_⟩:=pl.isList
  exact Nat.ne_of_lt (Heap.lt_size ho)
 have hb:∀ (i:Nat) (v:Value),its.toArray[i]?=some v→∃ t,v=.int (ns.getD i 0) t:=fun i v hv=>by
  have hv:its[i]?=some v:=by simpa using hv
  have hi:i < ns.length:=by have:=(List.getElem?_eq_some_iff.mp hv).1;omega
  obtain ⟨u,hu,ru⟩:=rv.get (i:=i) (x:=.int ns[i]) (by simp [hi])
  rw [hv] at hu;cases hu
  obtain ⟨t,e⟩:=ru
  exact ⟨t,by rw [e];simp [List.getD,hi]⟩
 refine call_min_walk (wpAny_pyIter_list pl.isList ?_)
 refine ⟨s.heap.objs.size,_,_,_,_,_,_,rfl,Walks.list (A:=X.A.in1) (I.ok.hd hc) s.heap.objs.size p hne its.toArray,⟨⟨_,Heap.get?_push_size _ rfl,rfl,rfl⟩,pl.isList.at fun o e=>Heap.get?_push_of_some _ e⟩,?_,by simp;omega,CmpOf.ints_lt (fun i=>ns.getD i 0) hb,fun v h' tk hP kk=>?_⟩
 ·intro b hb
  have:b=s.heap.objs.size∨b=p:=by simpa using hb
  rw [Heap.size_push]
  rcases this with e | e
  ·rw [e];exact Nat.lt_succ_self _
  ·rw [e]
   obtain ⟨o,ho,_⟩:=pl.isList
   exact Nat.lt_succ_of_lt (Heap.lt_size ho)
 ·have I1:Inv X pins σ H { s with heap:=h',toks:=tk }:=I.kept fun b o e=>kk b o (by
   intro hm
   have:b=s.heap.objs.size:=by simpa using hm
   subst this
   exact absurd (Heap.lt_size e) (Nat.lt_irrefl _)) (Heap.get?_push_of_some _ e)
  obtain ⟨k1,k2⟩:=argBest_lt (fun i=>ns.getD i 0) (its.toArray.size - 1)
  have hsz:its.toArray.size=ns.length:=by simp [hlen]
  obtain ⟨t,e⟩:=hb _ v hP
  generalize argBest _ _=j at k1 k2 e
  have hj:j < ns.length:=by omega
  refine ⟨.int (ns.getD j 0),H,I1,⟨t,e⟩,q _ (by simp [List.getD,hj]) fun x hx=>?_⟩
  obtain ⟨i,hi,rfl⟩:=List.mem_iff_getElem.mp hx
  have:=k2 i (by omega)
  simpa [List.getD,hi] using this
end
end L2
end
section
set_option Elab.async false
set_option linter.all false
set_option maxRecDepth 100000
set_option maxHeartbeats 2000000
namespace L2
open PySem PySem.Spec PyProof.Rows PySem.W
section
variable {P:Program} {wd:World} {Ar:Around} {Ex:Value→Shared→Prop}
end
section
variable {X:Cx} {pos:Pos}
end
end L2
end
section
set_option Elab.async false
set_option linter.all false
set_option maxRecDepth 100000
set_option maxHeartbeats 2000000
namespace L2
open PySem PySem.Spec PyProof.Rows PySem.W
section
variable {X:Cx} {o e f:Expr} {apos cpos:Pos} {td ty tx:TE}
structure KDict (P:Program) (w:World) (K:PySem.W.Frag) (a:Addr) (kvs:List (Key × V)):Prop where
 z:(a == sysModules)=false
 ex:∃ o vs,K.lookup a=some o∧KV kvs vs∧o.IsDictOf (mixKind P w) vs
end
section
variable {X:Cx}
end
end L2
end
section
set_option Elab.async false
set_option linter.all false
set_option maxRecDepth 100000
set_option maxHeartbeats 2000000
namespace L2
open PySem PySem.Spec PyProof.Rows PySem.W
def SetT (w:World) (h:Heap) (a:Addr) (es:Array (Int × Value)) (ep:Nat) (t:SetTable):Prop:=
 ∃ o,h.get? a=some o∧o.ExactSet∧o.data=.set es ep t∧t.fits es.size=true∧(w.params.followText "set-order"=true∨t.led=true)∧(t.plain=false∨es.size=0)
def keyT (e:Int × Value):List Nat:=match e.2 with
 | .str x _=>x.cps.toList
 | _=>[]
structure ElS (w:World) (es:Array (Int × Value)) (ws:List (List Nat)):Prop where
 sh:∀ e∈es.toList,∃ (l:List Nat) (u:Tok),e=(hashStr w (S l),.str (S l) u)
 nd:(es.toList.map keyT).Nodup
 mem:∀ l,l∈es.toList.map keyT↔l∈ws
theorem SetT.mv {w:World} {h h':Heap} {a:Addr} {es:Array (Int × Value)} {ep:Nat} {t:SetTable} (m:SetT w h a es ep t) (k:∀ o,h.get? a=some o→h'.get? a=some o):SetT w h' a es ep t:=let ⟨o,p,q⟩:=m;⟨o,k _ p,q⟩
theorem SetT.ty {w:World} {s:Shared} {a:Addr} {es:Array (Int × Value)} {ep:Nat} {t:SetTable} (m:SetT w s.heap a es ep t):s.TypeIs (.ref a) "set":=let ⟨o,p,q,_⟩:=m;⟨o,p,q.1⟩
theorem SetT.lt {w:World} {h:Heap} {a:Addr} {es:Array (Int × Value)} {ep:Nat} {t:SetTable} (m:SetT w h a es ep t):a < h.objs.size:=let ⟨o,p,_⟩:=m;Heap.lt_size p
theorem ElS.el {w:World} (prog:Program) {es:Array (Int × Value)} {ws:List (List Nat)} (m:ElS w es ws):ElemsOf (PySem.strKind prog w) es.toList:=fun e he=>by
 obtain ⟨l,u,rfl⟩:=m.sh e he
 exact ⟨⟨S l,strKind_is _ _ _ _,rfl⟩,rfl⟩
theorem stand_led (t:SetTable) (n:Nat):(t.orStandIn n).led=t.led:=by
 unfold SetTable.orStandIn
 split <;> rfl
theorem lay_led (t:SetTable) (es:Array (Int × Value)) (h:Int) (x:Value):(layNew t es h x).2.1.led=t.led:=by
 unfold layNew
 split
 ·exact stand_led _ _
 ·rfl
theorem relay_led (t:SetTable) (es:Array (Int × Value)) (n:Nat):(relayAll t es n).2.1.led=t.led:=by
 unfold relayAll SetTable.relaid SetTable.laid
 cases h:SetTable.layClean (SetTable.sizeAbove n - 1) (es.map (·.1)) with
 | none=>rfl
 | some o=>
  dsimp only [bind,Option.bind,pure]
  split <;> rfl
theorem relay_plain (t:SetTable) (es:Array (Int × Value)) (n:Nat) (hp:t.plain=false):(relayAll t es n).2.1.plain=false:=by
 unfold relayAll SetTable.relaid SetTable.laid
 cases h:SetTable.layClean (SetTable.sizeAbove n - 1) (es.map (·.1)) with
 | none=>rfl
 | some o=>
  dsimp only [bind,Option.bind,pure]
  split
  ·exact hp
  ·rfl
theorem ElS.perm {w:World} {es es':Array (Int × Value)} {ws:List (List Nat)} (m:ElS w es ws) (p:es'.toList.Perm es.toList):ElS w es' ws:=
 ⟨fun e he=>m.sh e (p.mem_iff.mp he),(p.map keyT).nodup_iff.mpr m.nd,fun l=>(p.map keyT).mem_iff.trans (m.mem l)⟩
section
variable {prog:Program} {w:World} {A:Around} {E:Value→Shared→Prop} {s:Shared} {a:Addr} {es:Array (Int × Value)} {ep:Nat} {t:SetTable} {ws:List (List Nat)}
theorem setT_store {es':Array (Int × Value)} {t':SetTable} {Q:Unit→Shared→Prop} (m:SetT w s.heap a es ep t) (hf:t'.fits es'.size=true) (hl:t'.led=t.led) (hp:t'.plain=false) (hz:es'.size < scanBound)
  (q:∀ h',Heap.SameBut a s.heap h'→SetT w h' a es' (ep + 1) t'→Q () { s with heap:=h' }):wpAny (model prog w) A (storeSet a es' t') Q E s:=by
 obtain ⟨o,ho,hex,hd,_,hb,_⟩:=m
 refine wpAny_storeSet_of ho hd (q _ (Heap.SameBut.update s.heap a (Obj.putSet es' t')) ?_) (fits_of_scanBound hz)
 have hg:=Heap.get?_update_self (Obj.putSet es' t') ho (by rw [putSet_of es' t' hd];rfl)
 rw [putSet_of es' t' hd] at hg
 exact ⟨_,hg,hex,rfl,hf,by rw [hl];exact hb,.inl hp⟩
theorem setT_add {l:List Nat} {u:Tok} {Q:Bool→Shared→Prop} (m:SetT w s.heap a es ep t) (el:ElS w es ws) (hz:es.size + 1 < scanBound)
  (q:∀ b h' es' ep' t',Heap.SameBut a s.heap h'→SetT w h' a es' ep' t'→ElS w es' (ws ++ [l])→es'.size≤es.size + 1→Q b { s with heap:=h' }) :
  wpAny (model prog w) A (setAddHashed a (.str (S l) u) (hashStr w (S l))) Q E s:=by
 have hel:=el.el prog
 have hkey:(PySem.strKind prog w).is (S l) (.str (S l) u)=true:=strKind_is _ _ _ _
 obtain ⟨o,ho,hex,hd,hf,hb,hp⟩:=id m
 unfold setAddHashed setAddHashedIn
 refine wpAny_holding (wpAny_bind (wpAny_setState_of ho hd hf ?_))
 dsimp only
 rw [byScan_of (knd:=PySem.strKind prog w) rfl (by omega) hel]
 simp only [↓reduceIte]
 unfold setAddByScan
 refine wpAny_bind ?_
 refine wpAny_bind (wpAny_rule ?_)
 refine wpAny_bind (wpAny_setScan_of (knd:=PySem.strKind prog w) hkey ho hd hf hel ?_)
 have hin:∀ e∈es.toList,(PySem.strKind prog w).is (S l) e.2=decide (keyT e=l):=fun e he=>by
  obtain ⟨l',u',rfl⟩:=el.sh e he
  show (Value.isStrOf (S l) (.str (S l') u'))=decide (l'=l)
  by_cases e:l'=l
  ·subst e;simp [Value.isStrOf]
  ·have:¬S l=S l':=fun z=>e (S_inj z).symm
   simp [Value.isStrOf,e,this]
   try exact fun z=>this z.symm
 cases hr:List.findIdx? (fun e=>(PySem.strKind prog w).is (S l) e.2) es.toList with
 | some j=>
  dsimp only
  obtain ⟨hj,hpj,_⟩:=List.findIdx?_eq_some_iff_getElem.mp hr
  have hl:l∈es.toList.map keyT:=List.mem_map.mpr ⟨_,List.getElem_mem hj,by have:=hin _ (List.getElem_mem hj);rw [hpj] at this;simpa using this.symm⟩
  refine wpAny_pure (wpAny_pure ?_)
  have e:s={ s with heap:=s.heap }:=by cases s;rfl
  rw [e]
  refine q _ s.heap es ep t (Heap.SameBut.refl a s.heap) m ⟨el.sh,el.nd,fun l'=>?_⟩ (Nat.le_succ _)
  rw [el.mem l',List.mem_append,List.mem_singleton]
  exact ⟨.inl,fun z=>z.elim id fun z=>z ▸ (el.mem l).mp hl⟩
 | none=>
  dsimp only
  have hnl:l∉es.toList.map keyT:=fun z=>by
   obtain ⟨e,he,ek⟩:=List.mem_map.mp z
   have h1:=List.findIdx?_eq_none_iff.mp hr e he
   rw [hin e he,ek] at h1
   simp at h1
  have hgw:∀ (b:Bool) {s₁:Shared} {Q':Unit→Shared→Prop},Q' () s₁→wpAny (model prog w) A (match b with | true=>rule "set.scan.the-table-gave-way" | false=>pure ()) Q' E s₁:=
   fun b s₁ Q' hq=>by cases b <;> first | exact wpAny_pure hq | exact wpAny_rule hq
  have hperm:=layNew_perm t es (hashStr w (S l)) (.str (S l) u)
  have hfits:=layNew_fits t es (hashStr w (S l)) (.str (S l) u)
  have hled:=lay_led t es (hashStr w (S l)) (.str (S l) u)
  have ehash:(PySem.strKind prog w).hash (S l)=hashStr w (S l):=rfl
  generalize hL:layNew t es (hashStr w (S l)) (.str (S l) u)=L at hperm hfits hled ⊢
  obtain ⟨es1,t1,wasDummy,gave⟩:=L
  dsimp only at hperm hfits hled ⊢
  rw [Array.toList_push] at hperm
  have hsz1:es1.size=es.size + 1:=by rw [← Array.length_toList,hperm.length_eq,List.length_append,Array.length_toList];rfl
  have el1:ElS w es1 (ws ++ [l]):=by
   have el0:ElS w (es.push (hashStr w (S l),.str (S l) u)) (ws ++ [l]):=by
    refine ⟨fun e he=>?_,?_,fun l'=>?_⟩
    ·rw [Array.toList_push] at he
     rcases List.mem_append.mp he with he | he
     ·exact el.sh e he
     ·rw [List.mem_singleton] at he;exact ⟨l,u,he⟩
    ·rw [Array.toList_push,List.map_append]
     refine List.nodup_append.mpr ⟨el.nd,by simp,fun x hx y hy=>?_⟩
     have:y=l:=List.mem_singleton.mp hy
     subst this
     exact fun z=>hnl (z ▸ hx)
    ·rw [Array.toList_push,List.map_append,List.mem_append,List.mem_append,el.mem l']
     rfl
   exact el0.perm (by rw [Array.toList_push];exact hperm)
  have fin:∀ {R:Option Bool→Shared→Prop} (t2:SetTable),t2.fits es1.size=true→t2.led=t.led→t2.plain=false→(∀ h' es' ep' t',Heap.SameBut a s.heap h'→SetT w h' a es' ep' t'→ElS w es' (ws ++ [l])→es'.size≤es.size + 1→R (some true) { s with heap:=h' })→
    wpAny (model prog w) A (do
     storeSet a es1 t2
     if (!wasDummy && t2.tooFull)=true then do
       (match (relayAll t2 es1 (SetTable.grown es1.size)).2.2 with | true=>rule "set.scan.the-table-gave-way" | false=>pure ())
       storeSet a (relayAll t2 es1 (SetTable.grown es1.size)).1 (relayAll t2 es1 (SetTable.grown es1.size)).2.1
       pure (some true)
      else pure (some true)) R E s:=by
   intro R t2 hf2 hl2 hp2 hR
   refine wpAny_bind (setT_store m hf2 hl2 hp2 (by omega) fun h1 sb1 m1=>?_)
   split
   ·have hpr:=relayAll_perm t2 es1 (SetTable.grown es1.size)
    have hfr:=relayAll_fits t2 es1 (SetTable.grown es1.size)
    have hlr:=relay_led t2 es1 (SetTable.grown es1.size)
    have hppr:=relay_plain t2 es1 (SetTable.grown es1.size) hp2
    generalize hRl:relayAll t2 es1 (SetTable.grown es1.size)=Rl at hpr hfr hlr hppr ⊢
    obtain ⟨es2,t3,gave2⟩:=Rl
    dsimp only at hpr hfr hlr hppr ⊢
    have hsz:es2.size=es1.size:=by rw [← Array.length_toList,hpr.length_eq,Array.length_toList]
    refine wpAny_bind (hgw _ ?_)
    refine wpAny_bind (setT_store (s:={ s with heap:=h1 }) m1 hfr hlr hppr (by omega) fun h2 sb2 m2=>?_)
    exact wpAny_pure (hR h2 es2 _ t3 (sb1.trans sb2) m2 (el1.perm hpr) (by omega))
   ·exact wpAny_pure (hR h1 es1 _ t2 sb1 m1 el1 (by omega))
  refine wpAny_bind (hgw _ ?_)
  have hbv:hashByValue 8 (.str (S l) u)=pure false:=by simp [hashByValue]
  cases hp1:t1.plain with
  | true=>
   simp only [↓reduceIte]
   refine wpAny_bind ?_
   rw [hbv]
   refine wpAny_pure ?_
   simp only [Bool.false_eq_true,↓reduceIte]
   exact fin { t1 with plain:=false } (SetTable.fits_plain_off hfits) hled rfl fun h' es' ep' t' sb m' e' z=>by dsimp only;exact wpAny_pure (q _ h' es' ep' t' sb m' e' z)
  | false=>
   simp only [Bool.false_eq_true,↓reduceIte]
   refine wpAny_bind (wpAny_pure ?_)
   simp only [↓reduceIte]
   exact fin t1 hfits hled hp1 fun h' es' ep' t' sb m' e' z=>by dsimp only;exact wpAny_pure (q _ h' es' ep' t' sb m' e' z)
end
def SetW (w:World) (a:Addr) (ws:List (List Nat)) (k:Nat):Heap→Prop:=fun h=>∃ es ep t,SetT w h a es ep t∧ElS w es ws∧es.size≤k
theorem SetW.mv {w:World} {h h':Heap} {a:Addr} {ws:List (List Nat)} {n:Nat} (m:SetW w a ws n h) (k:∀ o,h.get? a=some o→h'.get? a=some o):SetW w a ws n h':=let ⟨es,ep,t,q,r⟩:=m;⟨es,ep,t,q.mv k,r⟩
section
variable {prog:Program} {w:World} {A:Around} {I:Addr} {fp wr:List Addr} {n:Nat} {P:Nat→Value→Prop} {St:Nat→Heap→Prop} {R:Result→Shared→Prop}
theorem setT_loop (W:Walks prog w A.in1 I fp wr n P St) (S0:Addr) (hSf:S0∉fp) (val:Nat→List Nat) (hval:∀ i v,P i v→∃ t,v=.str (S (val i)) t) (hb:n + 1 < scanBound) :
  ∀ (k i:Nat) (s:Shared),n - i=k→i≤n→St i s.heap→SetW w S0 ((List.range i).map val) i s.heap→
   (∀ h' tk,(∀ b o,b∉S0 :: wr→s.heap.get? b=some o→h'.get? b=some o)→SetW w S0 ((List.range n).map val) n h'→R (.ok (.ret .none)) { s with heap:=h',toks:=tk })→
   codeAny (model prog w) A (.builtin "set.update.loop" ⟨[.ref S0,.ref I],[]⟩) R s:=by
 have hSw:S0∉wr:=fun h=>hSf (W.sub _ h)
 have sub:∀ b,b∉S0 :: wr→b∉wr:=fun b hb h=>hb (List.mem_cons_of_mem _ h)
 intro k
 induction k with
 | zero=>
  intro i s hk hi hst hS hR
  have hin:i=n:=by omega
  subst hin
  refine codeAny_builtin F.entry_set_update_loop ?_
  rw [Around.under_plainId F.plain_set_update_loop _]
  show wpAny _ A.in1 (pyNext (.ref I) >>= _) _ _ s
  refine wpAny_bind (W.done s _ _ hst fun h' tk hm=>?_)
  show wpAny _ A.in1 (ret Value.none) _ _ _
  exact wpAny_pure (hR h' tk (fun b o hb e=>hm b o (sub b hb) e) (hS.mv fun o e=>hm S0 o hSw e))
 | succ k ih=>
  intro i s hk hi hst hS hR
  have hlt:i < n:=by omega
  refine codeAny_builtin F.entry_set_update_loop ?_
  rw [Around.under_plainId F.plain_set_update_loop _]
  show wpAny _ A.in1 (pyNext (.ref I) >>= _) _ _ s
  refine wpAny_bind (W.item i s _ _ hlt hst fun v h1 tk hP hst' hm=>?_)
  obtain ⟨t,rfl⟩:=hval i v hP
  obtain ⟨es,ep,tb,m1,e1,z1⟩:=hS.mv (h':=h1) fun o e=>hm S0 o hSw e
  show wpAny _ A.in1 (holding [Value.str (S (val i)) t] (setAdd S0 (.str (S (val i)) t)) >>= _) _ _ _
  refine wpAny_bind (wpAny_holding ?_)
  unfold setAdd
  refine wpAny_holding ?_
  refine wpAny_bind ((PySem.strKind prog w).pyHash (k:=S (val i)) (strKind_is _ _ _ _) ?_)
  refine setT_add (s:={ s with heap:=h1,toks:=tk + 1 }) m1 e1 (by omega) fun b h2 es2 ep2 t2 sb m2 e2 z2=>?_
  refine wpAny_pure ⟨plainId_quiet F.plain_set_update_loop _,ih (i + 1) _ (by omega) hlt (W.frame _ h1 _ hst' fun b hb o e=>?_) ⟨es2,ep2,t2,m2,by rw [List.range_succ,List.map_append];exact e2,by omega⟩ fun h3 tk3 hm3 m3=>?_⟩
  ·show h2.get? b=some o
   rw [sb.2 b (fun h:b=S0=>hSf (by rw [← h];exact hb))];exact e
  ·refine hR h3 tk3 (fun b o hb e=>hm3 b o hb ?_) m3
   show h2.get? b=some o
   rw [sb.2 b (fun h:b=S0=>hb (by rw [h];exact List.mem_cons_self))]
   exact hm b o (sub b hb) e
end
section
variable {prog:Program} {w:World} {A:Around} {E:Value→Shared→Prop} {s:Shared}
theorem code_setT_new (a:Value) {Q₁:Value→Shared→Prop}
  (h:Q₁ (.ref s.heap.objs.size) { s with heap:=s.heap.push { cls:=.type "set",dict:=none,data:=.set #[] 0 (.fresh 0 0 (!w.params.followText "set-order")) } }) :
  codeAny (model prog w) A (.call (.builtin "set.__new__") ⟨[.type "set",a],[]⟩) (wants Q₁ E) s:=by
 refine codeAny_of_tree ?_
 show wpAny _ A.in1 (do checkBuiltinCall "set.__new__" ⟨[.type "set",a],[]⟩;again (.builtin "set.__new__" ⟨[.type "set",a],[]⟩)) _ _ s
 refine wpAny_bind (wpAny_of_eq (F.newCall_set_1 a) (wpAny_pure ⟨plainId_quiet F.plain_set_new _,codeAny_builtin F.entry_set_new ?_⟩))
 rw [Around.under_plainId F.plain_set_new _]
 unfold Builtin.«set.__new__» Builtin.Frozenset.newClass
 have hsub:=sub_set_self
 obtain ⟨hp,g,d,tk,os⟩:=s
 dsimp only
 wp_walk
 refine wpAny_askSetting (wpAny_pure ?_)
 dsimp only
 simp only [newObj]
 refine wpAny_bind (wpAny_alloc (wpAny_pure ?_))
 exact wpAny_pure h
theorem setT_fresh {h:Heap} {a:Addr} (e:h.get? a=some { cls:=.type "set",dict:=none,data:=.set #[] 0 (.fresh 0 0 (!w.params.followText "set-order")) }):SetW w a [] 0 h:=
 ⟨#[],0,_,⟨_,e,⟨rfl,rfl,rfl⟩,rfl,rfl,by cases q:w.params.followText "set-order" <;> simp [SetTable.fresh,q],.inr rfl⟩,⟨fun e he=>by simp at he,by simp,fun l=>by simp⟩,Nat.le_refl _⟩
theorem call_setT {src:Value} {ws:List (List Nat)} {n:Nat} {Q:Value→Shared→Prop} (hh:A.handled=none)
  (hu:∀ (A':Around) (E':Value→Shared→Prop) (Q':Unit→Shared→Prop) (h1:Heap),A'.handled=none→h1.objs.size=s.heap.objs.size + 1→SetW w s.heap.objs.size [] 0 h1→(∀ b o,s.heap.get? b=some o→h1.get? b=some o)→
   (∀ h' tk,(∀ b o,s.heap.get? b=some o→h'.get? b=some o)→SetW w s.heap.objs.size ws n h'→Q' () { s with heap:=h',toks:=tk })→
   wpAny (model prog w) A' (Builtin.Frozenset.updateFrom "set.__init__" s.heap.objs.size src) Q' E' { s with heap:=h1 })
  (h:∀ h' tk,(∀ b o,s.heap.get? b=some o→h'.get? b=some o)→SetW w s.heap.objs.size ws n h'→Q (.ref s.heap.objs.size) { s with heap:=h',toks:=tk }) :
  wpAny (model prog w) A (call (.type "set") [src]) Q E s:=by
 obtain ⟨c,tl,hmro⟩:=F.called_set.mro
 have hmade:=F.called_set.made
 have hsub:=F.called_set.sub
 refine wpAny_call (codeAny_of_tree ?_)
 show wpAny _ _ (callAny (.type "set") _) _ _ _
 refine wpAny_pure ⟨Code.quiet_builtin _ (by decide +kernel),codeAny_builtin F.entry_type_call ?_⟩
 rw [Around.under_plain (weight_type_call_type "set" [src] []) rfl]
 have h1:=F.called_set.notType
 have h2:=F.called_set.canCreate
 have hct:=F.typeCall_set_1 src
 repeat (any_goals (first | assumption | wp_step))
 refine codeAny_mono (code_setT_new src (E:=E) (Q₁:=fun obj s₁=>obj=.ref s.heap.objs.size∧s₁={ s with heap:=s.heap.push { cls:=.type "set",dict:=none,data:=.set #[] 0 (.fresh 0 0 (!w.params.followText "set-order")) } }) ⟨rfl,rfl⟩) fun r s₁ hr=>?_
 cases r with
 | error e=>exact hr
 | ok fl=>
  cases fl with
  | ret obj=>
   obtain ⟨rfl,rfl⟩:=hr
   have hS:(s.heap.push { cls:=.type "set",dict:=none,data:=.set #[] 0 (.fresh 0 0 (!w.params.followText "set-order")) }).get? s.heap.objs.size=some { cls:=.type "set",dict:=none,data:=.set #[] 0 (.fresh 0 0 (!w.params.followText "set-order")) }:=Heap.get?_push_size _ rfl
   have hT:Shared.TypeIs { s with heap:=s.heap.push { cls:=.type "set",dict:=none,data:=.set #[] 0 (.fresh 0 0 (!w.params.followText "set-order")) } } (.ref s.heap.objs.size) "set":=⟨_,hS,rfl⟩
   have hli:=F.called_set.init.lookup
   have hbi:=F.called_set.init.bind (.ref s.heap.objs.size)
   repeat (any_goals (first | assumption | wp_step))
   refine codeAny_mono (codeAny_call_builtin (R:=wants (fun r s₂=>r=.none∧∃ h' tk,s₂={ s with heap:=h',toks:=tk }∧(∀ b o,s.heap.get? b=some o→h'.get? b=some o)∧SetW w s.heap.objs.size ws n h') E) F.called_set.init.plain F.entry_set_init (check_set_init_1 hT ?_)) fun r₂ s₂ hr₂=>?_
   ·unfold Builtin.«set.__init__» noKeywords
    generalize hU:Builtin.Frozenset.updateFrom=U
    wp_walk
    subst hU
    refine hu _ _ _ _ (by simp [hh]) (Heap.size_push ..) (setT_fresh hS) (fun b o e=>Heap.get?_push_of_some _ e) fun h' tk k m=>?_
    refine wpAny_pure ?_
    exact ⟨rfl,h',tk,rfl,k,m⟩
   ·cases r₂ with
    | error e=>exact hr₂
    | ok fl₂=>
     cases fl₂ with
     | ret r=>
      obtain ⟨rfl,h',tk,rfl,k,m⟩:=hr₂
      repeat (any_goals (first | assumption | wp_step))
      exact h _ _ k m
     | _=>exact hr₂.elim
  | _=>exact hr.elim
end
end L2
end
section
set_option Elab.async false
set_option linter.all false
set_option maxRecDepth 100000
set_option maxHeartbeats 2000000
namespace L2
open PySem PySem.Spec PyProof.Rows PySem.W
section
variable {prog:Program} {w:World} {A:Around} {E:Value→Shared→Prop} {s:Shared}
theorem updT_list {S0 l:Addr} {items:Array Value} {val:Nat→List Nat} {Q:Unit→Shared→Prop} (hh:A.handled=none) (hl:s.heap.IsList l items) (hS:SetW w S0 [] 0 s.heap) (hne:S0≠l) (hlt:S0 < s.heap.objs.size)
  (hval:∀ i v,items[i]?=some v→∃ t:Tok,v=Value.str (S (val i)) t) (hb:items.size + 1 < scanBound)
  (q:∀ h' tk,(∀ b o,b≠S0→s.heap.get? b=some o→h'.get? b=some o)→SetW w S0 ((List.range items.size).map val) items.size h'→Q () { s with heap:=h',toks:=tk }) :
  wpAny (model prog w) A (Builtin.Frozenset.updateFrom "set.__init__" S0 (.ref l)) Q E s:=by
 obtain ⟨ol,hol,hcl,nl,hdl⟩:=id hl
 obtain ⟨ocls,odict,odata,oslots⟩:=ol
 simp only at hcl hdl
 subst hcl;subst hdl
 have hsls:=F.sub_list_set
 have hslf:=F.sub_list_frozenset
 have hnd:(Value.type "list" == Value.type "dict")=false:=by decide
 unfold Builtin.Frozenset.updateFrom
 generalize hPI:pyIter=PI
 wp_walk
 subst hPI
 refine wpAny_pyIter_list hl ?_
 refine wpAny_bind (wpAny_runValue ?_)
 have hlS:l < s.heap.objs.size:=Heap.lt_size hol
 have hneI:l≠s.heap.objs.size:=Nat.ne_of_lt hlS
 refine setT_loop (Walks.list (by simp [hh]) _ l hneI items) S0 (by simp only [List.mem_cons,List.not_mem_nil,or_false,not_or];exact ⟨Nat.ne_of_lt hlt,hne⟩) val hval hb (items.size - 0) 0 _ (by omega) (Nat.zero_le _)
  ⟨⟨_,Heap.get?_push_size _ rfl,rfl,rfl⟩,hl.push _⟩ (hS.mv fun o e=>Heap.get?_push_of_some _ e) fun h' tk k m=>?_
 refine wpAny_pure ?_
 refine q h' tk (fun b o hb e=>k b o ?_ (Heap.get?_push_of_some _ e)) m
 simp only [List.mem_cons,List.not_mem_nil,or_false,not_or]
 exact ⟨hb,Nat.ne_of_lt (Heap.lt_size e)⟩
end
section
variable {X:Cx}
theorem SetW.ext {w:World} {h:Heap} {H:Hp} {P:Program} {a:Addr} {ws:List (List Nat)} {n:Nat} (m:SetW w a ws n h):ObjOk P w H h a (.ext (SetW w a ws n)):=by
 refine ⟨m,?_,fun h1 h2 p k=>p.mv k⟩
 obtain ⟨es,ep,t,⟨o,ho,_⟩,_⟩:=m
 exact ⟨o,ho⟩
theorem range_get (ws:List (List Nat)):(List.range ws.length).map (fun i=>ws.getD i [])=ws:=by
 apply List.ext_getElem?
 intro i
 rw [List.getElem?_map]
 by_cases h:i < ws.length
 ·rw [List.getElem?_range h,List.getElem?_eq_getElem h];simp [List.getD,h]
 ·rw [List.getElem?_eq_none (by simpa using h),List.getElem?_eq_none (by simpa using h)];rfl
def rSetLT (w:World) (K:PySem.W.Frag):List V→Hp→VK→Prop:=fun xs H Q=>∃ (a:Addr) (ws:List (List Nat)),xs=[.ref a]∧SqL K H a (Ts ws)∧ws.length≤1000∧
 ∀ p,H p=none→Q (.ref p) (upd H p (.ext (SetW w p ws ws.length)))
theorem call_setLT (hc:X.calm=true):CallR X (.type "set") (rSetLT X.w X.K):=by
 intro pins s σ H xs us Q I r h
 obtain ⟨p,ws,rfl,hq,hz,q⟩:=h
 obtain ⟨u,rfl,ru⟩:=vals1 r
 cases ru
 obtain ⟨its,rv,pl,hz2⟩:=I.list hq
 have hlen:=rv.length
 rw [List.length_map] at hlen
 have hlt:p < s.heap.objs.size:=by
  obtain ⟨o,ho,_⟩:=pl.isList
  exact Heap.lt_size ho
 have hval:∀ (i:Nat) (v:Value),its.toArray[i]?=some v→∃ t:Tok,v=Value.str (S (ws.getD i [])) t:=fun i v hv=>by
  have hv:its[i]?=some v:=by simpa using hv
  have hi:i < ws.length:=by have:=(List.getElem?_eq_some_iff.mp hv).1;omega
  obtain ⟨u,hu,ru⟩:=rv.get (i:=i) (x:=.str (S ws[i])) (by simp [hi])
  rw [hv] at hu;cases hu
  obtain ⟨t,e⟩:=ru
  exact ⟨t,by rw [e];simp [List.getD,hi]⟩
 have hsz:its.toArray.size=ws.length:=by simp [hlen]
 refine call_setT (ws:=ws) (n:=ws.length) (I.ok.hd hc) (fun A' E' Q' h1 hA' s1 m1 k1 q1=>?_) fun h' tk k m=>?_
 ·refine updT_list (s:={ s with heap:=h1 }) hA' (pl.isList.at fun o e=>k1 _ o e) m1 (Nat.ne_of_gt hlt) (by show s.heap.objs.size < h1.objs.size;omega) hval (by rw [hsz];show ws.length + 1 < 4096;omega) fun h' tk k m=>?_
  rw [hsz,range_get] at m
  exact q1 h' tk (fun b o e=>k b o (Nat.ne_of_lt (Heap.lt_size e)) (k1 b o e)) m
 ·exact ⟨.ref s.heap.objs.size,_,I.laid (o:=.ext _) (t':=tk) k (Nat.le_refl _) m.ext,rfl,q _ I.fresh⟩
end
theorem erase_perm {α:Type}:∀ (l:List α) (i:Nat) (h:i < l.length),(l[i] :: l.eraseIdx i).Perm l
 | a :: l,0,h=>.refl _
 | a :: l,i + 1,h=>(List.Perm.swap a _ _).trans ((erase_perm l i (by simpa using h)).cons a)
theorem pick_perm {α:Type} (next:Nat→Nat) (xs:Array α):(pickOrder next xs).toList.Perm xs.toList:=by
 have key:∀ (f k:Nat) (l:List α) (o:Array α),f=l.length→(pickOrder.go next f k l o).toList.Perm (o.toList ++ l):=by
  intro f
  induction f with
  | zero=>intro k l o e;cases l with | nil=>simp [pickOrder.go] | cons a r=>simp at e
  | succ f ih=>
   intro k l o e
   have h0:0 < l.length:=by omega
   have hi:next k % l.length < l.length:=Nat.mod_lt _ h0
   unfold pickOrder.go
   rw [List.getElem?_eq_getElem hi]
   dsimp only
   refine (ih _ _ _ (by rw [List.length_eraseIdx,if_pos hi];omega)).trans ?_
   rw [Array.toList_push,List.append_assoc]
   exact List.Perm.append_left _ (by simpa using erase_perm _ _ hi)
 have:=key xs.size 0 xs.toList #[] (by simp)
 simpa [pickOrder] using this
section
variable {prog:Program} {w:World} {A:Around} {E:Value→Shared→Prop} {s:Shared}
theorem wpAny_chooseT {src:Source} {n:Nat} {Q:Nat→Shared→Prop} (hn:n≠0) (h:∀ i d,i < n→Q i { s with drawn:=d }):wpAny (model prog w) A (choose src n) Q E s:=
 fun _ _ _=>⟨hn,h _ _ (Nat.mod_lt _ (Nat.pos_of_ne_zero hn))⟩
theorem wpAny_drawT {α:Type}:∀ (n:Nat) (xs:List α) {s:Shared} {Q:List α→Shared→Prop},n=xs.length→(∀ ys d,ys.Perm xs→Q ys { s with drawn:=d })→wpAny (model prog w) A (drawOrder n xs) Q E s
 | 0,xs,s,Q,e,h=>by
  have:xs=[]:=List.length_eq_zero_iff.mp e.symm
  subst this
  unfold drawOrder
  exact wpAny_pure (h [] s.drawn .nil)
 | n + 1,[],s,Q,e,h=>by simp at e
 | n + 1,x :: xs,s,Q,e,h=>by
  unfold drawOrder
  refine wpAny_bind (wpAny_chooseT (by simp) fun i d hi=>?_)
  rw [List.getElem?_eq_getElem hi]
  dsimp only
  refine wpAny_bind (wpAny_drawT n _ (by rw [List.length_eraseIdx,if_pos hi];omega) fun ys d' p=>wpAny_pure ?_)
  refine h _ d' ?_
  exact ((p.cons _).trans (erase_perm _ _ hi))
end
end L2
end
section
set_option Elab.async false
set_option linter.all false
set_option maxRecDepth 100000
set_option maxHeartbeats 2000000
namespace PySem.F
theorem slot_set_iterator_next:Slot "set_iterator" "__next__" "set_iterator.__next__":=
 .of (owner:="set_iterator") (n:="__next__") (by rw [typeLookup_type,builtinLookup_eq_fast];kernel_rfl) (by decide +kernel) (by decide +kernel) (by decide +kernel)
  (by first | exact .inl (by decide +kernel) | exact .inr (by decide +kernel)) (by rw [isSubtype_type];kernel_rfl)
theorem slot_set_iterator_iter:Slot "set_iterator" "__iter__" "set_iterator.__iter__":=
 .of (owner:="set_iterator") (n:="__iter__") (by rw [typeLookup_type,builtinLookup_eq_fast];kernel_rfl) (by decide +kernel) (by decide +kernel) (by decide +kernel)
  (by first | exact .inl (by decide +kernel) | exact .inr (by decide +kernel)) (by rw [isSubtype_type];kernel_rfl)
theorem entry_set_iterator_next:entryFor table "set_iterator.__next__"=some Builtin.«set_iterator.__next__»:=entryFor_of_tree (by kernel_rfl)
theorem entry_set_iterT:entryFor table "set.__iter__"=some Builtin.«frozenset.__iter__»:=entryFor_alias (id':="frozenset.__iter__") (by kernel_rfl) rfl (by decide +kernel) (by kernel_rfl)
theorem owner_set_iterator:Manifest.owners.lookup (String.ofList ['r','o','t','a','r','e','t','i','_','t','e','s'].reverse)=some Manifest.sig_set_iterator:=by kernel_rfl
theorem args_set_iterator_next_1 (a:Value):argsOk "set_iterator.__next__" ⟨[a],[]⟩:=by
 unfold argsOk;rw [signature?_of (id:="set_iterator.__next__") (n:=['_','_','t','x','e','n','_','_']) (o:=['r','o','t','a','r','e','t','i','_','t','e','s']) (by kernel_rfl) owner_set_iterator];kernel_rfl
theorem entry_set_iterator_iterT:entryFor table "set_iterator.__iter__"=some Builtin.«dict_keyiterator.__iter__»:=entryFor_alias (id':="dict_keyiterator.__iter__") (by kernel_rfl) rfl (by decide +kernel) (by kernel_rfl)
theorem args_set_iterator_iter_1 (a:Value):argsOk "set_iterator.__iter__" ⟨[a],[]⟩:=by
 unfold argsOk;rw [signature?_of (id:="set_iterator.__iter__") (n:=['_','_','r','e','t','i','_','_']) (o:=['r','o','t','a','r','e','t','i','_','t','e','s']) (by kernel_rfl) owner_set_iterator];kernel_rfl
end PySem.F
namespace L2
open PySem PySem.Spec PyProof.Rows PySem.W
def IsSetIter (h:Heap) (it:Addr) (first:Value) (i:Nat) (a:Addr) (n ep:Nat):Prop:=
 ∃ o,h.get? it=some o∧o.cls=.type "set_iterator"∧o.data=.fields #[first,.int i 0,.ref a,.int n 0,.int ep 0]
theorem IsSetIter.ty {s:Shared} {it a:Addr} {f:Value} {i n ep:Nat} (x:IsSetIter s.heap it f i a n ep):s.TypeIs (.ref it) "set_iterator":=let ⟨o,p,q,_⟩:=x;⟨o,p,q⟩
theorem IsSetIter.mv {h h':Heap} {it a:Addr} {f:Value} {i n ep:Nat} (x:IsSetIter h it f i a n ep) (k:∀ o,h.get? it=some o→h'.get? it=some o):IsSetIter h' it f i a n ep:=let ⟨o,p,q⟩:=x;⟨o,k _ p,q⟩
section
variable {prog:Program} {w:World} {A:Around} {E:Value→Shared→Prop} {s:Shared} {a it:Addr} {es:Array (Int × Value)} {ep i:Nat} {t:SetTable} {first:Value}
theorem set_item_slot {slot k:Nat} {u:Tok} {v:Value} {Q:Option Value→Shared→Prop} (x:IsSetIter s.heap it (.int slot u) i a es.size ep) (m:SetT w s.heap a es ep t)
  (hn:∀ (A':Around) (E':Value→Shared→Prop) (Q':Option (Value × Nat)→Shared→Prop),Q' (some (v,k)) s→wpAny (model prog w) A' (setNext a slot i ep) Q' E' s)
  (q:∀ h',IsSetIter h' it (.int k 0) (i + 1) a es.size ep→Heap.SameBut it s.heap h'→Q (some v) { s with heap:=h' }):wpAny (model prog w) A (pyNext (.ref it)) Q E s:=by
 have T:=x.ty
 obtain ⟨y,t1,t2,t3⟩:=id x
 obtain ⟨o,ho,hex,hd,hf,_,_⟩:=m
 unfold pyNext
 refine wpAny_bind (wpAny_attempt (wpAny_callSpecial?_slot (name:=Str.ofString "__next__") T F.slot_set_iterator_next (wpAny_call_entry F.slot_set_iterator_next T F.entry_set_iterator_next ?_ (F.args_set_iterator_next_1 _))))
 unfold Builtin.«set_iterator.__next__»
 refine wpAny_bind (wpAny_pure ?_)
 refine wpAny_bind (wpAny_fieldsOf t1 t3 ?_)
 dsimp only
 refine wpAny_bind (wpAny_setEntries_of ho hd hf ?_)
 rw [if_neg (by simp)]
 refine wpAny_bind ?_
 simp only [Int.toNat_natCast]
 refine hn _ _ _ ?_
 dsimp only
 refine wpAny_bind (wpAny_setField t1 t3 (by simp) ?_)
 have g1:=Heap.get?_update_self (Obj.mapFields (·.setIfInBounds 0 (rawInt (k:Int)))) t1 (Obj.isFreed_of_fields (Obj.data_mapFields t3 _))
 refine wpAny_bind (wpAny_setField g1 (Obj.data_mapFields t3 _) (by simp) ?_)
 have g2:=Heap.get?_update_self (Obj.mapFields (·.setIfInBounds 1 (rawInt ((i:Int) + 1)))) g1 (Obj.isFreed_of_fields (Obj.data_mapFields (Obj.data_mapFields t3 _) _))
 refine wpAny_pure ⟨_,rfl,wpAny_pure ?_⟩
 refine q _ ⟨_,g2,(Obj.cls_mapFields ..).trans ((Obj.cls_mapFields ..).trans t2),?_⟩ ((Heap.SameBut.update ..).trans (Heap.SameBut.update ..))
 rw [Obj.data_mapFields (Obj.data_mapFields t3 _)]
 simp [rawInt]
theorem set_end_slot {slot:Nat} {u:Tok} {Q:Option Value→Shared→Prop} (hh:A.handled=none) (x:IsSetIter s.heap it (.int slot u) i a es.size ep) (m:SetT w s.heap a es ep t)
  (hn:∀ (A':Around) (E':Value→Shared→Prop) (Q':Option (Value × Nat)→Shared→Prop),Q' none s→wpAny (model prog w) A' (setNext a slot i ep) Q' E' s)
  (q:∀ h',Heap.ExtBut it s.heap h'→Q none { s with heap:=h' }):wpAny (model prog w) A (pyNext (.ref it)) Q E s:=by
 have T:=x.ty
 obtain ⟨y,t1,t2,t3⟩:=id x
 obtain ⟨o,ho,hex,hd,hf,_,_⟩:=m
 unfold pyNext
 refine wpAny_bind (wpAny_attempt (wpAny_callSpecial?_slot (name:=Str.ofString "__next__") T F.slot_set_iterator_next (wpAny_call_entry F.slot_set_iterator_next T F.entry_set_iterator_next ?_ (F.args_set_iterator_next_1 _))))
 unfold Builtin.«set_iterator.__next__»
 refine wpAny_bind (wpAny_pure ?_)
 refine wpAny_bind (wpAny_fieldsOf t1 t3 ?_)
 dsimp only
 refine wpAny_bind (wpAny_setEntries_of ho hd hf ?_)
 rw [if_neg (by simp)]
 refine wpAny_bind ?_
 simp only [Int.toNat_natCast]
 refine hn _ _ _ ?_
 dsimp only
 refine wpAny_bind (wpAny_setField t1 t3 (by simp) ?_)
 refine wpAny_bind ?_
 simp only [PySem.newExc,newTuple]
 refine wpAny_bind (wpAny_newObj_type ?_ (by size_fits))
 refine wpAny_bind (m:=firstArgMember _ _) (wpAny_of_eq (a:=Value.none) (by first | rfl | (simp only [firstArgMember];rfl)) (wpAny_newObj_type ?_ (by size_fits)))
 simp only [raiseNew]
 refine wpAny_bind (wpAny_handled ?_)
 rw [show A.in1.handled=none from hh]
 refine wpAny_bind (wpAny_pure (wpAny_throw ?_))
 refine wpAny_bind (m:=isInstance _ _) (wpAny_isInstance (T:="StopIteration") (b:=true) ⟨_,Heap.get?_push_size _ rfl,rfl⟩ isSubtype_stop ?_)
 exact wpAny_pure (q _ (((Heap.SameBut.update ..).extBut.push _).push _))
theorem set_item_drawn {tp:Addr} {ot:Obj} {ps:Array Value} {pe j:Nat} {u:Tok} {hv:Int} {v:Value} {Q:Option Value→Shared→Prop} (x:IsSetIter s.heap it (.ref tp) i a es.size ep) (m:SetT w s.heap a es ep t)
  (h1:s.heap.get? tp=some ot) (h2:ot.data=.seq ps pe) (hp:ps[i]?=some (.int j u)) (he:es[j]?=some (hv,v))
  (q:∀ h',IsSetIter h' it (.ref tp) (i + 1) a es.size ep→Heap.SameBut it s.heap h'→Q (some v) { s with heap:=h' }):wpAny (model prog w) A (pyNext (.ref it)) Q E s:=by
 have T:=x.ty
 obtain ⟨y,t1,t2,t3⟩:=id x
 obtain ⟨o,ho,hex,hd,hf,_,_⟩:=m
 unfold pyNext
 refine wpAny_bind (wpAny_attempt (wpAny_callSpecial?_slot (name:=Str.ofString "__next__") T F.slot_set_iterator_next (wpAny_call_entry F.slot_set_iterator_next T F.entry_set_iterator_next ?_ (F.args_set_iterator_next_1 _))))
 unfold Builtin.«set_iterator.__next__»
 refine wpAny_bind (wpAny_pure ?_)
 refine wpAny_bind (wpAny_fieldsOf t1 t3 ?_)
 dsimp only
 refine wpAny_bind (wpAny_setEntries_of ho hd hf ?_)
 rw [if_neg (by simp)]
 refine wpAny_bind (wpAny_seqItems h1 h2 ?_)
 dsimp only
 simp only [Int.toNat_natCast,hp]
 refine wpAny_bind ?_
 unfold setNextDrawn
 refine wpAny_bind (wpAny_setState_of ho hd hf ?_)
 dsimp only
 rw [if_neg (by simp)]
 simp only [he]
 refine wpAny_pure ?_
 refine wpAny_bind (wpAny_setField t1 t3 (by simp) ?_)
 have g1:=Heap.get?_update_self (Obj.mapFields (·.setIfInBounds 1 (rawInt ((i:Int) + 1)))) t1 (Obj.isFreed_of_fields (Obj.data_mapFields t3 _))
 refine wpAny_pure ⟨_,rfl,wpAny_pure ?_⟩
 refine q _ ⟨_,g1,(Obj.cls_mapFields ..).trans t2,?_⟩ (Heap.SameBut.update ..)
 rw [Obj.data_mapFields t3]
 simp [rawInt]
theorem set_end_drawn {tp:Addr} {ot:Obj} {ps:Array Value} {pe:Nat} {Q:Option Value→Shared→Prop} (hh:A.handled=none) (x:IsSetIter s.heap it (.ref tp) i a es.size ep) (m:SetT w s.heap a es ep t)
  (h1:s.heap.get? tp=some ot) (h2:ot.data=.seq ps pe) (hp:ps[i]?=none)
  (q:∀ h',Heap.ExtBut it s.heap h'→Q none { s with heap:=h' }):wpAny (model prog w) A (pyNext (.ref it)) Q E s:=by
 have T:=x.ty
 obtain ⟨y,t1,t2,t3⟩:=id x
 obtain ⟨o,ho,hex,hd,hf,_,_⟩:=m
 unfold pyNext
 refine wpAny_bind (wpAny_attempt (wpAny_callSpecial?_slot (name:=Str.ofString "__next__") T F.slot_set_iterator_next (wpAny_call_entry F.slot_set_iterator_next T F.entry_set_iterator_next ?_ (F.args_set_iterator_next_1 _))))
 unfold Builtin.«set_iterator.__next__»
 refine wpAny_bind (wpAny_pure ?_)
 refine wpAny_bind (wpAny_fieldsOf t1 t3 ?_)
 dsimp only
 refine wpAny_bind (wpAny_setEntries_of ho hd hf ?_)
 rw [if_neg (by simp)]
 refine wpAny_bind (wpAny_seqItems h1 h2 ?_)
 dsimp only
 simp only [Int.toNat_natCast,hp]
 refine wpAny_bind (wpAny_setField t1 t3 (by simp) ?_)
 have g1:=Heap.get?_update_self (Obj.mapFields (·.setIfInBounds 0 (rawInt 0))) t1 (Obj.isFreed_of_fields (Obj.data_mapFields t3 _))
 refine wpAny_bind (wpAny_setField g1 (Obj.data_mapFields t3 _) (by simp) ?_)
 refine wpAny_bind ?_
 simp only [PySem.newExc,newTuple]
 refine wpAny_bind (wpAny_newObj_type ?_ (by size_fits))
 refine wpAny_bind (m:=firstArgMember _ _) (wpAny_of_eq (a:=Value.none) (by first | rfl | (simp only [firstArgMember];rfl)) (wpAny_newObj_type ?_ (by size_fits)))
 simp only [raiseNew]
 refine wpAny_bind (wpAny_handled ?_)
 rw [show A.in1.handled=none from hh]
 refine wpAny_bind (wpAny_pure (wpAny_throw ?_))
 refine wpAny_bind (m:=isInstance _ _) (wpAny_isInstance (T:="StopIteration") (b:=true) ⟨_,Heap.get?_push_size _ rfl,rfl⟩ isSubtype_stop ?_)
 exact wpAny_pure (q _ ((((Heap.SameBut.update ..).trans (Heap.SameBut.update ..)).extBut.push _).push _))
theorem set_iter {Q:Value→Shared→Prop} (m:SetT w s.heap a es ep t) (hz:es.size≤1000)
  (q1:(w.params.followText "set-order"=true∨(w.params.followText "set-order"=false∧es.size≤1))→Q (.ref s.heap.objs.size) { s with heap:=s.heap.push { cls:=.type "set_iterator",data:=.fields #[.int 0 0,.int 0 0,.ref a,.int es.size 0,.int ep 0] } })
  (q2:∀ (ps:List Nat) (d:Drawn),ps.Perm (List.range es.size)→Q (.ref (s.heap.objs.size + 1)) { s with heap:=(s.heap.push { cls:=.type "tuple",data:=.seq (ps.map fun i:Nat=>Value.int i 0).toArray }).push { cls:=.type "set_iterator",data:=.fields #[.ref s.heap.objs.size,.int 0 0,.ref a,.int es.size 0,.int ep 0] },drawn:=d }) :
  wpAny (model prog w) A (pyIter (.ref a)) Q E s:=by
 have T:=m.ty
 obtain ⟨o,ho,hex,hd,hf,hb,hp⟩:=m
 refine wpAny_pyIter_slot T F.slot_set_iter (wpAny_call_entry F.slot_set_iter T F.entry_set_iterT ?_ (F.args_set_iter_1 _))
 unfold Builtin.«frozenset.__iter__» Builtin.Frozenset.slot0 Builtin.Frozenset.sizeOf
 refine wpAny_bind (wpAny_bind (wpAny_pure ?_))
 show wpAny _ _ (pure a) _ _ _
 refine wpAny_pure ?_
 refine wpAny_bind (wpAny_bind (wpAny_setEntries_of ho hd hf (wpAny_pure ?_)))
 unfold setDrawn setsByText
 refine wpAny_bind (wpAny_bind (wpAny_setState_of ho hd hf ?_))
 dsimp only
 refine wpAny_bind (wpAny_bind (wpAny_askSetting (wpAny_pure ?_)))
 refine wpAny_pure ?_
 split
 ·rename_i h
  have h:(!w.params.followText "set-order" && (!t.plain && decide (es.size > 1)))=true:=h
  refine wpAny_bind (wpAny_drawT _ _ (by simp) fun ps d pm=>?_)
  refine wpAny_bind (wpAny_newTuple ?_ (by rw [List.length_map,pm.length_eq,List.length_range];exact Nat.le_of_lt (small1000 (by omega))))
  refine wpAny_bind (wpAny_setEpoch_of (a:=a) (o:=o) (es:=es) (ep:=ep) (t:=t) (Heap.get?_push_of_some _ ho) hd hf ?_)
  refine wpAny_bind (wpAny_newObj_type (wpAny_pure ⟨_,rfl,"set_iterator",_,⟨_,Heap.get?_push_size _ rfl,rfl⟩,F.slot_set_iterator_next.lookup,?_⟩))
  have:=q2 ps d pm
  simpa [rawInt,Heap.size_push] using this
 ·rename_i h
  have h:¬(!w.params.followText "set-order" && (!t.plain && decide (es.size > 1)))=true:=h
  refine wpAny_bind (wpAny_pure ?_)
  refine wpAny_bind (wpAny_setEpoch_of ho hd hf ?_)
  refine wpAny_bind (wpAny_newObj_type (wpAny_pure ⟨_,rfl,"set_iterator",_,⟨_,Heap.get?_push_size _ rfl,rfl⟩,F.slot_set_iterator_next.lookup,?_⟩))
  have:=q1 (by
   cases e:w.params.followText "set-order" with
   | true=>exact .inl rfl
   | false=>
    refine .inr ⟨rfl,?_⟩
    rcases hp with hp | hp
    ·simp [e,hp] at h;omega
    ·omega)
  simpa [rawInt] using this
end
end L2
end
section
set_option Elab.async false
set_option linter.all false
set_option maxRecDepth 100000
set_option maxHeartbeats 2000000
namespace L2
open PySem PySem.Spec PyProof.Rows PySem.W
section
variable {prog:Program} {w:World} {A:Around} {E:Value→Shared→Prop} {s:Shared} {a it:Addr} {es:Array (Int × Value)} {ep i:Nat} {t:SetTable} {first:Value}
theorem set_hint {Q:Bool→Shared→Prop} (hT:s.TypeIs (.ref a) "set") (h:Q false s):wpAny (model prog w) A (Builtin.List.listLengthHint (.ref a)) Q E s:=by
 unfold Builtin.List.listLengthHint
 refine wpAny_bind (wpAny_specialOf hT PySem.F.slot_set_len.lookup ?_)
 generalize hid:("set.__len__":String)=id0
 wp_delta
 rw [show splitId id0=some ("set","__len__") from by subst hid;decide +kernel]
 subst hid
 refine wpAny_bind (wpAny_isInstance (T:="set") (b:=true) hT (by rw [isSubtype_type];kernel_rfl) ?_)
 refine wpAny_ite_split (fun hab=>absurd hab (by decide)) (fun _=>?_)
 refine wpAny_ite_split (fun _=>?_) (fun hab=>absurd (by decide +kernel) hab)
 refine wpAny_bind (wpAny_typeOf hT ?_)
 exact wpAny_pure h
theorem self_set {Q:Value→Shared→Prop} {n:Nat} (x:IsSetIter s.heap it first i a n ep) (q:Q (.ref it) s):wpAny (model prog w) A (pyIter (.ref it)) Q E s:=by
 refine wpAny_pyIter_slot x.ty F.slot_set_iterator_iter (wpAny_call_entry F.slot_set_iterator_iter x.ty F.entry_set_iterator_iterT ?_ (F.args_set_iterator_iter_1 _))
 show wpAny _ _ (ret (.ref it)) _ _ s
 exact wpAny_pure ⟨_,rfl,"set_iterator",_,x.ty,F.slot_set_iterator_next.lookup,q⟩
theorem walk_drawn {tp:Addr} {ps:List Nat} (hh:A.handled=none) (hne:a≠it) (hnt:tp≠it) (hp:∀ j∈ps,j < es.size) (hl:ps.length=es.size) :
  Walks prog w A it [it,tp,a] [it] es.size (fun i v=>∃ j e,ps[i]?=some j∧es[j]?=some e∧v=e.2)
   (fun i h=>IsSetIter h it (.ref tp) i a es.size ep∧SetT w h a es ep t∧∃ ot,h.get? tp=some ot∧ot.data=.seq (ps.map fun i:Nat=>Value.int i 0).toArray 0) where
 sub:=fun b hb=>by simp at hb;simp [hb]
 frame:=fun _ _ _ st hk=>⟨st.1.mv fun o e=>hk it (by simp) o e,st.2.1.mv fun o e=>hk a (by simp) o e,let ⟨ot,h1,h2⟩:=st.2.2;⟨ot,hk tp (by simp) _ h1,h2⟩⟩
 item:=fun i s Q E hi st hQ=>by
  obtain ⟨x,m,ot,h1,h2⟩:=st
  have hi':i < ps.length:=by omega
  have hj:=hp _ (List.getElem_mem hi')
  refine set_item_drawn x m h1 h2 (j:=ps[i]) (u:=0) (by simp [hi']) (hv:=es[ps[i]].1) (v:=es[ps[i]].2) (by simp [hj]) fun h' x' k=>?_
  exact hQ _ h' s.toks ⟨ps[i],es[ps[i]],by simp [hi'],by simp [hj],rfl⟩ ⟨x',m.mv fun o e=>k.extBut a o hne e,ot,k.extBut tp ot hnt h1,h2⟩ fun b o hb e=>k.extBut b o (fun y=>hb (by simp [y])) e
 done:=fun s Q E st hQ=>by
  obtain ⟨x,m,ot,h1,h2⟩:=st
  exact set_end_drawn hh x m h1 h2 (by simp [hl]) fun h' k=>hQ h' s.toks fun b o hb e=>k b o (fun y=>hb (by simp [y])) e
 self:=fun i s Q E st hQ=>self_set st.1 hQ
theorem next_text {slot:Nat} {Q:Option (Value × Nat)→Shared→Prop} (m:SetT w s.heap a es ep t) (hb:w.params.followText "set-order"=true)
  (h:Q (((pickOrder (w.params.setOrder a ep) es)[i]?).map fun e=>(e.2,slot)) s):wpAny (model prog w) A (setNext a slot i ep) Q E s:=by
 obtain ⟨o,ho,hex,hd,hf,_,_⟩:=m
 unfold setNext setsByText
 refine wpAny_bind (wpAny_setState_of ho hd hf ?_)
 dsimp only
 refine wpAny_bind (wpAny_bind (wpAny_askSetting (wpAny_pure ?_)))
 rw [if_pos (by exact hb)]
 rw [if_neg (by simp)]
 unfold setWalk setsByText
 refine wpAny_bind ?_
 refine wpAny_bind (wpAny_setState_of ho hd hf ?_)
 dsimp only
 refine wpAny_bind (wpAny_bind (wpAny_askSetting (wpAny_pure ?_)))
 rw [if_pos (by exact hb)]
 refine wpAny_bind (wpAny_askSetting (wpAny_pure ?_))
 exact wpAny_pure h
theorem next_small {slot:Nat} {Q:Option (Value × Nat)→Shared→Prop} (m:SetT w s.heap a es ep t) (hb:w.params.followText "set-order"=false) (hz:es.size≤1)
  (h:Q (match es[SetTable.below t.place slot]?,t.place[SetTable.below t.place slot]? with | some (_,x),some j=>some (x,j + 1) | _,_=>none) s):wpAny (model prog w) A (setNext a slot i ep) Q E s:=by
 obtain ⟨o,ho,hex,hd,hf,hl,_⟩:=m
 have hl:t.led=true:=by rcases hl with z | z;rw [hb] at z;cases z;exact z
 unfold setNext setsByText
 refine wpAny_bind (wpAny_setState_of ho hd hf ?_)
 dsimp only
 refine wpAny_bind (wpAny_bind (wpAny_askSetting (wpAny_pure ?_)))
 rw [if_neg (by show ¬w.params.followText "set-order"=true;rw [hb];simp)]
 split
 ·rename_i z
  have z:(!t.plain && decide (es.size > 1))=true:=z
  simp at z
  omega
 ·refine wpAny_bind ?_
  show wpAny _ _ (if (!t.led && !es.isEmpty)=true then unsupported "set:maker-not-led" else pure ()) _ _ _
  rw [if_neg (by rw [hl];simp)]
  exact wpAny_pure (wpAny_pure h)
theorem walk_text (hh:A.handled=none) (hne:a≠it) (hb:w.params.followText "set-order"=true) :
  Walks prog w A it [it,a] [it] es.size (fun i v=>∃ e,(pickOrder (w.params.setOrder a ep) es)[i]?=some e∧v=e.2)
   (fun i h=>IsSetIter h it (.int (0:Nat) 0) i a es.size ep∧SetT w h a es ep t) where
 sub:=fun b hb=>by simp at hb;simp [hb]
 frame:=fun _ _ _ st hk=>⟨st.1.mv fun o e=>hk it (by simp) o e,st.2.mv fun o e=>hk a (by simp) o e⟩
 item:=fun i s Q E hi st hQ=>by
  have hsz:(pickOrder (w.params.setOrder a ep) es).size=es.size:=by have:=(pick_perm (w.params.setOrder a ep) es).length_eq;simpa using this
  have hi':i < (pickOrder (w.params.setOrder a ep) es).size:=by omega
  refine set_item_slot (slot:=0) (k:=0) (v:=(pickOrder (w.params.setOrder a ep) es)[i].2) st.1 st.2 (fun A' E' Q' q=>next_text st.2 hb (by rw [Array.getElem?_eq_getElem hi'];exact q)) fun h' x' k=>?_
  exact hQ _ h' s.toks ⟨_,by rw [Array.getElem?_eq_getElem hi'],rfl⟩ ⟨x',st.2.mv fun o e=>k.extBut a o hne e⟩ fun b o hb e=>k.extBut b o (fun y=>hb (by simp [y])) e
 done:=fun s Q E st hQ=>by
  have hsz:(pickOrder (w.params.setOrder a ep) es).size=es.size:=by have:=(pick_perm (w.params.setOrder a ep) es).length_eq;simpa using this
  refine set_end_slot hh st.1 st.2 (fun A' E' Q' q=>next_text st.2 hb (by rw [Array.getElem?_eq_none (by omega)];exact q)) fun h' k=>hQ h' s.toks fun b o hb e=>k b o (fun y=>hb (by simp [y])) e
 self:=fun i s Q E st hQ=>self_set st.1 hQ
theorem below_zero {p:Array Nat} (h:p.size=1):SetTable.below p 0=0:=by
 unfold SetTable.below
 rw [h]
 simp [SetTable.below.go]
theorem below_one {p:Array Nat} (h:p.size=1):SetTable.below p (p.getD 0 0 + 1)=1:=by
 obtain ⟨l⟩:=p
 match l,h with
 | [x],_=>simp [SetTable.below,SetTable.below.go]
theorem walk_small (hh:A.handled=none) (hne:a≠it) (hb:w.params.followText "set-order"=false) (hz:es.size≤1) :
  Walks prog w A it [it,a] [it] es.size (fun i v=>∃ e,es[i]?=some e∧v=e.2)
   (fun i h=>∃ slot:Nat,IsSetIter h it (.int slot 0) i a es.size ep∧SetT w h a es ep t∧t.place.size=es.size∧slot=(if i=0 then 0 else t.place.getD 0 0 + 1)) where
 sub:=fun b hb=>by simp at hb;simp [hb]
 frame:=fun _ _ _ st hk=>let ⟨slot,x,m,r⟩:=st;⟨slot,x.mv fun o e=>hk it (by simp) o e,m.mv fun o e=>hk a (by simp) o e,r⟩
 item:=fun i s Q E hi st hQ=>by
  obtain ⟨slot,x,m,hp,hs⟩:=st
  have hi0:i=0:=by omega
  subst hi0
  rw [if_pos rfl] at hs
  subst hs
  have h1:es.size=1:=by omega
  have h1p:t.place.size=1:=by omega
  refine set_item_slot (slot:=0) (k:=t.place.getD 0 0 + 1) (v:=es[0].2) x m (fun A' E' Q' q=>next_small m hb hz ?_) fun h' x' k=>?_
  ·rw [below_zero h1p,Array.getElem?_eq_getElem hi,Array.getElem?_eq_getElem (by omega:0 < t.place.size)]
   have e:t.place.getD 0 0=t.place[0]:=by simp [Array.getD,h1p]
   rw [e] at q
   exact q
  ·exact hQ _ h' s.toks ⟨es[0],by simp [h1],rfl⟩ ⟨_,x',m.mv fun o e=>k.extBut a o hne e,hp,rfl⟩ fun b o hb e=>k.extBut b o (fun y=>hb (by simp [y])) e
 done:=fun s Q E st hQ=>by
  obtain ⟨slot,x,m,hp,hs⟩:=st
  refine set_end_slot hh x m (fun A' E' Q' q=>next_small m hb hz ?_) fun h' k=>hQ h' s.toks fun b o hb e=>k b o (fun y=>hb (by simp [y])) e
  rcases (show es.size=0∨es.size=1 by omega) with h0 | h1
  ·rw [Array.getElem?_eq_none (by omega)]
   exact q
  ·rw [if_neg (by omega)] at hs
   subst hs
   rw [below_one (by omega),Array.getElem?_eq_none (by omega)]
   exact q
 self:=fun i s Q E st hQ=>by obtain ⟨slot,x,_⟩:=st;exact self_set x hQ
end
theorem items_eq {P:Nat→Value→Prop} {acc:Array Value} {n:Nat} {l:List Value} (h:ItemsOf P acc n) (hl:l.length=n) (hP:∀ i v,P i v→l[i]?=some v):acc.toList=l:=by
 apply List.ext_getElem?
 intro j
 by_cases hj:j < n
 ·have hj':j < acc.size:=by rw [h.1];exact hj
  have e:acc[j]?=some acc[j]:=by simp [hj']
  rw [hP j _ (h.2 j _ e),Array.getElem?_toList,e]
 ·rw [List.getElem?_eq_none (by rw [Array.length_toList,h.1];omega),List.getElem?_eq_none (by omega)]
section
variable {prog:Program} {w:World} {A:Around} {E:Value→Shared→Prop} {s:Shared} {a it:Addr} {es:Array (Int × Value)} {ep i:Nat} {t:SetTable} {first:Value}
theorem ext_rest {R:Result→Shared→Prop} {rs:Bool} {I S0:Addr} {fp:List Addr} {n:Nat} {P:Nat→Value→Prop} {St:Nat→Heap→Prop} (W:Walks prog w A.in1 I fp [I] n P St) (hSf:S0∉fp) (res:Value) (c₀:Nat)
  (hS:s.heap.get? S0=some { cls:=.type "list",data:=.seq #[] c₀ }) (st:St 0 s.heap) (hn:n≤sizeLine) (hT:s.TypeIs (.ref a) "set")
  (hR:∀ h' tk acc' c',(∀ b o,b≠S0→b≠I→s.heap.get? b=some o→h'.get? b=some o)→h'.get? S0=some { cls:=.type "list",dict:=none,data:=.seq acc' c',slots:=#[] }→ItemsOf P acc' n→R (.ok (.ret res)) { s with heap:=h',toks:=tk }) :
  wpAny (model prog w) A.in1 (do
   let room ← holding [Value.ref I] (Builtin.List.listLengthHint (.ref a))
   if room || rs then rule "list.extend.makes-room";Builtin.List.listTouch (.ref S0)
   again (.builtin "list.extend.loop" ⟨[.ref S0,.ref I,res],[]⟩))
   (fun fin s'=>match fin with | .done f=>R (.ok f) s' | .again c'=>c'.quiet=true∧codeAny (model prog w) A c' R s') (fun e s'=>R (.error e) s') s:=by
 have key:∀ (h:Heap) (c₁ tk:Nat),St 0 h→(∀ b o,b≠S0→s.heap.get? b=some o→h.get? b=some o)→
   h.get? S0=some { cls:=.type "list",data:=.seq #[] c₁ }→codeAny (model prog w) A (.builtin "list.extend.loop" ⟨[.ref S0,.ref I,res],[]⟩) R { s with heap:=h,toks:=tk }:=by
  intro h c₁ tk hst hk hS₁
  refine codeAny_extend_loopS W.toS hn S0 hSf res n 0 _ #[] c₁ rfl (Nat.zero_le _) hst hS₁ (ItemsOf.nil _) fun s' acc' c' hm hS' hacc=>?_
  rw [Moved.eq_with hm]
  refine hR s'.heap s'.toks acc' c' (fun b o hb hbI e=>hm.heap b o (fun hmem=>?_) (hk b o hb e)) hS' hacc
  rcases List.mem_cons.mp hmem with e' | hmem
  ·exact hb e'
  ·exact hbI (List.mem_singleton.mp hmem)
 refine wpAny_bind (wpAny_holding (set_hint hT ?_))
 refine wpAny_ite_split (fun _=>?_) (fun _=>wpAny_pure ⟨plainId_quiet PySem.F.plain_extend_loop _,key _ c₀ _ st (fun b o _ e=>e) hS⟩)
 refine wpAny_bind (wpAny_rule ?_)
 refine wpAny_bind ?_
 show wpAny _ _ (updateSeq S0 (·.push .none) >>= fun _=>updateSeq S0 (·.pop)) _ _ _
 refine wpAny_bind (wpAny_updateSeq hS rfl ?_)
 have hS₂:=Heap.get?_update_self (Obj.mapSeq (·.push Value.none)) hS rfl
 refine wpAny_updateSeq (hz:=by seq_fits) hS₂ rfl ?_
 have hS₃:=Heap.get?_update_self (Obj.mapSeq (·.pop)) hS₂ rfl
 refine wpAny_pure ⟨plainId_quiet PySem.F.plain_extend_loop _,key _ _ _ ?_ (fun b o hb e=>?_) hS₃⟩
 ·refine W.frame 0 _ _ st fun b hb o e=>?_
  have hbS:b≠S0:=fun h=>hSf (h ▸ hb)
  exact (Heap.get?_update_other _ _ (Ne.symm hbS)).trans ((Heap.get?_update_other _ _ (Ne.symm hbS)).trans e)
 ·exact (Heap.get?_update_other _ _ (Ne.symm hb)).trans ((Heap.get?_update_other _ _ (Ne.symm hb)).trans e)
theorem set_extend {R:Result→Shared→Prop} (hh:A.handled=none) (m:SetT w s.heap a es ep t) (hz:es.size≤1000) (S0:Addr) (hSa:S0≠a) (res:Value) (c₀:Nat) (hS:s.heap.get? S0=some { cls:=.type "list",data:=.seq #[] c₀ })
  (hR:∀ h' tk d acc' c',(∀ b o,b≠S0→s.heap.get? b=some o→h'.get? b=some o)→h'.get? S0=some { cls:=.type "list",dict:=none,data:=.seq acc' c',slots:=#[] }→acc'.toList.Perm (es.toList.map (·.2))→R (.ok (.ret res)) { s with heap:=h',toks:=tk,drawn:=d }) :
  wpAny (model prog w) A.in1 (Builtin.List.listExtendWith (.ref S0) (.ref a) res)
   (fun fin s'=>match fin with | .done f=>R (.ok f) s' | .again c'=>c'.quiet=true∧codeAny (model prog w) A c' R s') (fun e s'=>R (.error e) s') s:=by
 have hzl:es.size≤sizeLine:=Nat.le_of_lt (small1000 (by omega))
 have hlt:=m.lt
 have hSlt:=Heap.lt_size hS
 unfold Builtin.List.listExtendWith
 refine wpAny_bind (wpAny_typeOf (T:="set") m.ty ?_)
 have h1:Builtin.List.listSameRef (.ref S0) (.ref a)=false:=by simp [Builtin.List.listSameRef,hSa]
 have n1:(Value.type "set" == Value.type "list")=false:=by decide
 have n2:(Value.type "set" == Value.type "tuple")=false:=by decide
 simp only [h1,n1,n2,Bool.or_false,Bool.false_eq_true,if_false]
 refine wpAny_bind (set_iter m hz (fun c=>?_) (fun ps d pm=>?_))
 ·have m':SetT w (s.heap.push { cls:=.type "set_iterator",data:=.fields #[.int 0 0,.int 0 0,.ref a,.int es.size 0,.int ep 0] }) a es ep t:=m.mv fun o e=>Heap.get?_push_of_some _ e
  have hx:IsSetIter (s.heap.push { cls:=.type "set_iterator",data:=.fields #[.int 0 0,.int 0 0,.ref a,.int es.size 0,.int ep 0] }) s.heap.objs.size (.int (0:Nat) 0) 0 a es.size ep:=⟨_,Heap.get?_push_size _ rfl,rfl,rfl⟩
  have hSf:S0∉[s.heap.objs.size,a]:=by simp only [List.mem_cons,List.not_mem_nil,or_false,not_or];exact ⟨Nat.ne_of_lt hSlt,hSa⟩
  rcases c with c | ⟨c,c1⟩
  ·refine ext_rest (a:=a) (walk_text (t:=t) hh (Nat.ne_of_lt hlt) c) hSf res c₀ (Heap.get?_push_of_some _ hS) ⟨hx,m'⟩ hzl (SetT.ty (s:={ s with heap:=_ }) m') fun h' tk acc' c' k hS' hacc=>?_
   have hsz:=(pick_perm (w.params.setOrder a ep) es).length_eq
   refine hR h' tk s.drawn acc' c' (fun b o hb e=>k b o hb (Nat.ne_of_lt (Heap.lt_size e)) (Heap.get?_push_of_some _ e)) hS' ?_
   rw [items_eq (l:=(pickOrder (w.params.setOrder a ep) es).toList.map (·.2)) hacc (by simpa using hsz) (fun i v hv=>by obtain ⟨e,he,rfl⟩:=hv;simp [he])]
   exact (pick_perm _ _).map _
  ·refine ext_rest (a:=a) (walk_small (t:=t) hh (Nat.ne_of_lt hlt) c c1) hSf res c₀ (Heap.get?_push_of_some _ hS) ⟨0,hx,m',?_,rfl⟩ hzl (SetT.ty (s:={ s with heap:=_ }) m') fun h' tk acc' c' k hS' hacc=>?_
   ·obtain ⟨o,_,_,_,hf,_⟩:=m
    simp only [SetTable.fits,Bool.and_eq_true,beq_iff_eq] at hf
    exact hf.1
   ·refine hR h' tk s.drawn acc' c' (fun b o hb e=>k b o hb (Nat.ne_of_lt (Heap.lt_size e)) (Heap.get?_push_of_some _ e)) hS' ?_
    rw [items_eq (l:=es.toList.map (·.2)) hacc (by simp) (fun i v hv=>by obtain ⟨e,he,rfl⟩:=hv;simp [he])]
 ·generalize hh1:s.heap.push { cls:=.type "tuple",data:=.seq (ps.map fun i:Nat=>Value.int i 0).toArray }=h1
  have k1:∀ b o,s.heap.get? b=some o→h1.get? b=some o:=fun b o e=>by rw [← hh1];exact Heap.get?_push_of_some _ e
  have z1:h1.objs.size=s.heap.objs.size + 1:=by rw [← hh1];exact Heap.size_push ..
  have g1:h1.get? s.heap.objs.size=some { cls:=.type "tuple",data:=.seq (ps.map fun i:Nat=>Value.int i 0).toArray }:=by rw [← hh1];exact Heap.get?_push_size _ rfl
  have m':SetT w (h1.push { cls:=.type "set_iterator",data:=.fields #[.ref s.heap.objs.size,.int 0 0,.ref a,.int es.size 0,.int ep 0] }) a es ep t:=m.mv fun o e=>Heap.get?_push_of_some _ (k1 _ _ e)
  have hx:IsSetIter (h1.push { cls:=.type "set_iterator",data:=.fields #[.ref s.heap.objs.size,.int 0 0,.ref a,.int es.size 0,.int ep 0] }) (s.heap.objs.size + 1) (.ref s.heap.objs.size) 0 a es.size ep:=⟨_,by rw [← z1];exact Heap.get?_push_size _ rfl,rfl,rfl⟩
  have hp:∀ j∈ps,j < es.size:=fun j hj=>List.mem_range.mp (pm.mem_iff.mp hj)
  have hl:ps.length=es.size:=by rw [pm.length_eq,List.length_range]
  have hSf:S0∉[s.heap.objs.size + 1,s.heap.objs.size,a]:=by simp only [List.mem_cons,List.not_mem_nil,or_false,not_or];exact ⟨Nat.ne_of_lt (Nat.lt_succ_of_lt hSlt),Nat.ne_of_lt hSlt,hSa⟩
  refine ext_rest (a:=a) (s:={ s with heap:=h1.push { cls:=.type "set_iterator",data:=.fields #[.ref s.heap.objs.size,.int 0 0,.ref a,.int es.size 0,.int ep 0] },drawn:=d }) (walk_drawn (t:=t) (tp:=s.heap.objs.size) (ps:=ps) hh (Nat.ne_of_lt (Nat.lt_succ_of_lt hlt)) (Nat.ne_of_lt (Nat.lt_succ_self _)) hp hl) hSf res c₀ (Heap.get?_push_of_some _ (k1 _ _ hS)) ⟨hx,m',_,Heap.get?_push_of_some _ g1,rfl⟩ hzl (SetT.ty (s:={ s with heap:=_,drawn:=d }) m') fun h' tk acc' c' k hS' hacc=>?_
  refine hR h' tk d acc' c' (fun b o hb e=>k b o hb (Nat.ne_of_lt (Nat.lt_succ_of_lt (Heap.lt_size e))) (Heap.get?_push_of_some _ (k1 _ _ e))) hS' ?_
  rw [items_eq (l:=ps.map fun j=>(es.getD j (0,.none)).2) hacc (by simp [hl]) (fun i v hv=>by
   obtain ⟨j,e,hj,he,rfl⟩:=hv
   rw [List.getElem?_map,hj]
   simp [Array.getD_eq_getD_getElem?,he])]
  refine (pm.map _).trans (List.Perm.of_eq ?_)
  apply List.ext_getElem?
  intro j
  rw [List.getElem?_map,List.getElem?_map]
  by_cases h:j < es.size
  ·rw [List.getElem?_range h];simp [h,Array.getD_eq_getD_getElem?]
  ·rw [List.getElem?_eq_none (by simpa using h),List.getElem?_eq_none (by simpa using h)];rfl
theorem set_collect {R:List Value→Shared→Prop} (hh:A.handled=none) (m:SetT w s.heap a es ep t) (hz:es.size≤1000)
  (h:∀ (h':Heap) (tk:Nat) (d:Drawn) (acc:List Value),(∀ b o,s.heap.get? b=some o→h'.get? b=some o)→acc.Perm (es.toList.map (·.2))→R acc { s with heap:=h',toks:=tk,drawn:=d }) :
  wpAny (model prog w) A (collect (.ref a)) R E s:=by
 have hlt:=m.lt
 unfold collect
 refine wpAny_bind (wpAny_runValue (codeAny_builtin entry_proto_collect' ?_))
 rw [Around.under_plainId PySem.F.plain_proto_collect _]
 show wpAny _ A.in1 (newList [] >>= fun l=>again (.builtin "list.__iadd__" ⟨[l,.ref a],[]⟩)) _ _ s
 refine wpAny_bind (wpAny_newObj_type ?_)
 refine wpAny_pure ⟨plainId_quiet PySem.F.plain_list_iadd _,codeAny_builtin entry_list_iadd' ?_⟩
 rw [Around.under_plainId PySem.F.plain_list_iadd _]
 have hS₁:(s.heap.push { cls:=.type "list",data:=.seq ([]:List Value).toArray }).get? s.heap.objs.size=some { cls:=.type "list",data:=.seq #[] }:=Heap.get?_push_size _ rfl
 show wpAny _ A.in1 (Builtin.List.listExtendWith (.ref s.heap.objs.size) (.ref a) (.ref s.heap.objs.size)) _ _ _
 have key:=set_extend (prog:=prog) (A:=A) (s:={ s with heap:=s.heap.push { cls:=.type "list",data:=.seq ([]:List Value).toArray } })
  (R:=fun (q:Result) (s':Shared)=>∃ (h':Heap) (tk:Nat) (d:Drawn) (acc':Array Value) (c':Nat),q=.ok (.ret (.ref s.heap.objs.size))∧s'={ s with heap:=h',toks:=tk,drawn:=d }∧
   (∀ b o,s.heap.get? b=some o→h'.get? b=some o)∧h'.get? s.heap.objs.size=some { cls:=.type "list",dict:=none,data:=.seq acc' c',slots:=#[] }∧acc'.toList.Perm (es.toList.map (·.2)))
  hh (m.mv fun o e=>Heap.get?_push_of_some _ e) hz s.heap.objs.size (Nat.ne_of_gt hlt) (.ref s.heap.objs.size) 0 hS₁
  (fun h' tk d acc' c' hk hS' hacc=>⟨h',tk,d,acc',c',rfl,rfl,fun b o e=>hk b o (Nat.ne_of_lt (Heap.lt_size e)) (Heap.get?_push_of_some _ e),hS',hacc⟩)
 refine wpAny_mono key (fun fin s' x=>?_) fun e s' x=>?_
 ·cases fin with
  | done f=>
   obtain ⟨h',tk,d,acc',c',e,rfl,hk,hS',hacc⟩:=x
   cases e
   show wpAny _ A (load s.heap.objs.size >>= _) _ _ _
   refine wpAny_bind (wpAny_load hS' ?_)
   exact wpAny_pure (h h' tk d acc'.toList hk hacc)
  | again c₁=>
   refine ⟨x.1,codeAny_mono x.2 fun q s₂ y=>?_⟩
   obtain ⟨h',tk,d,acc',c',rfl,rfl,hk,hS',hacc⟩:=y
   show wpAny _ A (load s.heap.objs.size >>= _) _ _ _
   refine wpAny_bind (wpAny_load hS' ?_)
   exact wpAny_pure (h h' tk d acc'.toList hk hacc)
 ·obtain ⟨_,_,_,_,_,e,_⟩:=x;cases e
end
section
variable {X:Cx}
theorem Inv.drawT {pins:List (Addr × Obj)} {σ:St} {H:Hp} {s:Shared} (I:Inv X pins σ H s) (d:Drawn):Inv X pins σ H { s with drawn:=d }:=⟨I.ok,I.os,I.bare,I.base,I.loc,I.cell,I.free,I.freeC,I.pin,I.hok,I.len⟩
theorem strsT_of:∀ (acc:List Value),(∀ v∈acc,∃ (l:List Nat) (u:Tok),v=.str (S l) u)→StrsAre acc ((acc.map fun v=>keyT (0,v)).map S)
 | [],_=>.nil
 | v :: r,h=>by
  obtain ⟨l,u,rfl⟩:=h v List.mem_cons_self
  exact .cons _ u (strsT_of r fun v hv=>h v (List.mem_cons_of_mem _ hv))
end
end L2
end
section
set_option Elab.async false
set_option linter.all false
set_option maxRecDepth 100000
set_option maxHeartbeats 2000000
namespace L2
open PySem PySem.Spec PyProof.Rows PySem.W
section
variable {X:Cx}
def rSumL (K:PySem.W.Frag):List V→Hp→VK→Prop:=fun xs H Q=>∃ (p:Addr) (ns:List Int),xs=[.ref p]∧SqL K H p (ns.map V.int)∧ns.length≤1000∧(∀ x∈ns,-1000000000≤x∧x≤1000000000)∧Q (.int ns.sum) H
theorem sum_snoc (a:List Int) (x:Int):(a ++ [x]).sum=a.sum + x:=by
 induction a with
 | nil=>simp
 | cons y r ih=>rw [List.cons_append,List.sum_cons,List.sum_cons,ih];omega
theorem preSum_get (ns:List Int):∀ k,k≤ns.length→preSum (fun i=>ns.getD i 0) k=(ns.take k).sum
 | 0,_=>by simp [preSum]
 | k + 1,h=>by
  show preSum (fun i=>ns.getD i 0) k + ns.getD k 0=_
  have e:ns.take (k + 1)=ns.take k ++ [ns[k]]:=by rw [List.take_add_one,List.getElem?_eq_getElem (by omega)];rfl
  rw [preSum_get ns k (by omega),e,sum_snoc]
  simp [List.getD,show k < ns.length by omega]
theorem sum_le (ns:List Int) (b:Int) (hb:0≤b) (h:∀ x∈ns,-b≤x∧x≤b):-(b * ns.length)≤ns.sum∧ns.sum≤b * ns.length:=by
 induction ns with
 | nil=>simp
 | cons a r ih=>
  have h1:=h a List.mem_cons_self
  have h2:=ih fun x hx=>h x (List.mem_cons_of_mem _ hx)
  rw [List.sum_cons,List.length_cons]
  have e:b * ((r.length + 1:Nat):Int)=b * r.length + b:=by rw [Int.natCast_add,Int.mul_add];simp
  rw [e]
  omega
theorem call_sumL (hc:X.calm=true):CallR X (.builtin "sum") (rSumL X.K):=by
 intro pins s σ H xs us Q I r h
 obtain ⟨p,ns,rfl,hq,hn,hb,q⟩:=h
 obtain ⟨u,rfl,ru⟩:=vals1 r
 cases ru
 obtain ⟨its,rv,pl,hz⟩:=I.list hq
 have hlen:=rv.length
 rw [List.length_map] at hlen
 have hne:p≠s.heap.objs.size:=by
  obtain ⟨o,ho,_⟩:=pl.isList
  exact Nat.ne_of_lt (Heap.lt_size ho)
 have hv:∀ (i:Nat) (v:Value),its.toArray[i]?=some v→∃ t,v=.int (ns.getD i 0) t:=fun i v hv=>by
  have hv:its[i]?=some v:=by simpa using hv
  have hi:i < ns.length:=by have:=(List.getElem?_eq_some_iff.mp hv).1;omega
  obtain ⟨u,hu,ru⟩:=rv.get (i:=i) (x:=.int ns[i]) (by simp [hi])
  rw [hv] at hu;cases hu
  obtain ⟨t,e⟩:=ru
  exact ⟨t,by rw [e];simp [List.getD,hi]⟩
 have hsz:its.toArray.size=ns.length:=by simp [hlen]
 refine call_sum_walk (wpAny_pyIter_list pl.isList ?_)
 refine ⟨s.heap.objs.size,_,_,_,_,_,_,rfl,Walks.list (A:=X.A.in1) (I.ok.hd hc) s.heap.objs.size p hne its.toArray,⟨⟨_,Heap.get?_push_size _ rfl,rfl,rfl⟩,pl.isList.at fun o e=>Heap.get?_push_of_some _ e⟩,?_,hv,fun j hj=>?_,fun h' tk t' kk=>?_⟩
 ·intro b hb
  have:b=s.heap.objs.size∨b=p:=by simpa using hb
  rw [Heap.size_push]
  rcases this with e | e
  ·rw [e];exact Nat.lt_succ_self _
  ·rw [e]
   obtain ⟨o,ho,_⟩:=pl.isList
   exact Nat.lt_succ_of_lt (Heap.lt_size ho)
 ·have hj':j < ns.length:=by omega
  have h1:=hb _ (List.getElem_mem hj')
  have e1:ns.getD j 0=ns[j]:=by simp [List.getD,hj']
  have h2:=sum_le (ns.take (j + 1)) 1000000000 (by decide) fun x hx=>hb x (List.mem_of_mem_take hx)
  have hl:(ns.take (j + 1)).length≤1000:=by rw [List.length_take];omega
  rw [preSum_get ns (j + 1) (by omega),e1]
  unfold InLong
  omega
 ·have I1:Inv X pins σ H { s with heap:=h',toks:=tk }:=I.kept fun b o e=>kk b o (by
   intro hm
   have:b=s.heap.objs.size:=by simpa using hm
   subst this
   exact absurd (Heap.lt_size e) (Nat.lt_irrefl _)) (Heap.get?_push_of_some _ e)
  rw [hsz,preSum_get ns ns.length (Nat.le_refl _),List.take_length]
  exact ⟨.int _,H,I1,⟨t',rfl⟩,q⟩
end
end L2
end
section
set_option Elab.async false
set_option linter.all false
set_option maxRecDepth 100000
set_option maxHeartbeats 2000000
namespace L2
open PySem PySem.Spec PyProof.Rows PySem.SeqAt PySem.MeetsSeq PySem.MeetsSeq3 PySem.W
open AutoSeq1 (wpAny_loadPart')
section
variable {X:Cx}
end
section
variable {X:Cx}
end
theorem call_setLTW {X:Cx} (w:World) (hc:X.calm=true) (h:X.w=w:=by rfl):CallR X (.type "set") (rSetLT w X.K):=by subst h;exact call_setLT hc
end L2
end
section
set_option Elab.async false
set_option linter.all false
set_option maxRecDepth 100000
set_option maxHeartbeats 2000000
namespace L2
open PySem PySem.Spec PyProof.Rows PySem.W
structure MethV (K:PySem.W.Frag) (m:Str) (f:Addr):Prop where
 g:PySem.W.specialIn K (.ref f) "__get__"=some (some (.builtin "function.__get__"))
 t:PySem.W.takesIn K (.ref f)=some false
 c:PySem.W.copiedNames.contains m=false
section
variable {X:Cx} {pins:List (Addr × Obj)} {σ:St} {H:Hp} {s:Shared} {a C dx g:Addr} {fs:List (Str × V)} {m:Str} {A:Around} {E:Value→Shared→Prop}
end
section
variable {X:Cx} {pins:List (Addr × Obj)} {σ:St}
end
section
variable {X:Cx} {k:Nat} {C g:Addr} {fd:FuncData} {ps:List Str} {sp:Sp} {m:Str} {e o:Expr} {ta to:TE} {p pos apos kpos:Pos}
end
end L2
end
section
set_option Elab.async false
set_option linter.all false
set_option maxRecDepth 100000
set_option maxHeartbeats 2000000
namespace L2
open PySem PySem.Spec PyProof.Rows PySem.W
section
variable {X:Cx}
theorem rel_key {P:Program} {w:World} {k:Key} {v:Value} (h:(mixKind P w).is k v=true):RelV (kV k) v:=by
 rcases keyIs_shape (show keyIs k v=true from h) with ⟨i,t,rfl,rfl⟩ | ⟨x,t,rfl,rfl⟩
 ·exact ⟨t,rfl⟩
 ·exact ⟨t,rfl⟩
theorem frz_at {P:Program} {w:World} {H:Hp} {h:Heap} {o:Obj} {d:Addr} {kvs:List (Key × V)} {es0:Array DictEntry} {ep:Nat} (ok:HOk P w H h) (e:H d=some (.frz o (.dK kvs))) (ho:o.data=.dict es0 ep) :
  kvs.length≤sizeLine∧(d == sysModules)=false∧∃ vs,KV kvs vs∧h.DictAt (mixKind P w) d vs ep:=by
 obtain ⟨hg,z,y,vs,r,ob,es,ep',e1,c,e2,r2⟩:=(show ObjOk P w H h d (.frz o (.dK kvs)) from ok d _ e)
 rw [hg] at e1
 cases e1
 rw [ho] at e2
 cases e2
 exact ⟨z,y,vs,r,o,es0,hg,c,ho,r2⟩
end
end L2
end
section
set_option Elab.async false
set_option linter.all false
set_option maxRecDepth 100000
set_option maxHeartbeats 2000000
namespace L2
open PySem PySem.Spec PyProof.Rows
section
variable {prog:Program} {w:World} {A:Around} {E:Value→Shared→Prop} {s:Shared} {κ:PyProof.Rows.KeyKind}
theorem wpS_iteT {α:Type} {c:Prop} {d:Decidable c} {a b:StateT SortSt Sem α} {Q:α→SortSt→Prop} {st:SortSt} (hc:c) (h:wpS (model prog w) A E s a Q st):wpS (model prog w) A E s (@ite _ c d a b) Q st:=by rw [if_pos hc];exact h
theorem wpS_iteF {α:Type} {c:Prop} {d:Decidable c} {a b:StateT SortSt Sem α} {Q:α→SortSt→Prop} {st:SortSt} (hc:¬c) (h:wpS (model prog w) A E s b Q st):wpS (model prog w) A E s (@ite _ c d a b) Q st:=by rw [if_neg hc];exact h
theorem wpS_lt {st:SortSt} {x y:Keyed} {a b:κ.α} {Q:Option Bool→SortSt→Prop} (hO:κ.OneLt) (hk:kindOf st=oneType') (ha:κ.keyOf x.1=some a) (hb:κ.keyOf y.1=some b) (h:Q (some (κ.blt a b)) st) :
  wpS (model prog w) A E s (lt' x y) Q st:=by
 rw [lt'_eq]
 refine wpS_bind (wpS_get ?_)
 rw [hk,keyLt'_oneType]
 refine wpS_bind (wpS_lift (wpAny_attempt (hO prog w A _ s x.1 y.1 a b ha hb ⟨rfl,?_⟩)))
 exact wpS_pure h
theorem wpS_elem {st:SortSt} {arr:Array Keyed} {i:Nat} (hi:i < arr.size) {Q:Keyed→SortSt→Prop} (h:Q arr[i] st):wpS (model prog w) A E s (elem' arr i) Q st:=by
 rw [elem'_eq,Array.getElem?_eq_getElem hi]
 exact wpS_pure h
def beyB (κ:PyProof.Rows.KeyKind) (left:Bool) (kk:κ.α) (arr:Array Keyed) (i:Nat):Bool:=if left=true then κ.blt (KK κ arr i) kk else !κ.blt kk (KK κ arr i)
theorem keyed_at {arr:Array Keyed} (hks:KeysOf κ arr) {i:Nat} (hi:i < arr.size):κ.keyOf arr[i].1=some (KK κ arr i):=by
 obtain ⟨a,ha⟩:=hks arr[i] (by simp)
 unfold KK
 rw [Array.getElem?_eq_getElem hi]
 simp [ha]
theorem wpS_bey {left:Bool} {key:Keyed} {kk:κ.α} {arr:Array Keyed} {i:Nat} {st:SortSt} {Q:Option Bool→SortSt→Prop} (hO:κ.OneLt) (hk:kindOf st=oneType') (hkey:κ.keyOf key.1=some kk) (hks:KeysOf κ arr) (hi:i < arr.size) (h:Q (some (beyB κ left kk arr i)) st) :
  wpS (model prog w) A E s (do
   let p ← elem' arr i
   if left=true then lt' p key
   else do
    let r ← lt' key p
    pure (r.map fun b=>!b)) Q st:=by
 refine wpS_bind (wpS_elem hi ?_)
 unfold beyB at h
 cases left with
 | true=>exact wpS_lt hO hk (keyed_at hks hi) hkey h
 | false=>exact wpS_bind (wpS_lt hO hk hkey (keyed_at hks hi) (wpS_pure h))
theorem wpS_gallop {left:Bool} {key:Keyed} {kk:κ.α} {arr:Array Keyed} {lo n hint:Nat} {st:SortSt} {Q:Option Nat→SortSt→Prop} (hO:κ.OneLt) (hk:kindOf st=oneType') (hkey:κ.keyOf key.1=some kk) (hks:KeysOf κ arr) (hn:hint < n) (hsz:lo + n≤arr.size)
  (mono:∀ i j,i≤j→j < n→beyB κ left kk arr (lo + j)=true→beyB κ left kk arr (lo + i)=true)
  (h:∀ k,k≤n→(∀ i,i < k→beyB κ left kk arr (lo + i)=true)→(∀ i,k≤i→i < n→beyB κ left kk arr (lo + i)=false)→Q (some k) st) :
  wpS (model prog w) A E s ((sortPriv% PySem.Builtin.gallop) left key arr lo n hint) Q st:=by
 show wpS _ _ _ _ (_ >>= _) _ _
 dsimp only
 generalize hbp:(fun i=>beyB κ left kk arr (lo + i))=bp
 have eb:∀ i,beyB κ left kk arr (lo + i)=bp i:=fun i=>by rw [← hbp]
 have mono':∀ i j,i≤j→j < n→bp j=false∨bp i=true:=fun i j h1 h2=>by
  cases e:bp j with
  | false=>exact .inl rfl
  | true=>exact .inr (by rw [← eb];exact mono i j h1 h2 (by rw [eb];exact e))
 have h':∀ k,k≤n→(∀ i,i < k→bp i=true)→(∀ i,k≤i→i < n→bp i=false)→Q (some k) st:=fun k h1 h2 h3=>h k h1 (fun i hi=>by rw [eb];exact h2 i hi) fun i hi hj=>by rw [eb];exact h3 i hi hj
 have up:∀ i j,i≤j→j < n→bp j=true→bp i=true:=fun i j h1 h2 h3=>by
  rcases mono' i j h1 h2 with z | z
  ·rw [z] at h3;cases h3
  ·exact z
 have dn:∀ i j,i≤j→j < n→bp i=false→bp j=false:=fun i j h1 h2 h3=>by
  rcases mono' i j h1 h2 with z | z
  ·exact z
  ·rw [z] at h3;cases h3
 refine wpS_bind (wpS_bey hO hk hkey hks (i:=lo + hint) (by omega) ?_)
 rw [eb]
 dsimp only
 have fin:∀ l0 h0,l0≤h0→h0≤n→(∀ i,i < l0→bp i=true)→(∀ i,h0≤i→i < n→bp i=false)→∀ (f:Nat→(Option (Option Nat) × Nat × Nat)→StateT SortSt Sem (ForInStep (Option (Option Nat) × Nat × Nat))) (F:(Option (Option Nat) × Nat × Nat)→StateT SortSt Sem (Option Nat)),
   (∀ x l u (Q':ForInStep (Option (Option Nat) × Nat × Nat)→SortSt→Prop),u≤n→(u≤l→Q' (.done (none,l,u)) st)→(l < u→Q' (.yield (if bp (l + (u - l) / 2)=true then (none,l + (u - l) / 2 + 1,u) else (none,l,l + (u - l) / 2))) st)→wpS (model prog w) A E s (f x (none,l,u)) Q' st)→
   (∀ l u,Q (some u) st→wpS (model prog w) A E s (F (none,l,u)) Q st)→
   wpS (model prog w) A E s (forIn [0:n] ((none:Option (Option Nat)),l0,h0) f >>= F) Q st:=by
  intro l0 h0 hle hh t1 t2 f F hf hF
  refine wpS_bind (wpS_mono (wpS_forRange (I:=fun (x:Nat) (c:Option (Option Nat) × Nat × Nat) (st':SortSt)=>∃ l u,c=(none,l,u)∧st'=st∧l≤u∧u≤n∧(∀ i,i < l→bp i=true)∧(∀ i,u≤i→i < n→bp i=false)∧u - l≤n - x)
   (Q:=fun (c:Option (Option Nat) × Nat × Nat) (st':SortSt)=>∃ l u,c=(none,l,u)∧st'=st∧u≤l∧u≤n∧(∀ i,i < l→bp i=true)∧(∀ i,u≤i→i < n→bp i=false)) ?_ ?_ ⟨l0,h0,rfl,rfl,hle,hh,t1,t2,by omega⟩) ?_)
  ·rintro x c st' _ hx ⟨l,u,rfl,rfl,h2,h3,h4,h5,h6⟩
   refine hf x l u _ h3 (fun z=>⟨l,u,rfl,rfl,z,h3,h4,h5⟩) fun z=>?_
   cases e:bp (l + (u - l) / 2) with
   | true=>
    rw [if_pos rfl]
    exact ⟨_,_,rfl,rfl,by omega,h3,fun i hi=>up i _ (by omega) (by omega) e,h5,by omega⟩
   | false=>
    rw [if_neg (by simp)]
    exact ⟨_,_,rfl,rfl,by omega,by omega,h4,fun i hi hj=>dn _ i hi hj e,by omega⟩
  ·rintro c st' ⟨l,u,h0',h1,h2,h3,h4,h5,h6⟩
   exact ⟨l,u,h0',h1,by omega,h3,h4,h5⟩
  ·rintro c st' ⟨l,u,rfl,rfl,h2,h3,h4,h5⟩
   exact hF l u (h' _ h3 (fun i hi=>h4 i (by omega)) h5)
 cases e0:bp hint with
 | true=>
  rw [if_pos rfl]
  refine wpS_bind (wpS_mono (wpS_forRange (I:=fun (x:Nat) (c:Option (Option Nat) × Nat × Nat) (st':SortSt)=>st'=st∧c.1=none∧c.2.1 < n - hint∧c.2.1 < c.2.2∧x + 1≤c.2.2∧bp (hint + c.2.1)=true)
   (Q:=fun (c:Option (Option Nat) × Nat × Nat) (st':SortSt)=>st'=st∧c.1=none∧c.2.1 < n - hint∧c.2.1 < c.2.2∧bp (hint + c.2.1)=true∧(c.2.2≥n - hint∨bp (hint + c.2.2)=false)) ?_ ?_ ⟨rfl,rfl,by dsimp only;omega,by dsimp only;omega,by dsimp only;omega,e0⟩) ?_)
  ·rintro x c st' _ hx ⟨rfl,h1,h2,h3,h4,h5⟩
   by_cases z:c.2.2≥n - hint
   ·rw [if_pos z]
    exact wpS_pure ⟨rfl,rfl,h2,h3,h5,.inl z⟩
   ·rw [if_neg z]
    refine wpS_bind (wpS_bey hO hk hkey hks (i:=lo + (hint + c.2.2)) (by omega) ?_)
    rw [eb]
    dsimp only
    cases e:bp (hint + c.2.2) with
    | true=>
     rw [if_neg (by simp)]
     exact wpS_pure ⟨rfl,rfl,by dsimp only;omega,by dsimp only;omega,by dsimp only;omega,e⟩
    | false=>
     rw [if_pos (by simp)]
     exact wpS_pure ⟨rfl,rfl,h2,h3,h5,.inr e⟩
  ·rintro c st' ⟨h0',h1,h2,h3,h4,h5⟩
   exact ⟨h0',h1,h2,h3,h5,.inl (by omega)⟩
  ·rintro c st' ⟨rfl,h1,h2,h3,h4,h5⟩
   rw [h1]
   dsimp only
   refine fin (hint + c.2.1 + 1) (hint + min c.2.2 (n - hint)) (by omega) (by omega) (fun i hi=>up i (hint + c.2.1) (by omega) (by omega) h4) (fun i hi hj=>?_) _ _ ?_ ?_
   ·rcases h5 with z | z
    ·omega
    ·exact dn (hint + c.2.2) i (by omega) hj z
   ·intro x l u Q' hun q1 q2
    dsimp only
    by_cases z:l≥u
    ·rw [if_pos z]
     exact wpS_pure (q1 z)
    ·rw [if_neg z]
     refine wpS_bind (wpS_bey hO hk hkey hks (i:=lo + (l + (u - l) / 2)) (by omega) ?_)
     rw [eb]
     dsimp only
     have q2:=q2 (by omega)
     cases e:bp (l + (u - l) / 2) with
     | true=>
      rw [e,if_pos rfl] at q2
      rw [if_pos rfl]
      exact wpS_pure q2
     | false=>
      rw [e,if_neg (by simp)] at q2
      rw [if_neg (by simp)]
      exact wpS_pure q2
   ·exact fun l u q=>wpS_pure q
 | false=>
  rw [if_neg (by simp)]
  refine wpS_bind (wpS_mono (wpS_forRange (I:=fun (x:Nat) (c:Option (Option Nat) × Nat × Nat) (st':SortSt)=>st'=st∧c.1=none∧c.2.1≤hint∧c.2.1 < c.2.2∧x + 1≤c.2.2∧bp (hint - c.2.1)=false)
   (Q:=fun (c:Option (Option Nat) × Nat × Nat) (st':SortSt)=>st'=st∧c.1=none∧c.2.1≤hint∧c.2.1 < c.2.2∧bp (hint - c.2.1)=false∧(c.2.2≥hint + 1∨bp (hint - c.2.2)=true)) ?_ ?_ ⟨rfl,rfl,by dsimp only;omega,by dsimp only;omega,by dsimp only;omega,e0⟩) ?_)
  ·rintro x c st' _ hx ⟨rfl,h1,h2,h3,h4,h5⟩
   by_cases z:c.2.2≥hint + 1
   ·rw [if_pos z]
    exact wpS_pure ⟨rfl,rfl,h2,h3,h5,.inl z⟩
   ·rw [if_neg z]
    refine wpS_bind (wpS_bey hO hk hkey hks (i:=lo + (hint - c.2.2)) (by omega) ?_)
    rw [eb]
    dsimp only
    cases e:bp (hint - c.2.2) with
    | true=>
     rw [if_pos rfl]
     exact wpS_pure ⟨rfl,rfl,h2,h3,h5,.inr e⟩
    | false=>
     rw [if_neg (by simp)]
     exact wpS_pure ⟨rfl,rfl,by dsimp only;omega,by dsimp only;omega,by dsimp only;omega,e⟩
  ·rintro c st' ⟨h0',h1,h2,h3,h4,h5⟩
   exact ⟨h0',h1,h2,h3,h5,.inl (by omega)⟩
  ·rintro c st' ⟨rfl,h1,h2,h3,h4,h5⟩
   rw [h1]
   dsimp only
   refine fin (hint + 1 - min c.2.2 (hint + 1)) (hint - c.2.1) (by omega) (by omega) (fun i hi=>?_) (fun i hi hj=>dn (hint - c.2.1) i (by omega) hj h4) _ _ ?_ ?_
   ·rcases h5 with z | z
    ·omega
    ·exact up i (hint - c.2.2) (by omega) (by omega) z
   ·intro x l u Q' hun q1 q2
    dsimp only
    by_cases z:l≥u
    ·rw [if_pos z]
     exact wpS_pure (q1 z)
    ·rw [if_neg z]
     refine wpS_bind (wpS_bey hO hk hkey hks (i:=lo + (l + (u - l) / 2)) (by omega) ?_)
     rw [eb]
     dsimp only
     have q2:=q2 (by omega)
     cases e:bp (l + (u - l) / 2) with
     | true=>
      rw [e,if_pos rfl] at q2
      rw [if_pos rfl]
      exact wpS_pure q2
     | false=>
      rw [e,if_neg (by simp)] at q2
      rw [if_neg (by simp)]
      exact wpS_pure q2
   ·exact fun l u q=>wpS_pure q
end
end L2
end
section
set_option Elab.async false
set_option linter.all false
set_option maxRecDepth 100000
set_option maxHeartbeats 2000000
namespace L2
open PySem PySem.Spec PyProof.Rows
section
variable {α:Type} {le:α→α→Prop}
structure Mg (le:α→α→Prop) (a b out:List α) (i j:Nat):Prop where
 ia:i≤a.length
 jb:j≤b.length
 perm:out.Perm (a.take i ++ b.take j)
 up:out.Pairwise le
 lowA:∀ x∈out,∀ y∈a.drop i,le x y
 lowB:∀ x∈out,∀ y∈b.drop j,le x y
def Fin2 (le:α→α→Prop) (a b r:List α):Prop:=r.Perm (a ++ b)∧r.Pairwise le
theorem up_snoc {out:List α} {x:α} (h:out.Pairwise le) (l:∀ y∈out,le y x):(out ++ [x]).Pairwise le:=by
 rw [List.pairwise_append]
 refine ⟨h,List.pairwise_singleton _ _,fun y hy z hz=>?_⟩
 rw [List.mem_singleton.mp hz];exact l y hy
theorem drop_at {a:List α} {i:Nat} (h:i < a.length):a.drop i=a[i] :: a.drop (i + 1):=(List.drop_eq_getElem_cons h)
theorem take_at {a:List α} {i:Nat} (h:i < a.length):a.take (i + 1)=a.take i ++ [a[i]]:=by rw [List.take_add_one,List.getElem?_eq_getElem h];rfl
theorem up_drop {a:List α} (h:a.Pairwise le) {i:Nat} (hi:i < a.length):∀ y∈a.drop (i + 1),le a[i] y:=fun y hy=>by
 have h2:(a.drop i).Pairwise le:=h.sublist (List.drop_sublist i a)
 rw [drop_at hi] at h2
 exact (List.pairwise_cons.mp h2).1 y hy
theorem Mg.pushA {a b out:List α} {i j:Nat} (m:Mg le a b out i j) (ha:a.Pairwise le) (hi:i < a.length) (h:∀ y∈b.drop j,le a[i] y):Mg le a b (out ++ [a[i]]) (i + 1) j:=by
 refine ⟨hi,m.jb,?_,up_snoc m.up fun y hy=>m.lowA y hy _ (by rw [drop_at hi];exact List.mem_cons_self),fun x hx y hy=>?_,fun x hx y hy=>?_⟩
 ·rw [take_at hi]
  refine (m.perm.append_right _).trans ?_
  rw [List.append_assoc,List.append_assoc]
  exact List.Perm.append_left _ List.perm_append_comm
 ·rcases List.mem_append.mp hx with z | z
  ·exact m.lowA x z y (by rw [drop_at hi];exact List.mem_cons_of_mem _ hy)
  ·rw [List.mem_singleton.mp z];exact up_drop ha hi y hy
 ·rcases List.mem_append.mp hx with z | z
  ·exact m.lowB x z y hy
  ·rw [List.mem_singleton.mp z];exact h y hy
theorem Mg.pushB {a b out:List α} {i j:Nat} (m:Mg le a b out i j) (hb:b.Pairwise le) (hj:j < b.length) (h:∀ y∈a.drop i,le b[j] y):Mg le a b (out ++ [b[j]]) i (j + 1):=by
 refine ⟨m.ia,hj,?_,up_snoc m.up fun y hy=>m.lowB y hy _ (by rw [drop_at hj];exact List.mem_cons_self),fun x hx y hy=>?_,fun x hx y hy=>?_⟩
 ·rw [take_at hj,← List.append_assoc]
  exact m.perm.append_right _
 ·rcases List.mem_append.mp hx with z | z
  ·exact m.lowA x z y hy
  ·rw [List.mem_singleton.mp z];exact h y hy
 ·rcases List.mem_append.mp hx with z | z
  ·exact m.lowB x z y (by rw [drop_at hj];exact List.mem_cons_of_mem _ hy)
  ·rw [List.mem_singleton.mp z];exact up_drop hb hj y hy
theorem Mg.blockA {a b:List α} {j:Nat} (ha:a.Pairwise le):∀ (k:Nat) {out:List α} {i:Nat},Mg le a b out i j→i + k≤a.length→(∀ t (ht:t < a.length),i≤t→t < i + k→∀ y∈b.drop j,le a[t] y)→Mg le a b (out ++ (a.drop i).take k) (i + k) j
 | 0,out,i,m,_,_=>by simpa using m
 | k + 1,out,i,m,hk,h=>by
  have hi:i < a.length:=by omega
  have m2:=Mg.blockA ha k (m.pushA ha hi (h i hi (Nat.le_refl _) (by omega))) (by omega) fun t ht h1 h2=>h t ht (by omega) (by omega)
  rw [drop_at hi,List.take_succ_cons]
  rw [List.append_assoc,show i + 1 + k=i + (k + 1) by omega] at m2
  exact m2
theorem Mg.blockB {a b:List α} {i:Nat} (hb:b.Pairwise le):∀ (k:Nat) {out:List α} {j:Nat},Mg le a b out i j→j + k≤b.length→(∀ t (ht:t < b.length),j≤t→t < j + k→∀ y∈a.drop i,le b[t] y)→Mg le a b (out ++ (b.drop j).take k) i (j + k)
 | 0,out,j,m,_,_=>by simpa using m
 | k + 1,out,j,m,hk,h=>by
  have hj:j < b.length:=by omega
  have m2:=Mg.blockB hb k (m.pushB hb hj (h j hj (Nat.le_refl _) (by omega))) (by omega) fun t ht h1 h2=>h t ht (by omega) (by omega)
  rw [drop_at hj,List.take_succ_cons]
  rw [List.append_assoc,show j + 1 + k=j + (k + 1) by omega] at m2
  exact m2
theorem Mg.done {a b out:List α} {i j:Nat} (m:Mg le a b out i j) (ha:a.Pairwise le) (hb:b.Pairwise le) (h:i=a.length∨j=b.length):Fin2 le a b (out ++ a.drop i ++ b.drop j):=by
 refine ⟨?_,?_⟩
 ·have p:(out ++ (a.drop i ++ b.drop j)).Perm ((a.take i ++ b.take j) ++ (a.drop i ++ b.drop j)):=m.perm.append_right _
  rw [List.append_assoc]
  refine p.trans ?_
  have e:a ++ b=(a.take i ++ a.drop i) ++ (b.take j ++ b.drop j):=by rw [List.take_append_drop,List.take_append_drop]
  rw [e,List.append_assoc,List.append_assoc]
  refine List.Perm.append_left _ ?_
  rw [← List.append_assoc,← List.append_assoc]
  exact List.Perm.append_right _ List.perm_append_comm
 ·rw [List.append_assoc,List.pairwise_append]
  refine ⟨m.up,?_,fun x hx y hy=>?_⟩
  ·rcases h with z | z
   ·rw [z,List.drop_length,List.nil_append];exact hb.sublist (List.drop_sublist _ _)
   ·rw [z,List.drop_length,List.append_nil];exact ha.sublist (List.drop_sublist _ _)
  ·rcases List.mem_append.mp hy with z | z
   ·exact m.lowA x hx y z
   ·exact m.lowB x hx y z
theorem Mg.lastA {a b out:List α} {i j:Nat} (m:Mg le a b out i j) (ha:a.Pairwise le) (hb:b.Pairwise le) (h:∀ x∈b.drop j,∀ y∈a.drop i,le x y):Fin2 le a b (out ++ b.drop j ++ a.drop i):=by
 refine ⟨?_,?_⟩
 ·have p:(out ++ (b.drop j ++ a.drop i)).Perm ((a.take i ++ b.take j) ++ (b.drop j ++ a.drop i)):=m.perm.append_right _
  rw [List.append_assoc]
  refine p.trans ?_
  have e:a ++ b=(a.take i ++ a.drop i) ++ (b.take j ++ b.drop j):=by rw [List.take_append_drop,List.take_append_drop]
  rw [e,List.append_assoc,List.append_assoc]
  refine List.Perm.append_left _ ?_
  rw [← List.append_assoc]
  exact List.perm_append_comm
 ·rw [List.append_assoc,List.pairwise_append]
  refine ⟨m.up,?_,fun x hx y hy=>?_⟩
  ·rw [List.pairwise_append]
   exact ⟨hb.sublist (List.drop_sublist _ _),ha.sublist (List.drop_sublist _ _),h⟩
  ·rcases List.mem_append.mp hy with z | z
   ·exact m.lowB x hx y z
   ·exact m.lowA x hx y z
theorem Mg.zero {a b:List α}:Mg le a b [] 0 0:=⟨Nat.zero_le _,Nat.zero_le _,by simp,.nil,fun x h=>by simp at h,fun x h=>by simp at h⟩
end
end L2
end
section
set_option Elab.async false
set_option linter.all false
set_option maxRecDepth 100000
set_option maxHeartbeats 2000000
namespace L2
open PySem PySem.Spec PyProof.Rows
section
variable {prog:Program} {w:World} {A:Around} {E:Value→Shared→Prop} {s:Shared} {κ:PyProof.Rows.KeyKind}
def kf (κ:PyProof.Rows.KeyKind) (p:Keyed):κ.α:=(κ.keyOf p.1).getD κ.dflt
def kL (κ:PyProof.Rows.KeyKind) (p q:Keyed):Prop:=κ.kle (kf κ p) (kf κ q)
theorem KK_kf {arr:Array Keyed} {i:Nat} (h:i < arr.size):KK κ arr i=kf κ arr[i]:=by
 unfold KK kf
 rw [Array.getElem?_eq_getElem h]
theorem key_kf {arr:Array Keyed} (hks:KeysOf κ arr) {i:Nat} (h:i < arr.size):κ.keyOf arr[i].1=some (kf κ arr[i]):=by rw [keyed_at hks h,KK_kf h]
structure StL (st st':SortSt):Prop where
 kind:kindOf st'=kindOf st
 arr:arrOf st'=arrOf st
 pend:pendingOf st'=pendingOf st
 fail:failedOf st'=failedOf st
theorem StL.refl (st:SortSt):StL st st:=⟨rfl,rfl,rfl,rfl⟩
theorem up_at {a:Array Keyed} (h:a.toList.Pairwise (kL κ)) {i j:Nat} (hij:i≤j) (hj:j < a.size):κ.kle (kf κ a[i]) (kf κ a[j]):=by
 rcases Nat.eq_or_lt_of_le hij with z | z
 ·subst z;exact KeyOrd.kle_refl _
 ·have:=(List.pairwise_iff_getElem.mp h) i j (by simpa using (by omega:i < a.size)) (by simpa using hj) z
  exact (by simpa using this:kL κ a[i] a[j])
theorem dr_mem {a:Array Keyed} {i:Nat} {y:Keyed} (h:y∈a.toList.drop i):∃ t,∃ (ht:t < a.size),i≤t∧a[t]=y:=by
 obtain ⟨t,ht,e⟩:=List.mem_iff_getElem.mp h
 have ht':t < a.size - i:=by simpa using ht
 exact ⟨i + t,by omega,by omega,by rw [← e];simp⟩
theorem wpS_setGallop {g:Nat} {st0 st:SortSt} {Q:Unit→SortSt→Prop} (h0:StL st0 st) (h:∀ st',StL st0 st'→Q () st'):wpS (model prog w) A E s ((sortPriv% PySem.Builtin.setMinGallop) g) Q st:=by
 exact wpS_modify (h _ ⟨h0.kind,h0.arr,h0.pend,h0.fail⟩)
theorem wpS_jp {β α:Type} {J:β→StateT SortSt Sem α} {C:β→Prop} {m:StateT SortSt Sem α} {R:α→SortSt→Prop} {st:SortSt} (h1:∀ o,C o→wpS (model prog w) A E s (J o) R st) (h2:(∀ o,C o→wpS (model prog w) A E s (J o) R st)→wpS (model prog w) A E s m R st):wpS (model prog w) A E s m R st:=h2 h1
theorem bey_f {arr:Array Keyed} {kk:κ.α} {x:Nat} (hx:x < arr.size):beyB κ false kk arr x=true↔κ.kle (kf κ arr[x]) kk:=by
 unfold beyB
 rw [if_neg (by simp),KK_kf hx]
 unfold KeyOrd.kle
 simp
theorem bey_f' {arr:Array Keyed} {kk:κ.α} {x:Nat} (hx:x < arr.size):beyB κ false kk arr x=false↔κ.klt kk (kf κ arr[x]):=by
 unfold beyB
 rw [if_neg (by simp),KK_kf hx]
 unfold KeyOrd.klt
 simp
theorem bey_t {arr:Array Keyed} {kk:κ.α} {x:Nat} (hx:x < arr.size):beyB κ true kk arr x=true↔κ.klt (kf κ arr[x]) kk:=by
 unfold beyB
 rw [if_pos rfl,KK_kf hx]
 rfl
theorem bey_t' {arr:Array Keyed} {kk:κ.α} {x:Nat} (hx:x < arr.size):beyB κ true kk arr x=false↔κ.kle kk (kf κ arr[x]):=by
 unfold beyB
 rw [if_pos rfl,KK_kf hx]
 rfl
theorem mono_f {arr:Array Keyed} {kk:κ.α} (hu:arr.toList.Pairwise (kL κ)) {lo n:Nat} (hn:lo + n≤arr.size):∀ i j,i≤j→j < n→beyB κ false kk arr (lo + j)=true→beyB κ false kk arr (lo + i)=true:=fun i j hij hj h=>by
 rw [bey_f (by omega)] at h ⊢
 exact KeyOrd.kle_trans (up_at hu (by omega) (by omega)) h
theorem mono_t {arr:Array Keyed} {kk:κ.α} (hu:arr.toList.Pairwise (kL κ)) {lo n:Nat} (hn:lo + n≤arr.size):∀ i j,i≤j→j < n→beyB κ true kk arr (lo + j)=true→beyB κ true kk arr (lo + i)=true:=fun i j hij hj h=>by
 rw [bey_t (by omega)] at h ⊢
 exact KeyOrd.klt_of_kle_of_klt (up_at hu (by omega) (by omega)) h
theorem wpS_mergeLo {a b:Array Keyed} {st:SortSt} {Q:Array Keyed→SortSt→Prop} (hO:κ.OneLt) (hk:kindOf st=oneType') (hka:KeysOf κ a) (hkb:KeysOf κ b) (ha:a.toList.Pairwise (kL κ)) (hb:b.toList.Pairwise (kL κ)) (a0:0 < a.size) (b0:0 < b.size)
  (hlo:κ.kle (kf κ b[0]) (kf κ a[0])) (hhi:∀ j (hj:j < b.size),κ.klt (kf κ b[j]) (kf κ a[a.size - 1]))
  (h:∀ r st',Fin2 (kL κ) a.toList b.toList r.toList→StL st st'→Q r st') :
  wpS (model prog w) A E s ((sortPriv% PySem.Builtin.mergeLo) a b) Q st:=by
 have lA:∀ {i},(a.extract i).toList=a.toList.drop i:=by intro i;simp;exact List.take_of_length_le (by simp)
 have lB:∀ {i},(b.extract i).toList=b.toList.drop i:=by intro i;simp;exact List.take_of_length_le (by simp)
 have sA:a.toList.length=a.size:=by simp
 have sB:b.toList.length=b.size:=by simp
 have gA:∀ i (hi:i < a.size),a.toList[i]'(by simpa using hi)=a[i]:=fun i hi=>by simp
 have gB:∀ i (hi:i < b.size),b.toList[i]'(by simpa using hi)=b[i]:=fun i hi=>by simp
 have hlast:∀ {i j},i + 1=a.size→∀ x∈b.toList.drop j,∀ y∈a.toList.drop i,kL κ x y:=fun {i j} hi x hx y hy=>by
  obtain ⟨t,ht,_,rfl⟩:=dr_mem hx
  obtain ⟨u,hu,h1,rfl⟩:=dr_mem hy
  obtain rfl:u=a.size - 1:=by first | omega | ((try dsimp only);omega)
  exact KeyOrd.kle_of_klt (hhi t ht)
 have mpA:∀ {out:Array Keyed} {i j:Nat},Mg (kL κ) a.toList b.toList out.toList i j→(hi:i < a.size)→(∀ u (hu:u < b.size),j≤u→κ.kle (kf κ a[i]) (kf κ b[u]))→Mg (kL κ) a.toList b.toList (out.push a[i]).toList (i + 1) j:=fun {out i j} m hi q=>by
  have:=m.pushA ha (by simpa using hi) fun y hy=>by
   obtain ⟨u,hu,h1,rfl⟩:=dr_mem hy
   rw [gA i hi];exact q u hu h1
  rw [gA i hi] at this
  simpa using this
 have mpB:∀ {out:Array Keyed} {i j:Nat},Mg (kL κ) a.toList b.toList out.toList i j→(hj:j < b.size)→(∀ u (hu:u < a.size),i≤u→κ.kle (kf κ b[j]) (kf κ a[u]))→Mg (kL κ) a.toList b.toList (out.push b[j]).toList i (j + 1):=fun {out i j} m hj q=>by
  have:=m.pushB hb (by simpa using hj) fun y hy=>by
   obtain ⟨u,hu,h1,rfl⟩:=dr_mem hy
   rw [gB j hj];exact q u hu h1
  rw [gB j hj] at this
  simpa using this
 have mbA:∀ {out:Array Keyed} {i j k:Nat},Mg (kL κ) a.toList b.toList out.toList i j→i + k≤a.size→(∀ t (ht:t < a.size),i≤t→t < i + k→∀ u (hu:u < b.size),j≤u→κ.kle (kf κ a[t]) (kf κ b[u]))→Mg (kL κ) a.toList b.toList (out ++ a.extract i (i + k)).toList (i + k) j:=fun {out i j k} m hk q=>by
  have:=Mg.blockA ha k m (by simpa using hk) fun t ht h1 h2 y hy=>by
   obtain ⟨u,hu,h3,rfl⟩:=dr_mem hy
   have ht':t < a.size:=by simpa using ht
   rw [gA t ht'];exact q t ht' h1 h2 u hu h3
  rw [Array.toList_append]
  have e:(a.extract i (i + k)).toList=(a.toList.drop i).take k:=by simp
  rw [e];exact this
 have mbB:∀ {out:Array Keyed} {i j k:Nat},Mg (kL κ) a.toList b.toList out.toList i j→j + k≤b.size→(∀ t (ht:t < b.size),j≤t→t < j + k→∀ u (hu:u < a.size),i≤u→κ.kle (kf κ b[t]) (kf κ a[u]))→Mg (kL κ) a.toList b.toList (out ++ b.extract j (j + k)).toList i (j + k):=fun {out i j k} m hk q=>by
  have:=Mg.blockB hb k m (by simpa using hk) fun t ht h1 h2 y hy=>by
   obtain ⟨u,hu,h3,rfl⟩:=dr_mem hy
   have ht':t < b.size:=by simpa using ht
   rw [gB t ht'];exact q t ht' h1 h2 u hu h3
  rw [Array.toList_append]
  have e:(b.extract j (j + k)).toList=(b.toList.drop j).take k:=by simp
  rw [e];exact this
 have fin1:∀ {out:Array Keyed} {i j:Nat} {st':SortSt},StL st st'→Mg (kL κ) a.toList b.toList out.toList i j→(i=a.size∨j=b.size)→Q (out ++ a.extract i ++ b.extract j) st':=fun {out i j st'} e m z=>by
  refine h _ _ ?_ e
  rw [Array.toList_append,Array.toList_append,lA,lB]
  exact m.done ha hb (by rw [sA,sB];exact z)
 have fin2:∀ {out:Array Keyed} {i j:Nat} {st':SortSt},StL st st'→Mg (kL κ) a.toList b.toList out.toList i j→i + 1=a.size→Q (out ++ b.extract j ++ a.extract i) st':=fun {out i j st'} e m z=>by
  refine h _ _ ?_ e
  rw [Array.toList_append,Array.toList_append,lA,lB]
  exact m.lastA ha hb (hlast z)
 show wpS _ _ _ _ (_ >>= _) _ _
 refine wpS_bind (wpS_lift (wpAny_rule ⟨rfl,?_⟩))
 skip
 refine wpS_bind (wpS_elem b0 ?_)
 have m0:Mg (kL κ) a.toList b.toList (#[b[0]]:Array Keyed).toList 0 1:=by
  have:=mpB (out:=#[]) (i:=0) (j:=0) Mg.zero b0 fun u hu _=>KeyOrd.kle_trans hlo (up_at ha (Nat.zero_le _) hu)
  simpa using this
 skip
 by_cases z1:1=b.size
 ·refine wpS_iteT (by simpa using z1) ?_
  exact wpS_pure (fin1 (StL.refl _) m0 (.inr z1))
 refine wpS_iteF (by simpa using z1) ?_
 by_cases z2:0 + 1=a.size
 ·refine wpS_iteT (by simpa using z2) ?_
  exact wpS_pure (fin2 (StL.refl _) m0 z2)
 refine wpS_iteF (by simpa using z2) ?_
 refine wpS_bind (wpS_get ?_)
 skip
 refine wpS_bind (wpS_mono (wpS_forRange (I:=fun (x:Nat) (c:Option (Array Keyed) × Array Keyed × Nat × Nat × Nat) (st':SortSt)=>∃ out i j g,c=(none,out,i,j,g)∧StL st st'∧Mg (kL κ) a.toList b.toList out.toList i j∧i + 1 < a.size∧j < b.size∧x + 1≤i + j)
  (Q:=fun (c:Option (Array Keyed) × Array Keyed × Nat × Nat × Nat) (st':SortSt)=>∃ r q,c=(some r,q)∧Q r st') ?_ ?_ ⟨_,_,_,_,rfl,StL.refl _,m0,by first | omega | ((try dsimp only);omega),by first | omega | ((try dsimp only);omega),by first | omega | ((try dsimp only);omega)⟩) ?_)
 ·rintro x c st1 _ hx ⟨out,i,j,g,rfl,e1,m1,hi,hj,hc⟩
  try conv=>arg 5;dsimp -zeta only
  refine wpS_bind (wpS_mono (wpS_forRange (I:=fun (y:Nat) (c:Option (Array Keyed) × Array Keyed × Nat × Nat × Nat × Nat) (st':SortSt)=>∃ out i' j' p q,c=(none,out,i',j',p,q)∧StL st st'∧Mg (kL κ) a.toList b.toList out.toList i' j'∧i' + 1 < a.size∧j' < b.size∧i + j + y≤i' + j')
   (Q:=fun (c:Option (Array Keyed) × Array Keyed × Nat × Nat × Nat × Nat) (st':SortSt)=>(∃ r q,c=(some r,q)∧Q r st')∨∃ out i' j' p q,c=(none,out,i',j',p,q)∧StL st st'∧Mg (kL κ) a.toList b.toList out.toList i' j'∧i' + 1 < a.size∧j' < b.size∧i + j + 1≤i' + j') ?_ ?_ ⟨_,_,_,_,_,rfl,e1,m1,hi,hj,by first | omega | ((try dsimp only);omega)⟩) ?_)
  ·rintro y c st2 _ hy ⟨out,i,j,p,q,rfl,e2,m2,hi,hj,hc⟩
   try conv=>arg 5;dsimp -zeta only
   refine wpS_bind (wpS_elem hj (wpS_bind (wpS_elem (show i < a.size by first | omega | ((try dsimp only);omega)) ?_)))
   refine wpS_bind (wpS_lt hO (by rw [e2.kind];exact hk) (key_kf hkb hj) (key_kf hka (by first | omega | ((try dsimp only);omega))) ?_)
   try conv=>arg 5;dsimp -zeta only
   cases e:κ.blt (kf κ b[j]) (kf κ a[i]) with
   | true=>
    refine wpS_iteT rfl ?_
    refine wpS_bind (wpS_elem hj ?_)
    try conv=>arg 5;dsimp -zeta only
    have m3:=mpB m2 hj fun u hu h1=>KeyOrd.kle_trans (KeyOrd.kle_of_klt e) (up_at ha h1 hu)
    by_cases z:j + 1=b.size
    ·refine wpS_iteT (by simpa using z) ?_
     exact wpS_pure (.inl ⟨_,_,rfl,fin1 e2 m3 (.inr z)⟩)
    ·refine wpS_iteF (by simpa using z) ?_
     by_cases z':q + 1≥g
     ·refine wpS_iteT z' ?_
      exact wpS_pure (.inr ⟨_,_,_,_,_,rfl,e2,m3,hi,by first | omega | ((try dsimp only);omega),by first | omega | ((try dsimp only);omega)⟩)
     ·refine wpS_iteF z' ?_
      exact wpS_pure ⟨_,_,_,_,_,rfl,e2,m3,hi,by first | omega | ((try dsimp only);omega),by first | omega | ((try dsimp only);omega)⟩
   | false=>
    refine wpS_iteF (by simp) ?_
    refine wpS_bind (wpS_elem (show i < a.size by first | omega | ((try dsimp only);omega)) ?_)
    try conv=>arg 5;dsimp -zeta only
    have m3:=mpA m2 (show i < a.size by first | omega | ((try dsimp only);omega)) fun u hu h1=>KeyOrd.kle_trans (show κ.kle _ _ from e) (up_at hb h1 hu)
    by_cases z:i + 1 + 1=a.size
    ·refine wpS_iteT (by simpa using z) ?_
     exact wpS_pure (.inl ⟨_,_,rfl,fin2 e2 m3 z⟩)
    ·refine wpS_iteF (by simpa using z) ?_
     by_cases z':p + 1≥g
     ·refine wpS_iteT z' ?_
      exact wpS_pure (.inr ⟨_,_,_,_,_,rfl,e2,m3,by first | omega | ((try dsimp only);omega),hj,by first | omega | ((try dsimp only);omega)⟩)
     ·refine wpS_iteF z' ?_
      exact wpS_pure ⟨_,_,_,_,_,rfl,e2,m3,by first | omega | ((try dsimp only);omega),hj,by first | omega | ((try dsimp only);omega)⟩
  ·rintro c st2 ⟨out,i',j',p,q,rfl,e2,m2,hi',hj',hc'⟩
   exfalso
   omega
  ·rintro c st2 (⟨r,q,rfl,hq⟩ | ⟨out,i',j',p,q,rfl,e2,m2,hi',hj',hc'⟩)
   ·try conv=>arg 5;dsimp -zeta only
    exact wpS_pure ⟨_,_,rfl,hq⟩
   ·try conv=>arg 5;dsimp -zeta only
    refine wpS_bind (wpS_lift (wpAny_rule ⟨rfl,?_⟩))
    try conv=>arg 5;dsimp -zeta only
    refine wpS_bind (wpS_mono (wpS_forRange (I:=fun (y:Nat) (c:Option (Array Keyed) × Array Keyed × Nat × Nat × Nat × Nat × Nat) (st':SortSt)=>∃ out i2 j2 g p q,c=(none,out,i2,j2,g,p,q)∧StL st st'∧Mg (kL κ) a.toList b.toList out.toList i2 j2∧i2 + 1 < a.size∧j2 < b.size∧i' + j' + y≤i2 + j2)
     (Q:=fun (c:Option (Array Keyed) × Array Keyed × Nat × Nat × Nat × Nat × Nat) (st':SortSt)=>(∃ r q,c=(some r,q)∧Q r st')∨∃ out i2 j2 g p q,c=(none,out,i2,j2,g,p,q)∧StL st st'∧Mg (kL κ) a.toList b.toList out.toList i2 j2∧i2 + 1 < a.size∧j2 < b.size∧i' + j'≤i2 + j2) ?_ ?_ ⟨_,_,_,_,_,_,rfl,e2,m2,hi',hj',by first | omega | ((try dsimp only);omega)⟩) ?_)
    ·rintro y c st3 _ hy ⟨out,i,j,g,p,q,rfl,e3,m3,hi,hj,hc⟩
     try conv=>arg 5;dsimp -zeta only
     extract_lets -underBinder +onlyGivenNames l1 l2 l3 l4 l5 l6 l7 l8 l9 l10 l11 jp1
     have q4:l4=i:=rfl
     have q4b:l3.fst=i:=rfl
     have q6:l6=j:=rfl
     have q6b:l5.fst=j:=rfl
     have q8:l8=g:=rfl
     have q8b:l7.fst=g:=rfl
     refine wpS_jp (J:=fun g':Nat=>jp1 () g') (C:=fun _=>True) (fun g' _=>?_) (fun hJ=>?_)
     rotate_left
     ·by_cases z:g > 1
      ·refine wpS_iteT z ?_
       exact hJ (g - 1) trivial
      ·refine wpS_iteF z ?_
       exact hJ g trivial
     try conv=>arg 5;dsimp -zeta only
     refine wpS_bind (wpS_setGallop e3 fun st4 e4=>?_)
     refine wpS_bind (wpS_elem hj ?_)
     refine wpS_bind (wpS_gallop hO (by rw [e4.kind];exact hk) (key_kf hkb hj) hka (by first | omega | ((try dsimp only);omega)) (by first | omega | ((try dsimp only);omega)) (mono_f ha (by first | omega | ((try dsimp only);omega))) fun k hk1 hk2 hk3=>?_)
     have kA:∀ t (ht:t < a.size),i≤t→t < i + k→κ.kle (kf κ a[t]) (kf κ b[j]):=fun t ht h1 h2=>by
      have:=hk2 (t - i) (by first | omega | ((try dsimp only);omega))
      rw [show i + (t - i)=t by first | omega | ((try dsimp only);omega),bey_f ht] at this
      exact this
     have kB:∀ t (ht:t < a.size),i + k≤t→κ.klt (kf κ b[j]) (kf κ a[t]):=fun t ht h1=>by
      have:=hk3 (t - i) (by first | omega | ((try dsimp only);omega)) (by first | omega | ((try dsimp only);omega))
      rw [show i + (t - i)=t by first | omega | ((try dsimp only);omega),bey_f' ht] at this
      exact this
     have hkl:i + k < a.size:=by
      rcases Nat.lt_or_ge (i + k) a.size with z | z
      ·exact z
      ·have h1:=kA (a.size - 1) (by first | omega | ((try dsimp only);omega)) (by first | omega | ((try dsimp only);omega)) (by first | omega | ((try dsimp only);omega))
       exact absurd (hhi j hj) (KeyOrd.not_klt_of_kle h1)
     try conv=>arg 5;dsimp -zeta only
     extract_lets -underBinder +onlyGivenNames ac jp2
     refine wpS_jp (J:=fun o:Array Keyed × Nat=>jp2 () o.1 o.2) (C:=fun o=>Mg (kL κ) a.toList b.toList o.1.toList o.2 j∧o.2=i + k∧o.2 + 1 < a.size) (fun o ho=>?_) (fun hJ=>?_)
     ·obtain ⟨o1,o2⟩:=o
      obtain ⟨mo,eo,ho3⟩:=ho
      have eo:o2=i + k:=eo
      subst eo
      have mo:Mg (kL κ) a.toList b.toList o1.toList (i + k) j:=mo
      have ho3:i + k + 1 < a.size:=ho3
      try conv=>arg 5;dsimp -zeta only
      refine wpS_bind (wpS_elem hj ?_)
      try conv=>arg 5;dsimp -zeta only
      have m5:=mpB mo hj fun u hu h1=>KeyOrd.kle_of_klt (kB u hu h1)
      by_cases z:j + 1=b.size
      ·refine wpS_iteT (by simpa using z) ?_
       exact wpS_pure (.inl ⟨_,_,rfl,fin1 e4 m5 (.inr z)⟩)
      refine wpS_iteF (by simpa using z) ?_
      refine wpS_bind (wpS_elem hkl ?_)
      refine wpS_bind (wpS_gallop hO (by rw [e4.kind];exact hk) (key_kf hka hkl) hkb (by first | omega | ((try dsimp only);omega)) (by first | omega | ((try dsimp only);omega)) (mono_t hb (by first | omega | ((try dsimp only);omega))) fun k2 h1 h2 h3=>?_)
      have lb:∀ t (ht:t < b.size),j + 1≤t→t < j + 1 + k2→κ.klt (kf κ b[t]) (kf κ a[i + k]):=fun t ht q1 q2=>by
       have:=h2 (t - (j + 1)) (by first | omega | ((try dsimp only);omega))
       rw [show j + 1 + (t - (j + 1))=t by first | omega | ((try dsimp only);omega),bey_t ht] at this
       exact this
      have la:∀ t (ht:t < b.size),j + 1 + k2≤t→κ.kle (kf κ a[i + k]) (kf κ b[t]):=fun t ht q1=>by
       have:=h3 (t - (j + 1)) (by first | omega | ((try dsimp only);omega)) (by first | omega | ((try dsimp only);omega))
       rw [show j + 1 + (t - (j + 1))=t by first | omega | ((try dsimp only);omega),bey_t' ht] at this
       exact this
      try conv=>arg 5;dsimp -zeta only
      extract_lets -underBinder +onlyGivenNames bc jp3
      refine wpS_jp (J:=fun o:Array Keyed × Nat=>jp3 () o.1 o.2) (C:=fun o=>Mg (kL κ) a.toList b.toList o.1.toList (i + k) o.2∧o.2=j + 1 + k2∧o.2 < b.size) (fun o ho=>?_) (fun hJ=>?_)
      ·obtain ⟨o1,o2⟩:=o
       obtain ⟨mo,eo,ho3⟩:=ho
       have eo:o2=j + 1 + k2:=eo
       subst eo
       have mo:Mg (kL κ) a.toList b.toList o1.toList (i + k) (j + 1 + k2):=mo
       have ho3:j + 1 + k2 < b.size:=ho3
       try conv=>arg 5;dsimp -zeta only
       refine wpS_bind (wpS_elem hkl ?_)
       try conv=>arg 5;dsimp -zeta only
       have m6:=mpA mo hkl fun u hu h1=>la u hu h1
       by_cases z:i + k + 1 + 1=a.size
       ·refine wpS_iteT (by simpa using z) ?_
        exact wpS_pure (.inl ⟨_,_,rfl,fin2 e4 m6 z⟩)
       refine wpS_iteF (by simpa using z) ?_
       by_cases z':(decide (k < 7) && decide (k2 < 7))=true
       ·refine wpS_iteT z' ?_
        exact wpS_pure (.inr ⟨_,_,_,_,_,_,rfl,e4,m6,by first | omega | ((try dsimp only);omega),ho3,by first | omega | ((try dsimp only);omega)⟩)
       ·refine wpS_iteF z' ?_
        exact wpS_pure ⟨_,_,_,_,_,_,rfl,e4,m6,by first | omega | ((try dsimp only);omega),ho3,by first | omega | ((try dsimp only);omega)⟩
      ·by_cases z3:k2 > 0
       ·refine wpS_iteT z3 ?_
        try conv=>arg 5;dsimp -zeta only
        have m6:=mbB (k:=k2) m5 (by first | omega | ((try dsimp only);omega)) fun t ht q1 q2 u hu q3=>KeyOrd.kle_of_klt (KeyOrd.klt_of_klt_of_kle (lb t ht q1 q2) (up_at ha q3 hu))
        by_cases z4:j + 1 + k2=b.size
        ·refine wpS_iteT (by simpa using z4) ?_
         exact wpS_pure (.inl ⟨_,_,rfl,fin1 e4 m6 (.inr z4)⟩)
        ·refine wpS_iteF (by simpa using z4) ?_
         exact hJ (_,_) ⟨m6,rfl,by dsimp only;omega⟩
       ·refine wpS_iteF z3 ?_
        obtain rfl:k2=0:=by first | omega | ((try dsimp only);omega)
        exact hJ (_,_) ⟨m5,rfl,by dsimp only;omega⟩
     ·by_cases z3:k > 0
      ·refine wpS_iteT z3 ?_
       try conv=>arg 5;dsimp -zeta only
       have m6:=mbA (k:=k) m3 (by first | omega | ((try dsimp only);omega)) fun t ht q1 q2 u hu q3=>KeyOrd.kle_trans (kA t ht q1 q2) (up_at hb q3 hu)
       by_cases z4:i + k + 1=a.size
       ·refine wpS_iteT (by simpa using z4) ?_
        exact wpS_pure (.inl ⟨_,_,rfl,fin2 e4 m6 z4⟩)
       ·refine wpS_iteF (by simpa using z4) ?_;refine wpS_iteF (by simp;omega) ?_
        exact hJ (_,_) ⟨m6,rfl,by dsimp only;omega⟩
      ·refine wpS_iteF z3 ?_
       obtain rfl:k=0:=by first | omega | ((try dsimp only);omega)
       exact hJ (_,_) ⟨m3,rfl,by dsimp only;omega⟩
    ·rintro c st3 ⟨out,i2,j2,g,p,q,rfl,e3,m3,hi2,hj2,hc2⟩
     exfalso
     omega
    ·rintro c st3 (⟨r,q,rfl,hq⟩ | ⟨out,i2,j2,g,p,q,rfl,e3,m3,hi2,hj2,hc2⟩)
     ·try conv=>arg 5;dsimp -zeta only
      exact wpS_pure ⟨_,_,rfl,hq⟩
     ·try conv=>arg 5;dsimp -zeta only
      refine wpS_bind (wpS_setGallop e3 fun st4 e4=>?_)
      exact wpS_pure ⟨_,_,_,_,rfl,e4,m3,hi2,hj2,by first | omega | ((try dsimp only);omega)⟩
 ·rintro c st1 ⟨out,i,j,g,rfl,e1,m1,hi,hj,hc⟩
  exfalso
  omega
 ·rintro c st1 ⟨r,q,rfl,hq⟩
  exact wpS_pure hq
end
end L2
end
section
set_option Elab.async false
set_option linter.all false
set_option maxRecDepth 100000
set_option maxHeartbeats 2000000
namespace L2
open PySem PySem.Spec PyProof.Rows
section
variable {prog:Program} {w:World} {A:Around} {E:Value→Shared→Prop} {s:Shared} {κ:PyProof.Rows.KeyKind}
structure MgH (κ:PyProof.Rows.KeyKind) (a b out:Array Keyed) (n m:Nat):Prop where
 na:n≤a.size
 mb:m≤b.size
 mg:Mg (fun x y=>kL κ y x) b.toList.reverse a.toList.reverse out.toList (b.size - m) (a.size - n)
theorem up_rev {a:Array Keyed} (h:a.toList.Pairwise (kL κ)):a.toList.reverse.Pairwise (fun x y=>kL κ y x):=by
 rw [List.pairwise_reverse];exact h
theorem drop_rev {a:Array Keyed} {n:Nat} (h:n≤a.size):a.toList.reverse.drop (a.size - n)=(a.toList.take n).reverse:=by
 rw [List.drop_reverse]
 congr 2
 simp;omega
theorem dr_rev {a:Array Keyed} {n:Nat} (hn:n≤a.size) {y:Keyed} (h:y∈a.toList.reverse.drop (a.size - n)):∃ u,∃ (hu:u < a.size),u < n∧a[u]=y:=by
 rw [drop_rev hn,List.mem_reverse] at h
 obtain ⟨t,ht,e⟩:=List.mem_iff_getElem.mp h
 have ht':t < n:=by have:=ht;simp at this;omega
 exact ⟨t,by omega,ht',by rw [← e];simp⟩
theorem at_rev {a:Array Keyed} {n:Nat} (h0:0 < n) (hn:n≤a.size):∃ h:a.size - n < a.toList.reverse.length,a.toList.reverse[a.size - n]=a[n - 1]:=by
 refine ⟨by simp;omega,?_⟩
 rw [List.getElem_reverse]
 simp only [Array.getElem_toList,Array.length_toList]
 congr 1
 omega
theorem MgH.pushA {a b out:Array Keyed} {n m:Nat} (g:MgH κ a b out n m) (ha:a.toList.Pairwise (kL κ)) (h0:0 < n) (hl:n - 1 < a.size) (h:∀ u (hu:u < b.size),u < m→κ.kle (kf κ b[u]) (kf κ a[n - 1])):MgH κ a b (out.push a[n - 1]) (n - 1) m:=by
 obtain ⟨h1,e1⟩:=at_rev h0 g.na
 have:=g.mg.pushB (up_rev ha) h1 fun y hy=>by
  obtain ⟨u,hu,h2,rfl⟩:=dr_rev g.mb hy
  rw [e1];exact h u hu h2
 rw [e1] at this
 have hn:=g.na
 refine ⟨by omega,g.mb,?_⟩
 rw [show a.size - (n - 1)=a.size - n + 1 by omega]
 simpa using this
theorem MgH.pushB {a b out:Array Keyed} {n m:Nat} (g:MgH κ a b out n m) (hb:b.toList.Pairwise (kL κ)) (h0:0 < m) (hl:m - 1 < b.size) (h:∀ u (hu:u < a.size),u < n→κ.kle (kf κ a[u]) (kf κ b[m - 1])):MgH κ a b (out.push b[m - 1]) n (m - 1):=by
 obtain ⟨h1,e1⟩:=at_rev h0 g.mb
 have:=g.mg.pushA (up_rev hb) h1 fun y hy=>by
  obtain ⟨u,hu,h2,rfl⟩:=dr_rev g.na hy
  rw [e1];exact h u hu h2
 rw [e1] at this
 have hm:=g.mb
 refine ⟨g.na,by omega,?_⟩
 rw [show b.size - (m - 1)=b.size - m + 1 by omega]
 simpa using this
theorem MgH.blockA {a b:Array Keyed} {m:Nat} (ha:a.toList.Pairwise (kL κ)):∀ (k:Nat) {out:Array Keyed} {n:Nat},MgH κ a b out n m→k≤n→(∀ t (ht:t < a.size),n - k≤t→t < n→∀ u (hu:u < b.size),u < m→κ.kle (kf κ b[u]) (kf κ a[t]))→MgH κ a b (out ++ (a.extract (n - k) n).reverse) (n - k) m
 | 0,out,n,g,_,_=>by
  have e:(a.extract (n - 0) n).reverse=#[]:=by simp;omega
  rw [e];simpa using g
 | k + 1,out,n,g,hk,h=>by
  have hn:=g.na
  have g2:=MgH.blockA ha k (g.pushA ha (by omega) (by omega) (h (n - 1) (by omega) (by omega) (by omega))) (by omega) fun t ht h1 h2=>h t ht (by omega) (by omega)
  have e:out ++ (a.extract (n - (k + 1)) n).reverse=out.push a[n - 1] ++ (a.extract (n - 1 - k) (n - 1)).reverse:=by
   apply Array.toList_inj.mp
   rw [Array.toList_append,Array.toList_append,Array.toList_push,List.append_assoc]
   congr 1
   rw [Array.toList_reverse,Array.toList_reverse,show n - 1 - k=n - (k + 1) by omega]
   have e2:a.extract (n - (k + 1)) n=(a.extract (n - (k + 1)) (n - 1)).push a[n - 1]:=by
    apply Array.ext
    ·simp;omega
    ·intro i h1 h2
     simp at h1 h2
     rw [Array.getElem_push]
     split
     ·simp
     ·rename_i z
      simp at z
      simp
      congr 1
      omega
   rw [e2,Array.toList_push,List.reverse_append];rfl
  rw [e,show n - (k + 1)=n - 1 - k by omega]
  exact g2
theorem MgH.blockB {a b:Array Keyed} {n:Nat} (hb:b.toList.Pairwise (kL κ)):∀ (k:Nat) {out:Array Keyed} {m:Nat},MgH κ a b out n m→k≤m→(∀ t (ht:t < b.size),m - k≤t→t < m→∀ u (hu:u < a.size),u < n→κ.kle (kf κ a[u]) (kf κ b[t]))→MgH κ a b (out ++ (b.extract (m - k) m).reverse) n (m - k)
 | 0,out,m,g,_,_=>by
  have e:(b.extract (m - 0) m).reverse=#[]:=by simp;omega
  rw [e];simpa using g
 | k + 1,out,m,g,hk,h=>by
  have hm:=g.mb
  have g2:=MgH.blockB hb k (g.pushB hb (by omega) (by omega) (h (m - 1) (by omega) (by omega) (by omega))) (by omega) fun t ht h1 h2=>h t ht (by omega) (by omega)
  have e:out ++ (b.extract (m - (k + 1)) m).reverse=out.push b[m - 1] ++ (b.extract (m - 1 - k) (m - 1)).reverse:=by
   apply Array.toList_inj.mp
   rw [Array.toList_append,Array.toList_append,Array.toList_push,List.append_assoc]
   congr 1
   rw [Array.toList_reverse,Array.toList_reverse,show m - 1 - k=m - (k + 1) by omega]
   have e2:b.extract (m - (k + 1)) m=(b.extract (m - (k + 1)) (m - 1)).push b[m - 1]:=by
    apply Array.ext
    ·simp;omega
    ·intro i h1 h2
     simp at h1 h2
     rw [Array.getElem_push]
     split
     ·simp
     ·rename_i z
      simp at z
      simp
      congr 1
      omega
   rw [e2,Array.toList_push,List.reverse_append];rfl
  rw [e,show m - (k + 1)=m - 1 - k by omega]
  exact g2
theorem fin_rev {a b r:Array Keyed} (h:Fin2 (fun x y=>kL κ y x) b.toList.reverse a.toList.reverse r.toList.reverse):Fin2 (kL κ) a.toList b.toList r.toList:=by
 refine ⟨?_,List.pairwise_reverse.mp h.2⟩
 refine (List.reverse_perm r.toList).symm.trans (h.1.trans ?_)
 rw [← List.reverse_append]
 exact List.reverse_perm _
theorem MgH.done {a b out:Array Keyed} {n m:Nat} (g:MgH κ a b out n m) (ha:a.toList.Pairwise (kL κ)) (hb:b.toList.Pairwise (kL κ)) (h:n=0∨m=0):Fin2 (kL κ) a.toList b.toList (a.extract 0 n ++ b.extract 0 m ++ out.reverse).toList:=by
 refine fin_rev ?_
 have:=g.mg.done (up_rev hb) (up_rev ha) (by simp;omega)
 rw [drop_rev g.na,drop_rev g.mb] at this
 simpa using this
theorem MgH.firstB {a b out:Array Keyed} {n m:Nat} (g:MgH κ a b out n m) (ha:a.toList.Pairwise (kL κ)) (hb:b.toList.Pairwise (kL κ)) (h:∀ u (hu:u < b.size),u < m→∀ t (ht:t < a.size),t < n→κ.kle (kf κ b[u]) (kf κ a[t])):Fin2 (kL κ) a.toList b.toList (b.extract 0 m ++ a.extract 0 n ++ out.reverse).toList:=by
 refine fin_rev ?_
 have:=g.mg.lastA (up_rev hb) (up_rev ha) fun x hx y hy=>by
  obtain ⟨t,ht,h2,rfl⟩:=dr_rev g.na hx
  obtain ⟨u,hu,h1,rfl⟩:=dr_rev g.mb hy
  exact h u hu h1 t ht h2
 rw [drop_rev g.na,drop_rev g.mb] at this
 simpa using this
theorem MgH.zero {a b:Array Keyed}:MgH κ a b #[] a.size b.size:=⟨Nat.le_refl _,Nat.le_refl _,by rw [Nat.sub_self,Nat.sub_self];exact Mg.zero⟩
theorem wpS_mergeHi {a b:Array Keyed} {st:SortSt} {Q:Array Keyed→SortSt→Prop} (hO:κ.OneLt) (hk:kindOf st=oneType') (hka:KeysOf κ a) (hkb:KeysOf κ b) (ha:a.toList.Pairwise (kL κ)) (hb:b.toList.Pairwise (kL κ)) (a0:0 < a.size) (b0:0 < b.size)
  (hlo:κ.klt (kf κ b[0]) (kf κ a[0])) (hhi:∀ j (hj:j < b.size),κ.kle (kf κ b[j]) (kf κ a[a.size - 1]))
  (h:∀ r st',Fin2 (kL κ) a.toList b.toList r.toList→StL st st'→Q r st') :
  wpS (model prog w) A E s ((sortPriv% PySem.Builtin.mergeHi) a b) Q st:=by
 have hlow:∀ t (ht:t < a.size),κ.klt (kf κ b[0]) (kf κ a[t]):=fun t ht=>KeyOrd.klt_of_klt_of_kle hlo (up_at ha (Nat.zero_le _) ht)
 have fin1:∀ {out:Array Keyed} {n m:Nat} {st':SortSt},StL st st'→MgH κ a b out n m→(n=0∨m=0)→Q (a.extract 0 n ++ b.extract 0 m ++ out.reverse) st':=fun {out n m st'} e g z=>h _ _ (g.done ha hb z) e
 have fin2:∀ {out:Array Keyed} {n m:Nat} {st':SortSt},StL st st'→MgH κ a b out n m→m=1→Q (b.extract 0 m ++ a.extract 0 n ++ out.reverse) st':=fun {out n m st'} e g z=>h _ _ (g.firstB ha hb fun u hu h1 t ht h2=>by
  obtain rfl:u=0:=by first | omega | ((try dsimp only);omega)
  exact KeyOrd.kle_of_klt (hlow t ht)) e
 show wpS _ _ _ _ (_ >>= _) _ _
 refine wpS_bind (wpS_lift (wpAny_rule ⟨rfl,?_⟩))
 skip
 try conv=>arg 5;dsimp -zeta only
 refine wpS_bind (wpS_elem (show a.size - 1 < a.size by first | omega | ((try dsimp only);omega)) ?_)
 have m0:MgH κ a b (#[a[a.size - 1]]:Array Keyed) (a.size - 1) b.size:=by
  have:=MgH.pushA (MgH.zero (κ:=κ) (a:=a) (b:=b)) ha a0 (by first | omega | ((try dsimp only);omega)) fun u hu _=>hhi u hu
  simpa using this
 try conv=>arg 5;dsimp -zeta only
 by_cases z1:a.size - 1=0
 ·refine wpS_iteT (by simpa using z1) ?_
  exact wpS_pure (fin1 (StL.refl _) m0 (.inl z1))
 refine wpS_iteF (by simpa using z1) ?_
 by_cases z2:b.size=1
 ·refine wpS_iteT (by simpa using z2) ?_
  exact wpS_pure (fin2 (StL.refl _) m0 z2)
 refine wpS_iteF (by simpa using z2) ?_
 refine wpS_bind (wpS_get ?_)
 try conv=>arg 5;dsimp -zeta only
 refine wpS_bind (wpS_mono (wpS_forRange (I:=fun (x:Nat) (c:Option (Array Keyed) × Nat × Nat × Array Keyed × Nat) (st':SortSt)=>∃ n m out g,c=(none,n,m,out,g)∧StL st st'∧MgH κ a b out n m∧1≤n∧2≤m∧n + m + x + 1≤a.size + b.size)
  (Q:=fun (c:Option (Array Keyed) × Nat × Nat × Array Keyed × Nat) (st':SortSt)=>∃ r q,c=(some r,q)∧Q r st') ?_ ?_ ⟨_,_,_,_,rfl,StL.refl _,m0,by first | omega | ((try dsimp only);omega),by first | omega | ((try dsimp only);omega),by first | omega | ((try dsimp only);omega)⟩) ?_)
 ·rintro x c st1 _ hx ⟨n,m,out,g,rfl,e1,m1,hn,hm,hc⟩
  try conv=>arg 5;dsimp -zeta only
  refine wpS_bind (wpS_mono (wpS_forRange (I:=fun (y:Nat) (c:Option (Array Keyed) × Nat × Nat × Array Keyed × Nat × Nat) (st':SortSt)=>∃ n' m' out p q,c=(none,n',m',out,p,q)∧StL st st'∧MgH κ a b out n' m'∧1≤n'∧2≤m'∧n' + m' + y≤n + m)
   (Q:=fun (c:Option (Array Keyed) × Nat × Nat × Array Keyed × Nat × Nat) (st':SortSt)=>(∃ r q,c=(some r,q)∧Q r st')∨∃ n' m' out p q,c=(none,n',m',out,p,q)∧StL st st'∧MgH κ a b out n' m'∧1≤n'∧2≤m'∧n' + m' + 1≤n + m) ?_ ?_ ⟨_,_,_,_,_,rfl,e1,m1,hn,hm,by first | omega | ((try dsimp only);omega)⟩) ?_)
  ·rintro y c st2 _ hy ⟨n,m,out,p,q,rfl,e2,m2,hn,hm,hc⟩
   have hna:=m2.na
   have hmb:=m2.mb
   have ln:n - 1 < a.size:=by first | omega | ((try dsimp only);omega)
   have lm:m - 1 < b.size:=by first | omega | ((try dsimp only);omega)
   try conv=>arg 5;dsimp -zeta only
   refine wpS_bind (wpS_elem lm (wpS_bind (wpS_elem ln ?_)))
   refine wpS_bind (wpS_lt hO (by rw [e2.kind];exact hk) (key_kf hkb lm) (key_kf hka ln) ?_)
   try conv=>arg 5;dsimp -zeta only
   cases e:κ.blt (kf κ b[m - 1]) (kf κ a[n - 1]) with
   | true=>
    refine wpS_iteT rfl ?_
    try conv=>arg 5;dsimp -zeta only
    refine wpS_bind (wpS_elem ln ?_)
    try conv=>arg 5;dsimp -zeta only
    have m3:=m2.pushA ha (by first | omega | ((try dsimp only);omega)) ln fun u hu h1=>KeyOrd.kle_trans (up_at hb (show u≤m - 1 by first | omega | ((try dsimp only);omega)) lm) (KeyOrd.kle_of_klt e)
    by_cases z:n - 1=0
    ·refine wpS_iteT (by simpa using z) ?_
     exact wpS_pure (.inl ⟨_,_,rfl,fin1 e2 m3 (.inl z)⟩)
    ·refine wpS_iteF (by simpa using z) ?_
     by_cases z':p + 1≥g
     ·refine wpS_iteT z' ?_
      exact wpS_pure (.inr ⟨_,_,_,_,_,rfl,e2,m3,by first | omega | ((try dsimp only);omega),hm,by first | omega | ((try dsimp only);omega)⟩)
     ·refine wpS_iteF z' ?_
      exact wpS_pure ⟨_,_,_,_,_,rfl,e2,m3,by first | omega | ((try dsimp only);omega),hm,by first | omega | ((try dsimp only);omega)⟩
   | false=>
    refine wpS_iteF (by simp) ?_
    try conv=>arg 5;dsimp -zeta only
    refine wpS_bind (wpS_elem lm ?_)
    try conv=>arg 5;dsimp -zeta only
    have m3:=m2.pushB hb (by first | omega | ((try dsimp only);omega)) lm fun u hu h1=>KeyOrd.kle_trans (up_at ha (show u≤n - 1 by first | omega | ((try dsimp only);omega)) ln) (show κ.kle _ _ from e)
    by_cases z:m - 1=1
    ·refine wpS_iteT (by simpa using z) ?_
     exact wpS_pure (.inl ⟨_,_,rfl,fin2 e2 m3 z⟩)
    ·refine wpS_iteF (by simpa using z) ?_
     by_cases z':q + 1≥g
     ·refine wpS_iteT z' ?_
      exact wpS_pure (.inr ⟨_,_,_,_,_,rfl,e2,m3,hn,by first | omega | ((try dsimp only);omega),by first | omega | ((try dsimp only);omega)⟩)
     ·refine wpS_iteF z' ?_
      exact wpS_pure ⟨_,_,_,_,_,rfl,e2,m3,hn,by first | omega | ((try dsimp only);omega),by first | omega | ((try dsimp only);omega)⟩
  ·rintro c st2 ⟨n',m',out,p,q,rfl,e2,m2,hn',hm',hc'⟩
   exfalso
   omega
  ·rintro c st2 (⟨r,q,rfl,hq⟩ | ⟨n',m',out,p,q,rfl,e2,m2,hn',hm',hc'⟩)
   ·try conv=>arg 5;dsimp -zeta only
    exact wpS_pure ⟨_,_,rfl,hq⟩
   ·try conv=>arg 5;dsimp -zeta only
    refine wpS_bind (wpS_lift (wpAny_rule ⟨rfl,?_⟩))
    try conv=>arg 5;dsimp -zeta only
    refine wpS_bind (wpS_mono (wpS_forRange (I:=fun (y:Nat) (c:Option (Array Keyed) × Nat × Nat × Array Keyed × Nat × Nat × Nat) (st':SortSt)=>∃ n2 m2 out g p q,c=(none,n2,m2,out,g,p,q)∧StL st st'∧MgH κ a b out n2 m2∧1≤n2∧2≤m2∧n2 + m2 + y≤n' + m')
     (Q:=fun (c:Option (Array Keyed) × Nat × Nat × Array Keyed × Nat × Nat × Nat) (st':SortSt)=>(∃ r q,c=(some r,q)∧Q r st')∨∃ n2 m2 out g p q,c=(none,n2,m2,out,g,p,q)∧StL st st'∧MgH κ a b out n2 m2∧1≤n2∧2≤m2∧n2 + m2≤n' + m') ?_ ?_ ⟨_,_,_,_,_,_,rfl,e2,m2,hn',hm',by first | omega | ((try dsimp only);omega)⟩) ?_)
    ·rintro y c st3 _ hy ⟨n,m,out,g,p,q,rfl,e3,m3,hn,hm,hc⟩
     have hna:=m3.na
     have hmb:=m3.mb
     have ln:n - 1 < a.size:=by first | omega | ((try dsimp only);omega)
     have lm:m - 1 < b.size:=by first | omega | ((try dsimp only);omega)
     try conv=>arg 5;dsimp -zeta only
     extract_lets -underBinder +onlyGivenNames l1 l2 l3 l4 l5 l6 l7 l8 l9 l10 l11 jp1
     have q4:l2=n:=rfl
     have q4b:l1.fst=n:=rfl
     have q6:l4=m:=rfl
     have q6b:l3.fst=m:=rfl
     have q8:l8=g:=rfl
     have q8b:l7.fst=g:=rfl
     refine wpS_jp (J:=fun g':Nat=>jp1 () g') (C:=fun _=>True) (fun g' _=>?_) (fun hJ=>?_)
     rotate_left
     ·by_cases z:g > 1
      ·refine wpS_iteT z ?_
       exact hJ (g - 1) trivial
      ·refine wpS_iteF z ?_
       exact hJ g trivial
     try conv=>arg 5;dsimp -zeta only
     refine wpS_bind (wpS_setGallop e3 fun st4 e4=>?_)
     refine wpS_bind (wpS_elem lm ?_)
     refine wpS_bind (wpS_gallop hO (by rw [e4.kind];exact hk) (key_kf hkb lm) hka (by first | omega | ((try dsimp only);omega)) (by first | omega | ((try dsimp only);omega)) (mono_f ha (by first | omega | ((try dsimp only);omega))) fun k hk1 hk2 hk3=>?_)
     have kA:∀ t (ht:t < a.size),t < k→κ.kle (kf κ a[t]) (kf κ b[m - 1]):=fun t ht h1=>by
      have:=hk2 t h1
      rw [Nat.zero_add,bey_f ht] at this
      exact this
     have kB:∀ t (ht:t < a.size),k≤t→t < n→κ.klt (kf κ b[m - 1]) (kf κ a[t]):=fun t ht h1 h2=>by
      have:=hk3 t h1 h2
      rw [Nat.zero_add,bey_f' ht] at this
      exact this
     try conv=>arg 5;dsimp -zeta only
     extract_lets -underBinder +onlyGivenNames kx ac jp2
     have q10:kx=n - k:=rfl
     have q11:ac=n - k:=rfl
     refine wpS_jp (J:=fun o:Nat × Array Keyed=>jp2 () o.1 o.2) (C:=fun o=>MgH κ a b o.2 o.1 m∧o.1=k∧1≤o.1) (fun o ho=>?_) (fun hJ=>?_)
     ·obtain ⟨o1,o2⟩:=o
      obtain ⟨mo,eo,ho3⟩:=ho
      have eo:o1=k:=eo
      subst eo
      have mo:MgH κ a b o2 o1 m:=mo
      have ho3:1≤o1:=ho3
      have lk:o1 - 1 < a.size:=by first | omega | ((try dsimp only);omega)
      try conv=>arg 5;dsimp -zeta only
      try conv=>arg 5;dsimp -zeta only
      refine wpS_bind (wpS_elem lm ?_)
      try conv=>arg 5;dsimp -zeta only
      have m5:=mo.pushB hb (by first | omega | ((try dsimp only);omega)) lm fun u hu h1=>kA u hu h1
      by_cases z:m - 1=1
      ·refine wpS_iteT (by simpa using z) ?_
       exact wpS_pure (.inl ⟨_,_,rfl,fin2 e4 m5 z⟩)
      refine wpS_iteF (by simpa using z) ?_
      refine wpS_bind (wpS_elem lk ?_)
      refine wpS_bind (wpS_gallop hO (by rw [e4.kind];exact hk) (key_kf hka lk) hkb (by first | omega | ((try dsimp only);omega)) (by first | omega | ((try dsimp only);omega)) (mono_t hb (by first | omega | ((try dsimp only);omega))) fun k2 h1 h2 h3=>?_)
      have lb:∀ t (ht:t < b.size),t < k2→κ.klt (kf κ b[t]) (kf κ a[o1 - 1]):=fun t ht q1=>by
       have:=h2 t q1
       rw [Nat.zero_add,bey_t ht] at this
       exact this
      have la:∀ t (ht:t < b.size),k2≤t→t < m - 1→κ.kle (kf κ a[o1 - 1]) (kf κ b[t]):=fun t ht q1 q2=>by
       have:=h3 t q1 q2
       rw [Nat.zero_add,bey_t' ht] at this
       exact this
      have k20:0 < k2:=by
       rcases Nat.eq_zero_or_pos k2 with z | z
       ·have h4:=la 0 b0 (by first | omega | ((try dsimp only);omega)) (by first | omega | ((try dsimp only);omega))
        exact absurd (hlow (o1 - 1) lk) (KeyOrd.not_klt_of_kle h4)
       ·exact z
      try conv=>arg 5;dsimp -zeta only
      extract_lets -underBinder +onlyGivenNames ky bc jp3
      refine wpS_jp (J:=fun o:Nat × Array Keyed=>jp3 () o.1 o.2) (C:=fun o=>MgH κ a b o.2 o1 o.1∧o.1=k2∧2≤o.1) (fun o ho=>?_) (fun hJ=>?_)
      ·obtain ⟨p1,p2⟩:=o
       obtain ⟨mo,eo,hp3⟩:=ho
       have eo:p1=k2:=eo
       subst eo
       have mo:MgH κ a b p2 o1 p1:=mo
       have hp3:2≤p1:=hp3
       try conv=>arg 5;dsimp -zeta only
       try conv=>arg 5;dsimp -zeta only
       refine wpS_bind (wpS_elem lk ?_)
       try conv=>arg 5;dsimp -zeta only
       have m6:=mo.pushA ha (by first | omega | ((try dsimp only);omega)) lk fun u hu h1=>KeyOrd.kle_of_klt (lb u hu h1)
       by_cases z:o1 - 1=0
       ·refine wpS_iteT (by simpa using z) ?_
        exact wpS_pure (.inl ⟨_,_,rfl,fin1 e4 m6 (.inl z)⟩)
       refine wpS_iteF (by simpa using z) ?_
       by_cases z':(decide (n - o1 < 7) && decide (m - 1 - p1 < 7))=true
       ·refine wpS_iteT z' ?_
        exact wpS_pure (.inr ⟨_,_,_,_,_,_,rfl,e4,m6,by first | omega | ((try dsimp only);omega),hp3,by first | omega | ((try dsimp only);omega)⟩)
       ·refine wpS_iteF z' ?_
        exact wpS_pure ⟨_,_,_,_,_,_,rfl,e4,m6,by first | omega | ((try dsimp only);omega),hp3,by first | omega | ((try dsimp only);omega)⟩
      ·by_cases z3:m - 1 - k2 > 0
       ·refine wpS_iteT z3 ?_
        try conv=>arg 5;dsimp -zeta only
        have m6:=MgH.blockB hb (m - 1 - k2) m5 (by first | omega | ((try dsimp only);omega)) fun t ht q1 q2 u hu q3=>KeyOrd.kle_trans (up_at ha (show u≤o1 - 1 by first | omega | ((try dsimp only);omega)) lk) (la t ht (by first | omega | ((try dsimp only);omega)) (by first | omega | ((try dsimp only);omega)))
        rw [show m - 1 - (m - 1 - k2)=k2 by first | omega | ((try dsimp only);omega)] at m6
        by_cases z4:k2=1
        ·refine wpS_iteT (by simpa using z4) ?_
         exact wpS_pure (.inl ⟨_,_,rfl,fin2 e4 m6 z4⟩)
        ·refine wpS_iteF (by simpa using z4) ?_;refine wpS_iteF (by simp;omega) ?_
         exact hJ (_,_) ⟨m6,rfl,by dsimp only;omega⟩
       ·refine wpS_iteF z3 ?_
        obtain rfl:k2=m - 1:=by first | omega | ((try dsimp only);omega)
        exact hJ (_,_) ⟨m5,rfl,by dsimp only;omega⟩
     ·by_cases z3:n - k > 0
      ·refine wpS_iteT z3 ?_
       try conv=>arg 5;dsimp -zeta only
       have m6:=MgH.blockA ha (n - k) m3 (by first | omega | ((try dsimp only);omega)) fun t ht q1 q2 u hu q3=>KeyOrd.kle_trans (up_at hb (show u≤m - 1 by first | omega | ((try dsimp only);omega)) lm) (KeyOrd.kle_of_klt (kB t ht (by first | omega | ((try dsimp only);omega)) q2))
       rw [show n - (n - k)=k by first | omega | ((try dsimp only);omega)] at m6
       by_cases z4:k=0
       ·refine wpS_iteT (by simpa using z4) ?_
        exact wpS_pure (.inl ⟨_,_,rfl,fin1 e4 m6 (.inl z4)⟩)
       ·refine wpS_iteF (by simpa using z4) ?_
        exact hJ (_,_) ⟨m6,rfl,by dsimp only;omega⟩
      ·refine wpS_iteF z3 ?_
       obtain rfl:k=n:=by first | omega | ((try dsimp only);omega)
       exact hJ (_,_) ⟨m3,rfl,by dsimp only;omega⟩
    ·rintro c st3 ⟨n2,m2',out,g,p,q,rfl,e3,m3,hn2,hm2,hc2⟩
     exfalso
     omega
    ·rintro c st3 (⟨r,q,rfl,hq⟩ | ⟨n2,m2',out,g,p,q,rfl,e3,m3,hn2,hm2,hc2⟩)
     ·try conv=>arg 5;dsimp -zeta only
      exact wpS_pure ⟨_,_,rfl,hq⟩
     ·try conv=>arg 5;dsimp -zeta only
      refine wpS_bind (wpS_setGallop e3 fun st4 e4=>?_)
      exact wpS_pure ⟨_,_,_,_,rfl,e4,m3,hn2,hm2,by first | omega | ((try dsimp only);omega)⟩
 ·rintro c st1 ⟨n,m,out,g,rfl,e1,m1,hn,hm,hc⟩
  exfalso
  omega
 ·rintro c st1 ⟨r,q,rfl,hq⟩
  exact wpS_pure hq
end
end L2
end
section
set_option Elab.async false
set_option linter.all false
set_option maxRecDepth 100000
set_option maxHeartbeats 2000000
namespace L2
open PySem PySem.Spec PyProof.Rows
section
variable {prog:Program} {w:World} {A:Around} {E:Value→Shared→Prop} {s:Shared} {κ:PyProof.Rows.KeyKind}
theorem wpS_set {σ:Type} {M:Model} {x:σ} {Q:PUnit→σ→Prop} {st:σ} (h:Q ⟨⟩ x):wpS M A E s (set x:StateT σ Sem PUnit) Q st:=by
 unfold wpS;rw [StateT.run_set];exact wpAny_pure ⟨rfl,h⟩
theorem fold_set:∀ (m:List Keyed) (n:Nat) (o:Nat) (P X S:List Keyed) (arr:Array Keyed),arr.toList=P ++ (X ++ S)→X.length=m.length→P.length=o + n→((m.zipIdx n).foldl (fun a (x:Keyed × Nat)=>a.setIfInBounds (o + x.2) x.1) arr).toList=P ++ (m ++ S)
 | [],n,o,P,X,S,arr,e,h,_=>by
  obtain rfl:X=[]:=List.length_eq_zero_iff.mp h
  simpa using e
 | y :: m,n,o,P,X,S,arr,e,h,hp=>by
  obtain ⟨x,X',rfl⟩:∃ x X',X=x :: X':=by
   cases X with
   | nil=>simp at h
   | cons x X'=>exact ⟨x,X',rfl⟩
  rw [List.zipIdx_cons,List.foldl_cons]
  have e2:(arr.setIfInBounds (o + n) y).toList=(P ++ [y]) ++ (X' ++ S):=by
   rw [Array.toList_setIfInBounds,e,← hp,List.set_append_right _ _ (Nat.le_refl _),Nat.sub_self]
   simp
  have:=fold_set m (n + 1) o (P ++ [y]) X' S (arr.setIfInBounds (o + n) y) e2 (by simpa using h) (by simp;omega)
  simpa using this
theorem seg_at {arr:Array Keyed} {P X S:List Keyed} (e:arr.toList=P ++ (X ++ S)) {t:Nat} (ht:t < X.length):∃ h:P.length + t < arr.size,arr[P.length + t]=X[t]:=by
 have hl:arr.size=P.length + (X.length + S.length):=by rw [← Array.length_toList,e];simp
 refine ⟨by omega,?_⟩
 have h1:arr.toList[P.length + t]?=some X[t]:=by
  rw [e,List.getElem?_append_right (by omega),Nat.add_sub_cancel_left,List.getElem?_append_left ht,List.getElem?_eq_getElem ht]
 rw [Array.getElem?_toList,Array.getElem?_eq_getElem (by omega)] at h1
 exact Option.some.inj h1
theorem seg_up {X:List Keyed} (h:X.Pairwise (kL κ)) {i j:Nat} (hij:i≤j) (hj:j < X.length):κ.kle (kf κ X[i]) (kf κ X[j]):=by
 rcases Nat.eq_or_lt_of_le hij with z | z
 ·subst z;exact KeyOrd.kle_refl _
 ·exact (List.pairwise_iff_getElem.mp h) i j (by omega) hj z
theorem wpS_mergeAt {i sa na p1 sb nb p2:Nat} {st:SortSt} {Pl X Y Sl:List Keyed} {Q:Bool→SortSt→Prop} (hO:κ.OneLt) (hk:kindOf st=oneType') (hf:failedOf st=none) (hks:KeysOf κ (arrOf st))
  (h1:(pendingOf st)[i]?=some (sa,na,p1)) (h2:(pendingOf st)[i + 1]?=some (sb,nb,p2)) (e:(arrOf st).toList=Pl ++ (X ++ (Y ++ Sl))) (lP:Pl.length=sa) (lX:X.length=na) (lY:Y.length=nb) (hsb:sb=sa + na) (x0:0 < na) (y0:0 < nb) (uX:X.Pairwise (kL κ)) (uY:Y.Pairwise (kL κ))
  (h:∀ st' Z,kindOf st'=kindOf st→failedOf st'=none→pendingOf st'=((pendingOf st).setIfInBounds i (sa,na + nb,p1)).eraseIdxIfInBounds (i + 1)→(arrOf st').toList=Pl ++ (Z ++ Sl)→Z.Perm (X ++ Y)→Z.Pairwise (kL κ)→Q true st') :
  wpS (model prog w) A E s ((sortPriv% PySem.Builtin.mergeAt) i) Q st:=by
 subst hsb lP lX lY
 have e':(arrOf st).toList=(Pl ++ X) ++ (Y ++ Sl):=by rw [e];simp
 have gX:∀ {t},(ht:t < X.length)→∃ h:Pl.length + t < (arrOf st).size,(arrOf st)[Pl.length + t]=X[t]:=fun ht=>seg_at e ht
 have gY:∀ {t},(ht:t < Y.length)→∃ h:Pl.length + X.length + t < (arrOf st).size,(arrOf st)[Pl.length + X.length + t]=Y[t]:=fun ht=>by
  have:=seg_at e' ht
  rw [List.length_append] at this
  exact this
 have hsz:(arrOf st).size=Pl.length + (X.length + (Y.length + Sl.length)):=by rw [← Array.length_toList,e];simp
 obtain ⟨hy0,ey0⟩:=gY y0
 rw [Nat.add_zero] at hy0
 have ey0':(arrOf st)[Pl.length + X.length]=Y[0]:=ey0
 show wpS _ _ _ _ (_ >>= _) _ _
 refine wpS_bind (wpS_get ?_)
 rw [h1,h2]
 try conv=>arg 5;dsimp -zeta only
 refine wpS_bind (wpS_set ?_)
 refine wpS_bind (wpS_elem hy0 ?_)
 refine wpS_bind (wpS_gallop hO hk (key_kf hks hy0) hks x0 (show Pl.length + X.length≤(arrOf st).size by omega) ?_ fun k hk1 hk2 hk3=>?_)
 ·intro p q hpq hq hb
  obtain ⟨g1,g2⟩:=gX hq
  obtain ⟨g3,g4⟩:=gX (show p < X.length by omega)
  rw [bey_f g1,g2] at hb
  rw [bey_f g3,g4]
  exact KeyOrd.kle_trans (seg_up uX hpq hq) hb
 rw [ey0'] at hk2 hk3
 have kA:∀ x∈X.take k,κ.kle (kf κ x) (kf κ Y[0]):=fun x hx=>by
  obtain ⟨t,ht,rfl⟩:=List.mem_iff_getElem.mp hx
  have ht':t < k:=by simp at ht;omega
  obtain ⟨g1,g2⟩:=gX (show t < X.length by omega)
  have:=hk2 t ht'
  rw [bey_f g1,g2] at this
  simpa using this
 have kB:∀ x∈X.drop k,κ.klt (kf κ Y[0]) (kf κ x):=fun x hx=>by
  obtain ⟨t,ht,rfl⟩:=List.mem_iff_getElem.mp hx
  have ht':k + t < X.length:=by simp at ht;omega
  obtain ⟨g1,g2⟩:=gX ht'
  have:=hk3 (k + t) (by omega) ht'
  rw [bey_f' g1,g2] at this
  simpa using this
 have yl:∀ y∈Y,κ.kle (kf κ Y[0]) (kf κ y):=fun y hy=>by
  obtain ⟨t,ht,rfl⟩:=List.mem_iff_getElem.mp hy
  exact seg_up uY (Nat.zero_le _) ht
 try conv=>arg 5;dsimp -zeta only
 by_cases z1:X.length - k=0
 ·refine wpS_iteT (by simpa using z1) ?_
  refine wpS_pure (h _ (X ++ Y) rfl hf rfl (by rw [List.append_assoc];exact e) (List.Perm.refl _) ?_)
  rw [List.pairwise_append]
  refine ⟨uX,uY,fun x hx y hy=>?_⟩
  have:X.take k=X:=List.take_of_length_le (by omega)
  exact KeyOrd.kle_trans (kA x (by rw [this];exact hx)) (yl y hy)
 refine wpS_iteF (by simpa using z1) ?_
 have hkx:k < X.length:=by omega
 have el:Pl.length + k + (X.length - k) - 1=Pl.length + (X.length - 1):=by omega
 obtain ⟨hl0,hl1⟩:=gX (show X.length - 1 < X.length by omega)
 have hel:Pl.length + k + (X.length - k) - 1 < (arrOf st).size:=by omega
 have ex:(arrOf st)[Pl.length + k + (X.length - k) - 1]=X[X.length - 1]:=by
  rw [← hl1]
  congr 1
 have lastX:∀ x∈X,κ.kle (kf κ x) (kf κ X[X.length - 1]):=fun x hx=>by
  obtain ⟨t,ht,rfl⟩:=List.mem_iff_getElem.mp hx
  exact seg_up uX (by omega) (by omega)
 have memL:X[X.length - 1]∈X.drop k:=by
  refine List.mem_iff_getElem.mpr ⟨X.length - 1 - k,by simp;omega,?_⟩
  rw [List.getElem_drop]
  congr 1
  omega
 refine wpS_bind (wpS_elem hel ?_)
 refine wpS_bind (wpS_gallop hO hk (key_kf hks hel) hks (show Y.length - 1 < Y.length by omega) (show Pl.length + X.length + Y.length≤(arrOf st).size by omega) ?_ fun k2 hy1 hy2 hy3=>?_)
 ·intro p q hpq hq hb
  obtain ⟨g1,g2⟩:=gY hq
  obtain ⟨g3,g4⟩:=gY (show p < Y.length by omega)
  rw [bey_t g1,g2] at hb
  rw [bey_t g3,g4]
  exact KeyOrd.klt_of_kle_of_klt (seg_up uY hpq hq) hb
 rw [ex] at hy2 hy3
 have yA:∀ y∈Y.take k2,κ.klt (kf κ y) (kf κ X[X.length - 1]):=fun y hy=>by
  obtain ⟨t,ht,rfl⟩:=List.mem_iff_getElem.mp hy
  have ht':t < k2:=by simp at ht;omega
  obtain ⟨g1,g2⟩:=gY (show t < Y.length by omega)
  have:=hy2 t ht'
  rw [bey_t g1,g2] at this
  simpa using this
 have yB:∀ y∈Y.drop k2,κ.kle (kf κ X[X.length - 1]) (kf κ y):=fun y hy=>by
  obtain ⟨t,ht,rfl⟩:=List.mem_iff_getElem.mp hy
  have ht':k2 + t < Y.length:=by simp at ht;omega
  obtain ⟨g1,g2⟩:=gY ht'
  have:=hy3 (k2 + t) (by omega) ht'
  rw [bey_t' g1,g2] at this
  simpa using this
 try conv=>arg 5;dsimp -zeta only
 have k20:0 < k2:=by
  rcases Nat.eq_zero_or_pos k2 with z | z
  ·subst z
   have h3:=yB Y[0] (by simp)
   exact absurd (kB _ memL) (KeyOrd.not_klt_of_kle h3)
  ·exact z
 refine wpS_iteF (by simp;omega) ?_
 try conv=>arg 5;dsimp -zeta only
 have la:((arrOf st).extract (Pl.length + k) (Pl.length + X.length)).toList=X.drop k:=by
  rw [Array.toList_extract,List.extract_eq_take_drop,e,List.drop_length_add_append,List.drop_append_of_le_length (by omega)]
  exact List.take_left' (by simp;omega)
 have lb:((arrOf st).extract (Pl.length + X.length) (Pl.length + X.length + k2)).toList=Y.take k2:=by
  rw [Array.toList_extract,List.extract_eq_take_drop,e',show Pl.length + X.length=(Pl ++ X).length by simp,List.drop_left,Nat.add_sub_cancel_left,List.take_append_of_le_length (by omega)]
 generalize hga:(arrOf st).extract (Pl.length + k) (Pl.length + X.length)=a at la
 generalize hgb:(arrOf st).extract (Pl.length + X.length) (Pl.length + X.length + k2)=b at lb
 extract_lets -underBinder +onlyGivenNames xx yy jp
 have hJ:∀ r st',Fin2 (kL κ) a.toList b.toList r.toList→kindOf st'=kindOf st→arrOf st'=arrOf st→failedOf st'=none→pendingOf st'=((pendingOf st).setIfInBounds i (Pl.length,X.length + Y.length,p1)).eraseIdxIfInBounds (i + 1)→wpS (model prog w) A E s (jp r) Q st':=by
  intro r st' fr e1 e2 e3 e4
  rw [la,lb] at fr
  try conv=>arg 5;dsimp -zeta only
  refine wpS_bind (wpS_modify (wpS_bind (wpS_get ?_)))
  have hZ:∀ z∈r.toList,z∈X.drop k∨z∈Y.take k2:=fun z hz=>List.mem_append.mp (fr.1.mem_iff.mp hz)
  have er:=fold_set r.toList 0 (Pl.length + k) (Pl ++ X.take k) (X.drop k ++ Y.take k2) (Y.drop k2 ++ Sl) (arrOf st) (by
   rw [e]
   rw [List.append_assoc,List.append_assoc,← List.append_assoc (Y.take k2),List.take_append_drop,← List.append_assoc (X.take k),List.take_append_drop]) fr.1.length_eq.symm (by simp;omega)
  refine cast (congrArg (fun q=>wpS (model prog w) A E s (pure q) Q _) (show true=_ from ?_)) (wpS_pure (h _ (X.take k ++ (r.toList ++ Y.drop k2)) e1 e3 e4 ?_ ?_ ?_))
  ·show true=(failedOf st').isNone
   rw [e3];rfl
  ·show (List.foldl _ (arrOf st') r.toList.zipIdx).toList=_
   rw [e2]
   refine Eq.trans ?_ (er.trans (by simp))
   rfl
  ·have p1:(r.toList ++ Y.drop k2).Perm ((X.drop k ++ Y.take k2) ++ Y.drop k2):=fr.1.append_right _
   have p2:=List.Perm.append_left (X.take k) p1
   have e5:X.take k ++ ((X.drop k ++ Y.take k2) ++ Y.drop k2)=X ++ Y:=by rw [List.append_assoc,List.take_append_drop,← List.append_assoc,List.take_append_drop]
   rw [← e5]
   exact p2
  ·rw [List.pairwise_append]
   refine ⟨uX.sublist (List.take_sublist _ _),?_,fun x hx z hz=>?_⟩
   ·rw [List.pairwise_append]
    refine ⟨fr.2,uY.sublist (List.drop_sublist _ _),fun z hz y hy=>?_⟩
    rcases hZ z hz with q | q
    ·exact KeyOrd.kle_trans (lastX z (List.mem_of_mem_drop q)) (yB y hy)
    ·exact KeyOrd.kle_trans (KeyOrd.kle_of_klt (yA z q)) (yB y hy)
   ·have hxy:κ.kle (kf κ x) (kf κ Y[0]):=kA x hx
    rcases List.mem_append.mp hz with q | q
    ·rcases hZ z q with q | q
     ·exact KeyOrd.kle_trans hxy (KeyOrd.kle_of_klt (kB z q))
     ·exact KeyOrd.kle_trans hxy (yl z (List.mem_of_mem_take q))
    ·exact KeyOrd.kle_trans hxy (yl z (List.mem_of_mem_drop q))
 have hka:KeysOf κ a:=fun p hp=>by
  rw [la] at hp
  exact hks p (by rw [e];simp [List.mem_of_mem_drop hp])
 have hkb:KeysOf κ b:=fun p hp=>by
  rw [lb] at hp
  exact hks p (by rw [e];simp [List.mem_of_mem_take hp])
 have sa:a.size=X.length - k:=by rw [← Array.length_toList,la];simp
 have sb:b.size=k2:=by rw [← Array.length_toList,lb];simp;omega
 have gb0:∀ j (hj:j < b.size),b[j]∈Y.take k2:=fun j hj=>by rw [← lb];simp
 have gl:∀ (hj:a.size - 1 < a.size),a[a.size - 1]=X[X.length - 1]:=fun hj=>by
  have h4:a.toList[a.size - 1]?=some X[X.length - 1]:=by
   rw [la,List.getElem?_drop,sa,show k + (X.length - k - 1)=X.length - 1 by omega,List.getElem?_eq_getElem (by omega)]
  rw [Array.getElem?_toList,Array.getElem?_eq_getElem hj] at h4
  exact Option.some.inj h4
 have gb00:∀ (hj:0 < b.size),b[0]=Y[0]:=fun hj=>by
  have h4:b.toList[0]?=some Y[0]:=by rw [lb,List.getElem?_take_of_lt k20,List.getElem?_eq_getElem y0]
  rw [Array.getElem?_toList,Array.getElem?_eq_getElem hj] at h4
  exact Option.some.inj h4
 have ga0:∀ (hj:0 < a.size),a[0]∈X.drop k:=fun hj=>by rw [← la];simp
 have ua:a.toList.Pairwise (kL κ):=by rw [la];exact uX.sublist (List.drop_sublist _ _)
 have ub:b.toList.Pairwise (kL κ):=by rw [lb];exact uY.sublist (List.take_sublist _ _)
 have a0:0 < a.size:=by omega
 have b0:0 < b.size:=by omega
 have hlo:κ.klt (kf κ b[0]) (kf κ a[0]):=by rw [gb00 b0];exact kB _ (ga0 a0)
 have hhi:∀ j (hj:j < b.size),κ.klt (kf κ b[j]) (kf κ a[a.size - 1]):=fun j hj=>by rw [gl (by omega)];exact yA _ (gb0 j hj)
 by_cases z5:X.length - k≤k2
 ·refine wpS_iteT z5 ?_
  exact wpS_bind (wpS_mergeLo hO hk hka hkb ua ub a0 b0 (KeyOrd.kle_of_klt hlo) hhi fun r st' fr q=>hJ r st' fr q.kind q.arr (q.fail.trans hf) q.pend)
 ·refine wpS_iteF z5 ?_
  exact wpS_bind (wpS_mergeHi hO hk hka hkb ua ub a0 b0 hlo (fun j hj=>KeyOrd.kle_of_klt (hhi j hj)) fun r st' fr q=>hJ r st' fr q.kind q.arr (q.fail.trans hf) q.pend)
end
end L2
end
section
set_option Elab.async false
set_option linter.all false
set_option maxRecDepth 100000
set_option maxHeartbeats 2000000
namespace L2
open PySem PySem.Spec PyProof.Rows
section
variable {prog:Program} {w:World} {A:Around} {E:Value→Shared→Prop} {s:Shared} {κ:PyProof.Rows.KeyKind}
structure SG (st0 st:SortSt) (lo hi:Nat):Prop where
 kind:kindOf st=kindOf st0
 fail:failedOf st=failedOf st0
 pend:pendingOf st=pendingOf st0
 perm:(arrOf st).Perm (arrOf st0)
 out:∀ t:Nat,t < lo∨hi≤t→(arrOf st)[t]?=(arrOf st0)[t]?
theorem SG.refl {st:SortSt} {lo hi:Nat}:SG st st lo hi:=⟨rfl,rfl,rfl,Array.Perm.refl _,fun _ _=>rfl⟩
theorem SG.size {st0 st:SortSt} {lo hi:Nat} (g:SG st0 st lo hi):(arrOf st).size=(arrOf st0).size:=g.perm.size_eq
theorem SG.keys {st0 st:SortSt} {lo hi:Nat} (g:SG st0 st lo hi) (h:KeysOf κ (arrOf st0)):KeysOf κ (arrOf st):=fun p hp=>h p ((Array.perm_iff_toList_perm.mp g.perm).mem_iff.mp hp)
theorem SG.arr {st0 st:SortSt} {lo hi:Nat} (g:SG st0 st lo hi) {xs:Array Keyed} (hp:xs.Perm (arrOf st)) (ho:∀ t:Nat,t < lo∨hi≤t→xs[t]?=(arrOf st)[t]?):SG st0 (setArr st xs) lo hi:=
 ⟨g.kind,g.fail,g.pend,hp.trans g.perm,fun t ht=>(ho t ht).trans (g.out t ht)⟩
def SegUp (κ:PyProof.Rows.KeyKind) (xs:Array Keyed) (lo n:Nat):Prop:=∀ i j,i≤j→j < n→κ.kle (KK κ xs (lo + i)) (KK κ xs (lo + j))
theorem wpS_at2 {st:SortSt} {i j:Nat} {Q:Option Bool→SortSt→Prop} (hO:κ.OneLt) (hk:kindOf st=oneType') (hks:KeysOf κ (arrOf st)) (hi:i < (arrOf st).size) (hj:j < (arrOf st).size)
  (h:Q (some (κ.blt (KK κ (arrOf st) i) (KK κ (arrOf st) j))) st):wpS (model prog w) A E s ((sortPriv% PySem.Builtin.ltAt) i j) Q st:=
 wpS_ltAtK hO hk (x:=(arrOf st)[i].1) (p:=(arrOf st)[i].2) (y:=(arrOf st)[j].1) (q:=(arrOf st)[j].2) (Array.getElem?_eq_getElem hi) (Array.getElem?_eq_getElem hj) (keyed_at hks hi) (keyed_at hks hj) h
theorem wpS_binary {lo n ok:Nat} {st:SortSt} {Q:Bool→SortSt→Prop} (hO:κ.OneLt) (hk:kindOf st=oneType') (hks:KeysOf κ (arrOf st)) (hn:lo + n≤(arrOf st).size) (hok:ok≤n) (hs:SegUp κ (arrOf st) lo ok)
  (h:∀ st',SG st st' lo (lo + n)→SegUp κ (arrOf st') lo n→Q true st'):wpS (model prog w) A E s ((sortPriv% PySem.Builtin.binarySort) lo n ok) Q st:=by
 show wpS _ _ _ _ (_ >>= _) _ _
 refine wpS_bind (wpS_mono (wpS_forRange (I:=fun (k:Nat) (c:Option Bool × Unit) (st':SortSt)=>c=(none,())∧SG st st' lo (lo + n)∧SegUp κ (arrOf st') lo (min k n))
  (Q:=fun (c:Option Bool × Unit) (st':SortSt)=>c=(none,())∧SG st st' lo (lo + n)∧SegUp κ (arrOf st') lo n) ?_ ?_ ⟨rfl,SG.refl,?_⟩) ?_)
 ·rintro k c st1 hk1 hkn ⟨rfl,g1,u1⟩
  rw [Nat.min_eq_left (by omega)] at u1
  have z1:=g1.size
  try conv=>arg 5;dsimp -zeta only
  refine wpS_bind (wpS_mono (wpS_forRange (I:=fun (x:Nat) (c:Option Bool × Nat × Nat) (st':SortSt)=>∃ l r,c=(none,l,r)∧st'=st1∧l≤r∧r≤k∧r - l≤k - x∧(∀ i,i < l→κ.kle (KK κ (arrOf st1) (lo + i)) (KK κ (arrOf st1) (lo + k)))∧(∀ i,r≤i→i < k→κ.klt (KK κ (arrOf st1) (lo + k)) (KK κ (arrOf st1) (lo + i))))
   (Q:=fun (c:Option Bool × Nat × Nat) (st':SortSt)=>∃ l r,c=(none,l,r)∧st'=st1∧l≤k∧(∀ i,i < l→κ.kle (KK κ (arrOf st1) (lo + i)) (KK κ (arrOf st1) (lo + k)))∧(∀ i,l≤i→i < k→κ.klt (KK κ (arrOf st1) (lo + k)) (KK κ (arrOf st1) (lo + i)))) ?_ ?_ ⟨0,k,rfl,rfl,by omega,by omega,by omega,fun i hi=>by omega,fun i h1 h2=>by omega⟩) ?_)
  ·rintro x c st2 _ hx ⟨l,r,rfl,rfl,h1,h2,h3,h4,h5⟩
   try conv=>arg 5;dsimp -zeta only
   by_cases z:l≥r
   ·refine wpS_iteT z ?_
    exact wpS_pure ⟨l,r,rfl,rfl,by omega,h4,fun i q1 q2=>h5 i (by omega) q2⟩
   refine wpS_iteF z ?_
   try conv=>arg 5;dsimp -zeta only
   refine wpS_bind (wpS_at2 hO (g1.kind.trans hk) (g1.keys hks) (by omega) (by omega) ?_)
   try conv=>arg 5;dsimp -zeta only
   cases e:κ.blt (KK κ (arrOf st2) (lo + k)) (KK κ (arrOf st2) (lo + (l + r) / 2)) with
   | true=>
    refine wpS_iteT rfl ?_
    exact wpS_pure ⟨l,(l + r) / 2,rfl,rfl,by omega,by omega,by omega,h4,fun i q1 q2=>KeyOrd.klt_of_klt_of_kle e (u1 _ _ q1 q2)⟩
   | false=>
    refine wpS_iteF (by simp) ?_
    exact wpS_pure ⟨(l + r) / 2 + 1,r,rfl,rfl,by omega,by omega,by omega,fun i q1=>KeyOrd.kle_trans (u1 i ((l + r) / 2) (by omega) (by omega)) (show κ.kle _ _ from e),h5⟩
  ·rintro c st2 ⟨l,r,rfl,rfl,h1,h2,h3,h4,h5⟩
   exact ⟨l,r,rfl,rfl,by omega,h4,fun i q1 q2=>h5 i (by omega) q2⟩
  ·rintro c st2 ⟨l,r,rfl,rfl,h1,h4,h5⟩
   try conv=>arg 5;dsimp -zeta only
   have hks1:lo + k < (arrOf st2).size:=by omega
   refine wpS_bind ?_
   show wpS _ _ _ _ (moveDown' (lo + k) (lo + l)) _ _
   rw [moveDown'_eq]
   refine wpS_modify (wpS_pure ⟨rfl,g1.arr (bubble_perm _ _ _) fun t ht=>?_,?_⟩)
   ·rw [getElem?_bubble hks1 _ (by omega),if_neg (by omega),if_neg (by omega)]
   ·rw [Nat.min_eq_left (by omega)]
    intro i j hij hj
    show κ.kle (KK κ (bubble (arrOf st2) (lo + k) (lo + k - (lo + l))) (lo + i)) (KK κ (bubble (arrOf st2) (lo + k) (lo + k - (lo + l))) (lo + j))
    have kb:∀ t,t≤k→KK κ (bubble (arrOf st2) (lo + k) (lo + k - (lo + l))) (lo + t)=if t=l then KK κ (arrOf st2) (lo + k) else if l < t then KK κ (arrOf st2) (lo + (t - 1)) else KK κ (arrOf st2) (lo + t):=fun t ht=>by
     rw [KK_bubble hks1 (by omega)]
     by_cases q1:t=l
     ·rw [if_pos (by omega),if_pos q1]
     ·rw [if_neg (by omega),if_neg q1]
      by_cases q2:l < t
      ·rw [if_pos (by omega),if_pos q2,show lo + t - 1=lo + (t - 1) by omega]
      ·rw [if_neg (by omega),if_neg q2]
    rw [kb i (by omega),kb j (by omega)]
    by_cases i1:i=l
    ·rw [if_pos i1]
     by_cases j1:j=l
     ·rw [if_pos j1];exact KeyOrd.kle_refl _
     ·rw [if_neg j1,if_pos (by omega)]
      exact KeyOrd.kle_of_klt (h5 (j - 1) (by omega) (by omega))
    ·rw [if_neg i1]
     by_cases i2:l < i
     ·rw [if_pos i2,if_neg (by omega),if_pos (by omega)]
      exact u1 _ _ (by omega) (by omega)
     ·rw [if_neg i2]
      by_cases j1:j=l
      ·rw [if_pos j1];exact h4 i (by omega)
      ·rw [if_neg j1]
       by_cases j2:l < j
       ·rw [if_pos j2];exact u1 _ _ (by omega) (by omega)
       ·rw [if_neg j2];exact u1 _ _ (by omega) (by omega)
 ·rintro c st1 ⟨rfl,g1,u1⟩
  refine ⟨rfl,g1,?_⟩
  rwa [show min (max (max ok 1) n) n=n by omega] at u1
 ·intro i j hij hj
  by_cases z:ok=0
  ·obtain rfl:i=j:=by omega
   exact KeyOrd.kle_refl _
  ·exact hs i j hij (by omega)
 ·rintro c st1 ⟨rfl,g1,u1⟩
  exact wpS_pure (h _ g1 u1)
end
end L2
end
section
set_option Elab.async false
set_option linter.all false
set_option maxRecDepth 100000
set_option maxHeartbeats 2000000
namespace L2
open PySem PySem.Spec PyProof.Rows
section
variable {prog:Program} {w:World} {A:Around} {E:Value→Shared→Prop} {s:Shared} {κ:PyProof.Rows.KeyKind}
theorem wpS_rev {i j:Nat} {st:SortSt} {Q:Unit→SortSt→Prop} (h:Q () (setArr st (mirror (arrOf st) i j ((j - i) / 2)))):wpS (model prog w) A E s ((sortPriv% PySem.Builtin.reverseSlice) i j) Q st:=by
 show wpS _ _ _ _ (reverseSlice' i j) _ _
 rw [reverseSlice'_eq]
 exact wpS_modify h
theorem SG.rev {st0 st:SortSt} {lo hi i j:Nat} (g:SG st0 st lo hi) (h1:lo≤i) (h2:j≤hi) (hj:j≤(arrOf st).size):SG st0 (setArr st (mirror (arrOf st) i j ((j - i) / 2))) lo hi:=
 g.arr (mirror_perm _ _ _ _) fun t ht=>by rw [getElem?_mirror_all hj,if_neg (by omega)]
theorem seg_snoc {xs:Array Keyed} {lo m:Nat} (h1:1≤m) (h:SegUp κ xs lo m) (q:κ.kle (KK κ xs (lo + (m - 1))) (KK κ xs (lo + m))):SegUp κ xs lo (m + 1):=fun i j hij hj=>by
 rcases Nat.lt_or_ge j m with z | z
 ·exact h i j hij z
 ·obtain rfl:j=m:=by omega
  rcases Nat.lt_or_ge i j with y | y
  ·exact KeyOrd.kle_trans (h i (j - 1) (by omega) (by omega)) q
  ·obtain rfl:i=j:=by omega
   exact KeyOrd.kle_refl _
theorem asc_loop {lo n m0:Nat} {st:SortSt} {f:Nat→(Option (Option Nat) × Nat)→StateT SortSt Sem (ForInStep (Option (Option Nat) × Nat))} (m1:1≤m0) (mn:m0≤n) (u0:SegUp κ (arrOf st) lo m0)
  (hf:∀ x m (Q':ForInStep (Option (Option Nat) × Nat)→SortSt→Prop),1≤m→m < n→(κ.blt (KK κ (arrOf st) (lo + m)) (KK κ (arrOf st) (lo + m - 1))=true→Q' (.done (none,m)) st)→(κ.blt (KK κ (arrOf st) (lo + m)) (KK κ (arrOf st) (lo + m - 1))=false→Q' (.yield (none,m + 1)) st)→wpS (model prog w) A E s (f x (none,m)) Q' st) :
  wpS (model prog w) A E s (forIn [m0:n] ((none:Option (Option Nat)),m0) f) (fun c st'=>st'=st∧∃ m,c=(none,m)∧1≤m∧m≤n∧SegUp κ (arrOf st) lo m∧(m=n∨κ.klt (KK κ (arrOf st) (lo + m)) (KK κ (arrOf st) (lo + m - 1)))) st:=by
 refine wpS_forRange (I:=fun (x:Nat) (c:Option (Option Nat) × Nat) (st':SortSt)=>st'=st∧c=(none,x)∧1≤x∧SegUp κ (arrOf st) lo x) ?_ ?_ ⟨rfl,rfl,m1,u0⟩
 ·rintro x c st1 h1 h2 ⟨rfl,rfl,h3,h4⟩
  refine hf x x _ h3 h2 (fun e=>⟨rfl,x,rfl,h3,by omega,h4,.inr e⟩) fun e=>⟨rfl,rfl,by omega,seg_snoc h3 h4 ?_⟩
  rw [show lo + (x - 1)=lo + x - 1 by omega]
  exact e
 ·rintro c st1 ⟨rfl,rfl,h3,h4⟩
  rw [Nat.max_eq_right mn] at h3 h4 ⊢
  exact ⟨rfl,n,rfl,h3,Nat.le_refl _,h4,.inl rfl⟩
def SegDn (κ:PyProof.Rows.KeyKind) (xs:Array Keyed) (lo n:Nat):Prop:=∀ i j,i≤j→j < n→κ.kle (KK κ xs (lo + j)) (KK κ xs (lo + i))
theorem dn_snoc {xs:Array Keyed} {lo m:Nat} (h1:1≤m) (h:SegDn κ xs lo m) (q:κ.kle (KK κ xs (lo + m)) (KK κ xs (lo + m - 1))):SegDn κ xs lo (m + 1):=fun i j hij hj=>by
 rcases Nat.lt_or_ge j m with z | z
 ·exact h i j hij z
 ·obtain rfl:j=m:=by omega
  rcases Nat.lt_or_ge i j with y | y
  ·have:=h i (j - 1) (by omega) (by omega)
   rw [show lo + (j - 1)=lo + j - 1 by omega] at this
   exact KeyOrd.kle_trans q this
  ·obtain rfl:i=j:=by omega
   exact KeyOrd.kle_refl _
theorem wpS_count {lo n:Nat} {st:SortSt} {Q:Option Nat→SortSt→Prop} (hO:κ.OneLt) (hk:kindOf st=oneType') (hks:KeysOf κ (arrOf st)) (hn:lo + n≤(arrOf st).size) (n1:1≤n)
  (h:∀ st' m,SG st st' lo (lo + n)→1≤m→m≤n→SegUp κ (arrOf st') lo m→Q (some m) st'):wpS (model prog w) A E s ((sortPriv% PySem.Builtin.countRun) lo n) Q st:=by
 have one:∀ xs,SegUp κ xs lo 1:=fun xs i j h1 h2=>by
  obtain rfl:i=j:=by omega
  exact KeyOrd.kle_refl _
 show wpS _ _ _ _ (_ >>= _) _ _
 try conv=>arg 5;dsimp -zeta only
 refine wpS_bind (wpS_mono (asc_loop (κ:=κ) (Nat.le_refl 1) n1 (one _) ?_) ?_)
 ·intro x m Q' h1 h2 q1 q2
  try conv=>arg 5;dsimp -zeta only
  refine wpS_bind (wpS_at2 hO hk hks (by omega) (by omega) ?_)
  try conv=>arg 5;dsimp -zeta only
  cases e:κ.blt (KK κ (arrOf st) (lo + m)) (KK κ (arrOf st) (lo + m - 1)) with
  | true=>refine wpS_iteT rfl ?_;exact wpS_pure (q1 e)
  | false=>refine wpS_iteF (by simp) ?_;exact wpS_pure (q2 e)
 rintro c st1 ⟨rfl,m,rfl,h1,h2,u1,h3⟩
 try conv=>arg 5;dsimp -zeta only
 by_cases z:m=n
 ·refine wpS_iteT (by simpa using z) ?_
  exact wpS_pure (h _ _ SG.refl h1 h2 u1)
 refine wpS_iteF (by simpa using z) ?_
 have lt1:κ.klt (KK κ (arrOf st1) (lo + m)) (KK κ (arrOf st1) (lo + m - 1)):=h3.resolve_left z
 extract_lets -underBinder +onlyGivenNames jp
 have hJ:∀ st2,SG st1 st2 lo (lo + n)→SegDn κ (arrOf st2) lo (m + 1)→wpS (model prog w) A E s (jp ()) Q st2:=by
  intro st2 g2 d2
  try conv=>arg 5;dsimp -zeta only
  refine wpS_bind (wpS_lift (wpAny_rule ⟨rfl,?_⟩))
  try conv=>arg 5;dsimp -zeta only
  refine wpS_bind (wpS_mono (wpS_forRange (I:=fun (x:Nat) (c:Option (Option Nat) × Nat × Nat) (st':SortSt)=>∃ q,c=(none,x,q)∧SG st1 st' lo (lo + n)∧SegDn κ (arrOf st') lo x∧q < x∧m + 1≤x∧∀ t,x - 1 - q≤t→t < x→KK κ (arrOf st') (lo + t)=KK κ (arrOf st') (lo + x - 1))
   (Q:=fun (c:Option (Option Nat) × Nat × Nat) (st':SortSt)=>∃ x q,c=(none,x,q)∧SG st1 st' lo (lo + n)∧SegDn κ (arrOf st') lo x∧q < x∧m + 1≤x∧x≤n∧∀ t,x - 1 - q≤t→t < x→KK κ (arrOf st') (lo + t)=KK κ (arrOf st') (lo + x - 1)) ?_ ?_ ⟨0,rfl,g2,d2,by omega,Nat.le_refl _,fun t q1 q2=>by rw [show lo + t=lo + (m + 1) - 1 by omega]⟩) ?_)
  ·rintro x c st3 hx1 hx2 ⟨q,rfl,g3,d3,hq,hmx,eq⟩
   have z3:=g3.size
   try conv=>arg 5;dsimp -zeta only
   refine wpS_bind (wpS_at2 hO (g3.kind.trans hk) (g3.keys hks) (by omega) (by omega) ?_)
   try conv=>arg 5;dsimp -zeta only
   skip
   cases e:κ.blt (KK κ (arrOf st3) (lo + x)) (KK κ (arrOf st3) (lo + x - 1)) with
   | true=>
    refine wpS_iteT rfl ?_
    skip
    have done:∀ st4,SG st1 st4 lo (lo + n)→(∀ t,KK κ (arrOf st4) t=KK κ (arrOf st3) t)→∃ q,((none:Option (Option Nat)),x + 1,0)=(none,x + 1,q)∧SG st1 st4 lo (lo + n)∧SegDn κ (arrOf st4) lo (x + 1)∧q < x + 1∧m + 1≤x + 1∧∀ t,x + 1 - 1 - q≤t→t < x + 1→KK κ (arrOf st4) (lo + t)=KK κ (arrOf st4) (lo + (x + 1) - 1):=fun st4 g4 k4=>by
     refine ⟨0,rfl,g4,?_,by omega,by omega,fun t q1 q2=>by rw [show lo + t=lo + (x + 1) - 1 by omega]⟩
     refine dn_snoc (by omega) (fun i j q1 q2=>by rw [k4,k4];exact d3 i j q1 q2) ?_
     rw [k4,k4]
     exact KeyOrd.kle_of_klt e
    by_cases z4:q > 0
    ·refine wpS_iteT z4 ?_
     refine wpS_bind (wpS_rev ?_)
     refine wpS_pure (done _ (g3.rev (by omega) (by omega) (by omega)) fun t=>?_)
     exact KK_mirror_equal (by omega) (fun u q1 q2=>by
      have:=eq (u - lo) (by omega) (by omega)
      rw [show lo + (u - lo)=u by omega] at this
      exact this) t
    ·refine wpS_iteF z4 ?_
     exact wpS_pure (done _ g3 fun t=>rfl)
   | false=>
    refine wpS_iteF (by simp) ?_
    refine wpS_bind (wpS_at2 hO (g3.kind.trans hk) (g3.keys hks) (by omega) (by omega) ?_)
    try conv=>arg 5;dsimp -zeta only
    cases e2:κ.blt (KK κ (arrOf st3) (lo + x - 1)) (KK κ (arrOf st3) (lo + x)) with
    | true=>
     refine wpS_iteT rfl ?_
     exact wpS_pure ⟨x,q,rfl,g3,d3,hq,hmx,by omega,eq⟩
    | false=>
     refine wpS_iteF (by simp) ?_
     have ek:KK κ (arrOf st3) (lo + x - 1)=KK κ (arrOf st3) (lo + x):=κ.total _ _ e2 e
     refine wpS_pure ⟨q + 1,rfl,g3,dn_snoc (by omega) d3 (by rw [ek];exact KeyOrd.kle_refl _),by omega,by omega,fun t q1 q2=>?_⟩
     rw [show lo + (x + 1) - 1=lo + x by omega]
     rcases Nat.lt_or_ge t x with y | y
     ·rw [eq t (by omega) y,ek]
     ·rw [show t=x by omega]
  ·rintro c st3 ⟨q,rfl,g3,d3,hq,hmx,eq⟩
   rw [Nat.max_eq_right (by omega)] at d3 hq hmx eq ⊢
   exact ⟨n,q,rfl,g3,d3,hq,hmx,Nat.le_refl _,eq⟩
  ·rintro c st3 ⟨x,q,rfl,g3,d3,hq,hmx,hxn,eq⟩
   have z3:=g3.size
   try conv=>arg 5;dsimp -zeta only
   extract_lets -underBinder +onlyGivenNames lr ls n1 nq
   have q1:n1=x:=rfl
   have q2:nq=q:=rfl
   conv=>arg 5;dsimp -zeta only [lr]
   extract_lets -underBinder +onlyGivenNames jp2
   have hJ2:∀ st4,SG st1 st4 lo (lo + n)→SegDn κ (arrOf st4) lo x→wpS (model prog w) A E s (jp2 ()) Q st4:=by
    intro st4 g4 d4
    have z4:=g4.size
    try conv=>arg 5;dsimp -zeta only
    refine wpS_bind (wpS_rev ?_)
    have g5:=g4.rev (i:=lo) (j:=lo + x) (Nat.le_refl _) (by omega) (by omega)
    have u5:SegUp κ (arrOf (setArr st4 (mirror (arrOf st4) lo (lo + x) ((lo + x - lo) / 2)))) lo x:=fun i j q1 q2=>by
     show κ.kle (KK κ (mirror (arrOf st4) lo (lo + x) ((lo + x - lo) / 2)) (lo + i)) (KK κ (mirror (arrOf st4) lo (lo + x) ((lo + x - lo) / 2)) (lo + j))
     rw [KK_mirror (by omega),KK_mirror (by omega),if_pos (by omega),if_pos (by omega),show lo + (lo + x) - 1 - (lo + i)=lo + (x - 1 - i) by omega,show lo + (lo + x) - 1 - (lo + j)=lo + (x - 1 - j) by omega]
     exact d4 _ _ (by omega) (by omega)
    generalize setArr st4 (mirror (arrOf st4) lo (lo + x) ((lo + x - lo) / 2))=st5 at g5 u5
    have z5:=g5.size
    refine wpS_bind (wpS_mono (asc_loop (κ:=κ) (by omega) hxn u5 ?_) ?_)
    ·intro y p Q' h1 h2 q1 q2
     try conv=>arg 5;dsimp -zeta only
     refine wpS_bind (wpS_at2 hO (g5.kind.trans hk) (g5.keys hks) (by omega) (by omega) ?_)
     try conv=>arg 5;dsimp -zeta only
     cases e:κ.blt (KK κ (arrOf st5) (lo + p)) (KK κ (arrOf st5) (lo + p - 1)) with
     | true=>refine wpS_iteT rfl ?_;exact wpS_pure (q1 e)
     | false=>refine wpS_iteF (by simp) ?_;exact wpS_pure (q2 e)
    ·rintro c st6 ⟨rfl,p,rfl,h1,h2,u6,_⟩
     exact wpS_pure (h _ _ g5 h1 h2 u6)
   by_cases z4:q > 0
   ·refine wpS_iteT z4 ?_
    refine wpS_bind (wpS_rev ?_)
    refine hJ2 _ (g3.rev (by omega) (by omega) (by omega)) fun i j q1 q2=>?_
    have k4:∀ t,KK κ (mirror (arrOf st3) (lo + x - (q + 1)) (lo + x) ((lo + x - (lo + x - (q + 1))) / 2)) t=KK κ (arrOf st3) t:=KK_mirror_equal (by omega) fun u q1 q2=>by
     have:=eq (u - lo) (by omega) (by omega)
     rw [show lo + (u - lo)=u by omega] at this
     exact this
    show κ.kle (KK κ (mirror (arrOf st3) (lo + x - (q + 1)) (lo + x) ((lo + x - (lo + x - (q + 1))) / 2)) (lo + j)) (KK κ (mirror (arrOf st3) (lo + x - (q + 1)) (lo + x) ((lo + x - (lo + x - (q + 1))) / 2)) (lo + i))
    rw [k4,k4]
    exact d3 i j q1 q2
   ·refine wpS_iteF z4 ?_
    exact hJ2 _ g3 d3
 by_cases z2:m > 1
 ·refine wpS_iteT z2 ?_
  refine wpS_bind (wpS_at2 hO hk hks (by omega) (by omega) ?_)
  try conv=>arg 5;dsimp -zeta only
  cases e:κ.blt (KK κ (arrOf st1) lo) (KK κ (arrOf st1) (lo + m - 1)) with
  | true=>
   refine wpS_iteT rfl ?_
   exact wpS_pure (h _ _ SG.refl h1 h2 u1)
  | false=>
   refine wpS_iteF (by simp) ?_
   refine wpS_bind (wpS_rev ?_)
   have eqA:∀ t,t < m→KK κ (arrOf st1) (lo + t)=KK κ (arrOf st1) (lo + m - 1):=fun t ht=>by
    have a1:=u1 t (m - 1) (by omega) (by omega)
    have a2:=u1 0 t (by omega) ht
    rw [show lo + (m - 1)=lo + m - 1 by omega] at a1
    rw [Nat.add_zero] at a2
    exact KeyOrd.kle_antisymm a1 (KeyOrd.kle_trans (show κ.kle _ _ from e) a2)
   have k4:∀ t,KK κ (mirror (arrOf st1) lo (lo + m) ((lo + m - lo) / 2)) t=KK κ (arrOf st1) t:=KK_mirror_equal (by omega) fun u q1 q2=>by
    have:=eqA (u - lo) (by omega)
    rw [show lo + (u - lo)=u by omega] at this
    exact this
   refine hJ _ (SG.refl.rev (Nat.le_refl _) (by omega) (by omega)) ?_
   refine dn_snoc (by omega) (fun i j q1 q2=>?_) ?_
   ·show κ.kle (KK κ (mirror (arrOf st1) lo (lo + m) ((lo + m - lo) / 2)) (lo + j)) (KK κ (mirror (arrOf st1) lo (lo + m) ((lo + m - lo) / 2)) (lo + i))
    rw [k4,k4,eqA i (by omega),eqA j (by omega)]
    exact KeyOrd.kle_refl _
   ·show κ.kle (KK κ (mirror (arrOf st1) lo (lo + m) ((lo + m - lo) / 2)) (lo + m)) (KK κ (mirror (arrOf st1) lo (lo + m) ((lo + m - lo) / 2)) (lo + m - 1))
    rw [k4,k4]
    exact KeyOrd.kle_of_klt lt1
 ·refine wpS_iteF z2 ?_
  obtain rfl:m=1:=by omega
  refine hJ _ SG.refl (dn_snoc (by omega) (fun i j q1 q2=>?_) (KeyOrd.kle_of_klt lt1))
  obtain rfl:i=j:=by omega
  exact KeyOrd.kle_refl _
end
end L2
end
section
set_option Elab.async false
set_option linter.all false
set_option maxRecDepth 100000
set_option maxHeartbeats 2000000
namespace L2
open PySem PySem.Spec PyProof.Rows
section
variable {prog:Program} {w:World} {A:Around} {E:Value→Shared→Prop} {s:Shared} {κ:PyProof.Rows.KeyKind}
def PendL:Nat→List (List Keyed)→List (Nat × Nat × Nat)→Prop
 | _,[],[]=>True
 | o,r :: rs,p :: ps=>p.1=o∧p.2.1=r.length∧PendL (o + r.length) rs ps
 | _,_,_=>False
theorem PendL.len:∀ {rs:List (List Keyed)} {ps:List (Nat × Nat × Nat)} {o:Nat},PendL o rs ps→ps.length=rs.length
 | [],[],_,_=>rfl
 | r :: rs,p :: ps,o,h=>by rw [List.length_cons,List.length_cons,PendL.len h.2.2]
theorem PendL.app:∀ {F G:List (List Keyed)} {f g:List (Nat × Nat × Nat)} {o:Nat},PendL o F f→PendL (o + F.flatten.length) G g→PendL o (F ++ G) (f ++ g)
 | [],G,[],g,o,_,h=>by simpa using h
 | r :: F,G,p :: f,g,o,h1,h2=>⟨h1.1,h1.2.1,PendL.app h1.2.2 (by rw [List.flatten_cons,List.length_append] at h2;rw [Nat.add_assoc];exact h2)⟩
theorem PendL.split:∀ {F G:List (List Keyed)} {ps:List (Nat × Nat × Nat)} {o:Nat},PendL o (F ++ G) ps→∃ f g,ps=f ++ g∧f.length=F.length∧PendL o F f∧PendL (o + F.flatten.length) G g
 | [],G,ps,o,h=>⟨[],ps,rfl,rfl,trivial,by simpa using h⟩
 | r :: F,G,p :: ps,o,h=>by
  obtain ⟨f,g,e,l,h1,h2⟩:=PendL.split (F:=F) (G:=G) h.2.2
  refine ⟨p :: f,g,by rw [e];rfl,by simp [l],⟨h.1,h.2.1,h1⟩,?_⟩
  rw [List.flatten_cons,List.length_append]
  rw [Nat.add_assoc] at h2
  exact h2
structure RunsAt (κ:PyProof.Rows.KeyKind) (a0:List Keyed) (st:SortSt) (rs:List (List Keyed)) (rest:List Keyed):Prop where
 kind:kindOf st=oneType'
 fail:failedOf st=none
 keys:KeysOf κ (arrOf st)
 perm:(arrOf st).toList.Perm a0
 arr:(arrOf st).toList=rs.flatten ++ rest
 pend:PendL 0 rs (pendingOf st).toList
 up:∀ r∈rs,r.Pairwise (kL κ)
 ne:∀ r∈rs,r≠[]
theorem keys_perm {a b:Array Keyed} (p:a.toList.Perm b.toList) (h:KeysOf κ b):KeysOf κ a:=fun x hx=>h x (p.mem_iff.mp hx)
theorem wpS_mergeRuns {a0:List Keyed} {i:Nat} {st:SortSt} {F G:List (List Keyed)} {X Y rest:List Keyed} {Q:Bool→SortSt→Prop} (hO:κ.OneLt) (R:RunsAt κ a0 st (F ++ X :: Y :: G) rest) (hi:F.length=i)
  (h:∀ st' Z,RunsAt κ a0 st' (F ++ Z :: G) rest→Q true st'):wpS (model prog w) A E s ((sortPriv% PySem.Builtin.mergeAt) i) Q st:=by
 subst hi
 obtain ⟨f,g,ep,lf,h1,h2⟩:=R.pend.split
 obtain ⟨p,q,g',rfl⟩:∃ p q g',g=p :: q :: g':=by
  match g,h2 with
  | p :: q :: g',_=>exact ⟨p,q,g',rfl⟩
 obtain ⟨pa,pb,pc⟩:=p
 obtain ⟨qa,qb,qc⟩:=q
 obtain ⟨e1,e2,e3,e4,h3⟩:=h2
 have e1:pa=0 + F.flatten.length:=e1
 have e2:pb=X.length:=e2
 have e3:qa=0 + F.flatten.length + X.length:=e3
 have e4:qb=Y.length:=e4
 have h3:PendL (0 + F.flatten.length + X.length + Y.length) G g':=h3
 have nX:0 < X.length:=List.length_pos_iff.mpr (R.ne X (by simp))
 have nY:0 < Y.length:=List.length_pos_iff.mpr (R.ne Y (by simp))
 have at1:(pendingOf st)[F.length]?=some (pa,pb,pc):=by
  rw [← Array.getElem?_toList,ep,← lf];simp
 have at2:(pendingOf st)[F.length + 1]?=some (qa,qb,qc):=by
  rw [← Array.getElem?_toList,ep,← lf,List.getElem?_append_right (by omega)];simp
 refine wpS_mergeAt (Pl:=F.flatten) (X:=X) (Y:=Y) (Sl:=G.flatten ++ rest) hO R.kind R.fail R.keys at1 at2 (by rw [R.arr];simp) (by omega) e2.symm e4.symm (by omega) (by omega) (by omega) (R.up X (by simp)) (R.up Y (by simp)) fun st' Z k1 k2 k3 k4 k5 k6=>?_
 have pm:(arrOf st').toList.Perm (arrOf st).toList:=by
  rw [k4,R.arr]
  simp only [List.flatten_append,List.flatten_cons,List.append_assoc]
  refine List.Perm.append_left _ ?_
  rw [← List.append_assoc X]
  exact k5.append_right _
 refine h st' Z ⟨k1.trans R.kind,k2,keys_perm pm R.keys,pm.trans R.perm,by rw [k4];simp,?_,fun r hr=>?_,fun r hr=>?_⟩
 ·have e5:(pendingOf st').toList=f ++ (pa,pb + qb,pc) :: g':=by
   rw [k3,Array.toList_eraseIdxIfInBounds,Array.toList_setIfInBounds,ep,← lf]
   rw [List.set_append_right _ _ (Nat.le_refl _),Nat.sub_self,List.eraseIdx_append_of_length_le (by omega)]
   simp
  rw [e5]
  refine PendL.app h1 ⟨e1,?_,?_⟩
  ·show pb + qb=Z.length
   rw [k5.length_eq,e2,e4,List.length_append]
  ·rw [k5.length_eq,List.length_append,← Nat.add_assoc];exact h3
 ·rcases List.mem_append.mp hr with z | z
  ·exact R.up r (by simp [z])
  ·rcases List.mem_cons.mp z with z | z
   ·rw [z];exact k6
   ·exact R.up r (by simp [z])
 ·rcases List.mem_append.mp hr with z | z
  ·exact R.ne r (by simp [z])
  ·rcases List.mem_cons.mp z with z | z
   ·rw [z]
    intro y
    have:=k5.length_eq
    rw [y,List.length_append] at this
    simp at this
    omega
   ·exact R.ne r (by simp [z])
theorem last_two {α:Type} {l:List α} (h:2≤l.length):∃ F x y,l=F ++ [x,y]:=by
 refine ⟨l.take (l.length - 2),l[l.length - 2],l[l.length - 1],?_⟩
 have e1:l.drop (l.length - 2)=[l[l.length - 2],l[l.length - 1]]:=by
  rw [drop_at (show l.length - 2 < l.length by omega),drop_at (show l.length - 2 + 1 < l.length by omega),List.drop_eq_nil_of_le (by omega)]
  congr 2
  congr 1
  omega
 rw [← e1,List.take_append_drop]
theorem flat_len {rs:List (List Keyed)} (h:∀ r∈rs,r≠[]):rs.length≤rs.flatten.length:=by
 induction rs with
 | nil=>simp
 | cons r rs ih=>
  have h1:=List.length_pos_iff.mpr (h r List.mem_cons_self)
  have h2:=ih fun x hx=>h x (List.mem_cons_of_mem _ hx)
  rw [List.length_cons,List.flatten_cons,List.length_append]
  omega
end
end L2
end
section
set_option Elab.async false
set_option linter.all false
set_option maxRecDepth 100000
set_option maxHeartbeats 2000000
namespace L2
open PySem PySem.Spec PyProof.Rows
section
variable {prog:Program} {w:World} {A:Around} {E:Value→Shared→Prop} {s:Shared} {κ:PyProof.Rows.KeyKind}
theorem wpS_jpS {β α:Type} {J:β→StateT SortSt Sem α} {C:β→SortSt→Prop} {m:StateT SortSt Sem α} {R:α→SortSt→Prop} {st:SortSt} (h1:∀ o st',C o st'→wpS (model prog w) A E s (J o) R st') (h2:(∀ o st',C o st'→wpS (model prog w) A E s (J o) R st')→wpS (model prog w) A E s m R st):wpS (model prog w) A E s m R st:=h2 h1
theorem PendL.congr:∀ {rs:List (List Keyed)} {ps qs:List (Nat × Nat × Nat)} {o:Nat},PendL o rs ps→qs.map (fun p=>(p.1,p.2.1))=ps.map (fun p=>(p.1,p.2.1))→PendL o rs qs
 | [],[],[],_,_,_=>trivial
 | [],[],_ :: _,_,_,e=>by simp at e
 | r :: rs,p :: ps,[],_,_,e=>by simp at e
 | r :: rs,p :: ps,q :: qs,o,h,e=>by
  rw [List.map_cons,List.map_cons] at e
  injection e with e1 e2
  injection e1 with e3 e4
  exact ⟨e3.trans h.1,e4.trans h.2.1,PendL.congr h.2.2 e2⟩
theorem RunsAt.len {a0:List Keyed} {st:SortSt} {rs:List (List Keyed)} {rest:List Keyed} (R:RunsAt κ a0 st rs rest):rs.flatten.length + rest.length=a0.length:=by
 rw [← R.perm.length_eq,R.arr,List.length_append]
theorem RunsAt.size {a0:List Keyed} {st:SortSt} {rs:List (List Keyed)} {rest:List Keyed} (R:RunsAt κ a0 st rs rest):(arrOf st).size=a0.length:=by
 rw [← R.perm.length_eq,Array.length_toList]
theorem RunsAt.seg {a0:List Keyed} {st st':SortSt} {rs:List (List Keyed)} {rest:List Keyed} {n hi:Nat} (R:RunsAt κ a0 st rs rest) (g:SG st st' rs.flatten.length hi) (u:SegUp κ (arrOf st') rs.flatten.length n) (hn:n≤rest.length):∃ sg rest2,sg.length=n∧sg.Pairwise (kL κ)∧RunsAt κ a0 st' rs (sg ++ rest2):=by
 have z:=R.size
 have z':=g.size
 have ln:=R.len
 have e1:(arrOf st').toList.take rs.flatten.length=rs.flatten:=by
  apply List.ext_getElem?
  intro t
  rcases Nat.lt_or_ge t rs.flatten.length with y | y
  ·rw [List.getElem?_take_of_lt y,Array.getElem?_toList,g.out t (.inl y),← Array.getElem?_toList,R.arr,List.getElem?_append_left y]
  ·rw [List.getElem?_eq_none (by rw [List.length_take];omega),List.getElem?_eq_none y]
 have pm:(arrOf st').toList.Perm (arrOf st).toList:=Array.perm_iff_toList_perm.mp g.perm
 refine ⟨((arrOf st').toList.drop rs.flatten.length).take n,((arrOf st').toList.drop rs.flatten.length).drop n,?_,?_,⟨g.kind.trans R.kind,g.fail.trans R.fail,keys_perm pm R.keys,pm.trans R.perm,?_,by rw [g.pend];exact R.pend,R.up,R.ne⟩⟩
 ·rw [List.length_take,List.length_drop,Array.length_toList];omega
 ·rw [List.pairwise_iff_getElem]
  intro i j hi hj hij
  have hj':j < n:=by simp at hj;omega
  have hj2:rs.flatten.length + j < (arrOf st').size:=by simp at hj;omega
  have:=u i j (by omega) hj'
  rw [KK_kf (show rs.flatten.length + i < (arrOf st').size by omega),KK_kf hj2] at this
  show κ.kle _ _
  simpa using this
 ·rw [List.take_append_drop]
  conv=>lhs;rw [← List.take_append_drop rs.flatten.length (arrOf st').toList]
  rw [e1]
theorem ite_lt1 {c:Prop} [Decidable c] {a b n:Nat} (h1:a + 1 < n) (h2:b + 1 < n):(if c then a else b) + 1 < n:=by split <;> assumption
theorem wpS_mergeRuns2 {a0:List Keyed} {i:Nat} {st:SortSt} {rs:List (List Keyed)} {rest:List Keyed} {Q:Bool→SortSt→Prop} (hO:κ.OneLt) (R:RunsAt κ a0 st rs rest) (hi:i + 1 < rs.length)
  (h:∀ st' rs2,RunsAt κ a0 st' rs2 rest→rs2.length + 1=rs.length→Q true st'):wpS (model prog w) A E s ((sortPriv% PySem.Builtin.mergeAt) i) Q st:=by
 have e:rs=rs.take i ++ rs[i] :: rs[i + 1] :: rs.drop (i + 2):=by
  rw [← drop_at hi,← drop_at (show i < rs.length by omega),List.take_append_drop]
 have R':=R
 rw [e] at R'
 refine wpS_mergeRuns hO R' (by rw [List.length_take];omega) fun st3 Z R3=>h st3 _ R3 ?_
 rw [List.length_append,List.length_take,List.length_cons,List.length_drop]
 omega
theorem wpS_runs {st:SortSt} {Q:Unit→SortSt→Prop} (hO:κ.OneLt) (hk:kindOf st=oneType') (hf:failedOf st=none) (hp:pendingOf st=#[]) (hks:KeysOf κ (arrOf st))
  (h:∀ st',failedOf st'=none→(arrOf st').toList.Perm (arrOf st).toList→(arrOf st').toList.Pairwise (kL κ)→Q () st'):wpS (model prog w) A E s (sortPriv% PySem.Builtin.sortRuns) Q st:=by
 obtain ⟨N,hN⟩:∃ N,(arrOf st).size=N:=⟨_,rfl⟩
 have hl:(arrOf st).toList.length=N:=by rw [Array.length_toList,hN]
 have R0:RunsAt κ (arrOf st).toList st [] (arrOf st).toList:=⟨hk,hf,hks,List.Perm.refl _,by simp,by rw [hp];trivial,fun r h=>by simp at h,fun r h=>by simp at h⟩
 generalize (arrOf st).toList=a0 at hl R0 h
 show wpS _ _ _ _ (_ >>= _) _ _
 refine wpS_bind (wpS_get ?_)
 try conv=>arg 5;dsimp -zeta only
 rw [hN]
 refine wpS_bind (wpS_mono (wpS_forRange (I:=fun (x:Nat) (c:Option Unit × Nat) (st':SortSt)=>∃ rs rest,c=(none,rs.flatten.length)∧RunsAt κ a0 st' rs rest∧(x≤rs.flatten.length∨rest=[]))
  (Q:=fun (c:Option Unit × Nat) (st':SortSt)=>∃ rs l,c=(none,l)∧RunsAt κ a0 st' rs []) ?_ ?_ ⟨[],a0,rfl,R0,.inl (by simp)⟩) ?_)
 ·rintro x c st1 _ hx ⟨rs,rest,rfl,R,hpr⟩
  have ln:=R.len
  try conv=>arg 5;dsimp -zeta only
  by_cases z:rs.flatten.length≥N
  ·refine wpS_iteT z ?_
   obtain rfl:rest=[]:=List.length_eq_zero_iff.mp (by omega)
   exact wpS_pure ⟨rs,_,rfl,R⟩
  refine wpS_iteF z ?_
  have hxl:x≤rs.flatten.length:=by
   rcases hpr with y | y
   ·exact y
   ·rw [y,List.length_nil] at ln;omega
  have zs:=R.size
  refine wpS_bind (wpS_count hO R.kind R.keys (show rs.flatten.length + (N - rs.flatten.length)≤(arrOf st1).size by omega) (by omega) fun st2 m g2 m1 m2 u2=>?_)
  try conv=>arg 5;dsimp -zeta only
  extract_lets -underBinder +onlyGivenNames nn jp
  have qn:nn=m:=rfl
  refine wpS_jpS (J:=fun n:Nat=>jp () n) (C:=fun n st3=>SG st1 st3 rs.flatten.length (rs.flatten.length + (N - rs.flatten.length))∧SegUp κ (arrOf st3) rs.flatten.length n∧1≤n∧n≤N - rs.flatten.length) (fun n st3 hc=>?_) (fun hJ=>?_)
  ·obtain ⟨g3,u3,n1,n2⟩:=hc
   obtain ⟨sg,rest2,ls,us,R3⟩:=R.seg g3 u3 (by omega)
   try conv=>arg 5;dsimp -zeta only
   refine wpS_bind (wpS_get ?_)
   try conv=>arg 5;dsimp -zeta only
   extract_lets -underBinder +onlyGivenNames jp2
   refine wpS_jpS (J:=fun _:Unit=>jp2 ()) (C:=fun _ st4=>∃ rs',RunsAt κ a0 st4 rs' (sg ++ rest2)∧rs'.flatten.length=rs.flatten.length) (fun _ st4 hc=>?_) (fun hJ=>?_)
   ·obtain ⟨rs',R4,l4⟩:=hc
    try conv=>arg 5;dsimp -zeta only
    refine wpS_bind (wpS_modify (wpS_pure ⟨rs' ++ [sg],rest2,?_,⟨R4.kind,R4.fail,R4.keys,R4.perm,?_,?_,fun r hr=>?_,fun r hr=>?_⟩,.inl ?_⟩))
    ·rw [List.flatten_append,List.length_append]
     simp [ls,l4]
    ·show (arrOf st4).toList=_
     rw [R4.arr];simp
    ·show PendL 0 (rs' ++ [sg]) ((pendingOf st4).push (rs.flatten.length,n,0)).toList
     rw [Array.toList_push]
     exact PendL.app R4.pend ⟨by rw [l4];simp,ls.symm,trivial⟩
    ·rcases List.mem_append.mp hr with y | y
     ·exact R4.up r y
     ·rw [List.mem_singleton.mp y];exact us
    ·rcases List.mem_append.mp hr with y | y
     ·exact R4.ne r y
     ·rw [List.mem_singleton.mp y]
      intro q
      rw [q] at ls;simp at ls;omega
    ·rw [List.flatten_append,List.length_append,List.flatten_cons,List.flatten_nil,List.append_nil,l4,ls];omega
   ·cases hb:(pendingOf st3).back? with
    | none=>
     try conv=>arg 5;dsimp -zeta only
     exact hJ () st3 ⟨rs,R3,rfl⟩
    | some v=>
     obtain ⟨v1,v2,v3⟩:=v
     try conv=>arg 5;dsimp -zeta only
     refine wpS_bind (wpS_mono (wpS_forRange (I:=fun (y:Nat) (c:Option Unit × Unit) (st':SortSt)=>c=(none,())∧∃ rs',RunsAt κ a0 st' rs' (sg ++ rest2)∧rs'.flatten.length=rs.flatten.length)
      (Q:=fun (c:Option Unit × Unit) (st':SortSt)=>c=(none,())∧∃ rs',RunsAt κ a0 st' rs' (sg ++ rest2)∧rs'.flatten.length=rs.flatten.length) ?_ ?_ ⟨rfl,rs,R3,rfl⟩) ?_)
     ·rintro y c st4 _ hy ⟨rfl,rs',R4,l4⟩
      refine wpS_bind (wpS_get ?_)
      conv=>arg 5;dsimp only
      have lp:(pendingOf st4).size=rs'.length:=by rw [← Array.length_toList];exact R4.pend.len
      by_cases z4:(pendingOf st4).size > 1
      ·rw [if_pos z4]
       obtain ⟨F,X,Y,rfl⟩:=last_two (show 2≤rs'.length by omega)
       have lF:(pendingOf st4).size=F.length + 2:=by rw [lp];simp
       rw [Array.getElem?_eq_getElem (show (pendingOf st4).size - 2 < (pendingOf st4).size by omega)]
       generalize (pendingOf st4)[(pendingOf st4).size - 2]=v
       obtain ⟨v4,v5,v6⟩:=v
       try conv=>arg 5;dsimp -zeta only
       by_cases z5:v6≤(sortPriv% PySem.Builtin.power) N (2 * v1 + v2) (2 * v1 + v2 + v2 + n) N
       ·refine wpS_iteT z5 ?_
        exact wpS_pure ⟨rfl,_,R4,l4⟩
       ·refine wpS_iteF z5 ?_
        refine wpS_bind (wpS_mergeRuns hO (F:=F) (G:=[]) R4 (show F.length=(pendingOf st4).size - 2 by omega) fun st5 Z R5=>?_)
        refine wpS_iteF (by simp) ?_
        have l5:=R5.len
        have l6:=R4.len
        exact wpS_pure ⟨rfl,_,R5,by omega⟩
      ·rw [if_neg z4]
       try conv=>arg 5;dsimp -zeta only
       exact wpS_pure ⟨rfl,_,R4,l4⟩
     ·rintro c st4 hc
      exact hc
     ·rintro c st4 ⟨rfl,rs',R4,l4⟩
      try conv=>arg 5;dsimp -zeta only
      refine wpS_bind (wpS_modify ?_)
      refine hJ () _ ⟨rs',⟨R4.kind,R4.fail,R4.keys,R4.perm,R4.arr,?_,R4.up,R4.ne⟩,l4⟩
      refine R4.pend.congr ?_
      apply List.ext_getElem?
      intro t
      rw [List.getElem?_map,List.getElem?_map,Array.getElem?_toList,Array.getElem?_toList]
      show Option.map _ ((pendingOf st4).modify _ _)[t]?=_
      rw [Array.getElem?_modify]
      split
      ·cases (pendingOf st4)[t]? <;> rfl
      ·rfl
  ·by_cases z2:m < (sortPriv% PySem.Builtin.minRun) N N 0
   ·refine wpS_iteT z2 ?_
    refine wpS_bind (wpS_lift (wpAny_rule ⟨rfl,?_⟩))
    try conv=>arg 5;dsimp -zeta only
    have z2':=g2.size
    refine wpS_bind (wpS_binary hO (g2.kind.trans R.kind) (g2.keys R.keys) (by omega) (by omega) u2 fun st3 g3 u3=>?_)
    refine wpS_iteF (by simp) ?_
    try conv=>arg 5;dsimp -zeta only
    refine hJ _ st3 ⟨⟨g3.kind.trans g2.kind,g3.fail.trans g2.fail,g3.pend.trans g2.pend,g3.perm.trans g2.perm,fun t ht=>(g3.out t (by omega)).trans (g2.out t ht)⟩,u3,by omega,by omega⟩
   ·refine wpS_iteF z2 ?_
    exact hJ m st2 ⟨g2,u2,m1,m2⟩
 ·rintro c st1 ⟨rs,rest,rfl,R,hpr⟩
  have ln:=R.len
  obtain rfl:rest=[]:=by
   rcases hpr with y | y
   ·exact List.length_eq_zero_iff.mp (by omega)
   ·exact y
  exact ⟨rs,_,rfl,R⟩
 ·rintro c st1 ⟨rs,l,rfl,R⟩
  try conv=>arg 5;dsimp -zeta only
  have ln:=R.len
  rw [List.length_nil] at ln
  have lr:=flat_len R.ne
  refine wpS_bind (wpS_mono (wpS_forRange (I:=fun (x:Nat) (c:Option Unit × Unit) (st':SortSt)=>c=(none,())∧∃ rs',RunsAt κ a0 st' rs' []∧(rs'.length + x≤N∨rs'.length≤1))
   (Q:=fun (c:Option Unit × Unit) (st':SortSt)=>c=(none,())∧∃ rs',RunsAt κ a0 st' rs' []∧rs'.length≤1) ?_ ?_ ⟨rfl,rs,R,.inl (by omega)⟩) ?_)
  ·rintro x c st2 _ hx ⟨rfl,rs',R2,h2⟩
   try conv=>arg 5;dsimp -zeta only
   refine wpS_bind (wpS_get ?_)
   try conv=>arg 5;dsimp -zeta only
   have lp:(pendingOf st2).size=rs'.length:=by rw [← Array.length_toList];exact R2.pend.len
   by_cases z:(pendingOf st2).size≤1
   ·refine wpS_iteT z ?_
    exact wpS_pure ⟨rfl,rs',R2,by omega⟩
   refine wpS_iteF z ?_
   try conv=>arg 5;dsimp -zeta only
   have lp':(pendingOf st2).size - 2 + 1 < rs'.length:=by omega
   refine wpS_bind (wpS_mergeRuns2 hO R2 ?_ fun st3 rs3 R3 l3=>?_)
   ·exact ite_lt1 (show (pendingOf st2).size - 2 - 1 + 1 < rs'.length by omega) lp'
   ·refine wpS_iteF (by simp) ?_
    exact wpS_pure ⟨rfl,_,R3,by omega⟩
  ·rintro c st2 ⟨rfl,rs',R2,h2⟩
   exact ⟨rfl,rs',R2,by omega⟩
  ·rintro c st2 ⟨rfl,rs',R2,h2⟩
   refine wpS_pure (h _ R2.fail R2.perm ?_)
   rw [R2.arr,List.append_nil]
   match rs',h2,R2.up with
   | [],_,_=>exact List.Pairwise.nil
   | [r],_,u=>simpa using u r (by simp)
end
end L2
end
section
set_option Elab.async false
set_option linter.all false
set_option maxRecDepth 100000
set_option maxHeartbeats 2000000
namespace L2
open PySem PySem.Spec PyProof.Rows
section
variable {prog:Program} {w:World} {A:Around} {E:Value→Shared→Prop} {s:Shared}
theorem list_sort_L {κ:PyProof.Rows.KeyKind} (hO:κ.OneLt) {a:Addr} {vs:List Value} {n:Nat} {P:PySem.Fin→Shared→Prop} (ho:s.heap.get? a=some (seqObj "list" vs.toArray n)) (h0:KeysOf κ (pairsOf vs))
  (hkk:∀ v₁ v₂ rest,vs=v₁ :: v₂ :: rest→keyKind' (v₁ :: v₂ :: rest).toArray=pure oneType') (hz:vs.length≤1000)
  (h:∀ st':SortSt,(arrOf st').Perm (pairsOf vs)→SortedToK κ (arrOf st') (pairsOf vs).size→P (.done (.ret .none)) { s with heap:=sortedHeap s.heap a vs ((arrOf st').map (·.2)) }) :
  wpAny (model prog w) A (Builtin.«list.sort» ⟨[.ref a],[]⟩) P E s:=by
 by_cases h64:vs.length < 64
 ·exact list_sort_treeK hO ho h0 hkk h64 h
 have ha:a < s.heap.objs.size:=Heap.lt_size ho
 have hvz:vs.length≤sizeLine:=Nat.le_of_lt (small1000 hz)
 rw [list_sort_plain]
 refine wpAny_bind (listItems_at ho rfl (wpAny_bind (listUpdate_at ho rfl ?_ (by rw [List.size_toArray];exact hvz) (Nat.zero_le _))))
 obtain ⟨e1,ho1⟩:∃ e1,(s.heap.update a (Obj.mapSeq fun _=>#[])).get? a=some (seqObj "list" #[] e1):=⟨_,get?_update_seq ho (fun _=>#[])⟩
 refine wpAny_bind (seqEpoch_at ho1 rfl (wpAny_bind (wpAny_newTuple (wpAny_bind (wpAny_newList (wpAny_holding ?_) (Nat.zero_le _))) (by show vs.length≤_;exact hvz))))
 have ho6:(((s.heap.update a (Obj.mapSeq fun _=>#[])).push (seqObj "tuple" vs.toArray 0)).push (seqObj "list" #[] 0)).get? a=some (seqObj "list" #[] e1):=by
  rw [Heap.get?_push_ne _ _ _ (by rw [size_push',Heap.size_update];exact Nat.ne_of_lt (Nat.lt_succ_of_lt ha)),Heap.get?_push_ne _ _ _ (by rw [Heap.size_update];exact Nat.ne_of_lt ha)]
  exact ho1
 show wpAny (model prog w) A _ P E { s with heap:=((s.heap.update a (Obj.mapSeq fun _=>#[])).push (seqObj "tuple" vs.toArray 0)).push (seqObj "list" #[] 0) }
 dsimp only
 have h2:¬vs.toArray.size < 2:=by rw [List.size_toArray];omega
 rw [if_neg h2,if_neg h2]
 obtain ⟨v₁,v₂,rest,rfl⟩:∃ v₁ v₂ rest,vs=v₁ :: v₂ :: rest:=by
  match vs,h64 with
  | [],h64=>simp at h64
  | [_],h64=>simp at h64
  | v₁ :: v₂ :: rest,_=>exact ⟨v₁,v₂,rest,rfl⟩
 rw [hkk _ _ _ rfl]
 refine wpAny_bind (wpAny_pure ?_)
 refine wpAny_bind (wpAny_mono (wpS_runs (κ:=κ) hO (st:=SortSt.mk' oneType' ((v₁ :: v₂ :: rest).toArray.zip (v₁ :: v₂ :: rest).toArray) #[] 7 none)
  (Q:=fun _ st'=>failedOf st'=none∧(arrOf st').toList.Perm (pairsOf (v₁ :: v₂ :: rest)).toList∧(arrOf st').toList.Pairwise (kL κ)) rfl rfl rfl h0 fun st' a1 a2 a3=>⟨a1,a2,a3⟩) ?_ fun _ _ e=>e)
 rintro ⟨⟨⟩,st'⟩ s' ⟨rfl,hf,hp,hs⟩
 have hp':(arrOf st').Perm (pairsOf (v₁ :: v₂ :: rest)):=Array.perm_iff_toList_perm.mpr hp
 dsimp only
 refine wpAny_bind (seqEpoch_at ho6 rfl (wpAny_bind (listUpdate_at ho6 rfl ?_ (Nat.zero_le _) (Nat.le_succ_of_le ?_))))
 ·rw [hf]
  simp only [bne_self_eq_false,Bool.false_eq_true,if_false]
  refine wpAny_pure (h st' hp' fun i j hij hj=>?_)
  rw [← hp'.size_eq] at hj
  rw [KK_kf hj,KK_kf (show i < (arrOf st').size by omega)]
  exact up_at hs hij hj
 ·exact Nat.le_trans (Nat.le_of_eq ((Array.size_map ..).trans (hp'.size_eq.trans (pairsOf_size _)))) hvz
theorem sorted_anyL {v:Value} {Q:Value→Shared→Prop} (hcol:wpAny (model prog w) A.in1 (collect v) (fun vs s1=>∃ ss,StrsAre vs ss∧vs.length≤1000∧
   ∀ (h':Heap) (vs':List Value) (ss':List Str) (e:Nat),(∀ b o,s1.heap.get? b=some o→h'.get? b=some o)→h'.get? s1.heap.objs.size=some (seqObj "list" vs'.toArray e)→StrsAre vs' ss'→ss'.Perm ss→sortedS ss'=true→
    Q (.ref s1.heap.objs.size) { s1 with heap:=h' }) E s):wpAny (model prog w) A (call (.builtin "sorted") [v]) Q E s:=by
 refine Calls.call_function_entry kind_sorted plain_sorted entry_sorted (args_sorted1 _) ?_
 unfold Builtin.«sorted»
 refine wpAny_bind (m:=checkCount "sorted" 1 1 _) (wpAny_pure ?_)
 refine wpAny_bind (thn hcol fun vs s1 ⟨ss,hS,hz,h⟩=>?_)
 refine wpAny_bind (wpAny_newList ?_ (Nat.le_of_lt (small1000 hz)))
 have hoL:(s1.heap.push (seqObj "list" vs.toArray 0)).get? s1.heap.objs.size=some (seqObj "list" vs.toArray 0):=Heap.get?_push_size _ rfl
 refine wpAny_bind (wpAny_holding (wpAny_call_entry slot_list_sort (s:={ s1 with heap:=s1.heap.push (seqObj "list" vs.toArray 0) }) ⟨_,hoL,rfl⟩ entry_list_sort
  (list_sort_L (s:={ s1 with heap:=s1.heap.push (seqObj "list" vs.toArray 0) }) strKind_oneLt hoL hS.keysOf (fun v₁ v₂ rest e=>keyKind_strs (by rw [← e];exact hS)) hz fun st' hp hs=>⟨_,rfl,?_⟩) (args_list_sort _)))
 obtain ⟨ss',h1,h2,h3⟩:=sorted_out_str hS hp hs
 obtain ⟨e,he⟩:=sortedHeap_at (vs:=vs) (out:=(arrOf st').map (·.2)) hoL
 refine wpAny_pure ⟨_,rfl,h _ ((arrOf st').map (·.2)).toList ss' e (fun b o z=>?_) (by rw [Array.toArray_toList];exact he) h1 h2 h3⟩
 have hb:b < s1.heap.objs.size:=Heap.lt_size z
 rw [sortedHeap_old (Nat.ne_of_lt hb) (by rw [Heap.size_push];exact Nat.lt_succ_of_lt hb)]
 exact Heap.get?_push_of_some _ z
end
section
variable {X:Cx}
def rSortSetL (w:World):List V→Hp→VK→Prop:=fun xs H Q=>∃ (p:Addr) (ws:List (List Nat)) (n:Nat),xs=[.ref p]∧H p=some (.ext (SetW w p ws n))∧n≤1000∧
 ∀ (p':Addr) (ws':List (List Nat)),H p'=none→ws'.Nodup→(∀ l,l∈ws'↔l∈ws)→ws'.Pairwise (fun a b=>decide (b < a)=false)→Q (.ref p') (upd H p' (.lst (Ts ws')))
theorem call_sortedSetL (hc:X.calm=true):CallR X (.builtin "sorted") (rSortSetL X.w):=by
 intro pins s σ H xs us Q I r h
 obtain ⟨p,ws,n,rfl,hd,hn,q⟩:=h
 obtain ⟨u,rfl,ru⟩:=vals1 r
 cases ru
 obtain ⟨⟨es,ep,t,m,el,hz⟩,_,_⟩:=(show ObjOk X.prog X.w H s.heap p (.ext (SetW X.w p ws n)) from I.hok _ _ hd)
 refine sorted_anyL (set_collect (A:=X.A.in1) (I.ok.hd hc) m (by omega) fun h' tk d acc kk pm=>?_)
 have hS:∀ v∈acc,∃ (l:List Nat) (u:Tok),v=.str (S l) u:=fun v hv=>by
  obtain ⟨e,he,rfl⟩:=List.mem_map.mp (pm.mem_iff.mp hv)
  obtain ⟨l,u,rfl⟩:=el.sh e he
  exact ⟨l,u,rfl⟩
 have pk:(acc.map fun v=>keyT (0,v)).Perm (es.toList.map keyT):=by
  have:=pm.map fun v=>keyT (0,v)
  rw [List.map_map] at this
  exact this
 have hl:(es.toList.map keyT).length≤1000:=by rw [List.length_map,Array.length_toList];omega
 have I1:Inv X pins σ H { s with heap:=h',toks:=tk,drawn:=d }:=(I.kept (t':=tk) kk).drawT d
 refine ⟨_,strsT_of acc hS,by rw [pm.length_eq];simpa using hl,fun h2 vs' ss' e k2 he hS' pm2 so=>?_⟩
 have es':ss'=(ss'.map fun y=>y.cps.toList).map S:=by
  rw [List.map_map]
  refine (List.map_id _).symm.trans (List.map_congr_left fun y _=>?_)
  exact (S_of y).symm
 have pm':(ss'.map fun y=>y.cps.toList).Perm (es.toList.map keyT):=by
  have:=pm2.map fun y:Str=>y.cps.toList
  rw [List.map_map] at this
  have e:((fun y:Str=>y.cps.toList) ∘ S)=id:=rfl
  rw [e,List.map_id] at this
  exact this.trans pk
 have hv:Vals (Ts (ss'.map fun y=>y.cps.toList)) vs':=by
  have:=vals_of_strs hS'
  rw [es'] at this
  simpa [Ts,Function.comp_def] using this
 have hl2:(Ts (ss'.map fun y=>y.cps.toList)).length≤sizeLine:=by
  rw [List.length_map,pm'.length_eq];exact Nat.le_of_lt (small1000 (by omega))
 refine ⟨.ref h'.objs.size,_,I1.laid (o:=.lst _) (t':=tk) k2 (Nat.le_refl _) ⟨hl2,vs',e,hv,he⟩,rfl,q _ _ I1.fresh (pm'.nodup_iff.mpr el.nd) (fun l=>pm'.mem_iff.trans (el.mem l)) (sorted_pw ss' so)⟩
end
end L2
end
section
set_option Elab.async false
set_option linter.all false
set_option maxRecDepth 100000
set_option maxHeartbeats 2000000
namespace L2
open PySem PySem.Spec PyProof.Rows PySem.W
section
variable {X:Cx}
def tDSetd (td ty tx:TE):TE:=fun σ H Q=>td σ H fun x H1=>∃ a,x=.ref a∧IsD H1 a∧ty σ H1 fun y H2=>tx σ H2 fun z H3=>∃ kvs k,H3 a=some (.dK kvs)∧y=kV k∧kvs.length < sizeLine∧
 (∀ v,valV kvs k=some v→Q v H3)∧(valV kvs k=none→Q z (upd H3 a (.dK (putK kvs k z))))
theorem d_setd {pins:List (Addr × Obj)} {σ:St} {H:Hp} {s:Shared} {a:Addr} {z:V} {u r:Value} {kvs:List (Key × V)} {k:Key} {A:Around} {E:Value→Shared→Prop} {Q:Value→Shared→Prop} (I:Inv X pins σ H s) (e:H a=some (.dK kvs)) (ry:RelV (kV k) u) (rz:RelV z r) (l:kvs.length < sizeLine)
  (h1:∀ v w' s',valV kvs k=some v→Inv X pins σ H s'→RelV v w'→Q w' s') (h2:∀ s',valV kvs k=none→Inv X pins σ (upd H a (.dK (putK kvs k z))) s'→Q r s') :
  wpAny (model X.prog X.w) A (call (.builtin "dict.setdefault") [.ref a,u,r]) Q E s:=by
 obtain ⟨hz,hd,vs,rel,dd⟩:=(show ObjOk X.prog X.w H s.heap a (.dK kvs) from I.hok a _ e)
 have rv:=rel.val k
 refine call_meetsIn PySem.F.slot_dict_setdefault dd.typeIs PySem.F.entry_dict_setdefault (PySem.F.args_dict_setdefault_3 _ _ _) (kt_meets_setdefault (mixKind X.prog X.w) a (kV_is ry) hd r) ⟨vs,dd,by rw [← KV.length rel];exact hz,fun v hv=>?_,fun hv h' dd' hs=>?_⟩
 ·rw [hv] at rv
  cases ev:valV kvs k with
  | none=>rw [ev] at rv;cases rv
  | some y=>
   rw [ev] at rv
   exact h1 y v _ ev (I.tok _) rv
 ·rw [hv] at rv
  cases ev:valV kvs k with
  | some y=>rw [ev] at rv;cases rv
  | none=>
   have hl:(putK kvs k z).length≤sizeLine:=by have:=length_putK kvs k z;omega
   have he:∃ q,h'.get? a=some q:=let ⟨q,_,_,hq,_⟩:=dd';⟨q,hq⟩
   exact h2 _ ev (d_write I (by rw [e];exact True.intro) hs he (dk_new hl hd (KV.put rel k rz) dd'))
theorem qe_dsetd {o e f:Expr} {apos cpos:Pos} {td ty tx:TE} (ho:QE X o td) (he:QE X e ty) (hf:QE X f tx) (m:M2 X o "setdefault" apos e f cpos):QE X (.Call (.Attribute o "setdefault" apos) [e,f] [] cpos) (tDSetd td ty tx):=⟨by
 intro pins s σ H Q I h
 refine wpAny_Call_method m.base m.few m.line PySem.F.plainAttrs_dict PySem.F.slot_dict_setdefault PySem.F.type_dict_setdefault (thn (ho.out pins s σ H _ I h) fun u s1 ⟨x,H1,I1,rx,a,ex,d,q1⟩=>?_)
 subst ex
 obtain rfl:u=Value.ref a:=rx
 obtain ⟨t1,t2,_⟩:=isD_at I1 d
 refine ⟨t1,t2,?_⟩
 rw [m.trees]
 refine Calls.callWith_builtin rfl (Calls.evalArgs_plain (Calls.spliced_cons (thn (he.out pins s1 σ H1 _ I1 q1) fun iv s2 ⟨y,H2,I2,ry,q2⟩=>
  Calls.spliced_cons (thn (hf.out pins s2 σ H2 _ I2 q2) fun fv s3 ⟨z,H3,I3,rz,kvs,k,ea,ey,l,q3,q4⟩=>Calls.spliced_nil ?_))))
 subst ey
 exact d_setd I3 ea ry rz l (fun v w' s4 ev I4 rv=>⟨v,H3,I4,rv,q3 v ev⟩) fun s4 ev I4=>⟨z,_,I4,rz,q4 ev⟩⟩
end
end L2
end
section
set_option Elab.async false
set_option linter.all false
set_option maxRecDepth 100000
set_option maxHeartbeats 2000000
namespace L2
open PySem PySem.Spec PyProof.Rows PySem.W
theorem pair_get {α β:Type} {R:α→β→Prop}:∀ {l:List α} {m:List β} {i:Nat} {p:α},Paired R l m→l[i]?=some p→∃ q,m[i]?=some q∧R p q
 | _,_,0,p,.cons (b:=q) r _,e=>⟨q,rfl,by simp at e;rw [← e];exact r⟩
 | _,_,i + 1,p,.cons _ t,e=>by simpa using pair_get t (by simpa using e)
section
variable {X:Cx} {pins:List (Addr × Obj)} {σ:St} {H:Hp} {s:Shared}
theorem Inv.pairK {it:Addr} {x y:V} {u v:Value} {h1 h2:Heap} (I:Inv X pins σ H s) (hf:FpOk X pins H it) (li:it < s.heap.objs.size) (rx:RelV x u) (ry:RelV y v)
  (hT:h1.get? s.heap.objs.size=some { cls:=.type "tuple",data:=.seq #[u,v] }) (hk:∀ b o,b≠it→s.heap.get? b=some o→h1.get? b=some o) (hs:Heap.SameBut it h1 h2) :
  Inv X pins σ (upd H s.heap.objs.size (.tup [x,y])) { s with heap:=h2,toks:=s.toks }∧upd H s.heap.objs.size (.tup [x,y]) it=none:=by
 have I2:Inv X pins σ (upd H s.heap.objs.size (.tup [x,y])) { s with heap:=s.heap.push { cls:=.type "tuple",data:=.seq #[u,v] },toks:=s.toks }:=
  I.laid (fun b v e=>Heap.get?_push_of_some _ e) (Nat.le_refl _) ⟨by show 2≤sizeLine;decide,[u,v],.cons rx (.cons ry .nil),⟨_,Heap.get?_push_size _ rfl,rfl,_,rfl⟩⟩
 have fr:upd H s.heap.objs.size (.tup [x,y]) it=none:=by rw [upd_ne (Nat.ne_of_lt li)];exact hf.1
 obtain ⟨f0,f1,f2,f3,f4,f5⟩:=hf
 have I3:=Inv.turned (s:={ s with heap:=s.heap.push { cls:=.type "tuple",data:=.seq #[u,v] },toks:=s.toks }) (h':=h2) (t':=s.toks) (it:=it) I2 (fun b o hb g=>?_) fr f1 f3 f4 f5
 ·exact ⟨I3,fr⟩
 ·rw [hs.2 b hb]
  rcases Heap.get?_push_cases g with ⟨z1,z2⟩ | z
  ·rw [z1,z2];exact hT
  ·exact hk b o hb z
end
def Iti (o:Obj) (d:Addr) (kvs:List (Key × V)):It:=
 ⟨fun i H=>i < kvs.length∧H d=some (.frz o (.dK kvs)),fun i H x H'=>∃ T k v,H T=none∧x=.ref T∧kvs[i]?=some (k,v)∧H'=upd H T (.tup [kV k,v]),fun i H=>kvs.length≤i∧H d=some (.frz o (.dK kvs))⟩
theorem turn_items {P:Program} {w:World} {K:PySem.W.Frag} {elts:List Expr} {x1} {pos:Pos} {o:Obj} {d it:Addr} {kvs:List (Key × V)} {es0:Array DictEntry} {ep:Nat} (ho:o.data=.dict es0 ep):Turn P w K (.Tuple elts x1 pos) (Iti o d kvs) [it] it (fun i h=>∃ ok ov,IsItemIter h it d i kvs.length ep ok ov) where
 mem:=by simp
 obj:=fun i h st b hb=>by
  have e:b=it:=by simpa using hb
  subst e
  obtain ⟨ok,ov,st⟩:=st
  exact ⟨_,st,fun v z=>by
   have z':Data.fields _=Data.cell v:=z
   cases z'⟩
 keep:=fun i h h' st k=>by
  obtain ⟨ok,ov,st⟩:=st
  exact ⟨ok,ov,k it (by simp) _ st⟩
 item:=by
  intro X hP hw hK hc i pins s σ H E I hf st hg
  subst hP hw hK
  obtain ⟨ok,ov,st⟩:=st
  obtain ⟨hi,hq⟩:=hg
  obtain ⟨_,_,vs,r,da⟩:=frz_at I.hok hq ho
  have hl:=KV.length r
  obtain ⟨⟨k',v⟩,hx,ek,rv⟩:=pair_get r (List.getElem?_eq_getElem hi)
  refine wpAny_pyNext_items_item (kvs:=vs) (by rw [← hl];exact st) da hx fun key h' hk hout hT hsz hkeep=>?_
  rw [← hl] at hout
  refine ⟨_,rfl,wpAny_letOwnedTupleGo_items hout fun h2 he2 hs2=>?_⟩
  obtain ⟨I3,fr⟩:=Inv.pairK I (hf it (by simp)) (Heap.lt_size st) (rel_key hk) rv hT hkeep hs2
  have ek:kvs[i].1=k':=ek
  refine ⟨.ref s.heap.objs.size,_,I3,rfl,⟨s.heap.objs.size,k',kvs[i].2,I.hok.fresh (Nat.le_refl _),rfl,by rw [List.getElem?_eq_getElem hi,← ek],rfl⟩,⟨_,_,he2⟩,fun b hb=>?_⟩
  have e:b=it:=by simpa using hb
  rw [e];exact fr
 done:=by
  intro X hP hw hK hc i pins s σ H E I hf st hg
  subst hP hw hK
  obtain ⟨ok,ov,st⟩:=st
  obtain ⟨hi,hq⟩:=hg
  obtain ⟨_,_,vs,r,da⟩:=frz_at I.hok hq ho
  have hl:=KV.length r
  obtain ⟨f0,f1,f2,f3,f4,f5⟩:=hf it (by simp)
  exact wpAny_pyNext_items_end (kvs:=vs) (I.ok.hd hc) (by rw [← hl];exact st) da (by simp;omega) fun h' eb=>⟨rfl,I.turned (t':=s.toks) (fun b o hb e=>eb b o hb e) f0 f1 f3 f4 f5⟩
 self:=fun _ _ _ _ _ st h=>by
  obtain ⟨ok,ov,st⟩:=st
  exact kcp_self st h
def ViewD (v d:Addr):Heap→Prop:=fun h=>h.IsItemsView v d
section
variable {X:Cx}
theorem mt_items:MtM X "dict.items" (fun x vs H Q=>∃ (a:Addr) (kvs:List (Key × V)),x=.ref a∧vs=[]∧H a=some (.dK kvs)∧∀ v,H v=none→Q (.ref v) (upd H v (.ext (ViewD v a)))):=by
 intro pins s σ H x vs v us Q I rx rv h
 obtain ⟨a,kvs,rfl,rfl,hH,q⟩:=h
 cases rx
 have hus:=rv.zero
 subst hus
 obtain ⟨z,y,vs,r,dd⟩:=(show ObjOk X.prog X.w H s.heap a (.dK kvs) from I.hok a _ hH)
 refine call_meetsIn PySem.F.slot_dict_items dd.typeIs PySem.F.entry_dict_items (PySem.F.args_dict_items_1 _) (meets_dict_items (mixKind X.prog X.w) a y) ⟨⟨vs,dd⟩,?_⟩
 have hn:s.heap.objs.size≤s.heap.objs.size:=Nat.le_refl _
 refine ⟨.ref s.heap.objs.size,_,I.laid (o:=.ext (ViewD s.heap.objs.size a)) (t':=s.toks) (fun b u e=>Heap.get?_push_of_some _ e) hn ⟨⟨_,Heap.get?_push_size _ rfl,rfl,rfl⟩,⟨_,Heap.get?_push_size _ rfl⟩,fun h1 h2 p k=>?_⟩,rfl,q _ I.fresh⟩
 obtain ⟨o,h1,h2,h3⟩:=p
 exact ⟨o,k o h1,h2,h3⟩
def iItems (tl:TE):TI:=fun σ H R=>tl σ H fun x H1=>∃ v d kvs,x=.ref v∧H1 v=some (.ext (ViewD v d))∧H1 d=some (.dK kvs)∧∀ o:Obj,R (Iti o d kvs) (upd H1 d (.frz o (.dK kvs)))
theorem qi_items {elts:List Expr} {x1} {tp:Pos} {l:Expr} {tl:TE} (hl:QE X l tl):QI X (.Tuple elts x1 tp) l (iItems tl):=⟨by
 intro pins s σ H R I h
 refine thn (hl.out pins s σ H _ I h) fun v s1 ⟨x,H1,I1,r1,q1⟩=>?_
 obtain ⟨v,d,kvs,e,hv,hd,q⟩:=q1
 subst e
 cases r1
 obtain ⟨hview,_,_⟩:=(show ObjOk X.prog X.w H1 s1.heap v (.ext (ViewD v d)) from I1.hok v _ hv)
 obtain ⟨z,y,vs,r,o,es,ep,e1,c,e2,r2⟩:=(show ObjOk X.prog X.w H1 s1.heap d (.dK kvs) from I1.hok d _ hd)
 have da:s1.heap.DictAt (mixKind X.prog X.w) d vs ep:=⟨o,es,e1,c,e2,r2⟩
 have I2:Inv X pins σ (upd H1 d (.frz o (.dK kvs))) { s1 with heap:=s1.heap,toks:=s1.toks }:=I1.write (x:=d) (e:=d) (by rw [hd];trivial) (.inl rfl) (fun _ _ _ e=>e) ⟨o,e1⟩ ⟨e1,z,y,vs,r,o,es,ep,e1,c,e2,r2⟩
 have I2:Inv X pins σ (upd H1 d (.frz o (.dK kvs))) s1:=I2
 refine wpAny_pyIter_items hview da ?_
 refine ⟨s1.heap.objs.size,[s1.heap.objs.size],_,_,_,rfl,I2.kept (t':=s1.toks) fun b o e=>Heap.get?_push_of_some _ e,turn_items (kvs:=kvs) e2,⟨.none,.none,by rw [KV.length r];exact Heap.get?_push_size _ rfl⟩,fun b hb=>?_,q o⟩
 have e:b=s1.heap.objs.size:=by simpa using hb
 subst e
 exact I2.fpOk (Nat.le_refl _) (I2.hok.fresh (Nat.le_refl _))⟩
end
theorem for_items {o:Obj} {d:Addr} {kvs:List (Key × V)} {g:TG} {tb:TS} {D:Ends} {σ:St} {H:Hp} (Pv:Nat→St→Hp→Prop) (h0:Pv 0 σ H) (hl:∀ i σ H,i≤kvs.length→Pv i σ H→H d=some (.frz o (.dK kvs)))
  (hs:∀ i k v σ H T,kvs[i]?=some (k,v)→Pv i σ H→H T=none→g (.ref T) σ (upd H T (.tup [kV k,v])) fun σ2 H2=>tb { D with nx:=Pv (i + 1),ct:=Pv (i + 1),bk:=D.nx } σ2 H2) (hd:∀ σ H,Pv kvs.length σ H→D.nx σ H) :
  ∃ W:Nat→Nat→St→Hp→Prop,(∃ m,W 0 m σ H)∧∀ i m σ H,W i m σ H→
   ((Iti o d kvs).stop i H∧D.nx σ H)∨((Iti o d kvs).go i H∧∃ N:St→Hp→Prop,(∀ σ' H',N σ' H'→∃ m',m' < m∧W (i + 1) m' σ' H')∧∀ x H',(Iti o d kvs).yld i H x H'→g x σ H' fun σ2 H2=>tb { D with nx:=N,ct:=N,bk:=D.nx } σ2 H2):=by
 refine ⟨fun i m σ H=>m=kvs.length - i∧i≤kvs.length∧Pv i σ H,⟨kvs.length,by simp,Nat.zero_le _,h0⟩,?_⟩
 rintro i m σ H ⟨rfl,hi,p⟩
 have q:=hl i σ H hi p
 by_cases hlt:i < kvs.length
 ·refine .inr ⟨⟨hlt,q⟩,Pv (i + 1),fun σ' H' p'=>⟨kvs.length - (i + 1),by omega,rfl,hlt,p'⟩,fun x H' y=>?_⟩
  obtain ⟨T,k,v,hT,hx,hk,e⟩:=y
  subst e hx
  exact hs i k v σ _ T hk p hT
 ·have e:i=kvs.length:=by omega
  subst e
  exact .inl ⟨⟨Nat.le_refl _,q⟩,hd σ H p⟩
end L2
end
section
set_option Elab.async false
set_option linter.all false
set_option maxRecDepth 100000
set_option maxHeartbeats 2000000
namespace L2
open PySem PySem.Spec PyProof.Rows PySem.W
theorem call_sortedSetLW {X:Cx} (w:World) (hc:X.calm=true) (h:X.w=w:=by rfl):CallR X (.builtin "sorted") (rSortSetL w):=by subst h;exact call_sortedSetL hc
section
variable {X:Cx}
def tDisp1T (tk tv:TE):TE:=fun σ H Q=>∀ p,H p=none→tk σ (upd H p (.dT [])) fun y H1=>tv σ H1 fun v H2=>∃ k b,y=.ref b∧H2 p=some (.dT [])∧H2 b=some (.tup (k.map kV))∧Q (.ref p) (upd H2 p (.dT [(k,v)]))
theorem qe_disp1T {k v:Expr} {tk tv:TE} {pos:Pos} (hu:X.A.units + 1 < cLine) (hk:QE X k tk) (hv:QE X v tv):QE X (.Dict [some k] [v] pos) (tDisp1T tk tv):=⟨by
 intro pins s σ H Q I q
 have hn:=I.hok.fresh (Nat.le_refl s.heap.objs.size)
 have I1:=I.laid (a:=s.heap.objs.size) (o:=.dT []) (h':=s.heap.push { cls:=.type "dict",data:=.dict #[] }) (t':=s.toks) (fun _ _ q=>Heap.get?_push_of_some _ q) (Nat.le_refl _) (dt_empty s.heap I.big)
 rw [arm_eval_Dict,zip_pairTrees [some k] [v] X.env pos rfl rfl,dictDisplay_pairs _ (by simp [pairTrees]) (by simp [pairTrees])]
 refine wpAny_bind (wpAny_standAt (wpAny_bind ?_))
 unfold subDict
 refine wpAny_bind (wpAny_alloc (wpAny_bind (wpAny_holding ?_)))
 rw [if_pos (by simp [pairTrees])]
 refine wpAny_bind (pairTrees_cons_walk (thn (hk.out pins _ σ _ _ I1 (q _ hn)) fun kv s1 ⟨y,H1,I2,ry,q1⟩=>thn (hv.out pins s1 σ H1 _ I2 q1) fun vv s2 ⟨z,H2,I3,rz,kk,b,ey,hp,hb,q2⟩=>pairTrees_nil_walk (wpAny_holding ?_)))
 subst ey
 obtain rfl:kv=Value.ref b:=ry
 obtain ⟨_,hd,xs,rel,dd⟩:=dt_of I3.hok hp
 cases rel
 rw [List.forIn_cons]
 refine wpAny_bind (wpAny_bind (wpAny_bind (wpAny_dictSet_heap (hsz:=Nat.zero_le _) (show X.A.units < cLine by omega) (key_of I3.hok hb) dd fun h' dd' hs=>wpAny_pure ?_)))
 dsimp only
 rw [List.forIn_nil]
 refine wpAny_pure (wpAny_pure (wpAny_pure (wpAny_pure ⟨.ref s.heap.objs.size,_,?_,rfl,q2⟩)))
 obtain ⟨o,es,ep,hq,h2,h3,h4,_,h5⟩:=dd'
 refine d_write I3 (by rw [hp];exact True.intro) hs ⟨o,hq⟩ ⟨by show 1≤sizeLine;decide,hd,_,.cons ⟨rfl,?_,rz⟩ .nil,o,es,ep,hq,h2,h3,h4,h5⟩
 rw [upd_ne (ne_of hb hp (fun z=>nomatch z))]
 exact hb⟩
end
end L2
end
section
set_option Elab.async false
set_option linter.all false
set_option maxRecDepth 100000
set_option maxHeartbeats 2000000
namespace L2
open PySem PySem.Spec PyProof.Rows PySem.W
section
variable {X:Cx}
end
mutual
inductive HasB (K:PySem.W.Frag) (H:Hp):Nat→PyData→V→Prop
 | non {n}:HasB K H n .none .non
 | bl {n} (b:Bool):HasB K H n (.bool b) (.bl b)
 | int {n} (i:Int):HasB K H n (.int i) (.int i)
 | str {n} (l:List Nat) (h:∀ c∈l,c < 128):HasB K H n (.str (S l)) (.str (S l))
 | tup {n a ds xs} (h:SqT K H a xs) (hs:HasBs K H n ds xs):HasB K H (n + 1) (.tuple ds) (.ref a)
inductive HasBs (K:PySem.W.Frag) (H:Hp):Nat→List PyData→List V→Prop
 | nil {n}:HasBs K H n [] []
 | cons {n d ds x xs} (h:HasB K H n d x) (hs:HasBs K H n ds xs):HasBs K H n (d :: ds) (x :: xs)
end
mutual
theorem HasB.lay {K:PySem.W.Frag} {H:Hp}:∀ {n:Nat} {d:PyData} {x:V},HasB K H n d x→d.canLay0=true∧d.depth≤n∧PyData.eqv d d=true
 | _,_,_,.non=>by simp [PyData.canLay0,PyData.depth,PyData.eqv]
 | _,_,_,.bl _=>by simp [PyData.canLay0,PyData.depth,PyData.eqv]
 | _,_,_,.int _=>by simp [PyData.canLay0,PyData.depth,PyData.eqv]
 | _,_,_,.str l h=>by simp only [PyData.canLay0,PyData.depth,PyData.eqv];exact ⟨strOk_S h,Nat.zero_le _,by simp⟩
 | _,_,_,.tup _ hs=>by
  simp only [PyData.canLay0,PyData.depth,PyData.eqv]
  have:=hs.lay
  exact ⟨this.1,Nat.succ_le_succ this.2.1,this.2.2⟩
theorem HasBs.lay {K:PySem.W.Frag} {H:Hp}:∀ {n:Nat} {ds:List PyData} {xs:List V},HasBs K H n ds xs→PyData.canLayAll0 ds=true∧PyData.depthAll ds≤n∧PyData.eqvAll ds ds=true
 | _,_,_,.nil=>by simp [PyData.canLayAll0,PyData.depthAll,PyData.eqvAll]
 | _,_,_,.cons h hs=>by
  have a:=h.lay
  have b:=hs.lay
  simp only [PyData.canLayAll0,PyData.depthAll,PyData.eqvAll,Bool.and_eq_true]
  exact ⟨⟨a.1,b.1⟩,Nat.max_le.mpr ⟨a.2.1,b.2.1⟩,a.2.2,b.2.2⟩
end
mutual
theorem HasB.mvT {K:PySem.W.Frag} {H H':Hp} (st:∀ a xs,SqT K H a xs→SqT K H' a xs):∀ {n:Nat} {d:PyData} {x:V},HasB K H n d x→HasB K H' n d x
 | _,_,_,.non=>.non
 | _,_,_,.bl b=>.bl b
 | _,_,_,.int i=>.int i
 | _,_,_,.str l h=>.str l h
 | _,_,_,.tup h hs=>.tup (st _ _ h) (hs.mvT st)
theorem HasBs.mvT {K:PySem.W.Frag} {H H':Hp} (st:∀ a xs,SqT K H a xs→SqT K H' a xs):∀ {n:Nat} {ds:List PyData} {xs:List V},HasBs K H n ds xs→HasBs K H' n ds xs
 | _,_,_,.nil=>.nil
 | _,_,_,.cons h hs=>.cons (h.mvT st) (hs.mvT st)
end
section
variable {X:Cx}
mutual
theorem HasB.reads {pins:List (Addr × Obj)} {σ:St} {H:Hp} {s:Shared} (I:Inv X pins σ H s):∀ {n:Nat} {d:PyData} {x:V} {u:Value},HasB X.K H n d x→RelV x u→∃ as,Reads s.heap u d as
 | _,_,_,u,.non,r=>by cases r;exact ⟨[],.none⟩
 | _,_,_,u,.bl b,r=>by cases r;exact ⟨[],.bool b⟩
 | _,_,_,u,.int i,r=>by obtain ⟨t,rfl⟩:=r;exact ⟨[],.int i t⟩
 | _,_,_,u,.str l h,r=>by obtain ⟨t,rfl⟩:=r;exact ⟨[],.str _ t⟩
 | _,_,_,u,.tup h hs,r=>by
  cases r
  obtain ⟨its,rv,pl,_⟩:=I.tuple h
  obtain ⟨as,ra⟩:=hs.reads I rv
  obtain ⟨o,ho,hc,n,hd⟩:=pl
  exact ⟨as,.tuple ho hc hd (by simpa using ra)⟩
theorem HasBs.reads {pins:List (Addr × Obj)} {σ:St} {H:Hp} {s:Shared} (I:Inv X pins σ H s):∀ {n:Nat} {ds:List PyData} {xs:List V} {us:List Value},HasBs X.K H n ds xs→Vals xs us→∃ as,ReadsAll s.heap us ds as
 | _,_,_,us,.nil,r=>by cases r;exact ⟨[],.nil⟩
 | _,_,_,us,.cons h hs,r=>by
  cases r with
  | cons q t=>
   obtain ⟨as,a⟩:=h.reads I q
   obtain ⟨bs,b⟩:=hs.reads I t
   exact ⟨as ++ bs,.cons a b⟩
end
end
end L2
end
section
set_option Elab.async false
set_option linter.all false
set_option maxRecDepth 100000
set_option maxHeartbeats 2000000
namespace L2
open PySem PySem.Spec PyProof.Rows PySem.W
section
variable {X:Cx}
def rSortLL (K:PySem.W.Frag):List V→Hp→VK→Prop:=fun xs H Q=>∃ (a:Addr) (ws:List (List Nat)),xs=[.ref a]∧SqL K H a (Ts ws)∧ws.length≤1000∧
 ∀ (p:Addr) (ws':List (List Nat)),H p=none→ws'.Perm ws→ws'.Pairwise (fun a b=>decide (b < a)=false)→Q (.ref p) (upd H p (.lst (Ts ws')))
theorem call_sortedLL:CallR X (.builtin "sorted") (rSortLL X.K):=by
 intro pins s σ H xs us Q I r h
 obtain ⟨a,ws,rfl,hS,hz,q⟩:=h
 obtain ⟨u,rfl,ru⟩:=vals1 r
 cases ru
 obtain ⟨its,rv,pl,hz2⟩:=I.list hS
 have hlen:its.length=ws.length:=by have:=rv.length;simpa using this.symm
 obtain ⟨o,ho,hcl,nn,hdt⟩:=pl.isList
 refine sorted_anyL (wpAny_collect_seq a (.inl rfl) ho hcl hdt (fun h' kk=>?_) (by rw [List.size_toArray];exact Nat.le_of_lt (small1000 (by omega))))
 have I1:Inv X pins σ H { s with heap:=h' }:=I.kept (t':=s.toks) kk
 refine ⟨_,strs_of rv,by simpa [hlen] using hz,fun h2 vs' ss' e k2 he hS' pm2 so=>?_⟩
 have es':ss'=(ss'.map fun y=>y.cps.toList).map S:=by
  rw [List.map_map]
  refine (List.map_id _).symm.trans (List.map_congr_left fun y _=>?_)
  exact (S_of y).symm
 have pm':(ss'.map fun y=>y.cps.toList).Perm ws:=by
  have:=pm2.map fun y:Str=>y.cps.toList
  rw [List.map_map] at this
  have e:((fun y:Str=>y.cps.toList) ∘ S)=id:=rfl
  rw [e,List.map_id] at this
  exact this
 have hv:Vals (Ts (ss'.map fun y=>y.cps.toList)) vs':=by
  have:=vals_of_strs hS'
  rw [es'] at this
  simpa [Ts,Function.comp_def] using this
 have hl2:(Ts (ss'.map fun y=>y.cps.toList)).length≤sizeLine:=by
  rw [List.length_map,pm'.length_eq];exact Nat.le_of_lt (small1000 (by omega))
 exact ⟨.ref h'.objs.size,_,I1.laid (o:=.lst _) (t':=s.toks) k2 (Nat.le_refl _) ⟨hl2,vs',e,hv,he⟩,rfl,q _ _ I1.fresh pm' (sorted_pw ss' so)⟩
theorem call_sortedLLK (K:PySem.W.Frag) (h:X.K=K:=by rfl):CallR X (.builtin "sorted") (rSortLL K):=by subst h;exact call_sortedLL
end
section
variable {prog:Program} {w:World} {A:Around} {E:Value→Shared→Prop} {s:Shared}
theorem updT_tup {S0 l:Addr} {items:Array Value} {val:Nat→List Nat} {Q:Unit→Shared→Prop} (hh:A.handled=none) (hl:IsTup s.heap l items) (hS:SetW w S0 [] 0 s.heap) (hne:S0≠l) (hlt:S0 < s.heap.objs.size)
  (hval:∀ i v,items[i]?=some v→∃ t:Tok,v=Value.str (S (val i)) t) (hb:items.size + 1 < scanBound)
  (q:∀ h' tk,(∀ b o,b≠S0→s.heap.get? b=some o→h'.get? b=some o)→SetW w S0 ((List.range items.size).map val) items.size h'→Q () { s with heap:=h',toks:=tk }) :
  wpAny (model prog w) A (Builtin.Frozenset.updateFrom "set.__init__" S0 (.ref l)) Q E s:=by
 obtain ⟨ol,hol,hcl,nl,hdl⟩:=id hl
 obtain ⟨ocls,odict,odata,oslots⟩:=ol
 simp only at hcl hdl
 subst hcl;subst hdl
 have hsls:=F.sub_tuple_set
 have hslf:=F.sub_tuple_frozenset
 have hnd:(Value.type "tuple" == Value.type "dict")=false:=by decide
 unfold Builtin.Frozenset.updateFrom
 generalize hPI:pyIter=PI
 wp_walk
 subst hPI
 refine wpAny_pyIter_tuple (show s.heap.IsTuple l items from hl) ?_
 refine wpAny_bind (wpAny_runValue ?_)
 have hlS:l < s.heap.objs.size:=Heap.lt_size hol
 have hneI:l≠s.heap.objs.size:=Nat.ne_of_lt hlS
 refine setT_loop (Walks.tuple (by simp [hh]) _ l hneI items) S0 (by simp only [List.mem_cons,List.not_mem_nil,or_false,not_or];exact ⟨Nat.ne_of_lt hlt,hne⟩) val hval hb (items.size - 0) 0 _ (by omega) (Nat.zero_le _)
  ⟨⟨_,Heap.get?_push_size _ rfl,rfl,rfl⟩,hl.keeps fun b o e=>Heap.get?_push_of_some _ e⟩ (hS.mv fun o e=>Heap.get?_push_of_some _ e) fun h' tk k m=>?_
 refine wpAny_pure ?_
 refine q h' tk (fun b o hb e=>k b o ?_ (Heap.get?_push_of_some _ e)) m
 simp only [List.mem_cons,List.not_mem_nil,or_false,not_or]
 exact ⟨hb,Nat.ne_of_lt (Heap.lt_size e)⟩
end
section
variable {X:Cx}
def rSetTT (w:World) (K:PySem.W.Frag):List V→Hp→VK→Prop:=fun xs H Q=>∃ (a:Addr) (ws:List (List Nat)),xs=[.ref a]∧SqT K H a (Ts ws)∧ws.length≤1000∧
 ∀ p,H p=none→Q (.ref p) (upd H p (.ext (SetW w p ws ws.length)))
theorem call_setTT (hc:X.calm=true):CallR X (.type "set") (rSetTT X.w X.K):=by
 intro pins s σ H xs us Q I r h
 obtain ⟨p,ws,rfl,hq,hz,q⟩:=h
 obtain ⟨u,rfl,ru⟩:=vals1 r
 cases ru
 obtain ⟨its,rv,pl,hz2⟩:=I.tuple hq
 have hlen:=rv.length
 rw [List.length_map] at hlen
 have hlt:p < s.heap.objs.size:=by
  obtain ⟨o,ho,_⟩:=pl
  exact Heap.lt_size ho
 have hval:∀ (i:Nat) (v:Value),its.toArray[i]?=some v→∃ t:Tok,v=Value.str (S (ws.getD i [])) t:=fun i v hv=>by
  have hv:its[i]?=some v:=by simpa using hv
  have hi:i < ws.length:=by have:=(List.getElem?_eq_some_iff.mp hv).1;omega
  obtain ⟨u,hu,ru⟩:=rv.get (i:=i) (x:=.str (S ws[i])) (by simp [hi])
  rw [hv] at hu;cases hu
  obtain ⟨t,e⟩:=ru
  exact ⟨t,by rw [e];simp [List.getD,hi]⟩
 have hsz:its.toArray.size=ws.length:=by simp [hlen]
 refine call_setT (ws:=ws) (n:=ws.length) (I.ok.hd hc) (fun A' E' Q' h1 hA' s1 m1 k1 q1=>?_) fun h' tk k m=>?_
 ·refine updT_tup (s:={ s with heap:=h1 }) hA' (pl.keeps fun b o e=>k1 b o e) m1 (Nat.ne_of_gt hlt) (by show s.heap.objs.size < h1.objs.size;omega) hval (by rw [hsz];show ws.length + 1 < 4096;omega) fun h' tk k m=>?_
  rw [hsz,range_get] at m
  exact q1 h' tk (fun b o e=>k b o (Nat.ne_of_lt (Heap.lt_size e)) (k1 b o e)) m
 ·exact ⟨.ref s.heap.objs.size,_,I.laid (o:=.ext _) (t':=tk) k (Nat.le_refl _) m.ext,rfl,q _ I.fresh⟩
end
section
variable {prog:Program} {w:World} {A:Around} {E:Value→Shared→Prop} {s:Shared} {a:Addr}
end
end L2
end
section
set_option Elab.async false
set_option linter.all false
set_option maxRecDepth 100000
set_option maxHeartbeats 2000000
namespace L2
open PySem PySem.Spec PyProof.Rows PySem.W
section
variable {prog:Program} {w:World} {A:Around} {I:Addr} {fp wr:List Addr} {n:Nat} {P:Nat→Value→Prop} {St:Nat→Heap→Prop} {R:Result→Shared→Prop}
end
section
variable {prog:Program} {w:World} {A:Around} {E:Value→Shared→Prop} {s:Shared}
end
section
variable {X:Cx}
theorem call_setA (w:World) (K:PySem.W.Frag) (hc:X.calm=true) (h1:X.w=w:=by rfl) (h2:X.K=K:=by rfl):CallR X (.type "set") (fun xs H Q=>rSetLT w K xs H Q∨rSetTT w K xs H Q):=by
 subst h1 h2
 intro pins s σ H xs us Q I r h
 rcases h with h | h
 ·exact call_setLT hc pins s σ H xs us Q I r h
 ·exact call_setTT hc pins s σ H xs us Q I r h
end
end L2
end
section
set_option Elab.async false
set_option linter.all false
set_option maxRecDepth 100000
set_option maxHeartbeats 2000000
namespace L2
open PySem PySem.Spec PyProof.Rows PySem.W
section
variable {X:Cx}
end
end L2
end
section
set_option Elab.async false
set_option linter.all false
set_option maxRecDepth 100000
set_option maxHeartbeats 2000000
namespace L2
open PySem PySem.Spec PyProof.Rows PySem.W
section
variable {prog:Program} {w:World}
inductive HashIt (prog:Program) (w:World) (hp:Heap) (u:Nat):List Value→List Int→Nat→Prop
 | nil:HashIt prog w hp u [] [] 0
 | cons {v:Value} {x:Int} {d:Nat} {vs:List Value} {xs:List Int} {ds:Nat} (hv:∀ (A:Around) (E:Value→Shared→Prop) (s:Shared) (Q:Int→Shared→Prop),A.units≤u→s.heap=hp→Q x { s with toks:=s.toks + d }→wpAny (model prog w) A (pyHash v) Q E s)
   (t:HashIt prog w hp u vs xs ds):HashIt prog w hp u (v :: vs) (x :: xs) (d + ds)
theorem hash_tup {A:Around} {E:Value→Shared→Prop} {s:Shared} {a:Addr} {o:Obj} {its:Array Value} {n dr:Nat} {hs:List Int} {Q:Int→Shared→Prop} (hu:A.units < cLine) (ho:s.heap.get? a=some o) (hc:o.cls=.type "tuple") (hd:o.data=.seq its n)
  (hI:HashIt prog w s.heap (A.units + 1) its.toList hs dr) (q:Q (reduceHash (Builtin.Tuple.tupleHashOf hs)) { s with toks:=s.toks + (dr + 1) }):wpAny (model prog w) A (pyHash (.ref a)) Q E s:=by
 have hT:s.TypeIs (.ref a) "tuple":=⟨o,ho,hc⟩
 unfold pyHash
 first | unfold pyHashByItsType | skip
 first | refine wpAny_bind (wpAny_cRoomFor_or (Or.inr hu) ?_) | skip
 refine wpAny_bind (wpAny_specialOf hT F.slot_tuple_hash.lookup ?_)
 rw [show (some (Value.builtin "tuple.__hash__") == some Value.none)=false from beq_builtin_none _]
 simp only [Bool.false_eq_true,if_false]
 refine wpAny_bind (wpAny_specialOf hT F.slot_tuple_hash.lookup ?_)
 refine wpAny_bind (wpAny_callSpecialIfBoundUnlessNone?_slot hT F.slot_tuple_hash (wpAny_call_entry F.slot_tuple_hash hT F.entry_tuple_hash ?_ (F.args_tuple_hash_1 _)))
 show wpAny _ _ (Builtin.Tuple.tupleItemsOf (Value.ref a) >>= _) _ _ s
 refine wpAny_bind (wpAny_tupleItemsOf ho hd (wpAny_bind ?_))
 rw [← Array.forIn_toList]
 refine wpAny_forIn_list _ (fun rest (b:Array Int) s1=>∃ (left:List Int) (d1 d2:Nat),hs=b.toList ++ left∧HashIt prog w s.heap (A.units + 1) rest left d2∧d1 + d2=dr∧s1={ s with toks:=s.toks + d1 }) _ ?_ ?_ _ _ ⟨hs,0,dr,rfl,hI,Nat.zero_add _,rfl⟩
 ·rintro x rest b s1 ⟨left,d1,d2,e1,hl,e2,rfl⟩
  cases hl with
  | @cons v h d vs xs ds hv t=>
   refine wpAny_bind (hv _ _ _ _ (Nat.le_refl _) rfl ?_)
   exact wpAny_pure ⟨xs,d1 + d,ds,by rw [e1];simp,t,by omega,by simp [Nat.add_assoc]⟩
 ·rintro b s1 ⟨left,d1,d2,e1,hl,e2,rfl⟩
  cases hl
  have e1:hs=b.toList:=by simpa using e1
  have e2:d1=dr:=e2
  subst e1 e2
  refine wpAny_ret_mkInt ?_
  show wpAny _ _ (pyHashByItsType.reduced (Builtin.Tuple.tupleHashOf b.toList)) Q E _
  unfold pyHashByItsType.reduced
  unfold reduceHash at q
  split
  ·rename_i z
   rw [if_pos z] at q
   exact wpAny_pure (by simpa [Nat.add_assoc] using q)
  ·rename_i z
   rw [if_neg z] at q
   exact wpAny_bind (wpAny_rule (wpAny_pure (by simpa [Nat.add_assoc] using q)))
inductive EqIt (prog:Program) (w:World) (hp:Heap) (u:Nat):List Value→List Value→Bool→Prop
 | nil:EqIt prog w hp u [] [] true
 | left {y:Value} {ys:List Value}:EqIt prog w hp u [] (y :: ys) false
 | right {x:Value} {xs:List Value}:EqIt prog w hp u (x :: xs) [] false
 | cons {x y:Value} {xs ys:List Value} {b c:Bool} (hv:∀ (A:Around) (E:Value→Shared→Prop) (s:Shared) (Q:Bool→Shared→Prop),A.units≤u→s.heap=hp→Q b s→wpAny (model prog w) A (eqBool x y) Q E s)
   (t:b=true→EqIt prog w hp u xs ys c) (f:b=false→c=false):EqIt prog w hp u (x :: xs) (y :: ys) c
theorem eq_tree {A:Around} {E:Value→Shared→Prop} {s:Shared} {a b:Addr} {oa ob:Obj} {xs ys:Array Value} {na nb:Nat} {c:Bool} {R:Fin→Shared→Prop} (ha:s.heap.get? a=some oa) (hda:oa.data=.seq xs na) (hb:s.heap.get? b=some ob) (hcb:ob.cls=.type "tuple") (hdb:ob.data=.seq ys nb)
  (hI:EqIt prog w s.heap A.units xs.toList ys.toList c) (q:R (.done (.ret (.bool c))) s):wpAny (model prog w) A (Builtin.«tuple.__eq__» ⟨[.ref a,.ref b],[]⟩) R E s:=by
 have hTb:s.TypeIs (.ref b) "tuple":=⟨ob,hb,hcb⟩
 show wpAny _ _ (isInstance (Value.ref b) (.type "tuple") >>= _) _ _ s
 refine wpAny_bind (wpAny_isInstance hTb PySem.isSubtype_tuple_tuple ?_)
 simp only [Bool.not_true,Bool.false_eq_true,if_false]
 refine wpAny_bind (wpAny_tupleItemsOf ha hda (wpAny_bind (wpAny_tupleItemsOf hb hdb (wpAny_bind ?_))))
 refine wpAny_forIn_list _ (fun rest r s1=>r.1=none∧s1=s∧∃ us vs,rest=List.zip us vs∧EqIt prog w s.heap A.units us vs c∧(us.length == vs.length)=(xs.size == ys.size)) _ ?_ ?_ _ _ ⟨rfl,rfl,_,_,rfl,hI,by simp⟩
 ·rintro ⟨u,v⟩ rest r s1 ⟨hr,rfl,us,vs,hz,hi,hl⟩
  cases hi with
  | nil=>simp at hz
  | left=>simp at hz
  | right=>simp at hz
  | @cons x y xs1 ys1 b1 _ hv ht hf=>
   simp only [List.zip_cons_cons,List.cons.injEq,Prod.mk.injEq] at hz
   obtain ⟨⟨rfl,rfl⟩,rfl⟩:=hz
   refine wpAny_bind (hv _ _ _ _ (Nat.le_refl _) rfl ?_)
   cases b1 with
   | true=>
    simp only [Bool.not_true,Bool.false_eq_true,if_false]
    exact wpAny_pure ⟨rfl,rfl,xs1,ys1,rfl,ht rfl,by simpa using hl⟩
   | false=>
    simp only [Bool.not_false,if_true]
    rw [hf rfl] at q
    exact wpAny_bind (wpAny_pure (wpAny_pure (wpAny_pure q)))
 ·rintro ⟨r1,r2⟩ s1 ⟨hr,rfl,us,vs,hz,hi,hl⟩
  have hr:r1=none:=hr
  subst hr
  have hc:(xs.size == ys.size)=c:=by
   rw [← hl]
   cases hi with
   | nil=>rfl
   | left=>simp
   | right=>simp
   | cons=>simp at hz
  refine wpAny_pure ?_
  show R (.done (.ret (.bool (xs.size == ys.size)))) s1
  rw [hc];exact q
theorem eq_tup {A:Around} {E:Value→Shared→Prop} {s:Shared} {a b:Addr} {oa ob:Obj} {xs ys:Array Value} {na nb:Nat} {c:Bool} {Q:Bool→Shared→Prop} (hu:A.units < cLine) (ha:s.heap.get? a=some oa) (hca:oa.cls=.type "tuple") (hda:oa.data=.seq xs na) (hb:s.heap.get? b=some ob) (hcb:ob.cls=.type "tuple") (hdb:ob.data=.seq ys nb)
  (hI:EqIt prog w s.heap (A.units + 1) xs.toList ys.toList c) (hab:a=b→c=true) (q:Q c s):wpAny (model prog w) A (eqBool (.ref a) (.ref b)) Q E s:=by
 have hTa:s.TypeIs (.ref a) "tuple":=⟨oa,ha,hca⟩
 have hTb:s.TypeIs (.ref b) "tuple":=⟨ob,hb,hcb⟩
 unfold eqBool
 try with_reducible refine wpAny_holding ?_
 by_cases z:(Value.ref a == Value.ref b)=true
 ·rw [if_pos z]
  have e:a=b:=by have:=eq_of_beq z;injection this
  rw [hab e] at q
  exact wpAny_bind (wpAny_rule (wpAny_pure q))
 ·rw [if_neg z]
  exact wpAny_bind (wpAny_richCompare_same_room (op:=.Eq) hTa hTb F.slot_tuple_eq (wpAny_call_entry F.slot_tuple_eq hTa F.entry_tuple_eq (eq_tree ha hda hb hcb hdb hI ⟨_,rfl,(fun e=>nomatch e),wpAny_truthy_bool q⟩) (F.args_tuple_eq_2 _ _)) hu)
theorem quiet_tup {A:Around} {E:Value→Shared→Prop} {s:Shared} {a:Addr} {o:Obj} {its:Array Value} {n d:Nat} {Q:Bool→Shared→Prop} (ho:s.heap.get? a=some o) (hc:o.cls=.type "tuple") (hd:o.data=.seq its n)
  (hI:∀ v∈its.toList,∀ (Q':Bool→Shared→Prop) (E':Value→Shared→Prop),Q' true s→wpAny (model prog w) A (eqIsQuiet d v) Q' E' s) (q:Q true s):wpAny (model prog w) A (eqIsQuiet (d + 1) (.ref a)) Q E s:=by
 have hT:s.TypeIs (.ref a) "tuple":=⟨o,ho,hc⟩
 unfold eqIsQuiet
 refine wpAny_bind (wpAny_specialOf hT F.slot_tuple_eq.lookup ?_)
 show wpAny _ _ (isInstance (Value.ref a) (.type "tuple") >>= _) _ _ s
 refine wpAny_bind (wpAny_isInstance hT PySem.isSubtype_tuple_tuple ?_)
 simp only [Bool.not_true,Bool.false_eq_true,if_false]
 refine wpAny_bind (wpAny_seqItems ho hd (wpAny_bind ?_))
 show wpAny _ _ (forIn its _ _) _ _ s
 rw [← Array.forIn_toList]
 refine wpAny_forIn_list _ (fun rest r s1=>r.1=none∧s1=s∧∀ v∈rest,v∈its.toList) _ ?_ ?_ _ _ ⟨rfl,rfl,fun v hv=>hv⟩
 ·rintro v rest r s1 ⟨hr,rfl,hall⟩
  refine wpAny_bind (hI v (hall v List.mem_cons_self) _ _ ?_)
  simp only [Bool.not_true,Bool.false_eq_true,if_false]
  exact wpAny_pure ⟨rfl,rfl,fun x hx=>hall x (List.mem_cons_of_mem _ hx)⟩
 ·rintro ⟨r1,r2⟩ s1 ⟨hr,rfl,_⟩
  have hr:r1=none:=hr
  subst hr
  exact wpAny_pure q
end
structure VKd (prog:Program) (w:World) (κ:Type) [DecidableEq κ] where
 is:Heap→κ→Value→Prop
 hash:κ→Int
 draws:κ→Nat
 deep:Nat
 inj:∀ {h:Heap} {v:Value} {x y:κ},is h x v→is h y v→x=y
 keeps:∀ {h h':Heap} {k:κ} {v:Value} {d:Addr} {o:Obj} {es ep},is h k v→h.get? d=some o→o.data=.dict es ep→Heap.SameBut d h h'→is h' k v
 pyHash:∀ {A:Around} {E:Value→Shared→Prop} {s:Shared} {k:κ} {v:Value} {Q:Int→Shared→Prop},A.units + deep < cLine + 1→is s.heap k v→Q (hash k) { s with toks:=s.toks + draws k }→wpAny (model prog w) A (PySem.pyHash v) Q E s
 eqBool:∀ {A:Around} {E:Value→Shared→Prop} {s:Shared} {x y:κ} {u v:Value} {Q:Bool→Shared→Prop},A.units + deep < cLine + 1→is s.heap x u→is s.heap y v→Q (decide (x=y)) s→wpAny (model prog w) A (PySem.eqBool u v) Q E s
 quiet:∀ {A:Around} {E:Value→Shared→Prop} {s:Shared} {k:κ} {v:Value} {Q:Bool→Shared→Prop} (n:Nat),deep≤n→is s.heap k v→Q true s→wpAny (model prog w) A (eqIsQuiet n v) Q E s
def flatK {prog:Program} {w:World} {κ:Type} [DecidableEq κ] (knd:KeyKind prog w κ):VKd prog w κ where
 is:=fun _ k v=>knd.is k v=true
 hash:=knd.hash
 draws:=fun _=>1
 deep:=0
 inj:=fun h1 h2=>knd.inj _ _ _ h1 h2
 keeps:=fun h _ _ _=>h
 pyHash:=fun _ h q=>knd.pyHash h q
 eqBool:=fun _ h1 h2 q=>knd.eqBool h1 h2 q
 quiet:=fun n _ h q=>by rw [PySem.eqIsQuiet_byValue n (knd.byValue _ _ h)];exact wpAny_pure q
section
variable {prog:Program} {w:World} {κ κ1 κ2:Type} [DecidableEq κ] [DecidableEq κ1] [DecidableEq κ2]
theorem tup_keeps {h h':Heap} {a d:Addr} {o o1:Obj} {its:Array Value} {n:Nat} {es:Array DictEntry} {ep:Nat} (h1:h.get? a=some o1) (h2:o1.data=.seq its n) (ho:h.get? d=some o) (hd:o.data=.dict es ep) (hs:Heap.SameBut d h h'):h'.get? a=some o1:=by
 have hne:a≠d:=by
  rintro rfl
  rw [h1] at ho
  cases ho
  rw [h2] at hd;cases hd
 exact (hs.2 a hne).trans h1
def pairK (v1:VKd prog w κ1) (v2:VKd prog w κ2):VKd prog w (κ1 × κ2) where
 is:=fun h k v=>∃ (a:Addr) (o:Obj) (n:Nat) (u1 u2:Value),v=.ref a∧h.get? a=some o∧o.cls=.type "tuple"∧o.data=.seq #[u1,u2] n∧v1.is h k.1 u1∧v2.is h k.2 u2
 hash:=fun k=>reduceHash (Builtin.Tuple.tupleHashOf [v1.hash k.1,v2.hash k.2])
 draws:=fun k=>v1.draws k.1 + (v2.draws k.2 + 0) + 1
 deep:=max v1.deep v2.deep + 1
 inj:=by
  rintro h v x y ⟨a,o,n,u1,u2,rfl,h1,_,h2,h3,h4⟩ ⟨a',o',n',u1',u2',e,h1',_,h2',h3',h4'⟩
  cases e
  rw [h1] at h1'
  cases h1'
  rw [h2] at h2'
  injection h2' with e1 _
  have e2:[u1,u2]=[u1',u2']:=congrArg Array.toList e1
  injection e2 with e3 e4
  injection e4 with e4 _
  subst e3 e4
  exact Prod.ext (v1.inj h3 h3') (v2.inj h4 h4')
 keeps:=by
  rintro h h' k v d o es ep ⟨a,o1,n,u1,u2,rfl,h1,hc,h2,h3,h4⟩ ho hd hs
  exact ⟨a,o1,n,u1,u2,rfl,tup_keeps h1 h2 ho hd hs,hc,h2,v1.keeps h3 ho hd hs,v2.keeps h4 ho hd hs⟩
 pyHash:=by
  rintro A E s k v Q hu ⟨a,o1,n,u1,u2,rfl,h1,hc,h2,h3,h4⟩ q
  refine hash_tup (by omega) h1 hc h2 (.cons (fun A' E' s' Q' ha hs q'=>v1.pyHash (by omega) (by rw [hs];exact h3) q') (.cons (fun A' E' s' Q' ha hs q'=>v2.pyHash (by omega) (by rw [hs];exact h4) q') .nil)) q
 eqBool:=by
  rintro A E s x y u v Q hu ⟨a,o1,n,u1,u2,rfl,h1,hc,h2,h3,h4⟩ ⟨a',o1',n',u1',u2',rfl,h1',hc',h2',h3',h4'⟩ q
  refine eq_tup (c:=decide (x=y)) (by omega) h1 hc h2 h1' hc' h2' ?_ ?_ q
  ·refine .cons (b:=decide (x.1=y.1)) (fun A' E' s' Q' ha hs q'=>v1.eqBool (by omega) (by rw [hs];exact h3) (by rw [hs];exact h3') q') (fun e=>.cons (b:=decide (x.2=y.2)) (fun A' E' s' Q' ha hs q'=>v2.eqBool (by omega) (by rw [hs];exact h4) (by rw [hs];exact h4') q') (fun e2=>?_) fun e2=>?_) fun e=>?_
   ·rw [decide_eq_true (Prod.ext (of_decide_eq_true e) (of_decide_eq_true e2))];exact .nil
   ·exact decide_eq_false fun z=>of_decide_eq_false e2 (by rw [z])
   ·exact decide_eq_false fun z=>of_decide_eq_false e (by rw [z])
  ·rintro rfl
   rw [h1] at h1'
   cases h1'
   rw [h2] at h2'
   injection h2' with e1 _
   have e2:[u1,u2]=[u1',u2']:=congrArg Array.toList e1
   injection e2 with e3 e4
   injection e4 with e4 _
   subst e3 e4
   exact decide_eq_true (Prod.ext (v1.inj h3 h3') (v2.inj h4 h4'))
 quiet:=by
  rintro A E s k v Q n hn ⟨a,o1,n1,u1,u2,rfl,h1,hc,h2,h3,h4⟩ q
  obtain ⟨m,rfl⟩:∃ m,n=m + 1:=⟨n - 1,by omega⟩
  refine quiet_tup h1 hc h2 (fun v hv Q' E' q'=>?_) q
  have hv:v=u1∨v=u2:=by simpa using hv
  rcases hv with rfl | rfl
  ·exact v1.quiet m (by omega) h3 q'
  ·exact v2.quiet m (by omega) h4 q'
def ItV (vk:VKd prog w κ) (h:Heap):List κ→List Value→Prop
 | [],[]=>True
 | k :: ks,v :: vs=>vk.is h k v∧ItV vk h ks vs
 | _,_=>False
theorem ItV.inj {vk:VKd prog w κ} {h:Heap}:∀ {x y:List κ} {vs:List Value},ItV vk h x vs→ItV vk h y vs→x=y
 | [],[],[],_,_=>rfl
 | [],[],_ :: _,a,_=>a.elim
 | [],_ :: _,[],_,b=>b.elim
 | [],_ :: _,_ :: _,a,_=>a.elim
 | _ :: _,[],[],a,_=>a.elim
 | _ :: _,[],_ :: _,_,b=>b.elim
 | _ :: _,_ :: _,[],a,_=>a.elim
 | _ :: _,_ :: _,_ :: _,a,b=>by rw [vk.inj a.1 b.1,ItV.inj a.2 b.2]
theorem ItV.keeps {vk:VKd prog w κ} {h h':Heap} {d:Addr} {o:Obj} {es:Array DictEntry} {ep:Nat} (ho:h.get? d=some o) (hd:o.data=.dict es ep) (hs:Heap.SameBut d h h'):∀ {x:List κ} {vs:List Value},ItV vk h x vs→ItV vk h' x vs
 | [],[],_=>trivial
 | _ :: _,_ :: _,a=>⟨vk.keeps a.1 ho hd hs,ItV.keeps ho hd hs a.2⟩
theorem ItV.hashes {vk:VKd prog w κ} {h:Heap} {u:Nat} (hu:u + vk.deep < cLine + 1):∀ {x:List κ} {vs:List Value},ItV vk h x vs→HashIt prog w h u vs (x.map vk.hash) (x.map vk.draws).sum
 | [],[],_=>.nil
 | _ :: _,_ :: _,a=>by
  rw [List.map_cons,List.map_cons,List.sum_cons]
  exact .cons (fun A' E' s' Q' ha hs q'=>vk.pyHash (by omega) (by rw [hs];exact a.1) q') (ItV.hashes hu a.2)
theorem ItV.eqs {vk:VKd prog w κ} {h:Heap} {u:Nat} (hu:u + vk.deep < cLine + 1):∀ {x y:List κ} {us vs:List Value},ItV vk h x us→ItV vk h y vs→EqIt prog w h u us vs (decide (x=y))
 | [],[],[],[],_,_=>.nil
 | [],_ :: _,[],_ :: _,_,_=>by simpa using EqIt.left
 | _ :: _,[],_ :: _,[],_,_=>by simpa using EqIt.right
 | p :: x,q :: y,_ :: _,_ :: _,a,b=>by
  refine .cons (b:=decide (p=q)) (fun A' E' s' Q' ha hs q'=>vk.eqBool (by omega) (by rw [hs];exact a.1) (by rw [hs];exact b.1) q') (fun e=>?_) fun e=>?_
  ·have:=ItV.eqs hu a.2 b.2
   have e:=of_decide_eq_true e
   rwa [show decide (p :: x=q :: y)=decide (x=y) from by simp [e]]
  ·have e:=of_decide_eq_false e
   simp [e]
theorem ItV.mem {vk:VKd prog w κ} {h:Heap}:∀ {x:List κ} {vs:List Value} {v:Value},ItV vk h x vs→v∈vs→∃ k,vk.is h k v
 | [],[],_,_,hv=>by simp at hv
 | [],_ :: _,_,a,_=>a.elim
 | _ :: _,[],_,a,_=>a.elim
 | _ :: _,_ :: _,v,a,hv=>by
  rcases List.mem_cons.mp hv with e | e
  ·exact ⟨_,by rw [e];exact a.1⟩
  ·exact ItV.mem a.2 e
def tupK (vk:VKd prog w κ):VKd prog w (List κ) where
 is:=fun h ks v=>∃ (a:Addr) (o:Obj) (n:Nat) (its:Array Value),v=.ref a∧h.get? a=some o∧o.cls=.type "tuple"∧o.data=.seq its n∧ItV vk h ks its.toList
 hash:=fun ks=>reduceHash (Builtin.Tuple.tupleHashOf (ks.map vk.hash))
 draws:=fun ks=>(ks.map vk.draws).sum + 1
 deep:=vk.deep + 1
 inj:=by
  rintro h v x y ⟨a,o,n,its,rfl,h1,_,h2,h3⟩ ⟨a',o',n',its',e,h1',_,h2',h3'⟩
  cases e
  rw [h1] at h1'
  cases h1'
  rw [h2] at h2'
  injection h2' with e1 _
  subst e1
  exact h3.inj h3'
 keeps:=by
  rintro h h' k v d o es ep ⟨a,o1,n,its,rfl,h1,hc,h2,h3⟩ ho hd hs
  exact ⟨a,o1,n,its,rfl,tup_keeps h1 h2 ho hd hs,hc,h2,h3.keeps ho hd hs⟩
 pyHash:=by
  rintro A E s k v Q hu ⟨a,o1,n,its,rfl,h1,hc,h2,h3⟩ q
  exact hash_tup (by omega) h1 hc h2 (h3.hashes (by omega)) q
 eqBool:=by
  rintro A E s x y u v Q hu ⟨a,o1,n,its,rfl,h1,hc,h2,h3⟩ ⟨a',o1',n',its',rfl,h1',hc',h2',h3'⟩ q
  refine eq_tup (c:=decide (x=y)) (by omega) h1 hc h2 h1' hc' h2' (h3.eqs (by omega) h3') ?_ q
  rintro rfl
  rw [h1] at h1'
  cases h1'
  rw [h2] at h2'
  injection h2' with e1 _
  subst e1
  exact decide_eq_true (h3.inj h3')
 quiet:=by
  rintro A E s k v Q n hn ⟨a,o1,n1,its,rfl,h1,hc,h2,h3⟩ q
  obtain ⟨m,rfl⟩:∃ m,n=m + 1:=⟨n - 1,by omega⟩
  refine quiet_tup h1 hc h2 (fun v hv Q' E' q'=>?_) q
  obtain ⟨k',hk'⟩:=h3.mem hv
  exact vk.quiet m (by omega) hk' q'
def heapK (vk:VKd prog w κ) (hd:vk.deep≤8):HeapKind prog w κ where
 is:=fun h k a=>vk.is h k (.ref a)
 hash:=vk.hash
 draws:=vk.draws
 room:=fun A=>A.units + vk.deep < cLine + 1
 inj:=fun h1 h2=>vk.inj h1 h2
 keeps:=fun h ho hd hs=>vk.keeps h ho hd hs
 pyHash:=fun hu h q=>vk.pyHash hu h q
 eqBool:=fun hu h1 h2 q=>vk.eqBool hu h1 h2 q
 quiet:=fun h q=>vk.quiet 8 hd h q
end
end L2
end
section
set_option Elab.async false
set_option linter.all false
set_option maxRecDepth 100000
set_option maxHeartbeats 2000000
namespace L2
open PySem PySem.Spec PyProof.Rows PySem.W
section
variable {prog:Program} {w:World} {κ:Type} [DecidableEq κ] {knd:HeapKind prog w κ} {A:Around} {E:Value→Shared→Prop} {s:Shared} {d a:Addr} {k:κ} {xs:List (κ × Addr × Value)}
theorem setd_heap {v:Value} {Q:Value→Shared→Prop} (hu:knd.room A) (hkey:knd.is s.heap k a) (hm:s.heap.DictOfH knd d xs)
  (h1:∀ p,atKey xs k=some p→Q p.2 { s with toks:=s.toks + knd.draws k })
  (h2:atKey xs k=none→∀ h',h'.DictOfH knd d (xs ++ [(k,a,v)])→Heap.SameBut d s.heap h'→Q v { s with heap:=h',toks:=s.toks + knd.draws k })
  (hsz:xs.length≤sizeLine):wpAny (model prog w) A (dictSetDefault d (.ref a) v) Q E s:=by
 obtain ⟨o,es,ep,ho,hc,hd,he,his,hn⟩:=hm
 unfold dictSetDefault
 try with_reducible refine wpAny_holding ?_
 refine wpAny_bind (knd.pyHash hu hkey ?_)
 refine wpAny_bind (wpAny_dictFind_heap (s:={ s with toks:=s.toks + knd.draws k }) hu hkey ho hd he his hn ?_ ?_)
 ·intro hno
  have hnot:k∉xs.map (·.1):=not_mem_keys_of_get hno
  refine wpAny_bind (wpAny_rule (wpAny_bind (wpAny_updateDictKeys (hz:=by have e:=size_of_entries he;omega) (s:={ s with toks:=s.toks + knd.draws k }) ho hd (wpAny_pure (h2 (atKey_none_of_get hno) _ ⟨_,_,ep + 1,Heap.get?_update_self _ ho (Obj.isFreed_of_dict (Obj.data_mapDictKeys hd _)),
   hc.mapDictKeys _,Obj.data_mapDictKeys hd _,?_,?_,?_⟩ (Heap.SameBut.update ..))))))
  ·simp [he,entryOfKey]
  ·intro x hx
   rcases List.mem_append.mp hx with hx | hx
   ·exact knd.keeps (his x hx) ho hd (Heap.SameBut.update ..)
   ·simp only [List.mem_singleton] at hx
    subst hx
    exact knd.keeps hkey ho hd (Heap.SameBut.update ..)
  ·rw [List.map_append,List.nodup_append]
   refine ⟨hn,by simp,?_⟩
   intro x hx y hy
   simp only [List.map_cons,List.map_nil,List.mem_singleton] at hy
   subst hy
   exact fun e=>hnot (e ▸ hx)
 ·intro j p hj
  refine wpAny_bind (wpAny_dictEntries (s:={ s with toks:=s.toks + knd.draws k }) ho hd ?_)
  rw [entry_at he j,hj]
  exact wpAny_bind (wpAny_rule (wpAny_pure (h1 p (atKey_of_get hn hj))))
theorem meetsH_setd (knd:HeapKind prog w κ) (d a:Addr) (hd:(d == sysModules)=false) (v:Value) :
  MeetsIn prog w (Builtin.«dict.setdefault» ⟨[.ref d,.ref a,v],[]⟩) (fun A R s=>knd.room A.in1∧∃ k xs,knd.is s.heap k a∧s.heap.DictOfH knd d xs∧xs.length≤sizeLine∧
   (∀ p,atKey xs k=some p→R (.ok (.ret p.2)) { s with toks:=s.toks + knd.draws k })∧
   (atKey xs k=none→∀ h',h'.DictOfH knd d (xs ++ [(k,a,v)])→Heap.SameBut d s.heap h'→R (.ok (.ret v)) { s with heap:=h',toks:=s.toks + knd.draws k })):=
 .of_wp fun A R s ⟨hu,k,xs,hkey,hm,hz,h1,h2⟩=>by
  unfold Builtin.«dict.setdefault»
  refine wpAny_bind ?_
  unfold Builtin.Dict.keyAndDefault
  refine wpAny_bind (wpAny_notOrdered_dict hm.typeIs ?_)
  show wpAny _ _ (pure (d,Value.ref a,some v)) _ _ s
  refine wpAny_pure ?_
  show wpAny _ _ (if (d == sysModules)=true then _ else (dictSetDefault d (.ref a) v >>= _)) _ _ s
  rw [if_neg (by rw [hd];exact Bool.false_ne_true)]
  exact wpAny_bind (setd_heap hu hkey hm (fun p hp=>wpAny_pure ⟨p.2,rfl,h1 p hp⟩) (fun hn h' hm' hs'=>wpAny_pure ⟨v,rfl,h2 hn h' hm' hs'⟩) hz)
theorem meetsH_len (d:Addr) (hd:(d == sysModules)=false) :
  MeetsIn prog w (Builtin.«dict.__len__» ⟨[.ref d],[]⟩) (fun _ R s=>∃ o es ep,s.heap.get? d=some o∧o.data=.dict es ep∧R (.ok (.ret (.int es.size s.toks))) { s with toks:=s.toks + 1 }):=
 .of_wp fun A R s ⟨o,es,ep,ho,hdat,h⟩=>by
  show wpAny _ _ (dictSize d >>= _) _ _ s
  unfold dictSize
  refine wpAny_bind (wpAny_bind (wpAny_dictEntries ho hdat (wpAny_pure ?_)))
  show wpAny _ _ (Builtin.Dict.pendingCount d >>= _) _ _ s
  refine wpAny_bind (wpAny_pendingCount_other hd ?_)
  refine wpAny_ret_mkInt ?_
  rw [Nat.add_zero];exact h
theorem len_raw {Q:Value→Shared→Prop} {o:Obj} {es:Array DictEntry} {ep:Nat} (hd:(d == sysModules)=false) (ho:s.heap.get? d=some o) (hc:o.ExactDict) (hdat:o.data=.dict es ep) (hfit:(es.size:Int) < 2 ^ 63)
  (h:Q (.int es.size (s.toks + 1)) { s with toks:=s.toks + 1 + 1 }):wpAny (model prog w) A (call (.builtin "len") [.ref d]) Q E s:=by
 have hT:s.TypeIs (.ref d) "dict":=⟨o,ho,hc.1⟩
 refine Calls.call_function_entry kind_len plain_len entry_len (args_len1 _) ?_
 unfold Builtin.«len»
 refine wpAny_bind (m:=oneArg "len" _) (wpAny_pure ?_)
 refine wpAny_bind (m:=callSpecial? (.ref d) (Str.ofString "__len__")) (wpAny_callSpecial?_slot (name:=Str.ofString "__len__") hT F.slot_dict_len
  (call_meetsIn F.slot_dict_len hT F.entry_dict_len (F.args_dict_len_1 _) (meetsH_len d hd) ⟨o,es,ep,ho,hdat,?_⟩))
 show wpAny _ _ _ _ _ { s with toks:=s.toks + 1 }
 refine wpAny_bind (wpAny_holding (wpAny_pure ?_))
 refine wpAny_bind (wpAny_letGo ?_)
 show wpAny _ _ (if ((es.size:Nat):Int) < 0 then _ else _) _ _ _
 rw [if_neg (by omega)]
 show wpAny _ _ (if ((es.size:Nat):Int)≥2 ^ 63 then _ else _) _ _ _
 rw [if_neg (by omega)]
 exact wpAny_bind (wpAny_mkInt (wpAny_pure ⟨_,rfl,h⟩))
end
structure Kd (P:Program) (w:World) (κ:Type) [DecidableEq κ] where
 vk:VKd P w κ
 small:vk.deep≤8
 lies:Hp→Addr→κ→Prop
 ok:∀ {H:Hp} {h:Heap} {b:Addr} {k:κ},HOk P w H h→lies H b k→vk.is h k (.ref b)
section
variable {κ:Type} [DecidableEq κ]
def Mx:List (κ × Addr × V)→List (κ × Addr × Value)→Prop:=Paired fun p q=>p.1=q.1∧p.2.1=q.2.1∧RelV p.2.2 q.2.2
def MdAt (hf:κ→Int) (a:Addr) (ys:List (κ × Addr × V)):Heap→Prop:=fun h=>ys.length≤sizeLine∧(a == sysModules)=false∧(ys.map (·.1)).Nodup∧∃ xs:List (κ × Addr × Value),Mx ys xs∧
 ∃ o es ep,h.get? a=some o∧o.ExactDict∧o.data=.dict es ep∧es.toList=xs.map (fun x=>(⟨hf x.1,.ref x.2.1,x.2.2⟩:DictEntry))
def MD (hf:κ→Int) (a:Addr) (ys:List (κ × Addr × V)):HO:=.ext (MdAt hf a ys)
def valM (ys:List (κ × Addr × V)) (k:κ):Option V:=(ys.find? fun y=>decide (y.1=k)).map (·.2.2)
theorem Mx.keys:∀ {ys:List (κ × Addr × V)} {xs:List (κ × Addr × Value)},Mx ys xs→ys.map (·.1)=xs.map (·.1)
 | _,_,.nil=>rfl
 | _,_,.cons h t=>by rw [List.map_cons,List.map_cons,h.1,Mx.keys t]
theorem Mx.length {ys:List (κ × Addr × V)} {xs:List (κ × Addr × Value)} (h:Mx ys xs):ys.length=xs.length:=Paired.length h
theorem Mx.val:∀ {ys:List (κ × Addr × V)} {xs:List (κ × Addr × Value)} (k:κ),Mx ys xs→RelO (valM ys k) ((atKey xs k).map (·.2))
 | _,_,_,.nil=>by simp [valM,atKey,RelO]
 | _,_,k,.cons (a:=p) (b:=q) h t=>by
  have ih:=Mx.val k t
  unfold valM atKey at ih ⊢
  by_cases e:q.1=k
  ·have e':p.1=k:=h.1.trans e
   simp only [List.find?_cons,e,e',decide_true,Option.map_some]
   exact h.2.2
  ·have e':¬p.1=k:=fun z=>e (h.1.symm.trans z)
   simpa only [List.find?_cons,e,e',decide_false] using ih
theorem Mx.snoc {p:κ × Addr × V} {q:κ × Addr × Value} (h:p.1=q.1∧p.2.1=q.2.1∧RelV p.2.2 q.2.2):∀ {ys:List (κ × Addr × V)} {xs:List (κ × Addr × Value)},Mx ys xs→Mx (ys ++ [p]) (xs ++ [q])
 | _,_,.nil=>.cons h .nil
 | _,_,.cons a t=>.cons a (Mx.snoc h t)
theorem Mx.mem:∀ {ys:List (κ × Addr × V)} {xs:List (κ × Addr × Value)} {q:κ × Addr × Value},Mx ys xs→q∈xs→∃ p∈ys,p.1=q.1∧p.2.1=q.2.1
 | _,_,_,.nil,m=>nomatch m
 | _,_,_,.cons h t,m=>by
  rcases List.mem_cons.mp m with rfl | m
  ·exact ⟨_,List.mem_cons_self,h.1,h.2.1⟩
  ·obtain ⟨p,hp,e⟩:=Mx.mem t m
   exact ⟨p,List.mem_cons_of_mem _ hp,e⟩
variable {P:Program} {w:World} {H:Hp} {h:Heap} {a:Addr} {hf:κ→Int} {ys:List (κ × Addr × V)}
theorem md_of (ok:HOk P w H h) (e:H a=some (MD hf a ys)):MdAt hf a ys h:=(show ObjOk P w H h a (.ext _) from ok a _ e).1
theorem md_new (m:MdAt hf a ys h):ObjOk P w H h a (MD hf a ys):=by
 obtain ⟨z,y,n,xs,r,o,es,ep,h1,h2,h3,h4⟩:=m
 exact ⟨⟨z,y,n,xs,r,o,es,ep,h1,h2,h3,h4⟩,⟨o,h1⟩,fun g1 g2 ⟨z,y,n,xs,r,o,es,ep,h1,h2,h3,h4⟩ k=>⟨z,y,n,xs,r,o,es,ep,k _ h1,h2,h3,h4⟩⟩
theorem md_dict (kd:Kd P w κ) (ok:HOk P w H h) (e:H a=some (MD kd.vk.hash a ys)) (hk:∀ y∈ys,kd.lies H y.2.1 y.1) :
  ys.length≤sizeLine∧(a == sysModules)=false∧(ys.map (·.1)).Nodup∧∃ xs,Mx ys xs∧h.DictOfH (heapK kd.vk kd.small) a xs:=by
 obtain ⟨z,y,n,xs,r,o,es,ep,h1,h2,h3,h4⟩:=md_of ok e
 refine ⟨z,y,n,xs,r,o,es,ep,h1,h2,h3,h4,fun x hx=>?_,by rw [← r.keys];exact n⟩
 obtain ⟨p,hp,e1,e2⟩:=r.mem hx
 have:=kd.ok ok (hk p hp)
 rw [e1,e2] at this
 exact this
end
section
variable {X:Cx} {κ:Type} [DecidableEq κ]
def tDNewM {κ:Type} [DecidableEq κ] (hf:κ→Int):TE:=fun _ H Q=>∀ p,H p=none→Q (.ref p) (upd H p (MD hf p []))
theorem qe_dnewM (hf:κ→Int) {pos:Pos}:QE X (.Dict [] [] pos) (tDNewM hf):=⟨fun pins s σ H Q I h=>
 wpAny_Dict_empty ⟨.ref s.heap.objs.size,_,I.laid (a:=s.heap.objs.size) (o:=MD hf s.heap.objs.size []) (t':=s.toks) (fun _ _ q=>Heap.get?_push_of_some _ q) (Nat.le_refl _)
  (md_new ⟨Nat.zero_le _,beq_eq_false_iff_ne.mpr (Ne.symm (Nat.ne_of_lt I.big)),List.nodup_nil,[],.nil,_,#[],0,Heap.get?_push_size _ rfl,⟨rfl,rfl,rfl⟩,rfl,rfl⟩),rfl,h _ (I.hok.fresh (Nat.le_refl _))⟩⟩
theorem call_lenM (hf:κ→Int):CallR X (.builtin "len") (fun xs H Q=>∃ a ys,xs=[V.ref a]∧H a=some (MD hf a ys)∧Q (.int ys.length) H):=by
 intro pins s σ H xs us Q I r h
 obtain ⟨a,ys,rfl,ha,q⟩:=h
 obtain ⟨u,rfl,ru⟩:=vals1 r
 cases ru
 obtain ⟨z,hd,n,xs,rel,o,es,ep,h1,h2,h3,h4⟩:=md_of I.hok ha
 have hz:es.size=ys.length:=by rw [← Array.length_toList,h4,List.length_map,rel.length]
 rw [sizeLine_eq] at z
 refine len_raw hd h1 h2 h3 (by omega) ?_
 rw [hz]
 exact ⟨.int ys.length,H,I.tok _,⟨_,rfl⟩,q⟩
def tMSetd {κ:Type} [DecidableEq κ] (hf:κ→Int) (lies:Hp→Addr→κ→Prop) (td ty tx:TE):TE:=fun σ H Q=>td σ H fun x H1=>∃ a ys0,x=.ref a∧H1 a=some (MD hf a ys0)∧ty σ H1 fun y H2=>tx σ H2 fun z H3=>∃ ys b k,H3 a=some (MD hf a ys)∧(∀ y∈ys,lies H3 y.2.1 y.1)∧y=.ref b∧lies H3 b k∧ys.length < sizeLine∧
 (∀ v,valM ys k=some v→Q v H3)∧(valM ys k=none→Q z (upd H3 a (MD hf a (ys ++ [(k,b,z)]))))
theorem qe_msetd (kd:Kd X.prog X.w κ) {o e f:Expr} {apos cpos:Pos} {td ty tx:TE} (hu:X.A.units + 1 + kd.vk.deep < cLine + 1) (ho:QE X o td) (he:QE X e ty) (hf:QE X f tx) (m:M2 X o "setdefault" apos e f cpos):QE X (.Call (.Attribute o "setdefault" apos) [e,f] [] cpos) (tMSetd kd.vk.hash kd.lies td ty tx):=⟨by
 intro pins s σ H Q I h
 refine wpAny_Call_method m.base m.few m.line PySem.F.plainAttrs_dict PySem.F.slot_dict_setdefault PySem.F.type_dict_setdefault (thn (ho.out pins s σ H _ I h) fun u s1 ⟨x,H1,I1,rx,a,ys0,ex,d,q1⟩=>?_)
 subst ex
 obtain rfl:u=Value.ref a:=rx
 obtain ⟨_,_,_,_,_,o1,_,_,g1,g2,_⟩:=md_of I1.hok d
 refine ⟨⟨o1,g1,g2.1⟩,fun b q=>by cases q;exact ⟨o1,g1,g2.2.1⟩,?_⟩
 rw [m.trees]
 refine Calls.callWith_builtin rfl (Calls.evalArgs_plain (Calls.spliced_cons (thn (he.out pins s1 σ H1 _ I1 q1) fun iv s2 ⟨y,H2,I2,ry,q2⟩=>
  Calls.spliced_cons (thn (hf.out pins s2 σ H2 _ I2 q2) fun fv s3 ⟨z,H3,I3,rz,ys,b,k,ea,hk,ey,hb,l,q3,q4⟩=>Calls.spliced_nil ?_))))
 subst ey
 obtain rfl:iv=Value.ref b:=ry
 obtain ⟨hz,hd,hn,xs,rel,dd⟩:=md_dict kd I3.hok ea hk
 have rv:=rel.val k
 refine call_meetsIn PySem.F.slot_dict_setdefault dd.typeIs PySem.F.entry_dict_setdefault (PySem.F.args_dict_setdefault_3 _ _ _) (meetsH_setd (heapK kd.vk kd.small) a b hd fv) ⟨hu,k,xs,kd.ok I3.hok hb,dd,by rw [← rel.length];exact hz,fun p hp=>?_,fun hp h' dd' hs=>?_⟩
 ·rw [hp] at rv
  cases ev:valM ys k with
  | none=>rw [ev] at rv;cases rv
  | some v=>
   rw [ev] at rv
   exact ⟨v,H3,I3.tok _,rv,q3 v ev⟩
 ·rw [hp] at rv
  cases ev:valM ys k with
  | some v=>rw [ev] at rv;cases rv
  | none=>
   obtain ⟨o2,es,ep,p1,p2,p3,p4,_,p6⟩:=dd'
   refine ⟨z,_,d_write I3 (by rw [ea];exact True.intro) hs ⟨o2,p1⟩ (md_new ⟨?_,hd,?_,_,rel.snoc (p:=(k,b,z)) (q:=(k,b,fv)) ⟨rfl,rfl,rz⟩,o2,es,ep,p1,p2,p3,p4⟩),rz,q4 ev⟩
   ·rw [List.length_append];exact l
   ·rw [List.map_append,rel.keys]
    rw [List.map_append] at p6
    exact p6⟩
def tMGet {κ:Type} [DecidableEq κ] (hf:κ→Int) (lies:Hp→Addr→κ→Prop) (td ty:TE):TE:=fun σ H Q=>td σ H fun x H1=>ty σ H1 fun y H2=>∃ a ys b k v,x=.ref a∧H2 a=some (MD hf a ys)∧(∀ y∈ys,lies H2 y.2.1 y.1)∧y=.ref b∧lies H2 b k∧valM ys k=some v∧Q v H2
theorem qe_mget (kd:Kd X.prog X.w κ) {o i:Expr} {pos:Pos} {td ty:TE} (hu:X.A.units + 1 + kd.vk.deep < cLine + 1) (ho:QE X o td) (hi:QE X i ty) (hs:NoSl i):QE X (.Subscript o i pos) (tMGet kd.vk.hash kd.lies td ty):=⟨by
 intro pins s σ H Q I h
 refine subD_of PySem.F.slot_dict_getitem.lookup hs (thn (ho.out pins s σ H _ I h) fun u s1 ⟨x,H1,I1,rx,q1⟩=>thn (hi.out pins s1 σ H1 _ I1 q1) fun iv s2 ⟨y,H2,I2,ry,a,ys,b,k,v,ex,ea,hk,ey,hb,ev,q2⟩=>?_)
 subst ex ey
 obtain rfl:u=Value.ref a:=rx
 obtain rfl:iv=Value.ref b:=ry
 obtain ⟨hz,hd,hn,xs,rel,dd⟩:=md_dict kd I2.hok ea hk
 have rv:=rel.val k
 rw [ev] at rv
 refine ⟨dd.typeIs,?_⟩
 cases ep:atKey xs k with
 | none=>rw [ep] at rv;cases rv
 | some p=>
  rw [ep] at rv
  exact wpAny_getItem_heap (knd:=heapK kd.vk kd.small) hu (kd.ok I2.hok hb) dd ep ⟨v,H2,I2.tok _,rv,q2⟩⟩
end
abbrev Mark:=Key × List (Key × Key)
def mkH (w:World) (k:Mark):Int:=reduceHash (Builtin.Tuple.tupleHashOf [keyH w k.1,reduceHash (Builtin.Tuple.tupleHashOf (k.2.map fun q=>reduceHash (Builtin.Tuple.tupleHashOf [keyH w q.1,keyH w q.2])))])
def MkAt (H:Hp) (b:Addr) (k:Mark):Prop:=∃ (c:Addr) (ps:List Addr),H b=some (.tup [kV k.1,.ref c])∧H c=some (.tup (ps.map V.ref))∧Paired (fun (p:Addr) (q:Key × Key)=>H p=some (.tup [kV q.1,kV q.2])) ps k.2
section
variable {P:Program} {w:World} {H:Hp} {h:Heap}
def mkK (P:Program) (w:World):VKd P w Mark:=pairK (flatK (mixKind P w)) (tupK (pairK (flatK (mixKind P w)) (flatK (mixKind P w))))
theorem pr_is (ok:HOk P w H h) {p:Addr} {q:Key × Key} (e:H p=some (.tup [kV q.1,kV q.2])):(pairK (flatK (mixKind P w)) (flatK (mixKind P w))).is h q (.ref p):=by
 obtain ⟨_,its,r,o,h1,h2,n,h3⟩:=(show ObjOk P w H h p (.tup _) from ok p _ e)
 cases r with
 | @cons _ u1 _ _ r1 t=>
  cases t with
  | @cons _ u2 _ _ r2 t=>
   cases t
   exact ⟨p,o,n,u1,u2,rfl,h1,h2,h3,kV_is r1,kV_is r2⟩
theorem prs_is (ok:HOk P w H h):∀ {ps:List Addr} {qs:List (Key × Key)} {us:List Value},Paired (fun (p:Addr) (q:Key × Key)=>H p=some (.tup [kV q.1,kV q.2])) ps qs→Vals (ps.map V.ref) us→ItV (pairK (flatK (mixKind P w)) (flatK (mixKind P w))) h qs us
 | _,_,_,.nil,.nil=>trivial
 | _,_,_,.cons e t,.cons r v=>by
  cases r
  exact ⟨pr_is ok e,prs_is ok t v⟩
theorem mk_is (ok:HOk P w H h) {b:Addr} {k:Mark} (m:MkAt H b k):(mkK P w).is h k (.ref b):=by
 obtain ⟨c,ps,e1,e2,e3⟩:=m
 obtain ⟨_,its,r,o,h1,h2,n,h3⟩:=(show ObjOk P w H h b (.tup _) from ok b _ e1)
 obtain ⟨_,its',r',o',h1',h2',n',h3'⟩:=(show ObjOk P w H h c (.tup _) from ok c _ e2)
 cases r with
 | @cons _ u1 _ _ r1 t=>
  cases t with
  | @cons _ u2 _ _ r2 t=>
   cases t
   cases r2
   exact ⟨b,o,n,u1,.ref c,rfl,h1,h2,h3,kV_is r1,c,o',n',its'.toArray,rfl,h1',h2',h3',by simpa using prs_is ok e3 r'⟩
def mkKd (P:Program) (w:World):Kd P w Mark:=⟨mkK P w,(by decide:(3:Nat)≤8),MkAt,fun ok m=>mk_is ok m⟩
theorem mkKd_deep:(mkKd P w).vk.deep=3:=rfl
end
section
variable {X:Cx}
theorem qe_dnewMk (w:World) {pos:Pos} (hw:X.w=w:=by rfl):QE X (.Dict [] [] pos) (tDNewM (mkH w)):=qe_dnewM _
theorem call_lenMk (w:World) (hw:X.w=w:=by rfl):CallR X (.builtin "len") (fun xs H Q=>∃ a ys,xs=[V.ref a]∧H a=some (MD (mkH w) a ys)∧Q (.int ys.length) H):=call_lenM _
theorem qe_msetdMk (w:World) {o e f:Expr} {apos cpos:Pos} {td ty tx:TE} (hu:X.A.units + 3 < cLine) (ho:QE X o td) (he:QE X e ty) (hf:QE X f tx) (m:M2 X o "setdefault" apos e f cpos) (hw:X.w=w:=by rfl):QE X (.Call (.Attribute o "setdefault" apos) [e,f] [] cpos) (tMSetd (mkH w) MkAt td ty tx):=by
 subst hw;exact qe_msetd (mkKd X.prog X.w) (by rw [mkKd_deep];omega) ho he hf m
theorem qe_mgetMk (w:World) {o i:Expr} {pos:Pos} {td ty:TE} (hu:X.A.units + 3 < cLine) (ho:QE X o td) (hi:QE X i ty) (hs:NoSl i) (hw:X.w=w:=by rfl):QE X (.Subscript o i pos) (tMGet (mkH w) MkAt td ty):=by
 subst hw;exact qe_mget (mkKd X.prog X.w) (by rw [mkKd_deep];omega) ho hi hs
end
end L2
end
section
set_option Elab.async false
set_option linter.all false
set_option maxRecDepth 100000
set_option maxHeartbeats 2000000
namespace L2
open PySem PySem.Spec PyProof.Rows PySem.W
def once (ns:List Int):List Int:=ns.foldl step_dedup []
theorem range_getI (ns:List Int):(List.range ns.length).map (fun i=>ns.getD i 0)=ns:=by
 apply List.ext_getElem?
 intro i
 rw [List.getElem?_map]
 by_cases h:i < ns.length
 ·rw [List.getElem?_range h,List.getElem?_eq_getElem h];simp [List.getD,h]
 ·rw [List.getElem?_eq_none (by simpa using h),List.getElem?_eq_none (by simpa using h)];rfl
theorem met_once (ns:List Int):firstMet (fun i=>ns.getD i 0) ns.length=once ns:=by unfold firstMet once;rw [range_getI]
theorem once_mem (ns:List Int) (k:Int):k∈once ns↔k∈ns:=by
 have h:=firstMet_any (fun i=>ns.getD i 0) ns.length k
 rw [met_once,range_getI] at h
 have e:∀ l:List Int,k∈l↔l.any (· == k)=true:=fun l=>by simp
 rw [e,e,h]
theorem step_nd {l:List Int} (k:Int) (h:l.Nodup):(step_dedup l k).Nodup:=by
 unfold step_dedup
 split
 ·exact h
 ·rename_i z
  rw [List.nodup_append]
  refine ⟨h,by simp,fun x hx y hy e=>?_⟩
  have hy:y=k:=by simpa using hy
  exact z (by simp;rw [← hy,← e];exact hx)
theorem foldl_nd:∀ (ns l:List Int),l.Nodup→(ns.foldl step_dedup l).Nodup
 | [],_,h=>h
 | k :: ns,l,h=>foldl_nd ns _ (step_nd k h)
theorem once_nd (ns:List Int):(once ns).Nodup:=foldl_nd ns [] List.nodup_nil
theorem once_len (ns:List Int):(once ns).length≤ns.length:=by rw [← met_once];exact firstMet_length_le _ _
theorem ints_are:∀ {ns:List Int} {us:List Value},Vals (ns.map V.int) us→IntsAre us ns
 | [],_,.nil=>.nil
 | _ :: _,_,.cons r t=>by
  obtain ⟨u,rfl⟩:=r
  exact .cons _ _ (ints_are t)
section
variable {X:Cx}
def rSetLI (K:PySem.W.Frag):List V→Hp→VK→Prop:=fun xs H Q=>∃ (a:Addr) (ns:List Int),xs=[.ref a]∧SqL K H a (ns.map V.int)∧ns.length≤4000∧
 ∀ p,H p=none→Q (.ref p) (upd H p (.set (fun k=>(once ns).any (· == k)) (once ns).length))
theorem call_setLI (hc:X.calm=true):CallR X (.type "set") (rSetLI X.K):=by
 intro pins s σ H xs us Q I r h
 obtain ⟨p,ns,rfl,hq,hz,q⟩:=h
 obtain ⟨u,rfl,ru⟩:=vals1 r
 cases ru
 obtain ⟨its,rv,pl,hz2⟩:=I.list hq
 have hlen:=rv.length
 rw [List.length_map] at hlen
 have hsz:its.toArray.size=ns.length:=by simp [hlen]
 refine call_set_list (ns:=ns) (I.ok.hd hc) pl.isList (by simpa using ints_are rv) (by rw [hsz];show ns.length + 1 < 4096;omega) fun h' tk m k=>?_
 rw [hsz,met_once] at m
 exact ⟨.ref s.heap.objs.size,_,I.laid (o:=.set _ _) (t':=tk) (fun b o e=>k b o (Heap.lt_size e) e) (Nat.le_refl _) m,rfl,q _ I.fresh⟩
theorem call_setLIK (K:PySem.W.Frag) (hc:X.calm=true) (h:X.K=K:=by rfl):CallR X (.type "set") (rSetLI K):=by subst h;exact call_setLI hc
theorem call_lenSI:CallR X (.builtin "len") (fun xs H Q=>∃ a S n,xs=[V.ref a]∧H a=some (.set S n)∧Q (.int n) H):=by
 intro pins s σ H xs us Q I r h
 obtain ⟨a,S,n,rfl,ha,q⟩:=h
 obtain ⟨u,rfl,ru⟩:=vals1 r
 cases ru
 obtain ⟨o,es,ep,t,h1,h2,h3,_,_,h4,h5,rfl⟩:=(show ObjOk X.prog X.w H s.heap a (.set S n) from I.hok a _ ha)
 refine call_len_set h1 h2 h3 h5 ?_ ⟨.int es.size,H,I.tok _,⟨_,rfl⟩,q⟩
 have h4:es.size < 4096:=h4
 omega
theorem call_lenST (w:World) (hw:X.w=w:=by rfl):CallR X (.builtin "len") (fun xs H Q=>∃ a ws n,xs=[V.ref a]∧H a=some (.ext (SetW w a ws n))∧ws.Nodup∧n≤1000∧Q (.int ws.length) H):=by
 subst hw
 intro pins s σ H xs us Q I r h
 obtain ⟨a,ws,n,rfl,ha,nd,hn,q⟩:=h
 obtain ⟨u,rfl,ru⟩:=vals1 r
 cases ru
 obtain ⟨es,ep,t,⟨o,h1,h2,h3,h4,_⟩,el,hz⟩:=(show ObjOk X.prog X.w H s.heap a (.ext _) from I.hok a _ ha).1
 have e:es.size=ws.length:=by
  have:=((List.perm_ext_iff_of_nodup el.nd nd).mpr el.mem).length_eq
  rw [List.length_map,Array.length_toList] at this
  exact this
 refine call_len_set h1 h2 h3 h4 (by omega) ?_
 rw [e]
 exact ⟨.int ws.length,H,I.tok _,⟨_,rfl⟩,q⟩
def rEqNil (K:PySem.W.Frag):R2:=fun x y H Q=>∃ a b xs,x=.ref a∧y=.ref b∧SqT K H a xs∧SqT K H b []∧xs≠[]∧Q (.bl false) H
theorem op_eqNil (hu:X.A.units + 1 < cLine):OpR X (compareOp .Eq) (rEqNil X.K):=by
 intro pins s σ H x y v u Q I rx ry h
 obtain ⟨a,b,xs,rfl,rfl,ha,hb,hne,q⟩:=h
 cases rx
 cases ry
 obtain ⟨its,r1,⟨o1,g1,g2,n1,g3⟩,_⟩:=I.tuple ha
 obtain ⟨its2,r2,⟨o2,p1,p2,n2,p3⟩,_⟩:=I.tuple hb
 cases r2
 cases r1 with
 | nil=>exact absurd rfl hne
 | @cons _ u0 _ us r0 t=>
  have hTa:s.TypeIs (.ref a) "tuple":=⟨o1,g1,g2⟩
  have hTb:s.TypeIs (.ref b) "tuple":=⟨o2,p1,p2⟩
  exact wpAny_richCompare_same_room (op:=.Eq) hTa hTb F.slot_tuple_eq (wpAny_call_entry F.slot_tuple_eq hTa F.entry_tuple_eq (eq_tree (c:=false) g1 g3 p1 p2 p3 (by simpa using EqIt.right) ⟨_,rfl,(fun e=>nomatch e),⟨.bl false,H,I,rfl,q⟩⟩) (F.args_tuple_eq_2 _ _)) (by omega)
theorem op_eqNilK (K:PySem.W.Frag) (hu:X.A.units + 1 < cLine) (h:X.K=K:=by rfl):OpR X (compareOp .Eq) (rEqNil K):=by subst h;exact op_eqNil hu
end
end L2
end
section
set_option Elab.async false
set_option linter.all false
set_option maxRecDepth 100000
set_option maxHeartbeats 4000000
namespace L2
open PySem
@[elab_as_elim] theorem e1 {P:List Value→Prop} (h:∀ a,P [a]) (us:List Value) (hl:us.length=1):P us:=match us,hl with
 | [a],_=>h _
@[elab_as_elim] theorem e2 {P:List Value→Prop} (h:∀ a b,P [a,b]) (us:List Value) (hl:us.length=2):P us:=match us,hl with
 | [a,b],_=>h _ _
@[elab_as_elim] theorem e3 {P:List Value→Prop} (h:∀ a b c,P [a,b,c]) (us:List Value) (hl:us.length=3):P us:=match us,hl with
 | [a,b,c],_=>h _ _ _
@[elab_as_elim] theorem e4 {P:List Value→Prop} (h:∀ a b c d,P [a,b,c,d]) (us:List Value) (hl:us.length=4):P us:=match us,hl with
 | [a,b,c,d],_=>h _ _ _ _
end L2
namespace My
open PySem L2
def top (i:Nat):Stmt:=PySem.Challenge.pw_letterrack_k04_whole_least.main.body.getD i (.Pass ⟨0,0,0,0⟩)
abbrev s_rests_by_sign:Stmt:=top 2
theorem sc_rests_by_sign:FnScope ["texts","rests","text"] ["texts"] (defScope s_rests_by_sign):=⟨rfl,rfl,rfl,by decide +kernel,rfl,by decide +kernel,by decide +kernel⟩
abbrev s_least_table:Stmt:=top 3
theorem sc_least_table:FnScope ["texts","states","numbers","rows","state","pairs","sign","rests","onward"] ["texts"] (defScope s_least_table):=⟨rfl,rfl,rfl,by decide +kernel,rfl,by decide +kernel,by decide +kernel⟩
abbrev s_Machine_init:Stmt:=inClass (top 4) 0
theorem sc_Machine_init:FnScope ["self","texts","rows","state","row","sign","onward"] ["self","texts"] (defScope s_Machine_init):=⟨rfl,rfl,rfl,by decide +kernel,rfl,by decide +kernel,by decide +kernel⟩
abbrev s_Machine_table:Stmt:=inClass (top 4) 1
theorem sc_Machine_table:FnScope ["self"] ["self"] (defScope s_Machine_table):=⟨rfl,rfl,rfl,by decide +kernel,rfl,by decide +kernel,by decide +kernel⟩
abbrev s_cell_at:Stmt:=top 6
theorem sc_cell_at:FnScope ["_law_script","_law_k"] ["_law_script","_law_k"] (defScope s_cell_at):=⟨rfl,rfl,rfl,by decide +kernel,rfl,by decide +kernel,by decide +kernel⟩
abbrev s_next:Stmt:=top 7
theorem sc_next:FnScope ["_law_x"] ["_law_x"] (defScope s_next):=⟨rfl,rfl,rfl,by decide +kernel,rfl,by decide +kernel,by decide +kernel⟩
abbrev s_other:Stmt:=top 8
theorem sc_other:FnScope ["_law_x"] ["_law_x"] (defScope s_other):=⟨rfl,rfl,rfl,by decide +kernel,rfl,by decide +kernel,by decide +kernel⟩
abbrev s_number:Stmt:=top 9
theorem sc_number:FnScope ["_law_script","_law_k","_law_cell"] ["_law_script","_law_k"] (defScope s_number):=⟨rfl,rfl,rfl,by decide +kernel,rfl,by decide +kernel,by decide +kernel⟩
abbrev s_digits:Stmt:=top 10
theorem sc_digits:FnScope ["_law_script","_law_k","_law_base","_law_many","_law_left","_law_found","_law_x","_law_j"] ["_law_script","_law_k","_law_base","_law_many"] (defScope s_digits):=⟨rfl,rfl,rfl,by decide +kernel,rfl,by decide +kernel,by decide +kernel⟩
abbrev s_letters:Stmt:=top 11
theorem sc_letters:FnScope ["_law_script","_law_k","_law_letters_here","_law_row","_law_found","_law_digit"] ["_law_script","_law_k"] (defScope s_letters):=⟨rfl,rfl,rfl,by decide +kernel,rfl,by decide +kernel,by decide +kernel⟩
abbrev s_word_of:Stmt:=top 12
theorem sc_word_of:FnScope ["_law_row","_law_letters_here","_law_size"] ["_law_row","_law_letters_here"] (defScope s_word_of):=⟨rfl,rfl,rfl,by decide +kernel,rfl,by decide +kernel,by decide +kernel⟩
abbrev s_mixed:Stmt:=top 14
theorem sc_mixed:FnScope ["_law_cell","_law_k","_law_many","_law_x","_law_found","_law_j"] ["_law_cell","_law_k","_law_many"] (defScope s_mixed):=⟨rfl,rfl,rfl,by decide +kernel,rfl,by decide +kernel,by decide +kernel⟩
abbrev s_rows_of:Stmt:=top 15
theorem sc_rows_of:FnScope ["_law_script","_law_start","_law_most","_law_cell"] ["_law_script","_law_start","_law_most"] (defScope s_rows_of):=⟨rfl,rfl,rfl,by decide +kernel,rfl,by decide +kernel,by decide +kernel⟩
abbrev s_book:Stmt:=top 16
theorem sc_book:FnScope ["_law_script","_law_start","_law_most","_law_letters_here","_law_words","_law_row","_law_word_here"] ["_law_script","_law_start","_law_most","_law_letters_here"] (defScope s_book):=⟨rfl,rfl,rfl,by decide +kernel,rfl,by decide +kernel,by decide +kernel⟩
abbrev s_turned:Stmt:=top 17
theorem sc_turned:FnScope ["_law_word_here","_law_found","_law_k","_law_text","_law_j"] ["_law_word_here"] (defScope s_turned):=⟨rfl,rfl,rfl,by decide +kernel,rfl,by decide +kernel,by decide +kernel⟩
abbrev s_plain:Stmt:=top 18
theorem sc_plain:FnScope ["_law_row","_law_letters_here","_law_signs"] ["_law_row","_law_letters_here"] (defScope s_plain):=⟨rfl,rfl,rfl,by decide +kernel,rfl,by decide +kernel,by decide +kernel⟩
abbrev s_texts:Stmt:=top 19
theorem sc_texts:FnScope ["_law_script","_law_letters_here","_law_words","_law_way","_law_texts_here","_law_word_here","_law_row","_law_found","_law_known","_law_text"] ["_law_script","_law_letters_here"] (defScope s_texts):=⟨rfl,rfl,rfl,by decide +kernel,rfl,by decide +kernel,by decide +kernel⟩
abbrev s_reached:Stmt:=top 20
theorem sc_reached:FnScope ["_law_table","_law_seen","_law_waiting","_law_state","_law_sign","_law_there"] ["_law_table"] (defScope s_reached):=⟨rfl,rfl,rfl,by decide +kernel,rfl,by decide +kernel,by decide +kernel⟩
abbrev s_counts:Stmt:=top 21
theorem sc_counts:FnScope ["_law_table","_law_counts_here","_law_turn","_law_k","_law_state","_law_some"] ["_law_table"] (defScope s_counts):=⟨rfl,rfl,rfl,by decide +kernel,rfl,by decide +kernel,by decide +kernel⟩
abbrev s_parted:Stmt:=top 22
theorem sc_parted:FnScope ["_law_table","_law_classes","_law_many","_law_known","_law_parted_here","_law_state","_law_mark"] ["_law_table"] (defScope s_parted):=⟨rfl,rfl,rfl,by decide +kernel,rfl,by decide +kernel,by decide +kernel⟩
abbrev s_shaped:Stmt:=top 23
theorem sc_shaped:FnScope ["_law_table","_law_state","_law_signs","_law_sign","_law_there"] ["_law_table"] (defScope s_shaped):=⟨rfl,rfl,rfl,by decide +kernel,rfl,by decide +kernel,by decide +kernel⟩
abbrev s_law:Stmt:=top 24
theorem sc_law:FnScope ["_law_script","_law_letters_here","_law_texts_here","_law_table","_law_counts_here"] ["_law_script"] (defScope s_law):=⟨rfl,rfl,rfl,by decide +kernel,rfl,by decide +kernel,by decide +kernel⟩
section
variable {P:Program} {w:World} {K:PySem.W.Frag} {mg:Str→Option Value} {base:Heap}
theorem two_at (a b:V) (c:Int):∃ v,atI [a,b] (c % 2)=some v∧(v=a∨v=b):=by
 rcases Int.emod_two_eq c with h | h
 ·exact ⟨a,by rw [h];exact atI_nat (j:=0) rfl,.inl rfl⟩
 ·exact ⟨b,by rw [h];exact atI_nat (j:=1) rfl,.inr rfl⟩
def spCell (K:PySem.W.Frag):Sp:=fun vs H Q _=>∃ (a:Addr) (ns:List Int) (k:Nat),vs=[.ref a,.int k]∧SqL K H a (ns.map V.int)∧∀ v:Int,Q (.int v) H
def spMix:Sp:=fun vs H Q _=>∃ x:Int,vs=[.int x]∧0≤x∧x < 1099511627776∧∀ y:Int,0≤y→y < 2147483647→Q (.int y) H
def spNum (K:PySem.W.Frag):Sp:=fun vs H Q _=>∃ (a:Addr) (ns:List Int) (k:Nat),vs=[.ref a,.int k]∧SqL K H a (ns.map V.int)∧k≤1000∧∀ v:Int,Q (.int v) H
def spDig (K:PySem.W.Frag):Sp:=fun vs H Q _=>∃ (a:Addr) (ns:List Int) (k:Nat) (b:Int) (m:Nat),vs=[.ref a,.int k,.int b,.int m]∧SqL K H a (ns.map V.int)∧k≤1000∧0 < b∧b < 1000000∧m≤100∧
 ∀ (p:Addr) (ds:List Int) (H':Hp),Same H H'→H p=none→H' p=some (.lst (ds.map V.int))→ds.length=m→(∀ d∈ds,0≤d∧d < b)→Q (.ref p) H'
def isLet (c:Nat):Prop:=97≤c∧c≤122
structure Alph (ls:List Nat):Prop where
 lo:2≤ls.length
 hi:ls.length≤26
 az:∀ c∈ls,isLet c
 up:ls.Pairwise (fun a b=>a < b)
def spLet (K:PySem.W.Frag):Sp:=fun vs H Q _=>∃ (a:Addr) (ns:List Int) (k:Nat),vs=[.ref a,.int k]∧SqL K H a (ns.map V.int)∧k≤1000∧
 ∀ (ls:List Nat) (H':Hp),Same H H'→Alph ls→Q (.str (S ls)) H'
structure Word (w:List Nat):Prop where
 lo:2≤w.length
 hi:w.length≤9
 az:∀ c∈w,isLet c
structure Row (ds:List Int):Prop where
 lo:10≤ds.length
 hi:ds.length≤100
 nn:∀ d∈ds,0≤d∧d < 1000000
def spWordOf (K:PySem.W.Frag):Sp:=fun vs H Q _=>∃ (p:Addr) (ds:List Int) (ls:List Nat),vs=[.ref p,.str (S ls)]∧SqL K H p (ds.map V.int)∧Row ds∧Alph ls∧
 ∀ (w:List Nat) (H':Hp),Same H H'→Word w→(∀ c∈w,c∈ls)→Q (.str (S w)) H'
theorem ok_cell (D:DefAt K mg "_law_cell_at" s_cell_at ["_law_script","_law_k"]) (hlen:mg "len"=none):Def P w K mg base "_law_cell_at" 1 ["_law_script","_law_k"] (spCell K):=by
 refine D.qok sc_cell_at (fun vs H Q E h=>?_) (fun f cdv A outer s H vs Q E hr h=>?_)
 ·obtain ⟨a,ns,k,rfl,_⟩:=h
  rfl
 ·obtain ⟨a,ns,k,rfl,hS,q⟩:=h
  refine ⟨_,qss_cons (qs_if (qt_cmpR op_lt (qv 1) (qe_callB call_len_seq (by rfl) hlen PySem.boot_len (qa_cons (qv 0) qa_nil)) (nomark _)) (qss_one (qs_ret (qe_ix ix_list (qv 0) (qv 1) (fun _ _=>rfl)))) qss_nil) (qss_one (qs_ret qe_int)),?_⟩
  refine ⟨_,rfl,_,rfl,a,_,rfl,.inl hS,_,_,rfl,rfl,_,rfl,?_⟩
  refine ite2 (fun hc=>?_) (fun _=>?_)
  ·have hk:k < ns.length:=by
    have:=of_decide_eq_true hc
    rw [List.length_map] at this
    omega
   exact ⟨_,rfl,_,rfl,a,_,_,.int ns[k],rfl,rfl,hS,atI_nat (by simp [hk]),q _⟩
  ·exact q _
theorem ok_next (D:DefAt K mg "_law_next" s_next ["_law_x"]):Def P w K mg base "_law_next" 1 ["_law_x"] spMix:=by
 refine D.qok sc_next (fun vs H Q E h=>?_) (fun f cdv A outer s H vs Q E hr h=>?_)
 ·obtain ⟨x,rfl,_⟩:=h
  rfl
 ·obtain ⟨x,rfl,h0,h1,q⟩:=h
  refine ⟨_,qss_one (qs_ret (qe_op op_mod (qe_op op_add (qe_op op_add (qe_op op_mul (qv 0) (qv 0)) (qe_op op_mul qe_int (qv 0))) qe_int) qe_int)),?_⟩
  refine ⟨_,rfl,_,rfl,_,_,rfl,rfl,.inl ⟨by omega,by omega⟩,_,rfl,_,_,rfl,rfl,.inl ⟨by decide,by decide⟩,_,_,rfl,rfl,_,_,rfl,rfl,_,_,rfl,rfl,(by show (0:Int) < 2147483647;decide),?_⟩
  exact q _ (Int.emod_nonneg _ (by decide)) (Int.emod_lt_of_pos _ (by decide))
theorem ok_other (D:DefAt K mg "_law_other" s_other ["_law_x"]):Def P w K mg base "_law_other" 1 ["_law_x"] spMix:=by
 refine D.qok sc_other (fun vs H Q E h=>?_) (fun f cdv A outer s H vs Q E hr h=>?_)
 ·obtain ⟨x,rfl,_⟩:=h
  rfl
 ·obtain ⟨x,rfl,h0,h1,q⟩:=h
  refine ⟨_,qss_one (qs_ret (qe_op op_mod (qe_op op_add (qe_op op_add (qe_op op_mul (qv 0) (qv 0)) (qe_op op_mul qe_int (qv 0))) qe_int) qe_int)),?_⟩
  refine ⟨_,rfl,_,rfl,_,_,rfl,rfl,.inl ⟨by omega,by omega⟩,_,rfl,_,_,rfl,rfl,.inl ⟨by decide,by decide⟩,_,_,rfl,rfl,_,_,rfl,rfl,_,_,rfl,rfl,(by show (0:Int) < 2147483629;decide),?_⟩
  exact q _ (Int.emod_nonneg _ (by decide)) (Int.lt_trans (Int.emod_lt_of_pos _ (by decide)) (by decide))
theorem ok_number (D:DefAt K mg "_law_number" s_number ["_law_script","_law_k"]) (D1:Def P w K mg base "_law_cell_at" 1 ["_law_script","_law_k"] (spCell K)) (D2:Def P w K mg base "_law_next" 1 ["_law_x"] spMix) (D3:Def P w K mg base "_law_other" 1 ["_law_x"] spMix) :
  Def P w K mg base "_law_number" 2 ["_law_script","_law_k"] (spNum K):=by
 refine D.qok sc_number (fun vs H Q E h=>?_) (fun f cdv A outer s H vs Q E hr h=>?_)
 ·obtain ⟨a,ns,k,rfl,_⟩:=h
  rfl
 ·obtain ⟨a,ns,k,rfl,hS,hk,q⟩:=h
  refine ⟨_,qss_cons (qs_set (i:=2) sc_number.nd rfl (Or.inl rfl) (qe_own D1 hr rfl (qa_cons (qv 0) (qa_cons (qv 1) qa_nil))))
   (qss_cons (qs_if (qt_cmpR op_eq (qe_op op_mod (qv 2) qe_int) qe_int (nomark _)) (qss_one (qs_ret (qe_op op_fdiv (qv 2) qe_int))) qss_nil)
   (qss_one (qs_ret (qe_own D3 hr rfl (qa_cons (qe_own D2 hr rfl (qa_cons (qe_op op_mod (qe_op op_add (qv 2) (qe_op op_mul (qe_op op_mul qe_int (qv 1)) (qv 1))) qe_int) qa_nil)) qa_nil))))),?_⟩
  refine ⟨_,rfl,_,rfl,a,ns,k,rfl,hS,fun v=>?_⟩
  refine ⟨_,rfl,_,_,rfl,rfl,(by show (0:Int) < 2;decide),rfl,_,rfl,?_⟩
  refine ite2 (fun _=>?_) (fun _=>?_)
  ·exact ⟨_,rfl,_,_,rfl,rfl,⟨by decide,by decide⟩,q _⟩
  ·refine ⟨_,rfl,_,rfl,_,_,rfl,rfl,.inl ⟨by decide,by decide⟩,_,rfl,_,_,rfl,rfl,.inr ⟨by omega,by omega⟩,_,_,rfl,rfl,_,_,rfl,rfl,(by show (0:Int) < 2147483647;decide),?_⟩
   refine ⟨_,rfl,Int.emod_nonneg _ (by decide),Int.lt_trans (Int.emod_lt_of_pos _ (by decide)) (by decide),fun y h1 h2=>?_⟩
   exact ⟨y,rfl,h1,by omega,fun z _ _=>q z⟩
theorem ok_digits (D:DefAt K mg "_law_digits" s_digits ["_law_script","_law_k","_law_base","_law_many"]) (hrange:mg "range"=none) (D1:Def P w K mg base "_law_cell_at" 1 ["_law_script","_law_k"] (spCell K)) (D2:Def P w K mg base "_law_next" 1 ["_law_x"] spMix)
  (D3:Def P w K mg base "_law_other" 1 ["_law_x"] spMix) (D4:Def P w K mg base "_law_number" 2 ["_law_script","_law_k"] (spNum K)):Def P w K mg base "_law_digits" 3 ["_law_script","_law_k","_law_base","_law_many"] (spDig K):=by
 refine D.qok sc_digits (fun vs H Q E h=>?_) (fun f cdv A outer s H vs Q E hr h=>?_)
 ·obtain ⟨a,ns,k,b,m,rfl,_⟩:=h
  rfl
 ·obtain ⟨a,ns,k,b,m,rfl,hS,hk,hb0,hb1,hm,q⟩:=h
  have hr1:Room 1 _:=hr.mono (by decide)
  have nd:=sc_digits.nd
  refine ⟨_,qss_cons (qs_set (i:=4) nd rfl (Or.inl rfl) (qe_own D4 hr rfl (qa_cons (qv 0) (qa_cons (qv 1) qa_nil))))
   (qss_cons (qs_set (i:=5) nd rfl (Or.inl rfl) (qe_lst qa_nil))
   (qss_cons (qs_set (i:=6) nd rfl (Or.inl rfl) (qe_op op_mod (qv 4) qe_int))
   (qss_cons (qs_for PassesOwn.never rfl (qi_range1 rfl hrange (qa_cons (qv 3) qa_nil)) (qg_name (i:=7) nd rfl (Or.inl rfl))
    (qss_cons (qs_set (i:=6) nd rfl (Or.inl rfl) (qe_own D3 hr1 rfl (qa_cons (qe_own D2 hr1 rfl (qa_cons (qe_op op_add (qv 6) (qv 7)) qa_nil)) qa_nil)))
    (qss_cons (qs_expr (qe_bm PySem.F.plainAttrs_list PySem.F.slot_list_append PySem.F.type_list_append mt_append (qv 5)
     (qa_cons (qe_op op_mod (qe_ix ix_list (qe_lst (qa_cons (qv 4) (qa_cons (qv 6) qa_nil))) (qe_op op_mod (qe_own D1 hr1 rfl (qa_cons (qv 0) (qa_cons (qv 1) qa_nil))) qe_int) (fun _ _=>rfl)) (qv 2)) qa_nil)))
    (qss_one (qs_set (i:=4) nd rfl (Or.inl rfl) (qe_op op_fdiv (qv 4) (qv 2)))))))
   (qss_one (qs_ret (qv 5)))))),?_⟩
  refine ⟨_,rfl,_,rfl,a,ns,k,rfl,hS,hk,fun v=>?_⟩
  refine ⟨by show 0≤sizeLine;decide,fun p hp=>?_⟩
  refine ⟨_,rfl,_,_,rfl,rfl,(by show (0:Int) < 2147483647;decide),?_⟩
  refine ⟨_,rfl,_,rfl,by omega,by omega,for_range (n:=m) (lo:=0) (fun i σ H2=>∃ (lf x:Int) (jv:Option V) (ds:List Int),σ=[some (.ref a),some (.int k),some (.int b),some (.int m),some (.int lf),some (.ref p),some (.int x),jv]∧Same H H2∧
   H2 p=some (.lst (ds.map V.int))∧ds.length=i∧(∀ d∈ds,0≤d∧d < b)∧0≤x∧x < 2147483647)
   ⟨v,_,none,[],rfl,Same.upd hp,upd_same,rfl,fun d hd=>by simp at hd,Int.emod_nonneg _ (by decide),Int.emod_lt_of_pos _ (by decide)⟩ ?_ ?_⟩
  ·rintro i σ H2 hi ⟨lf,x,jv,ds,rfl,sm,hp2,hl,hd,hx0,hx1⟩
   refine ⟨_,rfl,_,rfl,_,_,rfl,rfl,?_⟩
   refine ⟨_,rfl,by omega,by omega,fun y h1 h2=>?_⟩
   refine ⟨y,rfl,h1,by omega,fun z h3 h4=>?_⟩
   refine ⟨_,rfl,.inl ⟨rfl,_,SqL.of hp2⟩,?_⟩
   refine ⟨_,rfl,_,rfl,by show 2≤sizeLine;decide,fun t ht=>?_⟩
   have s3:∀ o,Same H (upd H2 t o):=fun o=>sm.upd' (sm.free ht)
   refine ⟨_,rfl,_,rfl,a,ns,k,rfl,(s3 _).seq hS,fun cv=>?_⟩
   obtain ⟨u,hu,hu2⟩:=two_at (.int lf) (.int z) cv
   obtain ⟨c,rfl⟩:∃ c,u=.int c:=by rcases hu2 with e | e <;> exact ⟨_,e⟩
   refine ⟨_,_,rfl,rfl,(by show (0:Int) < 2;decide),t,_,_,_,rfl,rfl,SqL.of upd_same,hu,_,rfl,_,_,rfl,rfl,hb0,?_⟩
   have npt:p≠t:=ne_of_none hp2 ht
   refine ⟨p,_,_,rfl,rfl,(by rw [upd_ne npt];exact hp2),(by rw [List.length_map,hl];exact small1000 (by omega)),?_⟩
   refine ⟨_,rfl,_,rfl,_,_,rfl,rfl,⟨hb0,by omega⟩,?_⟩
   refine ⟨lf / b,z,_,ds ++ [c % b],rfl,(s3 _).upd' hp,?_,by simp [hl],?_,h3,h4⟩
   ·rw [upd_same];simp
   ·intro d hd'
    rcases List.mem_append.mp hd' with e | e
    ·exact hd d e
    ·rw [List.mem_singleton.mp e]
     exact ⟨Int.emod_nonneg _ (by omega),Int.emod_lt_of_pos _ hb0⟩
  ·rintro σ H2 ⟨lf,x,jv,ds,rfl,sm,hp2,hl,hd,hx0,hx1⟩
   exact ⟨_,rfl,q p ds H2 sm hp hp2 hl hd⟩
def AL:List Nat:=(List.range 26).map (97 + ·)
theorem AL_at (d:Int):atI AL (d % 26)=some (97 + (d % 26).toNat):=by
 have h0:0≤d % 26:=Int.emod_nonneg _ (by decide)
 have h1:d % 26 < 26:=Int.emod_lt_of_pos _ (by decide)
 have e:d % 26=(((d % 26).toNat:Nat):Int):=by omega
 rw [e]
 refine atI_nat ?_
 have hl:((d % 26).toNat:Int).toNat < 26:=by omega
 simp only [AL,List.getElem?_map,Int.toNat_natCast]
 rw [List.getElem?_range (by omega)]
 rfl
theorem some_out:∀ (F:List Nat) (L:List Nat),L.Nodup→F.length < L.length→∃ x∈L,x∉F
 | [],L,_,h=>by
  cases L with
  | nil=>simp at h
  | cons x r=>exact ⟨x,List.mem_cons_self,by simp⟩
 | c :: F,L,nd,h=>by
  have hl:F.length < (L.erase c).length:=by
   rw [List.length_erase]
   simp only [List.length_cons] at h
   split <;> omega
  obtain ⟨x,h1,h2⟩:=some_out F (L.erase c) (nd.erase c) hl
  obtain ⟨h3,h4⟩:=nd.mem_erase_iff.mp h1
  exact ⟨x,h4,fun z=>by rcases List.mem_cons.mp z with e | e;exact h3 e;exact h2 e⟩
theorem out_soon (F:List Nat) (h:F.length < 26) (d:Int):∃ j:Nat,(97 + ((d + j) % 26).toNat)∉F:=by
 obtain ⟨x,h1,h2⟩:=some_out F ((List.range 26).map (97 + ·)) (by decide) (by simpa using h)
 obtain ⟨c,hc,rfl⟩:=List.mem_map.mp h1
 have hc':c < 26:=List.mem_range.mp hc
 refine ⟨((c - d) % 26).toNat,?_⟩
 have e:((d + (((c - d) % 26).toNat:Nat)) % 26).toNat=c:=by omega
 rw [e]
 exact h2
theorem ints_mem {ds:List Int} {lo hi:Option Int} {v:V} (h:v∈cutV (ds.map V.int) lo hi):∃ d∈ds,v=.int d:=by
 unfold cutV at h
 have h2:=List.mem_of_mem_drop (List.mem_of_mem_take h)
 obtain ⟨d,hd,e⟩:=List.mem_map.mp h2
 exact ⟨d,hd,e.symm⟩
theorem cut_len {ds:List Int} {a b:Nat} (h1:a≤b) (h2:b≤ds.length):(cutV (ds.map V.int) (some (a:Int)) (some (b:Int))).length=b - a:=by
 unfold cutV
 rw [HT.sIx_nat,HT.sIx_nat,List.length_take,List.length_drop,List.length_map]
 omega
theorem flat1 (l:List Nat):(l.map fun c=>[c]).flatten=l:=by
 induction l with
 | nil=>rfl
 | cons c r ih=>rw [List.map_cons,List.flatten_cons,ih];rfl
theorem AL_az:∀ c∈AL,isLet c:=fun c hc=>by
 obtain ⟨k,hk,rfl⟩:=List.mem_map.mp hc
 have:=List.mem_range.mp hk
 exact ⟨by omega,by omega⟩
theorem up_ones {ls:List Nat} (so:(ls.map fun c=>[c]).Pairwise (fun a b=>decide (b < a)=false)) (nd:ls.Nodup):ls.Pairwise (fun a b=>a < b):=by
 rw [List.pairwise_map] at so
 refine (so.and nd).imp fun {a b} h=>?_
 have h1:¬([b] < [a]):=of_decide_eq_false h.1
 have h2:¬b < a:=fun z=>h1 (by simp [List.cons_lt_cons_iff,z])
 have h3:a≠b:=h.2
 omega
theorem ok_letters (D:DefAt K mg "_law_letters" s_letters ["_law_script","_law_k"]) (hsorted:mg "sorted"=none)
  (D1:Def P w K mg base "_law_digits" 3 ["_law_script","_law_k","_law_base","_law_many"] (spDig K)):Def P w K mg base "_law_letters" 4 ["_law_script","_law_k"] (spLet K):=by
 refine D.qok sc_letters (fun vs H Q E h=>?_) (fun f cdv A outer s H vs Q E hr h=>?_)
 ·obtain ⟨a,ns,k,rfl,_⟩:=h
  rfl
 ·obtain ⟨a,ns,k,rfl,hS,hk,q⟩:=h
  have nd:=sc_letters.nd
  refine ⟨_,qss_cons (qs_set (i:=2) nd rfl (Or.inl rfl) (qe_strS AL (by decide +kernel)))
   (qss_cons (qs_set (i:=3) nd rfl (Or.inl rfl) (qe_own D1 hr rfl (qa_cons (qv 0) (qa_cons (qv 1) (qa_cons qe_int (qa_cons qe_int qa_nil))))))
   (qss_cons (qs_if (qt_cmpR op_eq (qe_op op_mod (qe_ix ix_list (qv 3) qe_int (fun _ _=>rfl)) qe_int) qe_int (nomark _)) (qss_one (qs_ret (qv 2))) qss_nil)
   (qss_cons (qs_set (i:=4) nd rfl (Or.inl rfl) (qe_strS [] (by decide +kernel)))
   (qss_cons (qs_for PassesOwn.never rfl (qi_list (qe_slice sl_list (qv 3) (qo_some qe_int) (qo_some (qe_op op_add qe_int (qe_op op_mod (qe_op op_fdiv (qe_ix ix_list (qv 3) qe_int (fun _ _=>rfl)) qe_int) qe_int))))) (qg_name (i:=5) nd rfl (Or.inl rfl))
    (qss_cons (qs_while PassesOwn.never (qt_cmpR op_inS (qe_ix ix_S (qv 2) (qe_op op_mod (qv 5) qe_int) (fun _ _=>rfl)) (qv 4) rfl) (qss_one (qs_set (i:=5) nd rfl (Or.inl rfl) (qe_op op_add (qv 5) qe_int))))
    (qss_one (qs_set (i:=4) nd rfl (Or.inl rfl) (qe_op op_addS (qv 4) (qe_ix ix_S (qv 2) (qe_op op_mod (qv 5) qe_int) (fun _ _=>rfl)))))))
   (qss_one (qs_ret (qe_bm PySem.F.plainAttrs_str PySem.F.slot_str_join PySem.F.type_str_join mt_join (qe_strS [] (by decide +kernel)) (qa_cons (qe_callB (call_sortedSP rfl) (by rfl) hsorted PyProof.Rows.boot_sorted (qa_cons (qv 4) qa_nil)) qa_nil)))))))),?_⟩
  have hAL:AL.length≤sizeLine:=by decide
  refine ⟨_,rfl,_,rfl,a,ns,k,208,5,rfl,hS,hk,by decide,by decide,by decide,fun p ds H1 sm hp hp1 hl hd=>?_⟩
  have hd0:ds[0]?=some ds[0]:=by simp [hl]
  have h0:=hd ds[0] (List.getElem_mem _)
  have at0:atI (ds.map V.int) 0=some (.int ds[0]):=atI_nat (j:=0) (by simp [hl])
  refine ⟨_,rfl,p,_,0,_,rfl,rfl,SqL.of hp1,at0,_,_,rfl,rfl,(by show (0:Int) < 8;decide),rfl,_,rfl,?_⟩
  refine ite2 (fun _=>?_) (fun _=>?_)
  ·exact ⟨_,rfl,q AL H1 sm ⟨by decide,by decide,AL_az,by decide⟩⟩
  ·refine ⟨_,rfl,_,rfl,_,rfl,p,_,0,_,rfl,rfl,SqL.of hp1,at0,_,_,rfl,rfl,⟨by decide,by decide⟩,_,_,rfl,rfl,(by show (0:Int) < 3;decide),_,_,rfl,rfl,_,rfl,p,_,rfl,SqL.of hp1,fun t ht=>?_⟩
   obtain ⟨r,hr1,hr2⟩:∃ r:Nat,(3:Int) + ds[0] / 8 % 3=((3 + r:Nat):Int)∧r < 3:=⟨(ds[0] / 8 % 3).toNat,by omega,by omega⟩
   rw [hr1]
   have hxl:(cutV (ds.map V.int) (some (1:Nat)) (some ((3 + r:Nat):Int))).length=2 + r:=by rw [cut_len (by omega) (by omega)];omega
   generalize hxs:cutV (ds.map V.int) (some 1) (some ((3 + r:Nat):Int))=xs
   have hxl':xs.length=2 + r:=by rw [← hxs];exact hxl
   have hxm:∀ v∈xs,∃ d:Int,v=.int d:=fun v hv=>by
    rw [← hxs] at hv
    obtain ⟨d,_,e⟩:=ints_mem hv
    exact ⟨d,e⟩
   refine ⟨t,rfl,⟨_,SqL.of upd_same⟩,for_list (K:=K) (a:=t) (xs:=xs) (fun i σ H2=>∃ (dv:Option V) (fs:List Nat),σ=[some (.ref a),some (.int k),some (.str (S AL)),some (.ref p),some (.str (S fs)),dv]∧Same H H2∧H2 t=some (.lst xs)∧fs.length=i∧fs.Nodup∧∀ c∈fs,isLet c)
    ⟨none,[],rfl,sm.upd' (sm.free ht),upd_same,rfl,List.nodup_nil,fun c hc=>by simp at hc⟩ (fun i σ H2 _ ⟨_,_,_,_,h2,_⟩=>SqL.of h2) ?_ ?_⟩
   ·rintro i y σ H2 hi ⟨dv,fs,rfl,sm2,h2,hfl,hnd,hfa⟩
    have hil:i < xs.length:=(List.getElem?_eq_some_iff.mp hi).1
    obtain ⟨d,rfl⟩:=hxm y (List.mem_of_getElem? hi)
    obtain ⟨j0,hj0⟩:=out_soon fs (by omega) d
    refine ⟨fun m σ' H'=>H'=H2∧∃ (e:Int),σ'=[some (.ref a),some (.int k),some (.str (S AL)),some (.ref p),some (.str (S fs)),some (.int e)]∧∃ j:Nat,j≤m∧(97 + ((e + j) % 26).toNat)∉fs,⟨j0,rfl,d,rfl,j0,Nat.le_refl _,hj0⟩,?_⟩
    rintro m σ' H' ⟨rfl,e,rfl,j,hjm,hj⟩
    refine ⟨_,rfl,_,rfl,_,_,rfl,rfl,(by show (0:Int) < 26;decide),AL,_,_,rfl,rfl,hAL,AL_at e,_,rfl,_,_,rfl,rfl,_,rfl,?_⟩
    refine ite2 (fun hc=>?_) (fun hc=>?_)
    ·have hin:(97 + (e % 26).toNat)∈fs:=of_decide_eq_true hc
     have hj1:j≠0:=fun z=>by subst z;simp at hj;exact hj hin
     refine ⟨fun σ2 H3=>H3=H'∧σ2=[some (.ref a),some (.int k),some (.str (S AL)),some (.ref p),some (.str (S fs)),some (.int (e + 1))],?_,?_⟩
     ·rintro σ2 H3 ⟨rfl,rfl⟩
      refine ⟨m - 1,by omega,rfl,e + 1,rfl,j - 1,by omega,?_⟩
      have:(e + 1 + ((j - 1:Nat):Int))=e + (j:Int):=by omega
      rw [this];exact hj
     ·exact ⟨_,rfl,_,_,rfl,rfl,rfl,rfl⟩
    ·refine ⟨_,rfl,_,rfl,_,rfl,_,_,rfl,rfl,(by show (0:Int) < 26;decide),AL,_,_,rfl,rfl,hAL,AL_at e,fs,_,rfl,rfl,by show fs.length + 1≤sizeLine;exact small1000 (by omega),?_⟩
     refine ⟨_,_,rfl,sm2,h2,by simp [hfl],List.nodup_append.mpr ⟨hnd,by simp,fun x hx y hy z=>hc (decide_eq_true (by rw [List.mem_singleton.mp hy] at z;rw [← z];exact hx))⟩,fun c hc'=>?_⟩
     rcases List.mem_append.mp hc' with z | z
     ·exact hfa c z
     ·rw [List.mem_singleton.mp z]
      have h1:e % 26 < 26:=Int.emod_lt_of_pos _ (by decide)
      exact ⟨by omega,by omega⟩
   ·rintro σ H2 ⟨dv,fs,rfl,sm2,h2,hfl,hnd,hfa⟩
    refine ⟨rfl,_,rfl,fs,rfl,by omega,fun u ls' hu pm so=>?_⟩
    have hll:ls'.length=fs.length:=pm.length_eq
    refine ⟨u,ls'.map fun c=>[c],rfl,rfl,SqL.of upd_same,by rw [flat1];omega,?_⟩
    rw [flat1]
    exact q ls' _ (sm2.upd' (sm2.free hu)) ⟨by omega,by omega,fun c hc=>hfa c (pm.mem_iff.mp hc),up_ones so (pm.nodup_iff.mpr hnd)⟩
theorem ok_word_of (D:DefAt K mg "_law_word_of" s_word_of ["_law_row","_law_letters_here"]) (hlen:mg "len"=none):Def P w K mg base "_law_word_of" 1 ["_law_row","_law_letters_here"] (spWordOf K):=by
 refine D.qok sc_word_of (fun vs H Q E h=>?_) (fun f cdv A outer s H vs Q E hr h=>?_)
 ·obtain ⟨p,ds,ls,rfl,_⟩:=h
  rfl
 ·obtain ⟨p,ds,ls,rfl,hS,hR,hA,q⟩:=h
  have nd:=sc_word_of.nd
  refine ⟨_,qss_cons (qs_set (i:=2) nd rfl (Or.inl rfl) (qe_ix ix_list (qe_lst (qa_c (qa_c (qa_c (qa_c (qa_c (qa_c (qa_c (qa_cons (qe_op op_add qe_int (qe_op op_mod (qe_op op_fdiv (qe_ix ix_list (qv 0) qe_int (fun _ _=>rfl)) qe_int) qe_int)) qa_nil))))))))) (qe_op op_mod (qe_ix ix_list (qv 0) qe_int (fun _ _=>rfl)) qe_int) (fun _ _=>rfl)))
   (qss_one (qs_ret (qe_bm PySem.F.plainAttrs_str PySem.F.slot_str_join PySem.F.type_str_join mt_join (qe_strS [] (by decide +kernel))
    (qa_cons (qe_comp rfl (CompOk.of nd (by kernel_rfl)) (qi_list (qe_slice sl_list (qv 0) (qo_some qe_int) (qo_some (qe_op op_add qe_int (qv 2)))))
     (fun _ _ _ _ _=>qts_nil) (fun _ _ _ _ _=>qe_ix ix_S (qv 2) (qe_op op_mod (qe_op op_fdiv (qv 0) qe_int) (qe_callB call_lenS (by rfl) hlen PySem.boot_len (qa_cons (qv 2) qa_nil))) (fun _ _=>rfl))) qa_nil)))),?_⟩
  have hl0:0 < ds.length:=by have:=hR.lo;omega
  have at0:atI (ds.map V.int) 0=some (.int ds[0]):=atI_nat (j:=0) (by simp [hl0])
  have h0:=hR.nn ds[0] (List.getElem_mem _)
  refine ⟨_,rfl,p,_,0,_,rfl,rfl,hS,at0,_,_,rfl,rfl,⟨by decide,by decide⟩,_,_,rfl,rfl,(by show (0:Int) < 8;decide),_,_,rfl,rfl,by show 8≤sizeLine;decide,fun t ht=>?_⟩
  obtain ⟨z,hz1,hz2,hz3⟩:∃ z:Nat,atI [V.int 2,V.int 2,V.int 3,V.int 3,V.int 3,V.int 4,V.int 5,V.int (2 + ds[0] / 8 % 8)] (ds[0] % 8)=some (.int z)∧2≤z∧z≤9:=by
   have hm:ds[0] % 8=0∨ds[0] % 8=1∨ds[0] % 8=2∨ds[0] % 8=3∨ds[0] % 8=4∨ds[0] % 8=5∨ds[0] % 8=6∨ds[0] % 8=7:=by omega
   rcases hm with e | e | e | e | e | e | e | e <;> rw [e]
   ·exact ⟨2,atI_nat (j:=0) rfl,by decide,by decide⟩
   ·exact ⟨2,atI_nat (j:=1) rfl,by decide,by decide⟩
   ·exact ⟨3,atI_nat (j:=2) rfl,by decide,by decide⟩
   ·exact ⟨3,atI_nat (j:=3) rfl,by decide,by decide⟩
   ·exact ⟨3,atI_nat (j:=4) rfl,by decide,by decide⟩
   ·exact ⟨4,atI_nat (j:=5) rfl,by decide,by decide⟩
   ·exact ⟨5,atI_nat (j:=6) rfl,by decide,by decide⟩
   ·refine ⟨(2 + ds[0] / 8 % 8).toNat,?_,by omega,by omega⟩
    have e2:(2 + ds[0] / 8 % 8)=(((2 + ds[0] / 8 % 8).toNat:Nat):Int):=by omega
    rw [← e2]
    exact atI_nat (j:=7) rfl
  have hT:upd H t (.lst [V.int 2,V.int 2,V.int 3,V.int 3,V.int 3,V.int 4,V.int 5,V.int (2 + ds[0] / 8 % 8)]) t=some _:=upd_same
  have s1:Same H (upd H t (.lst [V.int 2,V.int 2,V.int 3,V.int 3,V.int 3,V.int 4,V.int 5,V.int (2 + ds[0] / 8 % 8)])):=Same.upd ht
  generalize upd H t (.lst [V.int 2,V.int 2,V.int 3,V.int 3,V.int 3,V.int 4,V.int 5,V.int (2 + ds[0] / 8 % 8)])=H1 at hT s1 ⊢
  refine ⟨_,rfl,p,_,0,_,rfl,rfl,s1.seq hS,at0,_,_,rfl,rfl,(by show (0:Int) < 8;decide),t,_,_,_,rfl,rfl,SqL.of hT,hz1,?_⟩
  refine ⟨rfl,_,rfl,_,rfl,_,rfl,_,_,rfl,rfl,_,rfl,p,_,rfl,s1.seq hS,fun u hu=>?_⟩
  have sU:∀ o,Same H (upd H1 u o):=fun o=>s1.upd' (s1.free hu)
  have e1:(1:Int) + (z:Int)=((1 + z:Nat):Int):=by omega
  rw [e1]
  have hxl:(cutV (ds.map V.int) (some (1:Nat)) (some ((1 + z:Nat):Int))).length=z:=by rw [cut_len (by omega) (by have:=hR.lo;omega)];omega
  generalize hxs:cutV (ds.map V.int) (some 1) (some ((1 + z:Nat):Int))=xs
  have hxl':xs.length=z:=by rw [← hxs];exact hxl
  have hxm:∀ v∈xs,∃ d:Int,v=.int d∧0≤d:=fun v hv=>by
   rw [← hxs] at hv
   obtain ⟨d,hd,e⟩:=ints_mem hv
   exact ⟨d,e,(hR.nn d hd).1⟩
  have hls:ls.length≤sizeLine:=Nat.le_of_lt (small1000 (by have:=hA.hi;omega))
  refine ⟨u,rfl,⟨_,SqL.of upd_same⟩,fun L hL=>comp_list (K:=K) (a:=u) (xs:=xs) (fun i ys H2=>∃ cs:List Nat,ys=Ts (cs.map fun c=>[c])∧cs.length=i∧(∀ c∈cs,c∈ls)∧H2 L=some (.lst ys)∧H2 u=some (.lst xs)∧Same H H2)
   ⟨[],rfl,rfl,fun c hc=>by simp at hc,upd_same,by rw [upd_ne (ne_of_none upd_same hL)];exact upd_same,(sU _).upd' ((sU _).free hL)⟩ (fun i ys H2 _ ⟨_,_,_,_,_,h2,_⟩=>SqL.of h2) ?_ ?_⟩
  ·rintro i y ys H2 hi ⟨cs,rfl,hcl,hcm,hL2,hu2,sm2⟩
   have hil:i < xs.length:=(List.getElem?_eq_some_iff.mp hi).1
   obtain ⟨d,rfl,hd0⟩:=hxm y (List.mem_of_getElem? hi)
   have hlp:(0:Int) < (ls.length:Int):=by have:=hA.lo;omega
   obtain ⟨j,hj1,hj2⟩:∃ j:Nat,d / 20 % (ls.length:Int)=(j:Int)∧j < ls.length:=by
    have h1:0≤d / 20 % (ls.length:Int):=Int.emod_nonneg _ (by omega)
    have h2:d / 20 % (ls.length:Int) < ls.length:=Int.emod_lt_of_pos _ hlp
    exact ⟨(d / 20 % (ls.length:Int)).toNat,by omega,by omega⟩
   refine ⟨_,rfl,_,rfl,_,_,rfl,rfl,⟨by decide,by decide⟩,_,rfl,ls,rfl,hls,_,_,rfl,rfl,hlp,ls,_,ls[j],rfl,rfl,hls,by rw [hj1];exact atI_nat (by simp [hj2]),hL2,?_,?_⟩
   ·show (Ts (cs.map fun c=>[c])).length < sizeLine
    rw [List.length_map,List.length_map]
    exact small1000 (by omega)
   ·refine Nxt.mk hil ⟨cs ++ [ls[j]],by simp [Ts],by simp [hcl],fun c hc=>?_,upd_same,?_,fun b o e=>?_⟩
    ·rcases List.mem_append.mp hc with e | e
     ·exact hcm c e
     ·rw [List.mem_singleton.mp e];exact List.getElem_mem _
    ·rw [upd_ne (ne_of_none upd_same hL)];exact hu2
    ·rw [upd_ne (ne_of_none ((sU _) b o e) hL)];exact sm2 b o e
  ·rintro ys H2 ⟨cs,rfl,hcl,hcm,hL2,hu2,sm2⟩
   refine ⟨L,cs.map fun c=>[c],rfl,rfl,SqL.of hL2,by rw [flat1];omega,?_⟩
   rw [flat1]
   exact q cs H2 sm2 ⟨by omega,by omega,fun c hc=>hA.az c (hcm c hc)⟩ hcm
end
end My
end
section
set_option Elab.async false
set_option linter.all false
set_option maxRecDepth 100000
set_option maxHeartbeats 2000000
namespace My
open PySem L2
section
variable {P:Program} {w:World} {K:PySem.W.Frag} {mg:Str→Option Value} {base:Heap}
def spMixed:Sp:=fun vs H Q _=>∃ (c:Int) (k m:Nat),vs=[.int c,.int k,.int m]∧k≤1000∧m≤100∧
 ∀ (p:Addr) (ds:List Int) (H':Hp),Same H H'→H p=none→H' p=some (.lst (ds.map V.int))→ds.length=m→(∀ d∈ds,0≤d∧d < 520)→Q (.ref p) H'
theorem ok_mixed (D:DefAt K mg "_law_mixed" s_mixed ["_law_cell","_law_k","_law_many"]) (hrange:mg "range"=none) (D2:Def P w K mg base "_law_next" 1 ["_law_x"] spMix) (D3:Def P w K mg base "_law_other" 1 ["_law_x"] spMix) :
  Def P w K mg base "_law_mixed" 2 ["_law_cell","_law_k","_law_many"] spMixed:=by
 refine D.qok sc_mixed (fun vs H Q E h=>?_) (fun f cdv A outer s H vs Q E hr h=>?_)
 ·obtain ⟨c,k,m,rfl,_⟩:=h
  rfl
 ·obtain ⟨c,k,m,rfl,hk,hm,q⟩:=h
  have nd:=sc_mixed.nd
  refine ⟨_,qss_cons (qs_set (i:=3) nd rfl (Or.inl rfl) (qe_own D3 hr rfl (qa_cons (qe_own D2 hr rfl (qa_cons (qe_op op_mod (qe_op op_add (qe_op op_add (qe_op op_mod (qv 0) qe_int) (qe_op op_mul (qe_op op_mul qe_int (qv 1)) (qv 1))) qe_int) qe_int) qa_nil)) qa_nil)))
   (qss_cons (qs_set (i:=4) nd rfl (Or.inl rfl) (qe_lst qa_nil))
   (qss_cons (qs_for PassesOwn.never rfl (qi_range1 rfl hrange (qa_cons (qv 2) qa_nil)) (qg_name (i:=5) nd rfl (Or.inl rfl))
    (qss_cons (qs_set (i:=3) nd rfl (Or.inl rfl) (qe_own D3 hr rfl (qa_cons (qe_own D2 hr rfl (qa_cons (qe_op op_add (qv 3) (qv 5)) qa_nil)) qa_nil)))
    (qss_one (qs_expr (qe_bm PySem.F.plainAttrs_list PySem.F.slot_list_append PySem.F.type_list_append mt_append (qv 4) (qa_cons (qe_op op_mod (qv 3) qe_int) qa_nil))))))
   (qss_one (qs_ret (qv 4))))),?_⟩
  refine ⟨_,rfl,_,_,rfl,rfl,(by show (0:Int) < 2147483647;decide),_,rfl,_,_,rfl,rfl,.inl ⟨by decide,by decide⟩,_,rfl,_,_,rfl,rfl,.inr ⟨by omega,by omega⟩,_,_,rfl,rfl,_,_,rfl,rfl,_,_,rfl,rfl,(by show (0:Int) < 2147483647;decide),?_⟩
  refine ⟨_,rfl,Int.emod_nonneg _ (by decide),Int.lt_trans (Int.emod_lt_of_pos _ (by decide)) (by decide),fun y h1 h2=>?_⟩
  refine ⟨y,rfl,h1,by omega,fun z h3 h4=>?_⟩
  refine ⟨by show 0≤sizeLine;decide,fun p hp=>?_⟩
  refine ⟨_,rfl,_,rfl,by omega,by omega,for_range (n:=m) (lo:=0) (fun i σ H2=>∃ (x:Int) (jv:Option V) (ds:List Int),σ=[some (.int c),some (.int k),some (.int m),some (.int x),some (.ref p),jv]∧Same H H2∧
   H2 p=some (.lst (ds.map V.int))∧ds.length=i∧(∀ d∈ds,0≤d∧d < 520)∧0≤x∧x < 2147483647)
   ⟨z,none,[],rfl,Same.upd hp,upd_same,rfl,fun d hd=>by simp at hd,h3,h4⟩ ?_ ?_⟩
  ·rintro i σ H2 hi ⟨x,jv,ds,rfl,sm,hp2,hl,hd,hx0,hx1⟩
   refine ⟨_,rfl,_,rfl,_,_,rfl,rfl,?_⟩
   refine ⟨_,rfl,by omega,by omega,fun y h1 h2=>?_⟩
   refine ⟨y,rfl,h1,by omega,fun z h3 h4=>?_⟩
   refine ⟨_,rfl,.inl ⟨rfl,_,SqL.of hp2⟩,?_⟩
   refine ⟨_,rfl,_,_,rfl,rfl,(by show (0:Int) < 520;decide),p,_,_,rfl,rfl,hp2,(by rw [List.length_map,hl];exact small1000 (by omega)),?_⟩
   refine ⟨z,_,ds ++ [z % 520],rfl,sm.upd' hp,?_,by simp [hl],?_,h3,h4⟩
   ·rw [upd_same];simp
   ·intro d hd'
    rcases List.mem_append.mp hd' with e | e
    ·exact hd d e
    ·rw [List.mem_singleton.mp e]
     exact ⟨Int.emod_nonneg _ (by decide),Int.emod_lt_of_pos _ (by decide)⟩
  ·rintro σ H2 ⟨x,jv,ds,rfl,sm,hp2,hl,hd,hx0,hx1⟩
   exact ⟨_,rfl,q p ds H2 sm hp hp2 hl hd⟩
def RowAt (H:Hp) (a:Addr):Prop:=∃ ds:List Int,H a=some (.lst (ds.map V.int))∧ds.length=11∧∀ d∈ds,0≤d∧d < 520
def spRows (K:PySem.W.Frag):Sp:=fun vs H Q _=>∃ (a:Addr) (ns:List Int) (b m:Nat),vs=[.ref a,.int b,.int m]∧SqL K H a (ns.map V.int)∧ns.length≤100∧b≤100∧m≤61∧
 ∀ (p:Addr) (rs:List Addr) (H':Hp),Same H H'→H p=none→H' p=some (.lst (rs.map V.ref))→rs.length≤m→(∀ r∈rs,RowAt H' r)→Q (.ref p) H'
theorem ok_rows_of (D:DefAt K mg "_law_rows_of" s_rows_of ["_law_script","_law_start","_law_most"]) (hlen:mg "len"=none) (hrange:mg "range"=none) (hmin:mg "min"=none)
  (D1:Def P w K mg base "_law_cell_at" 1 ["_law_script","_law_k"] (spCell K)) (D2:Def P w K mg base "_law_mixed" 2 ["_law_cell","_law_k","_law_many"] spMixed)
  (D3:Def P w K mg base "_law_digits" 3 ["_law_script","_law_k","_law_base","_law_many"] (spDig K)):Def P w K mg base "_law_rows_of" 4 ["_law_script","_law_start","_law_most"] (spRows K):=by
 refine D.qok sc_rows_of (fun vs H Q E h=>?_) (fun f cdv A outer s H vs Q E hr h=>?_)
 ·obtain ⟨a,ns,b,m,rfl,_⟩:=h
  rfl
 ·obtain ⟨a,ns,b,m,rfl,hS,hn,hb,hm,q⟩:=h
  have nd:=sc_rows_of.nd
  have hr1:Room 1 _:=hr.mono (by decide)
  have hr2:Room 2 _:=hr.mono (by decide)
  refine ⟨_,qss_cons (qs_set (i:=3) nd rfl (by first | exact Or.inl rfl | exact Or.inr rfl) (qe_own D1 hr1 rfl (qa_cons (qv 0) (qa_cons qe_int qa_nil))))
   (qss_cons (qs_if (qt_cmpR op_eq (qe_op op_mod (qe_op op_fdiv (qv 3) qe_int) qe_int) qe_int (nomark _))
    (qss_one (qs_ret (qe_comp rfl (CompOk.of nd (by kernel_rfl)) (qi_range1 (by rfl) hrange (qa_cons (qe_op op_mod (qe_op op_fdiv (qv 3) qe_int) (qe_op op_add (qv 2) qe_int)) qa_nil)) (fun _ _ _ _ _=>qts_nil)
     (fun _ _ _ _ _=>qe_own D2 hr2 (by rfl) (qa_cons (qv 4) (qa_cons (qv 0) (qa_cons qe_int qa_nil))))))) qss_nil)
   (qss_one (qs_ret (qe_comp rfl (CompOk.of nd (by kernel_rfl)) (qi_range2 (by rfl) hrange (qa_cons (qv 1) (qa_cons (qe_callB (call_min2 rfl) (by rfl) hmin (by decide +kernel) (qa_cons (qe_callB call_len_seq (by rfl) hlen PySem.boot_len (qa_cons (qv 0) qa_nil)) (qa_cons (qe_op op_add (qv 1) (qv 2)) qa_nil))) qa_nil))) (fun _ _ _ _ _=>qts_nil)
     (fun _ _ _ _ _=>qe_own D3 hr (by rfl) (qa_cons (qv 1) (qa_cons (qv 0) (qa_cons qe_int (qa_cons qe_int qa_nil))))))))),?_⟩
  refine ⟨_,rfl,a,ns,1,rfl,hS,fun c=>?_⟩
  refine ⟨_,rfl,_,_,rfl,rfl,⟨by decide,by decide⟩,_,_,rfl,rfl,(by show (0:Int) < 8;decide),rfl,_,rfl,?_⟩
  refine ite2 (fun _=>?_) (fun _=>?_)
  ·have hm0:(0:Int) < (m:Int) + 1:=by omega
   have e1:0≤c / 8000 % ((m:Int) + 1):=Int.emod_nonneg _ (by omega)
   have e2:c / 8000 % ((m:Int) + 1) < (m:Int) + 1:=Int.emod_lt_of_pos _ hm0
   refine ⟨_,rfl,_,_,rfl,rfl,⟨by decide,by decide⟩,_,rfl,_,_,rfl,rfl,_,_,rfl,rfl,hm0,_,rfl,by omega,by omega,fun L hL=>?_⟩
   generalize c / 8000 % ((m:Int) + 1)=z at e1 e2
   refine comp_range (fun i ys H2=>∃ rs:List Addr,ys=rs.map V.ref∧rs.length=i∧H2 L=some (.lst ys)∧Same H H2∧(∀ r∈rs,RowAt H2 r)∧∀ r∈rs,r≠L) ⟨[],rfl,rfl,upd_same,Same.upd hL,fun r hr=>by simp at hr,fun r hr=>by simp at hr⟩ ?_ ?_
   ·rintro i ys H2 hi ⟨rs,rfl,hrl,hL2,sm,hrs,hrn⟩
    refine ⟨_,rfl,_,rfl,c,i,11,?_,by omega,by decide,fun p ds H3 s3 hp hp3 hdl hdb=>⟨s3 _ _ hL2,?_,Nxt.mk hi ?_⟩⟩
    ·show [V.int c,V.int (0 + (i:Int)),V.int 11]=_
     rw [show (0 + (i:Int))=((i:Nat):Int) by omega];rfl
    ·rw [List.length_map];exact small1000 (by omega)
    ·have npL:p≠L:=(ne_of_none hL2 hp).symm
     have s4:∀ b o,H2 b=some o→b≠L→upd H3 L (.lst (rs.map V.ref ++ [.ref p])) b=some o:=fun b o e hb=>by rw [upd_ne hb];exact s3 b o e
     refine ⟨rs ++ [p],by simp,by simp [hrl],upd_same,(sm.trans s3).upd' hL,fun r hr=>?_,fun r hr=>?_⟩
     ·rcases List.mem_append.mp hr with e | e
      ·obtain ⟨ds',x,r1⟩:=hrs r e
       exact ⟨ds',s4 _ _ x (hrn r e),r1⟩
      ·rw [List.mem_singleton.mp e]
       exact ⟨ds,by rw [upd_ne npL];exact hp3,hdl,hdb⟩
     ·rcases List.mem_append.mp hr with e | e
      ·exact hrn r e
      ·rw [List.mem_singleton.mp e];exact npL
   ·rintro ys H2 ⟨rs,rfl,hrl,hL2,sm,hrs,hrn⟩
    exact q L rs H2 sm hL hL2 (by omega) hrs
  ·refine ⟨_,rfl,_,rfl,a,_,rfl,.inl hS,_,rfl,_,rfl,_,_,rfl,rfl,_,_,rfl,?_⟩
   have hj:∃ j:Nat,(if (b:Int) + (m:Int) < ((ns.map V.int).length:Int) then (b:Int) + (m:Int) else ((ns.map V.int).length:Int))=(j:Int)∧j≤b + m:=by
    rw [List.length_map]
    split
    ·exact ⟨b + m,by omega,by omega⟩
    ·exact ⟨ns.length,rfl,by omega⟩
   obtain ⟨j,hj1,hj2⟩:=hj
   rw [hj1]
   refine ⟨_,_,rfl,⟨by omega,by omega,by omega,by omega⟩,fun L hL=>?_⟩
   refine comp_range (fun i ys H2=>∃ rs:List Addr,ys=rs.map V.ref∧rs.length=i∧H2 L=some (.lst ys)∧Same H H2∧(∀ r∈rs,RowAt H2 r)∧∀ r∈rs,r≠L) ⟨[],rfl,rfl,upd_same,Same.upd hL,fun r hr=>by simp at hr,fun r hr=>by simp at hr⟩ ?_ ?_
   ·rintro i ys H2 hi ⟨rs,rfl,hrl,hL2,sm,hrs,hrn⟩
    refine ⟨_,rfl,_,rfl,a,ns,b + i,520,11,?_,sm.seq hS,by omega,by decide,by decide,by decide,fun p ds H3 s3 hp hp3 hdl hdb=>⟨s3 _ _ hL2,?_,Nxt.mk hi ?_⟩⟩
    ·show [V.ref a,V.int ((b:Int) + (i:Int)),V.int 520,V.int 11]=_
     rw [show ((b:Int) + (i:Int))=((b + i:Nat):Int) by omega];rfl
    ·rw [List.length_map];exact small1000 (by omega)
    ·have npL:p≠L:=(ne_of_none hL2 hp).symm
     have s4:∀ b o,H2 b=some o→b≠L→upd H3 L (.lst (rs.map V.ref ++ [.ref p])) b=some o:=fun b o e hb=>by rw [upd_ne hb];exact s3 b o e
     refine ⟨rs ++ [p],by simp,by simp [hrl],upd_same,(sm.trans s3).upd' hL,fun r hr=>?_,fun r hr=>?_⟩
     ·rcases List.mem_append.mp hr with e | e
      ·obtain ⟨ds',x,r1⟩:=hrs r e
       exact ⟨ds',s4 _ _ x (hrn r e),r1⟩
      ·rw [List.mem_singleton.mp e]
       exact ⟨ds,by rw [upd_ne npL];exact hp3,hdl,hdb⟩
     ·rcases List.mem_append.mp hr with e | e
      ·exact hrn r e
      ·rw [List.mem_singleton.mp e];exact npL
   ·rintro ys H2 ⟨rs,rfl,hrl,hL2,sm,hrs,hrn⟩
    exact q L rs H2 sm hL hL2 (by omega) hrs
def Up (ws:List (List Nat)):Prop:=ws.Pairwise (fun a b=>a < b)
theorem ll_tri {a b:List Nat} (h1:¬a < b) (h2:a≠b):b < a:=by
 by_cases h:b < a
 ·exact h
 ·exact absurd (List.le_antisymm (List.not_lt.mp h) (List.not_lt.mp h1)) h2
theorem up_eq:∀ {a b:List (List Nat)},Up a→Up b→(∀ x,x∈a↔x∈b)→a=b
 | [],[],_,_,_=>rfl
 | [],y :: b,_,_,h=>by have:=(h y).mpr (by simp);simp at this
 | x :: a,[],_,_,h=>by have:=(h x).mp (by simp);simp at this
 | x :: a,y :: b,ha,hb,h=>by
  obtain ⟨ha1,ha2⟩:=List.pairwise_cons.mp ha
  obtain ⟨hb1,hb2⟩:=List.pairwise_cons.mp hb
  have e:x=y:=by
   rcases List.mem_cons.mp ((h x).mp (by simp)) with e | e
   ·exact e
   ·rcases List.mem_cons.mp ((h y).mpr (by simp)) with e2 | e2
    ·exact e2.symm
    ·exact absurd (List.lt_trans (ha1 y e2) (hb1 x e)) (List.lt_irrefl _)
  subst e
  have e2:a=b:=up_eq ha2 hb2 fun z=>by
   constructor
   ·intro hz
    rcases List.mem_cons.mp ((h z).mp (List.mem_cons_of_mem _ hz)) with e | e
    ·exact absurd (e ▸ ha1 z hz) (List.lt_irrefl _)
    ·exact e
   ·intro hz
    rcases List.mem_cons.mp ((h z).mpr (List.mem_cons_of_mem _ hz)) with e | e
    ·exact absurd (e ▸ hb1 z hz) (List.lt_irrefl _)
    ·exact e
  rw [e2]
theorem rise_up {us:List (List Nat)} (h:us.Pairwise (fun a b=>decide (b < a)=false)) (nd:us.Nodup):Up us:=by
 refine (List.pairwise_and_iff.mpr ⟨h,nd⟩).imp fun {a b} ⟨h1,h2⟩=>?_
 exact ll_tri (of_decide_eq_false h1) (Ne.symm h2)
theorem inV_ts (x:List Nat) (ws:List (List Nat)):inV (.str (S x)) (Ts ws)=decide (x∈ws):=by
 unfold inV
 induction ws with
 | nil=>simp [Ts]
 | cons y ws ih=>
  have e:eqV (.str (S y)) (.str (S x))=decide (y=x):=by
   show decide (S y=S x)=_
   by_cases h:y=x
   ·rw [h];simp
   ·have h2:S y≠S x:=fun e=>h (S_inj e)
    simp [h,h2]
  show (eqV (.str (S y)) (.str (S x)) || (Ts ws).any _)=_
  rw [e,ih]
  by_cases h:y=x
  ·simp [h]
  ·have h2:¬x=y:=fun e=>h e.symm
   simp [h,h2]
theorem flat_ts (ws:List (List Nat)):(Ts ws).all flatV=true:=by
 rw [List.all_eq_true]
 intro v hv
 obtain ⟨l,_,e⟩:=List.mem_map.mp hv
 subst e
 rfl
theorem cutN_le (l:List Nat) (lo hi:Option Int):(cutN l lo hi).length≤l.length:=by unfold cutN;rw [List.length_take,List.length_drop];omega
end
end My
end
section
set_option Elab.async false
set_option linter.all false
set_option maxRecDepth 100000
set_option maxHeartbeats 2000000
namespace My
open PySem L2
section
variable {P:Program} {w:World} {K:PySem.W.Frag} {mg:Str→Option Value} {base:Heap}
def tb (l:List Nat) (m:Nat):List Nat:=(l.take m).reverse ++ [43] ++ l.drop m
theorem cut_from (l:List Nat) (m:Nat):cutN l (some (m:Int)) none=l.drop m:=by
 unfold cutN
 rw [HT.sIx_nat,HT.sIx_none]
 by_cases h:m≤l.length
 ·rw [Nat.min_eq_left h,List.take_of_length_le]
  rw [List.length_drop]
  omega
 ·rw [Nat.min_eq_right (by omega),List.drop_of_length_le (Nat.le_refl _),List.drop_of_length_le (by omega)]
  simp
theorem Ts_snocR (f:Nat→List Nat) (i:Nat):Ts ((List.range (i + 1)).map f)=Ts ((List.range i).map f) ++ [V.str (S (f i))]:=by simp [Ts,List.range_succ]
def spTurned:Sp:=fun vs H Q _=>∃ l:List Nat,vs=[.str (S l)]∧l.length≤100∧∀ (p:Addr) (H':Hp),Same H H'→H p=none→H' p=some (.lst (Ts ((List.range l.length).map fun i=>tb l (i + 1))))→Q (.ref p) H'
theorem take_succ_rev (l:List Nat) {j:Nat} (h:j < l.length):[l[j]] ++ (l.take j).reverse=(l.take (j + 1)).reverse:=by
 rw [List.take_succ_eq_append_getElem h,List.reverse_append];rfl
theorem ok_turned (D:DefAt K mg "_law_turned" s_turned ["_law_word_here"]) (hlen:mg "len"=none) (hrange:mg "range"=none):Def P w K mg base "_law_turned" 1 ["_law_word_here"] spTurned:=by
 refine D.qok sc_turned (fun vs H Q E h=>?_) (fun f cdv A outer s H vs Q E hr h=>?_)
 ·obtain ⟨l,rfl,_⟩:=h
  rfl
 ·obtain ⟨l,rfl,hl,q⟩:=h
  have nd:=sc_turned.nd
  have hz:∀ n,n≤1000→n≤sizeLine:=fun n h=>Nat.le_of_lt (small1000 h)
  refine ⟨_,qss_cons (qs_set (i:=1) nd rfl (Or.inl rfl) (qe_lst qa_nil))
   (qss_cons (qs_for PassesOwn.never rfl (qi_range1 rfl hrange (qa_cons (qe_callB call_lenS (by rfl) hlen PySem.boot_len (qa_cons (qv 0) qa_nil)) qa_nil)) (qg_name (i:=2) nd rfl (Or.inl rfl))
    (qss_cons (qs_set (i:=3) nd rfl (Or.inl rfl) (qe_strS [] (by decide +kernel)))
    (qss_cons (qs_for PassesOwn.never rfl (qi_range1 rfl hrange (qa_cons (qe_op op_add (qv 2) qe_int) qa_nil)) (qg_name (i:=4) nd rfl (Or.inl rfl))
     (qss_one (qs_set (i:=3) nd rfl (Or.inl rfl) (qe_op op_addS (qe_ix ix_S (qv 0) (qv 4) (fun _ _=>rfl)) (qv 3)))))
    (qss_one (qs_expr (qe_bm PySem.F.plainAttrs_list PySem.F.slot_list_append PySem.F.type_list_append mt_append (qv 1)
     (qa_cons (qe_op op_addS (qe_op op_addS (qv 3) (qe_strS [43] (by decide +kernel))) (qe_slice sl_S (qv 0) (qo_some (qe_op op_add (qv 2) qe_int)) qo_none)) qa_nil)))))))
   (qss_one (qs_ret (qv 1)))),?_⟩
  refine ⟨by show 0≤sizeLine;decide,fun p hp=>?_⟩
  refine ⟨_,rfl,l,rfl,hz _ (by omega),_,rfl,by omega,by omega,?_⟩
  rw [Int.toNat_natCast]
  refine for_range (lo:=0) (fun i σ H2=>∃ (v2 v3 v4:Option V),σ=[some (.str (S l)),some (.ref p),v2,v3,v4]∧Same H H2∧H2 p=some (.lst (Ts ((List.range i).map fun i=>tb l (i + 1)))))
   ⟨none,none,none,rfl,Same.upd hp,upd_same⟩ ?_ ?_
  ·rintro i σ H2 hi ⟨v2,v3,v4,rfl,sm,hp2⟩
   refine ⟨_,rfl,_,_,rfl,rfl,_,rfl,by omega,by omega,?_⟩
   have e1:((0:Int) + (i:Int) + 1).toNat=i + 1:=by omega
   rw [e1]
   refine for_range (lo:=0) (fun j σ H3=>H3=H2∧∃ (v4:Option V),σ=[some (.str (S l)),some (.ref p),some (.int (0 + (i:Int))),some (.str (S (l.take j).reverse)),v4]) ⟨rfl,v4,rfl⟩ ?_ ?_
   ·rintro j σ H3 hj ⟨rfl,v4',rfl⟩
    have hjl:j < l.length:=by omega
    refine ⟨_,rfl,_,rfl,l,_,l[j],rfl,rfl,hz _ (by omega),?_,_,rfl,[l[j]],_,rfl,rfl,?_,?_⟩
    ·rw [show ((0:Int) + (j:Int))=((j:Nat):Int) by omega]
     exact atI_nat (by simp [hjl])
    ·rw [List.length_reverse,List.length_take];exact hz _ (by simp;omega)
    ·exact ⟨rfl,some (.int (0 + (j:Int))),by rw [← take_succ_rev l hjl];rfl⟩
   ·rintro σ H3 ⟨rfl,v4',rfl⟩
    refine ⟨_,rfl,.inl ⟨rfl,_,SqL.of hp2⟩,?_⟩
    refine ⟨_,rfl,_,_,rfl,rfl,?_,_,rfl,_,rfl,_,_,rfl,rfl,_,rfl,l,rfl,hz _ (by omega),_,_,rfl,rfl,?_,?_⟩
    ·rw [List.length_reverse,List.length_take];exact hz _ (by simp;omega)
    ·refine Nat.le_trans (Nat.add_le_add_left (cutN_le l _ _) _) (hz _ ?_)
     rw [List.length_append,List.length_reverse,List.length_take];simp;omega
    ·refine ⟨p,_,_,rfl,rfl,hp2,?_,?_⟩
     ·rw [List.length_map,List.length_map,List.length_range];exact small1000 (by omega)
     ·refine ⟨_,_,_,rfl,sm.upd' hp,?_⟩
      rw [upd_same,show (0:Int) + (i:Int) + 1=((i + 1:Nat):Int) by omega,cut_from,Ts_snocR]
      rfl
  ·rintro σ H2 ⟨v2,v3,v4,rfl,sm,hp2⟩
   exact ⟨_,rfl,q p H2 sm hp hp2⟩
theorem tb_len (l:List Nat) (m:Nat):(tb l m).length=l.length + 1:=by
 unfold tb
 rw [List.length_append,List.length_append,List.length_reverse,List.length_take,List.length_drop]
 simp;omega
theorem tb_back {l:List Nat} {m:Nat} (h:m≤l.length):((tb l m).take m).reverse ++ (tb l m).drop (m + 1)=l:=by
 have e:(l.take m).reverse.length=m:=by rw [List.length_reverse,List.length_take];omega
 have e1:(tb l m).take m=(l.take m).reverse:=by
  unfold tb
  rw [List.append_assoc,List.take_append_of_le_length (by omega),List.take_of_length_le (by omega)]
 have e2:(tb l m).drop (m + 1)=l.drop m:=by
  unfold tb
  have e3:((l.take m).reverse ++ [43]).length=m + 1:=by rw [List.length_append,e];rfl
  rw [List.drop_append_of_le_length (by omega),List.drop_of_length_le (by omega)]
  rfl
 rw [e1,e2,List.reverse_reverse,List.take_append_drop]
theorem Ts_get {ls:List (List Nat)} {i:Nat} {x:V} (h:(Ts ls)[i]?=some x):∃ l,ls[i]?=some l∧x=.str (S l):=by
 rw [List.getElem?_map] at h
 obtain ⟨l,h1,h2⟩:=Option.map_eq_some_iff.mp h
 exact ⟨l,h1,h2.symm⟩
theorem Ts_snoc (ls:List (List Nat)) (l:List Nat):Ts ls ++ [V.str (S l)]=Ts (ls ++ [l]):=by simp [Ts]
abbrev Grp:=List (Nat × List (List Nat))
def addG (gs:Grp) (t:List Nat):Grp:=match t with
 | []=>gs
 | c :: r=>if c∈gs.map (·.1) then gs.map (fun g=>if g.1=c then (g.1,g.2 ++ [r]) else g) else gs ++ [(c,[r])]
def grpF (ts:List (List Nat)):Grp:=ts.foldl addG []
def kvG (gs:Grp) (f:Nat→Addr):List (Key × V):=gs.map fun g=>(keyS [g.1],V.ref (f g.1))
structure RB (H:Hp) (d:Addr) (gs:Grp) (f:Nat→Addr):Prop where
 dk:H d=some (.dK (kvG gs f))
 at_:∀ g∈gs,H (f g.1)=some (.lst (Ts g.2))
 inj:∀ a∈gs.map (·.1),∀ b∈gs.map (·.1),f a=f b→a=b
 nd:(gs.map (·.1)).Nodup
theorem keyS1 {a b:Nat} (h:keyS [a]=keyS [b]):a=b:=by have:=S_inj (Sum.inr.inj h);simpa using this
theorem val_g (f:Nat→Addr) (c:Nat):∀ gs:Grp,valV (kvG gs f) (keyS [c])=if c∈gs.map (·.1) then some (.ref (f c)) else none
 | []=>by simp [kvG,valV]
 | g :: gs=>by
  have ih:=val_g f c gs
  unfold valV kvG at ih ⊢
  rw [List.map_cons,List.find?_cons]
  by_cases h:g.1=c
  ·have e:decide (keyS [g.1]=keyS [c])=true:=by rw [h];simp
   simp only [e]
   rw [if_pos (by simp [h])]
   rw [← h];rfl
  ·have e:decide (keyS [g.1]=keyS [c])=false:=decide_eq_false fun z=>h (keyS1 z)
   simp only [e]
   rw [ih]
   have:(c∈(g :: gs).map (·.1))↔c∈gs.map (·.1):=by
    rw [List.map_cons,List.mem_cons]
    exact ⟨fun z=>z.resolve_left fun y=>h y.symm,.inr⟩
   by_cases z:c∈gs.map (·.1)
   ·rw [if_pos z,if_pos (this.mpr z)]
   ·rw [if_neg z,if_neg fun y=>z (this.mp y)]
theorem grp_snoc (ts:List (List Nat)) (t:List Nat):grpF (ts ++ [t])=addG (grpF ts) t:=by unfold grpF;rw [List.foldl_append];rfl
theorem addG_len (gs:Grp) (t:List Nat):(addG gs t).length≤gs.length + 1:=by
 unfold addG
 split
 ·omega
 ·split
  ·simp
  ·simp
theorem addG_in {gs:Grp} {t:List Nat} {i:Nat} (h:∀ g∈gs,g.2.length≤i):∀ g∈addG gs t,g.2.length≤i + 1:=by
 intro g hg
 unfold addG at hg
 split at hg
 ·exact Nat.le_succ_of_le (h g hg)
 ·split at hg
  ·obtain ⟨g1,hg1,rfl⟩:=List.mem_map.mp hg
   split
   ·have:=h g1 hg1;simp;omega
   ·exact Nat.le_succ_of_le (h g1 hg1)
  ·rcases List.mem_append.mp hg with y | y
   ·exact Nat.le_succ_of_le (h g y)
   ·rw [List.mem_singleton.mp y];simp
theorem key_once {gs:Grp}:(gs.map (·.1)).Nodup→∀ {a b:Nat × List (List Nat)},a∈gs→b∈gs→a.1=b.1→a=b:=by
 induction gs with
 | nil=>intro _ a b h;simp at h
 | cons g gs ih=>
  intro nd a b ha hb e
  rw [List.map_cons,List.nodup_cons] at nd
  rcases List.mem_cons.mp ha with y | y
  ·rcases List.mem_cons.mp hb with z | z
   ·rw [y,z]
   ·exact absurd (List.mem_map.mpr ⟨b,z,by rw [← e,y]⟩) nd.1
  ·rcases List.mem_cons.mp hb with z | z
   ·exact absurd (List.mem_map.mpr ⟨a,y,by rw [e,z]⟩) nd.1
   ·exact ih nd.2 y z e
def spRests:Sp:=fun vs H Q _=>∃ (p:Addr) (ts:List (List Nat)),vs=[.ref p]∧H p=some (.tup (Ts ts))∧ts.length≤1000∧(∀ t∈ts,t.length≤1000)∧
 ∀ (d:Addr) (f:Nat→Addr) (H':Hp),H d=none→Same H H'→RB H' d (grpF ts) f→Q (.ref d) H'
theorem ok_rests_by_sign (D:DefAt K mg "rests_by_sign" s_rests_by_sign ["texts"]):Def P w K mg base "rests_by_sign" 1 ["texts"] spRests:=by
 refine D.qok sc_rests_by_sign (fun vs H Q E h=>?_) (fun f cdv A outer s H vs Q E hr h=>?_)
 ·obtain ⟨p,ts,rfl,_⟩:=h
  rfl
 ·obtain ⟨p,ts,rfl,hp,hl,ht,q⟩:=h
  have hu:=hu_of hr
  refine ⟨_,(qss_cons (qs_set (i:=1) sc_rests_by_sign.nd rfl (Or.inl rfl) qe_dnewK) (qss_cons (qs_for PassesOwn.never rfl (qi_tup (qv 0)) (qg_name (i:=2) sc_rests_by_sign.nd rfl (Or.inl rfl)) (qss_one (qs_if (qt_cmpR op_neS (qv 2) (qe_strS [] (by decide +kernel)) (nomark _)) (qss_one (qs_expr (qe_bm PySem.F.plainAttrs_list PySem.F.slot_list_append PySem.F.type_list_append mt_append (qe_dsetd (qv 1) (qe_ix ix_S (qv 2) qe_int (fun _ _=>rfl)) (qe_lst qa_nil) ⟨rfl,rfl,rfl,rfl⟩) (qa_cons (qe_slice sl_S (qv 2) (qo_some qe_int) qo_none) qa_nil)))) qss_nil))) (qss_one (qs_ret (qv 1))))),?_⟩
  refine fun d hd=>?_
  have s0:Same H (upd H d (HO.dK [])):=Same.upd hd
  refine ⟨_,rfl,p,rfl,⟨_,SqT.of (s0 _ _ hp)⟩,for_tup (K:=K) (a:=p) (xs:=Ts ts) (fun i σ H2=>∃ (v2:Option V) (f:Nat→Addr),σ=[some (.ref p),some (.ref d),v2]∧Same H H2∧RB H2 d (grpF (ts.take i)) f∧(∀ a∈(grpF (ts.take i)).map (·.1),H (f a)=none)∧(grpF (ts.take i)).length≤i∧∀ g∈grpF (ts.take i),g.2.length≤i)
   ⟨none,fun _=>0,rfl,s0,⟨upd_same,fun g h=>by simp [grpF] at h,fun a h=>by simp [grpF] at h,by simp [grpF]⟩,fun a h=>by simp [grpF] at h,by simp [grpF],fun g h=>by simp [grpF] at h⟩ (fun i σ H2 _ h=>by obtain ⟨_,_,_,sm,_⟩:=h;exact SqT.of (sm _ _ hp)) ?_ ?_⟩
  ·rintro i x σ H2 hx ⟨v2,f,rfl,sm,R,fr,gl,R3len⟩
   obtain ⟨t,et,rfl⟩:=Ts_get hx
   have hit:i < ts.length:=(List.getElem?_eq_some_iff.mp et).1
   have tl:t.length≤1000:=ht t (List.mem_of_getElem? et)
   have e1:grpF (ts.take (i + 1))=addG (grpF (ts.take i)) t:=by rw [List.take_add_one,et];exact grp_snoc _ _
   generalize grpF (ts.take i)=gs at R fr gl e1 R3len
   have gl2:=addG_len gs t
   refine ⟨_,rfl,t,[],rfl,rfl,_,rfl,?_⟩
   cases t with
   | nil=>
    refine iteF ⟨_,f,rfl,sm,?_⟩
    rw [e1]
    exact ⟨R,fr,by show gs.length≤_;omega,fun g hg=>Nat.le_succ_of_le (R3len g hg)⟩
   | cons c r=>
    refine iteT ?_
    have hzz:(c :: r).length≤sizeLine:=Nat.le_of_lt (small1000 tl)
    have nfd:∀ a∈gs.map (·.1),f a≠d:=fun a ha z=>by
     obtain ⟨g,hg,rfl⟩:=List.mem_map.mp ha
     have:=R.at_ g hg
     rw [z,R.dk] at this
     cases this
    refine ⟨_,rfl,d,rfl,.inl ⟨_,.inl R.dk⟩,_,rfl,c :: r,_,c,rfl,rfl,hzz,atI_nat (j:=0) rfl,by show 0≤sizeLine;decide,fun L hL=>?_⟩
    have hLH:H L=none:=sm.free hL
    have nLd:L≠d:=fun z=>by rw [z,R.dk] at hL;cases hL
    have nLf:∀ a∈gs.map (·.1),L≠f a:=fun a ha z=>by
     obtain ⟨g,hg,rfl⟩:=List.mem_map.mp ha
     have:=R.at_ g hg
     rw [← z,hL] at this
     cases this
    have hd3:upd H2 L (HO.lst []) d=some (.dK (kvG gs f)):=by rw [upd_ne nLd.symm];exact R.dk
    have hf3:∀ g∈gs,upd H2 L (HO.lst []) (f g.1)=some (.lst (Ts g.2)):=fun g hg=>by rw [upd_ne (nLf _ (List.mem_map_of_mem hg)).symm];exact R.at_ g hg
    have hL3:upd H2 L (HO.lst []) L=some (.lst []):=upd_same
    have s3:Same H (upd H2 L (HO.lst [])):=sm.upd' hLH
    generalize upd H2 L (HO.lst [])=H3 at hd3 hf3 hL3 s3 ⊢
    have kl:(kvG gs f).length < sizeLine:=small1000 (by unfold kvG;rw [List.length_map];omega)
    refine ⟨kvG gs f,keyS [c],hd3,rfl,kl,fun v hv=>?_,fun hv=>?_⟩
    ·rw [val_g] at hv
     by_cases hc:c∈gs.map (·.1)
     ·rw [if_pos hc] at hv
      obtain rfl:V.ref (f c)=v:=Option.some.inj hv
      obtain ⟨g0,hg0,eg0⟩:=List.mem_map.mp hc
      have hFc:=hf3 g0 hg0
      have eg0:g0.1=c:=eg0
      rw [eg0] at hFc
      have gll:=R3len g0 hg0
      refine ⟨.inl ⟨rfl,_,SqL.of hFc⟩,_,rfl,_,rfl,c :: r,rfl,hzz,f c,_,_,rfl,rfl,hFc,by rw [List.length_map];exact small1000 (by omega),?_⟩
      have ec:cutN (c :: r) (some 1) none=r:=cut_from (c :: r) 1
      have e2:addG gs (c :: r)=gs.map (fun g=>if g.1=c then (g.1,g.2 ++ [r]) else g):=if_pos hc
      have e3:(gs.map (fun g=>if g.1=c then (g.1,g.2 ++ [r]) else g)).map (·.1)=gs.map (·.1):=by
       rw [List.map_map]
       refine List.map_congr_left fun g _=>?_
       show (if g.1=c then (g.1,g.2 ++ [r]) else g).1=g.1
       split <;> rfl
      refine ⟨_,f,rfl,s3.upd' (fr c hc),?_,?_,?_,fun g hg=>by rw [e1] at hg;exact addG_in R3len g hg⟩
      ·rw [e1,e2]
       refine ⟨?_,fun g hg=>?_,by rw [e3];exact R.inj,by rw [e3];exact R.nd⟩
       ·rw [upd_ne (nfd c hc).symm,hd3]
        congr 2
        unfold kvG
        rw [List.map_map]
        refine List.map_congr_left fun g _=>?_
        show (keyS [g.1],V.ref (f g.1))=(keyS [(if g.1=c then (g.1,g.2 ++ [r]) else g).1],V.ref (f (if g.1=c then (g.1,g.2 ++ [r]) else g).1))
        split <;> rfl
       ·obtain ⟨g1,hg1,rfl⟩:=List.mem_map.mp hg
        by_cases z:g1.1=c
        ·rw [if_pos z]
         have eg:g1=g0:=key_once R.nd hg1 hg0 (z.trans eg0.symm)
         rw [eg]
         show upd H3 (f c) _ (f g0.1)=_
         rw [eg0,upd_same,ec,Ts_snoc]
        ·rw [if_neg z,upd_ne fun y=>z (R.inj g1.1 (List.mem_map_of_mem hg1) c hc y)]
         exact hf3 g1 hg1
      ·rw [e1,e2,e3];exact fr
      ·rw [e1];omega
     ·rw [if_neg hc] at hv;cases hv
    ·rw [val_g] at hv
     have hc:c∉gs.map (·.1):=fun z=>by rw [if_pos z] at hv;cases hv
     have hv':valV (kvG gs f) (keyS [c])=none:=by rw [val_g,if_neg hc]
     rw [putK_new _ hv']
     have hL4:upd H3 d (.dK (kvG gs f ++ [(keyS [c],V.ref L)])) L=some (.lst []):=by rw [upd_ne nLd];exact hL3
     have ec:cutN (c :: r) (some 1) none=r:=cut_from (c :: r) 1
     refine ⟨.inl ⟨rfl,_,SqL.of hL4⟩,_,rfl,_,rfl,c :: r,rfl,hzz,L,_,_,rfl,rfl,hL4,small1000 (Nat.zero_le _),?_⟩
     have e2:addG gs (c :: r)=gs ++ [(c,[r])]:=if_neg hc
     have e4:(gs ++ [(c,[r])]).map (·.1)=gs.map (·.1) ++ [c]:=by simp
     have ef:∀ a∈gs.map (·.1),(if a=c then L else f a)=f a:=fun a ha=>if_neg (fun z:a=c=>hc (by rw [← z];exact ha))
     refine ⟨_,fun a=>if a=c then L else f a,rfl,(s3.upd' hd).upd' hLH,?_,?_,?_,fun g hg=>by rw [e1] at hg;exact addG_in R3len g hg⟩
     ·rw [e1,e2]
      refine ⟨?_,fun g hg=>?_,?_,?_⟩
      ·rw [upd_ne nLd.symm,upd_same]
       congr 2
       unfold kvG
       rw [List.map_append]
       congr 1
       ·refine List.map_congr_left fun g hg=>?_
        show (keyS [g.1],V.ref (f g.1))=(keyS [g.1],V.ref (if g.1=c then L else f g.1))
        rw [ef _ (List.mem_map_of_mem hg)]
       ·simp
      ·rcases List.mem_append.mp hg with y | y
       ·show upd _ L _ (if g.1=c then L else f g.1)=_
        rw [ef _ (List.mem_map_of_mem y),upd_ne (nLf _ (List.mem_map_of_mem y)).symm,upd_ne (nfd _ (List.mem_map_of_mem y))]
        exact hf3 g y
       ·rw [List.mem_singleton.mp y]
        show upd _ L _ (if c=c then L else f c)=_
        rw [if_pos rfl,upd_same,ec]
        rfl
      ·rw [e4]
       intro a1 h1 b1 h2 he
       have he:(if a1=c then L else f a1)=(if b1=c then L else f b1):=he
       rcases List.mem_append.mp h1 with y1 | y1
       ·rw [ef a1 y1] at he
        rcases List.mem_append.mp h2 with y2 | y2
        ·rw [ef b1 y2] at he;exact R.inj a1 y1 b1 y2 he
        ·rw [List.mem_singleton.mp y2,if_pos rfl] at he
         exact absurd he.symm (nLf a1 y1)
       ·rw [List.mem_singleton.mp y1,if_pos rfl] at he
        rcases List.mem_append.mp h2 with y2 | y2
        ·rw [ef b1 y2] at he
         exact absurd he (nLf b1 y2)
        ·rw [List.mem_singleton.mp y1,List.mem_singleton.mp y2]
      ·rw [e4,List.nodup_append]
       exact ⟨R.nd,by simp,fun a1 h1 b1 h2 z=>hc (by rw [List.mem_singleton.mp h2] at z;rw [← z];exact h1)⟩
     ·rw [e1,e2,e4]
      intro a1 h1
      rcases List.mem_append.mp h1 with y1 | y1
      ·show H (if a1=c then L else f a1)=none
       rw [ef a1 y1];exact fr a1 y1
      ·rw [List.mem_singleton.mp y1]
       show H (if c=c then L else f c)=none
       rw [if_pos rfl];exact hLH
     ·rw [e1];omega
  ·rintro σ H2 ⟨v2,f,rfl,sm,R,fr,gl,_⟩
   rw [List.length_map,List.take_length] at R
   exact ⟨_,rfl,q d f H2 hd sm R⟩
end
end My
end
section
set_option Elab.async false
set_option linter.all false
set_option maxRecDepth 100000
set_option maxHeartbeats 2000000
namespace My
open PySem L2
section
variable {P:Program} {w:World} {K:PySem.W.Frag} {mg:Str→Option Value} {base:Heap}
def hd1 (c:Nat) (t:List Nat):Option (List Nat):=match t with
 | []=>none
 | d :: r=>if d=c then some r else none
def resF (c:Nat) (ts:List (List Nat)):List (List Nat):=ts.filterMap (hd1 c)
theorem res_snoc (c:Nat) (ts:List (List Nat)) (t:List Nat):resF c (ts ++ [t])=resF c ts ++ (hd1 c t).toList:=by
 unfold resF
 rw [List.filterMap_append]
 cases h:hd1 c t <;> simp [h]
structure GOk (gs:Grp) (ts:List (List Nat)):Prop where
 eq:∀ g∈gs,g.2=resF g.1 ts
 keys:∀ c,c∈gs.map (·.1)↔resF c ts≠[]
theorem GOk.add {gs:Grp} {ts:List (List Nat)} (h:GOk gs ts) (t:List Nat):GOk (addG gs t) (ts ++ [t]):=by
 cases t with
 | nil=>
  have e:∀ c,resF c (ts ++ [[]])=resF c ts:=fun c=>by rw [res_snoc];simp [hd1]
  exact ⟨fun g hg=>by rw [e];exact h.eq g hg,fun c=>by rw [e];exact h.keys c⟩
 | cons d r=>
  have e1:resF d (ts ++ [d :: r])=resF d ts ++ [r]:=by rw [res_snoc];simp [hd1]
  have e2:∀ c,c≠d→resF c (ts ++ [d :: r])=resF c ts:=fun c hc=>by rw [res_snoc];simp [hd1,Ne.symm hc]
  by_cases hd:d∈gs.map (·.1)
  ·have ea:addG gs (d :: r)=gs.map (fun g=>if g.1=d then (g.1,g.2 ++ [r]) else g):=if_pos hd
   have e3:(gs.map (fun g=>if g.1=d then (g.1,g.2 ++ [r]) else g)).map (·.1)=gs.map (·.1):=by
    rw [List.map_map]
    refine List.map_congr_left fun g _=>?_
    show (if g.1=d then (g.1,g.2 ++ [r]) else g).1=g.1
    split <;> rfl
   rw [ea]
   refine ⟨fun g hg=>?_,fun c=>?_⟩
   ·obtain ⟨g1,hg1,rfl⟩:=List.mem_map.mp hg
    by_cases z:g1.1=d
    ·rw [if_pos z]
     show g1.2 ++ [r]=resF g1.1 (ts ++ [d :: r])
     rw [h.eq g1 hg1,z,e1]
    ·rw [if_neg z,e2 _ z];exact h.eq g1 hg1
   ·rw [e3]
    by_cases z:c=d
    ·subst z
     rw [e1]
     exact ⟨fun _=>by simp,fun _=>hd⟩
    ·rw [e2 c z];exact h.keys c
  ·have ea:addG gs (d :: r)=gs ++ [(d,[r])]:=if_neg hd
   have hn:resF d ts=[]:=by
    by_cases z:resF d ts=[]
    ·exact z
    ·exact absurd ((h.keys d).mpr z) hd
   rw [ea]
   refine ⟨fun g hg=>?_,fun c=>?_⟩
   ·rcases List.mem_append.mp hg with y | y
    ·have:g.1≠d:=fun z=>hd (by rw [← z];exact List.mem_map_of_mem y)
     rw [e2 _ this];exact h.eq g y
    ·rw [List.mem_singleton.mp y]
     show [r]=resF d (ts ++ [d :: r])
     rw [e1,hn];rfl
   ·rw [List.map_append,List.mem_append]
    by_cases z:c=d
    ·subst z
     rw [e1]
     exact ⟨fun _=>by simp,fun _=>.inr (by simp)⟩
    ·rw [e2 c z]
     refine ⟨fun y=>y.elim (h.keys c).mp fun y=>absurd (by simpa using y) z,fun y=>.inl ((h.keys c).mpr y)⟩
theorem fold_ok:∀ (ts:List (List Nat)) (gs:Grp) (pre:List (List Nat)),GOk gs pre→GOk (ts.foldl addG gs) (pre ++ ts)
 | [],gs,pre,h=>by simpa using h
 | t :: ts,gs,pre,h=>by
  have:=fold_ok ts (addG gs t) (pre ++ [t]) (h.add t)
  rw [List.append_assoc] at this
  exact this
theorem grp_ok (ts:List (List Nat)):GOk (grpF ts) ts:=by
 exact fold_ok ts [] [] ⟨fun g h=>by simp at h,fun c=>by simp [resF]⟩
theorem res_mem {c:Nat} {ts:List (List Nat)} {t:List Nat}:t∈resF c ts↔(c :: t)∈ts:=by
 unfold resF
 rw [List.mem_filterMap]
 constructor
 ·rintro ⟨u,hu,e⟩
  unfold hd1 at e
  split at e
  ·cases e
  ·rename_i d r
   split at e
   ·rename_i z
    rw [← z,← Option.some.inj e];exact hu
   ·cases e
 ·intro h
  exact ⟨c :: t,h,by simp [hd1]⟩
def resW (w:List Nat) (ts:List (List Nat)):List (List Nat):=w.foldl (fun s c=>resF c s) ts
theorem resW_mem:∀ {w:List Nat} {ts:List (List Nat)} {t:List Nat},t∈resW w ts↔(w ++ t)∈ts
 | [],ts,t=>Iff.rfl
 | c :: w,ts,t=>by
  show t∈resW w (resF c ts)↔_
  rw [resW_mem (w:=w),res_mem];rfl
theorem resW_snoc (w:List Nat) (c:Nat) (ts:List (List Nat)):resW (w ++ [c]) ts=resF c (resW w ts):=by unfold resW;rw [List.foldl_append];rfl
def prefs (ts:List (List Nat)):List (List Nat):=[] :: ts.flatMap fun t=>(List.range (t.length + 1)).map fun k=>t.take k
theorem pref_mem {w:List Nat} {ts:List (List Nat)} (h:w=[]∨resW w ts≠[]):w∈prefs ts:=by
 rcases h with rfl | h
 ·exact List.mem_cons_self
 ·refine List.mem_cons_of_mem _ ?_
  obtain ⟨t,ht⟩:=List.exists_mem_of_ne_nil _ h
  have:=resW_mem.mp ht
  refine List.mem_flatMap.mpr ⟨w ++ t,this,List.mem_map.mpr ⟨w.length,List.mem_range.mpr (by rw [List.length_append];omega),by simp⟩⟩
theorem states_le {ss:List (List (List Nat))} {ts:List (List Nat)} (nd:ss.Nodup) (h:∀ s∈ss,∃ w,s=resW w ts∧(w=[]∨s≠[])):ss.length≤(prefs ts).length:=by
 have hs:ss ⊆ (prefs ts).map fun w=>resW w ts:=fun s hs=>by
  obtain ⟨w,e,hw⟩:=h s hs
  exact List.mem_map.mpr ⟨w,pref_mem (by rw [← e];exact hw),e.symm⟩
 have:=nd.length_le_of_subset hs
 rwa [List.length_map] at this
theorem prefs_len {ts:List (List Nat)} {m:Nat} (h:∀ t∈ts,t.length≤m):(prefs ts).length≤ts.length * (m + 1) + 1:=by
 unfold prefs
 rw [List.length_cons]
 have:(ts.flatMap fun t=>(List.range (t.length + 1)).map fun k=>t.take k).length≤ts.length * (m + 1):=by
  induction ts with
  | nil=>simp
  | cons t ts ih=>
   rw [List.flatMap_cons,List.length_append,List.length_map,List.length_range,List.length_cons,Nat.succ_mul]
   have h1:=h t List.mem_cons_self
   have h2:=ih fun u hu=>h u (List.mem_cons_of_mem _ hu)
   omega
 omega
abbrev Sta:=List (List Nat)
abbrev Rw:=Bool × List (Nat × Nat)
def putS (ss:List Sta) (s:Sta):List Sta:=if s∈ss then ss else ss ++ [s]
def stepP (a:List Sta × List (Nat × Nat)) (g:Nat × Sta):List Sta × List (Nat × Nat):=(putS a.1 g.2,a.2 ++ [(g.1,(putS a.1 g.2).idxOf g.2)])
def rowT (ss:List Sta) (n:Nat):List Sta × List (Nat × Nat):=(grpF (ss.getD n [])).foldl stepP (ss,[])
def stepT (t:List Sta × List Rw):List Sta × List Rw:=
 ((rowT t.1 t.2.length).1,t.2 ++ [(decide ([]∈t.1.getD t.2.length []),(rowT t.1 t.2.length).2)])
def Tb (s0:Sta):Nat→List Sta × List Rw
 | 0=>([s0],[])
 | n + 1=>stepT (Tb s0 n)
theorem putS_nd {ss:List Sta} {s:Sta} (h:ss.Nodup):(putS ss s).Nodup:=by
 unfold putS
 split
 ·exact h
 ·rename_i z
  rw [List.nodup_append]
  exact ⟨h,by simp,fun a ha b hb e=>z (by rw [List.mem_singleton.mp hb] at e;rw [← e];exact ha)⟩
theorem putS_mem {ss:List Sta} {s:Sta}:s∈putS ss s:=by
 unfold putS
 split
 ·rename_i z;exact z
 ·simp
theorem putS_more (ss:List Sta) (s:Sta):∃ more,putS ss s=ss ++ more∧∀ x∈more,x=s:=by
 unfold putS
 split
 ·exact ⟨[],by simp,fun x h=>by simp at h⟩
 ·exact ⟨[s],rfl,fun x h=>by simpa using h⟩
theorem idx_at {ss:List Sta} {s:Sta} (h:s∈ss):ss[ss.idxOf s]?=some s:=by
 have:=List.idxOf_lt_length_of_mem h
 rw [List.getElem?_eq_getElem this,List.getElem_idxOf this]
theorem fold_row:∀ (gs:Grp) (ss:List Sta) (ps:List (Nat × Nat)),ss.Nodup→∃ more qs,gs.foldl stepP (ss,ps)=(ss ++ more,ps ++ qs)∧(ss ++ more).Nodup∧(∀ s∈more,∃ g∈gs,s=g.2)∧qs.map (·.1)=gs.map (·.1)∧
  ∀ q∈qs,∃ g∈gs,g.1=q.1∧(ss ++ more)[q.2]?=some g.2
 | [],ss,ps,nd=>⟨[],[],by simp,by simpa using nd,fun s h=>by simp at h,rfl,fun q h=>by simp at h⟩
 | g :: gs,ss,ps,nd=>by
  obtain ⟨m1,e1,hm1⟩:=putS_more ss g.2
  have nd1:=putS_nd (s:=g.2) nd
  have hin:g.2∈putS ss g.2:=putS_mem
  have hix:=idx_at hin
  obtain ⟨m2,qs,e2,nd2,hm2,hk,hq⟩:=fold_row gs (putS ss g.2) (ps ++ [(g.1,(putS ss g.2).idxOf g.2)]) nd1
  have e3:putS ss g.2 ++ m2=ss ++ (m1 ++ m2):=by rw [e1,List.append_assoc]
  rw [e3] at e2 nd2 hq
  refine ⟨m1 ++ m2,(g.1,(putS ss g.2).idxOf g.2) :: qs,?_,nd2,?_,?_,?_⟩
  ·show gs.foldl stepP (putS ss g.2,ps ++ [(g.1,(putS ss g.2).idxOf g.2)])=_
   rw [e2]
   simp
  ·intro s hs
   rcases List.mem_append.mp hs with y | y
   ·exact ⟨g,List.mem_cons_self,hm1 s y⟩
   ·obtain ⟨g',h1,h2⟩:=hm2 s y
    exact ⟨g',List.mem_cons_of_mem _ h1,h2⟩
  ·simp [hk]
  ·intro q hq'
   rcases List.mem_cons.mp hq' with y | y
   ·subst y
    refine ⟨g,List.mem_cons_self,rfl,?_⟩
    rw [← e3]
    show (putS ss g.2 ++ m2)[(putS ss g.2).idxOf g.2]?=_
    rw [List.getElem?_append_left (List.idxOf_lt_length_of_mem hin)]
    exact hix
   ·obtain ⟨g',h1,h2,h3⟩:=hq q y
    exact ⟨g',List.mem_cons_of_mem _ h1,h2,h3⟩
theorem addG_nd {gs : Grp} (h : (gs.map (·.1)).Nodup) (t : List Nat) : ((addG gs t).map (·.1)).Nodup := by
  cases t with
  | nil => exact h
  | cons c r =>
    show ((if c ∈ gs.map (·.1) then gs.map (fun g => if g.1 = c then (g.1, g.2 ++ [r]) else g) else gs ++ [(c, [r])]).map (·.1)).Nodup
    split
    · have e3 : (gs.map (fun g => if g.1 = c then (g.1, g.2 ++ [r]) else g)).map (·.1) = gs.map (·.1) := by
        rw [List.map_map]
        refine List.map_congr_left fun g _ => ?_
        show (if g.1 = c then (g.1, g.2 ++ [r]) else g).1 = g.1
        split <;> rfl
      rw [e3]; exact h
    · rename_i hc
      rw [List.map_append, List.nodup_append]
      exact ⟨h, by simp, fun a1 h1 b1 h2 z => hc (by have : b1 = c := by simpa using h2
                                                     rw [← this, ← z]; exact h1)⟩
theorem fold_nd:∀ (ts:List (List Nat)) (gs:Grp),(gs.map (·.1)).Nodup→((ts.foldl addG gs).map (·.1)).Nodup
 | [],gs,h=>h
 | t :: ts,gs,h=>fold_nd ts _ (addG_nd h t)
theorem grp_nd (ts:List (List Nat)):((grpF ts).map (·.1)).Nodup:=fold_nd ts [] (by simp)
theorem grp_ne {ts:List (List Nat)} {g:Nat × List (List Nat)} (h:g∈grpF ts):g.2≠[]:=by
 rw [(grp_ok ts).eq g h]
 exact ((grp_ok ts).keys g.1).mp (List.mem_map_of_mem h)
structure RowOk (ss:List Sta) (st:Sta) (r:Rw):Prop where
 fst:r.1=decide ([]∈st)
 keys:r.2.map (·.1)=(grpF st).map (·.1)
 at_:∀ q∈r.2,ss[q.2]?=some (resF q.1 st)
structure TOk (s0:Sta) (t:List Sta × List Rw):Prop where
 nd:t.1.Nodup
 hd:t.1[0]?=some s0
 of:∀ s∈t.1,∃ w,s=resW w s0∧(w=[]∨s≠[])
 le:t.2.length≤t.1.length
 row:∀ (i:Nat) st r,t.1[i]?=some st→t.2[i]?=some r→RowOk t.1 st r
theorem RowOk.more {ss more:List Sta} {st:Sta} {r:Rw} (h:RowOk ss st r):RowOk (ss ++ more) st r:=
 ⟨h.fst,h.keys,fun q hq=>by
  have:=h.at_ q hq
  have hl:=(List.getElem?_eq_some_iff.mp this).1
  rw [List.getElem?_append_left hl];exact this⟩
theorem TOk.step {s0:Sta} {t:List Sta × List Rw} (h:TOk s0 t) (hl:t.2.length < t.1.length):TOk s0 (stepT t):=by
 obtain ⟨nd,hd,of,le,row⟩:=h
 obtain ⟨st,hst⟩:∃ st,t.1[t.2.length]?=some st:=⟨_,List.getElem?_eq_getElem hl⟩
 have hg:t.1.getD t.2.length []=st:=by rw [List.getD_eq_getElem?_getD,hst];rfl
 obtain ⟨more,qs,e,nd2,hm,hk,hq⟩:=fold_row (grpF st) t.1 [] nd
 have e1:rowT t.1 t.2.length=(t.1 ++ more,qs):=by unfold rowT;rw [hg,e];rfl
 have G:=grp_ok st
 have e2:stepT t=(t.1 ++ more,t.2 ++ [(decide ([]∈st),qs)]):=by unfold stepT;rw [e1,hg]
 rw [e2]
 obtain ⟨w,ew,_⟩:=of st (List.mem_of_getElem? hst)
 refine ⟨nd2,?_,?_,?_,?_⟩
 ·show (t.1 ++ more)[0]?=_
  rw [List.getElem?_append_left (by omega)];exact hd
 ·intro s hs
  rcases List.mem_append.mp hs with y | y
  ·exact of s y
  ·obtain ⟨g,hg,rfl⟩:=hm s y
   have hne:=grp_ne hg
   exact ⟨w ++ [g.1],by rw [resW_snoc,← ew];exact G.eq g hg,.inr hne⟩
 ·show (t.2 ++ [_]).length≤(t.1 ++ more).length
  simp;omega
 ·intro i st' r hi hr
  have hi:(t.1 ++ more)[i]?=some st':=hi
  have hr:(t.2 ++ [(decide ([]∈st),qs)])[i]?=some r:=hr
  show RowOk (t.1 ++ more) st' r
  by_cases z:i < t.2.length
  ·rw [List.getElem?_append_left z] at hr
   rw [List.getElem?_append_left (by omega)] at hi
   exact (row i st' r hi hr).more
  ·have hz:i=t.2.length:=by
    have:=(List.getElem?_eq_some_iff.mp hr).1
    simp at this;omega
   subst hz
   rw [List.getElem?_append_left hl,hst] at hi
   simp at hr
   cases hi
   subst hr
   refine ⟨rfl,hk,fun q hq'=>?_⟩
   obtain ⟨g,h1,h2,h3⟩:=hq q hq'
   rw [h3,← h2,G.eq g h1]
theorem Tb_len (s0:Sta):∀ n,(Tb s0 n).2.length=n
 | 0=>rfl
 | n + 1=>by
  show ((Tb s0 n).2 ++ [_]).length=_
  simp [Tb_len s0 n]
theorem Tb_ok (s0:Sta):TOk s0 (Tb s0 0):=
 ⟨by simp [Tb],rfl,fun s hs=>⟨[],(show s=s0 from List.mem_singleton.mp hs),.inl rfl⟩,by simp [Tb],fun i st r h1 h2=>by simp [Tb] at h2⟩
def Kt (H H':Hp):Prop:=∀ a xs,H a=some (.tup xs)→H' a=some (.tup xs)
theorem Kt.refl (H:Hp):Kt H H:=fun _ _ h=>h
theorem Kt.trans {A B C:Hp} (h:Kt A B) (g:Kt B C):Kt A C:=fun a xs e=>g a xs (h a xs e)
theorem Kt.of {A B:Hp} (h:Same A B):Kt A B:=fun a xs e=>h a _ e
theorem Kt.upd {A B:Hp} {a:Addr} {o:HO} (h:Kt A B) (hn:∀ xs,B a≠some (.tup xs)):Kt A (upd B a o):=fun b xs e=>by
 have:=h b xs e
 rw [upd_ne fun z=>hn xs (by rw [← z];exact this)]
 exact this
structure PT (H:Hp) (sa:List Addr) (ss:List Sta):Prop where
 len:sa.length=ss.length
 at_:∀ (i:Nat) a s,sa[i]?=some a→ss[i]?=some s→H a=some (.tup (Ts s))
theorem PT.mv {H H':Hp} {sa:List Addr} {ss:List Sta} (h:PT H sa ss) (k:Kt H H'):PT H' sa ss:=⟨h.len,fun i a s h1 h2=>k _ _ (h.at_ i a s h1 h2)⟩
structure QT (H:Hp) (pa:List Addr) (ps:List (Nat × Nat)):Prop where
 len:pa.length=ps.length
 at_:∀ (i:Nat) a q,pa[i]?=some a→ps[i]?=some q→H a=some (.tup [.str (S [q.1]),.int q.2])
theorem QT.mv {H H':Hp} {sa:List Addr} {ss} (h:QT H sa ss) (k:Kt H H'):QT H' sa ss:=⟨h.len,fun i a s h1 h2=>k _ _ (h.at_ i a s h1 h2)⟩
def RwAt (H:Hp) (a:Addr) (r:Rw):Prop:=∃ pa pas,H a=some (.tup [.bl r.1,.ref pa])∧H pa=some (.tup (pas.map .ref))∧QT H pas r.2
theorem RwAt.mv {H H':Hp} {a:Addr} {r:Rw} (h:RwAt H a r) (k:Kt H H'):RwAt H' a r:=by
 obtain ⟨pa,pas,h1,h2,h3⟩:=h
 exact ⟨pa,pas,k _ _ h1,k _ _ h2,h3.mv k⟩
structure RT (H:Hp) (ra:List Addr) (rs:List Rw):Prop where
 len:ra.length=rs.length
 at_:∀ (i:Nat) a r,ra[i]?=some a→rs[i]?=some r→RwAt H a r
theorem RT.mv {H H':Hp} {sa:List Addr} {ss} (h:RT H sa ss) (k:Kt H H'):RT H' sa ss:=⟨h.len,fun i a s h1 h2=>(h.at_ i a s h1 h2).mv k⟩
theorem snoc_at {α β:Type} {P:α→β→Prop} {as:List α} {bs:List β} {a:α} {b:β} (hl:as.length=bs.length) (h:∀ (i:Nat) x y,as[i]?=some x→bs[i]?=some y→P x y) (h1:P a b) :
  ∀ (i:Nat) x y,(as ++ [a])[i]?=some x→(bs ++ [b])[i]?=some y→P x y:=by
 intro i x y hx hy
 by_cases z:i < as.length
 ·rw [List.getElem?_append_left z] at hx
  rw [List.getElem?_append_left (by omega)] at hy
  exact h i x y hx hy
 ·have hz:i=as.length:=by
   have:=(List.getElem?_eq_some_iff.mp hx).1
   simp at this;omega
  rw [hz] at hx
  rw [hz,hl] at hy
  simp at hx hy
  rw [← hx,← hy];exact h1
theorem PT.snoc {H:Hp} {sa:List Addr} {ss:List Sta} {a:Addr} {s:Sta} (h:PT H sa ss) (h1:H a=some (.tup (Ts s))):PT H (sa ++ [a]) (ss ++ [s]):=
 ⟨by simp [h.len],snoc_at (P:=fun a s=>H a=some (.tup (Ts s))) h.len h.at_ h1⟩
theorem QT.snoc {H:Hp} {sa:List Addr} {ss} {a:Addr} {q:Nat × Nat} (h:QT H sa ss) (h1:H a=some (.tup [.str (S [q.1]),.int q.2])):QT H (sa ++ [a]) (ss ++ [q]):=
 ⟨by simp [h.len],snoc_at (P:=fun a (q:Nat × Nat)=>H a=some (.tup [.str (S [q.1]),.int q.2])) h.len h.at_ h1⟩
theorem RT.snoc {H:Hp} {sa:List Addr} {ss} {a:Addr} {q:Rw} (h:RT H sa ss) (h1:RwAt H a q):RT H (sa ++ [a]) (ss ++ [q]):=
 ⟨by simp [h.len],snoc_at (P:=fun a (q:Rw)=>RwAt H a q) h.len h.at_ h1⟩
def numK (ss:List Sta):List (List Key × V):=ss.zipIdx.map fun p=>(p.1.map keyS,V.int p.2)
theorem keyS_inj {a b:List Nat} (h:keyS a=keyS b):a=b:=S_inj (Sum.inr.inj h)
theorem keys_inj {a b:Sta} (h:a.map keyS=b.map keyS):a=b:=List.map_inj_right (fun _ _=>keyS_inj) |>.mp h
theorem keys_kV (s:Sta):(s.map keyS).map kV=Ts s:=by
 rw [List.map_map];rfl
theorem numK_len (ss:List Sta):(numK ss).length=ss.length:=by simp [numK]
theorem numK_snoc (ss:List Sta) (s:Sta):numK (ss ++ [s])=numK ss ++ [(s.map keyS,V.int ss.length)]:=by
 unfold numK
 rw [List.zipIdx_append]
 simp
theorem val_num (s:Sta) (ss:List Sta):∀ k:Nat,valV ((ss.zipIdx k).map fun p=>(p.1.map keyS,V.int p.2)) (s.map keyS)=if s∈ss then some (.int ((k + ss.idxOf s:Nat):Int)) else none:=by
 induction ss with
 | nil=>intro k;simp [valV]
 | cons a ss ih=>
  intro k
  rw [List.zipIdx_cons,List.map_cons]
  by_cases h:a=s
  ·rw [valV_pos (by rw [h])]
   rw [if_pos (by simp [h]),h]
   simp
  ·rw [valV_neg (fun z=>h (keys_inj z)),ih (k + 1)]
   by_cases h2:s∈ss
   ·have e:(a :: ss).idxOf s=ss.idxOf s + 1:=by
     rw [List.idxOf_cons,beq_eq_false_iff_ne.mpr h];rfl
    rw [if_pos h2,if_pos (List.mem_cons_of_mem _ h2),e]
    congr 2
    omega
   ·rw [if_neg h2,if_neg fun z=>(List.mem_cons.mp z).elim (fun y=>h y.symm) h2]
theorem numK_val (ss:List Sta) (s:Sta):valV (numK ss) (s.map keyS)=if s∈ss then some (.int (ss.idxOf s:Nat)) else none:=by
 have:=val_num s ss 0
 simpa [numK] using this
end
end My
end
section
set_option Elab.async false
set_option linter.all false
set_option maxRecDepth 100000
set_option maxHeartbeats 2000000
namespace My
open PySem L2
section
variable {P:Program} {w:World} {K:PySem.W.Frag} {mg:Str→Option Value} {base:Heap}
theorem fold_len:∀ (ts:List (List Nat)) (gs:Grp),(ts.foldl addG gs).length≤gs.length + ts.length
 | [],gs=>by simp
 | t :: ts,gs=>by
  have h1:=fold_len ts (addG gs t)
  have h2:=addG_len gs t
  show (ts.foldl addG (addG gs t)).length≤_
  simp only [List.length_cons]
  omega
theorem grp_len (ts:List (List Nat)):(grpF ts).length≤ts.length:=by
 have:=fold_len ts []
 rw [List.length_nil,Nat.zero_add] at this
 exact this
theorem resW_len:∀ (w:List Nat) (ts:List (List Nat)),(resW w ts).length≤ts.length
 | [],ts=>Nat.le_refl _
 | c :: w,ts=>Nat.le_trans (resW_len w (resF c ts)) (List.length_filterMap_le _ _)
theorem TOk.small {s0:Sta} {t} (h:TOk s0 t) (hl:s0.length≤700) {s:Sta} (hs:s∈t.1):s.length≤700:=by
 obtain ⟨w,e,_⟩:=h.of s hs
 rw [e];exact Nat.le_trans (resW_len w s0) hl
theorem TOk.short {s0:Sta} {t} (h:TOk s0 t) (hl:∀ x∈s0,x.length≤20) {s:Sta} (hs:s∈t.1):∀ x∈s,x.length≤20:=by
 obtain ⟨w,e,_⟩:=h.of s hs
 intro x hx
 rw [e] at hx
 have:=hl _ (resW_mem.mp hx)
 rw [List.length_append] at this
 omega
theorem TOk.few {s0:Sta} {t} (h:TOk s0 t) (hl:s0.length≤700) (ht:∀ x∈s0,x.length≤20):t.1.length≤14701:=by
 refine Nat.le_trans (states_le h.nd h.of) (Nat.le_trans (prefs_len ht) ?_)
 have:=Nat.mul_le_mul_right 21 hl
 omega
theorem TOk.wide {s0:Sta} {t} (h:TOk s0 t) (hl:s0.length≤700) {r:Rw} (hr:r∈t.2):r.2.length≤700:=by
 obtain ⟨i,hi⟩:=List.getElem?_of_mem hr
 have h1:=(List.getElem?_eq_some_iff.mp hi).1
 have h2:=h.le
 obtain ⟨st,hst⟩:∃ st,t.1[i]?=some st:=⟨_,List.getElem?_eq_getElem (by omega)⟩
 have:=congrArg List.length (h.row i st r hst hi).keys
 rw [List.length_map,List.length_map] at this
 rw [this]
 exact Nat.le_trans (grp_len st) (h.small hl (List.mem_of_getElem? hst))
structure Tabs (ts:List (List Nat)) (s0:Sta) (n:Nat):Prop where
 nd:s0.Nodup
 mem:∀ t,t∈s0↔t∈ts
 rise:s0.Pairwise (fun a b=>decide (b < a)=false)
 ok:TOk s0 (Tb s0 n)
 all:(Tb s0 n).1.length=n
 few:n≤14701
 wide:∀ r∈(Tb s0 n).2,r.2.length≤700
def seqA (K:PySem.W.Frag) (H:Hp) (p:Addr) (ts:List (List Nat)):Prop:=SqL K H p (Ts ts)∨SqT K H p (Ts ts)
def spTable (K:PySem.W.Frag):Sp:=fun vs H Q _=>∃ (p:Addr) (ts:List (List Nat)),vs=[.ref p]∧seqA K H p ts∧ts.length≤700∧(∀ t∈ts,t.length≤20)∧
 ∀ (s0:Sta) (n:Nat) (r:Addr) (ra:List Addr) (H':Hp),Same H H'→Tabs ts s0 n→H' r=some (.tup (ra.map .ref))→RT H' ra (Tb s0 n).2→Q (.ref r) H'
structure WI (H:Hp) (p sl nm rl:Addr) (s0:Sta) (n:Nat) (σ:St) (H2:Hp):Prop where
 st:∃ v4 v5 v6 v7 v8,σ=[some (.ref p),some (.ref sl),some (.ref nm),some (.ref rl),v4,v5,v6,v7,v8]
 sm:Same H H2
 hm:∃ sa ra,H2 sl=some (.lst (sa.map .ref))∧H2 rl=some (.lst (ra.map .ref))∧PT H2 sa (Tb s0 n).1∧RT H2 ra (Tb s0 n).2
 hn:H2 nm=some (.dT (numK (Tb s0 n).1))
 ok:TOk s0 (Tb s0 n)
structure FI (H:Hp) (sl nm rl pl d:Addr) (o:Obj) (f:Nat→Addr) (ra:List Addr) (rws:List Rw) (gs:Grp) (ss:List Sta) (ps:List (Nat × Nat)) (H2:Hp):Prop where
 sm:Same H H2
 hs:∃ sa,H2 sl=some (.lst (sa.map .ref))∧PT H2 sa ss
 hr:H2 rl=some (.lst (ra.map .ref))∧RT H2 ra rws
 hp:∃ pa,H2 pl=some (.lst (pa.map .ref))∧QT H2 pa ps
 hn:H2 nm=some (.dT (numK ss))
 hd:H2 d=some (.frz o (.dK (kvG gs f)))
 hf:∀ g∈gs,H2 (f g.1)=some (.lst (Ts g.2))
theorem FI.same {H:Hp} {sl nm rl pl d:Addr} {o:Obj} {f:Nat→Addr} {ra:List Addr} {rws:List Rw} {gs:Grp} {ss:List Sta} {ps:List (Nat × Nat)} {H2 H3:Hp} (h:FI H sl nm rl pl d o f ra rws gs ss ps H2) (s:Same H2 H3):FI H sl nm rl pl d o f ra rws gs ss ps H3:=by
 obtain ⟨sm,⟨sb,hsF,ptF⟩,⟨hrF,rtF⟩,⟨pa,hpF,qtF⟩,hnF,hdF,hfF⟩:=h
 exact ⟨sm.trans s,⟨sb,s _ _ hsF,ptF.mv (Kt.of s)⟩,⟨s _ _ hrF,rtF.mv (Kt.of s)⟩,⟨pa,s _ _ hpF,qtF.mv (Kt.of s)⟩,s _ _ hnF,s _ _ hdF,fun g hg=>s _ _ (hfF g hg)⟩
theorem fold_lens:∀ (l:Grp) (ss:List Sta) (ps:List (Nat × Nat)),(l.foldl stepP (ss,ps)).1.length≤ss.length + l.length∧(l.foldl stepP (ss,ps)).2.length=ps.length + l.length
 | [],ss,ps=>⟨Nat.le_refl _,rfl⟩
 | g :: l,ss,ps=>by
  have h:=fold_lens l (putS ss g.2) (ps ++ [(g.1,(putS ss g.2).idxOf g.2)])
  have h2:(putS ss g.2).length≤ss.length + 1:=by
   unfold putS
   split
   ·omega
   ·simp
  show (l.foldl stepP (putS ss g.2,ps ++ [(g.1,(putS ss g.2).idxOf g.2)])).1.length≤_∧(l.foldl stepP (putS ss g.2,ps ++ [(g.1,(putS ss g.2).idxOf g.2)])).2.length=_
  rw [List.length_append] at h
  simp only [List.length_cons,List.length_nil] at h ⊢
  omega
theorem kvG_get {gs:Grp} {f:Nat→Addr} {i:Nat} {k:Key} {v:V} (h:(kvG gs f)[i]?=some (k,v)):∃ g,gs[i]?=some g∧k=keyS [g.1]∧v=.ref (f g.1):=by
 unfold kvG at h
 rw [List.getElem?_map] at h
 obtain ⟨g,h1,h2⟩:=Option.map_eq_some_iff.mp h
 have h2:(keyS [g.1],V.ref (f g.1))=(k,v):=h2
 injection h2 with h3 h4
 exact ⟨g,h1,h3.symm,h4.symm⟩
theorem ts_ref {s:Sta} {sa:List Addr} (h:s≠[]):Ts s≠sa.map V.ref:=by
 intro z
 cases s with
 | nil=>exact h rfl
 | cons t s=>cases sa with
  | nil=>cases z
  | cons a sa=>cases z
theorem set_or {w:World} {H:Hp} {p:Addr} {ts:List (List Nat)} {Q:VK} (h:seqA K H p ts) (hl:ts.length≤1000) (q:∀ a,H a=none→Q (.ref a) (upd H a (.ext (SetW w a ts ts.length)))):rSetLT w K [.ref p] H Q∨rSetTT w K [.ref p] H Q:=h.elim (fun h=>.inl ⟨p,ts,rfl,h,hl,q⟩) fun h=>.inr ⟨p,ts,rfl,h,hl,q⟩
theorem ok_least_table (D:DefAt K mg "least_table" s_least_table ["texts"]) (n_tuple:mg "tuple"=none) (n_sorted:mg "sorted"=none) (n_set:mg "set"=none) (n_len:mg "len"=none) (D_rests_by_sign:Def P w K mg base "rests_by_sign" 1 ["texts"] spRests):Def P w K mg base "least_table" 4 ["texts"] (spTable K):=by
 refine D.qok sc_least_table (fun vs H Q E h=>?_) (fun f cdv A outer s H vs Q E hr h=>?_)
 ·obtain ⟨p,ts,rfl,_⟩:=h
  rfl
 ·obtain ⟨p,ts,rfl,hp,hl,ht,q⟩:=h
  have hu:=hu_of hr
  refine ⟨_,(qss_cons (qs_set (i:=1) sc_least_table.nd rfl (Or.inl rfl) (qe_lst (qa_cons (qe_callTy call_tuple_of (by rfl) n_tuple PyProof.Rows.boot_tuple (qa_cons (qe_callB (call_sortedSetLW w rfl) (by rfl) n_sorted PyProof.Rows.boot_sorted (qa_cons (qe_callTy (call_setA w K rfl) (by rfl) n_set PyProof.Rows.boot_set (qa_cons (qv 0) qa_nil)) qa_nil)) qa_nil)) qa_nil))) (qss_cons (qs_set (i:=2) sc_least_table.nd rfl (Or.inl rfl) (qe_disp1T hu (qe_ix ix_list (qv 1) qe_int (fun _ _=>rfl)) qe_int)) (qss_cons (qs_set (i:=3) sc_least_table.nd rfl (Or.inl rfl) (qe_lst qa_nil)) (qss_cons (qs_while PassesOwn.never (qt_cmpR op_lt (qe_callB call_len_seq (by rfl) n_len PySem.boot_len (qa_cons (qv 3) qa_nil)) (qe_callB call_len_seq (by rfl) n_len PySem.boot_len (qa_cons (qv 1) qa_nil)) (nomark _)) (qss_cons (qs_set (i:=4) sc_least_table.nd rfl (Or.inl rfl) (qe_ix ix_list (qv 1) (qe_callB call_len_seq (by rfl) n_len PySem.boot_len (qa_cons (qv 3) qa_nil)) (fun _ _=>rfl))) (qss_cons (qs_set (i:=5) sc_least_table.nd rfl (Or.inl rfl) (qe_lst qa_nil)) (qss_cons (qs_for PassesOwn.never rfl (qi_items (qe_bm0 PySem.F.plainAttrs_dict PySem.F.slot_dict_items PySem.F.type_dict_items mt_items (qe_own D_rests_by_sign (hr.mono (by decide)) rfl (qa_cons (qv 4) qa_nil)))) (qg_tup rfl (qgs_cons (qg_name (i:=6) sc_least_table.nd rfl (Or.inl rfl)) (qgs_cons (qg_name (i:=7) sc_least_table.nd rfl (Or.inl rfl)) qgs_nil))) (qss_cons (qs_set (i:=8) sc_least_table.nd rfl (Or.inl rfl) (qe_callTy call_tuple_of (by rfl) n_tuple PyProof.Rows.boot_tuple (qa_cons (qv 7) qa_nil))) (qss_cons (qs_cut (qs_if (qt_cmp (qc_dnotin hu (qv 8) (qv 2))) (qss_cons (qs_dput hu (qv 2) (qv 8) (qe_callB call_len_seq (by rfl) n_len PySem.boot_len (qa_cons (qv 1) qa_nil)) rfl) (qss_one (qs_expr (qe_bm PySem.F.plainAttrs_list PySem.F.slot_list_append PySem.F.type_list_append mt_append (qv 1) (qa_cons (qv 8) qa_nil))))) qss_nil)) (qss_one (qs_expr (qe_bm PySem.F.plainAttrs_list PySem.F.slot_list_append PySem.F.type_list_append mt_append (qv 5) (qa_cons (qe_tup (qa_cons (qv 6) (qa_cons (qe_dget hu (qv 2) (qv 8) (fun _ _=>rfl)) qa_nil))) qa_nil))))))) (qss_one (qs_expr (qe_bm PySem.F.plainAttrs_list PySem.F.slot_list_append PySem.F.type_list_append mt_append (qv 3) (qa_cons (qe_tup (qa_cons (qe_cmpR op_in_seq (qe_strS [] (by decide +kernel)) (qv 4) rfl) (qa_cons (qe_callTy call_tuple_of (by rfl) n_tuple PyProof.Rows.boot_tuple (qa_cons (qv 5) qa_nil)) qa_nil))) qa_nil)))))))) (qss_one (qs_ret (qe_callTy call_tuple_of (by rfl) n_tuple PyProof.Rows.boot_tuple (qa_cons (qv 3) qa_nil)))))))),?_⟩
  refine ⟨_,rfl,set_or hp (by omega) fun a1 h1=>⟨a1,ts,ts.length,rfl,upd_same,by omega,fun a2 s0 h2 snd smem srt=>?_⟩⟩
  have s1:Same H (upd (upd H a1 (.ext (SetW w a1 ts ts.length))) a2 (.lst (Ts s0))):=(Same.upd h1).upd' ((Same.upd h1).free h2)
  have e2:upd (upd H a1 (.ext (SetW w a1 ts ts.length))) a2 (.lst (Ts s0)) a2=some (.lst (Ts s0)):=upd_same
  generalize upd (upd H a1 (.ext (SetW w a1 ts ts.length))) a2 (.lst (Ts s0))=H1 at s1 e2 ⊢
  have l0:s0.length≤700:=by
   have:s0 ⊆ ts:=fun t h=>(smem t).mp h
   exact Nat.le_trans (snd.length_le_of_subset this) hl
  have t0:∀ x∈s0,x.length≤20:=fun x h=>ht x ((smem x).mp h)
  refine ⟨a2,_,rfl,.inl ⟨SqL.of e2,fun a3 h3=>⟨by show 1≤sizeLine;decide,fun sl hsl=>?_⟩⟩⟩
  have e3:upd (upd H1 a3 (.tup (Ts s0))) sl (.lst [.ref a3]) sl=some (.lst [.ref a3]):=upd_same
  have e4:upd (upd H1 a3 (.tup (Ts s0))) sl (.lst [.ref a3]) a3=some (.tup (Ts s0)):=by rw [upd_ne (ne_of_none upd_same hsl)];exact upd_same
  have s2:Same H (upd (upd H1 a3 (.tup (Ts s0))) sl (.lst [.ref a3])):=(s1.upd' (s1.free h3)).upd' ((s1.upd' (s1.free h3)).free hsl)
  have fsl:H sl=none:=(s1.upd' (s1.free h3)).free hsl
  generalize upd (upd H1 a3 (.tup (Ts s0))) sl (.lst [.ref a3])=H2 at e3 e4 s2 ⊢
  intro nm hnm
  have n1:sl≠nm:=ne_of_none e3 hnm
  have n2:a3≠nm:=ne_of_none e4 hnm
  refine ⟨_,rfl,sl,_,0,_,rfl,rfl,SqL.of (by rw [upd_ne n1];exact e3),atI_nat (j:=0) rfl,s0.map keyS,a3,rfl,upd_same,by rw [upd_ne n2,keys_kV];exact e4,?_⟩
  rw [upd_upd]
  have fnm:H nm=none:=s2.free hnm
  have s3:Same H (upd H2 nm (.dT [(s0.map keyS,.int 0)])):=s2.upd' fnm
  have e5:upd H2 nm (.dT [(s0.map keyS,.int 0)]) nm=some (.dT (numK [s0])):=upd_same
  have e3':upd H2 nm (.dT [(s0.map keyS,.int 0)]) sl=some (.lst [.ref a3]):=by rw [upd_ne n1];exact e3
  have e4':upd H2 nm (.dT [(s0.map keyS,.int 0)]) a3=some (.tup (Ts s0)):=by rw [upd_ne n2];exact e4
  generalize upd H2 nm (.dT [(s0.map keyS,.int 0)])=H3 at s3 e5 e3' e4' ⊢
  refine ⟨by show 0≤sizeLine;decide,fun rl hrl=>?_⟩
  have frl:H rl=none:=s3.free hrl
  have n3:sl≠rl:=ne_of_none e3' hrl
  have W0:WI H p sl nm rl s0 0 [some (.ref p),some (.ref sl),some (.ref nm),some (.ref rl),none,none,none,none,none] (upd H3 rl (.lst [])):=by
   refine ⟨⟨_,_,_,_,_,rfl⟩,s3.upd' frl,⟨[a3],[],by rw [upd_ne n3];exact e3',upd_same,⟨rfl,fun i a s h1 h2=>?_⟩,⟨rfl,fun i a s h1 h2=>by simp at h1⟩⟩,by rw [upd_ne (ne_of_none e5 hrl)];exact e5,Tb_ok s0⟩
   have hi:i=0:=by have:=(List.getElem?_eq_some_iff.mp h1).1;simp at this;exact this
   subst hi
   cases h1
   cases h2
   rw [upd_ne (ne_of_none e4' hrl)];exact e4'
  refine ⟨fun m σ H4=>∃ n,m=14702 - n∧WI H p sl nm rl s0 n σ H4,⟨_,0,rfl,W0⟩,?_⟩
  rintro m σ H4 ⟨n,rfl,W⟩
  obtain ⟨⟨v4,v5,v6,v7,v8,rfl⟩,sm,⟨sa,ra,hs4,hr4,pt,rt⟩,hn4,ok⟩:=W
  have few:=ok.few l0 t0
  have hrn:ra.length=n:=by rw [rt.len,Tb_len]
  refine ⟨_,rfl,rl,_,rfl,.inl (SqL.of hr4),_,rfl,sl,_,rfl,.inl (SqL.of hs4),_,_,rfl,rfl,_,rfl,?_⟩
  rw [List.length_map,List.length_map,hrn,pt.len]
  refine ite2 (fun hc=>?_) (fun hc=>?_)
  ·have hlt:n < (Tb s0 n).1.length:=by have:=of_decide_eq_true hc;omega
   refine ⟨WI H p sl nm rl s0 (n + 1),fun σ' H' W'=>⟨14702 - (n + 1),by omega,n + 1,rfl,W'⟩,?_⟩
   obtain ⟨st,hst⟩:∃ st,(Tb s0 n).1[n]?=some st:=⟨_,List.getElem?_eq_getElem hlt⟩
   obtain ⟨a,ha⟩:∃ a,sa[n]?=some a:=⟨_,List.getElem?_eq_getElem (by rw [pt.len];exact hlt)⟩
   have hst4:=pt.at_ n a st ha hst
   have lst:st.length≤700:=ok.small l0 (List.mem_of_getElem? hst)
   have tst:∀ x∈st,x.length≤20:=ok.short t0 (List.mem_of_getElem? hst)
   refine ⟨_,rfl,_,rfl,rl,_,rfl,.inl (SqL.of hr4),sl,_,_,.ref a,rfl,rfl,SqL.of hs4,(by rw [List.length_map,hrn];exact atI_nat (by rw [List.getElem?_map,ha];rfl)),?_⟩
   refine ⟨by show 0≤sizeLine;decide,fun pl hpl=>?_⟩
   have s5:Same H (upd H4 pl (.lst [])):=sm.upd' (sm.free hpl)
   have fpl:H pl=none:=sm.free hpl
   have k5:Same H4 (upd H4 pl (.lst [])):=Same.upd hpl
   have hst5:=k5 _ _ hst4
   have hs5:=k5 _ _ hs4
   have hr5:=k5 _ _ hr4
   have hn5:=k5 _ _ hn4
   have pt5:=pt.mv (Kt.of k5)
   have rt5:=rt.mv (Kt.of k5)
   have hp5:upd H4 pl (.lst []) pl=some (.lst []):=upd_same
   have n4:sl≠pl:=ne_of_none hs4 hpl
   have n5:rl≠pl:=ne_of_none hr4 hpl
   generalize upd H4 pl (.lst [])=H5 at s5 hst5 hs5 hr5 hn5 pt5 rt5 hp5 ⊢
   refine ⟨_,rfl,a,st,rfl,hst5,by omega,fun x hx=>Nat.le_trans (tst x hx) (by omega),fun d f H6 hd5 s6 R=>?_⟩
   have fd:H d=none:=s5.free hd5
   have hst6:=s6 _ _ hst5
   have hs6:=s6 _ _ hs5
   have hr6:=s6 _ _ hr5
   have hn6:=s6 _ _ hn5
   have hp6:=s6 _ _ hp5
   have pt6:=pt5.mv (Kt.of s6)
   have rt6:=rt5.mv (Kt.of s6)
   have sm6:=s5.trans s6
   have gl:=grp_len st
   have gne:∀ g∈grpF st,g.2≠[]:=fun g hg=>grp_ne hg
   generalize hgs:grpF st=gs at R gl gne
   have nfs:∀ g∈gs,f g.1≠sl:=fun g hg=>ne_of (R.at_ g hg) hs6 fun z=>ts_ref (gne g hg) (HO.lst.inj z)
   have nfr:∀ g∈gs,f g.1≠rl:=fun g hg=>ne_of (R.at_ g hg) hr6 fun z=>ts_ref (gne g hg) (HO.lst.inj z)
   have nfp:∀ g∈gs,f g.1≠pl:=fun g hg=>ne_of (R.at_ g hg) hp6 fun z=>ts_ref (sa:=[]) (gne g hg) (HO.lst.inj z)
   have nfn:∀ g∈gs,f g.1≠nm:=fun g hg=>ne_of (R.at_ g hg) hn6 fun z=>(nomatch z)
   have nfd:∀ g∈gs,f g.1≠d:=fun g hg=>ne_of (R.at_ g hg) R.dk fun z=>(nomatch z)
   have nsd:sl≠d:=ne_of hs6 R.dk fun z=>(nomatch z)
   have nrd:rl≠d:=ne_of hr6 R.dk fun z=>(nomatch z)
   have npd:pl≠d:=ne_of hp6 R.dk fun z=>(nomatch z)
   have nnd:nm≠d:=ne_of hn6 R.dk fun z=>(nomatch z)
   have nns:nm≠sl:=ne_of hn6 hs6 fun z=>(nomatch z)
   have nnr:nm≠rl:=ne_of hn6 hr6 fun z=>(nomatch z)
   have nnp:nm≠pl:=ne_of hn6 hp6 fun z=>(nomatch z)
   refine ⟨.inr (.inr (.inl ⟨rfl,.inl ⟨_,R.dk⟩⟩)),d,_,rfl,rfl,R.dk,fun v hv=>⟨v,d,_,rfl,upd_same,by rw [upd_ne (ne_of_none R.dk hv)];exact R.dk,fun o=>?_⟩⟩
   have sv:Same H6 (upd H6 v (.ext (ViewD v d))):=Same.upd hv
   have kd:Kt H6 (upd (upd H6 v (.ext (ViewD v d))) d (.frz o (.dK (kvG gs f)))):=(Kt.of sv).upd fun xs z=>by
    rw [sv _ _ R.dk] at z;cases z
   have F0:FI H sl nm rl pl d o f ra (Tb s0 n).2 gs (Tb s0 n).1 [] (upd (upd H6 v (.ext (ViewD v d))) d (.frz o (.dK (kvG gs f)))):=by
    refine ⟨(sm6.upd' (sm6.free hv)).upd' fd,⟨sa,?_,pt6.mv kd⟩,⟨?_,rt6.mv kd⟩,⟨[],?_,⟨rfl,fun i a q h=>by simp at h⟩⟩,?_,upd_same,fun g hg=>?_⟩
    ·rw [upd_ne nsd];exact sv _ _ hs6
    ·rw [upd_ne nrd];exact sv _ _ hr6
    ·rw [upd_ne npd];exact sv _ _ hp6
    ·rw [upd_ne nnd];exact sv _ _ hn6
    ·rw [upd_ne (nfd g hg)];exact sv _ _ (R.at_ g hg)
   have hstv:upd (upd H6 v (.ext (ViewD v d))) d (.frz o (.dK (kvG gs f))) a=some (.tup (Ts st)):=kd _ _ hst6
   generalize upd (upd H6 v (.ext (ViewD v d))) d (.frz o (.dK (kvG gs f)))=H7 at F0 hstv ⊢
   refine for_items (o:=o) (d:=d) (kvs:=kvG gs f) (fun i σ H8=>(∃ w6 w7 w8,σ=[some (.ref p),some (.ref sl),some (.ref nm),some (.ref rl),some (.ref a),some (.ref pl),w6,w7,w8])∧Kt H7 H8∧FI H sl nm rl pl d o f ra (Tb s0 n).2 gs ((gs.take i).foldl stepP ((Tb s0 n).1,[])).1 ((gs.take i).foldl stepP ((Tb s0 n).1,[])).2 H8) ⟨⟨_,_,_,rfl⟩,Kt.refl _,F0⟩ (fun i σ H8 _ h=>h.2.2.hd) ?_ ?_
   ·rintro i k v' σ H8 T hk ⟨⟨w6,w7,w8,rfl⟩,kt,FF⟩ hT
    obtain ⟨g,hg,rfl,rfl⟩:=kvG_get hk
    have hgm:=List.mem_of_getElem? hg
    have efold:(gs.take (i + 1)).foldl stepP ((Tb s0 n).1,[])=stepP ((gs.take i).foldl stepP ((Tb s0 n).1,[])) g:=by rw [List.take_add_one,hg,List.foldl_append];rfl
    have hlens:=fold_lens (gs.take i) (Tb s0 n).1 []
    have hil:i < gs.length:=(List.getElem?_eq_some_iff.mp hg).1
    rw [List.length_take,List.length_nil] at hlens
    rw [efold]
    generalize (gs.take i).foldl stepP ((Tb s0 n).1,[])=acc at FF hlens ⊢
    obtain ⟨ss,ps⟩:=acc
    have hss:ss.length≤15401:=by have:=hlens.1;simp only at this;omega
    have hps:ps.length≤700:=by have:=hlens.2;simp only at this;omega
    have kT:Same H8 (upd H8 T (.tup [kV (keyS [g.1]),.ref (f g.1)])):=Same.upd hT
    refine ⟨T,_,rfl,SqT.of upd_same,rfl,_,_,rfl,_,_,rfl,rfl,?_⟩
    have FT:=FF.same kT
    have ktT:=kt.trans (Kt.of kT)
    generalize upd H8 T (.tup [kV (keyS [g.1]),.ref (f g.1)])=H9 at FT ktT ⊢
    refine ⟨_,rfl,f g.1,_,rfl,.inl ⟨SqL.of (FT.hf g hgm),fun on hon=>?_⟩⟩
    have kO:Same H9 (upd H9 on (.tup (Ts g.2))):=Same.upd hon
    have FO:=FT.same kO
    have ktO:=ktT.trans (Kt.of kO)
    have eO:upd H9 on (.tup (Ts g.2)) on=some (.tup ((g.2.map keyS).map kV)):=by rw [keys_kV];exact upd_same
    generalize upd H9 on (.tup (Ts g.2))=H10 at FO ktO eO ⊢
    refine ⟨fun σ H11=>σ=[some (.ref p),some (.ref sl),some (.ref nm),some (.ref rl),some (.ref a),some (.ref pl),some (.str (S [g.1])),some (.ref (f g.1)),some (.ref on)]∧Kt H7 H11∧H11 on=some (.tup ((g.2.map keyS).map kV))∧FI H sl nm rl pl d o f ra (Tb s0 n).2 gs (putS ss g.2) ps H11,?_,?_⟩
    ·refine ⟨_,rfl,_,rfl,nm,_,rfl,DGet.t FO.hn eO,_,rfl,?_⟩
     rw [numK_val]
     by_cases hin:g.2∈ss
     ·rw [if_pos hin]
      refine iteF ⟨rfl,ktO,eO,?_⟩
      have:putS ss g.2=ss:=if_pos hin
      rw [this];exact FO
     ·rw [if_neg hin]
      refine iteT ?_
      have eP:putS ss g.2=ss ++ [g.2]:=if_neg hin
      obtain ⟨smF,⟨sb,hsF,ptF⟩,⟨hrF,rtF⟩,⟨pa,hpF,qtF⟩,hnF,hdF,hfF⟩:=FO
      refine ⟨_,rfl,sl,_,rfl,.inl (SqL.of hsF),_,rfl,_,rfl,nm,_,rfl,DPut.t hnF eO (by rw [numK_len];exact Nat.lt_of_le_of_lt hss (by decide)),?_⟩
      rw [putK_new _ (by rw [numK_val,if_neg hin]),List.length_map,ptF.len,← numK_snoc]
      have nOn:on≠nm:=ne_of eO hnF fun z=>(nomatch z)
      have nOs:on≠sl:=ne_of eO hsF fun z=>(nomatch z)
      have k1:Kt H10 (upd H10 nm (.dT (numK (ss ++ [g.2])))):=(Kt.refl _).upd fun xs z=>by rw [hnF] at z;cases z
      have hs1:upd H10 nm (.dT (numK (ss ++ [g.2]))) sl=some (.lst (sb.map .ref)):=by rw [upd_ne nns.symm];exact hsF
      refine ⟨_,rfl,.inl ⟨rfl,_,SqL.of hs1⟩,_,rfl,sl,_,_,rfl,rfl,hs1,by rw [List.length_map,ptF.len];exact Nat.lt_of_le_of_lt hss (by decide),?_⟩
      have k2:Kt H10 (upd (upd H10 nm (.dT (numK (ss ++ [g.2])))) sl (.lst (sb.map .ref ++ [.ref on]))):=k1.upd fun xs z=>by rw [hs1] at z;cases z
      refine ⟨rfl,ktO.trans k2,k2 _ _ eO,?_⟩
      rw [eP]
      refine ⟨(smF.upd' fnm).upd' fsl,⟨sb ++ [on],by rw [upd_same,List.map_append];rfl,(ptF.mv k2).snoc (by have:=k2 _ _ eO;rwa [keys_kV] at this)⟩,⟨?_,rtF.mv k2⟩,⟨pa,?_,qtF.mv k2⟩,?_,?_,fun g' hg'=>?_⟩
      ·rw [upd_ne n3.symm,upd_ne nnr.symm];exact hrF
      ·rw [upd_ne n4.symm,upd_ne nnp.symm];exact hpF
      ·rw [upd_ne nns,upd_same]
      ·rw [upd_ne nsd.symm,upd_ne nnd.symm];exact hdF
      ·rw [upd_ne (nfs g' hg'),upd_ne (nfn g' hg')];exact hfF g' hg'
    ·rintro σ' H11 ⟨rfl,kt11,e11,F11⟩
     obtain ⟨smF,⟨sb,hsF,ptF⟩,⟨hrF,rtF⟩,⟨pa,hpF,qtF⟩,hnF,hdF,hfF⟩:=id F11
     refine ⟨_,rfl,.inl ⟨rfl,_,SqL.of hpF⟩,_,rfl,_,rfl,_,rfl,nm,.int (((putS ss g.2).idxOf g.2:Nat):Int),rfl,?_,?_⟩
     ·have:=DGet.t hnF e11
      rw [numK_val,if_pos putS_mem] at this
      exact this
     ·refine ⟨by show 2≤sizeLine;decide,fun tp htp=>?_⟩
      have kQ:Same H11 (upd H11 tp (.tup [.str (S [g.1]),.int (((putS ss g.2).idxOf g.2:Nat):Int)])):=Same.upd htp
      have eQ:upd H11 tp (.tup [.str (S [g.1]),.int (((putS ss g.2).idxOf g.2:Nat):Int)]) tp=some (.tup [.str (S [g.1]),.int (((putS ss g.2).idxOf g.2:Nat):Int)]):=upd_same
      have FQ:=F11.same kQ
      have ktQ:=kt11.trans (Kt.of kQ)
      generalize upd H11 tp (.tup [.str (S [g.1]),.int (((putS ss g.2).idxOf g.2:Nat):Int)])=H12 at FQ eQ ktQ ⊢
      obtain ⟨smG,⟨sc,hsG,ptG⟩,⟨hrG,rtG⟩,⟨pb,hpG,qtG⟩,hnG,hdG,hfG⟩:=FQ
      refine ⟨pl,_,_,rfl,rfl,hpG,by rw [List.length_map,qtG.len];exact small1000 (by omega),?_⟩
      have k3:Kt H12 (upd H12 pl (.lst (pb.map .ref ++ [.ref tp]))):=(Kt.refl _).upd fun xs z=>by rw [hpG] at z;cases z
      refine ⟨⟨_,_,_,rfl⟩,ktQ.trans k3,smG.upd' fpl,⟨sc,?_,ptG.mv k3⟩,⟨?_,rtG.mv k3⟩,⟨pb ++ [tp],by rw [upd_same,List.map_append];rfl,(qtG.mv k3).snoc (k3 _ _ eQ)⟩,?_,?_,fun g' hg'=>?_⟩
      ·rw [upd_ne n4];exact hsG
      ·rw [upd_ne n5];exact hrG
      ·rw [upd_ne nnp];exact hnG
      ·rw [upd_ne npd.symm];exact hdG
      ·rw [upd_ne (nfp g' hg')];exact hfG g' hg'
   ·rintro σ H8 ⟨⟨w6,w7,w8,rfl⟩,kt,FF⟩
    rw [show (kvG gs f).length=gs.length from List.length_map _,List.take_length] at FF
    have eT:Tb s0 (n + 1)=((gs.foldl stepP ((Tb s0 n).1,[])).1,(Tb s0 n).2 ++ [(decide ([]∈st),(gs.foldl stepP ((Tb s0 n).1,[])).2)]):=by
     show stepT (Tb s0 n)=_
     have e1:(Tb s0 n).1.getD n []=st:=by rw [List.getD_eq_getElem?_getD,hst];rfl
     unfold stepT rowT
     rw [Tb_len,e1,hgs]
    have ok2:TOk s0 (Tb s0 (n + 1)):=ok.step (by rw [Tb_len];exact hlt)
    have hlens:=fold_lens gs (Tb s0 n).1 []
    generalize gs.foldl stepP ((Tb s0 n).1,[])=acc at FF eT hlens
    have hps:acc.2.length≤700:=by have:=hlens.2;simp only [List.length_nil] at this;omega
    obtain ⟨smF,⟨sb,hsF,ptF⟩,⟨hrF,rtF⟩,⟨pa,hpF,qtF⟩,hnF,hdF,hfF⟩:=FF
    refine ⟨_,rfl,.inl ⟨rfl,_,SqL.of hrF⟩,_,rfl,a,Ts st,rfl,.inr (SqT.of (kt _ _ hstv)),rfl,flat_ts st,?_⟩
    rw [show inV (V.str (S [])) (Ts st)=decide ([]∈st) from inV_ts [] st,show (if false=true then !decide (([]:List Nat)∈st) else decide (([]:List Nat)∈st))=decide (([]:List Nat)∈st) from rfl]
    refine ⟨_,rfl,pl,_,rfl,.inl ⟨SqL.of hpF,fun tp htp=>?_⟩⟩
    refine ⟨by show 2≤sizeLine;decide,fun rp hrp=>?_⟩
    have kA:Same H8 (upd (upd H8 tp (.tup (pa.map .ref))) rp (.tup [.bl (decide ([]∈st)),.ref tp])):=(Same.upd htp).upd' ((Same.upd htp).free hrp)
    have eA:upd (upd H8 tp (.tup (pa.map .ref))) rp (.tup [.bl (decide ([]∈st)),.ref tp]) rp=some (.tup [.bl (decide ([]∈st)),.ref tp]):=upd_same
    have eB:upd (upd H8 tp (.tup (pa.map .ref))) rp (.tup [.bl (decide ([]∈st)),.ref tp]) tp=some (.tup (pa.map .ref)):=by rw [upd_ne (ne_of_none upd_same hrp)];exact upd_same
    generalize upd (upd H8 tp (.tup (pa.map .ref))) rp (.tup [.bl (decide ([]∈st)),.ref tp])=H9 at kA eA eB ⊢
    have hr9:=kA _ _ hrF
    refine ⟨rl,_,_,rfl,rfl,hr9,by rw [List.length_map,hrn];exact Nat.lt_of_lt_of_le (show n < 14702 by omega) (by decide),?_⟩
    have k3:Kt H9 (upd H9 rl (.lst (ra.map .ref ++ [.ref rp]))):=(Kt.refl _).upd fun xs z=>by rw [hr9] at z;cases z
    have k4:=(Kt.of kA).trans k3
    refine ⟨⟨_,_,_,_,_,rfl⟩,(smF.trans kA).upd' frl,⟨sb,ra ++ [rp],?_,by rw [upd_same,List.map_append];rfl,?_,?_⟩,?_,ok2⟩
    ·rw [upd_ne n3];exact kA _ _ hsF
    ·rw [eT];exact ptF.mv k4
    ·rw [eT];exact (rtF.mv k4).snoc (q:=(decide ([]∈st),acc.2)) ⟨tp,pa,k3 _ _ eA,k3 _ _ eB,qtF.mv k4⟩
    ·rw [upd_ne nnr,eT];exact kA _ _ hnF
  ·have hge:(Tb s0 n).1.length≤n:=Nat.le_of_not_lt fun z=>hc (decide_eq_true (by omega))
   have hle:=ok.le
   rw [Tb_len] at hle
   have hall:(Tb s0 n).1.length=n:=by omega
   refine ⟨_,rfl,rl,_,rfl,.inl ⟨SqL.of hr4,fun r hr'=>?_⟩⟩
   have k:=Same.upd (o:=.tup (ra.map .ref)) hr'
   exact q s0 n r ra _ (sm.trans k) ⟨snd,smem,srt,ok,hall,by omega,fun r hr=>ok.wide l0 hr⟩ upd_same (rt.mv (Kt.of k))
end
end My
end
section
set_option Elab.async false
set_option linter.all false
set_option maxRecDepth 100000
set_option maxHeartbeats 2000000
namespace My
open PySem L2
section
variable {P:Program} {w:World} {K:PySem.W.Frag} {mg:Str→Option Value} {base:Heap}
def flw (rws:List Rw) (i c:Nat):Option Nat:=(rws[i]?).bind fun r=>(r.2.find? fun q=>decide (q.1=c)).map (·.2)
def endB (rws:List Rw) (i:Nat):Bool:=match rws[i]? with
 | some r=>r.1
 | none=>false
theorem flw_snoc (pre:List Rw) (b:Bool) (qs:List (Nat × Nat)) (i c:Nat):flw (pre ++ [(b,qs)]) i c=if i < pre.length then flw pre i c else if i=pre.length then (qs.find? fun q=>decide (q.1=c)).map (·.2) else none:=by
 unfold flw
 by_cases h:i < pre.length
 ·rw [if_pos h,List.getElem?_append_left h]
 ·rw [if_neg h]
  by_cases h2:i=pre.length
  ·rw [if_pos h2,h2];simp
  ·rw [if_neg h2,List.getElem?_eq_none (by simp;omega)];rfl
theorem flw_new (pre:List Rw) (b:Bool) (i c:Nat):flw (pre ++ [(b,[])]) i c=flw pre i c:=by
 rw [flw_snoc]
 by_cases h:i < pre.length
 ·rw [if_pos h]
 ·rw [if_neg h]
  have:flw pre i c=none:=by unfold flw;rw [List.getElem?_eq_none (by omega)];rfl
  rw [this];simp
theorem find_snoc (qs:List (Nat × Nat)) (c0 j0 c:Nat) (h:c0∉qs.map (·.1)):((qs ++ [(c0,j0)]).find? fun q=>decide (q.1=c))=if c=c0 then some (c0,j0) else qs.find? fun q=>decide (q.1=c):=by
 rw [List.find?_append]
 by_cases e:c=c0
 ·rw [if_pos e]
  have:(qs.find? fun q=>decide (q.1=c))=none:=by
   rw [List.find?_eq_none]
   intro x hx z
   exact h (by rw [← e];exact List.mem_map.mpr ⟨x,hx,of_decide_eq_true z⟩)
  rw [this]
  simp [e]
 ·rw [if_neg e]
  simp [Ne.symm e]
theorem flw_put (pre:List Rw) (b:Bool) (qs:List (Nat × Nat)) (c0 j0 i c:Nat) (h:c0∉qs.map (·.1)):flw (pre ++ [(b,qs ++ [(c0,j0)])]) i c=if i=pre.length∧c=c0 then some j0 else flw (pre ++ [(b,qs)]) i c:=by
 rw [flw_snoc,flw_snoc]
 by_cases h1:i < pre.length
 ·rw [if_pos h1,if_pos h1,if_neg (by omega)]
 ·rw [if_neg h1,if_neg h1]
  by_cases h2:i=pre.length
  ·rw [if_pos h2,if_pos h2,find_snoc qs c0 j0 c h]
   by_cases h3:c=c0
   ·rw [if_pos h3,if_pos ⟨h2,h3⟩];rfl
   ·rw [if_neg h3,if_neg fun z=>h3 z.2]
  ·rw [if_neg h2,if_neg h2,if_neg fun z=>h2 z.1]
theorem endB_snoc (pre:List Rw) (r:Rw) (i:Nat):endB (pre ++ [r]) i=if i=pre.length then r.1 else endB pre i:=by
 unfold endB
 by_cases h:i < pre.length
 ·rw [if_neg (by omega),List.getElem?_append_left h]
 ·by_cases h2:i=pre.length
  ·rw [if_pos h2,h2];simp
  ·rw [if_neg h2,List.getElem?_eq_none (by simp;omega),List.getElem?_eq_none (by omega)]
section
variable {ts:List (List Nat)} {s0:Sta} {n:Nat}
end
structure MachineCls (K:PySem.W.Frag) (C:Addr):Prop where
 cl:Cls K C
 nr:NoAttr K C "rows"
 ns:NoAttr K C "steps"
 ne:NoAttr K C "end_states"
def StepsAt (H:Hp) (d:Addr) (z:Nat) (rws:List Rw):Prop:=∃ kvs,H d=some (.dT kvs)∧kvs.length≤z∧∀ i c:Nat,valV kvs [Sum.inl (i:Int),keyS [c]]=(flw rws i c).map fun (j:Nat)=>V.int (j:Int)
def EndsAt (H:Hp) (e:Addr) (z:Nat) (rws:List Rw):Prop:=∃ kvs,H e=some (.dK kvs)∧kvs.length≤z∧∀ i:Nat,valV kvs (Sum.inl (i:Int))=if endB rws i=true then some (.bl true) else none
def MachAt (C:Addr) (H:Hp) (m:Addr) (rws:List Rw):Prop:=∃ dx r d e,H m=some (.ins C dx [("rows",.ref r),("steps",.ref d),("end_states",.ref e)])∧(∃ ra,H r=some (.tup (ra.map .ref))∧RT H ra rws)∧(∃ z,StepsAt H d z rws)∧∃ z,EndsAt H e z rws
def MachE (C:Addr) (H:Hp) (m e:Addr) (rws:List Rw):Prop:=∃ dx r d,H m=some (.ins C dx [("rows",.ref r),("steps",.ref d),("end_states",.ref e)])∧(∃ ra,H r=some (.tup (ra.map .ref))∧RT H ra rws)∧(∃ z,StepsAt H d z rws)∧∃ z,EndsAt H e z rws
theorem MachE.at_ {C:Addr} {H:Hp} {m e:Addr} {rws:List Rw} (h:MachE C H m e rws):MachAt C H m rws:=by
 obtain ⟨dx,r,d,h⟩:=h
 exact ⟨dx,r,d,e,h⟩
structure MI (C:Addr) (H:Hp) (m dx r d e:Addr) (ra:List Addr) (rws:List Rw) (H2:Hp):Prop where
 kp:∀ b o,H b=some o→b≠m→H2 b=some o
 ob:H2 m=some (.ins C dx [("rows",.ref r),("steps",.ref d),("end_states",.ref e)])
 hr:H2 r=some (.tup (ra.map .ref))
 rt:RT H2 ra rws
theorem MI.upd {C:Addr} {H:Hp} {m dx r d e x:Addr} {ra:List Addr} {rws:List Rw} {H2:Hp} {o:HO} (h:MI C H m dx r d e ra rws H2) (hx:H x=none) (hm:m≠x) (ht:∀ xs,H2 x≠some (.tup xs)):MI C H m dx r d e ra rws (L2.upd H2 x o):=by
 have k:Kt H2 (L2.upd H2 x o):=(Kt.refl H2).upd ht
 exact ⟨fun b o' e1 hb=>by rw [upd_ne (ne_of_none e1 hx)];exact h.kp b o' e1 hb,by rw [upd_ne hm];exact h.ob,k _ _ h.hr,h.rt.mv k⟩
theorem MI.fresh {C:Addr} {H:Hp} {m dx r d e x:Addr} {ra:List Addr} {rws:List Rw} {H2:Hp} (h:MI C H m dx r d e ra rws H2) (hx:H2 x=none):H x=none∧m≠x:=by
 have hm:m≠x:=ne_of_none h.ob hx
 refine ⟨?_,hm⟩
 cases y:H x with
 | none=>rfl
 | some o=>rw [h.kp x o y hm.symm] at hx;cases hx
theorem MI.new {C:Addr} {H:Hp} {m dx r d e x:Addr} {ra:List Addr} {rws:List Rw} {H2:Hp} {o:HO} (h:MI C H m dx r d e ra rws H2) (hx:H2 x=none):MI C H m dx r d e ra rws (L2.upd H2 x o):=
 h.upd (h.fresh hx).1 (h.fresh hx).2 fun xs z=>by rw [hx] at z;cases z
theorem StepsAt.mv {H H':Hp} {d:Addr} {z:Nat} {rws:List Rw} (h:StepsAt H d z rws) (s:Same H H'):StepsAt H' d z rws:=by
 obtain ⟨kvs,h1,h2⟩:=h
 exact ⟨kvs,s _ _ h1,h2⟩
theorem EndsAt.mv {H H':Hp} {d:Addr} {z:Nat} {rws:List Rw} (h:EndsAt H d z rws) (s:Same H H'):EndsAt H' d z rws:=by
 obtain ⟨kvs,h1,h2⟩:=h
 exact ⟨kvs,s _ _ h1,h2⟩
def spMach (K:PySem.W.Frag) (C:Addr):Sp:=fun vs H Q _=>∃ (m dx p:Addr) (ts:List (List Nat)),vs=[.ref m,.ref p]∧H m=some (.ins C dx [])∧seqA K H p ts∧ts.length≤700∧(∀ t∈ts,t.length≤20)∧
 ∀ (s0:Sta) (n:Nat) (e:Addr) (H':Hp),(∀ b o,H b=some o→b≠m→H' b=some o)→Tabs ts s0 n→H e=none→MachE C H' m e (Tb s0 n).2→Q .non H'
theorem take_snoc {α:Type} {l:List α} {i:Nat} {x:α} (h:l[i]?=some x):l.take (i + 1)=l.take i ++ [x]:=by rw [List.take_add_one,h];rfl
theorem key2_eq {i i' c c':Nat}:([Sum.inl (i:Int),keyS [c]]:List Key)=[Sum.inl (i':Int),keyS [c']]↔i=i'∧c=c':=by
 constructor
 ·intro h
  injection h with h1 h2
  injection h2 with h2 _
  have h3:(i:Int)=i':=Sum.inl.inj h1
  have h4:[c]=[c']:=S_inj (Sum.inr.inj h2)
  exact ⟨by omega,by simpa using h4⟩
 ·rintro ⟨rfl,rfl⟩;rfl
theorem rt_get {ra:List Addr} {i:Nat} {x:V} (h:(ra.map V.ref)[i]?=some x):∃ a,ra[i]?=some a∧x=.ref a:=by
 rw [List.getElem?_map] at h
 obtain ⟨a,h1,h2⟩:=Option.map_eq_some_iff.mp h
 exact ⟨a,h1,h2.symm⟩
theorem ok_mach {f C:Addr} {fd:FuncData} (F:Fun K "__init__" "Machine.__init__" s_Machine_init f fd) (T:MachineCls K C) (n_enumerate:mg "enumerate"=none) (D_least_table:Def P w K mg base "least_table" 4 ["texts"] (spTable K)):FnOk P w K mg base CX0 5 f fd ["self","texts"] (spMach K C):=by
 refine F.qok sc_Machine_init (fun vs H Q E h=>?_) (fun cdv A outer s H vs Q E hr h=>?_)
 ·obtain ⟨m,dx,p,ts,rfl,_⟩:=h
  rfl
 ·obtain ⟨m,dx,p,ts,rfl,hm,hp,hl,ht,q⟩:=h
  have hu:=hu_of hr
  refine ⟨_,(qss_cons (qs_set (i:=2) sc_Machine_init.nd rfl (Or.inl rfl) (qe_own D_least_table (hr.mono (by decide)) rfl (qa_cons (qv 1) qa_nil))) (qss_cons (qs_fld (qv 0) (qv 2) rfl) (qss_cons (qs_fld (qv 0) qe_dnewT rfl) (qss_cons (qs_fld (qv 0) qe_dnewK rfl) (qss_one (qs_for PassesOwn.never rfl (qi_enumT (by rfl) n_enumerate (qa_cons (qv 2) qa_nil)) (qg_tup rfl (qgs_cons (qg_name (i:=3) sc_Machine_init.nd rfl (Or.inl rfl)) (qgs_cons (qg_name (i:=4) sc_Machine_init.nd rfl (Or.inl rfl)) qgs_nil))) (qss_cons (qs_cut (qs_if (qt_val (qe_ix ix_tup (qv 4) qe_int (fun _ _=>rfl))) (qss_one (qs_dput hu (qe_fld (qv 0) rfl) (qv 3) qe_bl rfl)) qss_nil)) (qss_one (qs_for PassesOwn.never rfl (qi_tup (qe_ix ix_tup (qv 4) qe_int (fun _ _=>rfl))) (qg_tup rfl (qgs_cons (qg_name (i:=5) sc_Machine_init.nd rfl (Or.inl rfl)) (qgs_cons (qg_name (i:=6) sc_Machine_init.nd rfl (Or.inl rfl)) qgs_nil))) (qss_one (qs_dput hu (qe_fld (qv 0) rfl) (qe_tup (qa_cons (qv 3) (qa_cons (qv 5) qa_nil))) (qv 6) rfl))))))))))),?_⟩
  refine ⟨_,rfl,p,ts,rfl,hp,hl,ht,fun s0 n r ra H1 s1 tb hr1 rt=>?_⟩
  have hm1:=s1 _ _ hm
  have nrm:r≠m:=ne_of hr1 hm1 fun z=>(nomatch z)
  refine ⟨_,rfl,_,rfl,m,C,dx,[],rfl,hm1,T.cl,T.nr,(by show 0 < 1000;decide),?_⟩
  have hm2:upd H1 m (.ins C dx (putF "rows" (.ref r) [])) m=some (.ins C dx [("rows",.ref r)]):=upd_same
  have kp2:∀ b o,H1 b=some o→b≠m→upd H1 m (.ins C dx (putF "rows" (.ref r) [])) b=some o:=fun b o e hb=>by rw [upd_ne hb];exact e
  generalize upd H1 m (.ins C dx (putF "rows" (.ref r) []))=H2 at hm2 kp2 ⊢
  intro d hd
  have nmd:m≠d:=ne_of_none hm2 hd
  refine ⟨_,rfl,m,C,dx,[("rows",.ref r)],rfl,by rw [upd_ne nmd];exact hm2,T.cl,T.ns,(by show 1 < 1000;decide),?_⟩
  have hm3:upd (upd H2 d (.dT [])) m (.ins C dx (putF "steps" (.ref d) [("rows",.ref r)])) m=some (.ins C dx [("rows",.ref r),("steps",.ref d)]):=upd_same
  have hd3:upd (upd H2 d (.dT [])) m (.ins C dx (putF "steps" (.ref d) [("rows",.ref r)])) d=some (.dT []):=by rw [upd_ne nmd.symm];exact upd_same
  have kp3:∀ b o,H2 b=some o→b≠m→upd (upd H2 d (.dT [])) m (.ins C dx (putF "steps" (.ref d) [("rows",.ref r)])) b=some o:=fun b o e hb=>by rw [upd_ne hb,upd_ne (ne_of_none e hd)];exact e
  generalize upd (upd H2 d (.dT [])) m (.ins C dx (putF "steps" (.ref d) [("rows",.ref r)]))=H3 at hm3 hd3 kp3 ⊢
  intro e he
  have nme:m≠e:=ne_of_none hm3 he
  have nde:d≠e:=ne_of_none hd3 he
  refine ⟨_,rfl,m,C,dx,[("rows",.ref r),("steps",.ref d)],rfl,by rw [upd_ne nme];exact hm3,T.cl,T.ne,(by show 2 < 1000;decide),?_⟩
  have hm4:upd (upd H3 e (.dK [])) m (.ins C dx (putF "end_states" (.ref e) [("rows",.ref r),("steps",.ref d)])) m=some (.ins C dx [("rows",.ref r),("steps",.ref d),("end_states",.ref e)]):=upd_same
  have he4:upd (upd H3 e (.dK [])) m (.ins C dx (putF "end_states" (.ref e) [("rows",.ref r),("steps",.ref d)])) e=some (.dK []):=by rw [upd_ne nme.symm];exact upd_same
  have hd4:upd (upd H3 e (.dK [])) m (.ins C dx (putF "end_states" (.ref e) [("rows",.ref r),("steps",.ref d)])) d=some (.dT []):=by rw [upd_ne nmd.symm,upd_ne nde];exact hd3
  have kp4:∀ b o,H3 b=some o→b≠m→upd (upd H3 e (.dK [])) m (.ins C dx (putF "end_states" (.ref e) [("rows",.ref r),("steps",.ref d)])) b=some o:=fun b o z hb=>by rw [upd_ne hb,upd_ne (ne_of_none z he)];exact z
  generalize upd (upd H3 e (.dK [])) m (.ins C dx (putF "end_states" (.ref e) [("rows",.ref r),("steps",.ref d)]))=H4 at hm4 he4 hd4 kp4 ⊢
  have kp:∀ b o,H1 b=some o→b≠m→H4 b=some o:=fun b o z hb=>kp4 b o (kp3 b o (kp2 b o z hb) hb) hb
  have kt:Kt H1 H4:=fun b xs z=>kp b _ z fun y=>by rw [y,hm1] at z;cases z
  have fH:∀ b,b≠m→H2 b=none→H b=none:=fun b hb z=>by
   cases y:H b with
   | none=>rfl
   | some o=>rw [kp2 b o (s1 _ _ y) hb] at z;cases z
  have fd:H d=none:=fH d nmd.symm hd
  have fe:H e=none:=by
   cases y:H e with
   | none=>rfl
   | some o=>rw [kp3 e o (kp2 e o (s1 _ _ y) nme.symm) nme.symm] at he;cases he
  have M0:MI C H m dx r d e ra (Tb s0 n).2 H4:=⟨fun b o z hb=>kp b o (s1 _ _ z) hb,hm4,kp r _ hr1 nrm,rt.mv kt⟩
  refine ⟨_,rfl,r,rfl,⟨_,SqT.of M0.hr⟩,?_⟩
  have few:=tb.few
  have wide:=tb.wide
  have hrl:ra.length=n:=by rw [rt.len,Tb_len]
  have knd:∀ (i:Nat) (st:Sta) (rw':Rw),(Tb s0 n).1[i]?=some st→(Tb s0 n).2[i]?=some rw'→(rw'.2.map (·.1)).Nodup:=fun i st rw' h1 h2=>by rw [(tb.ok.row i st rw' h1 h2).keys];exact grp_nd st
  have hss:(Tb s0 n).1.length=(Tb s0 n).2.length:=by rw [Tb_len,tb.all]
  have qq:=q s0 n
  have qM:∀ H',(∀ b o,H b=some o→b≠m→H' b=some o)→MachE C H' m e (Tb s0 n).2→Q .non H':=fun H' z y=>q s0 n e H' z tb fe y
  clear qq q tb
  have hall:(Tb s0 n).2.length=n:=Tb_len s0 n
  generalize (Tb s0 n).2=rws at M0 wide knd hss qM hall rt
  refine for_enumT (K:=K) (a:=r) (xs:=ra.map V.ref) (fun i σ H5=>(∃ v3 v4 v5 v6,σ=[some (.ref m),some (.ref p),some (.ref r),v3,v4,v5,v6])∧MI C H m dx r d e ra rws H5∧StepsAt H5 d (i * 700) (rws.take i)∧EndsAt H5 e i (rws.take i))
   ⟨⟨_,_,_,_,rfl⟩,M0,⟨[],hd4,Nat.zero_le _,fun i c=>by rw [List.take_zero];rfl⟩,⟨[],he4,Nat.zero_le _,fun i=>by rw [List.take_zero];rfl⟩⟩ (fun i σ H5 _ h=>SqT.of h.2.1.hr) ?_ ?_
  ·rintro i x σ H5 tt hx ⟨⟨v3,v4,v5,v6,rfl⟩,M5,S5,E5⟩ hT
   obtain ⟨ar,har,rfl⟩:=rt_get hx
   have hir:i < ra.length:=(List.getElem?_eq_some_iff.mp har).1
   obtain ⟨rw',hrw⟩:∃ rw',rws[i]?=some rw':=⟨_,List.getElem?_eq_getElem (by omega)⟩
   obtain ⟨st,hst⟩:∃ st,(Tb s0 n).1[i]?=some st:=⟨_,List.getElem?_eq_getElem (by omega)⟩
   have nd':=knd i st rw' hst hrw
   have wd':=wide rw' (List.mem_of_getElem? hrw)
   have htk:(rws.take i).length=i:=by rw [List.length_take];omega
   have etk:=take_snoc hrw
   have kT:Same H5 (upd H5 tt (.tup [.int i,.ref ar])):=Same.upd hT
   have M6:=M5.new (o:=.tup [.int i,.ref ar]) hT
   have S6:=S5.mv kT
   have E6:=E5.mv kT
   refine ⟨tt,_,rfl,SqT.of upd_same,rfl,_,_,rfl,_,_,rfl,rfl,?_⟩
   generalize upd H5 tt (.tup [.int i,.ref ar])=H6 at M6 S6 E6 ⊢
   obtain ⟨pa,pas,h1,h2,qt⟩:=M6.rt.at_ i ar rw' har hrw
   refine ⟨fun σ H7=>σ=[some (.ref m),some (.ref p),some (.ref r),some (.int i),some (.ref ar),v5,v6]∧Kt H6 H7∧MI C H m dx r d e ra rws H7∧StepsAt H7 d (i * 700) (rws.take i)∧EndsAt H7 e (i + 1) (rws.take (i + 1)),?_,?_⟩
   ·refine ⟨_,rfl,ar,_,0,_,rfl,rfl,SqT.of h1,atI_nat (j:=0) rfl,_,rfl,?_⟩
    obtain ⟨kvs,hk1,hk2,hk3⟩:=E6
    cases hb:rw'.1 with
    | false=>
     refine iteF ⟨rfl,Kt.refl _,M6,S6,kvs,hk1,by omega,fun j=>?_⟩
     rw [etk,endB_snoc,htk,hb]
     by_cases z:j=i
     ·rw [if_pos z,hk3,z]
      have:endB (rws.take i) i=false:=by unfold endB;rw [List.getElem?_eq_none (by omega)]
      rw [this]
     ·rw [if_neg z];exact hk3 j
    | true=>
     refine iteT ?_
     refine ⟨_,rfl,m,C,dx,_,_,rfl,M6.ob,T.cl,T.ne,rfl,_,rfl,e,_,rfl,DPut.k (k:=Sum.inl (i:Int)) hk1 (Nat.lt_of_lt_of_le (show kvs.length < 14702 by omega) (by decide)),?_⟩
     have k1:Kt H6 (upd H6 e (.dK (putK kvs (Sum.inl (i:Int)) (.bl true)))):=(Kt.refl _).upd fun xs z=>by rw [hk1] at z;cases z
     refine ⟨rfl,k1,M6.upd fe nme (fun xs z=>by rw [hk1] at z;cases z),?_,putK kvs (Sum.inl (i:Int)) (.bl true),upd_same,Nat.le_trans (length_putK _ _ _) (by omega),fun j=>?_⟩
     ·obtain ⟨kd,hd1,hd2⟩:=S6
      exact ⟨kd,by rw [upd_ne nde];exact hd1,hd2⟩
     ·rw [valV_put,etk,endB_snoc,htk,hb]
      by_cases z:j=i
      ·rw [if_pos (by rw [z]),if_pos z];rfl
      ·rw [if_neg (fun y=>z (by have:=Sum.inl.inj y;omega)),if_neg z];exact hk3 j
   ·rintro σ' H7 ⟨rfl,k7,M7,S7,E7⟩
    refine ⟨_,rfl,ar,_,1,_,rfl,rfl,SqT.of (k7 _ _ h1),atI_nat (j:=1) rfl,pa,rfl,⟨_,SqT.of (k7 _ _ h2)⟩,for_tup (K:=K) (a:=pa) (xs:=pas.map V.ref) (fun j σ H8=>(∃ v5 v6,σ=[some (.ref m),some (.ref p),some (.ref r),some (.int i),some (.ref ar),v5,v6])∧Kt H7 H8∧MI C H m dx r d e ra rws H8∧StepsAt H8 d (i * 700 + j) (rws.take i ++ [(rw'.1,rw'.2.take j)])∧EndsAt H8 e (i + 1) (rws.take (i + 1)))
     ⟨⟨_,_,rfl⟩,Kt.refl _,M7,?_,E7⟩ (fun j σ H8 _ h=>SqT.of (h.2.1 _ _ (k7 _ _ h2))) ?_ ?_⟩
    ·obtain ⟨kd,hd1,hd2,hd3⟩:=S7
     exact ⟨kd,hd1,hd2,fun i' c=>by rw [List.take_zero,flw_new];exact hd3 i' c⟩
    ·rintro j y σ H8 hy ⟨⟨u5,u6,rfl⟩,k8,M8,S8,E8⟩
     obtain ⟨aq,haq,rfl⟩:=rt_get hy
     have hjq:j < pas.length:=(List.getElem?_eq_some_iff.mp haq).1
     have hlen:=qt.len
     obtain ⟨qv',hq'⟩:∃ q',rw'.2[j]?=some q':=⟨_,List.getElem?_eq_getElem (by omega)⟩
     have hq8:=k8 _ _ (k7 _ _ (qt.at_ j aq qv' haq hq'))
     have eq8:=take_snoc hq'
     have nin:qv'.1∉(rw'.2.take j).map (·.1):=fun z=>by
      have e1:(rw'.2.map (·.1))[j]?=some qv'.1:=by rw [List.getElem?_map,hq'];rfl
      rw [List.map_take] at z
      have e2:qv'.1∈(rw'.2.map (·.1)).drop j:=List.mem_of_getElem? (i:=0) (by rw [List.getElem?_drop];exact e1)
      have nd2:((rw'.2.map (·.1)).take j ++ (rw'.2.map (·.1)).drop j).Nodup:=by rw [List.take_append_drop];exact nd'
      exact (List.nodup_append.mp nd2).2.2 _ z _ e2 rfl
     refine ⟨aq,_,rfl,SqT.of hq8,rfl,_,_,rfl,_,_,rfl,rfl,?_⟩
     obtain ⟨kd,hd1,hd2,hd3⟩:=S8
     refine ⟨_,rfl,_,rfl,m,C,dx,_,_,rfl,M8.ob,T.cl,T.ns,rfl,_,rfl,_,rfl,by show 2≤sizeLine;decide,fun kt' hkt=>?_⟩
     have kK:Same H8 (upd H8 kt' (.tup [.int i,.str (S [qv'.1])])):=Same.upd hkt
     have eK:upd H8 kt' (.tup [.int i,.str (S [qv'.1])]) kt'=some (.tup (([Sum.inl (i:Int),keyS [qv'.1]]:List Key).map kV)):=upd_same
     have M9:=M8.new (o:=.tup [.int i,.str (S [qv'.1])]) hkt
     have hd9:=kK _ _ hd1
     have E9:=E8.mv kK
     have k9:=k8.trans (Kt.of kK)
     refine ⟨d,_,rfl,DPut.t (k:=[Sum.inl (i:Int),keyS [qv'.1]]) hd9 eK (Nat.lt_of_lt_of_le (show kd.length < 14701 * 700 + 700 + 1 by omega) (by decide)),?_⟩
     have nt:∀ xs,upd H8 kt' (.tup [.int i,.str (S [qv'.1])]) d≠some (.tup xs):=fun xs z=>by rw [hd9] at z;cases z
     refine ⟨⟨_,_,rfl⟩,k9.upd nt,M9.upd fd nmd nt,⟨_,upd_same,Nat.le_trans (length_putK _ _ _) (by omega),fun i' c=>?_⟩,?_⟩
     ·rw [valV_put,eq8,flw_put _ _ _ _ _ _ _ nin,htk]
      by_cases z:i'=i∧c=qv'.1
      ·rw [if_pos (key2_eq.mpr z),if_pos z];rfl
      ·rw [if_neg fun y=>z (key2_eq.mp y),if_neg z];exact hd3 i' c
     ·obtain ⟨ke,h1,h2⟩:=E9
      exact ⟨ke,by rw [upd_ne nde.symm];exact h1,h2⟩
    ·rintro σ H8 ⟨⟨u5,u6,rfl⟩,k8,M8,S8,E8⟩
     have hlen:=qt.len
     rw [List.length_map,hlen,List.take_length] at S8
     refine ⟨⟨_,_,_,_,rfl⟩,M8,?_,E8⟩
     obtain ⟨kd,hd1,hd2,hd3⟩:=S8
     rw [etk]
     exact ⟨kd,hd1,by omega,hd3⟩
  ·rintro σ H5 ⟨⟨v3,v4,v5,v6,rfl⟩,M5,S5,E5⟩
   rw [List.length_map,hrl,← hall,List.take_length] at S5 E5
   exact qM H5 M5.kp ⟨dx,r,d,M5.ob,⟨ra,M5.hr,M5.rt⟩,⟨_,S5⟩,_,E5⟩
end
end My
end
section
set_option Elab.async false
set_option linter.all false
set_option maxRecDepth 100000
set_option maxHeartbeats 2000000
namespace My
open PySem L2
section
variable {P:Program} {w:World} {K:PySem.W.Frag} {mg:Str→Option Value} {base:Heap}
def TabAt (H:Hp) (r:Addr) (rws:List Rw):Prop:=∃ ra,H r=some (.tup (ra.map .ref))∧RT H ra rws
theorem TabAt.mv {H H':Hp} {r:Addr} {rws:List Rw} (h:TabAt H r rws) (k:Kt H H'):TabAt H' r rws:=by
 obtain ⟨ra,h1,h2⟩:=h
 exact ⟨ra,k _ _ h1,h2.mv k⟩
def bts (ws:List (List Nat)):List (List Nat):=ws.flatMap fun w=>(List.range w.length).map fun i=>tb w (i + 1)
theorem bts_mem {ws:List (List Nat)} {t:List Nat}:t∈bts ws↔∃ w∈ws,∃ i,i < w.length∧t=tb w (i + 1):=by
 unfold bts
 rw [List.mem_flatMap]
 constructor
 ·rintro ⟨w,hw,h⟩
  obtain ⟨i,hi,e⟩:=List.mem_map.mp h
  exact ⟨w,hw,i,List.mem_range.mp hi,e.symm⟩
 ·rintro ⟨w,hw,i,hi,e⟩
  exact ⟨w,hw,List.mem_map.mpr ⟨i,List.mem_range.mpr hi,e.symm⟩⟩
theorem bts_snoc (ws:List (List Nat)) (w:List Nat):bts (ws ++ [w])=bts ws ++ (List.range w.length).map fun i=>tb w (i + 1):=by
 unfold bts
 rw [List.flatMap_append];simp
theorem tb_pos {l:List Nat} {m k:Nat} (hm:m≤l.length) (hl:∀ c∈l,isLet c) (h:(tb l m)[k]?=some 43):k=m:=by
 have e:(l.take m).reverse.length=m:=by rw [List.length_reverse,List.length_take];omega
 unfold tb at h
 rcases Nat.lt_trichotomy k m with z | z | z
 ·rw [List.append_assoc,List.getElem?_append_left (by omega)] at h
  have:=(hl 43 (List.mem_of_mem_take (List.mem_reverse.mp (List.mem_of_getElem? h)))).1
  omega
 ·exact z
 ·rw [List.getElem?_append_right (by simp;omega)] at h
  have:=(hl 43 (List.mem_of_mem_drop (List.mem_of_getElem? h))).1
  omega
theorem bts_small {ws:List (List Nat)} (hws:∀ x∈ws,Word x):(bts ws).length≤ws.length * 9∧∀ t∈bts ws,t.length≤10∧∀ c∈t,c < 128:=by
 constructor
 ·induction ws with
  | nil=>simp [bts]
  | cons w ws ih=>
   have h1:=ih fun x hx=>hws x (List.mem_cons_of_mem _ hx)
   have h2:=(hws w List.mem_cons_self).hi
   unfold bts at h1 ⊢
   rw [List.flatMap_cons,List.length_append,List.length_map,List.length_range,List.length_cons]
   omega
 ·intro t ht
  obtain ⟨w,hw,i,hi,rfl⟩:=bts_mem.mp ht
  have W:=hws w hw
  have h2:=W.hi
  refine ⟨by rw [tb_len];omega,fun c hc=>?_⟩
  unfold tb at hc
  rcases List.mem_append.mp hc with y | y
  ·rcases List.mem_append.mp y with y | y
   ·have:=(W.az c (List.mem_of_mem_take (List.mem_reverse.mp y))).2;omega
   ·rw [List.mem_singleton.mp y];decide
  ·have:=(W.az c (List.mem_of_mem_drop y)).2;omega
def spTab (C:Addr):Sp:=fun vs H Q _=>∃ (m:Addr) (rws:List Rw),vs=[.ref m]∧MachAt C H m rws∧∀ r,TabAt H r rws→Q (.ref r) H
theorem ok_table {f C:Addr} {fd:FuncData} (F:Fun K "table" "Machine.table" s_Machine_table f fd) (T:MachineCls K C):FnOk P w K mg base CX0 1 f fd ["self"] (spTab C):=by
 refine F.qok sc_Machine_table (fun vs H Q E h=>?_) (fun cdv A outer s H vs Q E hr h=>?_)
 ·obtain ⟨m,rws,rfl,_⟩:=h
  rfl
 ·obtain ⟨m,rws,rfl,M,q⟩:=h
  obtain ⟨dx,r,d,e,h1,h2,_⟩:=M
  refine ⟨_,(qss_one (qs_ret (qe_fld (qv 0) rfl))),?_⟩
  exact ⟨_,rfl,m,C,dx,_,_,rfl,h1,T.cl,T.nr,rfl,q r h2⟩
def WordL (ls w:List Nat):Prop:=Word w∧∀ c∈w,c∈ls
def spBk (K:PySem.W.Frag):Sp:=fun vs H Q _=>∃ (a:Addr) (ns:List Int) (b m:Nat) (ls:List Nat),vs=[.ref a,.int b,.int m,.str (S ls)]∧SqL K H a (ns.map V.int)∧ns.length≤100∧b≤100∧m≤61∧Alph ls∧
 ∀ (p:Addr) (ws:List (List Nat)) (H':Hp),Same H H'→H p=none→H' p=some (.lst (Ts ws))→ws.Nodup→(∀ w∈ws,WordL ls w)→ws.length≤m→Q (.ref p) H'
theorem ok_book (D:DefAt K mg "_law_book" s_book ["_law_script","_law_start","_law_most","_law_letters_here"]) (D_rows_of:Def P w K mg base "_law_rows_of" 4 ["_law_script","_law_start","_law_most"] (spRows K)) (D_word_of:Def P w K mg base "_law_word_of" 1 ["_law_row","_law_letters_here"] (spWordOf K)):Def P w K mg base "_law_book" 5 ["_law_script","_law_start","_law_most","_law_letters_here"] (spBk K):=by
 refine D.qok sc_book (fun vs H Q E h=>?_) (fun f cdv A outer s H vs Q E hr h=>?_)
 ·obtain ⟨a,ns,b,m,ls,rfl,_⟩:=h
  rfl
 ·obtain ⟨a,ns,b,m,ls,rfl,hS,hn,hb,hm,hA,q⟩:=h
  refine ⟨_,(qss_cons (qs_set (i:=4) sc_book.nd rfl (Or.inl rfl) (qe_lst qa_nil)) (qss_cons (qs_for PassesOwn.never rfl (qi_list (qe_own D_rows_of (hr.mono (by decide)) rfl (qa_cons (qv 0) (qa_cons (qv 1) (qa_cons (qv 2) qa_nil))))) (qg_name (i:=5) sc_book.nd rfl (Or.inl rfl)) (qss_cons (qs_set (i:=6) sc_book.nd rfl (Or.inl rfl) (qe_own D_word_of (hr.mono (by decide)) rfl (qa_cons (qv 5) (qa_cons (qv 3) qa_nil)))) (qss_one (qs_if (qt_cmpR op_notIn_seq (qv 6) (qv 4) rfl) (qss_one (qs_expr (qe_bm PySem.F.plainAttrs_list PySem.F.slot_list_append PySem.F.type_list_append mt_append (qv 4) (qa_cons (qv 6) qa_nil)))) qss_nil)))) (qss_one (qs_ret (qv 4))))),?_⟩
  refine ⟨by show 0≤sizeLine;decide,fun L hL=>?_⟩
  have s1:Same H (upd H L (HO.lst [])):=Same.upd hL
  have eL:upd H L (HO.lst []) L=some (.lst (Ts [])):=upd_same
  generalize upd H L (HO.lst [])=H1 at s1 eL ⊢
  refine ⟨_,rfl,_,rfl,_,rfl,a,ns,b,m,rfl,s1.seq hS,hn,hb,hm,fun p rs H2 s2 np hp hrl hrs=>?_⟩
  have s02:=s1.trans s2
  have eL2:=s2 _ _ eL
  refine ⟨p,rfl,⟨_,SqL.of hp⟩,for_list (K:=K) (a:=p) (xs:=rs.map V.ref) (fun i σ H3=>∃ (v5 v6:Option V) (ws:List (List Nat)),σ=[some (.ref a),some (.int b),some (.int m),some (.str (S ls)),some (.ref L),v5,v6]∧(∀ c o,H2 c=some o→c≠L→H3 c=some o)∧H3 L=some (.lst (Ts ws))∧ws.Nodup∧(∀ w∈ws,WordL ls w)∧ws.length≤i)
   ⟨none,none,[],rfl,fun c o e _=>e,eL2,List.nodup_nil,fun w h=>by simp at h,Nat.le_refl _⟩ (fun i σ H3 _ ⟨_,_,_,_,k,_⟩=>SqL.of (k _ _ hp (ne_of_none eL np).symm)) ?_ ?_⟩
  ·rintro i y σ H3 hi ⟨v5,v6,ws,rfl,kp,hL3,hnd,hwd,hl⟩
   rw [List.getElem?_map] at hi
   obtain ⟨r,hr2,e⟩:=Option.map_eq_some_iff.mp hi
   subst e
   obtain ⟨ds,hds,d11,dlt⟩:=hrs r (List.mem_of_getElem? hr2)
   have hil:i < rs.length:=(List.getElem?_eq_some_iff.mp hr2).1
   have nrL:r≠L:=fun z=>by
    rw [z,eL2] at hds
    have:(ds.map V.int).length=0:=by injection hds with hds;injection hds with hds;rw [← hds];rfl
    rw [List.length_map] at this;omega
   refine ⟨_,rfl,_,rfl,r,ds,ls,rfl,SqL.of (kp _ _ hds nrL),⟨by omega,by omega,fun d hd=>by have:=dlt d hd;omega⟩,hA,fun wd H4 s4 hw0 hwl=>?_⟩
   have hw:WordL ls wd:=⟨hw0,hwl⟩
   have hL4:=s4 _ _ hL3
   refine ⟨_,rfl,_,rfl,L,Ts ws,rfl,.inl (SqL.of hL4),rfl,flat_ts ws,_,rfl,?_⟩
   rw [inV_ts]
   by_cases hm2:wd∈ws
   ·rw [decide_eq_true hm2]
    exact iteF ⟨_,_,ws,rfl,fun c o e hc=>s4 _ _ (kp c o e hc),hL4,hnd,hwd,by omega⟩
   ·rw [decide_eq_false hm2]
    refine iteT ⟨_,rfl,.inl ⟨rfl,_,SqL.of hL4⟩,_,rfl,L,_,_,rfl,rfl,hL4,by rw [List.length_map];exact small1000 (by omega),?_⟩
    refine ⟨_,_,ws ++ [wd],rfl,fun c o e hc=>by rw [upd_ne hc];exact s4 _ _ (kp c o e hc),by rw [upd_same];simp [Ts],nd_snoc hnd hm2,fun x hx=>?_,by simp;omega⟩
    rcases List.mem_append.mp hx with z | z
    ·exact hwd x z
    ·rw [List.mem_singleton.mp z];exact hw
  ·rintro σ H3 ⟨v5,v6,ws,rfl,kp,hL3,hnd,hwd,hl⟩
   rw [List.length_map] at hl
   exact ⟨_,rfl,q L ws H3 (fun c o e=>kp c o (s02 _ _ e) (ne_of_none e hL)) hL hL3 hnd hwd (by omega)⟩
structure Txt (l:List Nat):Prop where
 short:l.length≤13
 asc:∀ c∈l,c < 128
def spPlain (K:PySem.W.Frag):Sp:=fun vs H Q _=>∃ (p:Addr) (ds:List Int) (ls:List Nat),vs=[.ref p,.str (S ls)]∧SqL K H p (ds.map V.int)∧ds.length=11∧(∀ d∈ds,0≤d)∧Alph ls∧
 ∀ (l:List Nat) (H':Hp),Same H H'→Txt l→(∀ c∈l,c∈ls ++ [43])→Q (.str (S l)) H'
theorem cutV_to (xs:List V) (m:Nat):cutV xs none (some (m:Int))=xs.take m:=by
 unfold cutV
 rw [HT.sIx_nat,HT.sIx_none]
 simp [List.take_eq_take_iff]
theorem cutV_len (xs:List V) (lo hi:Option Int):(cutV xs lo hi).length≤xs.length:=by unfold cutV;rw [List.length_take,List.length_drop];omega
theorem mod_nat {i:Int} {m:Nat} (h:0 < m):∃ j:Nat,i % (m:Int)=(j:Int)∧j < m:=by
 have h1:0≤i % (m:Int):=Int.emod_nonneg _ (by omega)
 have h2:i % (m:Int) < m:=Int.emod_lt_of_pos _ (by omega)
 exact ⟨(i % (m:Int)).toNat,by omega,by omega⟩
theorem ok_plain (D:DefAt K mg "_law_plain" s_plain ["_law_row","_law_letters_here"]) (n_len:mg "len"=none):Def P w K mg base "_law_plain" 1 ["_law_row","_law_letters_here"] (spPlain K):=by
 refine D.qok sc_plain (fun vs H Q E h=>?_) (fun f cdv A outer s H vs Q E hr h=>?_)
 ·obtain ⟨p,ds,ls,rfl,_⟩:=h
  rfl
 ·obtain ⟨p,ds,ls,rfl,hS,h11,hnn,hA,q⟩:=h
  refine ⟨_,(qss_cons (qs_set (i:=2) sc_plain.nd rfl (Or.inr rfl) (qe_op op_addS (qv 1) (qe_strS [43] (by decide +kernel)))) (qss_one (qs_ret (qe_bm PySem.F.plainAttrs_str PySem.F.slot_str_join PySem.F.type_str_join mt_join (qe_strS [] (by decide +kernel)) (qa_cons (qe_slice sl_list (qe_comp rfl (CompOk.of sc_plain.nd (by kernel_rfl)) (qi_list (qe_op op_cat (qe_slice sl_list (qv 0) (qo_some qe_int) qo_none) (qe_slice sl_list (qv 0) qo_none (qo_some qe_int)))) (fun _ _ _ _ _=>qts_nil) (fun _ _ _ _ _=>(qe_ix ix_S (qv 3) (qe_op op_mod (qe_op op_fdiv (qv 0) qe_int) (qe_callB call_lenS (by rfl) n_len PySem.boot_len (qa_cons (qv 3) qa_nil))) (fun _ _=>rfl)))) qo_none (qo_some (qe_op op_mod (qe_ix ix_list (qv 0) qe_int (fun _ _=>rfl)) qe_int))) qa_nil))))),?_⟩
  have hz:ls.length + 1≤sizeLine:=Nat.le_of_lt (small1000 (by have:=hA.hi;omega))
  refine ⟨_,rfl,_,_,rfl,rfl,hz,?_⟩
  refine ⟨rfl,_,rfl,_,rfl,p,_,rfl,hS,fun u1 hu1=>?_⟩
  have k1:=Same.upd (o:=.lst (cutV (ds.map V.int) (some 1) none)) hu1
  refine ⟨_,rfl,_,rfl,p,_,rfl,k1.seq hS,fun u2 hu2=>?_⟩
  have e1:upd (upd H u1 (.lst (cutV (ds.map V.int) (some 1) none))) u2 (.lst (cutV (ds.map V.int) none (some 1))) u1=some (.lst (cutV (ds.map V.int) (some 1) none)):=by rw [upd_ne (ne_of_none upd_same hu2)];exact upd_same
  have e2:upd (upd H u1 (.lst (cutV (ds.map V.int) (some 1) none))) u2 (.lst (cutV (ds.map V.int) none (some 1))) u2=some (.lst (cutV (ds.map V.int) none (some 1))):=upd_same
  have k2:Same H (upd (upd H u1 (.lst (cutV (ds.map V.int) (some 1) none))) u2 (.lst (cutV (ds.map V.int) none (some 1)))):=k1.upd' (k1.free hu2)
  generalize upd (upd H u1 (.lst (cutV (ds.map V.int) (some 1) none))) u2 (.lst (cutV (ds.map V.int) none (some 1)))=H1 at e1 e2 k2 ⊢
  have hxm:∀ v∈cutV (ds.map V.int) (some 1) none ++ cutV (ds.map V.int) none (some 1),∃ d:Int,v=.int d∧0≤d:=fun v hv=>by
   rcases List.mem_append.mp hv with y | y
   ·obtain ⟨d,hd,e⟩:=ints_mem y
    exact ⟨d,e,hnn d hd⟩
   ·obtain ⟨d,hd,e⟩:=ints_mem y
    exact ⟨d,e,hnn d hd⟩
  have l1:=cutV_len (ds.map V.int) (some 1) none
  have l2:=cutV_len (ds.map V.int) none (some 1)
  have hxl:(cutV (ds.map V.int) (some 1) none ++ cutV (ds.map V.int) none (some 1)).length≤22:=by
   rw [List.length_append]
   rw [List.length_map] at l1 l2
   omega
  refine ⟨u1,u2,_,_,rfl,rfl,e1,e2,Nat.le_of_lt (small1000 (by rw [List.length_append] at hxl;omega)),fun u hu=>?_⟩
  generalize cutV (ds.map V.int) (some 1) none ++ cutV (ds.map V.int) none (some 1)=xs at hxm hxl ⊢
  have sU:=k2.upd' (o:=.lst xs) (k2.free hu)
  have lsg:(ls ++ [43]).length≤sizeLine:=by rw [List.length_append];exact hz
  refine ⟨u,rfl,⟨_,SqL.of upd_same⟩,fun L hL=>comp_list (K:=K) (a:=u) (xs:=xs) (fun i ys H2=>∃ cs:List Nat,ys=Ts (cs.map fun c=>[c])∧cs.length=i∧(∀ c∈cs,c∈ls ++ [43])∧H2 L=some (.lst ys)∧H2 u=some (.lst xs)∧Same H H2)
   ⟨[],rfl,rfl,fun c hc=>by simp at hc,upd_same,by rw [upd_ne (ne_of_none upd_same hL)];exact upd_same,sU.upd' (sU.free hL)⟩ (fun i ys H2 _ ⟨_,_,_,_,_,h2,_⟩=>SqL.of h2) ?_ ?_⟩
  ·rintro i y ys H2 hi ⟨cs,rfl,hcl,hcm,hL2,hu2,sm2⟩
   have hil:i < xs.length:=(List.getElem?_eq_some_iff.mp hi).1
   obtain ⟨d,rfl,hd0⟩:=hxm y (List.mem_of_getElem? hi)
   obtain ⟨j,hj1,hj2⟩:=mod_nat (i:=d / 19) (m:=(ls ++ [43]).length) (by simp)
   refine ⟨_,rfl,_,rfl,_,_,rfl,rfl,⟨by decide,by decide⟩,_,rfl,ls ++ [43],rfl,lsg,_,_,rfl,rfl,(by show (0:Int) < ((ls ++ [43]).length:Nat);simp),ls ++ [43],_,(ls ++ [43])[j],rfl,rfl,lsg,by rw [hj1];exact atI_nat (by simp [hj2]),hL2,?_,?_⟩
   ·show (Ts (cs.map fun c=>[c])).length < sizeLine
    rw [List.length_map,List.length_map]
    exact small1000 (by omega)
   ·refine Nxt.mk hil ⟨cs ++ [(ls ++ [43])[j]],by simp [Ts],by simp [hcl],fun c hc=>?_,upd_same,?_,fun b o e=>?_⟩
    ·rcases List.mem_append.mp hc with e | e
     ·exact hcm c e
     ·rw [List.mem_singleton.mp e];exact List.getElem_mem _
    ·rw [upd_ne (ne_of_none upd_same hL)];exact hu2
    ·rw [upd_ne (ne_of_none (sU b o e) hL)];exact sm2 b o e
  ·rintro ys H2 ⟨cs,rfl,hcl,hcm,hL2,hu2,sm2⟩
   have hl0:0 < ds.length:=by omega
   have at0:atI (ds.map V.int) 0=some (.int ds[0]):=atI_nat (j:=0) (by simp [hl0])
   obtain ⟨j,hj1,hj2⟩:∃ j:Nat,ds[0] % 12=(j:Int)∧j < 12:=mod_nat (i:=ds[0]) (m:=12) (by decide)
   refine ⟨_,rfl,p,_,0,_,rfl,rfl,sm2.seq hS,at0,_,_,rfl,rfl,(by show (0:Int) < 12;decide),_,rfl,L,_,rfl,SqL.of hL2,fun t ht=>?_⟩
   rw [hj1,cutV_to]
   have eT:(Ts (cs.map fun c=>[c])).take j=Ts ((cs.take j).map fun c=>[c]):=by
    unfold Ts
    rw [← List.map_take,← List.map_take]
   rw [eT]
   have lj:(cs.take j).length≤11:=by rw [List.length_take];omega
   refine ⟨t,(cs.take j).map fun c=>[c],rfl,rfl,SqL.of upd_same,by rw [flat1];omega,?_⟩
   rw [flat1]
   refine q (cs.take j) _ (sm2.upd' (sm2.free ht)) ⟨by omega,fun c hc=>?_⟩ fun c hc=>hcm c (List.mem_of_mem_take hc)
   rcases List.mem_append.mp (hcm c (List.mem_of_mem_take hc)) with e | e
   ·have:=(hA.az c e).2;omega
   ·rw [List.mem_singleton.mp e];decide
theorem Word.txt {w:List Nat} (h:Word w):Txt w:=⟨by have:=h.hi;omega,fun c hc=>by have:=(h.az c hc).2;omega⟩
theorem Txt.sub {l m:List Nat} (h:Txt l) (hl:m.length≤l.length) (hs:∀ c∈m,c∈l):Txt m:=⟨Nat.le_trans hl h.short,fun c hc=>h.asc c (hs c hc)⟩
end
end My
end
section
set_option Elab.async false
set_option linter.all false
set_option maxRecDepth 100000
set_option maxHeartbeats 2000000
namespace My
open PySem L2
section
variable {P:Program} {w:World} {K:PySem.W.Frag} {mg:Str→Option Value} {base:Heap}
theorem resF_up {ts:List (List Nat)} (h:Up ts) (c:Nat):Up (resF c ts):=by
 unfold Up resF at *
 rw [List.pairwise_filterMap]
 refine h.imp fun {a b} hab x hx y hy=>?_
 unfold hd1 at hx hy
 split at hx
 ·cases hx
 ·split at hy
  ·cases hy
  ·split at hx
   ·split at hy
    ·rename_i h1 h2
     cases hx
     cases hy
     rw [h1,h2] at hab
     have:=List.cons_lt_cons_iff.mp hab
     exact this.resolve_left (Nat.lt_irrefl _) |>.2
    ·cases hy
   ·cases hx
theorem resW_up:∀ (w:List Nat) {ts:List (List Nat)},Up ts→Up (resW w ts)
 | [],_,h=>h
 | c :: w,_,h=>resW_up w (resF_up h c)
theorem few_by {ts:List (List Nat)} {s0:Sta} {n:Nat} (T:Tabs ts s0 n) (Ls:List Sta) (h:∀ u,(u=[]∨resW u s0≠[])→resW u s0∈Ls):n≤Ls.length:=by
 rw [← T.all]
 refine T.ok.nd.length_le_of_subset fun s hs=>?_
 obtain ⟨u,e,hu⟩:=T.ok.of s hs
 rw [e]
 exact h u (by rw [← e];exact hu)
theorem pref_of {u:List Nat} {s0:Sta} (h:resW u s0≠[]):∃ t∈s0,∃ v,t=u ++ v:=by
 obtain ⟨v,hv⟩:=List.exists_mem_of_ne_nil _ h
 exact ⟨u ++ v,resW_mem.mp hv,v,rfl⟩
theorem few_prefs {ts us:List (List Nat)} {s0:Sta} {n:Nat} (T:Tabs ts s0 n) (hs:∀ t∈ts,t∈us):n≤(prefs us).length:=by
 have:=few_by T ((prefs us).map fun u=>resW u s0) fun u hu=>List.mem_map.mpr ⟨u,?_,rfl⟩
 ·rwa [List.length_map] at this
 ·rcases hu with rfl | hu
  ·exact List.mem_cons_self
  ·obtain ⟨t,ht,v,e⟩:=pref_of hu
   refine List.mem_cons_of_mem _ (List.mem_flatMap.mpr ⟨t,hs t ((T.mem t).mp ht),List.mem_map.mpr ⟨u.length,List.mem_range.mpr (by rw [e,List.length_append];omega),by rw [e];simp⟩⟩)
theorem tb_take_in {w:List Nat} {i m:Nat} (h1:i + 2≤m) (h2:m≤w.length + 1):(tb w (i + 1)).take m=(w.take (i + 1)).reverse ++ [43] ++ (w.take (m - 1)).drop (i + 1):=by
 have e:((w.take (i + 1)).reverse ++ [43]).length=i + 2:=by rw [List.length_append,List.length_reverse,List.length_take];simp;omega
 unfold tb
 rw [List.take_append,e,List.take_of_length_le (by omega)]
 congr 1
 rw [List.drop_take]
 congr 1
 omega
theorem tb_behind {ws:List (List Nat)} {w:List Nat} {i m:Nat} (hws:∀ x∈ws,Word x) (hw:∀ c∈w,isLet c) (h1:i + 2≤m) (h2:m≤w.length + 1) (v:List Nat):(tb w (i + 1)).take m ++ v∈bts ws↔w.take (m - 1) ++ v∈ws:=by
 rw [tb_take_in h1 h2]
 have ep:(w.take (i + 1)).reverse.length=i + 1:=by rw [List.length_reverse,List.length_take];omega
 have ew:w.take (i + 1) ++ (w.take (m - 1)).drop (i + 1)=w.take (m - 1):=by
  have:=List.take_append_drop (i + 1) (w.take (m - 1))
  rw [List.take_take,show min (i + 1) (m - 1)=i + 1 by omega] at this
  exact this
 have et:∀ x:List Nat,x=w.take (m - 1) ++ v→tb x (i + 1)=(w.take (i + 1)).reverse ++ [43] ++ (w.take (m - 1)).drop (i + 1) ++ v:=by
  rintro x rfl
  have ex:w.take (m - 1) ++ v=w.take (i + 1) ++ ((w.take (m - 1)).drop (i + 1) ++ v):=by rw [← List.append_assoc,ew]
  have el:(w.take (i + 1)).length=i + 1:=by rw [List.length_take];omega
  unfold tb
  rw [ex,List.take_left' el,List.drop_left' el]
  simp
 rw [bts_mem]
 constructor
 ·rintro ⟨x,hx,j,hj,e⟩
  have h43:(tb x (j + 1))[i + 1]?=some 43:=by
   rw [← e,List.append_assoc,List.append_assoc,List.getElem?_append_right (by omega),ep];simp
  have hij:=tb_pos (show j + 1≤x.length by omega) (hws x hx).az h43
  have hij:i=j:=by omega
  subst hij
  have b:=tb_back (show i + 1≤x.length by omega)
  rw [← e] at b
  have e1:((w.take (i + 1)).reverse ++ [43] ++ (w.take (m - 1)).drop (i + 1) ++ v).take (i + 1)=(w.take (i + 1)).reverse:=by
   rw [List.append_assoc,List.append_assoc,List.take_left' ep]
  have e2:((w.take (i + 1)).reverse ++ [43] ++ (w.take (m - 1)).drop (i + 1) ++ v).drop (i + 1 + 1)=(w.take (m - 1)).drop (i + 1) ++ v:=by
   rw [List.append_assoc,List.drop_left' (by rw [List.length_append,ep];rfl)]
  rw [e1,e2,List.reverse_reverse,← List.append_assoc,ew] at b
  rw [b];exact hx
 ·intro hx
  refine ⟨_,hx,i,?_,(et _ rfl).symm⟩
  rw [List.length_append,List.length_take];omega
def gat (s0:Sta) (w:List Nat):List Sta:=((List.range w.length).flatMap fun i=>(List.range (i + 1)).map fun k=>resW ((tb w (i + 1)).take (k + 1)) s0) ++ (List.range w.length).map fun j=>resW ((tb w 1).take (j + 2)) s0
theorem gat_len {s0:Sta} {w:List Nat} (h:w.length≤9):(gat s0 w).length≤54:=by
 unfold gat
 rw [List.length_append,List.length_map,List.length_range,List.length_flatMap]
 generalize w.length=n at h
 have:∀ n,n≤9→((List.range n).map fun i=>((List.range (i + 1)).map fun k=>resW ((tb w (i + 1)).take (k + 1)) s0).length).sum + n≤54:=by
  intro n hn
  have e:((List.range n).map fun i=>((List.range (i + 1)).map fun k=>resW ((tb w (i + 1)).take (k + 1)) s0).length)=(List.range n).map fun i=>i + 1:=List.map_congr_left fun i _=>by rw [List.length_map,List.length_range]
  rw [e]
  have:∀ m,m≤9→((List.range m).map fun i=>i + 1).sum + m≤54:=by decide
  exact this n hn
 exact this n h
theorem flat_le {α β:Type} (f:α→List β) (m:Nat):∀ (l:List α),(∀ x∈l,(f x).length≤m)→(l.flatMap f).length≤l.length * m
 | [],_=>by simp
 | a :: l,h=>by
  rw [List.flatMap_cons,List.length_append,List.length_cons,Nat.succ_mul]
  have h1:=h a List.mem_cons_self
  have h2:=flat_le f m l fun x hx=>h x (List.mem_cons_of_mem _ hx)
  omega
theorem few_turned {ws ts:List (List Nat)} {s0:Sta} {n:Nat} (T:Tabs ts s0 n) (hm:∀ t,t∈ts↔t∈bts ws) (hws:∀ x∈ws,Word x) (hl:ws.length≤61):n≤4000:=by
 have hup:Up s0:=rise_up T.rise T.nd
 have h0:∀ t,t∈s0↔t∈bts ws:=fun t=>(T.mem t).trans (hm t)
 have:=few_by T (s0 :: ws.flatMap (gat s0)) fun u hu=>?_
 ·have hf:=flat_le (gat s0) 54 ws fun x hx=>gat_len (hws x hx).hi
  rw [List.length_cons] at this
  omega
 ·rcases hu with rfl | hu
  ·exact List.mem_cons_self
  ·obtain ⟨t,ht,v,e⟩:=pref_of hu
   obtain ⟨w,hw,i,hi,e2⟩:=bts_mem.mp ((h0 t).mp ht)
   cases u with
   | nil=>exact List.mem_cons_self
   | cons c u=>
    refine List.mem_cons_of_mem _ (List.mem_flatMap.mpr ⟨w,hw,?_⟩)
    have el:(c :: u).length≤w.length + 1:=by
     have:=congrArg List.length e
     rw [e2,tb_len,List.length_append] at this
     omega
    have eu:c :: u=(tb w (i + 1)).take (u.length + 1):=by
     rw [← e2,e];simp
    rw [List.length_cons] at el
    unfold gat
    rw [List.mem_append]
    by_cases z:u.length≤i
    ·left
     exact List.mem_flatMap.mpr ⟨i,List.mem_range.mpr hi,List.mem_map.mpr ⟨u.length,List.mem_range.mpr (by omega),by rw [← eu]⟩⟩
    ·right
     refine List.mem_map.mpr ⟨u.length - 1,List.mem_range.mpr (by omega),?_⟩
     rw [eu,show u.length - 1 + 2=u.length + 1 by omega]
     refine up_eq (resW_up _ hup) (resW_up _ hup) fun x=>?_
     have az:=(hws w hw).az
     rw [resW_mem,resW_mem,h0,h0,tb_behind (i:=i) hws az (by omega) (by omega)]
     exact tb_behind (i:=0) hws az (by omega) (by omega) x
end
end My
end
section
set_option Elab.async false
set_option linter.all false
set_option maxRecDepth 100000
set_option maxHeartbeats 2000000
namespace My
open PySem L2
section
variable {P:Program} {w:World} {K:PySem.W.Frag} {mg:Str→Option Value} {base:Heap}
def wKv (ws:List (List Nat)):List (Key × V):=ws.map fun l=>(keyS l,V.bl true)
theorem val_in (ws:List (List Nat)) (l:List Nat):valV (wKv ws) (keyS l)=if l∈ws then some (.bl true) else none:=by
 induction ws with
 | nil=>simp [wKv,valV]
 | cons a r ih=>
  by_cases e:a=l
  ·subst e
   have:valV (wKv (a :: r)) (keyS a)=some (.bl true):=valV_pos (p:=(keyS a,V.bl true)) rfl
   rw [this];simp
  ·have:valV (wKv (a :: r)) (keyS l)=valV (wKv r) (keyS l):=valV_neg (p:=(keyS a,V.bl true)) fun z=>e (keyS_inj z)
   rw [this,ih]
   have e':¬l=a:=fun z=>e z.symm
   simp [e']
theorem put_old {ws:List (List Nat)} {l:List Nat} (h:l∈ws):putK (wKv ws) (keyS l) (.bl true)=wKv ws:=by
 have hany:((wKv ws).any fun kv=>decide (kv.1=keyS l))=true:=by rw [valV_any,val_in,if_pos h];rfl
 unfold putK
 rw [if_pos hany]
 refine (List.map_congr_left fun kv hkv=>?_).trans (List.map_id _)
 obtain ⟨a,_,rfl⟩:=List.mem_map.mp hkv
 by_cases e:keyS a=keyS l
 ·simp [e]
 ·simp [e]
theorem put_new {ws:List (List Nat)} {l:List Nat} (h:l∉ws):putK (wKv ws) (keyS l) (.bl true)=wKv (ws ++ [l]):=by
 rw [putK_new _ (by rw [val_in,if_neg h])]
 simp [wKv]
def insW (ws:List (List Nat)) (l:List Nat):List (List Nat):=if l∈ws then ws else ws ++ [l]
theorem insW_put (ws:List (List Nat)) (l:List Nat):putK (wKv ws) (keyS l) (.bl true)=wKv (insW ws l):=by
 unfold insW
 split
 ·rename_i h;exact put_old h
 ·rename_i h;exact put_new h
theorem insW_nd {ws:List (List Nat)} {l:List Nat} (h:ws.Nodup):(insW ws l).Nodup:=by
 unfold insW
 split
 ·exact h
 ·rename_i hl;exact nd_snoc h hl
theorem insW_mem {ws:List (List Nat)} {l x:List Nat}:x∈insW ws l↔x∈ws∨x=l:=by
 unfold insW
 split
 ·rename_i h;exact ⟨.inl,fun z=>z.elim id fun e=>e ▸ h⟩
 ·simp
theorem insW_len (ws:List (List Nat)) (l:List Nat):(insW ws l).length≤ws.length + 1:=by
 unfold insW
 split
 ·omega
 ·simp
def ends (ws:List (List Nat)):List (List Nat):=ws.flatMap fun w=>(List.range (w.length + 1)).map fun k=>w.drop k
theorem ends_snoc (ws:List (List Nat)) (w:List Nat):ends (ws ++ [w])=ends ws ++ (List.range (w.length + 1)).map fun k=>w.drop k:=by
 unfold ends
 rw [List.flatMap_append];simp
theorem ends_mem {ws:List (List Nat)} {t:List Nat} (h:t∈ends ws):∃ w∈ws,∃ k,k≤w.length∧t=w.drop k:=by
 obtain ⟨w,hw,h⟩:=List.mem_flatMap.mp h
 obtain ⟨k,hk,e⟩:=List.mem_map.mp h
 exact ⟨w,hw,k,by have:=List.mem_range.mp hk;omega,e.symm⟩
theorem ends_len {ws:List (List Nat)} (hws:∀ x∈ws,Word x):(ends ws).length≤ws.length * 10:=flat_le _ 10 ws fun w hw=>by
 have:=(hws w hw).hi
 rw [List.length_map,List.length_range];omega
theorem prefs_ends {ws:List (List Nat)} (hws:∀ x∈ws,Word x):(prefs (ends ws)).length≤ws.length * 55 + 1:=by
 unfold prefs ends
 rw [List.length_cons,List.flatMap_assoc]
 refine Nat.succ_le_succ (flat_le _ 55 ws fun w hw=>?_)
 rw [List.length_flatMap,List.map_map]
 have e:((List.range (w.length + 1)).map (((fun t:List Nat=>((List.range (t.length + 1)).map fun k=>t.take k).length)) ∘ fun k=>w.drop k))=(List.range (w.length + 1)).map fun k=>w.length - k + 1:=List.map_congr_left fun k _=>by simp
 rw [e]
 have:∀ m,m≤9→((List.range (m + 1)).map fun k=>m - k + 1).sum≤55:=by decide
 exact this _ (hws w hw).hi
def Drawn (tx:List (List Nat)):Prop:=(∃ ws:List (List Nat),(∀ x∈ws,Word x)∧ws.length≤61∧(tx=bts ws∨tx=ends ws))∨(tx.length≤61∧∀ t∈tx,Txt t)
theorem Drawn.len {tx:List (List Nat)} (h:Drawn tx):tx.length≤610:=by
 rcases h with ⟨ws,hw,hl,rfl | rfl⟩ | ⟨hl,_⟩
 ·have:=(bts_small hw).1;omega
 ·have:=ends_len hw;omega
 ·omega
theorem Drawn.txt {tx:List (List Nat)} (h:Drawn tx):∀ t∈tx,Txt t:=by
 rcases h with ⟨ws,hw,hl,rfl | rfl⟩ | ⟨_,h⟩
 ·exact fun t ht=>⟨Nat.le_trans ((bts_small hw).2 t ht).1 (by decide),((bts_small hw).2 t ht).2⟩
 ·intro t ht
  obtain ⟨w,h1,k,hk,rfl⟩:=ends_mem ht
  exact (hw w h1).txt.sub (by rw [List.length_drop];omega) fun c hc=>List.mem_of_mem_drop hc
 ·exact h
theorem Drawn.few {tx ts:List (List Nat)} {s0:Sta} {n:Nat} (h:Drawn tx) (hm:∀ t,t∈ts↔t∈tx) (T:Tabs ts s0 n):n≤4000:=by
 rcases h with ⟨ws,hw,hl,rfl | rfl⟩ | ⟨hl,ht⟩
 ·exact few_turned T hm hw hl
 ·have:=few_prefs T fun t ht=>(hm t).mp ht
  have:=prefs_ends hw
  omega
 ·have:=few_prefs T fun t ht=>(hm t).mp ht
  have:=prefs_len (m:=13) fun t h=>(ht t h).short
  omega
structure TxtS (ts:List (List Nat)):Prop where
 nd:ts.Nodup
 len:ts.length≤610
 tx:∀ t∈ts,Txt t
 few:∀ s0 n,Tabs ts s0 n→n≤4000
def W1 (j:Nat) (ws:List (List Nat)) (i:Nat) (tx:List (List Nat)):Prop:=(j < 2∧tx=bts (ws.take i))∨(j=2∧tx=ends (ws.take i))∨(j=3∧tx.length≤i∧∀ t∈tx,Txt t)∨(j=4∧tx=[])
theorem W1.len {j i:Nat} {ws tx:List (List Nat)} (h:W1 j ws i tx) (hws:∀ x∈ws,Word x) (hi:i≤ws.length):tx.length≤i * 10:=by
 have hw:∀ x∈ws.take i,Word x:=fun x hx=>hws x (List.mem_of_mem_take hx)
 have e:(ws.take i).length=i:=by rw [List.length_take];omega
 rcases h with ⟨_,rfl⟩ | ⟨_,rfl⟩ | ⟨_,h,_⟩ | ⟨_,rfl⟩
 ·have:=(bts_small hw).1;rw [e] at this;omega
 ·have:=ends_len hw;rw [e] at this;exact this
 ·omega
 ·simp
theorem W1.drawn {j:Nat} {ws tx:List (List Nat)} (h:W1 j ws ws.length tx) (hws:∀ x∈ws,Word x) (hl:ws.length≤61) (hj:j≠4):Drawn tx:=by
 rcases h with ⟨_,h⟩ | ⟨_,h⟩ | ⟨_,h,h2⟩ | ⟨h,_⟩
 ·exact .inl ⟨ws,hws,hl,.inl (by rw [h,List.take_length])⟩
 ·exact .inl ⟨ws,hws,hl,.inr (by rw [h,List.take_length])⟩
 ·exact .inr ⟨by omega,h2⟩
 ·exact absurd h hj
def W2 (j i:Nat) (tx0 tx:List (List Nat)):Prop:=(j≠4∧tx=tx0)∨(j=4∧tx.length≤i∧∀ t∈tx,Txt t)
def onceW (tx:List (List Nat)):List (List Nat):=tx.foldl insW []
theorem onceW_snoc (tx:List (List Nat)) (t:List Nat):onceW (tx ++ [t])=insW (onceW tx) t:=by unfold onceW;rw [List.foldl_append];rfl
theorem onceW_ok (tx:List (List Nat)):(onceW tx).Nodup∧(onceW tx).length≤tx.length∧∀ t,t∈onceW tx↔t∈tx:=by
 have:∀ (us acc:List (List Nat)),acc.Nodup→(us.foldl insW acc).Nodup∧(us.foldl insW acc).length≤acc.length + us.length∧∀ t,t∈us.foldl insW acc↔t∈acc∨t∈us:=by
  intro us
  induction us with
  | nil=>intro acc h;exact ⟨h,by simp,fun t=>by simp⟩
  | cons u us ih=>
   intro acc h
   obtain ⟨h1,h2,h3⟩:=ih (insW acc u) (insW_nd h)
   have:=insW_len acc u
   refine ⟨h1,by rw [List.foldl_cons,List.length_cons];omega,fun t=>?_⟩
   rw [List.foldl_cons,h3,insW_mem,List.mem_cons,or_assoc]
 obtain ⟨h1,h2,h3⟩:=this tx [] List.nodup_nil
 exact ⟨h1,by simpa [onceW] using h2,fun t=>by rw [onceW,h3];simp⟩
def spTexts (K:PySem.W.Frag):Sp:=fun vs H Q _=>∃ (a:Addr) (ns:List Int) (ls:List Nat),vs=[.ref a,.str (S ls)]∧SqL K H a (ns.map V.int)∧ns.length≤100∧Alph ls∧
 ∀ (p:Addr) (ts:List (List Nat)) (H':Hp),Same H H'→H p=none→H' p=some (.lst (Ts ts))→TxtS ts→Q (.ref p) H'
theorem ok_texts (D:DefAt K mg "_law_texts" s_texts ["_law_script","_law_letters_here"]) (n_len:mg "len"=none) (n_range:mg "range"=none)
  (D_cell_at:Def P w K mg base "_law_cell_at" 1 ["_law_script","_law_k"] (spCell K)) (D_book:Def P w K mg base "_law_book" 5 ["_law_script","_law_start","_law_most","_law_letters_here"] (spBk K)) (D_turned:Def P w K mg base "_law_turned" 1 ["_law_word_here"] spTurned)
  (D_rows_of:Def P w K mg base "_law_rows_of" 4 ["_law_script","_law_start","_law_most"] (spRows K)) (D_plain:Def P w K mg base "_law_plain" 1 ["_law_row","_law_letters_here"] (spPlain K)):Def P w K mg base "_law_texts" 6 ["_law_script","_law_letters_here"] (spTexts K):=by
 refine D.qok sc_texts (fun vs H Q E h=>?_) (fun f cdv A outer s H vs Q E hr h=>?_)
 ·obtain ⟨a,ns,ls,rfl,_⟩:=h
  rfl
 ·obtain ⟨a,ns,ls,rfl,hS,hn,hA,q⟩:=h
  have hu:=hu_of hr
  refine ⟨_,(qss_cons (qs_set (i:=2) sc_texts.nd rfl (Or.inl rfl) (qe_own D_book (hr.mono (by decide)) rfl (qa_cons (qv 0) (qa_cons qe_int (qa_cons qe_int (qa_cons (qv 1) qa_nil)))))) (qss_cons (qs_set (i:=3) sc_texts.nd rfl (Or.inl rfl) (qe_op op_mod (qe_own D_cell_at (hr.mono (by decide)) rfl (qa_cons (qv 0) (qa_cons qe_int qa_nil))) qe_int)) (qss_cons (qs_set (i:=4) sc_texts.nd rfl (Or.inl rfl) (qe_lst qa_nil)) (qss_cons (qs_for PassesOwn.never rfl (qi_list (qv 2)) (qg_name (i:=5) sc_texts.nd rfl (Or.inr rfl)) (qss_one (qs_if (qt_cmpR op_lt (qv 3) qe_int (nomark _)) (qss_one (qs_expr (qe_bm PySem.F.plainAttrs_list PySem.F.slot_list_extend PySem.F.type_list_extend mt_extend (qv 4) (qa_cons (qe_own D_turned (hr.mono (by decide)) rfl (qa_cons (qv 5) qa_nil)) qa_nil)))) (qss_one (qs_if (qt_cmpR op_eq (qv 3) qe_int (nomark _)) (qss_one (qs_expr (qe_bm PySem.F.plainAttrs_list PySem.F.slot_list_extend PySem.F.type_list_extend mt_extend (qv 4) (qa_cons (qe_comp rfl (CompOk.of sc_texts.nd (by kernel_rfl)) (qi_range1 (by rfl) n_range (qa_cons (qe_op op_add (qe_callB call_lenS (by rfl) n_len PySem.boot_len (qa_cons (qv 5) qa_nil)) qe_int) qa_nil)) (fun _ _ _ _ _=>qts_nil) (fun _ _ _ _ _=>(qe_slice sl_S (qv 6) (qo_some (qv 0)) qo_none))) qa_nil)))) (qss_one (qs_if (qt_cmpR op_eq (qv 3) qe_int (nomark _)) (qss_one (qs_expr (qe_bm PySem.F.plainAttrs_list PySem.F.slot_list_append PySem.F.type_list_append mt_append (qv 4) (qa_cons (qe_op op_mulS (qe_ix ix_S (qv 1) qe_int (fun _ _=>rfl)) (qe_op op_add (qe_callB call_lenS (by rfl) n_len PySem.boot_len (qa_cons (qv 5) qa_nil)) (qe_op op_mod (qe_callB call_len_seq (by rfl) n_len PySem.boot_len (qa_cons (qv 4) qa_nil)) qe_int))) qa_nil)))) qss_nil))))))) (qss_cons (qs_for PassesOwn.never rfl (qi_list (qe_own D_rows_of (hr.mono (by decide)) rfl (qa_cons (qv 0) (qa_cons qe_int (qa_cons qe_int qa_nil))))) (qg_name (i:=6) sc_texts.nd rfl (Or.inl rfl)) (qss_one (qs_if (qt_cmpR op_eq (qv 3) qe_int (nomark _)) (qss_one (qs_expr (qe_bm PySem.F.plainAttrs_list PySem.F.slot_list_append PySem.F.type_list_append mt_append (qv 4) (qa_cons (qe_own D_plain (hr.mono (by decide)) rfl (qa_cons (qv 6) (qa_cons (qv 1) qa_nil))) qa_nil)))) qss_nil))) (qss_cons (qs_set (i:=7) sc_texts.nd rfl (Or.inl rfl) (qe_lst qa_nil)) (qss_cons (qs_set (i:=8) sc_texts.nd rfl (Or.inl rfl) qe_dnewK) (qss_cons (qs_for PassesOwn.never rfl (qi_list (qv 4)) (qg_name (i:=9) sc_texts.nd rfl (Or.inl rfl)) (qss_one (qs_if (qt_cmp (qc_dnotin hu (qv 9) (qv 8))) (qss_cons (qs_dput hu (qv 8) (qv 9) qe_bl rfl) (qss_one (qs_expr (qe_bm PySem.F.plainAttrs_list PySem.F.slot_list_append PySem.F.type_list_append mt_append (qv 7) (qa_cons (qv 9) qa_nil))))) qss_nil))) (qss_one (qs_ret (qv 7))))))))))),?_⟩
  refine ⟨_,rfl,_,rfl,a,ns,2,61,ls,rfl,hS,hn,by decide,by decide,hA,fun p ws H1 s1 np hp nd hw hl=>?_⟩
  have hW:∀ x∈ws,Word x:=fun x hx=>(hw x hx).1
  refine ⟨_,rfl,a,ns,1,rfl,s1.seq hS,fun cv=>⟨_,_,rfl,rfl,(by show (0:Int) < 5;decide),?_⟩⟩
  obtain ⟨j,hj,hj5⟩:∃ j:Nat,cv % 5=(j:Int)∧j < 5:=mod_nat (m:=5) (by decide)
  refine ⟨by show 0≤sizeLine;decide,fun L hL=>?_⟩
  have s2:Same H (upd H1 L (.lst [])):=s1.upd' (s1.free hL)
  have eL:upd H1 L (.lst []) L=some (.lst (Ts [])):=upd_same
  have npL:p≠L:=(ne_of_none hp hL)
  have hp2:upd H1 L (.lst []) p=some (.lst (Ts ws)):=by rw [upd_ne npL];exact hp
  have hL0:=s1.free hL
  generalize upd H1 L (.lst [])=H2 at s2 eL hp2 ⊢
  refine ⟨_,rfl,p,rfl,⟨_,SqL.of hp2⟩,for_list (K:=K) (a:=p) (xs:=Ts ws) (fun i σ H3=>∃ (v5:Option V) (tx:List (List Nat)),σ=[some (.ref a),some (.str (S ls)),some (.ref p),some (.int (cv % 5)),some (.ref L),v5,none,none,none,none]∧(∀ c o,H2 c=some o→c≠L→H3 c=some o)∧H3 L=some (.lst (Ts tx))∧W1 j ws i tx)
   ⟨none,[],rfl,fun c o e _=>e,eL,?_⟩ (fun i σ H3 _ ⟨_,_,_,k,_⟩=>SqL.of (k _ _ hp2 npL)) ?_ ?_⟩
  ·rcases (by omega:j < 2∨j=2∨j=3∨j=4) with h | h | h | h
   ·exact .inl ⟨h,rfl⟩
   ·exact .inr (.inl ⟨h,rfl⟩)
   ·exact .inr (.inr (.inl ⟨h,Nat.le_refl _,fun t h=>by simp at h⟩))
   ·exact .inr (.inr (.inr ⟨h,rfl⟩))
  ·rintro i y σ H3 hi ⟨v5,tx,rfl,kp,hL3,hx⟩
   obtain ⟨wd,hwd,rfl⟩:=Ts_get hi
   have hil:i < ws.length:=(List.getElem?_eq_some_iff.mp hwd).1
   have W:=hW wd (List.mem_of_getElem? hwd)
   have wh:=W.hi
   have hxl:=hx.len hW (Nat.le_of_lt hil)
   have hzw:wd.length≤sizeLine:=Nat.le_of_lt (small1000 (by omega))
   have etk:ws.take (i + 1)=ws.take i ++ [wd]:=by rw [List.take_add_one,hwd];rfl
   refine ⟨_,rfl,_,_,rfl,rfl,_,rfl,?_⟩
   refine ite2 (fun c1=>?_) (fun c1=>?_)
   ·have c1:cv % 5 < 2:=of_decide_eq_true c1
    refine ⟨_,rfl,.inl ⟨rfl,_,SqL.of hL3⟩,_,rfl,wd,rfl,by omega,fun tp H4 s4 ntp htp=>?_⟩
    refine ⟨L,tp,_,_,rfl,rfl,s4 _ _ hL3,htp,?_,?_⟩
    ·rw [List.length_map,List.length_map,List.length_map,List.length_range]
     exact Nat.le_of_lt (small1000 (by omega))
    ·refine ⟨_,tx ++ (List.range wd.length).map (fun i=>tb wd (i + 1)),rfl,fun c o e hc=>by rw [upd_ne hc];exact s4 _ _ (kp c o e hc),by rw [upd_same];unfold Ts;rw [List.map_append],?_⟩
     rcases hx with ⟨h,e⟩ | ⟨h,e⟩ | ⟨h,_⟩ | ⟨h,_⟩
     ·exact .inl ⟨h,by rw [etk,bts_snoc,e]⟩
     all_goals omega
   ·have c1:¬cv % 5 < 2:=fun z=>c1 (decide_eq_true z)
    refine ⟨_,rfl,rfl,_,rfl,?_⟩
    refine ite2 (fun c2=>?_) (fun c2=>?_)
    ·have c2:cv % 5=2:=by simpa using c2
     refine ⟨_,rfl,.inl ⟨rfl,_,SqL.of hL3⟩,?_⟩
     refine ⟨_,rfl,wd,rfl,hzw,_,_,rfl,rfl,_,rfl,by omega,by omega,fun C hC=>?_⟩
     have e1:((wd.length:Int) + 1).toNat=wd.length + 1:=by omega
     rw [e1]
     have nLC:L≠C:=ne_of_none hL3 hC
     refine comp_range (fun i ys H4=>ys=Ts ((List.range i).map fun k=>wd.drop k)∧H4 C=some (.lst ys)∧∀ c o,H3 c=some o→H4 c=some o) ⟨rfl,upd_same,fun c o e=>by rw [upd_ne (ne_of_none e hC)];exact e⟩ ?_ ?_
     ·rintro k ys H4 hk ⟨rfl,hC4,kp4⟩
      refine ⟨_,rfl,_,rfl,_,rfl,wd,rfl,hzw,hC4,?_,Nxt.mk hk ⟨?_,upd_same,fun c o e=>by rw [upd_ne (ne_of_none e hC)];exact kp4 c o e⟩⟩
      ·rw [List.length_map,List.length_map,List.length_range];exact small1000 (by omega)
      ·rw [show (0:Int) + (k:Int)=((k:Nat):Int) by omega,cut_from,Ts_snocR]
     ·rintro ys H4 ⟨rfl,hC4,kp4⟩
      refine ⟨L,C,_,_,rfl,rfl,kp4 _ _ hL3,hC4,?_,?_⟩
      ·rw [List.length_map,List.length_map,List.length_map,List.length_range]
       exact Nat.le_of_lt (small1000 (by omega))
      ·refine ⟨_,tx ++ (List.range (wd.length + 1)).map (fun k=>wd.drop k),rfl,fun c o e hc=>by rw [upd_ne hc];exact kp4 _ _ (kp c o e hc),by rw [upd_same];unfold Ts;rw [List.map_append],?_⟩
       rcases hx with ⟨h,e⟩ | ⟨h,e⟩ | ⟨h,_⟩ | ⟨h,_⟩
       ·omega
       ·exact .inr (.inl ⟨h,by rw [etk,ends_snoc,e]⟩)
       all_goals omega
    ·have c2:¬cv % 5=2:=by simpa using c2
     refine ⟨_,rfl,rfl,_,rfl,?_⟩
     refine ite2 (fun c3=>?_) (fun c3=>?_)
     ·have c3:cv % 5=3:=by simpa using c3
      obtain ⟨c,ls',els⟩:∃ c ls',ls=c :: ls':=by
       cases ls with
       | nil=>have:=hA.lo;simp at this
       | cons c ls'=>exact ⟨c,ls',rfl⟩
      have hc:atI ls 0=some c:=atI_nat (j:=0) (by rw [els];rfl)
      have hcl:=(hA.az c (by rw [els];exact List.mem_cons_self)).2
      have hml:tx.length % 4 < 4:=Nat.mod_lt _ (by decide)
      have hzl:ls.length≤sizeLine:=Nat.le_of_lt (small1000 (by have:=hA.hi;omega))
      refine ⟨_,rfl,.inl ⟨rfl,_,SqL.of hL3⟩,_,rfl,ls,0,c,rfl,rfl,hzl,hc,_,rfl,wd,rfl,hzw,_,rfl,L,_,rfl,.inl (SqL.of hL3),_,_,rfl,rfl,(by show (0:Int) < 4;decide),_,_,rfl,rfl,[c],wd.length + tx.length % 4,rfl,?_,by have:=W.lo;omega,by omega,by simp,L,_,_,rfl,rfl,hL3,?_,?_⟩
      ·show V.int _=V.int _
       congr 1
       rw [List.length_map];omega
      ·rw [List.length_map];exact small1000 (by omega)
      ·refine ⟨_,tx ++ [(List.replicate (wd.length + tx.length % 4) [c]).flatten],rfl,fun c o e hc=>by rw [upd_ne hc];exact kp c o e hc,by rw [upd_same];unfold Ts;rw [List.map_append];rfl,?_⟩
       rcases hx with ⟨h,e⟩ | ⟨h,e⟩ | ⟨h,h2,h3⟩ | ⟨h,e⟩
       ·omega
       ·omega
       ·refine .inr (.inr (.inl ⟨h,by simp;omega,fun t ht=>?_⟩))
        rcases List.mem_append.mp ht with z | z
        ·exact h3 t z
        ·rw [List.mem_singleton.mp z]
         refine ⟨by simp;omega,fun x hx=>?_⟩
         obtain ⟨l,h4,h5⟩:=List.mem_flatten.mp hx
         rw [List.eq_of_mem_replicate h4,List.mem_singleton] at h5
         omega
       ·omega
     ·have c3:¬cv % 5=3:=by simpa using c3
      refine ⟨_,tx,rfl,kp,hL3,?_⟩
      rcases hx with ⟨h,e⟩ | ⟨h,e⟩ | ⟨h,_⟩ | ⟨h,e⟩
      ·omega
      ·omega
      ·omega
      ·exact .inr (.inr (.inr ⟨h,e⟩))
  ·rintro σ H3 ⟨v5,tx,rfl,kp,hL3,hx⟩
   rw [List.length_map] at hx
   have hxl:=hx.len hW (Nat.le_refl _)
   have s3:Same H H3:=fun c o e=>kp c o (s2 _ _ e) (ne_of_none e hL0)
   refine ⟨_,rfl,a,ns,2,61,rfl,s3.seq hS,hn,by decide,by decide,fun p2 rs H4 s4 np2 hp4 hrl hrs=>?_⟩
   have hL4:=s4 _ _ hL3
   have np2L:p2≠L:=(ne_of_none hL3 np2).symm
   refine ⟨p2,rfl,⟨_,SqL.of hp4⟩,for_list (K:=K) (a:=p2) (xs:=rs.map V.ref) (fun i σ H5=>∃ (v6:Option V) (tx2:List (List Nat)),σ=[some (.ref a),some (.str (S ls)),some (.ref p),some (.int (cv % 5)),some (.ref L),v5,v6,none,none,none]∧(∀ c o,H4 c=some o→c≠L→H5 c=some o)∧H5 L=some (.lst (Ts tx2))∧W2 j i tx tx2)
    ⟨none,tx,rfl,fun c o e _=>e,hL4,?_⟩ (fun i σ H3 _ ⟨_,_,_,k,_⟩=>SqL.of (k _ _ hp4 np2L)) ?_ ?_⟩
   ·by_cases h:j=4
    ·rcases hx with ⟨h,e⟩ | ⟨h,e⟩ | ⟨h,_⟩ | ⟨h,e⟩
     ·omega
     ·omega
     ·omega
     ·rw [e];exact .inr ⟨h,Nat.le_refl _,fun t h=>by simp at h⟩
    ·exact .inl ⟨h,rfl⟩
   ·rintro i y σ H5 hi ⟨v6,tx2,rfl,kp5,hL5,hx2⟩
    obtain ⟨r,hr2,rfl⟩:=rt_get hi
    obtain ⟨ds,hds,d11,dlt⟩:=hrs r (List.mem_of_getElem? hr2)
    have hil:i < rs.length:=(List.getElem?_eq_some_iff.mp hr2).1
    refine ⟨_,rfl,rfl,_,rfl,?_⟩
    refine ite2 (fun c4=>?_) (fun c4=>?_)
    ·have c4:cv % 5=4:=by simpa using c4
     obtain ⟨h4,hl2,htx⟩:=hx2.resolve_left fun z=>z.1 (by omega)
     have hx0:tx=[]:=by
      rcases hx with ⟨h,e⟩ | ⟨h,e⟩ | ⟨h,_⟩ | ⟨h,e⟩
      ·omega
      ·omega
      ·omega
      ·exact e
     have nrL:r≠L:=fun z=>by
      rw [z,hL4,hx0] at hds
      have:(ds.map V.int).length=0:=by injection hds with hds;injection hds with hds;rw [← hds];rfl
      rw [List.length_map] at this;omega
     refine ⟨_,rfl,.inl ⟨rfl,_,SqL.of hL5⟩,_,rfl,_,rfl,r,ds,ls,rfl,SqL.of (kp5 _ _ hds nrL),d11,fun d hd=>(dlt d hd).1,hA,fun wd H6 s6 hwt _=>?_⟩
     refine ⟨L,_,_,rfl,rfl,s6 _ _ hL5,by rw [List.length_map];exact small1000 (by omega),?_⟩
     refine ⟨_,tx2 ++ [wd],rfl,fun c o e hc=>by rw [upd_ne hc];exact s6 _ _ (kp5 c o e hc),by rw [upd_same];simp [Ts],.inr ⟨h4,by simp;omega,fun t ht=>?_⟩⟩
     rcases List.mem_append.mp ht with z | z
     ·exact htx t z
     ·rw [List.mem_singleton.mp z];exact hwt
    ·have c4:¬cv % 5=4:=by simpa using c4
     refine ⟨_,tx2,rfl,kp5,hL5,?_⟩
     rcases hx2 with h | ⟨h,_⟩
     ·exact .inl h
     ·omega
   ·rintro σ H5 ⟨v6,tx2,rfl,kp5,hL5,hx2⟩
    rw [List.length_map] at hx2
    have hD:Drawn tx2:=by
     rcases hx2 with ⟨h1,h2⟩ | ⟨_,h1,h2⟩
     ·rw [h2];exact hx.drawn hW hl h1
     ·exact .inr ⟨by omega,h2⟩
    have s5:Same H H5:=fun c o e=>kp5 c o (s4 _ _ (s3 _ _ e)) (ne_of_none e hL0)
    have hDl:=hD.len
    refine ⟨by show 0≤sizeLine;decide,fun F hF=>?_⟩
    have s6:Same H5 (upd H5 F (.lst [])):=Same.upd hF
    have eF:upd H5 F (.lst []) F=some (.lst (Ts [])):=upd_same
    generalize upd H5 F (.lst [])=H6 at s6 eF ⊢
    intro kd hkd
    have k7:Same H6 (upd H6 kd (.dK [])):=Same.upd hkd
    have e7:upd H6 kd (.dK []) kd=some (.dK (wKv [])):=upd_same
    have nFk:F≠kd:=ne_of_none eF hkd
    have eF7:=k7 _ _ eF
    generalize upd H6 kd (.dK [])=H7 at k7 e7 eF7 ⊢
    have hL7:=k7 _ _ (s6 _ _ hL5)
    have nLF:L≠F:=ne_of_none hL5 hF
    have nLk:L≠kd:=ne_of_none (s6 _ _ hL5) hkd
    have fk:H kd=none:=(s5.trans s6).free hkd
    have fF:H F=none:=s5.free hF
    have s7:Same H H7:=(s5.trans s6).trans k7
    refine ⟨_,rfl,L,rfl,⟨_,SqL.of hL7⟩,for_list (K:=K) (a:=L) (xs:=Ts tx2) (fun i σ H8=>∃ (v9:Option V),σ=[some (.ref a),some (.str (S ls)),some (.ref p),some (.int (cv % 5)),some (.ref L),v5,v6,some (.ref F),some (.ref kd),v9]∧(∀ c o,H7 c=some o→c≠F→c≠kd→H8 c=some o)∧H8 F=some (.lst (Ts (onceW (tx2.take i))))∧H8 kd=some (.dK (wKv (onceW (tx2.take i)))))
     ⟨none,rfl,fun c o e _ _=>e,eF7,e7⟩ (fun i σ H8 _ ⟨_,_,k,_⟩=>SqL.of (k _ _ hL7 nLF nLk)) ?_ ?_⟩
    ·rintro i y σ H8 hi ⟨v9,rfl,kp8,hF8,hk8⟩
     obtain ⟨t,ht,rfl⟩:=Ts_get hi
     have hil:i < tx2.length:=(List.getElem?_eq_some_iff.mp ht).1
     have hol:=(onceW_ok (tx2.take i)).2.1
     rw [List.length_take] at hol
     have etk:tx2.take (i + 1)=tx2.take i ++ [t]:=by rw [List.take_add_one,ht];rfl
     refine ⟨_,rfl,_,rfl,kd,_,rfl,DGet.k (k:=keyS t) hk8,_,rfl,?_⟩
     rw [val_in,etk,onceW_snoc]
     by_cases hm:t∈onceW (tx2.take i)
     ·rw [if_pos hm]
      have ei:insW (onceW (tx2.take i)) t=onceW (tx2.take i):=by unfold insW;rw [if_pos hm]
      rw [ei]
      exact iteF ⟨_,rfl,kp8,hF8,hk8⟩
     ·rw [if_neg hm]
      have ei:insW (onceW (tx2.take i)) t=onceW (tx2.take i) ++ [t]:=by unfold insW;rw [if_neg hm]
      refine iteT ⟨_,rfl,_,rfl,kd,_,rfl,DPut.k (k:=keyS t) hk8 (by rw [wKv,List.length_map];exact small1000 (by omega)),?_⟩
      have hF9:upd H8 kd (.dK (putK (wKv (onceW (tx2.take i))) (keyS t) (.bl true))) F=some (.lst (Ts (onceW (tx2.take i)))):=by rw [upd_ne nFk];exact hF8
      refine ⟨_,rfl,.inl ⟨rfl,_,SqL.of hF9⟩,_,rfl,F,_,_,rfl,rfl,hF9,by rw [List.length_map];exact small1000 (by omega),?_⟩
      refine ⟨_,rfl,fun c o e h1 h2=>by rw [upd_ne h1,upd_ne h2];exact kp8 c o e h1 h2,?_,?_⟩
      ·rw [upd_same,ei];simp [Ts]
      ·rw [upd_ne nFk.symm,upd_same,insW_put]
    ·rintro σ H8 ⟨v9,rfl,kp8,hF8,hk8⟩
     rw [List.length_map,List.take_length] at hF8
     obtain ⟨o1,o2,o3⟩:=onceW_ok tx2
     refine ⟨_,rfl,q F (onceW tx2) H8 (fun c o e=>kp8 c o (s7 _ _ e) (ne_of_none e fF) (ne_of_none e fk)) fF hF8 ⟨o1,by omega,fun t ht=>hD.txt t ((o3 t).mp ht),fun s0 n T=>hD.few o3 T⟩⟩
end
end My
end
section
set_option Elab.async false
set_option linter.all false
set_option maxRecDepth 100000
set_option maxHeartbeats 2000000
namespace My
open PySem L2
section
variable {P:Program} {w:World} {K:PySem.W.Frag} {mg:Str→Option Value} {base:Heap}
structure Lead (rws:List Rw):Prop where
 pos:0 < rws.length
 few:rws.length≤4000
 lt:∀ r∈rws,∀ q∈r.2,q.2 < rws.length
def Rch (rws:List Rw):Prop:=∀ S:Nat→Prop,S 0→(∀ (i:Nat) r,rws[i]?=some r→S i→∀ q∈r.2,S q.2)→∀ i,i < rws.length→S i
def Bs (bs:List Bool):List V:=bs.map V.bl
def Ns (ns:List Nat):List V:=ns.map fun i=>V.int (i:Nat)
theorem has_ns {H:Hp} {a:Addr} {ns:List Nat} (h:SqL K H a (Ns ns)):HasD K H 1 (.lst (ns.map fun i=>Dt.int (i:Nat))) (.ref a):=by
 refine .lst h ?_
 unfold Ns
 clear h
 induction ns with
 | nil=>exact .nil
 | cons n ns ih=>exact .cons (.int _) ih
theorem atN {xs:List V} {j:Nat} {x:V} (h:xs[j]?=some x):atI xs (j:Int)=some x:=atI_nat h
theorem ixN_at {n j:Nat} (h:j < n):ixN n (j:Int)=some j:=by
 unfold ixN
 rw [if_pos (by omega),if_pos (by omega)]
 congr 1
def falses (bs:List Bool):Nat:=bs.countP (· == false)
theorem falses_set {bs:List Bool} {j:Nat} (h:bs[j]?=some false):falses (bs.set j true) + 1=falses bs:=by
 induction bs generalizing j with
 | nil=>simp at h
 | cons b bs ih=>
  cases j with
  | zero=>
   simp at h
   subst h
   simp [falses]
  | succ j=>
   simp at h
   have:=ih h
   unfold falses at *
   rw [List.set_cons_succ,List.countP_cons,List.countP_cons]
   omega
structure RI (rws:List Rw) (bs:List Bool) (wt:List Nat):Prop where
 len:bs.length=rws.length
 zero:bs[0]?=some true
 wtt:∀ x∈wt,bs[x]?=some true
 cl:∀ (i:Nat) r,rws[i]?=some r→bs[i]?=some true→i∈wt∨∀ q∈r.2,bs[q.2]?=some true
 ms:2 * falses bs + wt.length≤2 * rws.length
structure RJ (rws:List Rw) (bs:List Bool) (wt:List Nat) (ps:List (Nat × Nat)) (bs':List Bool) (wt':List Nat):Prop where
 len:bs'.length=rws.length
 up:∀ i:Nat,bs[i]?=some true→bs'[i]?=some true
 done:∀ q∈ps,bs'[q.2]?=some true
 wtt:∀ x∈wt',bs'[x]?=some true
 sub:∀ x∈wt,x∈wt'
 new:∀ i:Nat,bs'[i]?=some true→bs[i]?=some true∨i∈wt'
 ms:2 * falses bs' + wt'.length≤2 * falses bs + wt.length
theorem RJ.old {rws : List Rw} {bs bs' : List Bool} {wt wt' : List Nat} {ps : List (Nat × Nat)} {q : Nat × Nat} (h : RJ rws bs wt ps bs' wt') (hq : bs'[q.2]? = some true) : RJ rws bs wt (ps ++ [q]) bs' wt' :=
  ⟨h.len, h.up, fun x hx => by rcases List.mem_append.mp hx with z | z; · exact h.done x z
                               · rw [List.mem_singleton.mp z]; exact hq, h.wtt, h.sub, h.new, h.ms⟩
theorem set_true {bs:List Bool} {i j:Nat} (h:bs[i]?=some true):(bs.set j true)[i]?=some true:=by
 rw [List.getElem?_set]
 split
 ·have:=(List.getElem?_eq_some_iff.mp h).1
  rename_i e
  subst e
  rw [if_pos this]
 ·exact h
theorem RJ.put {rws:List Rw} {bs bs':List Bool} {wt wt':List Nat} {ps:List (Nat × Nat)} {q:Nat × Nat} (h:RJ rws bs wt ps bs' wt') (hq:bs'[q.2]?=some false):RJ rws bs wt (ps ++ [q]) (bs'.set q.2 true) (wt' ++ [q.2]):=by
 have hlt:=(List.getElem?_eq_some_iff.mp hq).1
 have hs:(bs'.set q.2 true)[q.2]?=some true:=by rw [List.getElem?_set,if_pos rfl,if_pos hlt]
 refine ⟨by rw [List.length_set];exact h.len,fun i hi=>set_true (h.up i hi),fun x hx=>?_,fun x hx=>?_,fun x hx=>List.mem_append_left _ (h.sub x hx),fun i hi=>?_,?_⟩
 ·rcases List.mem_append.mp hx with z | z
  ·exact set_true (h.done x z)
  ·rw [List.mem_singleton.mp z];exact hs
 ·rcases List.mem_append.mp hx with z | z
  ·exact set_true (h.wtt x z)
  ·rw [List.mem_singleton.mp z];exact hs
 ·by_cases e:q.2=i
  ·exact .inr (List.mem_append_right _ (by rw [e];simp))
  ·rw [List.getElem?_set,if_neg e] at hi
   exact (h.new i hi).imp id fun z=>List.mem_append_left _ z
 ·have:=falses_set hq
  have:=h.ms
  rw [List.length_append];simp;omega
theorem RI.next {rws:List Rw} {bs bs':List Bool} {wt wt':List Nat} {r:Rw} {st:Nat} (h:RI rws bs (wt ++ [st])) (hr:rws[st]?=some r) (j:RJ rws bs wt r.2 bs' wt'):RI rws bs' wt':=by
 refine ⟨j.len,j.up 0 h.zero,j.wtt,fun i r' hr' hi=>?_,by have h1:=j.ms;have h2:=h.ms;rw [List.length_append] at h2;simp at h2;omega⟩
 rcases j.new i hi with z | z
 ·rcases h.cl i r' hr' z with y | y
  ·rcases List.mem_append.mp y with y | y
   ·exact .inl (j.sub i y)
   ·rw [List.mem_singleton.mp y,hr] at hr'
    cases hr'
    exact .inr j.done
  ·exact .inr fun q hq=>j.up _ (y q hq)
 ·exact .inl z
theorem RI.all {rws:List Rw} {bs:List Bool} (h:RI rws bs []) (hR:Rch rws):bs=List.replicate rws.length true:=by
 have:=hR (fun i=>bs[i]?=some true) h.zero fun i r hr hi=>(h.cl i r hr hi).resolve_left (by simp)
 apply List.ext_getElem?
 intro i
 by_cases hi:i < rws.length
 ·rw [this i hi,List.getElem?_replicate,if_pos hi]
 ·rw [List.getElem?_eq_none (by rw [h.len];omega),List.getElem?_eq_none (by rw [List.length_replicate];omega)]
def spReached:Sp:=fun vs H Q _=>∃ (t:Addr) (rws:List Rw),vs=[.ref t]∧TabAt H t rws∧Lead rws∧Rch rws∧
 ∀ (p:Addr) (H':Hp),Same H H'→H' p=some (.lst (Bs (List.replicate rws.length true)))→Q (.ref p) H'
theorem rep_flat {α:Type} (n:Nat) (x:α):(List.replicate n [x]).flatten=List.replicate n x:=by
 induction n with
 | zero=>rfl
 | succ n ih=>rw [List.replicate_succ,List.flatten_cons,ih];rfl
theorem ok_reached (D:DefAt K mg "_law_reached" s_reached ["_law_table"]) (n_len:mg "len"=none):Def P w K mg base "_law_reached" 1 ["_law_table"] spReached:=by
 refine D.qok sc_reached (fun vs H Q E h=>?_) (fun f cdv A outer s H vs Q E hr h=>?_)
 ·obtain ⟨t,rws,rfl,_⟩:=h
  rfl
 ·obtain ⟨t,rws,rfl,⟨ra,ht,rt⟩,hL,hR,q⟩:=h
  have hu:=hu_of hr
  have hz:∀ n,n≤8001→n < sizeLine:=fun n h=>Nat.lt_of_le_of_lt h (by decide)
  have few:=hL.few
  have pos:=hL.pos
  refine ⟨_,(qss_cons (qs_set (i:=1) sc_reached.nd rfl (Or.inl rfl) (qe_op op_rep (qe_lst (qa_cons qe_bl qa_nil)) (qe_callB call_len_seq (by rfl) n_len PySem.boot_len (qa_cons (qv 0) qa_nil)))) (qss_cons (qs_asg qe_bl (qg_sub (qv 1) qe_int set_list)) (qss_cons (qs_set (i:=2) sc_reached.nd rfl (Or.inl rfl) (qe_lst (qa_cons qe_int qa_nil))) (qss_cons (qs_while PassesOwn.never (qt_cmpR (op_neD hr.units) (qv 2) (qe_lst qa_nil) (nomark _)) (qss_cons (qs_set (i:=3) sc_reached.nd rfl (Or.inl rfl) (qe_bm0 PySem.F.plainAttrs_list PySem.F.slot_list_pop PySem.F.type_list_pop mt_pop (qv 2))) (qss_one (qs_for PassesOwn.never rfl (qi_tup (qe_ix ix_tup (qe_ix ix_tup (qv 0) (qv 3) (fun _ _=>rfl)) qe_int (fun _ _=>rfl))) (qg_tup rfl (qgs_cons (qg_name (i:=4) sc_reached.nd rfl (Or.inl rfl)) (qgs_cons (qg_name (i:=5) sc_reached.nd rfl (Or.inl rfl)) qgs_nil))) (qss_one (qs_if (qt_not (qt_val (qe_ix ix_list (qv 1) (qv 5) (fun _ _=>rfl)))) (qss_cons (qs_asg qe_bl (qg_sub (qv 1) (qv 5) set_list)) (qss_one (qs_expr (qe_bm PySem.F.plainAttrs_list PySem.F.slot_list_append PySem.F.type_list_append mt_append (qv 2) (qa_cons (qv 5) qa_nil))))) qss_nil)))))) (qss_one (qs_ret (qv 1))))))),?_⟩
  refine ⟨by show 1≤sizeLine;decide,fun l0 hl0=>?_⟩
  have s1:Same H (upd H l0 (.lst [.bl false])):=Same.upd hl0
  have e1:upd H l0 (.lst [.bl false]) l0=some (.lst [.bl false]):=upd_same
  generalize upd H l0 (.lst [.bl false])=H1 at s1 e1 ⊢
  have hra:(ra.map V.ref).length=rws.length:=by rw [List.length_map,rt.len]
  refine ⟨_,rfl,t,_,rfl,.inr (SqT.of (s1 _ _ ht)),l0,_,_,rfl,rfl,e1,by omega,by omega,by rw [hra];exact Nat.le_of_lt (hz _ (by simp;omega)),fun B hB=>?_⟩
  have s2:Same H1 (upd H1 B (.lst (List.replicate ((ra.map V.ref).length:Int).toNat [V.bl false]).flatten)):=Same.upd hB
  have e2:upd H1 B (.lst (List.replicate ((ra.map V.ref).length:Int).toNat [V.bl false]).flatten) B=some (.lst (Bs (List.replicate rws.length false))):=by
   rw [upd_same,rep_flat,hra];simp [Bs]
  generalize upd H1 B (.lst (List.replicate ((ra.map V.ref).length:Int).toNat [V.bl false]).flatten)=H2 at s2 e2 ⊢
  refine ⟨_,rfl,B,_,_,0,rfl,rfl,e2,ixN_at (j:=0) (by rw [Bs,List.length_map,List.length_replicate];exact pos),?_⟩
  have hB0:H B=none:=s1.free hB
  have e3:upd H2 B (.lst ((Bs (List.replicate rws.length false)).set 0 (.bl true))) B=some (.lst (Bs ((List.replicate rws.length false).set 0 true))):=by rw [upd_same];simp [Bs,List.map_set]
  have s3:Same H (upd H2 B (.lst ((Bs (List.replicate rws.length false)).set 0 (.bl true)))):=(s1.trans s2).upd' hB0
  generalize upd H2 B (.lst ((Bs (List.replicate rws.length false)).set 0 (.bl true)))=H3 at s3 e3 ⊢
  refine ⟨by show 1≤sizeLine;decide,fun W hW=>?_⟩
  have hW0:H W=none:=s3.free hW
  have nBW:B≠W:=ne_of_none e3 hW
  have s4:Same H (upd H3 W (.lst [.int 0])):=s3.upd' hW0
  have e4:upd H3 W (.lst [.int 0]) B=some (.lst (Bs ((List.replicate rws.length false).set 0 true))):=by rw [upd_ne nBW];exact e3
  have e5:upd H3 W (.lst [.int 0]) W=some (.lst (Ns [0])):=upd_same
  generalize upd H3 W (.lst [.int 0])=H4 at s4 e4 e5 ⊢
  refine ⟨fun m σ H5=>∃ (v3 v4 v5:Option V) (bs:List Bool) (wt:List Nat),σ=[some (.ref t),some (.ref B),some (.ref W),v3,v4,v5]∧Same H H5∧H5 B=some (.lst (Bs bs))∧H5 W=some (.lst (Ns wt))∧RI rws bs wt∧m=2 * falses bs + wt.length,
   ⟨_,none,none,none,_,[0],rfl,s4,e4,e5,⟨by simp,by rw [List.getElem?_set,if_pos rfl,if_pos (by simpa using pos)],fun x hx=>?_,fun i r hr hi=>?_,?_⟩,rfl⟩,?_⟩
  ·rw [List.mem_singleton.mp hx,List.getElem?_set,if_pos rfl,if_pos (by simpa using pos)]
  ·by_cases e:0=i
   ·exact .inl (by rw [← e];simp)
   ·rw [List.getElem?_set,if_neg e,List.getElem?_replicate] at hi
    split at hi <;> simp at hi
  ·have h1:=falses_set (bs:=List.replicate rws.length false) (j:=0) (by rw [List.getElem?_replicate,if_pos pos])
   have h2:falses (List.replicate rws.length false)≤rws.length:=by
    have:=List.countP_le_length (p:=(· == false)) (l:=List.replicate rws.length false)
    rw [List.length_replicate] at this
    exact this
   simp
   omega
  ·rintro m σ H5 ⟨v3,v4,v5,bs,wt,rfl,s5,hB5,hW5,R,rfl⟩
   refine ⟨_,rfl,by show 0≤sizeLine;decide,fun Z hZ=>?_⟩
   have s6:Same H5 (upd H5 Z (.lst [])):=Same.upd hZ
   have e6:upd H5 Z (.lst []) Z=some (.lst (Ns [])):=upd_same
   have hZ0:H Z=none:=s5.free hZ
   have nBZ:B≠Z:=ne_of_none hB5 hZ
   have nWZ:W≠Z:=ne_of_none hW5 hZ
   generalize upd H5 Z (.lst [])=H6 at s6 e6 ⊢
   have hB6:=s6 _ _ hB5
   have hW6:=s6 _ _ hW5
   have s56:=s5.trans s6
   refine ⟨1,_,_,by decide,has_ns (SqL.of hW6),has_ns (SqL.of e6),_,rfl,?_⟩
   rcases List.eq_nil_or_concat wt with rfl | ⟨wt,st,rfl⟩
   ·refine ite2 (fun c=>by simp at c) (fun _=>⟨_,rfl,q B H6 s56 ?_⟩)
    rw [← R.all hR];exact hB6
   ·rw [List.concat_eq_append] at R hW6 ⊢
    have hst:=R.wtt st (by simp)
    have hsl:=(List.getElem?_eq_some_iff.mp hst).1
    obtain ⟨r,hrw⟩:∃ r,rws[st]?=some r:=⟨_,List.getElem?_eq_getElem (by rw [← R.len];exact hsl)⟩
    obtain ⟨ar,har⟩:∃ ar,ra[st]?=some ar:=⟨_,List.getElem?_eq_getElem (by rw [rt.len,← R.len];exact hsl)⟩
    refine ite2 (fun _=>?_) (fun c=>absurd c (by simp))
    refine ⟨fun σ H7=>∃ (v3 v4 v5:Option V) (bs':List Bool) (wt':List Nat),σ=[some (.ref t),some (.ref B),some (.ref W),v3,v4,v5]∧Same H H7∧H7 B=some (.lst (Bs bs'))∧H7 W=some (.lst (Ns wt'))∧RJ rws bs wt r.2 bs' wt',?_,?_⟩
    ·rintro σ' H7 ⟨v3,v4,v5,bs',wt',rfl,s7,hB7,hW7,J⟩
     refine ⟨2 * falses bs' + wt'.length,?_,v3,v4,v5,bs',wt',rfl,s7,hB7,hW7,R.next hrw J,rfl⟩
     have:=J.ms
     rw [List.length_append];simp;omega
    ·refine ⟨_,rfl,.inl ⟨rfl,_,SqL.of hW6⟩,W,_,.int st,rfl,rfl,hW6,?_,?_⟩
     ·simp [Ns]
     have ed:(Ns (wt ++ [st])).dropLast=Ns wt:=by simp [Ns]
     rw [ed]
     have s7:Same H (upd H6 W (.lst (Ns wt))):=s56.upd' hW0
     have hB7:upd H6 W (.lst (Ns wt)) B=some (.lst (Bs bs)):=by rw [upd_ne nBW];exact hB6
     have hW7:upd H6 W (.lst (Ns wt)) W=some (.lst (Ns wt)):=upd_same
     generalize upd H6 W (.lst (Ns wt))=H7 at s7 hB7 hW7 ⊢
     obtain ⟨pa,pas,h1,h2,qt⟩:=rt.at_ st ar r har hrw
     have qlen:=qt.len
     refine ⟨_,rfl,_,rfl,t,_,_,.ref ar,rfl,rfl,SqT.of (s7 _ _ ht),atN (by rw [List.getElem?_map,har];rfl),ar,_,1,_,rfl,rfl,SqT.of (s7 _ _ h1),atI_nat (j:=1) rfl,pa,rfl,⟨_,SqT.of (s7 _ _ h2)⟩,for_tup (K:=K) (a:=pa) (xs:=pas.map V.ref) (fun j σ H8=>∃ (v4 v5:Option V) (bs':List Bool) (wt':List Nat),σ=[some (.ref t),some (.ref B),some (.ref W),some (.int st),v4,v5]∧Same H H8∧H8 B=some (.lst (Bs bs'))∧H8 W=some (.lst (Ns wt'))∧RJ rws bs wt (r.2.take j) bs' wt')
      ⟨v4,v5,bs,wt,rfl,s7,hB7,hW7,⟨R.len,fun i h=>h,fun q hq=>by simp at hq,fun x hx=>R.wtt x (List.mem_append_left _ hx),fun x hx=>hx,fun i h=>.inl h,Nat.le_refl _⟩⟩ (fun j σ H8 _ ⟨_,_,_,_,_,sm,_⟩=>SqT.of (sm _ _ h2)) ?_ ?_⟩
     ·rintro j y σ H8 hy ⟨u4,u5,bs',wt',rfl,s8,hB8,hW8,J⟩
      obtain ⟨aq,haq,rfl⟩:=rt_get hy
      have hjq:j < pas.length:=(List.getElem?_eq_some_iff.mp haq).1
      obtain ⟨qv',hq'⟩:∃ q',r.2[j]?=some q':=⟨_,List.getElem?_eq_getElem (by omega)⟩
      have hq8:=s8 _ _ (qt.at_ j aq qv' haq hq')
      have qlt:=hL.lt r (List.mem_of_getElem? hrw) qv' (List.mem_of_getElem? hq')
      have wl:wt'.length≤8000:=by
       have h1:=J.ms
       have h2:=R.ms
       rw [List.length_append] at h2
       omega
      rw [take_snoc hq']
      obtain ⟨b,hb⟩:∃ b,bs'[qv'.2]?=some b:=⟨_,List.getElem?_eq_getElem (by rw [J.len];exact qlt)⟩
      refine ⟨aq,_,rfl,SqT.of hq8,rfl,_,_,rfl,_,_,rfl,rfl,?_⟩
      refine ⟨_,rfl,_,rfl,B,_,_,.bl b,rfl,rfl,SqL.of hB8,atN (by rw [Bs,List.getElem?_map,hb];rfl),_,rfl,?_⟩
      cases b with
      | true=>exact iteF ⟨_,_,bs',wt',rfl,s8,hB8,hW8,J.old hb⟩
      | false=>
       refine iteT ⟨_,rfl,_,rfl,B,_,_,qv'.2,rfl,rfl,hB8,ixN_at (by rw [Bs,List.length_map,J.len];exact qlt),?_⟩
       have s9:Same H (upd H8 B (.lst ((Bs bs').set qv'.2 (.bl true)))):=s8.upd' hB0
       have hB9:upd H8 B (.lst ((Bs bs').set qv'.2 (.bl true))) B=some (.lst (Bs (bs'.set qv'.2 true))):=by rw [upd_same];simp [Bs,List.map_set]
       have hW9:upd H8 B (.lst ((Bs bs').set qv'.2 (.bl true))) W=some (.lst (Ns wt')):=by rw [upd_ne nBW.symm];exact hW8
       generalize upd H8 B (.lst ((Bs bs').set qv'.2 (.bl true)))=H9 at s9 hB9 hW9 ⊢
       refine ⟨_,rfl,.inl ⟨rfl,_,SqL.of hW9⟩,_,rfl,W,_,_,rfl,rfl,hW9,by rw [Ns,List.length_map];exact hz _ (by omega),?_⟩
       exact ⟨_,_,_,wt' ++ [qv'.2],rfl,s9.upd' hW0,by rw [upd_ne nBW];exact hB9,by rw [upd_same];simp [Ns],J.put hb⟩
     ·rintro σ H8 ⟨u4,u5,bs',wt',rfl,s8,hB8,hW8,J⟩
      rw [List.length_map,qlen,List.take_length] at J
      exact ⟨_,_,_,bs',wt',rfl,s8,hB8,hW8,J⟩
end
end My
end
section
set_option Elab.async false
set_option linter.all false
set_option maxRecDepth 100000
set_option maxHeartbeats 2000000
namespace My
open PySem L2
section
variable {P:Program} {w:World} {K:PySem.W.Frag} {mg:Str→Option Value} {base:Heap}
structure Cnt (rws:List Rw) (c ht:Nat→Nat):Prop where
 eq:∀ (i:Nat) r,rws[i]?=some r→c i=(if r.1 then 1 else 0) + (r.2.map fun q=>c q.2).sum
 dn:∀ (i:Nat) r,rws[i]?=some r→∀ q∈r.2,ht q.2 < ht i
 top:∀ i,i < rws.length→ht i≤13
 le:∀ i,i < rws.length→c i≤610
 wide:∀ r∈rws,r.2.length≤700
def oV:Option Nat→V
 | none=>.non
 | some k=>.int (k:Nat)
def Os (xs:List (Option Nat)):List V:=xs.map oV
theorem os_flat (xs:List (Option Nat)):(Os xs).all flatV=true:=by
 rw [List.all_eq_true]
 intro x hx
 obtain ⟨o,_,rfl⟩:=List.mem_map.mp hx
 cases o <;> rfl
theorem os_non (xs:List (Option Nat)):inV .non (Os xs)=decide (none∈xs):=by
 unfold inV Os
 rw [List.any_map]
 induction xs with
 | nil=>rfl
 | cons o xs ih=>
  rw [List.any_cons,ih]
  cases o with
  | none=>simp [oV,eqV]
  | some k=>simp [oV,eqV]
theorem os_ints (ks:List Nat):Os (ks.map some)=(ks.map fun k=>((k:Nat):Int)).map V.int:=by
 unfold Os
 rw [List.map_map,List.map_map];rfl
theorem sum_cast (ks:List Nat):(ks.map fun k=>((k:Nat):Int)).sum=((ks.sum:Nat):Int):=by
 induction ks with
 | nil=>rfl
 | cons k ks ih=>rw [List.map_cons,List.sum_cons,List.sum_cons,ih];omega
structure CI (n:Nat) (c ht:Nat→Nat) (T k:Nat) (xs:List (Option Nat)):Prop where
 len:xs.length=n
 rt:∀ (i:Nat) x,xs[i]?=some (some x)→x=c i
 dn:∀ i,i < n→ht i < T→xs[i]?=some (some (c i))
 nw:∀ i,n - k≤i→i < n→ht i < T + 1→xs[i]?=some (some (c i))
theorem CI.turn {n:Nat} {c ht:Nat→Nat} {T:Nat} {xs:List (Option Nat)} (h:CI n c ht T n xs):CI n c ht (T + 1) 0 xs:=
 ⟨h.len,h.rt,fun i hi ht=>h.nw i (by omega) hi ht,fun i h1 h2 _=>by omega⟩
theorem CI.old {n:Nat} {c ht:Nat→Nat} {T k i:Nat} {xs:List (Option Nat)} (h:CI n c ht T k xs) (hk:k < n) (hi:i=n - 1 - k) (hx:ht i < T + 1→xs[i]?=some (some (c i))):CI n c ht T (k + 1) xs:=
 ⟨h.len,h.rt,h.dn,fun j h1 h2 h3=>by
  by_cases e:j=i
  ·rw [e] at h3 ⊢;exact hx h3
  ·exact h.nw j (by omega) h2 h3⟩
theorem CI.put {n:Nat} {c ht:Nat→Nat} {T k i:Nat} {xs:List (Option Nat)} (h:CI n c ht T k xs) (hk:k < n) (hi:i=n - 1 - k):CI n c ht T (k + 1) (xs.set i (some (c i))):=by
 have hil:i < xs.length:=by rw [h.len];omega
 have h1:∀ j,(xs.set i (some (c i)))[j]?=if i=j then some (some (c i)) else xs[j]?:=fun j=>by
  rw [List.getElem?_set]
  split
  ·simp [hil]
  ·rfl
 refine ⟨by rw [List.length_set];exact h.len,fun j x hj=>?_,fun j hj ht=>?_,fun j a1 a2 a3=>?_⟩
 ·rw [h1] at hj
  split at hj
  ·rename_i e
   cases hj;rw [e]
  ·exact h.rt j x hj
 ·rw [h1]
  split
  ·rename_i e;rw [e]
  ·exact h.dn j hj ht
 ·rw [h1]
  split
  ·rename_i e;rw [e]
  ·exact h.nw j (by omega) a2 a3
def spCounts:Sp:=fun vs H Q _=>∃ (t:Addr) (rws:List Rw) (c ht:Nat→Nat),vs=[.ref t]∧TabAt H t rws∧Lead rws∧Cnt rws c ht∧
 ∀ (p:Addr) (H':Hp),Same H H'→H' p=some (.lst (Ns ((List.range rws.length).map c)))→Q (.ref p) H'
theorem CI.all {n:Nat} {c ht:Nat→Nat} {xs:List (Option Nat)} (h:CI n c ht 14 0 xs) (top:∀ i,i < n→ht i≤13):Os xs=Ns ((List.range n).map c):=by
 have:xs=((List.range n).map c).map some:=by
  apply List.ext_getElem?
  intro i
  by_cases hi:i < n
  ·rw [h.dn i hi (by have:=top i hi;omega),List.getElem?_map,List.getElem?_map,List.getElem?_range hi];rfl
  ·rw [List.getElem?_eq_none (by rw [h.len];omega),List.getElem?_eq_none (by simp;omega)]
 rw [this]
 unfold Os Ns
 rw [List.map_map];rfl
theorem ok_counts (D:DefAt K mg "_law_counts" s_counts ["_law_table"]) (n_len:mg "len"=none) (n_range:mg "range"=none) (n_sum:mg "sum"=none) (n_int:mg "int"=none):Def P w K mg base "_law_counts" 1 ["_law_table"] spCounts:=by
 refine D.qok sc_counts (fun vs H Q E h=>?_) (fun f cdv A outer s H vs Q E hr h=>?_)
 ·obtain ⟨t,rws,c,ht,rfl,_⟩:=h
  rfl
 ·obtain ⟨t,rws,c,hgt,rfl,⟨ra,ht,rt⟩,hL,hC,q⟩:=h
  have hu:=hu_of hr
  have hz:∀ n,n≤8001→n < sizeLine:=fun n h=>Nat.lt_of_le_of_lt h (by decide)
  have few:=hL.few
  have pos:=hL.pos
  have hra:(ra.map V.ref).length=rws.length:=by rw [List.length_map,rt.len]
  refine ⟨_,(qss_cons (qs_set (i:=1) sc_counts.nd rfl (Or.inr rfl) (qe_op op_rep (qe_lst (qa_cons qe_non qa_nil)) (qe_callB call_len_seq (by rfl) n_len PySem.boot_len (qa_cons (qv 0) qa_nil)))) (qss_cons (qs_for PassesOwn.never rfl (qi_range1 (by rfl) n_range (qa_cons qe_int qa_nil)) (qg_name (i:=2) sc_counts.nd rfl (Or.inl rfl)) (qss_one (qs_for PassesOwn.never rfl (qi_range1 (by rfl) n_range (qa_cons (qe_callB call_len_seq (by rfl) n_len PySem.boot_len (qa_cons (qv 0) qa_nil)) qa_nil)) (qg_name (i:=3) sc_counts.nd rfl (Or.inl rfl)) (qss_cons (qs_set (i:=4) sc_counts.nd rfl (Or.inl rfl) (qe_op op_sub (qe_op op_sub (qe_callB call_len_seq (by rfl) n_len PySem.boot_len (qa_cons (qv 0) qa_nil)) qe_int) (qv 3))) (qss_cons (qs_setG (ix:=5) (ns:=["_law_sign","_law_there"]) sc_counts.nd rfl (Or.inl rfl) rfl (CompG.of ["_law_table","_law_counts_here","_law_turn","_law_k","_law_state","_law_some"] [] (by kernel_rfl)) (qi_tup (qe_ix ix_tup (qe_ix ix_tup (qv 0) (qv 4) (fun _ _=>rfl)) qe_int (fun _ _=>rfl))) (fun _ _ _ _ _=>(tg_tup2 K rfl (show (["_law_sign","_law_there","_law_table","_law_counts_here","_law_turn","_law_k","_law_state","_law_some"]:List Str).Nodup by decide +kernel) rfl rfl (by rfl) (by rfl))) (fun _ _ _ _ _=>qts_nil) (fun _ _ _ _ _=>(qe_ix (ix_listK K) (qv 3) (qv 1) (fun _ _=>rfl)))) (qss_one (qs_if (QW.qt (qw_and (qt_cmpR op_isN (qe_ix ix_list (qv 1) (qv 4) (fun _ _=>rfl)) qe_non (nomark _)) (qw_and1 (qt_cmpR op_notIn_seq qe_non (qv 5) rfl)))) (qss_one (qs_asg (qe_op op_add (qe_callTy call_int1 (by rfl) n_int PyProof.Rows.boot_int (qa_cons (qe_ix ix_tup (qe_ix ix_tup (qv 0) (qv 4) (fun _ _=>rfl)) qe_int (fun _ _=>rfl)) qa_nil)) (qe_callB (call_sumL rfl) (by rfl) n_sum PyProof.Rows.boot_sum (qa_cons (qv 5) qa_nil))) (qg_sub (qv 1) (qv 4) set_list))) qss_nil))))))) (qss_one (qs_ret (qv 1))))),?_⟩
  refine ⟨by show 1≤sizeLine;decide,fun l0 hl0=>?_⟩
  have s1:Same H (upd H l0 (.lst [.non])):=Same.upd hl0
  have e1:upd H l0 (.lst [.non]) l0=some (.lst [.non]):=upd_same
  generalize upd H l0 (.lst [.non])=H1 at s1 e1 ⊢
  refine ⟨_,rfl,t,_,rfl,.inr (SqT.of (s1 _ _ ht)),l0,_,_,rfl,rfl,e1,by omega,by omega,by rw [hra];exact Nat.le_of_lt (hz _ (by simp;omega)),fun B hB=>?_⟩
  have s2:Same H1 (upd H1 B (.lst (List.replicate ((ra.map V.ref).length:Int).toNat [V.non]).flatten)):=Same.upd hB
  have e2:upd H1 B (.lst (List.replicate ((ra.map V.ref).length:Int).toNat [V.non]).flatten) B=some (.lst (Os (List.replicate rws.length none))):=by
   rw [upd_same,rep_flat,hra];simp [Os,oV]
  have hB0:H B=none:=s1.free hB
  generalize upd H1 B (.lst (List.replicate ((ra.map V.ref).length:Int).toNat [V.non]).flatten)=H2 at s2 e2 ⊢
  have s12:=s1.trans s2
  refine ⟨_,rfl,by decide,by decide,?_⟩
  refine for_range (lo:=0) (n:=14) (fun T σ H3=>∃ (v2 v3 v4 v5:Option V) (xs:List (Option Nat)),σ=[some (.ref t),some (.ref B),v2,v3,v4,v5]∧Same H H3∧H3 B=some (.lst (Os xs))∧CI rws.length c hgt T 0 xs)
   ⟨none,none,none,none,_,rfl,s12,e2,⟨by simp,fun i x h=>?_,fun i _ h=>by omega,fun i h1 h2 _=>by omega⟩⟩ ?_ ?_
  ·rw [List.getElem?_replicate] at h
   split at h <;> simp at h
  ·rintro T σ H3 hT ⟨v2,v3,v4,v5,xs,rfl,s3,hB3,C3⟩
   refine ⟨_,rfl,t,_,rfl,.inr (SqT.of (s3 _ _ ht)),_,rfl,by omega,by omega,?_⟩
   rw [hra,Int.toNat_natCast]
   refine for_range (lo:=0) (n:=rws.length) (fun k σ H4=>∃ (v3 v4 v5:Option V) (xs:List (Option Nat)),σ=[some (.ref t),some (.ref B),some (.int (0 + (T:Int))),v3,v4,v5]∧Same H H4∧H4 B=some (.lst (Os xs))∧CI rws.length c hgt T k xs)
    ⟨_,_,_,xs,rfl,s3,hB3,C3⟩ ?_ ?_
   ·rintro k σ H4 hk ⟨u3,u4,u5,ys,rfl,s4,hB4,C4⟩
    refine ⟨_,rfl,t,_,rfl,.inr (SqT.of (s4 _ _ ht)),_,_,rfl,rfl,_,rfl,_,_,rfl,rfl,?_⟩
    obtain ⟨j,hj⟩:∃ j:Nat,j=rws.length - 1 - k:=⟨_,rfl⟩
    have ej:((ra.map V.ref).length:Int) - 1 - (0 + (k:Int))=(j:Int):=by rw [hra];omega
    show gName 4 (V.int (((ra.map V.ref).length:Int) - 1 - (0 + (k:Int)))) _ _ _
    rw [ej]
    have hjl:j < rws.length:=by omega
    obtain ⟨r,hrw⟩:∃ r,rws[j]?=some r:=⟨_,List.getElem?_eq_getElem hjl⟩
    obtain ⟨ar,har⟩:∃ ar,ra[j]?=some ar:=⟨_,List.getElem?_eq_getElem (by rw [rt.len];exact hjl)⟩
    obtain ⟨pa,pas,h1,h2,qt⟩:=rt.at_ j ar r har hrw
    have qlen:=qt.len
    have qlt:=fun q hq=>hL.lt r (List.mem_of_getElem? hrw) q hq
    have rwide:=hC.wide r (List.mem_of_getElem? hrw)
    have fB:∀ M,H4 M=none→B≠M:=fun M hM=>ne_of_none hB4 hM
    refine ⟨_,rfl,_,rfl,t,_,_,.ref ar,rfl,rfl,SqT.of (s4 _ _ ht),atN (by rw [List.getElem?_map,har];rfl),ar,_,1,_,rfl,rfl,SqT.of (s4 _ _ h1),atI_nat (j:=1) rfl,pa,rfl,⟨_,SqT.of (s4 _ _ h2)⟩,fun M hM=>compG2_tup (K:=K) (KT:=K) (a:=pa) (f:=hideS [] 0) (tt:=tYes) (xs:=pas.map V.ref) (fun i zs H6=>zs=Os ((r.2.take i).map fun q=>(ys[q.2]?).getD none)∧H6 M=some (.lst zs)∧Same H4 H6)
     ⟨rfl,upd_same,Same.upd hM⟩ (fun i zs H6 _ h=>SqT.of (h.2.2 _ _ (s4 _ _ h2))) ?_ ?_⟩
    ·rintro i x zs H6 hx ⟨rfl,hM6,s6⟩
     obtain ⟨aq,haq,rfl⟩:=rt_get hx
     have hiq:i < pas.length:=(List.getElem?_eq_some_iff.mp haq).1
     obtain ⟨qv',hq'⟩:∃ q',r.2[i]?=some q':=⟨_,List.getElem?_eq_getElem (by omega)⟩
     have hq6:=s6 _ _ (s4 _ _ (qt.at_ i aq qv' haq hq'))
     have ql:=qlt qv' (List.mem_of_getElem? hq')
     obtain ⟨o,ho⟩:∃ o,ys[qv'.2]?=some o:=⟨_,List.getElem?_eq_getElem (by rw [C4.len];exact ql)⟩
     refine turn2 rfl (SqT.of hq6) ?_
     refine ⟨_,rfl,_,rfl,B,_,_,oV o,rfl,rfl,SqL.of (s6 _ _ hB4),atN (by rw [Os,List.getElem?_map,ho];rfl),hM6,?_,Nxt.mk (by rw [List.length_map];exact hiq) ⟨?_,upd_same,s6.upd' hM⟩⟩
     ·rw [Os,List.length_map,List.length_map,List.length_take];exact small1000 (by omega)
     ·rw [take_snoc hq'];simp [Os,ho]
    ·rintro zs H6 ⟨rfl,hM6,s6⟩
     rw [List.length_map,qlen,List.take_length] at hM6
     have hB6:=s6 _ _ hB4
     have s46:=s4.trans s6
     obtain ⟨o,ho⟩:∃ o,ys[j]?=some o:=⟨_,List.getElem?_eq_getElem (by rw [C4.len];exact hjl)⟩
     refine ⟨_,rfl,_,rfl,B,_,_,oV o,rfl,rfl,SqL.of hB6,atN (by rw [Os,List.getElem?_map,ho];rfl),rfl,_,rfl,?_⟩
     cases o with
     | some x=>
      have hx:=C4.rt j x ho
      refine iteF (iteF ⟨_,_,_,ys,rfl,s46,hB6,C4.old hk hj fun _=>by rw [ho,hx]⟩)
     | none=>
      refine iteT ⟨_,rfl,M,_,rfl,.inl (SqL.of hM6),rfl,os_flat _,_,rfl,?_⟩
      rw [os_non]
      by_cases hn:none∈r.2.map fun q=>(ys[q.2]?).getD none
      ·rw [decide_eq_true hn]
       refine iteF ⟨_,_,_,ys,rfl,s46,hB6,C4.old hk hj fun hlt=>?_⟩
       obtain ⟨q',hq1,hq2⟩:=List.mem_map.mp hn
       have:=C4.dn q'.2 (qlt q' hq1) (by have:=hC.dn j r hrw q' hq1;omega)
       rw [this] at hq2
       cases hq2
      ·rw [decide_eq_false hn]
       have eks:(r.2.map fun q=>(ys[q.2]?).getD none)=(r.2.map fun q=>c q.2).map some:=by
        rw [List.map_map]
        refine List.map_congr_left fun q' hq1=>?_
        obtain ⟨o',ho'⟩:∃ o',ys[q'.2]?=some o':=⟨_,List.getElem?_eq_getElem (by rw [C4.len];exact qlt q' hq1)⟩
        cases o' with
        | none=>exact absurd (List.mem_map.mpr ⟨q',hq1,by rw [ho'];rfl⟩) hn
        | some x=>rw [ho'];show some x=some (c q'.2);rw [C4.rt _ _ ho']
       have hle:∀ x∈r.2.map fun q=>c q.2,x≤610:=fun x hx=>by
        obtain ⟨q',hq1,rfl⟩:=List.mem_map.mp hx
        exact hC.le _ (qlt q' hq1)
       rw [eks,os_ints] at hM6
       refine iteT ⟨_,rfl,_,rfl,t,_,_,.ref ar,rfl,rfl,SqT.of (s46 _ _ ht),atN (by rw [List.getElem?_map,har];rfl),ar,_,0,_,rfl,rfl,SqT.of (s46 _ _ h1),atI_nat (j:=0) rfl,.inr ⟨_,rfl,?_⟩⟩
       refine ⟨_,rfl,M,_,rfl,SqL.of hM6,by rw [List.length_map,List.length_map];omega,fun x hx=>?_,?_⟩
       ·obtain ⟨y,hy,rfl⟩:=List.mem_map.mp hx
        have:=hle y hy
        omega
       rw [sum_cast]
       refine ⟨_,_,rfl,rfl,?_⟩
       have ec:=hC.eq j r hrw
       have ev:(if r.1=true then (1:Int) else 0) + (((r.2.map fun q=>c q.2).sum:Nat):Int)=((c j:Nat):Int):=by
        rw [ec];cases r.1 <;> simp
       refine ⟨_,rfl,_,rfl,B,_,_,j,rfl,rfl,hB6,ixN_at (by rw [Os,List.length_map,C4.len];exact hjl),?_⟩
       refine ⟨_,_,_,ys.set j (some (c j)),rfl,s46.upd' hB0,?_,C4.put hk hj⟩
       rw [upd_same]
       unfold Os
       rw [List.map_set]
       show some (HO.lst (List.set _ j (V.int ((if r.1=true then (1:Int) else 0) + (((r.2.map fun q=>c q.2).sum:Nat):Int)))))=_
       rw [ev];rfl
   ·rintro σ H4 ⟨u3,u4,u5,ys,rfl,s4,hB4,C4⟩
    exact ⟨_,_,_,_,ys,rfl,s4,hB4,C4.turn⟩
  ·rintro σ H3 ⟨v2,v3,v4,v5,xs,rfl,s3,hB3,C3⟩
   refine ⟨_,rfl,q B H3 s3 ?_⟩
   rw [← C3.all hC.top];exact hB3
end
end My
end
section
set_option Elab.async false
set_option linter.all false
set_option maxRecDepth 100000
set_option maxHeartbeats 2000000
namespace My
open PySem L2
section
variable {P:Program} {w:World} {K:PySem.W.Frag} {mg:Str→Option Value} {base:Heap}
def mkOf (rws:List Rw) (cl:Nat→Int) (i:Nat):Mark:=match rws[i]? with
 | some r=>(Sum.inl (cl i),r.2.map fun q=>(keyS [q.1],Sum.inl (cl q.2)))
 | none=>(Sum.inl 0,[])
theorem mkOf_at {rws:List Rw} {cl:Nat→Int} {i:Nat} {r:Rw} (h:rws[i]?=some r):mkOf rws cl i=(Sum.inl (cl i),r.2.map fun q=>(keyS [q.1],Sum.inl (cl q.2))):=by unfold mkOf;rw [h]
def clL (n:Nat) (cl:Nat→Int):List Int:=(List.range n).map cl
theorem clL_mem {n:Nat} {cl:Nat→Int} {v:Int}:v∈once (clL n cl)↔∃ i,i < n∧cl i=v:=by
 rw [once_mem]
 unfold clL
 rw [List.mem_map]
 exact ⟨fun ⟨i,h,e⟩=>⟨i,List.mem_range.mp h,e⟩,fun ⟨i,h,e⟩=>⟨i,List.mem_range.mpr h,e⟩⟩
theorem clL_len {n:Nat} {cl:Nat→Int}:(once (clL n cl)).length≤n:=by
 have:=once_len (clL n cl)
 unfold clL at this
 rwa [List.length_map,List.length_range] at this
theorem clL_pos {n:Nat} {cl:Nat→Int} (h:0 < n):0 < (once (clL n cl)).length:=List.length_pos_of_mem (clL_mem.mpr ⟨0,h,rfl⟩)
theorem clL_all {n:Nat} {cl:Nat→Int} (h:∀ i j,i < n→j < n→cl i=cl j→i=j):(once (clL n cl)).length=n:=by
 have nd:(clL n cl).Nodup:=List.pairwise_map.mpr (List.nodup_range.imp_of_mem fun {a b} ha hb hne z=>hne (h a b (List.mem_range.mp ha) (List.mem_range.mp hb) z))
 have:=((List.perm_ext_iff_of_nodup (once_nd _) nd).mpr fun v=>once_mem _ v).length_eq
 rw [this]
 unfold clL
 rw [List.length_map,List.length_range]
theorem same_parts {n:Nat} {c p:Nat→Int} (hr:∀ i j,i < n→j < n→c i=c j→p i=p j) (hl:(once (clL n c)).length≤(once (clL n p)).length):∀ i j,i < n→j < n→p i=p j→c i=c j:=by
 intro i j hi hj hp
 apply Classical.byContradiction
 intro hne
 let f:Int→Int:=fun v=>match (List.range n).find? (fun k=>decide (c k=v)) with
  | some k=>p k
  | none=>0
 have hf:∀ k,k < n→f (c k)=p k:=fun k hk=>by
  show (match (List.range n).find? (fun x=>decide (c x=c k)) with
   | some k=>p k
   | none=>0)=p k
  cases e:(List.range n).find? (fun x=>decide (c x=c k)) with
  | none=>
   rw [List.find?_eq_none] at e
   exact absurd (decide_eq_true rfl) (e k (List.mem_range.mpr hk))
  | some m=>
   have h1:=List.find?_some e
   have h2:=List.mem_range.mp (List.mem_of_find?_eq_some e)
   exact hr m k h2 hk (of_decide_eq_true h1)
 have hsub:once (clL n p) ⊆ ((once (clL n c)).erase (c j)).map f:=fun v hv=>by
  obtain ⟨k,hk,rfl⟩:=clL_mem.mp hv
  by_cases e:c k=c j
  ·refine List.mem_map.mpr ⟨c i,(List.mem_erase_of_ne hne).mpr (clL_mem.mpr ⟨i,hi,rfl⟩),?_⟩
   rw [hf i hi,hp]
   exact (hr k j hk hj e).symm
  ·exact List.mem_map.mpr ⟨c k,(List.mem_erase_of_ne e).mpr (clL_mem.mpr ⟨k,hk,rfl⟩),hf k hk⟩
 have h1:=(once_nd (clL n p)).length_le_of_subset hsub
 have hm:c j∈once (clL n c):=clL_mem.mpr ⟨j,hj,rfl⟩
 rw [List.length_map,List.length_erase_of_mem hm] at h1
 have:=List.length_pos_of_mem hm
 omega
abbrev decM (m:Mark) (l:List Mark):Decidable (m∈l):=@List.instDecidableMemOfLawfulBEq Mark instBEqOfDecidableEq inferInstance m l
def ixM (l:List Mark) (m:Mark):Nat:=l.findIdx fun x=>decide (x=m)
theorem ixM_lt {l:List Mark} {m:Mark} (h:m∈l):ixM l m < l.length:=List.findIdx_lt_length_of_exists ⟨m,h,decide_eq_true rfl⟩
theorem ixM_at {l:List Mark} {m:Mark} (h:m∈l):l[ixM l m]?=some m:=by
 have hl:=ixM_lt h
 rw [List.getElem?_eq_getElem hl]
 have:=List.findIdx_getElem (p:=fun x=>decide (x=m)) (w:=hl)
 exact congrArg some (of_decide_eq_true this)
theorem ixM_app {l v:List Mark} {m:Mark} (h:m∈l):ixM (l ++ v) m=ixM l m:=by
 have:=ixM_lt h
 unfold ixM at this ⊢
 rw [List.findIdx_append,if_pos this]
def addM (acc:List Mark) (m:Mark):List Mark:=@ite _ (m∈acc) (decM m acc) acc (acc ++ [m])
theorem addM_in {acc:List Mark} {m:Mark} (h:m∈acc):addM acc m=acc:=if_pos h
theorem addM_out {acc:List Mark} {m:Mark} (h:m∉acc):addM acc m=acc ++ [m]:=if_neg h
def onceM (ms:List Mark):List Mark:=ms.foldl addM []
theorem onceM_snoc (ms:List Mark) (m:Mark):onceM (ms ++ [m])=addM (onceM ms) m:=by unfold onceM;rw [List.foldl_append];rfl
theorem onceM_ok (ms:List Mark):(onceM ms).Nodup∧(onceM ms).length≤ms.length∧∀ m,m∈onceM ms↔m∈ms:=by
 have:∀ (us acc:List Mark),acc.Nodup→(us.foldl addM acc).Nodup∧(us.foldl addM acc).length≤acc.length + us.length∧∀ t,t∈us.foldl addM acc↔t∈acc∨t∈us:=by
  intro us
  induction us with
  | nil=>intro acc h;exact ⟨h,by simp,fun t=>by simp⟩
  | cons u us ih=>
   intro acc h
   rw [List.foldl_cons]
   by_cases hm:u∈acc
   ·rw [addM_in hm]
    obtain ⟨h1,h2,h3⟩:=ih acc h
    refine ⟨h1,by rw [List.length_cons];omega,fun t=>?_⟩
    rw [h3,List.mem_cons]
    exact ⟨fun z=>z.imp id .inr,fun z=>z.elim .inl fun y=>y.elim (fun e=>.inl (e ▸ hm)) .inr⟩
   ·rw [addM_out hm]
    have nd:(acc ++ [u]).Nodup:=by
     rw [List.nodup_append]
     exact ⟨h,by simp,fun x hx y hy e=>hm (by rw [List.mem_singleton.mp hy] at e;rw [← e];exact hx)⟩
    obtain ⟨h1,h2,h3⟩:=ih _ nd
    refine ⟨h1,by rw [List.length_append] at h2;simp at h2 ⊢;omega,fun t=>?_⟩
    rw [h3,List.mem_append,List.mem_singleton,List.mem_cons,or_assoc]
 obtain ⟨h1,h2,h3⟩:=this ms [] List.nodup_nil
 exact ⟨h1,by simpa [onceM] using h2,fun t=>by rw [onceM,h3];simp⟩
theorem onceM_pre:∀ (us ms:List Mark),∃ vs,onceM (ms ++ us)=onceM ms ++ vs
 | [],ms=>⟨[],by simp⟩
 | u :: us,ms=>by
  obtain ⟨vs,e⟩:=onceM_pre us (ms ++ [u])
  rw [List.append_assoc] at e
  have e:onceM (ms ++ u :: us)=onceM (ms ++ [u]) ++ vs:=e
  rw [e,onceM_snoc]
  by_cases h:u∈onceM ms
  ·rw [addM_in h];exact ⟨vs,rfl⟩
  ·rw [addM_out h];exact ⟨u :: vs,by rw [List.append_assoc];rfl⟩
def mks (rws:List Rw) (cl:Nat→Int) (i:Nat):List Mark:=(List.range i).map (mkOf rws cl)
theorem mks_succ (rws:List Rw) (cl:Nat→Int) (i:Nat):mks rws cl (i + 1)=mks rws cl i ++ [mkOf rws cl i]:=by unfold mks;rw [List.range_succ,List.map_append];rfl
def ncl (rws:List Rw) (cl:Nat→Int) (i:Nat):Int:=((ixM (onceM (mks rws cl (i + 1))) (mkOf rws cl i):Nat):Int)
theorem mks_pre (rws:List Rw) (cl:Nat→Int) {i n:Nat} (h:i≤n):∃ vs,onceM (mks rws cl n)=onceM (mks rws cl i) ++ vs:=by
 have e:mks rws cl n=mks rws cl i ++ (List.range' i (n - i)).map (mkOf rws cl):=by
  unfold mks
  rw [← List.map_append,List.range_eq_range',List.range_eq_range']
  congr 1
  have:=List.range'_append_1 (s:=0) (m:=i) (n:=n - i)
  rw [Nat.zero_add] at this
  rw [this]
  congr 1
  omega
 rw [e]
 exact onceM_pre _ _
theorem mk_in (rws:List Rw) (cl:Nat→Int) {i n:Nat} (h:i < n):mkOf rws cl i∈onceM (mks rws cl n):=((onceM_ok _).2.2 _).mpr (List.mem_map.mpr ⟨i,List.mem_range.mpr h,rfl⟩)
theorem ncl_at (rws:List Rw) (cl:Nat→Int) {i n:Nat} (h:i < n):ncl rws cl i=((ixM (onceM (mks rws cl n)) (mkOf rws cl i):Nat):Int):=by
 obtain ⟨vs,e⟩:=mks_pre rws cl (show i + 1≤n from h)
 unfold ncl
 rw [e,ixM_app (mk_in rws cl (Nat.lt_succ_self i))]
theorem ncl_iff (rws:List Rw) (cl:Nat→Int) {i j n:Nat} (hi:i < n) (hj:j < n):ncl rws cl i=ncl rws cl j↔mkOf rws cl i=mkOf rws cl j:=by
 rw [ncl_at rws cl hi,ncl_at rws cl hj]
 have m1:=mk_in rws cl hi
 have m2:=mk_in rws cl hj
 constructor
 ·intro h
  have h:ixM (onceM (mks rws cl n)) (mkOf rws cl i)=ixM (onceM (mks rws cl n)) (mkOf rws cl j):=by omega
  have a:=ixM_at m1
  have b:=ixM_at m2
  rw [h,b] at a
  exact (Option.some.inj a).symm
 ·intro h;rw [h]
structure YOk (ys:List (Mark × Addr × V)) (ks:List Mark):Prop where
 keys:ys.map (·.1)=ks
 vals:∀ (k:Nat) y,ys[k]?=some y→y.2.2=.int (k:Nat)
theorem val_off:∀ (ys:List (Mark × Addr × V)) (o:Nat),(∀ (k:Nat) y,ys[k]?=some y→y.2.2=.int ((o + k:Nat):Int))→∀ m,(m∈ys.map (·.1)→valM ys m=some (.int ((o + ixM (ys.map (·.1)) m:Nat):Int)))∧(m∉ys.map (·.1)→valM ys m=none)
 | [],_,_,m=>by simp [valM]
 | y :: ys,o,h,m=>by
  have h0:=h 0 y rfl
  have ih:=val_off ys (o + 1) (fun k z hz=>by rw [h (k + 1) z (by simpa using hz)];congr 2;omega) m
  unfold valM at ih ⊢
  by_cases e:y.1=m
  ·have hm:m∈(y :: ys).map (·.1):=by rw [← e];simp
   have hi:ixM ((y :: ys).map (·.1)) m=0:=by unfold ixM;rw [List.map_cons,List.findIdx_cons,decide_eq_true e];rfl
   refine ⟨fun _=>?_,fun z=>absurd hm z⟩
   rw [hi,List.find?_cons_of_pos (p:=fun y:Mark × Addr × V=>decide (y.1=m)) (decide_eq_true e)]
   show some y.2.2=_
   rw [h0]
  ·have hi:ixM ((y :: ys).map (·.1)) m=ixM (ys.map (·.1)) m + 1:=by unfold ixM;rw [List.map_cons,List.findIdx_cons,decide_eq_false e];rfl
   rw [List.find?_cons_of_neg (p:=fun y:Mark × Addr × V=>decide (y.1=m)) (by simpa using e),hi]
   refine ⟨fun z=>?_,fun z=>ih.2 fun y=>z (by rw [List.map_cons];exact List.mem_cons_of_mem _ y)⟩
   rw [List.map_cons] at z
   rw [ih.1 ((List.mem_cons.mp z).resolve_left fun y=>e y.symm),show o + 1 + ixM (ys.map (·.1)) m=o + (ixM (ys.map (·.1)) m + 1) by omega]
theorem YOk.val {ys:List (Mark × Addr × V)} {ks:List Mark} (h:YOk ys ks) (m:Mark):(m∈ks→valM ys m=some (.int ((ixM ks m:Nat):Int)))∧(m∉ks→valM ys m=none):=by
 have:=val_off ys 0 (fun k y hk=>by rw [h.vals k y hk,Nat.zero_add]) m
 rw [h.keys,Nat.zero_add] at this
 exact this
theorem YOk.snoc {ys:List (Mark × Addr × V)} {ks:List Mark} (h:YOk ys ks) (m:Mark) (b:Addr):YOk (ys ++ [(m,b,.int (ys.length:Nat))]) (ks ++ [m]):=by
 refine ⟨by rw [List.map_append,h.keys];rfl,fun k y hk=>?_⟩
 rcases Nat.lt_or_ge k ys.length with z | z
 ·rw [List.getElem?_append_left z] at hk
  exact h.vals k y hk
 ·rw [List.getElem?_append_right z] at hk
  have hk0:k - ys.length=0:=by
   have:=(List.getElem?_eq_some_iff.mp hk).1
   simp at this;omega
  rw [hk0] at hk
  have hk:(m,b,V.int (ys.length:Nat))=y:=by simpa using hk
  rw [← hk]
  show V.int _=V.int _
  congr 2
  omega
theorem MkAt.mv {H H':Hp} {b:Addr} {k:Mark} (h:MkAt H b k) (kt:Kt H H'):MkAt H' b k:=by
 obtain ⟨c,ps,h1,h2,h3⟩:=h
 exact ⟨c,ps,kt _ _ h1,kt _ _ h2,Paired.imp' (fun p q hp=>kt _ _ hp) h3⟩
def Apart (rws:List Rw):Prop:=∀ cl:Nat→Int,(∀ (i j:Nat) ri rj,rws[i]?=some ri→rws[j]?=some rj→cl i=cl j→ri.1=rj.1∧mkOf rws cl i=mkOf rws cl j)→∀ i j,i < rws.length→j < rws.length→cl i=cl j→i=j
def endI (rws:List Rw) (i:Nat):Int:=match rws[i]? with
 | some r=>if r.1 then 1 else 0
 | none=>0
def PI (rws:List Rw) (many:Nat) (cl:Nat→Int):Prop:=(many=0∧∀ i,i < rws.length→cl i=endI rws i)∨
 ∃ pc:Nat→Int,(∀ (i j:Nat) ri rj,rws[i]?=some ri→rws[j]?=some rj→pc i=pc j→ri.1=rj.1)∧many=(once (clL rws.length pc)).length∧∀ i j,i < rws.length→j < rws.length→(cl i=cl j↔mkOf rws pc i=mkOf rws pc j)
theorem PI.fine {rws:List Rw} {many:Nat} {cl:Nat→Int} (h:PI rws many cl):∀ (i j:Nat) ri rj,rws[i]?=some ri→rws[j]?=some rj→cl i=cl j→ri.1=rj.1:=by
 intro i j ri rj hi hj e
 have li:=(List.getElem?_eq_some_iff.mp hi).1
 have lj:=(List.getElem?_eq_some_iff.mp hj).1
 rcases h with ⟨_,h⟩ | ⟨pc,h1,_,h3⟩
 ·rw [h i li,h j lj] at e
  unfold endI at e
  rw [hi,hj] at e
  cases a:ri.1 <;> cases b:rj.1 <;> simp [a,b] at e ⊢
 ·have:=(h3 i j li lj).mp e
  rw [mkOf_at hi,mkOf_at hj] at this
  have:=(Prod.mk.inj this).1
  exact h1 i j ri rj hi hj (Sum.inl.inj this)
theorem PI.next {rws:List Rw} {many:Nat} {cl:Nat→Int} (h:PI rws many cl):PI rws (once (clL rws.length cl)).length (ncl rws cl):=
 .inr ⟨cl,h.fine,rfl,fun i j hi hj=>ncl_iff rws cl hi hj⟩
theorem PI.last {rws:List Rw} {many:Nat} {cl:Nat→Int} (h:PI rws many cl) (hn:0 < rws.length) (hA:Apart rws) (hl:¬many < (once (clL rws.length cl)).length):many=rws.length:=by
 rcases h with ⟨h,_⟩ | ⟨pc,h1,h2,h3⟩
 ·have:=clL_pos (cl:=cl) hn
  omega
 ·have key:=same_parts (n:=rws.length) (c:=cl) (p:=pc) (fun i j hi hj e=>?_) (by omega)
  ·rw [h2]
   refine clL_all fun i j hi hj e=>hA pc (fun i j ri rj hri hrj e=>⟨h1 i j ri rj hri hrj e,?_⟩) i j hi hj e
   have li:=(List.getElem?_eq_some_iff.mp hri).1
   have lj:=(List.getElem?_eq_some_iff.mp hrj).1
   exact (h3 i j li lj).mp (key i j li lj e)
  ·have:=(h3 i j hi hj).mp e
   obtain ⟨ri,hri⟩:∃ r,rws[i]?=some r:=⟨_,List.getElem?_eq_getElem hi⟩
   obtain ⟨rj,hrj⟩:∃ r,rws[j]?=some r:=⟨_,List.getElem?_eq_getElem hj⟩
   rw [mkOf_at hri,mkOf_at hrj] at this
   exact Sum.inl.inj (Prod.mk.inj this).1
end
end My
end
section
set_option Elab.async false
set_option linter.all false
set_option maxRecDepth 100000
set_option maxHeartbeats 2000000
namespace My
open PySem L2
section
variable {P:Program} {w:World} {K:PySem.W.Frag} {mg:Str→Option Value} {base:Heap}
theorem paired_snoc {α β:Type} {R:α→β→Prop} {a:α} {b:β}:∀ {as:List α} {bs:List β},Paired R as bs→R a b→Paired R (as ++ [a]) (bs ++ [b])
 | _,_,.nil,h=>.cons h .nil
 | _,_,.cons x t,h=>.cons x (paired_snoc t h)
def spParted:Sp:=fun vs H Q _=>∃ (t:Addr) (rws:List Rw),vs=[.ref t]∧TabAt H t rws∧Lead rws∧(∀ r∈rws,r.2.length≤700)∧Apart rws∧
 ∀ (H':Hp),Same H H'→Q (.int rws.length) H'
theorem clV (n:Nat) (cl:Nat→Int) {i:Nat} (h:i < n):((clL n cl).map V.int)[i]?=some (.int (cl i)):=by
 unfold clL
 rw [List.map_map,List.getElem?_map,List.getElem?_range h];rfl
theorem ok_parted (D:DefAt K mg "_law_parted" s_parted ["_law_table"]) (n_len:mg "len"=none) (n_range:mg "range"=none) (n_set:mg "set"=none) (n_int:mg "int"=none) (n_tuple:mg "tuple"=none):Def P w K mg base "_law_parted" 1 ["_law_table"] spParted:=by
 refine D.qok sc_parted (fun vs H Q E h=>?_) (fun f cdv A outer s H vs Q E hr h=>?_)
 ·obtain ⟨t,rws,rfl,_⟩:=h
  rfl
 ·obtain ⟨t,rws,rfl,⟨ra,ht,rt⟩,hL,wide,hA,q⟩:=h
  have hu:=hu_of hr
  have hu3:=Nat.lt_of_le_of_lt (Nat.add_le_add_left (by decide:3≤64) _) hr.units
  have hz:∀ n,n≤8001→n < sizeLine:=fun n h=>Nat.lt_of_le_of_lt h (by decide)
  have few:=hL.few
  have pos:=hL.pos
  have hra:(ra.map V.ref).length=rws.length:=by rw [List.length_map,rt.len]
  refine ⟨_,(qss_cons (qs_set (i:=1) sc_parted.nd rfl (Or.inr rfl) (qe_compG (ns:=["_law_end","_law_leads"]) rfl (CompG.of ["_law_table","_law_classes","_law_many","_law_known","_law_parted_here","_law_state","_law_mark"] [] (by kernel_rfl)) (qi_tup (qv 0)) (fun _ _ _ _ _=>(tg_tup2 K rfl (show (["_law_end","_law_leads","_law_table","_law_classes","_law_many","_law_known","_law_parted_here","_law_state","_law_mark"]:List Str).Nodup by decide +kernel) rfl rfl (by rfl) (by rfl))) (fun _ _ _ _ _=>qts_nil) (fun _ _ _ _ _=>(qe_callTy call_int1 (by rfl) n_int PyProof.Rows.boot_int (qa_cons (qv 0) qa_nil))))) (qss_cons (qs_set (i:=2) sc_parted.nd rfl (Or.inl rfl) qe_int) (qss_cons (qs_while PassesOwn.never (qt_cmpR op_lt (qv 2) (qe_callB call_lenSI (by rfl) n_len PySem.boot_len (qa_cons (qe_callTy (call_setLIK K rfl) (by rfl) n_set PyProof.Rows.boot_set (qa_cons (qv 1) qa_nil)) qa_nil)) (nomark _)) (qss_cons (qs_set (i:=2) sc_parted.nd rfl (Or.inl rfl) (qe_callB call_lenSI (by rfl) n_len PySem.boot_len (qa_cons (qe_callTy (call_setLIK K rfl) (by rfl) n_set PyProof.Rows.boot_set (qa_cons (qv 1) qa_nil)) qa_nil))) (qss_cons (qs_set (i:=3) sc_parted.nd rfl (Or.inl rfl) (qe_dnewMk w)) (qss_cons (qs_set (i:=4) sc_parted.nd rfl (Or.inl rfl) (qe_lst qa_nil)) (qss_cons (qs_for PassesOwn.never rfl (qi_range1 (by rfl) n_range (qa_cons (qe_callB call_len_seq (by rfl) n_len PySem.boot_len (qa_cons (qv 0) qa_nil)) qa_nil)) (qg_name (i:=5) sc_parted.nd rfl (Or.inl rfl)) (qss_cons (qs_set (i:=6) sc_parted.nd rfl (Or.inl rfl) (qe_tup (qa_cons (qe_ix ix_list (qv 1) (qv 5) (fun _ _=>rfl)) (qa_cons (qe_callTy call_tuple_of (by rfl) n_tuple PyProof.Rows.boot_tuple (qa_cons (qe_compG (ns:=["_law_sign","_law_there"]) rfl (CompG.of ["_law_table","_law_classes","_law_many","_law_known","_law_parted_here","_law_state","_law_mark"] [] (by kernel_rfl)) (qi_tup (qe_ix ix_tup (qe_ix ix_tup (qv 0) (qv 5) (fun _ _=>rfl)) qe_int (fun _ _=>rfl))) (fun _ _ _ _ _=>(tg_tup2 K rfl (show (["_law_sign","_law_there","_law_table","_law_classes","_law_many","_law_known","_law_parted_here","_law_state","_law_mark"]:List Str).Nodup by decide +kernel) rfl rfl (by rfl) (by rfl))) (fun _ _ _ _ _=>qts_nil) (fun _ _ _ _ _=>(qe_tup (qa_cons (qv 0) (qa_cons (qe_ix (ix_listK K) (qv 3) (qv 1) (fun _ _=>rfl)) qa_nil))))) qa_nil)) qa_nil)))) (qss_cons (qs_expr (qe_msetdMk w hu3 (qv 3) (qv 6) (qe_callB (call_lenMk w) (by rfl) n_len PySem.boot_len (qa_cons (qv 3) qa_nil)) ⟨rfl,rfl,rfl,rfl⟩)) (qss_one (qs_expr (qe_bm PySem.F.plainAttrs_list PySem.F.slot_list_append PySem.F.type_list_append mt_append (qv 4) (qa_cons (qe_mgetMk w hu3 (qv 3) (qv 6) (fun _ _=>rfl)) qa_nil))))))) (qss_one (qs_set (i:=1) sc_parted.nd rfl (Or.inr rfl) (qv 4)))))))) (qss_one (qs_ret (qv 2)))))),?_⟩
  refine ⟨_,rfl,t,rfl,⟨_,SqT.of ht⟩,fun B hB=>compG2_tup (K:=K) (KT:=K) (a:=t) (f:=hideS [] 0) (tt:=tYes) (xs:=ra.map V.ref) (fun i zs H1=>zs=(clL i (endI rws)).map V.int∧H1 B=some (.lst zs)∧Same H H1)
   ⟨rfl,upd_same,Same.upd hB⟩ (fun i zs H1 _ h=>SqT.of (h.2.2 _ _ ht)) ?_ ?_⟩
  ·rintro i x zs H1 hx ⟨rfl,hB1,s1⟩
   obtain ⟨ar,har,rfl⟩:=rt_get hx
   have hil:i < ra.length:=(List.getElem?_eq_some_iff.mp har).1
   obtain ⟨r,hrw⟩:∃ r,rws[i]?=some r:=⟨_,List.getElem?_eq_getElem (by rw [← rt.len];exact hil)⟩
   obtain ⟨pa,pas,h1,h2,qt⟩:=rt.at_ i ar r har hrw
   have rl:=rt.len
   refine turn2 rfl (SqT.of (s1 _ _ h1)) ?_
   refine ⟨_,rfl,.inr ⟨_,rfl,hB1,?_,Nxt.mk (by rw [List.length_map];exact hil) ⟨?_,upd_same,s1.upd' hB⟩⟩⟩
   ·rw [List.length_map];unfold clL;rw [List.length_map,List.length_range];exact hz _ (by omega)
   ·unfold clL
    rw [List.range_succ,List.map_append,List.map_append]
    congr 1
    show [V.int _]=[V.int (endI rws i)]
    unfold endI
    rw [hrw]
  ·rintro zs H1 ⟨rfl,hB1,s1⟩
   rw [hra] at hB1
   refine ⟨fun m σ H2=>∃ (C:Addr) (many:Nat) (cl:Nat→Int) (v3 v4 v5 v6:Option V),σ=[some (.ref t),some (.ref C),some (.int (many:Nat)),v3,v4,v5,v6]∧Same H H2∧H2 C=some (.lst ((clL rws.length cl).map V.int))∧PI rws many cl∧m=rws.length - many,
    ⟨_,B,0,endI rws,none,none,none,none,rfl,s1,hB1,.inl ⟨rfl,fun _ _=>rfl⟩,rfl⟩,?_⟩
   rintro m σ H2 ⟨C,many,cl,v3,v4,v5,v6,rfl,s2,hC2,PP,rfl⟩
   have cll:(clL rws.length cl).length=rws.length:=by unfold clL;rw [List.length_map,List.length_range]
   refine ⟨_,rfl,_,rfl,C,clL rws.length cl,rfl,SqL.of hC2,by omega,fun S1 hS1=>⟨S1,_,_,rfl,upd_same,_,_,rfl,rfl,_,rfl,?_⟩⟩
   have s3:Same H2 (upd H2 S1 (.set (fun k=>(once (clL rws.length cl)).any (· == k)) (once (clL rws.length cl)).length)):=Same.upd hS1
   generalize upd H2 S1 (.set (fun k=>(once (clL rws.length cl)).any (· == k)) (once (clL rws.length cl)).length)=H3 at s3 ⊢
   have hC3:=s3 _ _ hC2
   have s23:=s2.trans s3
   refine ite2 (fun c=>?_) (fun c=>?_)
   ·have c:many < (once (clL rws.length cl)).length:=by have:=of_decide_eq_true c;omega
    refine ⟨fun σ H7=>∃ (C:Addr) (v3 v4 v5 v6:Option V),σ=[some (.ref t),some (.ref C),some (.int ((once (clL rws.length cl)).length:Nat)),v3,v4,v5,v6]∧Same H H7∧H7 C=some (.lst ((clL rws.length (ncl rws cl)).map V.int)),?_,?_⟩
    ·rintro σ' H7 ⟨C7,w3,w4,w5,w6,rfl,s7,hC7⟩
     have:=clL_len (n:=rws.length) (cl:=cl)
     exact ⟨rws.length - (once (clL rws.length cl)).length,by omega,C7,_,_,w3,w4,w5,w6,rfl,s7,hC7,PP.next,rfl⟩
    ·refine ⟨_,rfl,C,clL rws.length cl,rfl,SqL.of hC3,by omega,fun S2 hS2=>⟨S2,_,_,rfl,upd_same,?_⟩⟩
     have s4:Same H3 (upd H3 S2 (.set (fun k=>(once (clL rws.length cl)).any (· == k)) (once (clL rws.length cl)).length)):=Same.upd hS2
     generalize upd H3 S2 (.set (fun k=>(once (clL rws.length cl)).any (· == k)) (once (clL rws.length cl)).length)=H4 at s4 ⊢
     intro kd hkd
     have s5:Same H4 (upd H4 kd (MD (mkH w) kd [])):=Same.upd hkd
     have ek:upd H4 kd (MD (mkH w) kd []) kd=some (MD (mkH w) kd []):=upd_same
     generalize upd H4 kd (MD (mkH w) kd [])=H5 at s5 ek ⊢
     refine ⟨by show 0≤sizeLine;decide,fun L hL5=>?_⟩
     have s6:Same H5 (upd H5 L (.lst [])):=Same.upd hL5
     have eL:upd H5 L (.lst []) L=some (.lst ((clL 0 (ncl rws cl)).map V.int)):=upd_same
     have nkL:kd≠L:=ne_of_none ek hL5
     have ek6:=s6 _ _ ek
     generalize upd H5 L (.lst [])=H6 at s6 eL ek6 ⊢
     have s36:Same H3 H6:=s4.trans (s5.trans s6)
     have hC6:=s36 _ _ hC3
     have s06:=s23.trans s36
     have fk:H kd=none:=(s23.trans s4).free hkd
     have fL:H L=none:=(s23.trans (s4.trans s5)).free hL5
     have nCk:C≠kd:=ne_of_none (s4 _ _ hC3) hkd
     have nCL:C≠L:=ne_of_none (s5 _ _ (s4 _ _ hC3)) hL5
     refine ⟨_,rfl,t,_,rfl,.inr (SqT.of (s06 _ _ ht)),_,rfl,by omega,by omega,?_⟩
     rw [hra,Int.toNat_natCast]
     refine for_range (lo:=0) (n:=rws.length) (fun i σ H7=>∃ (v5 v6:Option V) (ys:List (Mark × Addr × V)),σ=[some (.ref t),some (.ref C),some (.int ((once (clL rws.length cl)).length:Nat)),some (.ref kd),some (.ref L),v5,v6]∧Same H H7∧H7 C=some (.lst ((clL rws.length cl).map V.int))∧H7 kd=some (MD (mkH w) kd ys)∧(∀ y∈ys,MkAt H7 y.2.1 y.1)∧YOk ys (onceM (mks rws cl i))∧H7 L=some (.lst ((clL i (ncl rws cl)).map V.int)))
      ⟨_,_,[],rfl,s06,hC6,ek6,fun y h=>by simp at h,⟨rfl,fun k y h=>by simp at h⟩,eL⟩ ?_ ?_
     ·rintro i σ H7 hi ⟨u5,u6,ys,rfl,s7,hC7,hk7,hy7,Y,hL7⟩
      rw [Int.zero_add]
      obtain ⟨r,hrw⟩:∃ r,rws[i]?=some r:=⟨_,List.getElem?_eq_getElem hi⟩
      obtain ⟨ar,har⟩:∃ ar,ra[i]?=some ar:=⟨_,List.getElem?_eq_getElem (by rw [rt.len];exact hi)⟩
      obtain ⟨pa,pas,h1,h2,qt⟩:=rt.at_ i ar r har hrw
      have qlen:=qt.len
      have qlt:=fun q hq=>hL.lt r (List.mem_of_getElem? hrw) q hq
      have rwide:=wide r (List.mem_of_getElem? hrw)
      have emk:=mkOf_at (cl:=cl) hrw
      refine ⟨_,rfl,_,rfl,C,_,_,.int (cl i),rfl,rfl,SqL.of hC7,atN (clV _ cl hi),_,rfl,_,rfl,t,_,_,.ref ar,rfl,rfl,SqT.of (s7 _ _ ht),atN (by rw [List.getElem?_map,har];rfl),ar,_,1,_,rfl,rfl,SqT.of (s7 _ _ h1),atI_nat (j:=1) rfl,pa,rfl,⟨_,SqT.of (s7 _ _ h2)⟩,fun M hM=>compG2_tup (K:=K) (KT:=K) (a:=pa) (f:=hideS [] 0) (tt:=tYes) (xs:=pas.map V.ref) (fun j zs H8=>∃ ps:List Addr,zs=ps.map V.ref∧ps.length=j∧H8 M=some (.lst zs)∧Same H7 H8∧Paired (fun (p:Addr) (q:Key × Key)=>H8 p=some (.tup [kV q.1,kV q.2])) ps ((r.2.take j).map fun q=>(keyS [q.1],Sum.inl (cl q.2))))
       ⟨[],rfl,rfl,upd_same,Same.upd hM,.nil⟩ (fun j zs H8 _ h=>by obtain ⟨_,_,_,_,sm,_⟩:=h;exact SqT.of (sm _ _ (s7 _ _ h2))) ?_ ?_⟩
      ·rintro j x zs H8 hx ⟨ps,rfl,psl,hM8,s8,hP⟩
       obtain ⟨aq,haq,rfl⟩:=rt_get hx
       have hjq:j < pas.length:=(List.getElem?_eq_some_iff.mp haq).1
       obtain ⟨qv',hq'⟩:∃ q',r.2[j]?=some q':=⟨_,List.getElem?_eq_getElem (by omega)⟩
       have hq8:=s8 _ _ (s7 _ _ (qt.at_ j aq qv' haq hq'))
       have ql:=qlt qv' (List.mem_of_getElem? hq')
       refine turn2 rfl (SqT.of hq8) ?_
       refine ⟨_,rfl,_,rfl,_,rfl,C,_,_,.int (cl qv'.2),rfl,rfl,SqL.of (s8 _ _ hC7),atN (clV _ cl ql),by show 2≤sizeLine;decide,fun p hp=>?_⟩
       have nMp:M≠p:=ne_of_none hM8 hp
       have s9:Same H8 (upd H8 p (.tup [.str (S [qv'.1]),.int (cl qv'.2)])):=Same.upd hp
       have ep:upd H8 p (.tup [.str (S [qv'.1]),.int (cl qv'.2)]) p=some (.tup [.str (S [qv'.1]),.int (cl qv'.2)]):=upd_same
       have hM9:=s9 _ _ hM8
       generalize upd H8 p (.tup [.str (S [qv'.1]),.int (cl qv'.2)])=H9 at s9 ep hM9 ⊢
       refine ⟨hM9,by rw [List.length_map,psl];exact small1000 (by omega),Nxt.mk (by rw [List.length_map];exact hjq) ⟨ps ++ [p],by simp,by simp [psl],upd_same,(s8.trans s9).upd' hM,?_⟩⟩
       have kM:∀ b xs,H9 b=some (.tup xs)→upd H9 M (.lst (ps.map V.ref ++ [.ref p])) b=some (.tup xs):=fun b xs e=>by rw [upd_ne fun z=>by rw [z,hM9] at e;cases e];exact e
       rw [take_snoc hq',List.map_append]
       exact paired_snoc (Paired.imp' (fun p q e=>kM _ _ (s9 _ _ e)) hP) (kM _ _ ep)
      ·rintro zs H8 ⟨ps,rfl,psl,hM8,s8,hP⟩
       rw [List.length_map,qlen,List.take_length] at hP
       refine ⟨M,_,rfl,.inl ⟨SqL.of hM8,fun T hT=>⟨by show 2≤sizeLine;decide,fun b hb=>?_⟩⟩⟩
       have s9:Same H8 (upd H8 T (.tup (ps.map V.ref))):=Same.upd hT
       have eT:upd H8 T (.tup (ps.map V.ref)) T=some (.tup (ps.map V.ref)):=upd_same
       generalize upd H8 T (.tup (ps.map V.ref))=H9 at s9 eT hb ⊢
       have s10:Same H9 (upd H9 b (.tup [.int (cl i),.ref T])):=Same.upd hb
       have eb:upd H9 b (.tup [.int (cl i),.ref T]) b=some (.tup [.int (cl i),.ref T]):=upd_same
       generalize upd H9 b (.tup [.int (cl i),.ref T])=H10 at s10 eb ⊢
       have s710:Same H7 H10:=s8.trans (s9.trans s10)
       have hMk:MkAt H10 b (mkOf rws cl i):=by
        rw [emk]
        exact ⟨T,ps,eb,s10 _ _ eT,Paired.imp' (fun p q e=>s10 _ _ (s9 _ _ e)) hP⟩
       have hk10:=s710 _ _ hk7
       have hL10:=s710 _ _ hL7
       have hC10:=s710 _ _ hC7
       have hy10:∀ y∈ys,MkAt H10 y.2.1 y.1:=fun y hy=>MkAt.mv (hy7 y hy) (Kt.of s710)
       have yl:ys.length≤i:=by
        have h1:=congrArg List.length Y.keys
        have h2:=(onceM_ok (mks rws cl i)).2.1
        rw [List.length_map] at h1
        have h3:(mks rws cl i).length=i:=by unfold mks;rw [List.length_map,List.length_range]
        omega
       have s010:=s7.trans s710
       have em:=mks_succ rws cl i
       have lcl:((clL i (ncl rws cl)).map V.int).length=i:=by rw [List.length_map];unfold clL;rw [List.length_map,List.length_range]
       have ecl:(clL i (ncl rws cl)).map V.int ++ [.int (ncl rws cl i)]=(clL (i + 1) (ncl rws cl)).map V.int:=by unfold clL;rw [List.range_succ,List.map_append,List.map_append];rfl
       refine ⟨_,rfl,kd,ys,rfl,hk10,_,rfl,_,rfl,kd,ys,rfl,hk10,ys,b,mkOf rws cl i,hk10,hy10,rfl,hMk,hz _ (by omega),fun v hv=>?_,fun hv=>?_⟩
       ·by_cases hm:mkOf rws cl i∈onceM (mks rws cl i)
        ·have eo:onceM (mks rws cl (i + 1))=onceM (mks rws cl i):=by rw [em,onceM_snoc,addM_in hm]
         refine ⟨_,rfl,.inl ⟨rfl,_,SqL.of hL10⟩,_,rfl,_,rfl,kd,ys,b,mkOf rws cl i,.int (ncl rws cl i),rfl,hk10,hy10,rfl,hMk,?_,L,_,_,rfl,rfl,hL10,by rw [lcl];exact hz _ (by omega),?_⟩
         ·rw [(Y.val _).1 hm];unfold ncl;rw [eo]
         refine ⟨_,_,ys,rfl,s010.upd' fL,by rw [upd_ne nCL];exact hC10,by rw [upd_ne nkL];exact hk10,fun y hy=>MkAt.mv (hy10 y hy) ((Kt.refl _).upd fun xs z=>by rw [hL10] at z;cases z),by rw [eo];exact Y,by rw [upd_same,ecl]⟩
        ·rw [(Y.val _).2 hm] at hv;cases hv
       ·by_cases hm:mkOf rws cl i∈onceM (mks rws cl i)
        ·rw [(Y.val _).1 hm] at hv;cases hv
        ·have eo:onceM (mks rws cl (i + 1))=onceM (mks rws cl i) ++ [mkOf rws cl i]:=by rw [em,onceM_snoc,addM_out hm]
         have Y':=Y.snoc (mkOf rws cl i) b
         rw [← eo] at Y'
         have k11:Kt H10 (upd H10 kd (MD (mkH w) kd (ys ++ [(mkOf rws cl i,b,.int (ys.length:Nat))]))):=(Kt.refl _).upd fun xs z=>by rw [hk10] at z;exact absurd (Option.some.inj z) (fun e=>by unfold MD at e;cases e)
         have s11:Same H (upd H10 kd (MD (mkH w) kd (ys ++ [(mkOf rws cl i,b,.int (ys.length:Nat))]))):=s010.upd' fk
         have ek11:upd H10 kd (MD (mkH w) kd (ys ++ [(mkOf rws cl i,b,.int (ys.length:Nat))])) kd=some (MD (mkH w) kd (ys ++ [(mkOf rws cl i,b,.int (ys.length:Nat))])):=upd_same
         have hL11:upd H10 kd (MD (mkH w) kd (ys ++ [(mkOf rws cl i,b,.int (ys.length:Nat))])) L=some (.lst ((clL i (ncl rws cl)).map V.int)):=by rw [upd_ne nkL.symm];exact hL10
         have hC11:upd H10 kd (MD (mkH w) kd (ys ++ [(mkOf rws cl i,b,.int (ys.length:Nat))])) C=some (.lst ((clL rws.length cl).map V.int)):=by rw [upd_ne nCk];exact hC10
         generalize upd H10 kd (MD (mkH w) kd (ys ++ [(mkOf rws cl i,b,.int (ys.length:Nat))]))=H11 at k11 s11 ek11 hL11 hC11 ⊢
         have hMk11:=MkAt.mv hMk k11
         have hy11:∀ y∈ys ++ [(mkOf rws cl i,b,V.int (ys.length:Nat))],MkAt H11 y.2.1 y.1:=fun y hy=>by
          rcases List.mem_append.mp hy with z | z
          ·exact MkAt.mv (hy10 y z) k11
          ·rw [List.mem_singleton.mp z];exact hMk11
         refine ⟨_,rfl,.inl ⟨rfl,_,SqL.of hL11⟩,_,rfl,_,rfl,kd,_,b,mkOf rws cl i,.int (ncl rws cl i),rfl,ek11,hy11,rfl,hMk11,?_,L,_,_,rfl,rfl,hL11,by rw [lcl];exact hz _ (by omega),?_⟩
         ·rw [(Y'.val _).1 (mk_in rws cl (Nat.lt_succ_self i))];rfl
         refine ⟨_,_,_,rfl,s11.upd' fL,by rw [upd_ne nCL];exact hC11,by rw [upd_ne nkL];exact ek11,fun y hy=>MkAt.mv (hy11 y hy) ((Kt.refl _).upd fun xs z=>by rw [hL11] at z;cases z),Y',by rw [upd_same,ecl]⟩
     ·rintro σ H7 ⟨u5,u6,ys,rfl,s7,hC7,hk7,hy7,Y,hL7⟩
      exact ⟨_,rfl,L,_,_,_,_,rfl,s7,hL7⟩
   ·have c:¬many < (once (clL rws.length cl)).length:=fun z=>c (decide_eq_true (by omega))
    have:=PP.last pos hA c
    refine ⟨_,rfl,?_⟩
    rw [this]
    exact q H3 s23
end
end My
end
section
set_option Elab.async false
set_option linter.all false
set_option maxRecDepth 100000
set_option maxHeartbeats 2000000
namespace My
open PySem L2
section
variable {P:Program} {w:World} {K:PySem.W.Frag} {mg:Str→Option Value} {base:Heap}
theorem HasDs.ofT {H:Hp}:∀ {ls:List (List Nat)},(∀ l∈ls,∀ c∈l,c < 128)→HasDs K H 0 (ls.map Dt.str) (Ts ls)
 | [],_=>.nil
 | l :: ls,h=>.cons (.str l (h l List.mem_cons_self)) (HasDs.ofT fun l' hl'=>h l' (List.mem_cons_of_mem _ hl'))
structure Shp (rws:List Rw):Prop where
 up:∀ r∈rws,Up ((r.2.map (·.1)).map fun c=>[c])
 asc:∀ r∈rws,∀ q∈r.2,q.1 < 128
 wide:∀ r∈rws,r.2.length≤700
def sgs (ps:List (Nat × Nat)):List (List Nat):=(ps.map (·.1)).map fun c=>[c]
def spShaped:Sp:=fun vs H Q _=>∃ (t:Addr) (rws:List Rw),vs=[.ref t]∧TabAt H t rws∧Lead rws∧Shp rws∧∀ (H':Hp),Same H H'→Q (.bl true) H'
theorem ok_shaped (D:DefAt K mg "_law_shaped" s_shaped ["_law_table"]) (n_len:mg "len"=none) (n_set:mg "set"=none) (n_int:mg "int"=none) (n_tuple:mg "tuple"=none) (n_bool:mg "bool"=none) (n_sorted:mg "sorted"=none) (n_isinstance:mg "isinstance"=none):Def P w K mg base "_law_shaped" 1 ["_law_table"] spShaped:=by
 refine D.qok sc_shaped (fun vs H Q E h=>?_) (fun f cdv A outer s H vs Q E hr h=>?_)
 ·obtain ⟨t,rws,rfl,_⟩:=h
  rfl
 ·obtain ⟨t,rws,rfl,⟨ra,ht,rt⟩,hL,hS,q⟩:=h
  have hu:=hu_of hr
  have hz:∀ n,n≤8001→n < sizeLine:=fun n h=>Nat.lt_of_le_of_lt h (by decide)
  have few:=hL.few
  have pos:=hL.pos
  have hra:(ra.map V.ref).length=rws.length:=by rw [List.length_map,rt.len]
  refine ⟨_,(qss_cons (qs_if (QW.qt (qw_or (qt_not (qt_val (qe_callB call_isinst (by rfl) n_isinstance PyProof.Rows.boot_isinstance (qa_cons (qv 0) (qa_cons (qe_bltn (v:=.ty "tuple") (by rfl) n_tuple PyProof.Rows.boot_tuple rfl) qa_nil))))) (qw_or1 (qt_cmpR (op_eqNilK K hu) (qv 0) (qe_tup qa_nil) (nomark _))))) (qss_one (qs_ret qe_bl)) qss_nil) (qss_cons (qs_for PassesOwn.never rfl (qi_tup (qv 0)) (qg_name (i:=1) sc_shaped.nd rfl (Or.inl rfl)) (qss_cons (qs_setG (ix:=2) (ns:=["_law_sign","_law_there"]) sc_shaped.nd rfl (Or.inl rfl) rfl (CompG.of ["_law_table","_law_state","_law_signs",".3",".4"] [3,4] (by kernel_rfl)) (qi_tup (qe_ix ix_tup (qv 1) qe_int (fun _ _=>rfl))) (fun _ _ _ _ _=>(tg_tup2 K rfl (show (["_law_sign","_law_there","_law_table","_law_state","_law_signs",".3",".4"]:List Str).Nodup by decide +kernel) rfl rfl (by rfl) (by rfl))) (fun _ _ _ _ _=>qts_nil) (fun _ _ _ _ _=>(qv 0))) (qss_cons (qs_if (QW.qt (qw_or (qt_cmpR (op_neD hr.units) (qv 2) (qe_callB (call_sortedLLK K) (by rfl) n_sorted PyProof.Rows.boot_sorted (qa_cons (qv 2) qa_nil)) (nomark _)) (qw_or (qt_cmpR op_ne (qe_callB (call_lenST w) (by rfl) n_len PySem.boot_len (qa_cons (qe_callTy (call_setLTW w rfl) (by rfl) n_set PyProof.Rows.boot_set (qa_cons (qv 2) qa_nil)) qa_nil)) (qe_callB call_len_seq (by rfl) n_len PySem.boot_len (qa_cons (qv 2) qa_nil)) (nomark _)) (qw_or1 (qt_not (qt_val (qe_callB call_isinst (by rfl) n_isinstance PyProof.Rows.boot_isinstance (qa_cons (qe_ix ix_tup (qv 1) qe_int (fun _ _=>rfl)) (qa_cons (qe_bltn (v:=.ty "bool") (by rfl) n_bool PyProof.Rows.boot_bool rfl) qa_nil))))))))) (qss_one (qs_ret qe_bl)) qss_nil) (qss_one (qs_for PassesOwn.never rfl (qi_tup (qe_ix ix_tup (qv 1) qe_int (fun _ _=>rfl))) (qg_tup rfl (qgs_cons (qg_name (i:=3) sc_shaped.nd rfl (Or.inl rfl)) (qgs_cons (qg_name (i:=4) sc_shaped.nd rfl (Or.inl rfl)) qgs_nil))) (qss_one (qs_if (QW.qt (qw_or (qt_not (qt_val (qe_callB call_isinst (by rfl) n_isinstance PyProof.Rows.boot_isinstance (qa_cons (qv 4) (qa_cons (qe_bltn (v:=.ty "int") (by rfl) n_int PyProof.Rows.boot_int rfl) qa_nil))))) (qw_or1 (qt_not (qt_chain op_le op_lt qe_int (qv 4) (qe_callB call_len_seq (by rfl) n_len PySem.boot_len (qa_cons (qv 0) qa_nil))))))) (qss_one (qs_ret qe_bl)) qss_nil))))))) (qss_one (qs_ret qe_bl)))),?_⟩
  refine ⟨_,rfl,_,_,_,true,rfl,.tup ht,rfl,_,rfl,?_⟩
  refine iteF ⟨_,rfl,by show 0≤sizeLine;decide,fun e0 he0=>?_⟩
  have s1:Same H (upd H e0 (.tup [])):=Same.upd he0
  have ee:upd H e0 (.tup []) e0=some (.tup []):=upd_same
  generalize upd H e0 (.tup [])=H1 at s1 ee ⊢
  refine ⟨t,e0,_,rfl,rfl,SqT.of (s1 _ _ ht),SqT.of ee,fun z=>by rw [z] at hra;simp at hra;omega,_,rfl,?_⟩
  refine iteF ?_
  refine ⟨_,rfl,t,rfl,⟨_,SqT.of (s1 _ _ ht)⟩,for_tup (K:=K) (a:=t) (xs:=ra.map V.ref) (fun i σ H2=>∃ (v1 v2 v3 v4:Option V),σ=[some (.ref t),v1,v2,v3,v4]∧Same H H2)
   ⟨none,none,none,none,rfl,s1⟩ (fun i σ H2 _ ⟨_,_,_,_,_,sm⟩=>SqT.of (sm _ _ ht)) ?_ ?_⟩
  ·rintro i x σ H2 hx ⟨v1,v2,v3,v4,rfl,s2⟩
   obtain ⟨ar,har,rfl⟩:=rt_get hx
   have hil:i < ra.length:=(List.getElem?_eq_some_iff.mp har).1
   obtain ⟨r,hrw⟩:∃ r,rws[i]?=some r:=⟨_,List.getElem?_eq_getElem (by rw [← rt.len];exact hil)⟩
   obtain ⟨pa,pas,h1,h2,qt⟩:=rt.at_ i ar r har hrw
   have hrm:=List.mem_of_getElem? hrw
   have qlen:=qt.len
   have qlt:=fun q hq=>hL.lt r hrm q hq
   have rwide:=hS.wide r hrm
   have rup:Up (sgs r.2):=hS.up r hrm
   have rasc:∀ l∈sgs r.2,∀ c∈l,c < 128:=fun l hl c hc=>by
    obtain ⟨d,hd,rfl⟩:=List.mem_map.mp hl
    obtain ⟨q',hq',rfl⟩:=List.mem_map.mp hd
    rw [List.mem_singleton.mp hc]
    exact hS.asc r hrm q' hq'
   have sl:(sgs r.2).length=r.2.length:=by unfold sgs;rw [List.length_map,List.length_map]
   refine ⟨_,rfl,ar,_,1,_,rfl,rfl,SqT.of (s2 _ _ h1),atI_nat (j:=1) rfl,pa,rfl,⟨_,SqT.of (s2 _ _ h2)⟩,fun M hM=>compG2_tup (K:=K) (KT:=K) (a:=pa) (f:=hideS [3,4] 0) (tt:=tYes) (xs:=pas.map V.ref) (fun j zs H3=>zs=Ts (sgs (r.2.take j))∧H3 M=some (.lst zs)∧Same H2 H3)
    ⟨rfl,upd_same,Same.upd hM⟩ (fun j zs H3 _ h=>SqT.of (h.2.2 _ _ (s2 _ _ h2))) ?_ ?_⟩
   ·rintro j x zs H3 hx ⟨rfl,hM3,s3⟩
    obtain ⟨aq,haq,rfl⟩:=rt_get hx
    have hjq:j < pas.length:=(List.getElem?_eq_some_iff.mp haq).1
    obtain ⟨qv',hq'⟩:∃ q',r.2[j]?=some q':=⟨_,List.getElem?_eq_getElem (by omega)⟩
    refine turn2 rfl (SqT.of (s3 _ _ (s2 _ _ (qt.at_ j aq qv' haq hq')))) ?_
    refine ⟨_,rfl,hM3,?_,Nxt.mk (by rw [List.length_map];exact hjq) ⟨?_,upd_same,s3.upd' hM⟩⟩
    ·unfold sgs;rw [List.length_map,List.length_map,List.length_map,List.length_take];exact small1000 (by omega)
    ·rw [take_snoc hq'];simp [sgs,Ts]
   ·rintro zs H3 ⟨rfl,hM3,s3⟩
    rw [List.length_map,qlen,List.take_length] at hM3
    have s23:=s2.trans s3
    have nd:(sgs r.2).Nodup:=by
     refine List.Pairwise.imp ?_ rup
     intro a b hab e
     rw [e] at hab
     exact List.lt_irrefl _ hab
    refine ⟨_,rfl,_,rfl,M,sgs r.2,rfl,SqL.of hM3,by omega,fun Z ws' hZ pm so=>?_⟩
    have ew:ws'=sgs r.2:=up_eq (rise_up so (pm.nodup_iff.mpr nd)) rup fun x=>pm.mem_iff
    subst ew
    have s4:Same H3 (upd H3 Z (.lst (Ts (sgs r.2)))):=Same.upd hZ
    have eZ:upd H3 Z (.lst (Ts (sgs r.2))) Z=some (.lst (Ts (sgs r.2))):=upd_same
    generalize upd H3 Z (.lst (Ts (sgs r.2)))=H4 at s4 eZ ⊢
    have hM4:=s4 _ _ hM3
    have s24:=s23.trans s4
    refine ⟨1,_,_,by decide,.lst (SqL.of hM4) (HasDs.ofT rasc),.lst (SqL.of eZ) (HasDs.ofT rasc),_,rfl,?_⟩
    refine ite2 (fun c=>by simp at c) (fun _=>?_)
    refine ⟨_,rfl,M,sgs r.2,rfl,SqL.of hM4,by omega,fun S hS4=>⟨S,sgs r.2,_,rfl,upd_same,nd,by omega,?_⟩⟩
    have s5:Same H4 (upd H4 S (.ext (SetW w S (sgs r.2) (sgs r.2).length))):=Same.upd hS4
    generalize upd H4 S (.ext (SetW w S (sgs r.2) (sgs r.2).length))=H5 at s5 ⊢
    have s25:=s24.trans s5
    refine ⟨_,rfl,M,_,rfl,.inl (SqL.of (s5 _ _ hM4)),rfl,_,rfl,?_⟩
    refine ite2 (fun c=>by simp [Ts] at c) (fun _=>?_)
    refine ⟨_,rfl,ar,_,0,_,rfl,rfl,SqT.of (s25 _ _ h1),atI_nat (j:=0) rfl,_,_,_,true,rfl,.bl _,rfl,_,rfl,iteF ?_⟩
    refine ⟨_,rfl,ar,_,1,_,rfl,rfl,SqT.of (s25 _ _ h1),atI_nat (j:=1) rfl,pa,rfl,⟨_,SqT.of (s25 _ _ h2)⟩,for_tup (K:=K) (a:=pa) (xs:=pas.map V.ref) (fun j σ H8=>∃ (v3 v4:Option V),σ=[some (.ref t),some (.ref ar),some (.ref M),v3,v4]∧Same H H8)
     ⟨_,_,rfl,s25⟩ (fun j σ H8 _ ⟨_,_,_,sm⟩=>SqT.of (sm _ _ h2)) ?_ ?_⟩
    ·rintro j y σ H8 hy ⟨u3,u4,rfl,s8⟩
     obtain ⟨aq,haq,rfl⟩:=rt_get hy
     have hjq:j < pas.length:=(List.getElem?_eq_some_iff.mp haq).1
     obtain ⟨qv',hq'⟩:∃ q',r.2[j]?=some q':=⟨_,List.getElem?_eq_getElem (by omega)⟩
     have ql:=qlt qv' (List.mem_of_getElem? hq')
     refine ⟨aq,_,rfl,SqT.of (s8 _ _ (qt.at_ j aq qv' haq hq')),rfl,_,_,rfl,_,_,rfl,rfl,?_⟩
     refine ⟨_,rfl,_,_,_,true,rfl,.int _,rfl,_,rfl,iteF ?_⟩
     refine ⟨_,rfl,_,_,rfl,rfl,_,rfl,?_⟩
     refine ite2 (fun _=>?_) (fun c=>absurd (decide_eq_true (by omega)) c)
     refine ⟨_,rfl,t,_,rfl,.inr (SqT.of (s8 _ _ ht)),_,_,rfl,rfl,_,rfl,?_⟩
     have hd:decide (((qv'.2:Nat):Int) < (((ra.map V.ref).length:Nat):Int))=true:=decide_eq_true (by rw [hra];omega)
     refine ite2 (fun c=>?_) (fun _=>⟨_,_,rfl,s8⟩)
     rw [hd] at c
     cases c
    ·rintro σ H8 ⟨u3,u4,rfl,s8⟩
     exact ⟨_,_,_,_,rfl,s8⟩
  ·rintro σ H2 ⟨v1,v2,v3,v4,rfl,s2⟩
   exact q H2 s2
end
end My
end
section
set_option Elab.async false
set_option linter.all false
set_option maxRecDepth 100000
set_option maxHeartbeats 2000000
namespace My
open PySem L2
section
variable {P:Program} {w:World} {K:PySem.W.Frag} {mg:Str→Option Value} {base:Heap}
theorem snoc_ind {α:Type} {P:List α→Prop} (h0:P []) (hs:∀ l x,P l→P (l ++ [x])):∀ l,P l:=by
 intro l
 have:∀ l:List α,P l.reverse:=by
  intro l
  induction l with
  | nil=>exact h0
  | cons x l ih=>rw [List.reverse_cons];exact hs _ _ ih
 have h:=this l.reverse
 rwa [List.reverse_reverse] at h
def szG (gs:Grp):Nat:=(gs.map fun g=>g.2.length).sum
theorem szG_put {c:Nat} {r:List Nat}:∀ {gs:Grp},(gs.map (·.1)).Nodup→c∈gs.map (·.1)→szG (gs.map fun g=>if g.1=c then (g.1,g.2 ++ [r]) else g)=szG gs + 1
 | [],_,h=>by simp at h
 | g :: gs,nd,h=>by
  rw [List.map_cons,List.nodup_cons] at nd
  unfold szG
  rw [List.map_cons,List.map_cons,List.sum_cons,List.map_cons,List.sum_cons]
  by_cases e:g.1=c
  ·rw [if_pos e]
   have:(gs.map fun g=>if g.1=c then (g.1,g.2 ++ [r]) else g)=gs:=by
    conv=>rhs;rw [← List.map_id gs]
    refine List.map_congr_left fun g' hg'=>?_
    rw [if_neg fun z=>nd.1 (List.mem_map.mpr ⟨g',hg',by rw [z,e]⟩)];rfl
   rw [this]
   show (g.2 ++ [r]).length + _=_
   rw [List.length_append];simp;omega
  ·rw [if_neg e]
   have hm:c∈gs.map (·.1):=by
    rw [List.map_cons] at h
    exact (List.mem_cons.mp h).resolve_left fun z=>e z.symm
   have:=szG_put (r:=r) nd.2 hm
   unfold szG at this
   rw [this];omega
theorem szG_add {gs:Grp} (nd:(gs.map (·.1)).Nodup) (t:List Nat):szG (addG gs t)=szG gs + (if t=[] then 0 else 1):=by
 cases t with
 | nil=>rfl
 | cons c r=>
  by_cases h:c∈gs.map (·.1)
  ·have:addG gs (c :: r)=gs.map (fun g=>if g.1=c then (g.1,g.2 ++ [r]) else g):=if_pos h
   rw [this,szG_put nd h];simp
  ·have:addG gs (c :: r)=gs ++ [(c,[r])]:=if_neg h
   rw [this]
   unfold szG
   rw [List.map_append,List.sum_append];simp
theorem szG_grp:∀ ts:List (List Nat),ts.Nodup→ts.length=(if []∈ts then 1 else 0) + szG (grpF ts):=by
 refine snoc_ind (fun _=>rfl) fun ts t ih nd=>?_
 obtain ⟨n1,_,n3⟩:=List.nodup_append.mp nd
 have ih:=ih n1
 rw [grp_snoc,szG_add (grp_nd ts),List.length_append]
 by_cases e:t=[]
 ·have hn:[]∉ts:=fun z=>n3 [] z t (by simp) e.symm
  rw [if_neg hn] at ih
  rw [if_pos e,if_pos (by rw [e];simp)]
  simp;omega
 ·rw [if_neg e]
  have:([]∈ts ++ [t])↔[]∈ts:=by
   rw [List.mem_append,List.mem_singleton]
   exact ⟨fun z=>z.resolve_right fun y=>e y.symm,.inl⟩
  by_cases h:[]∈ts
  ·rw [if_pos (this.mpr h)]
   rw [if_pos h] at ih
   simp;omega
  ·rw [if_neg fun z=>h (this.mp z)]
   rw [if_neg h] at ih
   simp;omega
theorem addG_keys (gs:Grp) (t:List Nat):(addG gs t).map (·.1)=match t with
  | []=>gs.map (·.1)
  | c :: _=>if c∈gs.map (·.1) then gs.map (·.1) else gs.map (·.1) ++ [c]:=by
 cases t with
 | nil=>rfl
 | cons c r=>
  by_cases h:c∈gs.map (·.1)
  ·have:addG gs (c :: r)=gs.map (fun g=>if g.1=c then (g.1,g.2 ++ [r]) else g):=if_pos h
   show _=if c∈gs.map (·.1) then gs.map (·.1) else gs.map (·.1) ++ [c]
   rw [this,if_pos h,List.map_map]
   refine List.map_congr_left fun g _=>?_
   show (if g.1=c then (g.1,g.2 ++ [r]) else g).1=g.1
   split <;> rfl
  ·have:addG gs (c :: r)=gs ++ [(c,[r])]:=if_neg h
   show _=if c∈gs.map (·.1) then gs.map (·.1) else gs.map (·.1) ++ [c]
   rw [this,if_neg h,List.map_append];rfl
theorem grp_up:∀ ts:List (List Nat),Up ts→((grpF ts).map (·.1)).Pairwise (fun a b=>a < b):=by
 refine snoc_ind (fun _=>.nil) fun ts t ih hu=>?_
 obtain ⟨u1,_,u3⟩:=List.pairwise_append.mp hu
 have ih:=ih u1
 rw [grp_snoc,addG_keys]
 cases t with
 | nil=>exact ih
 | cons c r=>
  show (if c∈(grpF ts).map (·.1) then (grpF ts).map (·.1) else (grpF ts).map (·.1) ++ [c]).Pairwise _
  split
  ·exact ih
  ·rename_i h
   refine List.pairwise_append.mpr ⟨ih,by simp,fun d hd e he=>?_⟩
   rw [List.mem_singleton.mp he]
   have hne:=((grp_ok ts).keys d).mp hd
   obtain ⟨v,hv⟩:=List.exists_mem_of_ne_nil _ hne
   have hlt:=u3 _ (res_mem.mp hv) _ (List.mem_singleton_self _)
   rcases List.cons_lt_cons_iff.mp hlt with z | z
   ·exact z
   ·exact absurd (z.1 ▸ hd) h
def lenOf (ss:List Sta) (i:Nat):Nat:=((ss[i]?).getD []).length
def hgtL (st:Sta):Nat:=st.foldl (fun m t=>max m t.length) 0
theorem hgt_ge:∀ (st:Sta) (m:Nat),m≤st.foldl (fun m t=>max m t.length) m∧∀ t∈st,t.length≤st.foldl (fun m t=>max m t.length) m
 | [],m=>⟨Nat.le_refl _,fun t h=>by simp at h⟩
 | a :: st,m=>by
  obtain ⟨h1,h2⟩:=hgt_ge st (max m a.length)
  rw [List.foldl_cons]
  refine ⟨by omega,fun t ht=>?_⟩
  rcases List.mem_cons.mp ht with e | e
  ·rw [e];omega
  ·exact h2 t e
theorem hgt_le:∀ (st:Sta) (m b:Nat),m≤b→(∀ t∈st,t.length≤b)→st.foldl (fun m t=>max m t.length) m≤b
 | [],m,b,h,_=>h
 | a :: st,m,b,h,h2=>by
  rw [List.foldl_cons]
  exact hgt_le st _ b (by have:=h2 a List.mem_cons_self;omega) fun t ht=>h2 t (List.mem_cons_of_mem _ ht)
theorem resF_len (c:Nat) (ts:List (List Nat)):(resF c ts).length≤ts.length:=List.length_filterMap_le _ _
theorem resW_le:∀ (u:List Nat) (ts:List (List Nat)),(resW u ts).length≤ts.length
 | [],_=>Nat.le_refl _
 | c :: u,ts=>Nat.le_trans (resW_le u (resF c ts)) (resF_len c ts)
structure Facts (ts:List (List Nat)) (s0:Sta) (n:Nat) (rws:List Rw) (ss:List Sta):Prop where
 hr:rws.length=n
 hs:ss.length=n
 nd:ss.Nodup
 hd:ss[0]?=some s0
 of:∀ s∈ss,∃ u,s=resW u s0∧(u=[]∨s≠[])
 row:∀ (i:Nat) st r,ss[i]?=some st→rws[i]?=some r→RowOk ss st r
 wide:∀ r∈rws,r.2.length≤700
 few:n≤4000
 up:Up s0
 len:s0.length=ts.length
 mem:∀ t,t∈s0↔t∈ts
 tx:∀ t∈ts,Txt t
 tl:ts.length≤610
theorem facts {ts:List (List Nat)} {s0:Sta} {n:Nat} (T:Tabs ts s0 n) (X:TxtS ts):Facts ts s0 n (Tb s0 n).2 (Tb s0 n).1:=
 ⟨Tb_len s0 n,T.all,T.ok.nd,T.ok.hd,T.ok.of,T.ok.row,T.wide,X.few s0 n T,rise_up T.rise T.nd,((List.perm_ext_iff_of_nodup T.nd X.nd).mpr T.mem).length_eq,T.mem,X.tx,X.len⟩
section
variable {ts:List (List Nat)} {s0:Sta} {n:Nat} {rws:List Rw} {ss:List Sta}
theorem Facts.st (F:Facts ts s0 n rws ss) {i:Nat} {r:Rw} (h:rws[i]?=some r):∃ st,ss[i]?=some st∧RowOk ss st r∧Up st∧st.length≤610∧∀ t∈st,t.length≤13:=by
 have hi:=(List.getElem?_eq_some_iff.mp h).1
 obtain ⟨st,hst⟩:∃ st,ss[i]?=some st:=⟨_,List.getElem?_eq_getElem (by rw [F.hs,← F.hr];exact hi)⟩
 obtain ⟨u,e,_⟩:=F.of st (List.mem_of_getElem? hst)
 refine ⟨st,hst,F.row i st r hst h,by rw [e];exact resW_up u F.up,?_,fun t ht=>?_⟩
 ·have h1:=resW_le u s0
  have h2:=F.len
  have h3:=F.tl
  rw [e];omega
 ·rw [e] at ht
  have:=(F.tx _ ((F.mem _).mp (resW_mem.mp ht))).short
  rw [List.length_append] at this
  omega
theorem Facts.row_at (F:Facts ts s0 n rws ss) {i:Nat} {st:Sta} (h:ss[i]?=some st):∃ r,rws[i]?=some r:=
 ⟨_,List.getElem?_eq_getElem (by rw [F.hr,← F.hs];exact (List.getElem?_eq_some_iff.mp h).1)⟩
theorem Facts.lead (F:Facts ts s0 n rws ss):Lead rws:=by
 have h0:=(List.getElem?_eq_some_iff.mp F.hd).1
 have hs:=F.hs
 have hr:=F.hr
 refine ⟨by omega,by rw [hr];exact F.few,fun r hrm q hq=>?_⟩
 obtain ⟨i,hi⟩:=List.getElem?_of_mem hrm
 obtain ⟨st,hst,R,_⟩:=F.st hi
 have:=(List.getElem?_eq_some_iff.mp (R.at_ q hq)).1
 omega
theorem Facts.key (F:Facts ts s0 n rws ss) {st:Sta} {r:Rw} (R:RowOk ss st r) (c:Nat):(∃ q∈r.2,q.1=c)↔resF c st≠[]:=by
 rw [← (grp_ok st).keys c,← R.keys,List.mem_map]
theorem eq_at {α:Type} {l:List α} (nd:l.Nodup) {i j:Nat} {x:α} (hi:l[i]?=some x) (hj:l[j]?=some x):i=j:=by
 obtain ⟨h1,e1⟩:=List.getElem?_eq_some_iff.mp hi
 obtain ⟨h2,e2⟩:=List.getElem?_eq_some_iff.mp hj
 have key:=List.pairwise_iff_getElem.mp nd
 rcases Nat.lt_trichotomy i j with z | z | z
 ·exact absurd (e1.trans e2.symm) (key i j h1 h2 z)
 ·exact z
 ·exact absurd (e2.trans e1.symm) (key j i h2 h1 z)
theorem Facts.rch (F:Facts ts s0 n rws ss):Rch rws:=by
 intro S h0 hc i hi
 have key:∀ u:List Nat,(u=[]∨resW u s0≠[])→∃ j,ss[j]?=some (resW u s0)∧S j:=by
  refine snoc_ind (fun _=>⟨0,F.hd,h0⟩) fun u c ih hu=>?_
  have hne:resW (u ++ [c]) s0≠[]:=hu.resolve_left (by simp)
  rw [resW_snoc] at hne ⊢
  have hu':resW u s0≠[]:=fun z=>hne (by rw [z];rfl)
  obtain ⟨j,hj,hS⟩:=ih (.inr hu')
  obtain ⟨r,hr⟩:=F.row_at hj
  have R:=F.row j _ r hj hr
  obtain ⟨q,hq,e⟩:=(F.key R c).mpr hne
  refine ⟨q.2,?_,hc j r hr hS q hq⟩
  rw [R.at_ q hq,e]
 obtain ⟨st,hst⟩:∃ st,ss[i]?=some st:=⟨_,List.getElem?_eq_getElem (by rw [F.hs,← F.hr];exact hi)⟩
 obtain ⟨u,e,hu⟩:=F.of st (List.mem_of_getElem? hst)
 obtain ⟨j,hj,hS⟩:=key u (by rw [← e];exact hu)
 rw [← e] at hj
 rw [eq_at F.nd hst hj]
 exact hS
theorem Facts.shp (F:Facts ts s0 n rws ss):Shp rws:=by
 refine ⟨fun r hrm=>?_,fun r hrm q hq=>?_,F.wide⟩
 ·obtain ⟨i,hi⟩:=List.getElem?_of_mem hrm
  obtain ⟨st,hst,R,hup,_⟩:=F.st hi
  rw [R.keys]
  exact List.pairwise_map.mpr ((grp_up st hup).imp fun {a b} h=>by simp [List.cons_lt_cons_iff,h])
 ·obtain ⟨i,hi⟩:=List.getElem?_of_mem hrm
  obtain ⟨st,hst,R,_⟩:=F.st hi
  have hne:=(F.key R q.1).mp ⟨q,hq,rfl⟩
  obtain ⟨v,hv⟩:=List.exists_mem_of_ne_nil _ hne
  obtain ⟨u,e,_⟩:=F.of st (List.mem_of_getElem? hst)
  have h1:=res_mem.mp hv
  rw [e] at h1
  exact (F.tx _ ((F.mem _).mp (resW_mem.mp h1))).asc q.1 (by simp)
theorem Facts.cnt (F:Facts ts s0 n rws ss):Cnt rws (lenOf ss) (fun i=>hgtL ((ss[i]?).getD [])):=by
 refine ⟨fun i r hr=>?_,fun i r hr q hq=>?_,fun i hi=>?_,fun i hi=>?_,F.wide⟩
 ·obtain ⟨st,hst,R,hup,_⟩:=F.st hr
  have nd:st.Nodup:=by
   refine List.Pairwise.imp ?_ hup
   intro a b hab e
   rw [e] at hab
   exact List.lt_irrefl _ hab
  have e1:lenOf ss i=st.length:=by unfold lenOf;rw [hst];rfl
  rw [e1,szG_grp st nd,R.fst]
  have e2:(r.2.map fun q=>lenOf ss q.2)=(r.2.map (·.1)).map fun c=>(resF c st).length:=by
   rw [List.map_map]
   refine List.map_congr_left fun q hq=>?_
   unfold lenOf
   rw [R.at_ q hq];rfl
  have e3:((grpF st).map (·.1)).map (fun c=>(resF c st).length)=(grpF st).map fun g=>g.2.length:=by
   rw [List.map_map]
   refine List.map_congr_left fun g hg=>?_
   show (resF g.1 st).length=g.2.length
   rw [(grp_ok st).eq g hg]
  rw [e2,R.keys,e3]
  by_cases h:[]∈st
  ·rw [if_pos h,decide_eq_true h];rfl
  ·rw [if_neg h,decide_eq_false h];rfl
 ·obtain ⟨st,hst,R,hup,_⟩:=F.st hr
  have hne:=(F.key R q.1).mp ⟨q,hq,rfl⟩
  show hgtL ((ss[q.2]?).getD []) < hgtL ((ss[i]?).getD [])
  rw [hst,R.at_ q hq]
  show hgtL (resF q.1 st) < hgtL st
  obtain ⟨v,hv⟩:=List.exists_mem_of_ne_nil _ hne
  have hb:=(hgt_ge st 0).2
  have h1:=hb _ (res_mem.mp hv)
  rw [List.length_cons] at h1
  have:hgtL (resF q.1 st)≤hgtL st - 1:=hgt_le _ 0 _ (by omega) fun t ht=>by
   have:=hb _ (res_mem.mp ht)
   rw [List.length_cons] at this
   show t.length≤st.foldl (fun m t=>max m t.length) 0 - 1
   omega
  have h2:0 < hgtL st:=Nat.lt_of_lt_of_le (Nat.succ_pos _) h1
  omega
 ·obtain ⟨r,hr⟩:∃ r,rws[i]?=some r:=⟨_,List.getElem?_eq_getElem hi⟩
  obtain ⟨st,hst,R,hup,_,h13⟩:=F.st hr
  show hgtL ((ss[i]?).getD [])≤13
  rw [hst]
  exact hgt_le _ 0 13 (by decide) h13
 ·obtain ⟨r,hr⟩:∃ r,rws[i]?=some r:=⟨_,List.getElem?_eq_getElem hi⟩
  obtain ⟨st,hst,R,hup,hl,_⟩:=F.st hr
  unfold lenOf
  rw [hst];exact hl
theorem Facts.apart (F:Facts ts s0 n rws ss):Apart rws:=by
 intro cl hcl i j hi hj e
 obtain ⟨ri,hri⟩:∃ r,rws[i]?=some r:=⟨_,List.getElem?_eq_getElem hi⟩
 obtain ⟨rj,hrj⟩:∃ r,rws[j]?=some r:=⟨_,List.getElem?_eq_getElem hj⟩
 obtain ⟨si,hsi,_,upi,_⟩:=F.st hri
 obtain ⟨sj,hsj,_,upj,_⟩:=F.st hrj
 have half:∀ (v:List Nat) (i j:Nat) si sj,ss[i]?=some si→ss[j]?=some sj→cl i=cl j→v∈si→v∈sj:=by
  intro v
  induction v with
  | nil=>
   intro i j si sj hsi hsj e hv
   obtain ⟨ri,hri⟩:=F.row_at hsi
   obtain ⟨rj,hrj⟩:=F.row_at hsj
   have h1:=(F.row i si ri hsi hri).fst
   have h2:=(F.row j sj rj hsj hrj).fst
   have h3:=(hcl i j ri rj hri hrj e).1
   rw [h1,h2,decide_eq_true hv] at h3
   exact of_decide_eq_true h3.symm
  | cons c v ih=>
   intro i j si sj hsi hsj e hv
   obtain ⟨ri,hri⟩:=F.row_at hsi
   obtain ⟨rj,hrj⟩:=F.row_at hsj
   have Ri:=F.row i si ri hsi hri
   have Rj:=F.row j sj rj hsj hrj
   have hv':=res_mem.mpr hv
   obtain ⟨q,hq,ec⟩:=(F.key Ri c).mpr (List.ne_nil_of_mem hv')
   have hm:=(hcl i j ri rj hri hrj e).2
   rw [mkOf_at hri,mkOf_at hrj] at hm
   have hm:=(Prod.mk.inj hm).2
   have hin:(keyS [q.1],(Sum.inl (cl q.2):Key))∈rj.2.map fun q=>(keyS [q.1],(Sum.inl (cl q.2):Key)):=by
    rw [← hm];exact List.mem_map.mpr ⟨q,hq,rfl⟩
   obtain ⟨q',hq',e'⟩:=List.mem_map.mp hin
   obtain ⟨e1,e2⟩:=Prod.mk.inj e'
   have e1:=keyS1 e1
   have e2:cl q'.2=cl q.2:=Sum.inl.inj e2
   have a1:=Ri.at_ q hq
   have a2:=Rj.at_ q' hq'
   rw [ec] at a1
   rw [e1,ec] at a2
   exact res_mem.mp (ih q.2 q'.2 _ _ a1 a2 e2.symm hv')
 have:si=sj:=up_eq upi upj fun v=>⟨half v i j si sj hsi hsj e,half v j i sj si hsj hsi e.symm⟩
 rw [this] at hsi
 exact eq_at F.nd hsi hsj
theorem Facts.zero (F:Facts ts s0 n rws ss):lenOf ss 0=ts.length:=by unfold lenOf;rw [F.hd];exact F.len
theorem Facts.pos (F:Facts ts s0 n rws ss) (h:ts≠[]) {i:Nat} (hi:i < rws.length):1≤lenOf ss i:=by
 obtain ⟨st,hst⟩:∃ st,ss[i]?=some st:=⟨_,List.getElem?_eq_getElem (by rw [F.hs,← F.hr];exact hi)⟩
 obtain ⟨u,e,hu⟩:=F.of st (List.mem_of_getElem? hst)
 have hne:st≠[]:=by
  rcases hu with rfl | hu
  ·intro z
   have e:st=s0:=e
   have:=F.len
   rw [← e,z] at this
   exact h (List.eq_nil_of_length_eq_zero this.symm)
  ·exact hu
 unfold lenOf
 rw [hst]
 exact List.length_pos_iff.mpr hne
end
end
end My
end
section
set_option Elab.async false
set_option linter.all false
set_option maxRecDepth 100000
set_option maxHeartbeats 2000000
namespace My
open PySem L2
section
variable {P:Program} {w:World} {K:PySem.W.Frag} {mg:Str→Option Value} {base:Heap}
theorem ns_flat (ns:List Nat):(Ns ns).all flatV=true:=by
 rw [List.all_eq_true]
 intro x hx
 obtain ⟨o,_,rfl⟩:=List.mem_map.mp hx
 rfl
theorem ns_non (ns:List Nat):inV .non (Ns ns)=false:=by
 unfold inV Ns
 rw [List.any_map]
 induction ns with
 | nil=>rfl
 | cons o xs ih=>rw [List.any_cons,ih];rfl
theorem ns_ints (ns:List Nat):Ns ns=(ns.map fun k=>((k:Nat):Int)).map V.int:=by
 unfold Ns
 rw [List.map_map];rfl
theorem bs_flat (bs:List Bool):(Bs bs).all flatV=true:=by
 rw [List.all_eq_true]
 intro x hx
 obtain ⟨o,_,rfl⟩:=List.mem_map.mp hx
 rfl
theorem bs_true (n:Nat):inV (.bl false) (Bs (List.replicate n true))=false:=by
 unfold inV Bs
 rw [List.any_map]
 induction n with
 | zero=>rfl
 | succ n ih=>rw [List.replicate_succ,List.any_cons,ih];rfl
theorem ok_law {C f1 f2 f:Addr} {fd1 fd2 fd:FuncData} (F:Fun K "law" "law" s_law f fd) (n_len:mg "len"=none) (n_min:mg "min"=none) (mg_Machine:mg "Machine"=some (.ref C)) (M_Machine:L2.Mk K C f1) (T_Machine:MachineCls K C)
  (G_Machine:FnOk P w K mg base CX0 5 f1 fd1 ["self","texts"] (spMach K C)) (b_Machine:Binds K fd1 ["self","texts"] []) (m_Machine_table:Meth K C "table" f2) (G_Machine_table:FnOk P w K mg base CX0 1 f2 fd2 ["self"] (spTab C)) (b_Machine_table:Binds K fd2 ["self"] [])
  (D_letters:Def P w K mg base "_law_letters" 4 ["_law_script","_law_k"] (spLet K)) (D_texts:Def P w K mg base "_law_texts" 6 ["_law_script","_law_letters_here"] (spTexts K))
  (D_shaped:Def P w K mg base "_law_shaped" 1 ["_law_table"] spShaped) (D_reached:Def P w K mg base "_law_reached" 1 ["_law_table"] spReached) (D_counts:Def P w K mg base "_law_counts" 1 ["_law_table"] spCounts) (D_parted:Def P w K mg base "_law_parted" 1 ["_law_table"] spParted) :
  FnOk P w K mg base CX0 7 f fd ["_law_script"] (spLaw K):=by
 refine F.qok sc_law (fun vs H Q E h=>?_) (fun cdv A outer s H vs Q E hr h=>?_)
 ·obtain ⟨a,ns,rfl,_⟩:=h
  rfl
 ·obtain ⟨a,ns,rfl,hS,hn,q⟩:=h
  refine ⟨_,(qss_cons (qs_set (i:=1) sc_law.nd rfl (Or.inl rfl) (qe_own D_letters (hr.mono (by decide)) rfl (qa_cons (qv 0) (qa_cons qe_int qa_nil)))) (qss_cons (qs_set (i:=2) sc_law.nd rfl (Or.inl rfl) (qe_own D_texts (hr.mono (by decide)) rfl (qa_cons (qv 0) (qa_cons (qv 1) qa_nil)))) (qss_cons (qs_set (i:=3) sc_law.nd rfl (Or.inl rfl) (qe_meth0 (qe_make M_Machine G_Machine (hr.mono (by decide)) rfl mg_Machine b_Machine .nil pass0 (qa_cons (qv 2) qa_nil)) T_Machine.cl m_Machine_table G_Machine_table (hr.mono (by decide)) b_Machine_table .nil pass0)) (qss_cons (qs_if (QW.qt (qw_or (qt_not (qt_val (qe_own D_shaped (hr.mono (by decide)) rfl (qa_cons (qv 3) qa_nil)))) (qw_or1 (qt_cmpR op_in_seq qe_bl (qe_own D_reached (hr.mono (by decide)) rfl (qa_cons (qv 3) qa_nil)) rfl)))) (qss_one (qs_ret qe_bl)) qss_nil) (qss_cons (qs_set (i:=4) sc_law.nd rfl (Or.inl rfl) (qe_own D_counts (hr.mono (by decide)) rfl (qa_cons (qv 3) qa_nil))) (qss_cons (qs_if (QW.qt (qw_or (qt_cmpR op_in_seq qe_non (qv 4) rfl) (qw_or1 (qt_cmpR op_ne (qe_ix ix_list (qv 4) qe_int (fun _ _=>rfl)) (qe_callB call_len_seq (by rfl) n_len PySem.boot_len (qa_cons (qv 2) qa_nil)) (nomark _))))) (qss_one (qs_ret qe_bl)) qss_nil) (qss_cons (qs_if (QW.qt (qw_and (qt_cmpR (op_neD hr.units) (qv 2) (qe_lst qa_nil) (nomark _)) (qw_and1 (qt_cmpR op_lt (qe_callB (call_minL rfl) (by rfl) n_min PyProof.Rows.boot_min (qa_cons (qv 4) qa_nil)) qe_int (nomark _))))) (qss_one (qs_ret qe_bl)) qss_nil) (qss_one (qs_ret (qe_cmpR op_eq (qe_own D_parted (hr.mono (by decide)) rfl (qa_cons (qv 3) qa_nil)) (qe_callB call_len_seq (by rfl) n_len PySem.boot_len (qa_cons (qv 3) qa_nil)) (nomark _))))))))))),?_⟩
  refine ⟨_,rfl,a,ns,0,rfl,hS,by decide,fun ls H1 s1 hA=>?_⟩
  refine ⟨_,rfl,_,rfl,a,ns,ls,rfl,s1.seq hS,by omega,hA,fun p ts H2 s2 np hp hT=>?_⟩
  have htl:=hT.len
  have htx:=hT.tx
  refine ⟨_,rfl,?_⟩
  intro m dx hm hdx hne
  have k6:Same H2 (upd (upd H2 dx (.own m)) m (.ins C dx [])):=(Same.upd hdx).upd' hm
  refine ⟨m,dx,p,ts,rfl,upd_same,.inl (SqL.of (k6 _ _ hp)),by omega,fun t ht=>Nat.le_trans (htx t ht).short (by decide),fun s0 n e7 H7 kp7 tb _ ME=>⟨rfl,?_⟩⟩
  have k27:Same H2 H7:=fun b o e=>kp7 b o (k6 _ _ e) (ne_of_none e hm)
  have hp7:=k27 _ _ hp
  have FF:=facts tb hT
  obtain ⟨dxm,_,_,hm7,_⟩:=id ME
  refine ⟨m,dxm,_,rfl,hm7,rfl,m,_,rfl,ME.at_,fun t t7=>?_⟩
  generalize (Tb s0 n).2=rws at FF t7
  generalize (Tb s0 n).1=ss at FF
  have lead:=FF.lead
  refine ⟨_,rfl,t,rws,rfl,t7,lead,FF.shp,fun H8 s8=>⟨true,rfl,iteF ?_⟩⟩
  have t8:=t7.mv (Kt.of s8)
  refine ⟨_,rfl,t,rws,rfl,t8,lead,FF.rch,fun B H9 s9 hB9=>?_⟩
  refine ⟨B,_,rfl,.inl (SqL.of hB9),rfl,bs_flat _,_,rfl,?_⟩
  rw [bs_true]
  refine iteF ?_
  have t9:=t8.mv (Kt.of s9)
  refine ⟨_,rfl,t,rws,_,_,rfl,t9,lead,FF.cnt,fun c H10 s10 hc=>?_⟩
  have s710:=s8.trans (s9.trans s10)
  have hp10:=s710 _ _ hp7
  refine ⟨_,rfl,c,_,rfl,.inl (SqL.of hc),rfl,ns_flat _,_,rfl,?_⟩
  rw [ns_non]
  refine iteF ?_
  have h0:(Ns ((List.range rws.length).map (lenOf ss)))[0]?=some (.int (ts.length:Nat)):=by
   unfold Ns
   rw [List.getElem?_map,List.getElem?_map,List.getElem?_range lead.pos]
   show some (V.int ((lenOf ss 0:Nat):Int))=_
   rw [FF.zero]
  refine ⟨_,rfl,c,_,0,_,rfl,rfl,SqL.of hc,atI_nat (j:=0) h0,_,rfl,p,_,rfl,.inl (SqL.of hp10),rfl,_,rfl,?_⟩
  refine ite2 (fun c=>by simp [Ts] at c) (fun _=>?_)
  have fin:∀ H11,Same H10 H11→tRet (tOp rEq (tCall spParted [] E0 (tCons (tVar 3) tNil)) (tCB (fun xs H Q=>∃ p ys,xs=[V.ref p]∧(SqL K H p ys∨SqT K H p ys)∧Q (V.int ys.length) H) (tCons (tVar 3) tNil))) { nx:=fun x H'=>Q V.non H',rt:=Q } [some (.ref a),some (.str (S ls)),some (.ref p),some (.ref t),some (.ref c)] H11:=by
   intro H11 s11
   have t11:=t9.mv (Kt.of (s10.trans s11))
   refine ⟨_,rfl,t,rws,rfl,t11,lead,FF.wide,FF.apart,fun H12 s12=>?_⟩
   obtain ⟨ra,ht,rt⟩:=t11.mv (Kt.of s12)
   refine ⟨_,rfl,t,_,rfl,.inr (SqT.of ht),rfl,?_⟩
   have:decide (V.int (rws.length:Nat)=V.int ((ra.map V.ref).length:Nat))=true:=decide_eq_true (by rw [List.length_map,rt.len])
   rw [this]
   exact q _
  refine ⟨_,rfl,by show 0≤sizeLine;decide,fun Z hZ=>?_⟩
  have s11:Same H10 (upd H10 Z (.lst [])):=Same.upd hZ
  have eZ:upd H10 Z (.lst []) Z=some (.lst (Ts [])):=upd_same
  generalize upd H10 Z (.lst [])=H11 at s11 eZ ⊢
  have hc11:=s11 _ _ hc
  rw [ns_ints] at hc11
  refine ⟨1,_,_,by decide,.lst (SqL.of (s11 _ _ hp10)) (HasDs.ofT fun t ht=>(htx t ht).asc),.lst (SqL.of eZ) (HasDs.ofT (ls:=[]) fun t ht=>by simp at ht),_,rfl,?_⟩
  refine ite2 (fun cn=>?_) (fun _=>iteF (fin H11 s11))
  have hne:ts≠[]:=by
   rintro rfl
   simp at cn
  refine ⟨_,rfl,c,_,rfl,SqL.of hc11,by rw [List.length_map,List.length_map,List.length_range];exact lead.pos,fun mv hmv hmin=>⟨_,_,rfl,rfl,_,rfl,?_⟩⟩
  refine ite2 (fun c1=>?_) (fun _=>fin H11 s11)
  have c1:mv < 1:=of_decide_eq_true c1
  obtain ⟨k,hk,rfl⟩:=List.mem_map.mp hmv
  obtain ⟨i,hi,rfl⟩:=List.mem_map.mp hk
  have:=FF.pos hne (List.mem_range.mp hi)
  omega
end
end My
end
set_option Elab.async false
set_option linter.all false
set_option maxRecDepth 100000
set_option maxHeartbeats 2000000
namespace My
open PySem L2
section
variable {P:Program} {w:World} {K:PySem.W.Frag} {mg:Str→Option Value} {base:Heap}
structure MachineFacts (K:PySem.W.Frag) (mg:Str→Option Value) (C f0 f1:Addr) (fd0 fd1:FuncData):Prop where
 T:MachineCls K C
 mgC:mg "Machine"=some (.ref C)
 M:Mk K C f0
 F0:Fun K "__init__" "Machine.__init__" s_Machine_init f0 fd0
 b0:Binds K fd0 ["self","texts"] []
 F1:Fun K "table" "Machine.table" s_Machine_table f1 fd1
 b1:Binds K fd1 ["self"] []
 m1:Meth K C "table" f1
theorem Machine_mk {h:Heap} {C f0 f1:Addr} (X:K.In h) (G:h.Ns mainGlobals mg)
  {od0 an0 od1 an1:Option Addr} {sl0 sl1:Array (Option Value)} {oc0 kV0 dc0 pm0 cd0 ct0 oc1 kV1 dc1 pm1 cd1 ct1:Value}
  (aC:PySem.W.nsIn K mainGlobals "Machine"=some (some (.ref C)))
  (a0:PySem.W.findIn K (.ref C) "__init__"=some (some (.ref f0))) (i0:PySem.W.isFn K (.ref f0)=true) (l0:K.lookup f0=some ⟨oc0,od0,.func (PySem.W.fnOf "__init__" "Machine.__init__" (defArgs s_Machine_init) (defBody s_Machine_init) (defScope s_Machine_init) .none kV0 dc0 pm0 an0 cd0 ct0),sl0⟩) (c0:PySem.W.codeIn K cd0 "Machine.__init__"=true) (k0:PySem.W.keepIn K (.ref f0)=true)
  (a1:PySem.W.findIn K (.ref C) "table"=some (some (.ref f1))) (i1:PySem.W.isFn K (.ref f1)=true) (l1:K.lookup f1=some ⟨oc1,od1,.func (PySem.W.fnOf "table" "Machine.table" (defArgs s_Machine_table) (defBody s_Machine_table) (defScope s_Machine_table) .none kV1 dc1 pm1 an1 cd1 ct1),sl1⟩) (c1:PySem.W.codeIn K cd1 "Machine.table"=true) (k1:PySem.W.keepIn K (.ref f1)=true)
  (pg:PySem.W.plainGet K C Str.empty=true) (hd:PySem.W.hasDictIn K C=true) (po:PySem.W.plainOver K C=true) (sa:PySem.W.findIn K (.ref C) "__setattr__"=some (some (.builtin "object.__setattr__"))) (mk:PySem.W.makesIn K C=true) (kc:PySem.W.keepIn K (.ref C)=true) (nf0:PySem.W.findIn K (.ref C) "rows"=some none) (nf1:PySem.W.findIn K (.ref C) "steps"=some none) (nf2:PySem.W.findIn K (.ref C) "end_states"=some none):∃ C f0 f1 fd0 fd1,MachineFacts K mg C f0 f1 fd0 fd1:=by
 have F0:=fun_mk (st:=s_Machine_init) l0 c0 k0
 have F1:=fun_mk (st:=s_Machine_table) l1 c1 k1
 exact ⟨C,f0,f1,_,_,⟨⟨pg,hd,po,sa⟩,nf0,nf1,nf2⟩,PySem.W.mg_of X G aC,⟨mk,a0,i0,kc⟩,F0,F0.binds (ps:=["self","texts"]) (fun _ _ _ _ _ _ us hl=>L2.e2 (fun _ _=>rfl) us hl),F1,F1.binds (ps:=["self"]) (fun _ _ _ _ _ _ us hl=>L2.e1 (fun _=>rfl) us hl),⟨a1,i1,k1⟩⟩
theorem law_all (n_len:mg "len"=none) (n_range:mg "range"=none) (n_sorted:mg "sorted"=none) (n_set:mg "set"=none) (n_tuple:mg "tuple"=none) (n_isinstance:mg "isinstance"=none) (n_bool:mg "bool"=none) (n_int:mg "int"=none) (n_min:mg "min"=none) (n_sum:mg "sum"=none) (n_enumerate:mg "enumerate"=none) (d_rests_by_sign:DefAt K mg "rests_by_sign" s_rests_by_sign ["texts"]) (d_least_table:DefAt K mg "least_table" s_least_table ["texts"]) (d_cell_at:DefAt K mg "_law_cell_at" s_cell_at ["_law_script","_law_k"]) (d_next:DefAt K mg "_law_next" s_next ["_law_x"]) (d_other:DefAt K mg "_law_other" s_other ["_law_x"]) (d_number:DefAt K mg "_law_number" s_number ["_law_script","_law_k"]) (d_digits:DefAt K mg "_law_digits" s_digits ["_law_script","_law_k","_law_base","_law_many"]) (d_letters:DefAt K mg "_law_letters" s_letters ["_law_script","_law_k"]) (d_word_of:DefAt K mg "_law_word_of" s_word_of ["_law_row","_law_letters_here"]) (d_mixed:DefAt K mg "_law_mixed" s_mixed ["_law_cell","_law_k","_law_many"]) (d_rows_of:DefAt K mg "_law_rows_of" s_rows_of ["_law_script","_law_start","_law_most"]) (d_book:DefAt K mg "_law_book" s_book ["_law_script","_law_start","_law_most","_law_letters_here"]) (d_turned:DefAt K mg "_law_turned" s_turned ["_law_word_here"]) (d_plain:DefAt K mg "_law_plain" s_plain ["_law_row","_law_letters_here"]) (d_texts:DefAt K mg "_law_texts" s_texts ["_law_script","_law_letters_here"]) (d_reached:DefAt K mg "_law_reached" s_reached ["_law_table"]) (d_counts:DefAt K mg "_law_counts" s_counts ["_law_table"]) (d_parted:DefAt K mg "_law_parted" s_parted ["_law_table"]) (d_shaped:DefAt K mg "_law_shaped" s_shaped ["_law_table"]) {C_Machine fMachine0 fMachine1:Addr} {fdMachine0 fdMachine1:FuncData} (B_Machine:MachineFacts K mg C_Machine fMachine0 fMachine1 fdMachine0 fdMachine1)
  {f:Addr} {fd:FuncData} (F:Fun K "law" "law" s_law f fd):FnOk P w K mg base CX0 20 f fd ["_law_script"] (spLaw K):=by
 have c1:=ok_cell (P:=P) (w:=w) (base:=base) d_cell_at n_len
 have c2:=ok_next (P:=P) (w:=w) (base:=base) d_next
 have c3:=ok_other (P:=P) (w:=w) (base:=base) d_other
 have c4:=ok_number d_number c1 c2 c3
 have c5:=ok_digits d_digits n_range c1 c2 c3 c4
 have c6:=ok_letters d_letters n_sorted c5
 have c7:=ok_word_of (P:=P) (w:=w) (base:=base) d_word_of n_len
 have x1:=ok_mixed d_mixed n_range c2 c3
 have x2:=ok_rows_of d_rows_of n_len n_range n_min c1 x1 c5
 have x3:=ok_book d_book x2 c7
 have x4:=ok_turned (P:=P) (w:=w) (base:=base) d_turned n_len n_range
 have x5:=ok_plain (P:=P) (w:=w) (base:=base) d_plain n_len
 have x6:=ok_texts d_texts n_len n_range c1 x3 x4 x2 x5
 have t1:=ok_rests_by_sign (P:=P) (w:=w) (base:=base) d_rests_by_sign
 have t2:=ok_least_table d_least_table n_tuple n_sorted n_set n_len t1
 have g0:=ok_mach B_Machine.F0 B_Machine.T n_enumerate t2
 have gt:=ok_table (P:=P) (w:=w) (mg:=mg) (base:=base) B_Machine.F1 B_Machine.T
 have y1:=ok_shaped (P:=P) (w:=w) (base:=base) d_shaped n_len n_set n_int n_tuple n_bool n_sorted n_isinstance
 have y2:=ok_reached (P:=P) (w:=w) (base:=base) d_reached n_len
 have y3:=ok_counts (P:=P) (w:=w) (base:=base) d_counts n_len n_range n_sum n_int
 have y4:=ok_parted (P:=P) (w:=w) (base:=base) d_parted n_len n_range n_set n_int n_tuple
 exact (ok_law F n_len n_min B_Machine.mgC B_Machine.M B_Machine.T g0 B_Machine.b0 B_Machine.m1 gt B_Machine.b1 c6 x6 y1 y2 y3 y4).mono (by decide)
end
end My
def PySem.W.Fast.tw5353132250591776521:Nat:=0
def PySem.W.Fast.tw9626734902957247723:Nat:=0
def PySem.W.Fast.tw7314881294590934100:Nat:=0
def PySem.W.Fast.tw16211334419174928463:Nat:=0
def PySem.W.Fast.tw646364643859279639:Nat:=0
def PySem.W.Fast.tw11260754988773783172:Nat:=0
def PySem.W.Fast.tw18267042475409118084:Nat:=0
def PySem.W.Fast.tw14664181115029298854:Nat:=0
def PySem.W.Fast.tw16375954717426041536:Nat:=0
def PySem.W.Fast.tw937589419712411086:Nat:=0
def PySem.W.Fast.tw15978943109155906181:Nat:=0
def PySem.W.Fast.tw13925914115205584921:Nat:=0
def PySem.W.Fast.tw16569007628093449661:Nat:=0
def PySem.W.Fast.tw7979626323208009594:Nat:=0
def PySem.W.Fast.tw12208533975020854481:Nat:=0
def PySem.W.Fast.tw1595585194701667546:Nat:=0
def PySem.W.Fast.tw1508042651407979770:Nat:=0
def PySem.W.Fast.tw7080004704808553704:Nat:=0
def PySem.W.Fast.tw10893536348055312697:Nat:=0
def PySem.W.Fast.tw9209900347546315259:Nat:=0
def PySem.W.Fast.tw17737024207145242894:Nat:=0
def PySem.W.Fast.tw18031223258773370162:Nat:=0
def PySem.W.Fast.tw10334122211750323024:Nat:=0
def PySem.W.Fast.tw17305782406050170744:Nat:=0
def PySem.W.Fast.tw12178265839417573291:Nat:=0
def PySem.W.Fast.tw3047861079243005558:Nat:=0
def PySem.W.Fast.tw16747120262718570378:Nat:=0
def PySem.W.Fast.tw17416313842672935410:Nat:=0
def PySem.W.Fast.tw14319091597993710390:Nat:=0
def PySem.W.Fast.tw460066299343622747:Nat:=0
def PySem.W.Fast.tw1876041354977238398:Nat:=0
def PySem.W.Fast.tw9362341966627014037:Nat:=0
def PySem.W.Fast.tw7797168558034956280:Nat:=0
def PySem.W.Fast.tw14365804137793247268:Nat:=0
def PySem.W.Fast.tw11218330429048232679:Nat:=0
def PySem.W.Fast.tw16228279202211426334:Nat:=0
def PySem.W.Fast.tw3780537187953415571:Nat:=0
def PySem.W.Fast.tw5173163067353991093:Nat:=0
def PySem.W.Fast.tw4888622666671083822:Nat:=0
def PySem.W.Fast.tw2808266942072587048:Nat:=0
def PySem.W.Fast.tw14366099735794914336:Nat:=0
def PySem.W.Fast.tw3979179980242247001:Nat:=0
def PySem.W.Fast.tw18250072430072603736:Nat:=0
def PySem.W.Fast.tw4798508177484880423:Nat:=0
def PySem.W.Fast.tw11710268604544018579:Nat:=0
def PySem.W.Fast.tw10535783087999587604:Nat:=0
def PySem.W.Fast.tw2906411467951300698:Nat:=0
def PySem.W.Fast.tw11366670347142340085:Nat:=0
def PySem.W.Fast.tw4896143813704659996:Nat:=0
def PySem.W.Fast.tw2945285297728522605:Nat:=0
def PySem.W.Fast.tw3682377177049786177:Nat:=0
def PySem.W.Fast.tw13610226584991066750:Nat:=0
def PySem.W.Fast.tw12076037191963435966:Nat:=0
def PySem.W.Fast.tw14554517893035426553:Nat:=0
def PySem.W.Fast.tw17333032976026043169:Nat:=0
def PySem.W.Fast.tw145800684879368159:Nat:=0
def PySem.W.Fast.tw1771999288956191130:Nat:=0
def PySem.W.Fast.tw7163091818812707170:Nat:=0
def PySem.W.Fast.tw11625789722347406239:Nat:=0
def PySem.W.Fast.tw5845282991536432579:Nat:=0
def PySem.W.Fast.tw1024762799850099385:Nat:=0
def PySem.W.Fast.tw17107938106146433117:Nat:=0
def PySem.W.Fast.tw2975318465734377439:Nat:=0
def PySem.W.Fast.tw6513611708953470626:Nat:=0
def PySem.W.Fast.tw2565883132248121443:Nat:=0
def PySem.W.Fast.tw4050491976526634380:Nat:=0
def PySem.W.Fast.tw15039142185386504767:Nat:=0
def PySem.W.Fast.tw937535755971423044:Nat:=0
def PySem.W.Fast.tw3221009195520601929:Nat:=0
def PySem.W.Fast.tw10767742044120059684:Nat:=0
def PySem.W.Fast.tw3632390026208631329:Nat:=0
def PySem.W.Fast.tw12080175003101804697:Nat:=0
def PySem.W.Fast.tw10325589126548260571:Nat:=0
def PySem.W.Fast.tw8379012508302447662:Nat:=0
def PySem.W.Fast.tw2617217747532052882:Nat:=0
def PySem.W.Fast.tw16152733096464804275:Nat:=0
def PySem.W.Fast.tw14777259061558066272:Nat:=0
def PySem.W.Fast.tw4637796407967764515:Nat:=0
def PySem.W.Fast.tw1746146632853358126:Nat:=0
def PySem.W.Fast.tw2469507210760279259:Nat:=0
def PySem.W.Fast.tw9649381498318971971:Nat:=0
def PySem.W.Fast.tw13051948174643091802:Nat:=0
def PySem.W.Fast.tw6949194515213227349:Nat:=0
def PySem.W.Fast.tw11269467507709208706:Nat:=0
def PySem.W.Fast.tw728854484056523824:Nat:=0
def PySem.W.Fast.tw2751866958934614730:Nat:=0
def PySem.W.Fast.tw16660814523617341493:Nat:=0
def PySem.W.Fast.tw9435351404865791112:Nat:=0
def PySem.W.Fast.tw5922457241021900649:Nat:=0
def PySem.W.Fast.tw16874587441011648068:Nat:=0
def PySem.W.Fast.tw1356041675982426427:Nat:=0
def PySem.W.Fast.tw15969413606452309113:Nat:=0
def PySem.W.Fast.tw18403646633391264365:Nat:=0
def PySem.W.Fast.tw12420480255396900061:Nat:=0
def PySem.W.Fast.tw5326095122811442558:Nat:=0
def PySem.W.Fast.tw8226941986484149582:Nat:=0
def PySem.W.Fast.tw15791824322539014623:Nat:=0
def PySem.W.Fast.tw14259347364356482240:Nat:=0
def PySem.W.Fast.tw3214585068619854483:Nat:=0
def PySem.W.Fast.tw10208552257312512708:Nat:=0
def PySem.W.Fast.tw3982039679954600344:Nat:=0
def PySem.W.Fast.tw5737487923885800364:Nat:=0
def PySem.W.Fast.tw2810014370457217992:Nat:=0
def PySem.W.Fast.tw14693801076112315267:Nat:=0
def PySem.W.Fast.tw3231831559586355144:Nat:=0
def PySem.W.Fast.tw4551926578358246292:Nat:=0
def PySem.W.Fast.tw13524609587887035072:Nat:=0
def PySem.W.Fast.tw12075126138443867383:Nat:=0
def PySem.W.Fast.tw15331078542931904443:Nat:=0
def PySem.W.Fast.tw8197764907773785847:Nat:=0
def PySem.W.Fast.tw13941958103288137736:Nat:=0
def PySem.W.Fast.tw840239536546041106:Nat:=0
def PySem.W.Fast.tw12458417626562184676:Nat:=0
def PySem.W.Fast.tw10468083150934474119:Nat:=0
def PySem.W.Fast.tw18159300249337234891:Nat:=0
def PySem.W.Fast.tw11315872883771518658:Nat:=0
def PySem.W.Fast.tw12427168953786584779:Nat:=0
def PySem.W.Fast.tw974856758742370781:Nat:=0
def PySem.W.Fast.tw15654695082558817881:Nat:=0
def PySem.W.Fast.tw17526620985863199247:Nat:=0
def PySem.W.Fast.tw17585559069903989573:Nat:=0
def PySem.W.Fast.tw18121811111958483200:Nat:=0
def PySem.W.Fast.tw66078108724325026:Nat:=0
open PySem PySem.W PyProof.Rows
set_option maxRecDepth 100000 in
set_option maxHeartbeats 0 in
theorem PySem.Challenge.cw_letterrack_k04_whole_least_holds : PySem.Challenge.rw_letterrack_k04_whole_least.Holds := by
 w_on;o_law;k_head;(case hw=>w_witness2)
 k_fill
 refine L2.walkLaw (x:="_law_script") (l:=PySem.Challenge.rw_letterrack_k04_whole_least) rfl rfl (fun w h Y=>PySem.W.kIn_of Y) ?F
 case F=>
  intro w mg fa h KX G hmg
  have n_len:mg "len"=none:=by
   refine' PySem.W.mg_none_of KX G ?z
   (case z=>k_is)
  have n_range:mg "range"=none:=by
   refine' PySem.W.mg_none_of KX G ?z
   (case z=>k_is)
  have n_sorted:mg "sorted"=none:=by
   refine' PySem.W.mg_none_of KX G ?z
   (case z=>k_is)
  have n_set:mg "set"=none:=by
   refine' PySem.W.mg_none_of KX G ?z
   (case z=>k_is)
  have n_tuple:mg "tuple"=none:=by
   refine' PySem.W.mg_none_of KX G ?z
   (case z=>k_is)
  have n_isinstance:mg "isinstance"=none:=by
   refine' PySem.W.mg_none_of KX G ?z
   (case z=>k_is)
  have n_bool:mg "bool"=none:=by
   refine' PySem.W.mg_none_of KX G ?z
   (case z=>k_is)
  have n_int:mg "int"=none:=by
   refine' PySem.W.mg_none_of KX G ?z
   (case z=>k_is)
  have n_min:mg "min"=none:=by
   refine' PySem.W.mg_none_of KX G ?z
   (case z=>k_is)
  have n_sum:mg "sum"=none:=by
   refine' PySem.W.mg_none_of KX G ?z
   (case z=>k_is)
  have n_enumerate:mg "enumerate"=none:=by
   refine' PySem.W.mg_none_of KX G ?z
   (case z=>k_is)
  have d_rests_by_sign:L2.DefAt (L2.KOf KX) mg "rests_by_sign" My.s_rests_by_sign ["texts"]:=by
   dsimp only [L2.KOf]
   refine' L2.defat_mk KX G ?a ?l ?c ?k ?b
   (case a=>k_is);(case l=>k_is);(case c=>k_is);(case k=>k_is)
   (case b=>exact fun _ _ _ _ _ _ us hl=>L2.e1 (fun _=>rfl) us hl)
  have d_least_table:L2.DefAt (L2.KOf KX) mg "least_table" My.s_least_table ["texts"]:=by
   dsimp only [L2.KOf]
   refine' L2.defat_mk KX G ?a ?l ?c ?k ?b
   (case a=>k_is);(case l=>k_is);(case c=>k_is);(case k=>k_is)
   (case b=>exact fun _ _ _ _ _ _ us hl=>L2.e1 (fun _=>rfl) us hl)
  have d_cell_at:L2.DefAt (L2.KOf KX) mg "_law_cell_at" My.s_cell_at ["_law_script","_law_k"]:=by
   dsimp only [L2.KOf]
   refine' L2.defat_mk KX G ?a ?l ?c ?k ?b
   (case a=>k_is);(case l=>k_is);(case c=>k_is);(case k=>k_is)
   (case b=>exact fun _ _ _ _ _ _ us hl=>L2.e2 (fun _ _=>rfl) us hl)
  have d_next:L2.DefAt (L2.KOf KX) mg "_law_next" My.s_next ["_law_x"]:=by
   dsimp only [L2.KOf]
   refine' L2.defat_mk KX G ?a ?l ?c ?k ?b
   (case a=>k_is);(case l=>k_is);(case c=>k_is);(case k=>k_is)
   (case b=>exact fun _ _ _ _ _ _ us hl=>L2.e1 (fun _=>rfl) us hl)
  have d_other:L2.DefAt (L2.KOf KX) mg "_law_other" My.s_other ["_law_x"]:=by
   dsimp only [L2.KOf]
   refine' L2.defat_mk KX G ?a ?l ?c ?k ?b
   (case a=>k_is);(case l=>k_is);(case c=>k_is);(case k=>k_is)
   (case b=>exact fun _ _ _ _ _ _ us hl=>L2.e1 (fun _=>rfl) us hl)
  have d_number:L2.DefAt (L2.KOf KX) mg "_law_number" My.s_number ["_law_script","_law_k"]:=by
   dsimp only [L2.KOf]
   refine' L2.defat_mk KX G ?a ?l ?c ?k ?b
   (case a=>k_is);(case l=>k_is);(case c=>k_is);(case k=>k_is)
   (case b=>exact fun _ _ _ _ _ _ us hl=>L2.e2 (fun _ _=>rfl) us hl)
  have d_digits:L2.DefAt (L2.KOf KX) mg "_law_digits" My.s_digits ["_law_script","_law_k","_law_base","_law_many"]:=by
   dsimp only [L2.KOf]
   refine' L2.defat_mk KX G ?a ?l ?c ?k ?b
   (case a=>k_is);(case l=>k_is);(case c=>k_is);(case k=>k_is)
   (case b=>exact fun _ _ _ _ _ _ us hl=>L2.e4 (fun _ _ _ _=>rfl) us hl)
  have d_letters:L2.DefAt (L2.KOf KX) mg "_law_letters" My.s_letters ["_law_script","_law_k"]:=by
   dsimp only [L2.KOf]
   refine' L2.defat_mk KX G ?a ?l ?c ?k ?b
   (case a=>k_is);(case l=>k_is);(case c=>k_is);(case k=>k_is)
   (case b=>exact fun _ _ _ _ _ _ us hl=>L2.e2 (fun _ _=>rfl) us hl)
  have d_word_of:L2.DefAt (L2.KOf KX) mg "_law_word_of" My.s_word_of ["_law_row","_law_letters_here"]:=by
   dsimp only [L2.KOf]
   refine' L2.defat_mk KX G ?a ?l ?c ?k ?b
   (case a=>k_is);(case l=>k_is);(case c=>k_is);(case k=>k_is)
   (case b=>exact fun _ _ _ _ _ _ us hl=>L2.e2 (fun _ _=>rfl) us hl)
  have d_mixed:L2.DefAt (L2.KOf KX) mg "_law_mixed" My.s_mixed ["_law_cell","_law_k","_law_many"]:=by
   dsimp only [L2.KOf]
   refine' L2.defat_mk KX G ?a ?l ?c ?k ?b
   (case a=>k_is);(case l=>k_is);(case c=>k_is);(case k=>k_is)
   (case b=>exact fun _ _ _ _ _ _ us hl=>L2.e3 (fun _ _ _=>rfl) us hl)
  have d_rows_of:L2.DefAt (L2.KOf KX) mg "_law_rows_of" My.s_rows_of ["_law_script","_law_start","_law_most"]:=by
   dsimp only [L2.KOf]
   refine' L2.defat_mk KX G ?a ?l ?c ?k ?b
   (case a=>k_is);(case l=>k_is);(case c=>k_is);(case k=>k_is)
   (case b=>exact fun _ _ _ _ _ _ us hl=>L2.e3 (fun _ _ _=>rfl) us hl)
  have d_book:L2.DefAt (L2.KOf KX) mg "_law_book" My.s_book ["_law_script","_law_start","_law_most","_law_letters_here"]:=by
   dsimp only [L2.KOf]
   refine' L2.defat_mk KX G ?a ?l ?c ?k ?b
   (case a=>k_is);(case l=>k_is);(case c=>k_is);(case k=>k_is)
   (case b=>exact fun _ _ _ _ _ _ us hl=>L2.e4 (fun _ _ _ _=>rfl) us hl)
  have d_turned:L2.DefAt (L2.KOf KX) mg "_law_turned" My.s_turned ["_law_word_here"]:=by
   dsimp only [L2.KOf]
   refine' L2.defat_mk KX G ?a ?l ?c ?k ?b
   (case a=>k_is);(case l=>k_is);(case c=>k_is);(case k=>k_is)
   (case b=>exact fun _ _ _ _ _ _ us hl=>L2.e1 (fun _=>rfl) us hl)
  have d_plain:L2.DefAt (L2.KOf KX) mg "_law_plain" My.s_plain ["_law_row","_law_letters_here"]:=by
   dsimp only [L2.KOf]
   refine' L2.defat_mk KX G ?a ?l ?c ?k ?b
   (case a=>k_is);(case l=>k_is);(case c=>k_is);(case k=>k_is)
   (case b=>exact fun _ _ _ _ _ _ us hl=>L2.e2 (fun _ _=>rfl) us hl)
  have d_texts:L2.DefAt (L2.KOf KX) mg "_law_texts" My.s_texts ["_law_script","_law_letters_here"]:=by
   dsimp only [L2.KOf]
   refine' L2.defat_mk KX G ?a ?l ?c ?k ?b
   (case a=>k_is);(case l=>k_is);(case c=>k_is);(case k=>k_is)
   (case b=>exact fun _ _ _ _ _ _ us hl=>L2.e2 (fun _ _=>rfl) us hl)
  have d_reached:L2.DefAt (L2.KOf KX) mg "_law_reached" My.s_reached ["_law_table"]:=by
   dsimp only [L2.KOf]
   refine' L2.defat_mk KX G ?a ?l ?c ?k ?b
   (case a=>k_is);(case l=>k_is);(case c=>k_is);(case k=>k_is)
   (case b=>exact fun _ _ _ _ _ _ us hl=>L2.e1 (fun _=>rfl) us hl)
  have d_counts:L2.DefAt (L2.KOf KX) mg "_law_counts" My.s_counts ["_law_table"]:=by
   dsimp only [L2.KOf]
   refine' L2.defat_mk KX G ?a ?l ?c ?k ?b
   (case a=>k_is);(case l=>k_is);(case c=>k_is);(case k=>k_is)
   (case b=>exact fun _ _ _ _ _ _ us hl=>L2.e1 (fun _=>rfl) us hl)
  have d_parted:L2.DefAt (L2.KOf KX) mg "_law_parted" My.s_parted ["_law_table"]:=by
   dsimp only [L2.KOf]
   refine' L2.defat_mk KX G ?a ?l ?c ?k ?b
   (case a=>k_is);(case l=>k_is);(case c=>k_is);(case k=>k_is)
   (case b=>exact fun _ _ _ _ _ _ us hl=>L2.e1 (fun _=>rfl) us hl)
  have d_shaped:L2.DefAt (L2.KOf KX) mg "_law_shaped" My.s_shaped ["_law_table"]:=by
   dsimp only [L2.KOf]
   refine' L2.defat_mk KX G ?a ?l ?c ?k ?b
   (case a=>k_is);(case l=>k_is);(case c=>k_is);(case k=>k_is)
   (case b=>exact fun _ _ _ _ _ _ us hl=>L2.e1 (fun _=>rfl) us hl)
  have xbf_Machine:∃ C f0 f1 fd0 fd1,My.MachineFacts (L2.KOf KX) mg C f0 f1 fd0 fd1:=by
   dsimp only [L2.KOf]
   refine' My.Machine_mk KX G ?aC ?a0 ?i0 ?l0 ?c0 ?k0 ?a1 ?i1 ?l1 ?c1 ?k1 ?pg ?hd ?po ?sa ?mk ?kc ?nf0 ?nf1 ?nf2
   (case aC=>k_is)
   (case a0=>k_is)
   (case i0=>k_is)
   (case l0=>k_is)
   (case c0=>k_is)
   (case k0=>k_is)
   (case a1=>k_is)
   (case i1=>k_is)
   (case l1=>k_is)
   (case c1=>k_is)
   (case k1=>k_is)
   (case pg=>k_is)
   (case hd=>k_is)
   (case po=>k_is)
   (case sa=>k_is)
   (case mk=>k_is)
   (case kc=>k_is)
   (case nf0=>k_is)
   (case nf1=>k_is)
   (case nf2=>k_is)
  obtain ⟨_,_,_,_,_,bf_Machine⟩:=xbf_Machine
  have lw:∃ fd:FuncData,L2.Fun (L2.KOf KX) "law" "law" My.s_law fa fd∧∀ (s:Shared) (v:Value),BindsTo s fd ⟨[v],[]⟩ [("_law_script",v)]:=by
   dsimp only [L2.KOf]
   refine' L2.law_at KX G hmg ?a ?l ?c ?k ?b
   (case a=>k_is);(case l=>k_is);(case c=>k_is);(case k=>k_is)
   (case b=>exact fun _ _ _ _ _ _ _=>rfl)
  obtain ⟨fd,F,hb⟩:=lw
  exact ⟨fd,hb,fun base _ _=>My.law_all n_len n_range n_sorted n_set n_tuple n_isinstance n_bool n_int n_min n_sum n_enumerate d_rests_by_sign d_least_table d_cell_at d_next d_other d_number d_digits d_letters d_word_of d_mixed d_rows_of d_book d_turned d_plain d_texts d_reached d_counts d_parted d_shaped bf_Machine F⟩
